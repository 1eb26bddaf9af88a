import PyProof.Rows.All
import Wide.All
import OpenK.AllK
import Wide.FinOn
import Lean
import PyProof.EqAt
import PyProof.EqKinds
import PyProof.TupleCall
import PyProof.NeKinds
import PyProof.Rows.Range3
import PyProof.FitsBits
import PyProof.StationsW
import PyProof.NsDelKeeps
import PyProof.Rows.CatchOwn
import KE.KTryMore
import PyProof.ExcArgsOwn
import PyProof.ExcAttrAll.ValueError
import OpenK.KOwn
import PyProof.ZipIter
import PyProof.WalksEnum
import PyProof.EnumMake
import KE.KIntText
import PyProof.Conv_int
import PyProof.StrWalks
import PyProof.StrLawsFirst
import KE.KLam
import KE.KNestM
import KE.KRevIter
import PyProof.ListRange
import PyProof.Rows.SortWalk
import PyProof.Rows.SetFrom
import PyProof.FactsAll.set
import PyProof.Rows.SeqMore
import PyProof.FString
import PySem.Challenge.RW_mendfield_k63_whole_root_counts
open Array renaming append_assoc→o6,length_toList→sT,getElem?_eq_some_iff→HC,toList_append→Px
open Bool renaming and_eq_true→di,false_ne_true→gh,true_and→kr,and_true→kz,or_true→l8,eq_iff_iff→pB,false_and→sU,or_false→sW,not_false→xC,not_true→xD,true_or→xE,false_or→xF,false_eq_true→xG,and_false→Hv
open Decidable renaming byContradiction→PH
open False renaming elim→eC
open ForInStep renaming yield→z5
open Int renaming toNat→gn,emod_nonneg→iN,natAbs_natCast→js,toNat_natCast→jQ,emod_lt_of_pos→jR,toNat_of_nonneg→pG,natCast_mul→tI,mul_one→w4,natCast_emod→xo,emod_eq_of_lt→Am,natCast_nonneg→Ht,zero_add→HK,natCast_add→HN,add_mul→HX,mul_sub→HY,pow_one→Ib,fdiv_eq_ediv_of_nonneg→Ph
open List renaming range→au,replicate→aK,getElem?_eq_getElem→aR,getD_eq_getElem?_getD→aV,mem_range→bP,length_map→bQ,mem_cons→bR,map_cons→bV,mem_append→cB,mem_map→cC,getElem?_map→cJ,length_range→cK,size_toArray→cO,map_map→cV,mem_append_right→dg,all_cons→dh,all_eq_true→dj,mem_cons_of_mem→dJ,append_assoc→dR,lookup_cons→eD,mem_append_left→eH,mem_cons_self→eP,getElem_mem→eQ,zipWith→eR,append_nil→e7,length_cons→fw,length_replicate→fA,not_mem_nil→gj,map_congr_left→gk,getElem?_eq_none→ie,nodup_cons→iK,map_nil→iM,getElem?_eq_some_iff→ji,length_append→jj,mem_singleton→jl,getElem_of_mem→jm,map_append→jo,set_cons_zero→jq,set_cons_succ→jr,lookup→jP,cons.inj→ku,getElem?_range→ky,sum_cons→kA,mem_filter→lY,flatten_cons→l6,perm_append_comm→l7,length_set→mY,replicate_succ→mZ,all_map→m8,getElem?_set_ne→o7,length_take→o9,mem_of_getElem?→pd,length_drop→pf,foldl_cons→pj,nil_append→pk,all_nil→pF,length_zipWith→pH,take_add_one→sZ,cons_append→s9,length_nil→tE,getElem?_cons_zero→tF,getElem?_cons_succ→tG,filterMap_cons→wZ,of_mem_zip→w6,getElem?_replicate→w9,append_eq_nil_iff→xi,mem_replicate→xj,mem_of_mem_drop→xk,getElem?_zipWith→xp,getElem_map→xt,countP_cons→xv,countP_congr→xw,cons.injEq→xB,map_replicate→xH,getElem?_set_self→zP,length→zR,getElem?_append_right→zS,getElem?_append_left→zT,take_length→Ab,append_inj→Ac,take_of_length_le→Ad,mem_flatten→Ae,mem_of_mem_take→Ag,map→Ah,map_zipWith→Ai,getElem?_mapIdx→Aj,mem_map_of_mem→Al,foldl_append→Ao,range_succ→Ap,contains_iff_mem→Aq,pairwise_iff_getElem→As,nodup_range→Au,countP_eq_length_filter→Av,countP_map→Aw,Sublist.refl→HE,set_set→HF,range_succ_eq_map→HG,ext_getElem?→HI,drop_eq_nil_of_le→HJ,mem_or_eq_of_mem_set→HL,ext_getElem→HP,map_set→HQ,length_zip→HR,sublist_cons_self→HS,getElem_range→HV,length_eq_countP_add_countP→HW,count_cons→HZ,countP→Ia,mem_filterMap→Pg,length_singleton→Pk,set_eq_of_length_le→Pq,eq_nil_iff_forall_not_mem→Pr,filter_eq_self→Pt,mem_of_find?_eq_some→Pu,getElem?_take→Pw,zip_cons_cons→Py,findIdx_lt_length_of_exists→Pz,findIdx?_eq_some_iff_getElem→PB,findIdx?_eq_none_iff→PC,Pairwise.filter→PD,length_filter_le→PF,eq_replicate_iff→PJ,count_le_length→PK,countP_flatten→PL
open Nat renaming le_refl→bI,lt_of_lt_of_le→cA,le_trans→dH,ne_of_lt→eO,lt_irrefl→fv,shiftLeft_eq→jk,mul_comm→km,testBit_xor→kn,lt_of_le_of_lt→kq,zero_le→mW,pow_succ→m3,xor_zero→m4,zero_xor→m5,mul_assoc→m6,xor_assoc→pq,add_comm→sX,two_pow_pos→sY,min_self→s8,not_lt→tf,mul_mod→tu,one_mul→tw,mod_lt→tD,le_of_lt→wY,pow_le_pow_right→xb,eq_of_testBit_eq→xf,testBit_zero→xg,xor_self→xh,mod_eq_of_lt→xm,zero_mul→xn,le_of_succ_le→xq,succ.inj→xu,le_of_eq→zQ,testBit_lt_two_pow→zX,testBit_succ→zY,strongRecOn→zZ,mod_add_mod→Ak,add_mul→An,one_shiftLeft→AA,ne_of_gt→Hs,lt_succ_self→Hu,le_of_not_lt→Hw,pow_one→Hx,xor_comm→Hy,pow_zero→Hz,testBit_and→HA,add_assoc→HH,mod_mod→HM,lt_or_ge→HU,testBit_eq_decide_div_mod_eq→Pl,shiftLeft_xor_distrib→Pm,mul_lt_mul_right→Pn,testBit_shiftLeft→Po,shiftRight_eq_div_pow→Pp
open Ne renaming symm→dP
open Option renaming some.inj→cN,getD_none→ph,getD_some→pE,some.injEq→tH,map_some→xx,map_none→xy,map_eq_some_iff→Af,isSome_iff_exists→Pj
open Or renaming inl→av,inr→bw
open PyProof renaming Rows.callWith_type1→w5
open PySem renaming Heap.lt_size→bK,Value.ref→dG,Heap.get?_push_of_some→dQ,PassesOwn.never→fc,Heap.get?_push_size→gi,Builtin.bitXor→lZ,Value.none→mU,Builtin.bitAnd→mV,Heap.get?_update_other→mX,Value.int→sS,Heap.size_push→sV,Obj.mapSeq→xa,Value.bool→zO,Heap.get?_update_self→zU,SeqAt.EqAt→zV,Builtin.List.listTooLong→zW,Obj.data_mapFields→z7,Value.type.inj→z9,Builtin.Str.strSliceIndices→Aa,NameKind.cell→Ar,Obj.isFreed_of_fields→HB,Heap.MadeExcOf→HD,Calls.Name_function_global→Pf
open Sum renaming inl→oY,inr→oZ
open True renaming intro→o8
set_option Elab.async false
set_option linter.all false
set_option maxRecDepth 100000
local macro_rules | `(tactic| omega)=>`(tactic| lia)
namespace L2
open PySem PySem.Spec PyProof.Rows
noncomputable abbrev Key:=Sum Int Str
noncomputable def Ic:Key->Value->Bool
 | .inl k,v=>Value.isInt k v
 | .inr x,v=>Value.isStrOf x v
noncomputable def PM(w:World):Key->Int
 | .inl k=>hashInt k
 | .inr x=>hashStr w x
theorem kB:∀{k:Key} {v:Value},Ic k v=true->(∃i t,k=oY i/\v=sS i t)\/(∃x t,k=oZ x/\v=Value.str x t)
 | .inl i,v,h=>by
  obtain⟨t,e⟩:=Value.isInt_shape (k:=i) (v:=v) h
  exact .inl ⟨i,t,rfl,e⟩
 | .inr x,v,h=>by
  obtain⟨t,e⟩:=Value.isStrOf_shape (x:=x) (v:=v) h
  exact .inr ⟨x,t,rfl,e⟩
theorem PN(a b:Int):decide ((oY a:Key)=oY b)=(a==b):=by
 by_cases e:a=b
 ·subst e;simp
 ·have h:¬ (oY a:Key)=oY b:=λq=>e (Sum.inl.inj q)
  rw[decide_eq_false h]
  exact(beq_eq_false_iff_ne.mpr e).symm
theorem PQ(a b:Str):decide ((oZ a:Key)=oZ b)=decide (a=b):=by
 by_cases e:a=b
 ·subst e;simp
 ·have h:¬ (oZ a:Key)=oZ b:=λq=>e (Sum.inr.inj q)
  rw[decide_eq_false h,decide_eq_false e]
theorem PR(a:Int)(b:Str):decide ((oY a:Key)=oZ b)=false:=decide_eq_false (λq=>nomatch q)
theorem PU(a:Str)(b:Int):decide ((oZ a:Key)=oY b)=false:=decide_eq_false (λq=>nomatch q)
noncomputable def Ie(prog:Program)(w:World):PySem.KeyKind prog w Key where
 is:=Ic
 hash:=PM w
 inj:=λv a b ha hb=>by
  rcases kB ha with⟨i,t,rfl,rfl⟩ | ⟨x,t,rfl,rfl⟩
  ·rcases kB hb with⟨j,u,rfl,e⟩ | ⟨y,u,rfl,e⟩
   ·injection e with e1 _;rw[e1]
   ·exact nomatch e
  ·rcases kB hb with⟨j,u,rfl,e⟩ | ⟨y,u,rfl,e⟩
   ·exact nomatch e
   ·injection e with e1 _;rw[e1]
 byValue:=λk v h=>by
  rcases kB h with⟨i,t,rfl,rfl⟩ | ⟨x,t,rfl,rfl⟩<;>rfl
 pyHash:=λhv h=>by
  rcases kB hv with⟨i,t,rfl,rfl⟩ | ⟨x,t,rfl,rfl⟩
  ·exact wpAny_pyHash_int h
  ·exact wpAny_pyHash_str h
 eqBool:=λhu hv h=>by
  rcases kB hu with⟨i,t,rfl,rfl⟩ | ⟨x,t,rfl,rfl⟩
  ·rcases kB hv with⟨j,u,rfl,rfl⟩ | ⟨y,u,rfl,rfl⟩
   ·rw[PN]at h;exact wpAny_eqBool_int h
   ·rw[PR]at h;exact SeqAt.EqAt.int_str i t y u _ _ _ _ h
  ·rcases kB hv with⟨j,u,rfl,rfl⟩ | ⟨y,u,rfl,rfl⟩
   ·rw[PU]at h;exact SeqAt.EqAt.str_int x t j u _ _ _ _ h
   ·rw[PQ]at h;exact wpAny_eqBool_str h
 «strs»:=λk x t v h=>by
  rcases kB h with⟨i,u,rfl,e⟩ | ⟨y,u,rfl,e⟩
  ·exact nomatch e
  ·injection e with e1 _
   subst e1
   cases v<;>rfl
end L2
namespace L2
open PySem PySem.Spec PyProof.Rows
inductive V where
 | ak | bl (b:Bool) | int (i:Int) | str (x:Str) | xI (b:Array UInt8) | m9 (b:UInt64) | ref (a:Addr) | ty (n:String)
 deriving DecidableEq
noncomputable def RelV:V->Value->Prop
 | .ak,u=>u=mU
 | .bl b,u=>u=zO b
 | .int i,u=>∃t,u=sS i t
 | .str x,u=>∃t,u=Value.str x t
 | .xI b,u=>∃t,u=Value.bytes b t
 | .m9 b,u=>∃t,u=Value.float b t
 | .ref a,u=>u=dG a
 | .ty n,u=>u=Value.type n
noncomputable abbrev Vals:List V->List Value->Prop:=Paired RelV
theorem Vals.length{xs:List V}{us:List Value}(r:Vals xs us):xs.length=us.length:=Paired.length r
theorem Vals.get:∀{xs:List V} {us:List Value} {i:Nat} {x:V},Vals xs us->xs[i]?=some x->∃u,us[i]?=some u/\RelV x u
 | _,_,_,_,.nil,e=>by simp at e
 | _,_,0,_,.cons r _,e=>by simp at e;subst e;exact⟨_,rfl,r⟩
 | _,_,i+1,x,.cons _ t,e=>by
  obtain⟨u,h1,h2⟩:=Vals.get (i:=i) (x:=x) t (by simpa using e)
  exact⟨u,by simpa using h1,h2⟩
theorem Vals.set{x:V}{u:Value}(r:RelV x u):∀{xs:List V} {us:List Value} (i:Nat),Vals xs us->Vals (xs.set i x) (us.set i u)
 | _,_,_,.nil=>.nil
 | _,_,0,.cons _ t=>.cons r t
 | _,_,i+1,.cons q t=>.cons q (Vals.set r i t)
theorem Vals.append:∀{xs ys:List V} {us ws:List Value},Vals xs us->Vals ys ws->Vals (xs++ys) (us++ws)
 | _,_,_,_,.nil,s=>s
 | _,_,_,_,.cons r t,s=>.cons r (Vals.append t s)
theorem Vals.take:∀{xs:List V} {us:List Value} (n:Nat),Vals xs us->Vals (xs.take n) (us.take n)
 | _,_,0,_=>.nil
 | _,_,_+1,.nil=>.nil
 | _,_,n+1,.cons r t=>.cons r (Vals.take n t)
theorem Vals.drop:∀{xs:List V} {us:List Value} (n:Nat),Vals xs us->Vals (xs.drop n) (us.drop n)
 | _,_,0,r=>r
 | _,_,_+1,.nil=>.nil
 | _,_,n+1,.cons _ t=>Vals.drop n t
noncomputable def jS:Option V->Option Value->Prop
 | some v,some u=>RelV v u
 | none,none=>True
 | _,_=>False
noncomputable def KV{κ:Type}:List (κ × V)->List (κ × Value)->Prop:=Paired λ(p:κ × V) (q:κ × Value)=>p.1=q.1/\RelV p.2 q.2
noncomputable def kV:Key->V
 | .inl i=>.int i
 | .inr x=>.str x
inductive HO where
 | lst (xs:List V)
 | tup (xs:List V)
 | dK (cQ:List (Key × V)) | dT (cQ:List (List Key × V))
 | set (S:Int->Bool) (n:Nat)
 | ins (C dx:Addr) (fs:List (Str × V))
 | own (x:Addr)
 | xd (fs:List (Str × V))
 | met (f x:Addr)
 | tJ (lo hi:Int)
 | bc (o:Obj) (u:HO)
 | cL (ps:Array Value)
 | ext (φ:Heap->Prop)
noncomputable abbrev Hp:=Addr->Option HO
noncomputable def upd(H:Hp)(a:Addr)(o:HO):Hp:=λb=>if b=a then some o else H b
theorem bC{H:Hp}{a:Addr}{o:HO}:upd H a o a=some o:=by unfold upd;rw[if_pos rfl]
theorem aS{H:Hp}{a b:Addr}{o:HO}(h:b≠a):upd H a o b=H b:=by unfold upd;rw[if_neg h]
theorem dk{H:Hp}{a b:Addr}{o:HO}(h:H a=some o)(h':H b=none):a≠b:=by
 intro e;subst e;rw[h]at h';cases h'
section
variable(P:Program)(w:World)
noncomputable def c9(H:Hp)(h:Heap)(a:Addr):HO->Prop
 | .lst xs=>xs.length<=sizeLine/\∃(its:List Value) (n:Nat),Vals xs its/\h.get? a=some { cls:=.type "list",data:=.seq its.toArray n }
 | .tup xs=>xs.length<=sizeLine/\∃its:List Value,Vals xs its/\IsTup h a its.toArray
 | .dK cQ=>cQ.length<=sizeLine/\(a==sysModules)=false/\∃vs,KV cQ vs/\h.DictOf (Ie P w) a vs
 | .dT cQ=>cQ.length<=sizeLine/\(a==sysModules)=false/\∃xs:List (List Key × Addr × Value),
   Paired (λ(p:List Key × V) (q:List Key × Addr × Value)=>p.1=q.1/\H q.2.1=some (.tup (p.1.map kV))/\RelV p.2 q.2.2) cQ xs /\
   ∃o es ep,h.get? a=some o/\o.ExactDict/\o.data=.dict es ep/\es.toList=xs.map (entryOfKey (tupleKind (Ie P w)))/\(xs.map (·.1)).Nodup
 | .set S n=>h.SetOf (intKind P w) a S n
 | .ins C dx fs=>H dx=some (.own a)/\fs.length<=1000/\dx≠a/\h.get? a=some (PySem.W.instObj C dx) /\
   ∃mA,h.Ns1 dx mA/\(∀f,jS (fs.lookup f) (mA f))/\PySem.Within mA (fs.map (·.1))
 | .own _=>∃o,h.get? a=some o
 | .xd fs=>∃mA,h.Ns1 a mA/\∀f,jS (fs.lookup f) (mA f)
 | .tJ lo hi=>∃t u v,h.get? a=some { cls:=.type "range",data:=.fields #[.int lo t,.int hi u,.int 1 v] }
 | .bc o u=>h.get? a=some o/\c9 H h a u
 | .cL ps=>h.get? a=some { cls:=.none,data:=.fields ps }/\TriplesOk ps.toList/\∀pos cv,codeAmong pos ps.toList=some cv->∃c φ,cv=.ref c/\H c=some (.ext φ)/\∀h',φ h'->∃q,h'.CodeRec (.ref c) q
 | .met f x=>h.get? a=some (PySem.W.methodObj (.ref f) (.ref x))
 | .ext φ=>φ h/\(∃o,h.get? a=some o)/\∀h1 h2:Heap,φ h1->(∀b o,(b=a\/H b=some (.own a))->h1.get? b=some o->h2.get? b=some o)->φ h2
noncomputable def bZ(H:Hp)(h:Heap):Prop:=∀a o,H a=some o->c9 P w H h a o
end
section
variable{P:Program}{w:World}{H H':Hp}{h h':Heap}{a:Addr}{o:HO}
theorem c9.lt(x:c9 P w H h a o):a<h.objs.size:=by
 cases o with
 | lst xs=>obtain⟨_,_,_,_,e⟩:=x;exact bK e
 | tup xs=>obtain⟨_,_,_,p⟩:=x;exact p.lt
 | dK cQ=>obtain⟨_,_,_,_,o,_,_,e,_⟩:=x;exact bK e
 | dT cQ=>obtain⟨_,_,_,_,o,_,_,e,_⟩:=x;exact bK e
 | set S n=>obtain⟨o,_,_,_,e,_⟩:=x;exact bK e
 | ins C dx fs=>obtain⟨_,_,_,e,_⟩:=x;exact bK e
 | own y=>obtain⟨_,e⟩:=x;exact bK e
 | xd fs=>obtain⟨_,⟨_,_,_,e,_⟩,_⟩:=x;exact bK e
 | tJ lo hi=>obtain⟨_,_,_,e⟩:=x;exact bK e
 | bc ob u=>obtain⟨e,_⟩:=x;exact bK e
 | cL ps=>exact bK (show h.get? a=some _ from x.1)
 | met f y=>exact bK (show h.get? a=some _ from x)
 | ext φ=>obtain⟨_,⟨_,e⟩,_⟩:=x;exact bK e
theorem Paired.AB{α β:Type}{F G:α->β->Prop}:∀{l₁:List α} {l₂:List β},Paired F l₁ l₂->(∀a b,F a b->G a b)->Paired G l₁ l₂
 | _,_,.nil,_=>.nil
 | _,_,.cons r t,f=>.cons (f _ _ r) (Paired.AB t f)
theorem c9.jt(x:c9 P w H h a o)(k:∀b u,(b=a\/H b=some (.own a))->h.get? b=some u->h'.get? b=some u)
  (ho:∀b,H b=some (.own a)->H' b=some (.own a)) (ht:∀b xs,H b=some (.tup xs)->H' b=some (.tup xs)) (hx:∀b φ,H b=some (.ext φ)->H' b=some (.ext φ)):c9 P w H' h' a o:=by
 induction o with
 | lst xs=>obtain⟨z,its,n,r,e⟩:=x;exact⟨z,its,n,r,k _ _ (.inl rfl) e⟩
 | tup xs=>obtain⟨z,its,r,ob,e,c⟩:=x;exact⟨z,its,r,ob,k _ _ (.inl rfl) e,c⟩
 | dK cQ=>obtain⟨z,y,vs,r,ob,es,ep,e,c⟩:=x;exact⟨z,y,vs,r,ob,es,ep,k _ _ (.inl rfl) e,c⟩
 | dT cQ =>
  obtain⟨z,y,xs,r,ob,es,ep,e,c⟩:=x
  exact⟨z,y,xs,Paired.AB r λp q z=>⟨z.1,ht _ _ z.2.1,z.2.2⟩,ob,es,ep,k _ _ (.inl rfl) e,c⟩
 | set S n=>obtain⟨ob,es,ep,t,e,c⟩:=x;exact⟨ob,es,ep,t,k _ _ (.inl rfl) e,c⟩
 | ins C dx fs =>
  obtain⟨d,z,ne,e,mA,⟨od,es,ep,e2,c⟩,r⟩:=x
  exact⟨ho _ d,z,ne,k _ _ (.inl rfl) e,mA,⟨od,es,ep,k _ _ (.inr d) e2,c⟩,r⟩
 | own y=>obtain⟨ob,e⟩:=x;exact⟨ob,k _ _ (.inl rfl) e⟩
 | xd fs=>obtain⟨mA,⟨od,es,ep,e,c⟩,r⟩:=x;exact⟨mA,⟨od,es,ep,k _ _ (.inl rfl) e,c⟩,r⟩
 | tJ lo hi=>obtain⟨t,u,v,e⟩:=x;exact⟨t,u,v,k _ _ (.inl rfl) e⟩
 | bc ob u ih=>obtain⟨e,q⟩:=x;exact⟨k _ _ (.inl rfl) e,ih q⟩
 | cL ps =>
  obtain⟨e,t,c⟩:=x
  refine⟨k a _ (.inl rfl) e,t,λpos cv q=>?_⟩
  obtain⟨d,φ,e1,e2,e3⟩:=c pos cv q
  exact⟨d,φ,e1,hx _ _ e2,e3⟩
 | met f y =>
  have e:h.get? a=some (PySem.W.methodObj (.ref f) (.ref y)):=x
  show h'.get? a=some (PySem.W.methodObj (.ref f) (.ref y))
  exact k a _ (.inl rfl) e
 | ext φ=>obtain⟨p,⟨o,e⟩,st⟩:=x;exact⟨st _ _ p λb o hb q=>k _ _ hb q,⟨o,k _ _ (.inl rfl) e⟩,λh1 h2 p1 kk=>st h1 h2 p1 λb o hb q=>kk b o (hb.imp id (ho b)) q⟩
theorem bZ.lt(x:bZ P w H h)(e:H a=some o):a<h.objs.size:=(x a o e).lt
theorem bZ.fresh(x:bZ P w H h)(e:h.objs.size<=a):H a=none:=by
 cases q:H a with
 | none=>rfl
 | some u=>exact absurd (cA (x.lt q) e) (fv _)
theorem bZ.kept(x:bZ P w H h)(k:∀b u,h.get? b=some u->h'.get? b=some u):bZ P w H h':=λa o e =>
 (x a o e).jt (λb u _ q=>k b u q) (λ_ q=>q) (λ_ _ q=>q) λ_ _ q=>q
theorem bZ.laid(x:bZ P w H h)(k:∀b u,h.get? b=some u->h'.get? b=some u)(hp:h.objs.size<=a)(new:c9 P w (upd H a o) h' a o):bZ P w (upd H a o) h':=λb u e=>by
 have hn:=x.fresh hp
 by_cases hb:b=a
 ·subst hb;rw[bC]at e;cases e;exact new
 ·rw[aS hb]at e
  exact(x b u e).jt (λc v _ q=>k c v q) (λc q=>by rw[aS (dk q hn)];exact q) (λc xs q=>by rw[aS (dk q hn)];exact q) λc xs q=>by rw[aS (dk q hn)];exact q
end
noncomputable def Rd(H:Hp)(a:Addr)(u:HO):Prop:=H a=some u\/∃o,H a=some (.bc o u)
theorem Rd.ok{P:Program}{w:World}{H:Hp}{h:Heap}{a:Addr}{u:HO}(r:Rd H a u)(x:bZ P w H h):c9 P w H h a u:=by
 rcases r with r | ⟨o,r⟩
 ·exact x a u r
 ·obtain⟨_,q⟩:=x a _ r
  exact q
noncomputable def xJ:Option HO->Prop
 | some (.lst _)=>True
 | some (.dK _)=>True
 | some (.dT _)=>True
 | some (.set _ _)=>True
 | some (.ins _ _ _)=>True
 | _=>False
section
variable{P:Program}{w:World}{H:Hp}{h h':Heap}{x e:Addr}{o':HO}
theorem bZ.write(ok:bZ P w H h)(mu:xJ (H x))(he:e=x\/H e=some (.own x))(k:∀b u,b≠e->h.get? b=some u->h'.get? b=some u)(pI:∃u,h'.get? e=some u)
  (new:c9 P w (upd H x o') h' x o'):bZ P w (upd H x o') h':=λb u q=>by
 have Ig:∀c y,H c=some (.own y)->c≠x:=λc y r z=>by subst z;rw[r]at mu;exact mu
 have PV:∀c xs,H c=some (.tup xs)->c≠x:=λc xs r z=>by subst z;rw[r]at mu;exact mu
 by_cases hb:b=x
 ·subst hb;rw[bC]at q;cases q;exact new
 ·rw[aS hb]at q
  by_cases nh:b=e
  ·have q':H b=some (.own x):=by
    rcases he with z | z
    ·exact absurd (nh.trans z) hb
    ·rw[nh];exact z
   rw[q]at q';cases q'
   obtain⟨v,hv⟩:=pI
   exact⟨v,by rw[nh];exact hv⟩
  ·refine(ok b u q).jt (λc v hc r=>k c v ?_ r) (λc r=>by rw[aS (Ig c b r)];exact r) (λc xs r=>by rw[aS (PV c xs r)];exact r) λc φ r=>by rw[aS (λz=>by rw[z]at r;rw[r]at mu;exact mu)];exact r
   rcases hc with rfl | hc
   ·exact nh
   ·rintro rfl
    rcases he with z | z
    ·exact Ig c b hc z
    ·rw[hc]at z;cases z;exact hb rfl
end
structure Un(fs ex:List Addr)(H H':Hp)(h h':Heap):Prop where
 keep:∀b o,h.get? b=some o->H b=none->b ∉ fs->b ∉ ex->h'.get? b=some o
 slot:∀b o,h.get? b=some o->H b=none->b∈fs->b ∉ ex->∃sl,h'.get? b=some { o with slots:=sl }
 free:∀b o,h.get? b=some o->H b=none->b ∉ ex->H' b=none
 there:∀b o,h.get? b=some o->b ∉ ex->∃o',h'.get? b=some o'
 iO:∀b xs,H b=some (.tup xs)->H' b=some (.tup xs)
 ig:∀b o u,H b=some (.bc o u)->H' b=some (.bc o u)
 gq:∀b ps,H b=some (.cL ps)->∃more,H' b=some (.cL (ps++more))
section
variable{fs fs' ex ex':List Addr}{H H1 H2:Hp}{h h1 h2 h':Heap}{a x e:Addr}{o:HO}
theorem Un.any(u:Un fs ex H H1 h h1){b:Addr}{ob:Obj}(q:h.get? b=some ob)(n:H b=none)(hx:b ∉ ex):∃sl,h1.get? b=some { ob with slots:=sl }:=by
 by_cases hb:b∈fs
 ·exact u.slot b ob q n hb hx
 ·exact⟨ob.slots,u.keep b ob q n hb hx⟩
theorem Un.kept(k:∀b u,h.get? b=some u->h'.get? b=some u):Un fs ex H H h h' :=
 ⟨λb ob q _ _ _=>k b ob q,λb ob q _ _ _=>⟨ob.slots,k b ob q⟩,λ_ _ _ n _=>n,λb ob q _=>⟨ob,k b ob q⟩,λ_ _ q=>q,λ_ _ _ q=>q,λ_ ps q=>⟨#[],by rw[q];simp⟩⟩
theorem Un.refl:Un fs ex H H h h:=Un.kept λ_ _ q=>q
theorem Un.laid(k:∀b u,h.get? b=some u->h'.get? b=some u)(hp:h.objs.size<=a)(hn:H a=none):Un fs ex H (upd H a o) h h' where
 keep:=λb u q _ _ _=>k b u q
 slot:=λb u q _ _ _=>⟨u.slots,k b u q⟩
 free:=λb u q n _=>by rw[aS (eO (cA (bK q) hp))];exact n
 there:=λb u q _=>⟨u,k b u q⟩
 iO:=λb xs q=>by rw[aS (dk q hn)];exact q
 ig:=λb u xs q=>by rw[aS (dk q hn)];exact q
 gq:=λb ps q=>⟨#[],by rw[aS (dk q hn),q];simp⟩
theorem Un.write(mu:xJ (H x))(he:e=x\/H e=some (.own x))(k:∀b u,b≠e->h.get? b=some u->h'.get? b=some u)(pI:∃u,h'.get? e=some u):Un fs ex H (upd H x o) h h':=by
 have hx:∀b,H b=none->b≠x:=λb n z=>by subst z;rw[n]at mu;exact mu
 have hb:∀b,H b=none->b≠e:=λb n z=>by
  subst z
  rcases he with r | r
  ·exact hx b n r
  ·rw[n]at r;cases r
 have hm:∀b u,H b=some u->¬ xJ (some u)->b≠x:=λb u q nm z=>by subst z;rw[q]at mu;exact nm mu
 refine⟨λb u q n _ _=>k b u (hb b n) q,λb u q n _ _=>⟨u.slots,k b u (hb b n) q⟩,λb u q n _=>by rw[aS (hx b n)];exact n,λb u q _=>?_,
  λb xs q=>by rw[aS (hm b _ q λz=>z)];exact q,λb u xs q=>by rw[aS (hm b _ q λz=>z)];exact q,λb ps q=>⟨#[],by rw[aS (hm b _ q λz=>z),q];simp⟩⟩
 by_cases nh:b=e
 ·subst nh;exact pI
 ·exact⟨u,k b u nh q⟩
end
noncomputable def xK(h:Heap)(H:Hp):List Addr:=(au h.objs.size).filter λa=>(H a).isSome
noncomputable def jT(h:Heap)(H:Hp):Heap:=PySem.W.hideAll h (xK h H)
theorem PX(h:Heap)(H:Hp):(jT h H).objs.size=h.objs.size:=PySem.W.hideAll_size _ _
theorem PY{h:Heap}{H:Hp}{b:Addr}{o:Obj}(e:h.get? b=some o)(n:H b=none):(jT h H).get? b=some o :=
 PySem.W.hideAll_get _ e λhm=>by
  have q:(H b).isSome=true:=(lY.mp hm).2
  rw[n]at q;simp at q
theorem PZ{h:Heap}{H:Hp}{b:Addr}{o:Obj}(e:(jT h H).get? b=some o):h.get? b=some o/\H b=none:=by
 have e':h.get? b=some o:=PySem.W.of_hideAll (xK h H) e
 refine⟨e',?_⟩
 cases q:H b with
 | none=>rfl
 | some x =>
  have hm:b∈xK h H:=lY.mpr ⟨bP.mpr (bK e'),by simp[q]⟩
  have z:(jT h H).get? b=none:=PySem.W.hideAll_none (xK h H) hm
  rw[z]at e;cases e
end L2
namespace L2
open PySem PySem.Spec PyProof.Rows
structure Mod(K:PySem.W.Frag)(mg:Str->Option Value)(base:Heap):Prop where
 kC:K.In base
 glob:base.Ns mainGlobals mg
 blt:∃mb,base.Ns builtinsNs mb/\∀x:Str,x≠"__name__"->mb x=bootBuiltins x
 nolimit:base.NoLimit
structure Cx where
 prog:Program
 w:World
 K:PySem.W.Frag
 mg:Str->Option Value
 base:Heap
 A:Around
 N:List Str
 b8:Shared
 iP:Hp
 env:Env
 outer:List Env
 stack:List Env
 ex:List Addr
 fn:Str->Bool
 calm:Bool
 pn:List (Addr × Obj)
 xe:Value->Shared->Prop
noncomputable def da(l:List Env):List Addr:=l.filterMap (·.frame)
noncomputable abbrev Cx.fs(X:Cx):List Addr:=da X.outer
noncomputable def ju(sc:Scope)(x:Str):Prop:=sc.names.lookup x=some .local\/sc.names.lookup x=some .cell\/sc.names.lookup x=some .free
noncomputable def Loc(sc:Scope)(x:Str):Prop:=sc.names.lookup x=some .local\/sc.names.lookup x=some .cell
noncomputable def P0(env:Env)(h:Heap)(m:Str->Option Value)(x:Str)(u:Value):Prop :=
 (env.kindOf x=some .local/\m x=some u)\/((env.kindOf x=some .cell\/env.kindOf x=some .free)/\∃c,env.cells.lookup x=some c/\h.IsCell c (some u))
structure Cx.Ok(X:Cx):Prop where
 mod:Mod X.K X.mg X.base
 kind:X.env.scope.kind=.function
 glob:X.env.globals=mainGlobals
 blt:X.env.builtins=builtinsNs
 above:X.b8.heap.objs.size<=X.env.locals
 inj:∀x y c,X.env.cells.lookup x=some c->X.env.cells.lookup y=some c->x=y
 has:∀x,(X.env.kindOf x=some .cell\/X.env.kindOf x=some .free)->∃c,X.env.cells.lookup x=some c
 ni:∀x c,X.fn x=true->X.env.cells.lookup x=some c->X.b8.heap.objs.size<=c
 hd:X.calm=true->X.A.handled=none
 frames:X.A.frames=some X.stack
 tK:X.stack=X.outer\/(X.stack=X.env::X.outer/\X.env.frame=some X.env.locals)
 tL:∀b∈X.ex,b≠X.env.locals/\∀x c,X.env.cells.lookup x=some c->c≠b
 bs:∀b o,X.base.get? b=some o->X.b8.heap.get? b=some o/\X.iP b=none
 iQ:X.base.objs.size<=X.b8.heap.objs.size
 pJ:∀b o,X.base.get? b=some o->b ∉ X.ex
 pK:∀b∈X.ex,b ∉ X.fs
 fe:X.b8.heap.FunFrames X.base X.outer
 iS:∀b∈X.fs,X.iP b=none
structure Inv(X:Cx)(pins:List (Addr × Obj))(σ:List (Option V))(H:Hp)(s:Shared):Prop where
 ok:X.Ok
 os:s.os=X.b8.os
 bare:AllBare s.gens
 base:Un X.fs X.ex X.iP H X.b8.heap s.heap
 loc:∃m,s.heap.Ns X.env.locals m/\∀(i:Nat) (x:Str) (v:V),X.N[i]?=some x->σ[i]?=some (some v)->ju X.env.scope x->∃u,RelV v u/\P0 X.env s.heap m x u
 cell:∀x c,X.env.cells.lookup x=some c->∃v,s.heap.IsCell c v
 free:H X.env.locals=none
 ij:∀x c,X.env.cells.lookup x=some c->H c=none
 pin:∀p∈X.pn++pins,s.heap.get? p.1=some p.2/\H p.1=none/\p.1≠X.env.locals/\p.1 ∉ X.fs/\∀v,p.2.data≠.cell v
 az:bZ X.prog X.w H s.heap
 len:σ.length=X.N.length
section
variable{X:Cx}{pins:List (Addr × Obj)}{σ:List (Option V)}{H H':Hp}{s:Shared}{h':Heap}
theorem Cx.Ok.P1(ok:X.Ok){b:Addr}{o:Obj}(e:X.base.get? b=some o):b ∉ X.fs:=λhb=>by
 have:=(ok.fe.mem hb).1
 rw[e]at this;cases this
theorem Inv.bs(I:Inv X pins σ H s):∀b o,X.base.get? b=some o->s.heap.get? b=some o/\H b=none:=λb o e =>
 ⟨I.base.keep b o (I.ok.bs b o e).1 (I.ok.bs b o e).2 (I.ok.P1 e) (I.ok.pJ b o e),I.base.free b o (I.ok.bs b o e).1 (I.ok.bs b o e).2 (I.ok.pJ b o e)⟩
theorem Inv.bk(I:Inv X pins σ H s):∀b o,X.base.get? b=some o->s.heap.get? b=some o:=λb o e=>(I.bs b o e).1
theorem Inv.mod(I:Inv X pins σ H s):Mod X.K X.mg X.base:=I.ok.mod
theorem Inv.cE(I:Inv X pins σ H s):X.K.In s.heap:=I.ok.mod.kC.keeps I.bk
theorem Inv.lt(I:Inv X pins σ H s):X.env.locals<s.heap.objs.size:=let⟨_,hn,_⟩:=I.loc;hn.lt
theorem Inv.sz(I:Inv X pins σ H s):X.b8.heap.objs.size<=s.heap.objs.size:=dH I.ok.above (wY I.lt)
theorem Inv.Ih(I:Inv X pins σ H s){a:Addr}(h:s.heap.objs.size<=a):a ∉ X.fs:=λhb=>by
 obtain⟨_,o,ho,_⟩:=I.ok.fe.mem hb
 exact absurd (cA (bK ho) (dH I.sz h)) (fv _)
theorem Inv.l9(I:Inv X pins σ H s):∀x c,X.env.cells.lookup x=some c->c≠X.env.locals:=λx c e z=>by
 obtain⟨v,o,ho,hd⟩:=I.cell x c e
 obtain⟨m,⟨o',es,ep,jv,tM,_⟩,_⟩:=I.loc
 rw[z,jv]at ho;cases ho;rw[tM]at hd;cases hd
theorem Inv.fe(I:Inv X pins σ H s):s.heap.FunFrames X.base X.outer:=by
 have all:∀(l:List Env),(∀b∈da l,b∈X.fs)->X.b8.heap.FunFrames X.base l->s.heap.FunFrames X.base l:=by
  intro l
  induction l with
  | nil=>intro _ _;trivial
  | cons env r ih =>
   intro hs hl
   obtain⟨hk,⟨L,o,hf,hn,ho,hd⟩,hr⟩:=hl
   have hL:L∈X.fs:=hs L (by unfold da;rw[wZ,hf];exact eP)
   obtain⟨sl,e⟩:=I.base.slot L o ho (I.ok.iS L hL) hL λz=>I.ok.pK L z hL
   exact⟨hk,⟨L,_,hf,hn,e,hd⟩,ih (λb hb=>hs b (by unfold da;rw[wZ,hf];exact dJ _ hb)) hr⟩
 exact all X.outer (λ_ hb=>hb) I.ok.fe
theorem Inv.stack(I:Inv X pins σ H s):s.heap.FunFrames X.base X.stack:=by
 rcases I.ok.tK with e | ⟨e,hf⟩
 ·rw[e];exact I.fe
 ·rw[e]
  obtain⟨m,hn,_⟩:=I.loc
  refine .cons (by rw[I.ok.kind];decide) hf hn ?_ I.fe
  exact Heap.get?_none_of_le (dH I.ok.iQ I.ok.above)
theorem Inv.xM(I:Inv X pins σ H s):∀b∈da X.stack,b∈X.env.locals::X.fs:=λb hb=>by
 rcases I.ok.tK with e | ⟨e,hf⟩
 ·rw[e]at hb;exact dJ _ hb
 ·rw[e]at hb
  unfold da at hb
  rw[wZ,hf]at hb
  exact hb
theorem Inv.AD(I:Inv X pins σ H s):∀b∈da X.stack,H b=none:=λb hb=>by
 rcases bR.mp (I.xM b hb)with e | hb
 ·rw[e];exact I.free
 ·obtain⟨_,o,ho,_⟩:=I.ok.fe.mem hb
  exact I.base.free b o ho (I.ok.iS b hb) λz=>I.ok.pK b z hb
theorem Inv.step{g':Array GenState}{t':Nat}{d':Drawn}{ch:List Addr}(I:Inv X pins σ H s)
  (jU:∀b∈ch,(b∈X.ex\/X.b8.heap.objs.size<=b)/\b≠X.env.locals/\(∀x c,X.env.cells.lookup x=some c->c≠b)/\∀p∈X.pn++pins,p.1≠b)
  (keep:∀b o,b≠X.env.locals->b ∉ X.fs->b ∉ ch->s.heap.get? b=some o->H b=none->h'.get? b=some o)
  (slot:∀b o,b≠X.env.locals->b∈X.fs->b ∉ ch->s.heap.get? b=some o->H b=none->∃sl,h'.get? b=some { o with slots:=sl }) (free:∀b o,b ∉ ch->s.heap.get? b=some o->H b=none->H' b=none)
  (there:∀b o,b ∉ ch->s.heap.get? b=some o->∃o',h'.get? b=some o')
  (iO:∀b xs,H b=some (.tup xs)->H' b=some (.tup xs)) (ig:∀b o u,H b=some (.bc o u)->H' b=some (.bc o u)) (gq:∀b ps,H b=some (.cL ps)->∃more,H' b=some (.cL (ps++more)))
  (ns:∀m,s.heap.Ns X.env.locals m->h'.Ns X.env.locals m) (az:bZ X.prog X.w H' h') (hg:AllBare g') :
  Inv X pins σ H' { s with heap:=h',gens:=g',drawn:=d',toks:=t' }:=by
 have xN:∀b o,X.b8.heap.get? b=some o->b≠X.env.locals:=λb o e=>eO (cA (bK e) I.ok.above)
 have pL:∀b o,X.b8.heap.get? b=some o->b ∉ X.ex->b ∉ ch:=λb o e hx hb=>by
  rcases(jU b hb).1 with z | z
  ·exact hx z
  ·exact absurd (cA (bK e) z) (fv _)
 have cellK:∀x c,X.env.cells.lookup x=some c->∀v,s.heap.IsCell c v->h'.IsCell c v:=λx c e v ⟨o,ho,hd⟩=>by
  have tN:c ∉ ch:=λz=>(jU c z).2.2.1 x c e rfl
  by_cases hc:c∈X.fs
  ·obtain⟨sl,q⟩:=slot c o (I.l9 x c e) hc tN ho (I.ij x c e)
   exact⟨_,q,hd⟩
  ·exact⟨o,keep c o (I.l9 x c e) hc tN ho (I.ij x c e),hd⟩
 refine⟨I.ok,I.os,hg,⟨λb o e n hb hx=>?_,λb o e n hb hx=>?_,λb o e n hx=>?_,λb o e hx=>?_,λb xs e=>iO b xs (I.base.iO b xs e),λb o xs e=>ig b o xs (I.base.ig b o xs e),λb ps e=>?_⟩,?_,λx c e=>?_,?_,λx c e=>?_,λp hp=>?_,az,I.len⟩
 ·exact keep b o (xN b o e) hb (pL b o e hx) (I.base.keep b o e n hb hx) (I.base.free b o e n hx)
 ·obtain⟨sl,e1⟩:=I.base.slot b o e n hb hx
  obtain⟨P2,e2⟩:=slot b _ (xN b o e) hb (pL b o e hx) e1 (I.base.free b o e n hx)
  exact⟨P2,e2⟩
 ·obtain⟨o',e1⟩:=I.base.there b o e hx
  exact free b o' (pL b o e hx) e1 (I.base.free b o e n hx)
 ·obtain⟨o',e1⟩:=I.base.there b o e hx
  exact there b o' (pL b o e hx) e1
 ·obtain⟨m1,e1⟩:=I.base.gq b ps e
  obtain⟨m2,e2⟩:=gq b _ e1
  exact⟨m1++m2,by rw[e2,o6]⟩
 ·obtain⟨m,hn,hl⟩:=I.loc
  refine⟨m,ns m hn,λi x v e1 e2 e3=>?_⟩
  obtain⟨u,r,l⟩:=hl i x v e1 e2 e3
  refine⟨u,r,?_⟩
  rcases l with l | ⟨k,c,e,z⟩
  ·exact .inl l
  ·exact .inr ⟨k,c,e,cellK x c e _ z⟩
 ·obtain⟨v,z⟩:=I.cell x c e
  exact⟨v,cellK x c e v z⟩
 ·obtain⟨m,⟨o,_,_,ho,_⟩,_⟩:=I.loc
  exact free _ o (λz=>(jU _ z).2.1 rfl) ho I.free
 ·obtain⟨v,o,ho,hd⟩:=I.cell x c e
  exact free c o (λz=>(jU c z).2.2.1 x c e rfl) ho (I.ij x c e)
 ·obtain⟨e,n,ne,nf,d⟩:=I.pin p hp
  have tN:p.1 ∉ ch:=λz=>(jU p.1 z).2.2.2 p hp rfl
  exact⟨keep p.1 p.2 ne nf tN e n,free p.1 p.2 tN e n,ne,nf,d⟩
theorem Inv.un{t':Nat}(I:Inv X pins σ H s)(u:Un X.fs [] H H' s.heap h')(az:bZ X.prog X.w H' h'):Inv X pins σ H' { s with heap:=h',toks:=t' }:=by
 obtain⟨m,⟨o,es,ep,ho,r⟩,_⟩:=id I.loc
 obtain⟨sl,hL⟩:=u.any ho I.free (by simp)
 exact I.step (g':=s.gens) (d':=s.drawn) (ch:=[]) (λ_ z=>nomatch z) (λb o _ hb _ e n=>u.keep b o e n hb (by simp)) (λb o _ hb _ e n=>u.slot b o e n hb (by simp)) (λb o _ e n=>u.free b o e n (by simp)) (λb o _ e=>u.there b o e (by simp)) u.iO u.ig u.gq (λm' hm=>by
  obtain⟨o',AE,AF,jv,r'⟩:=hm
  rw[ho]at jv;cases jv
  exact⟨_,AE,AF,hL,r'⟩) az I.bare
theorem Inv.call{g':Array GenState}{t':Nat}{d':Drawn}{ch:List Addr}(I:Inv X pins σ H s)(u:Un (da X.stack) ch H H' s.heap h')(az:bZ X.prog X.w H' h')(hg:AllBare g')
  (jU:∀b∈ch,(b∈X.ex\/X.b8.heap.objs.size<=b)/\b≠X.env.locals/\(∀x c,X.env.cells.lookup x=some c->c≠b)/\∀p∈X.pn++pins,p.1≠b) :
  Inv X pins σ H' { s with heap:=h',gens:=g',drawn:=d',toks:=t' }:=by
 obtain⟨m,⟨o,es,ep,ho,r⟩,_⟩:=id I.loc
 obtain⟨sl,hL⟩:=u.any ho I.free λz=>(jU _ z).2.1 rfl
 exact I.step (ch:=ch) jU (λb o hL hb hc e n=>u.keep b o e n (λz=>(bR.mp (I.xM b z)).elim hL hb) hc) (λb o _ _ hc e n=>u.any e n hc) (λb o hc e n=>u.free b o e n hc) (λb o hc e=>u.there b o e hc) u.iO u.ig u.gq (λm' hm=>by
  obtain⟨o',AE,AF,jv,r'⟩:=hm
  rw[ho]at jv;cases jv
  exact⟨_,AE,AF,hL,r'⟩) az hg
theorem Inv.turned{t':Nat}{it:Addr}(I:Inv X pins σ H s)(k:∀b o,b≠it->s.heap.get? b=some o->h'.get? b=some o)(hn:H it=none)(hL:it≠X.env.locals)
  (h1:it∈X.ex\/X.b8.heap.objs.size<=it) (h2:∀x c,X.env.cells.lookup x=some c->c≠it) (h3:∀p∈X.pn++pins,p.1≠it):Inv X pins σ H { s with heap:=h',toks:=t' }:=by
 have mf:∀b u,H b=some u->b≠it:=λb u e z=>by rw[z,hn]at e;cases e
 refine I.step (g':=s.gens) (d':=s.drawn) (ch:=[it]) (λb hb=>?_) (λb o _ _ hc e _=>k b o (λz=>hc (by simp[z])) e) (λb o _ _ hc e _=>⟨o.slots,k b o (λz=>hc (by simp[z])) e⟩) (λ_ _ _ _ n=>n)
  (λb o hc e=>⟨o,k b o (λz=>hc (by simp[z])) e⟩) (λ_ _ e=>e) (λ_ _ _ e=>e) (λb ps e=>⟨#[],by rw[e];simp⟩) (λm hm=>?_) (λb u e=>?_) I.bare
 ·have e:b=it:=by simpa using hb
  subst e
  exact⟨h1,hL,h2,h3⟩
 ·obtain⟨o,es,ep,ho,r⟩:=hm
  exact⟨o,es,ep,k _ o (dP hL) ho,r⟩
 ·refine(I.az b u e).jt (λc v hc q=>k c v ?_ q) (λ_ q=>q) (λ_ _ q=>q) λ_ _ q=>q
  rcases hc with z | z
  ·rw[z];exact mf b u e
  ·exact mf c _ z
theorem Inv.tok(I:Inv X pins σ H s)(t:Nat):Inv X pins σ H { s with toks:=t }:=I.un (h':=s.heap) (t':=t) Un.refl I.az
theorem Inv.kept{t':Nat}(I:Inv X pins σ H s)(k:∀b u,s.heap.get? b=some u->h'.get? b=some u):Inv X pins σ H { s with heap:=h',toks:=t' }:=I.un (Un.kept k) (I.az.kept k)
theorem Inv.laid{a:Addr}{o:HO}{t':Nat}(I:Inv X pins σ H s)(k:∀b u,s.heap.get? b=some u->h'.get? b=some u)(hp:s.heap.objs.size<=a)(new:c9 X.prog X.w (upd H a o) h' a o) :
  Inv X pins σ (upd H a o) { s with heap:=h',toks:=t' }:=I.un (Un.laid k hp (I.az.fresh hp)) (I.az.laid k hp new)
theorem Inv.write{x e:Addr}{o:HO}{t':Nat}(I:Inv X pins σ H s)(mu:xJ (H x))(he:e=x\/H e=some (.own x))(k:∀b u,b≠e->s.heap.get? b=some u->h'.get? b=some u)(pI:∃u,h'.get? e=some u)
  (new:c9 X.prog X.w (upd H x o) h' x o):Inv X pins σ (upd H x o) { s with heap:=h',toks:=t' }:=I.un (Un.write mu he k pI) (I.az.write mu he k pI new)
theorem Inv.weak{ax:List (Option V)}(I:Inv X pins σ H s)(hl:ax.length=σ.length)(w:∀(i:Nat) v,ax[i]?=some (some v)->σ[i]?=some (some v)):Inv X pins ax H s :=
 ⟨I.ok,I.os,I.bare,I.base,let⟨m,hn,AG⟩:=I.loc;⟨m,hn,λi x v e1 e2 e3=>AG i x v e1 (w i v e2) e3⟩,I.cell,I.free,I.ij,I.pin,I.az,hl.trans I.len⟩
theorem Inv.Ii{AH:List (Addr × Obj)}(I:Inv X pins σ H s)(h:∀p∈AH,s.heap.get? p.1=some p.2/\H p.1=none/\p.1≠X.env.locals/\p.1 ∉ X.fs/\∀v,p.2.data≠.cell v):Inv X AH σ H s :=
 ⟨I.ok,I.os,I.bare,I.base,I.loc,I.cell,I.free,I.ij,λp hp=>(cB.mp hp).elim (λz=>I.pin p (eH _ z)) (h p),I.az,I.len⟩
theorem Ij{N:List Str}(hN:N.Nodup){i j:Nat}{x:Str}(a:N[i]?=some x)(b:N[j]?=some x):i=j:=by
 obtain⟨h1,e1⟩:=ji.mp a
 obtain⟨h2,e2⟩:=ji.mp b
 exact(List.getElem_inj hN).mp (e1.trans e2.symm)
theorem P4{M:Model}{A:Around}{E:Value->Shared->Prop}{i:Nat}{x:Str}{v:V}{u:Value}{Q:Unit->Shared->Prop}(I:Inv X pins σ H s)(hN:X.N.Nodup)(hi:X.N[i]?=some x)(hx:Loc X.env.scope x)(r:RelV v u)
  (h:∀s',Inv X pins (σ.set i (some v)) H s'->(∃a,Heap.SameBut a s.heap s'.heap/\(a=X.env.locals\/X.env.cells.lookup x=some a))->Q () s') (hf:X.fn x=true\/X.env.scope.names.lookup x=some .local:=by first | exact .inl rfl | exact .inr rfl | assumption):wpAny M A (storeName X.env x u) Q E s:=by
 obtain⟨m,hn,hl⟩:=id I.loc
 have P5:(X.env.scope.kind==.class||(X.env.scope.kind==.module&&X.env.locals != X.env.globals))=false:=by rw[I.ok.kind];rfl
 have Ik:i<σ.length:=by rw[I.len];exact(ji.mp hi).1
 have l9:=I.l9
 have tracked:∀{a:Addr} {h':Heap},(∃o,s.heap.get? a=some o/\H a=none)->Heap.SameBut a s.heap h'->bZ X.prog X.w H h':=λ{a h'} ha hs b ob e=>by
  obtain⟨_,_,Il⟩:=ha
  refine(I.az b ob e).jt (λc w' hc q=>(hs.2 c ?_).trans q) (λ_ q=>q) (λ_ _ q=>q) λ_ _ q=>q
  rintro rfl
  rcases hc with rfl | hc
  ·rw[Il]at e;cases e
  ·rw[Il]at hc;cases hc
 rcases hx with hk | hk
 ·refine wpAny_storeName_local hk hn (λh' P6 hs=>?_) P5
  obtain⟨oL,_,_,P7,_⟩:=id hn
  refine h _ ⟨I.ok,I.os,I.bare,⟨λb o e n hb hx=>?_,λb o e n hb hx=>?_,I.base.free,λb o e hx=>?_,I.base.iO,I.base.ig,I.base.gq⟩,⟨_,P6,λj y v' e1 e2 e3=>?_⟩,λy c e=>?_,I.free,I.ij,λp hp=>?_,tracked ⟨oL,P7,I.free⟩ hs,by simpa using I.len⟩ ⟨_,hs,.inl rfl⟩
  ·exact(hs.2 b (eO (cA (bK e) I.ok.above))).trans (I.base.keep b o e n hb hx)
  ·obtain⟨sl,e1⟩:=I.base.slot b o e n hb hx
   exact⟨sl,(hs.2 b (eO (cA (bK e) I.ok.above))).trans e1⟩
  ·obtain⟨o',e1⟩:=I.base.there b o e hx
   exact⟨o',(hs.2 b (eO (cA (bK e) I.ok.above))).trans e1⟩
  ·by_cases hj:j=i
   ·subst hj
    rw[hi]at e1;cases e1
    rw[zP Ik]at e2
    cases e2
    exact⟨u,r,.inl ⟨hk,by simp⟩⟩
   ·rw[o7 (dP hj)]at e2
    obtain⟨u',r',q⟩:=hl j y v' e1 e2 e3
    refine⟨u',r',?_⟩
    rcases q with⟨k,e⟩ | ⟨k,c,e,z⟩
    ·refine .inl ⟨k,?_⟩
     have:y≠x:=λe=>hj (Ij hN e1 (e ▸ hi))
     simp[this,e]
    ·exact .inr ⟨k,c,e,z.sameBut hs (l9 y c e)⟩
  ·obtain⟨w',z⟩:=I.cell y c e
   exact⟨w',z.sameBut hs (l9 y c e)⟩
  ·obtain⟨e,n,ne,nf,d⟩:=I.pin p hp
   exact⟨(hs.2 p.1 ne).trans e,n,ne,nf,d⟩
 ·have tO:X.fn x=true:=by
   rcases hf with z | z
   ·exact z
   ·rw[z]at hk;cases hk
  obtain⟨c,hc⟩:=I.ok.has x (.inl hk)
  obtain⟨w',z⟩:=I.cell x c hc
  refine wpAny_storeName_cell I.ok.kind hk hc z (λh' tP hs=>?_)
  obtain⟨oc,gL,P8⟩:=id z
  refine h { s with heap:=h' } ⟨I.ok,I.os,I.bare,⟨λb o e n hb hx=>?_,λb o e n hb hx=>?_,I.base.free,λb o e hx=>?_,I.base.iO,I.base.ig,I.base.gq⟩,⟨m,hn.sameBut hs (dP (l9 x c hc)),λj y v' e1 e2 e3=>?_⟩,λy c' e=>?_,I.free,I.ij,λp hp=>?_,tracked ⟨oc,gL,I.ij x c hc⟩ hs,by simpa using I.len⟩ ⟨c,hs,.inr hc⟩
  ·exact(hs.2 b (eO (cA (bK e) (I.ok.ni x c tO hc)))).trans (I.base.keep b o e n hb hx)
  ·obtain⟨sl,e1⟩:=I.base.slot b o e n hb hx
   exact⟨sl,(hs.2 b (eO (cA (bK e) (I.ok.ni x c tO hc)))).trans e1⟩
  ·obtain⟨o',e1⟩:=I.base.there b o e hx
   exact⟨o',(hs.2 b (eO (cA (bK e) (I.ok.ni x c tO hc)))).trans e1⟩
  ·by_cases hj:j=i
   ·subst hj
    rw[hi]at e1;cases e1
    rw[zP Ik]at e2
    cases e2
    exact⟨u,r,.inr ⟨.inl hk,c,hc,tP⟩⟩
   ·rw[o7 (dP hj)]at e2
    obtain⟨u',r',q⟩:=hl j y v' e1 e2 e3
    refine⟨u',r',?_⟩
    rcases q with q | ⟨k,c',e,z'⟩
    ·exact .inl q
    ·refine .inr ⟨k,c',e,z'.sameBut hs ?_⟩
     rintro rfl
     exact hj (Ij hN e1 (I.ok.inj _ _ _ e hc ▸ hi))
  ·by_cases Im:c'=c
   ·subst Im;exact⟨_,tP⟩
   ·obtain⟨w2,z2⟩:=I.cell y c' e
    exact⟨w2,z2.sameBut hs Im⟩
  ·obtain⟨e,n,ne,nf,d⟩:=I.pin p hp
   refine⟨(hs.2 p.1 ?_).trans e,n,ne,nf,d⟩
   intro q
   rw[q,gL]at e
   have q':oc=p.2:=cN e
   exact d w' (by rw[<-q'];exact P8)
theorem AI{M:Model}{A:Around}{E:Value->Shared->Prop}{i:Nat}{x:Str}{v:V}{u:Value}{Q:Unit->Shared->Prop}(I:Inv X pins σ H s)(hN:X.N.Nodup)(hi:X.N[i]?=some x)(hx:Loc X.env.scope x)(r:RelV v u)
  (h:∀s',Inv X pins (σ.set i (some v)) H s'->Q () s') (hf:X.fn x=true\/X.env.scope.names.lookup x=some .local:=by first | exact .inl rfl | exact .inr rfl | assumption):wpAny M A (storeName X.env x u) Q E s :=
 P4 I hN hi hx r (λs' I' _=>h s' I') hf
theorem Inv.P9{s':Shared}{ch:List Addr}(I:Inv X pins σ H s)(ho:s'.os=s.os)(u:Un (da X.stack) ch H H' s.heap s'.heap)(az:bZ X.prog X.w H' s'.heap)(hg:AllBare s'.gens)
  (jU:∀b∈ch,(b∈X.ex\/X.b8.heap.objs.size<=b)/\b≠X.env.locals/\(∀x c,X.env.cells.lookup x=some c->c≠b)/\∀p∈X.pn++pins,p.1≠b):Inv X pins σ H' s':=by
 obtain⟨h',g',d',t',o'⟩:=s'
 have e:o'=s.os:=ho
 subst e
 exact I.call (g':=g') (t':=t') (d':=d') u az hg jU
end
noncomputable abbrev XK:=Value->Option Addr->Hp->Prop
noncomputable abbrev St:=List (Option V)
noncomputable abbrev VK:=V->Hp->Prop
noncomputable abbrev TE:=St->Hp->VK->Prop
noncomputable abbrev TT:=St->Hp->(Bool->Hp->Prop)->Prop
noncomputable abbrev TA:=St->Hp->(List V->Hp->Prop)->Prop
structure Ends where
 nx:St->Hp->Prop
 rt:VK
 bk:St->Hp->Prop:=λ_ _=>False
 ct:St->Hp->Prop:=λ_ _=>False
noncomputable abbrev TS:=Ends->St->Hp->Prop
noncomputable def EP(X:Cx)(pins:List (Addr × Obj))(σ:St)(Q:VK)(u:Value)(s':Shared):Prop:=∃v H',Inv X pins σ H' s'/\RelV v u/\Q v H'
noncomputable def TP(X:Cx)(pins:List (Addr × Obj))(σ:St)(Q:Bool->Hp->Prop)(b:Bool)(s':Shared):Prop:=∃H',Inv X pins σ H' s'/\Q b H'
noncomputable def AP(X:Cx)(pins:List (Addr × Obj))(σ:St)(Q:List V->Hp->Prop)(us:List Value)(s':Shared):Prop:=∃vs H',Inv X pins σ H' s'/\Vals vs us/\Q vs H'
noncomputable def SP(X:Cx)(pins:List (Addr × Obj))(D:Ends)(f:Flow)(s':Shared):Prop :=
 match f with
 | .next=>∃ax H',Inv X pins ax H' s'/\D.nx ax H'
 | .brk=>∃ax H',Inv X pins ax H' s'/\D.bk ax H'
 | .cont=>∃ax H',Inv X pins ax H' s'/\D.ct ax H'
 | .ret u=>∃v ax H',Inv X pins ax H' s'/\RelV v u/\D.rt v H'
noncomputable def PE(X:Cx)(e:Expr)(t:TE):Prop :=
 ∀(pins:List (Addr × Obj)) (s:Shared) (σ:St) (H:Hp) (Q:VK),Inv X pins σ H s->t σ H Q->wpAny (model X.prog X.w) X.A (eval e X.env) (EP X pins σ Q) X.xe s
noncomputable def PT(X:Cx)(e:Expr)(t:TT):Prop :=
 ∀(pins:List (Addr × Obj)) (s:Shared) (σ:St) (H:Hp) (Q:Bool->Hp->Prop),Inv X pins σ H s->t σ H Q->wpAny (model X.prog X.w) X.A (isTrue e X.env (eval e X.env)) (TP X pins σ Q) X.xe s
noncomputable def PW(X:Cx)(e:Expr)(t:TT):Prop :=
 ∀(whole:Sem Value) (pins:List (Addr × Obj)) (s:Shared) (σ:St) (H:Hp) (Q:Bool->Hp->Prop),Inv X pins σ H s->t σ H Q->wpAny (model X.prog X.w) X.A (isTrue e X.env whole) (TP X pins σ Q) X.xe s
theorem PW.pt{X:Cx}{e:Expr}{t:TT}(h:PW X e t):PT X e t:=h _
noncomputable def PA(X:Cx)(es:List Expr)(t:TA):Prop :=
 ∀(pos:Pos) (pins:List (Addr × Obj)) (s:Shared) (σ:St) (H:Hp) (Q:List V->Hp->Prop),Inv X pins σ H s->t σ H Q->wpAny (model X.prog X.w) X.A (spliced (backTo pos (starEach es X.env))) (AP X pins σ Q) X.xe s
noncomputable def PS(X:Cx)(st:Stmt)(t:TS):Prop :=
 ∀(pins:List (Addr × Obj)) (s:Shared) (σ:St) (H:Hp) (D:Ends),Inv X pins σ H s->t D σ H->wpAny (model X.prog X.w) X.A (exec st X.env) (SP X pins D) X.xe s
noncomputable def PSs(X:Cx)(st:List Stmt)(t:TS):Prop :=
 ∀(pins:List (Addr × Obj)) (s:Shared) (σ:St) (H:Hp) (D:Ends),Inv X pins σ H s->t D σ H->wpAny (model X.prog X.w) X.A (execs st X.env) (SP X pins D) X.xe s
theorem aD{α:Type}{t:Sem α}{Q Q':α->Shared->Prop}{M:Model}{A:Around}{E:Value->Shared->Prop}{s:Shared}(h:wpAny M A t Q E s)(hQ:∀a s,Q a s->Q' a s):wpAny M A t Q' E s:=wpAny_mono h hQ λ_ _ x=>x
end L2
namespace L2
open PySem PySem.Spec PyProof.Rows
section
variable{X:Cx}
noncomputable def Io(i:Nat):TE:=λσ H Q=>∃v,σ[i]?=some (some v)/\Q v H
noncomputable def tC(v:V):TE:=λ_ H Q=>Q v H
theorem mh{i:Nat}{x:Str}{pos:Pos}(hN:X.N[i]?=some x)(hv:ju X.env.scope x)(hd:(x==("__debug__":Str))=false:=by decide)(bS:(x==("__classdict__":Str))=false:=by decide):PE X (.Name x pos) (Io i):=by
 intro pins s σ H Q I h
 obtain⟨v,e,h⟩:=h
 obtain⟨m,hn,hl⟩:=I.loc
 obtain⟨u,r,l⟩:=hl i x v hN e hv
 have fin:EP X pins σ Q u s:=⟨v,H,I,r,h⟩
 rcases l with⟨hk,hm⟩ | ⟨hk,c,hc,xO⟩
 ·exact wpAny_Name (wpAny_loadName_local I.ok.kind hk hn hm fin) hd
 ·rcases hk with hk | hk
  ·exact wpAny_Name (wpAny_loadName_cell I.ok.kind hk hc xO fin) hd
  ·exact wpAny_Name (wpAny_loadName_free I.ok.kind hk hc xO fin bS) hd
theorem pM{i j pos}:PE X (.Constant (.int i) j pos) (tC (.int i)):=λ_ _ _ H _ I h=>wpAny_Constant_int ⟨.int i,H,I.tok _,⟨_,rfl⟩,h⟩
theorem Qa{b j pos}:PE X (.Constant (.bool b) j pos) (tC (.bl b)):=λ_ _ _ H _ I h=>Constant_bool ⟨.bl b,H,I,rfl,h⟩
theorem Qb{j pos}:PE X (.Constant .none j pos) (tC .ak):=λ_ _ _ H _ I h=>Constant_none ⟨.ak,H,I,rfl,h⟩
theorem Qc{x j pos}:PE X (.Constant (.str x) j pos) (tC (.str x)):=λ_ _ _ H _ I h=>Calls.Constant_str ⟨.str x,H,I.tok _,⟨_,rfl⟩,h⟩
noncomputable def Gl(X:Cx)(x:Str):Prop:=X.env.kindOf x=some .globalImplicit
theorem tQ{E:Value->Shared->Prop}{pins:List (Addr × Obj)}{s:Shared}{σ:St}{H:Hp}{x:Str}{u:Value}{pos:Pos}{Q:Value->Shared->Prop}(I:Inv X pins σ H s)(hg:Gl X x)(hm:X.mg x=some u)(h:Q u s)
  (hd:(x==("__debug__":Str))=false:=by decide):wpAny (model X.prog X.w) X.A (eval (.Name x pos) X.env) Q E s :=
 Pf I.ok.kind hg (Calls.loadGlobal_global (by rw[I.ok.glob];exact I.mod.glob.keeps I.bk) hm h) hd
theorem nj{E:Value->Shared->Prop}{pins:List (Addr × Obj)}{s:Shared}{σ:St}{H:Hp}{x:Str}{u:Value}{pos:Pos}{Q:Value->Shared->Prop}(I:Inv X pins σ H s)(hg:Gl X x)(hm:X.mg x=none)(hv:bootBuiltins x=some u)(h:Q u s)
  (hn:x≠"__name__":=by decide) (hd:(x==("__debug__":Str))=false:=by decide):wpAny (model X.prog X.w) X.A (eval (.Name x pos) X.env) Q E s:=by
 obtain⟨mb,h1,h2⟩:=I.mod.blt
 exact Pf I.ok.kind hg (Calls.loadGlobal_builtin (by rw[I.ok.glob];exact I.mod.glob.keeps I.bk) hm (by rw[I.ok.blt];exact h1.keeps I.bk) ((h2 x hn).trans hv) h) hd
theorem Qe{x:Str}{v:V}{u:Value}{pos:Pos}(hg:Gl X x)(hm:X.mg x=some u)(r:RelV v u)(hd:(x==("__debug__":Str))=false:=by decide):PE X (.Name x pos) (tC v) :=
 λ_ _ _ H _ I h=>tQ I hg hm ⟨v,H,I,r,h⟩ hd
theorem Qf{x:Str}{v:V}{u:Value}{pos:Pos}(hg:Gl X x)(hm:X.mg x=none)(hv:bootBuiltins x=some u)(r:RelV v u)(hn:x≠"__name__":=by decide)(hd:(x==("__debug__":Str))=false:=by decide):PE X (.Name x pos) (tC v) :=
 λ_ _ _ H _ I h=>nj I hg hm hv ⟨v,H,I,r,h⟩ hn hd
variable{a b:Expr}{ta tb:TE}{pos:Pos}
noncomputable def tB(t:TE):TT:=λσ H Q=>t σ H λx H1=>∃c,x=.bl c/\Q c H1
theorem AJ{e:Expr}{t:TE}(h:PE X e t)(he:∀whole,isTrue e X.env whole=(do let v<-whole;standAt e.pos;holding [v] (truthy v)):=by intro _;rfl):PT X e (tB t):=by
 intro pins s σ H Q I hw
 refine isTrue_plain (aD (h pins s σ H _ I hw) λv s1 ⟨x,H1,I1,r1,q1⟩=>?_) (he _)
 obtain⟨d,rfl,q⟩:=q1
 cases r1
 exact wpAny_truthy_bool ⟨H1,I1,q⟩
variable{tA xP:TT}{rest:List Expr}
noncomputable def Qg(t u:TT):TT:=λσ H Q=>t σ H λc H1=>if c=true then u σ H1 Q else Q false H1
noncomputable def Qh(t u:TT):TT:=λσ H Q=>t σ H λc H1=>if c=true then Q true H1 else u σ H1 Q
noncomputable def Qi(t:TT):TT:=λσ H Q=>t σ H λc H1=>Q (!c) H1
theorem Qj(ha:PT X a tA):PW X (.BoolOp .And [a] pos) tA:=by
 intro wh pins s σ H Q I h
 refine isTrue_and (aD (ha pins s σ H Q I h) λc s1 e=>?_)
 cases c with
 | true=>exact isTrue_and_nil e
 | false=>exact e
theorem Qk(ha:PT X a tA):PW X (.BoolOp .Or [a] pos) tA:=by
 intro wh pins s σ H Q I h
 refine isTrue_or (aD (ha pins s σ H Q I h) λc s1 e=>?_)
 cases c with
 | false=>exact isTrue_or_nil e
 | true=>exact e
theorem Ql(ha:PT X a tA)(hb:PW X (.BoolOp .And (b::rest) pos) xP):PW X (.BoolOp .And (a::b::rest) pos) (Qg tA xP):=by
 intro wh pins s σ H Q I h
 refine isTrue_and (aD (ha pins s σ H _ I h) λc s1 ⟨H1,I1,q1⟩=>?_)
 cases c with
 | true=>exact hb wh pins s1 σ H1 Q I1 q1
 | false=>exact⟨H1,I1,q1⟩
theorem Qm(ha:PT X a tA)(hb:PW X (.BoolOp .Or (b::rest) pos) xP):PW X (.BoolOp .Or (a::b::rest) pos) (Qh tA xP):=by
 intro wh pins s σ H Q I h
 refine isTrue_or (aD (ha pins s σ H _ I h) λc s1 ⟨H1,I1,q1⟩=>?_)
 cases c with
 | true=>exact⟨H1,I1,q1⟩
 | false=>exact hb wh pins s1 σ H1 Q I1 q1
theorem AK(ha:PT X a tA):PT X (.UnaryOp .Not a pos) (Qi tA):=by
 intro pins s σ H Q I h
 exact isTrue_not (ha pins s σ H (λc H1=>Q (!c) H1) I h)
noncomputable def Qn(ta tb:TE):TE:=λσ H Q=>ta σ H λx H1=>∃c,x=.bl c/\if c=true then tb σ H1 Q else Q (.bl false) H1
noncomputable def Qo(ta:TE):TE:=λσ H Q=>ta σ H λx H1=>∃c,x=.bl c/\Q (.bl (!c)) H1
theorem xQ{op}{t:TE}(h:PE X a t):PE X (.BoolOp op [a] pos) t:=λpins s σ H Q I hw=>BoolOp_one (h pins s σ H Q I hw)
theorem Qp(ha:PE X a ta)(hb:PE X (.BoolOp .And (b::rest) pos) tb):PE X (.BoolOp .And (a::b::rest) pos) (Qn ta tb):=by
 intro pins s σ H Q I h
 refine BoolOp_and (aD (ha pins s σ H _ I h) λv s1 ⟨x,H1,I1,r1,q1⟩=>?_)
 obtain⟨c,rfl,q1⟩:=q1
 cases r1
 refine wpAny_truthy_bool ?_
 cases c with
 | true=>exact hb pins s1 σ H1 Q I1 q1
 | false=>exact⟨.bl false,H1,I1,rfl,q1⟩
theorem Qq(ha:PE X a ta):PE X (.UnaryOp .Not a pos) (Qo ta):=by
 intro pins s σ H Q I h
 refine UnaryOp_ (aD (ha pins s σ H _ I h) λv s1 ⟨x,H1,I1,r1,q1⟩=>?_)
 obtain⟨c,rfl,q1⟩:=q1
 cases r1
 exact not_of (wpAny_truthy_bool ⟨.bl (!c),H1,I1,rfl,q1⟩)
noncomputable def Qr(t:TT)(ta tb:TE):TE:=λσ H Q=>t σ H λc H1=>if c=true then ta σ H1 Q else tb σ H1 Q
theorem Qs{c:Expr}(hc:PT X c tA)(ha:PE X a ta)(hb:PE X b tb):PE X (.IfExp c a b pos) (Qr tA ta tb):=by
 intro pins s σ H Q I h
 refine wpAny_IfExp (aD (hc pins s σ H _ I h) λd s1 ⟨H1,I1,q1⟩=>?_)
 cases d with
 | true=>exact ha pins s1 σ H1 Q I1 q1
 | false=>exact hb pins s1 σ H1 Q I1 q1
end
end L2
namespace L2
open PySem PySem.Spec PyProof.Rows
noncomputable def bz(K:PySem.W.Frag)(H:Hp)(a:Addr)(xs:List V):Prop :=
 Rd H a (.lst xs) \/
  ∃(o:Obj) (its:Array Value) (n:Nat),K.lookup a=some o/\o.cls=.type "list"/\o.dict=none/\o.data=.seq its n/\its.size<=sizeLine/\Vals xs its.toList
noncomputable def fB(K:PySem.W.Frag)(H:Hp)(a:Addr)(xs:List V):Prop :=
 Rd H a (.tup xs) \/
  ∃(o:Obj) (its:Array Value) (n:Nat),K.lookup a=some o/\o.cls=.type "tuple"/\o.data=.seq its n/\its.size<=sizeLine/\Vals xs its.toList
noncomputable def Qt:Value->Option V
 | .none=>some .ak
 | .bool b=>some (.bl b)
 | .int i _=>some (.int i)
 | .str x _=>some (.str x)
 | .bytes b _=>some (.xI b)
 | .float b _=>some (.m9 b)
 | .ref a=>some (.ref a)
 | .type n=>some (.ty n)
 | _=>none
theorem RelV.abs{x:V}{u:Value}(r:RelV x u):Qt u=some x:=by
 cases x with
 | ak=>cases r;rfl
 | bl _=>cases r;rfl
 | int _=>obtain⟨t,rfl⟩:=r;rfl
 | str _=>obtain⟨t,rfl⟩:=r;rfl
 | xI _=>obtain⟨t,rfl⟩:=r;rfl
 | m9 _=>obtain⟨t,rfl⟩:=r;rfl
 | ref _=>cases r;rfl
 | ty _=>cases r;rfl
theorem RelV.inj{x y:V}{u:Value}(r:RelV x u)(q:RelV y u):x=y:=cN (r.abs.symm.trans q.abs)
theorem Vals.inj:∀{xs ys:List V} {us:List Value},Vals xs us->Vals ys us->xs=ys
 | _,_,_,.nil,.nil=>rfl
 | _,_,_,.cons r t,.cons r' t'=>by rw[r.inj r',Vals.inj t t']
section
variable{X:Cx}{pins:List (Addr × Obj)}{σ:St}{H:Hp}{s:Shared}{a:Addr}{xs ys:List V}
theorem bz.of{K:PySem.W.Frag}(h:H a=some (.lst xs)):bz K H a xs:=.inl (.inl h)
theorem fB.of{K:PySem.W.Frag}(h:H a=some (.tup xs)):fB K H a xs:=.inl (.inl h)
theorem Inv.list(I:Inv X pins σ H s)(h:bz X.K H a xs):∃its:List Value,Vals xs its/\PlainL s.heap a its.toArray/\xs.length<=sizeLine:=by
 rcases h with h | ⟨o,its,n,hk,hc,hd,hs,hz,r⟩
 ·obtain⟨z,its,n,r,e⟩:=h.ok I.az
  exact⟨its,r,⟨_,n,e,rfl,rfl,rfl⟩,z⟩
 ·refine⟨its.toList,r,⟨o,n,I.cE a o hk,hc,hd,by simpa using hs⟩,?_⟩
  have e:=r.length
  simp only[sT]at e
  omega
theorem Inv.tuple(I:Inv X pins σ H s)(h:fB X.K H a xs):∃its:List Value,Vals xs its/\IsTup s.heap a its.toArray/\xs.length<=sizeLine:=by
 rcases h with h | ⟨o,its,n,hk,hc,hs,hz,r⟩
 ·obtain⟨z,its,r,p⟩:=h.ok I.az
  exact⟨its,r,p,z⟩
 ·refine⟨its.toList,r,⟨o,I.cE a o hk,hc,n,by simpa using hs⟩,?_⟩
  have e:=r.length
  simp only[sT]at e
  omega
theorem Inv.xR(I:Inv X pins σ H s)(h:bz X.K H a xs)(h':bz X.K H a ys):xs=ys:=by
 obtain⟨its,r,⟨o,n,e,_,_,d⟩,_⟩:=I.list h
 obtain⟨its',r',⟨o',n',e',_,_,d'⟩,_⟩:=I.list h'
 rw[e]at e';cases e'
 rw[d]at d'
 injection d' with d1 _
 have:its=its':=by simpa using congrArg Array.toList d1
 subst this
 exact r.inj r'
end
noncomputable abbrev Cx.iT(X:Cx)(E:Value->Shared->Prop):Cx:={ X with xe:=E }
noncomputable abbrev Cx.eI(X:Cx):Cx:=X.iT λ_ _=>False
theorem Cx.Ok.iT{X:Cx}(ok:X.Ok)(E:Value->Shared->Prop):(X.iT E).Ok :=
 ⟨ok.mod,ok.kind,ok.glob,ok.blt,ok.above,ok.inj,ok.has,ok.ni,ok.hd,ok.frames,ok.tK,ok.tL,ok.bs,ok.iQ,ok.pJ,ok.pK,ok.fe,ok.iS⟩
theorem Cx.Ok.jV{X:Cx}{E:Value->Shared->Prop}(ok:(X.iT E).Ok):X.Ok :=
 ⟨ok.mod,ok.kind,ok.glob,ok.blt,ok.above,ok.inj,ok.has,ok.ni,ok.hd,ok.frames,ok.tK,ok.tL,ok.bs,ok.iQ,ok.pJ,ok.pK,ok.fe,ok.iS⟩
section
variable{X:Cx}{pins:List (Addr × Obj)}{σ:St}{H:Hp}{s:Shared}{E:Value->Shared->Prop}
theorem Inv.iT(I:Inv X pins σ H s)(E:Value->Shared->Prop):Inv (X.iT E) pins σ H s:=⟨I.ok.iT E,I.os,I.bare,I.base,I.loc,I.cell,I.free,I.ij,I.pin,I.az,I.len⟩
theorem Inv.jV(I:Inv (X.iT E) pins σ H s):Inv X pins σ H s:=⟨I.ok.jV,I.os,I.bare,I.base,I.loc,I.cell,I.free,I.ij,I.pin,I.az,I.len⟩
theorem SP.jV{D:Ends}{f:Flow}{s':Shared}(h:SP (X.iT E) pins D f s'):SP X pins D f s':=by
 cases f with
 | next=>obtain⟨ax,H',I,q⟩:=h;exact⟨ax,H',I.jV,q⟩
 | brk=>obtain⟨ax,H',I,q⟩:=h;exact⟨ax,H',I.jV,q⟩
 | cont=>obtain⟨ax,H',I,q⟩:=h;exact⟨ax,H',I.jV,q⟩
 | ret u=>obtain⟨v,ax,H',I,r,q⟩:=h;exact⟨v,ax,H',I.jV,r,q⟩
theorem PE.eI{e:Expr}{t:TE}(h:PE X.eI e t):PE X e t:=λpins s σ H Q I hw =>
 wpAny_mono (h pins s σ H Q (I.iT _) hw) (λ_ _ ⟨v,H',I',r,q⟩=>⟨v,H',I'.jV,r,q⟩) λ_ _ z=>eC z
theorem PSs.eI{st:List Stmt}{t:TS}(h:PSs X.eI st t):PSs X st t:=λpins s σ H D I hw =>
 wpAny_mono (h pins s σ H D (I.iT _) hw) (λ_ _ q=>q.jV) λ_ _ z=>eC z
end
section
variable{X:Cx}{st:Stmt}{rest:List Stmt}{t u:TS}{e:Expr}{te:TE}{pos:Pos}
noncomputable def Qu:TS:=λD σ H=>D.nx σ H
noncomputable def Qv(t u:TS):TS:=λD σ H=>t { D with nx:=u D } σ H
theorem xS:PSs X [] Qu:=λ_ _ σ H _ I h=>wpAny_execs_nil ⟨σ,H,I,h⟩
theorem dS(h1:PS X st t)(h2:PSs X rest u):PSs X (st::rest) (Qv t u):=by
 intro pins s σ H D I h
 refine wpAny_execs_cons (aD (h1 pins s σ H { D with nx:=u D } I h) λf s1 q=>?_)
 cases f with
 | next =>
  obtain⟨ax,H',I',q⟩:=q
  exact h2 pins s1 ax H' D I' q
 | ret v=>exact q
 | brk=>exact q
 | cont=>exact q
theorem kD(h1:PS X st t):PSs X [st] t:=by
 intro pins s σ H D I h
 refine wpAny_execs_cons (aD (h1 pins s σ H D I h) λf s1 q=>?_)
 cases f with
 | next=>exact wpAny_execs_nil q
 | ret v=>exact q
 | brk=>exact q
 | cont=>exact q
theorem Inv.quiet{pins:List (Addr × Obj)}{σ:St}{H:Hp}{s:Shared}(I:Inv X pins σ H s):interactive X.env=false:=by simp[interactive,I.ok.kind]
noncomputable def Qw(te:TE):TS:=λD σ H=>te σ H λ_ H1=>D.nx σ H1
theorem tR(he:PE X e te)(hs:swapsWith e none pos.line X.env=pure false:=by rfl):PS X (.Expr e pos) (Qw te):=by
 intro pins s σ H D I h
 exact wpAny_Expr_any (aD (he pins s σ H _ I h) λv s1 ⟨x,H1,I1,r1,q1⟩=>⟨σ,H1,I1,q1⟩) I.quiet hs
noncomputable def Qx(te:TE):TS:=λD σ H=>te σ H D.rt
theorem Qy(he:PE X e te):PS X (.Return (some e) pos) (Qx te):=by
 intro pins s σ H D I h
 exact wpAny_Return_some (aD (he pins s σ H _ I h) λv s1 ⟨x,H1,I1,r1,q1⟩=>⟨x,σ,H1,I1,r1,q1⟩)
noncomputable def Qz(c:TT)(t u:TS):TS:=λD σ H=>c σ H λb H1=>if b=true then t D σ H1 else u D σ H1
theorem xT{c:Expr}{a b:List Stmt}{tc:TT}(hc:PT X c tc)(ha:PSs X a t)(hb:PSs X b u):PS X (.If c a b pos) (Qz tc t u):=by
 intro pins s σ H D I h
 refine wpAny_If (aD (hc pins s σ H _ I h) λd s1 ⟨H1,I1,q1⟩=>?_)
 cases d with
 | true=>exact ha pins s1 σ H1 D I1 q1
 | false=>exact hb pins s1 σ H1 D I1 q1
noncomputable def QB:TS:=λ_ _ _=>False
theorem xU:PS X st QB:=λ_ _ _ _ _ _ h=>h.elim
end
noncomputable abbrev TG:=V->St->Hp->(St->Hp->Prop)->Prop
noncomputable abbrev nk:=List V->St->Hp->(St->Hp->Prop)->Prop
noncomputable def PG(X:Cx)(target:Expr)(t:TG):Prop :=
 ∀(pins:List (Addr × Obj)) (s:Shared) (σ:St) (H:Hp) (v:V) (u:Value) (Q:St->Hp->Prop),Inv X pins σ H s->RelV v u->t v σ H Q ->
  wpAny (model X.prog X.w) X.A (assign target X.env u) (λ_ s'=>∃ax H',Inv X pins ax H' s'/\Q ax H') X.xe s
noncomputable def xV(X:Cx)(ts:List Expr)(t:nk):Prop :=
 ∀(pins:List (Addr × Obj)) (s:Shared) (σ:St) (H:Hp) (vs:List V) (us:List Value) (Q:St->Hp->Prop),Inv X pins σ H s->Vals vs us->t vs σ H Q ->
  wpAny (model X.prog X.w) X.A (assignInOrder ((assignEach ts X.env).map (·.2)) us) (λ_ s'=>∃ax H',Inv X pins ax H' s'/\Q ax H') X.xe s
noncomputable abbrev tS:=V->V->V->Hp->(Hp->Prop)->Prop
noncomputable def AL(X:Cx)(t:tS):Prop :=
 ∀(pins:List (Addr × Obj)) (s:Shared) (σ:St) (H:Hp) (o i v:V) (ov iv u:Value) (Q:Hp->Prop),Inv X pins σ H s->RelV o ov->RelV i iv->RelV v u->t o i v H Q ->
  wpAny (model X.prog X.w) X.A (setItem ov iv u) (λ_ s'=>∃H',Inv X pins σ H' s'/\Q H') X.xe s
noncomputable abbrev pO:=V->V->Hp->VK->Prop
noncomputable def AM(X:Cx)(op:Operator)(t:pO):Prop :=
 ∀(pins:List (Addr × Obj)) (s:Shared) (σ:St) (H:Hp) (x y:V) (v u:Value) (Q:VK),Inv X pins σ H s->RelV x v->RelV y u->t x y H Q ->
  wpAny (model X.prog X.w) X.A (inplaceOp op v u) (EP X pins σ Q) X.xe s
section
variable{X:Cx}{pos:Pos}
noncomputable def xW(i:Nat):TG:=λv σ H Q=>Q (σ.set i (some v)) H
theorem xX{i:Nat}{x:Str}(hN:X.N.Nodup)(hi:X.N[i]?=some x)(hx:Loc X.env.scope x)(hf:X.fn x=true\/X.env.scope.names.lookup x=some .local:=by first | exact .inl rfl | exact .inr rfl | assumption):PG X (.Name x pos) (xW i):=by
 intro pins s σ H v u Q I r h
 exact wpAny_assign_Name (AI I hN hi hx r (λs' I'=>⟨_,H,I',h⟩) hf)
noncomputable def QC:nk:=λvs σ H Q=>vs=[]/\Q σ H
noncomputable def QD(t:TG)(u:nk):nk:=λvs σ H Q=>∃v r,vs=v::r/\t v σ H λax H'=>u r ax H' Q
theorem QE:xV X [] QC:=by
 intro pins s σ H vs us Q I r h
 obtain⟨e,h⟩:=h
 subst e
 cases r
 exact assignInOrder_nil ⟨σ,H,I,h⟩
theorem Ip{e:Expr}{es:List Expr}{t:TG}{u:nk}(h1:PG X e t)(h2:xV X es u)
  (hs:(assignEach (e::es) X.env).map (·.2)=assign e X.env::(assignEach es X.env).map (·.2):=by rfl):xV X (e::es) (QD t u):=by
 intro pins s σ H vs us Q I r h
 obtain⟨v,vr,e1,h⟩:=h
 subst e1
 cases r with
 | cons r rr =>
  rw[hs]
  refine assignInOrder_cons (aD (h1 pins s σ H _ _ _ I r h) λ_ s1 ⟨ff,H1,I1,q1⟩=>?_)
  exact h2 pins s1 ff H1 _ _ Q I1 rr q1
noncomputable def QF(K:PySem.W.Frag)(n:Nat)(t:nk):TG:=λv σ H Q=>∃a xs,v=.ref a/\fB K H a xs/\xs.length=n/\t xs σ H Q
theorem QG{es:List Expr}{k:Nat}{t:nk}{n:Nat}(hc:X.calm=true)(h:xV X es t)
  (hn:(assignEach es X.env).length=n:=by rfl) (cq:(assignEach es X.env).findIdx? (·.1)=none:=by rfl):PG X (.Tuple es k pos) (QF X.K n t):=by
 intro pins s σ H v u Q I r hw
 obtain⟨a,xs,e1,hq,hl,hw⟩:=hw
 subst e1
 cases r
 obtain⟨its,rv,ht,hz⟩:=I.tuple hq
 refine assign_Tuple_tuple (I.ok.hd hc) ht (by simp[hn,<- hl,rv.length]) cq λh' hx=>?_
 have I1:Inv X pins σ H { s with heap:=h' }:=I.kept (t':=s.toks) λb o e=>hx b o (eO (bK e)) e
 exact h pins _ σ H xs _ Q I1 (by simpa using rv) hw
noncomputable def QH(to ti:TE)(t:tS):TG:=λv σ H Q=>to σ H λo H1=>ti σ H1 λi H2=>t o i v H2 λH3=>Q σ H3
theorem QI{o i:Expr}{to ti:TE}{t:tS}(ho:PE X o to)(hi:PE X i ti)(hs:AL X t)
  (ha:∀v,assign (.Subscript o i pos) X.env v=(do
   let ov<-holding [v] (eval o X.env)
   let iv<-holding [v,ov] (eval i X.env)
   standAt pos
   holding [v,ov,iv] (setItem ov iv v)
   release [v,ov,iv] []):=by intro _;rfl):PG X (.Subscript o i pos) (QH to ti t):=by
 intro pins s σ H v u Q I r h
 rw[ha]
 refine wpAny_bind (wpAny_holding (aD (ho pins s σ H _ I h) λov s1 ⟨x,H1,I1,r1,q1⟩=>?_))
 refine wpAny_bind (wpAny_holding (aD (hi pins s1 σ H1 _ I1 q1) λiv s2 ⟨y,H2,I2,r2,q2⟩=>?_))
 refine wpAny_bind (wpAny_standAt (wpAny_bind (wpAny_holding (aD (hs pins s2 σ H2 x y v ov iv u _ I2 r1 r2 r q2) λ_ s3 ⟨H3,I3,q3⟩=>?_))))
 exact wpAny_release ⟨σ,H3,I3,q3⟩
noncomputable def AN(te:TE)(g:TG):TS:=λD σ H=>te σ H λx H1=>g x σ H1 D.nx
theorem QJ{tg e:Expr}{te:TE}{g:TG}(he:PE X e te)(hg:PG X tg g)(hs:swapsWithSole [tg] e pos.line X.env=pure false:=by rfl)(hw:swappedStores [tg] e X.env=pure none:=by rfl)
  (h1:(assignEach [tg] X.env).map (·.2)=[assign tg X.env]:=by rfl):PS X (.Assign [tg] e pos) (AN te g):=by
 intro pins s σ H D I h
 refine wpAny_Assign_stores (aD (he pins s σ H _ I h) λv s1 ⟨x,H1,I1,r1,q1⟩=>?_) hs hw
 rw[h1]
 exact aD (hg pins s1 σ H1 x v _ I1 r1 q1) λ_ s2 q=>q
theorem AO{i:Nat}{x:Str}{e:Expr}{te:TE}{pos':Pos}(hN:X.N.Nodup)(hi:X.N[i]?=some x)(hx:Loc X.env.scope x)(he:PE X e te)(hs:swapsWith e (some (.Name x pos')) pos.line X.env=pure false:=by rfl)(hf:X.fn x=true\/X.env.scope.names.lookup x=some .local:=by first | exact .inl rfl | exact .inr rfl | assumption) :
  PS X (.Assign [.Name x pos'] e pos) (AN te (xW i)):=by
 intro pins s σ H D I h
 refine wpAny_Assign_Name (aD (he pins s σ H _ I h) λv s1 ⟨y,H1,I1,r1,q1⟩=>?_) hs
 exact AI I1 hN hi hx r1 (λs2 I2=>⟨_,H1,I2,q1⟩) hf
noncomputable def QK(i:Nat)(te:TE)(ti:pO):TS:=λD σ H=>∃x,σ[i]?=some (some x)/\te σ H λy H1=>ti x y H1 λz H2=>D.nx (σ.set i (some z)) H2
theorem QL{i:Nat}{x:Str}{e:Expr}{te:TE}{op:Operator}{ti:pO}{pos':Pos}(hN:X.N.Nodup)(hi:X.N[i]?=some x)(hx:Loc X.env.scope x)(he:PE X e te)(ho:AM X op ti)(hf:X.fn x=true\/X.env.scope.names.lookup x=some .local:=by first | exact .inl rfl | exact .inr rfl | assumption) :
  PS X (.AugAssign (.Name x pos') op e pos) (QK i te ti):=by
 intro pins s σ H D I h
 obtain⟨v,e1,h⟩:=h
 obtain⟨m,hn,hl⟩:=I.loc
 have QM:ju X.env.scope x:=by rcases hx with k | k;exact .inl k;exact .inr (.inl k)
 obtain⟨u,r,l⟩:=hl i x v hi e1 QM
 refine wpAny_AugAssign_Name ?_
 have go:wpAny (model X.prog X.w) X.A (eval e X.env) (λw jw=>wpAny (model X.prog X.w) X.A (inplaceOp op u w) (λr QN=>wpAny (model X.prog X.w) X.A (storeName X.env x r) (λ_=>SP X pins D .next) X.xe QN) X.xe jw) X.xe s:=by
  refine aD (he pins s σ H _ I h) λw s1 ⟨y,H1,I1,r1,q1⟩=>?_
  refine aD (ho pins s1 σ H1 v y u w _ I1 r r1 q1) λz s2 ⟨zv,H2,I2,r2,q2⟩=>?_
  exact AI I2 hN hi hx r2 (λs3 I3=>⟨_,H2,I3,q2⟩) hf
 rcases l with⟨hk,hm⟩ | ⟨hk,c,hc,xO⟩
 ·exact wpAny_loadName_local I.ok.kind hk hn hm go
 ·rcases hk with hk | hk
  ·exact wpAny_loadName_cell I.ok.kind hk hc xO go
  ·rcases hx with k | k
   ·have:X.env.scope.names.lookup x=some .free:=hk
    rw[k]at this;cases this
   ·have:X.env.scope.names.lookup x=some .free:=hk
    rw[k]at this;cases this
noncomputable def QO(to ti te:TE)(xY:V->V->Hp->VK->Prop)(xZ:pO)(x6:tS):TS:=λD σ H=>to σ H λo H1=>ti σ H1 λi H2=>xY o i H2 λx H3=>te σ H3 λy H4=>xZ x y H4 λz H5=>x6 o i z H5 λH6=>D.nx σ H6
noncomputable def Iq(X:Cx)(t:V->V->Hp->VK->Prop):Prop :=
 ∀(pins:List (Addr × Obj)) (s:Shared) (σ:St) (H:Hp) (o i:V) (ov iv:Value) (Q:VK),Inv X pins σ H s->RelV o ov->RelV i iv->t o i H Q ->
  wpAny (model X.prog X.w) X.A (getItem ov iv) (EP X pins σ Q) X.xe s
theorem QP{o i e:Expr}{to ti te:TE}{xY:V->V->Hp->VK->Prop}{xZ:pO}{x6:tS}{op:Operator}{jx:Pos}(ho:PE X o to)(hi:PE X i ti)(hg:Iq X xY)(he:PE X e te)(hp:AM X op xZ)(hs:AL X x6)
  (ha:∀ov iv new,augStore i ov iv new=(do holding [new,ov,iv] (setItem ov iv new);release [new,ov,iv] [];pure .next):=by intros;rfl):PS X (.AugAssign (.Subscript o i jx) op e pos) (QO to ti te xY xZ x6):=by
 intro pins s σ H D I h
 refine wpAny_AugAssign_SubscriptAny (aD (ho pins s σ H _ I h) λov s1 ⟨x1,H1,I1,r1,q1⟩=>?_) ha
 refine aD (hi pins s1 σ H1 _ I1 q1) λiv s2 ⟨x2,H2,I2,r2,q2⟩=>?_
 refine aD (hg pins s2 σ H2 x1 x2 ov iv _ I2 r1 r2 q2) λold s3 ⟨x3,H3,I3,r3,q3⟩=>?_
 refine aD (he pins s3 σ H3 _ I3 q3) λv s4 ⟨x4,H4,I4,r4,q4⟩=>?_
 refine aD (hp pins s4 σ H4 x3 x4 old v _ I4 r3 r4 q4) λnew s5 ⟨x5,H5,I5,r5,q5⟩=>?_
 exact aD (hs pins s5 σ H5 x1 x2 x5 ov iv new _ I5 r1 r2 r5 q5) λ_ s6 ⟨H6,I6,q6⟩=>⟨σ,H6,I6,q6⟩
noncomputable def QQ(f:Int->Int->Int):pO:=λx y H Q=>∃i j,x=.int i/\y=.int j/\Q (.int (f i j)) H
theorem QR:AM X .Add (QQ λi j=>i+j):=by
 intro pins s σ H x y v u Q I r1 r2 h
 obtain⟨i,j,e1,e2,q⟩:=h
 subst e1;subst e2
 obtain⟨t,rfl⟩:=r1
 obtain⟨t',rfl⟩:=r2
 exact iadd_int ⟨.int _,H,I.tok _,⟨_,rfl⟩,q⟩
end
section
variable{X:Cx}{pos:Pos}
noncomputable def QS(c:TT)(tb:TS):TS:=λD σ H=>∃W:Nat->St->Hp->Prop,(∃m,W m σ H)/\∀m σ H,W m σ H ->
 c σ H λb H1=>if b=true then ∃N:St->Hp->Prop,(∀ax H',N ax H'->∃m',m'<m/\W m' ax H')/\tb { D with nx:=N,ct:=N,bk:=D.nx } σ H1 else D.nx σ H1
theorem QT{c:Expr}{body:List Stmt}{tc:TT}{tb:TS}(hp:PassesOwn (model X.prog X.w) X.A X.env X.xe)(hc:PT X c tc)(hb:PSs X body tb):PS X (.While c body [] pos) (QS tc tb):=by
 intro pins s σ H D I h
 obtain⟨W,⟨m0,w0⟩,turn⟩:=h
 refine wpAny_While (codeAny_whileLoop (λn s'=>∃ax H',Inv X pins ax H' s'/\W n ax H') ?_ m0 ⟨σ,H,I,w0⟩)
 rintro n s1 ⟨ff,H1,I1,w1⟩
 refine wpAny_passesOwn hp (aD (hc pins s1 ff H1 _ I1 (turn n ff H1 w1)) λb s2 ⟨H2,I2,q2⟩=>?_)
 cases b with
 | true =>
  obtain⟨N,hN,q2⟩:=q2
  rw[if_pos rfl]
  refine wpAny_passesOwn hp (aD (hb pins s2 ff H2 _ I2 q2) λf s3 q3=>?_)
  cases f with
  | next =>
   obtain⟨jy,H3,I3,n3⟩:=q3
   obtain⟨m',hm,w3⟩:=hN jy H3 n3
   exact⟨m',hm,jy,H3,I3,w3⟩
  | cont =>
   obtain⟨jy,H3,I3,n3⟩:=q3
   obtain⟨m',hm,w3⟩:=hN jy H3 n3
   exact⟨m',hm,jy,H3,I3,w3⟩
  | brk=>exact q3
  | ret v=>exact q3
 | false =>
  rw[if_neg gh]
  exact wpAny_execs_nil ⟨ff,H2,I2,q2⟩
end
structure It where
 go:Nat->Hp->Prop
 iU:Nat->Hp->V->Hp->Prop
 stop:Nat->Hp->Prop
noncomputable def gM(X:Cx)(pins:List (Addr × Obj))(H:Hp)(b:Addr):Prop :=
 H b=none/\b≠X.env.locals/\b ∉ X.fs/\(b∈X.ex\/X.b8.heap.objs.size<=b)/\(∀x c,X.env.cells.lookup x=some c->c≠b)/\∀p∈X.pn++pins,p.1≠b
theorem Inv.x8{X:Cx}{pins:List (Addr × Obj)}{σ:St}{H H':Hp}{s:Shared}{b:Addr}(I:Inv X pins σ H s)(hb:s.heap.objs.size<=b)(hn:H' b=none):gM X pins H' b:=by
 refine⟨hn,Hs (cA I.lt hb),I.Ih hb,.inr (dH I.sz hb),λx c e z=>?_,λp hp z=>?_⟩
 ·obtain⟨v,q⟩:=I.cell x c e
  exact absurd (cA q.lt (by rw[z];exact hb)) (fv _)
 ·exact absurd (cA (bK (I.pin p hp).1) (by rw[z];exact hb)) (fv _)
structure Turn(P:Program)(w:World)(K:PySem.W.Frag)(tg:Expr)(J:It)(fp:List Addr)(it:Addr)(tn:Nat->Heap->Prop):Prop where
 mem:it∈fp
 obj:∀i h,tn i h->∀b∈fp,∃o,h.get? b=some o/\∀v,o.data≠.cell v
 keep:∀i h h',tn i h->(∀b∈fp,∀o,h.get? b=some o->h'.get? b=some o)->tn i h'
 item:∀(X:Cx),X.prog=P->X.w=w->X.K=K->X.calm=true->∀(i:Nat) (pins:List (Addr × Obj)) (s:Shared) (σ:St) (H:Hp) (E:Value->Shared->Prop),Inv X pins σ H s->(∀b∈fp,gM X pins H b)->tn i s.heap->J.go i H ->
  wpAny (model P w) X.A (pyNext (.ref it)) (λr s1=>∃u,r=some u /\
   wpAny (model P w) X.A (letOwnedTupleGo tg (.ref it) u) (λ_ s2=>∃x H',Inv X pins σ H' s2/\RelV x u/\J.iU i H x H'/\tn (i+1) s2.heap/\∀b∈fp,H' b=none) E s1) E s
 done:∀(X:Cx),X.prog=P->X.w=w->X.K=K->X.calm=true->∀(i:Nat) (pins:List (Addr × Obj)) (s:Shared) (σ:St) (H:Hp) (E:Value->Shared->Prop),Inv X pins σ H s->(∀b∈fp,gM X pins H b)->tn i s.heap->J.stop i H ->
  wpAny (model P w) X.A (pyNext (.ref it)) (λr s1=>r=none/\Inv X pins σ H s1) E s
 self:∀(A:Around) (i:Nat) (s:Shared) (Q:Value->Shared->Prop) (E:Value->Shared->Prop),tn i s.heap->Q (.ref it) s->wpAny (model P w) A (pyIter (.ref it)) Q E s
noncomputable abbrev TI:=St->Hp->(It->Hp->Prop)->Prop
noncomputable def Ir(X:Cx)(pins:List (Addr × Obj))(σ:St)(tg:Expr)(R:It->Hp->Prop)(AQ:Value)(s2:Shared):Prop :=
 ∃(it:Addr) (fp:List Addr) (tn:Nat->Heap->Prop) (J:It) (H':Hp),AQ=.ref it/\Inv X pins σ H' s2/\Turn X.prog X.w X.K tg J fp it tn/\tn 0 s2.heap/\(∀b∈fp,gM X pins H' b)/\R J H'
noncomputable def PI(X:Cx)(tg iter:Expr)(wi:TI):Prop :=
 ∀(pins:List (Addr × Obj)) (s:Shared) (σ:St) (H:Hp) (R:It->Hp->Prop),Inv X pins σ H s->wi σ H R ->
  wpAny (model X.prog X.w) X.A (eval iter X.env) (λv s1=>wpAny (model X.prog X.w) X.A (pyIter v) (Ir X pins σ tg R) X.xe s1) X.xe s
theorem Iu{M:Model}{A:Around}{E:Value->Shared->Prop}{s:Shared}{tg:Expr}{it:Addr}{u:Value}{o:Obj}{n:String}{vs:Array Value}{Q:Unit->Shared->Prop}(ho:s.heap.get? it=some o)(hc:o.cls=.type n)(hd:o.data=.fields vs)
  (hn:["enumerate","zip","dict_itemiterator","dict_reverseitemiterator","odict_iterator","itertools.zip_longest","itertools.pairwise"].contains n=false) (hQ:Q () s):wpAny M A (letOwnedTupleGo tg (.ref it) u) Q E s:=by
 unfold letOwnedTupleGo
 cases tg<;>first
  | exact wpAny_pure hQ
  | (cases u<;>first
    | exact wpAny_pure hQ
    | (refine wpAny_bind (wpAny_load ho ?_)
       rw[hc,hd]
       show wpAny M A (if(["enumerate","zip","dict_itemiterator","dict_reverseitemiterator","odict_iterator","itertools.zip_longest","itertools.pairwise"].contains n&&vs[0]?==some (rawInt _))=true then _ else _) Q E s
       rw[if_neg (by intro h;rw[hn,sU]at h;cases h)]
       exact wpAny_pure hQ))
noncomputable def AR(K:PySem.W.Frag)(a:Addr):It :=
 ⟨λi H=>∃xs x,bz K H a xs/\xs[i]?=some x,λi H x H'=>H'=H/\∀xs,bz K H a xs->xs[i]?=some x,λi H=>∃xs,bz K H a xs/\xs.length<=i⟩
noncomputable def tT(lo:Int)(n:Nat):It:=⟨λi _=>i<n,λi H x H'=>H'=H/\x=.int (lo+i),λi _=>n<=i⟩
theorem QU{P:Program}{w:World}{K:PySem.W.Frag}{tg:Expr}(a it:Addr):Turn P w K tg (AR K a) [it] it (λi h=>h.IsListIter it a i) where
 mem:=by simp
 obj:=λi h st b hb=>by
  have e:b=it:=by simpa using hb
  subst e
  obtain⟨o,e,c,d⟩:=st
  exact⟨o,e,λv z=>by rw[d]at z;cases z⟩
 keep:=λi h h' st k=>st.at λo e=>k it (by simp) o e
 item:=by
  intro X hP hw hK hc i pins s σ H E I hf st hg
  subst hP hw hK
  obtain⟨xs,x,hq,hx⟩:=hg
  obtain⟨its,rv,p,hz⟩:=I.list hq
  obtain⟨u,hu,ru⟩:=rv.get hx
  obtain⟨f0,f1,f2,f3,f4,f5⟩:=hf it (by simp)
  refine wpAny_pyNext_list_item st p.isList (x:=u) (by simpa using hu) λh' mi sb=>?_
  have I1:Inv X pins σ H { s with heap:=h' }:=I.turned (t':=s.toks) (λb o hb e=>(sb.2 b hb).trans e) f0 f1 f3 f4 f5
  obtain⟨o,e,c,d⟩:=id mi
  exact⟨u,rfl,Iu (s:={ s with heap:=h' }) e c d (by decide) ⟨x,H,I1,ru,⟨rfl,λys hy=>by rw[I.xR hy hq];exact hx⟩,mi,λb hb=>(hf b hb).1⟩⟩
 done:=by
  intro X hP hw hK hc i pins s σ H E I hf st hg
  subst hP hw hK
  obtain⟨xs,hq,hx⟩:=hg
  obtain⟨its,rv,p,hz⟩:=I.list hq
  obtain⟨f0,f1,f2,f3,f4,f5⟩:=hf it (by simp)
  have hl:=rv.length
  exact wpAny_pyNext_list_end (I.ok.hd hc) st p.isList (by simp;omega) λh' eb=>⟨rfl,I.turned (t':=s.toks) (λb o hb e=>eb b o hb e) f0 f1 f3 f4 f5⟩
 self:=λ_ _ _ _ _ st h=>wpAny_pyIter_listiter st h
theorem QV{P:Program}{w:World}{K:PySem.W.Frag}{tg:Expr}(it:Addr)(lo:Int)(n:Nat):Turn P w K tg (tT lo n) [it] it (λi h=>IsRangeIter h it (lo+(i:Nat)*1) ((n:Int)-(i:Nat)) 1) where
 mem:=by simp
 obj:=λi h st b hb=>by
  have e:b=it:=by simpa using hb
  subst e
  exact⟨_,st,λv z=>by
   have z':Data.fields _=Data.cell v:=z
   cases z'⟩
 keep:=λi h h' st k=>k it (by simp) _ st
 item:=by
  intro X hP hw hK hc i pins s σ H E I hf st hg
  subst hP hw hK
  obtain⟨f0,f1,f2,f3,f4,f5⟩:=hf it (by simp)
  have W:=Walks.range (prog:=X.prog) (w:=X.w) (I.ok.hd hc) it lo 1 n
  refine W.item i s _ _ hg st λv h' tk hv mi kk=>?_
  obtain⟨t,rfl⟩:=hv
  have I1:Inv X pins σ H { s with heap:=h',toks:=tk }:=I.turned (λb o hb e=>kk b o (by simpa using hb) e) f0 f1 f3 f4 f5
  refine⟨_,rfl,Iu (s:={ s with heap:=h',toks:=tk }) (n:="range_iterator") mi rfl rfl (by decide) ⟨.int (lo+i),H,I1,⟨t,?_⟩,⟨rfl,rfl⟩,mi,λb hb=>(hf b hb).1⟩⟩
  rw[w4]
 done:=by
  intro X hP hw hK hc i pins s σ H E I hf st hg
  subst hP hw hK
  obtain⟨f0,f1,f2,f3,f4,f5⟩:=hf it (by simp)
  exact wpAny_pyNext_range_end (I.ok.hd hc) st (by have:n<=i:=hg;omega) λh' eb=>⟨rfl,I.turned (t':=s.toks) (λb o hb e=>eb b o hb e) f0 f1 f3 f4 f5⟩
 self:=λ_ _ _ _ _ st h=>wpAny_pyIter_rangeiter st h
end L2
namespace L2
open PySem PySem.Spec PyProof.Rows
section
variable{X:Cx}{tg:Expr}
noncomputable def QW(K:PySem.W.Frag)(tl:TE):TI:=λσ H R=>tl σ H λx H1=>∃a,x=.ref a/\(∃xs,bz K H1 a xs)/\R (AR K a) H1
theorem Iw{l:Expr}{tl:TE}(hl:PE X l tl):PI X tg l (QW X.K tl):=by
 intro pins s σ H R I h
 refine aD (hl pins s σ H _ I h) λv s1 ⟨x,H1,I1,r1,q1⟩=>?_
 obtain⟨a,e,⟨xs,hq⟩,q⟩:=q1
 subst e
 cases r1
 obtain⟨its,rv,p,hz⟩:=I1.list hq
 refine wpAny_pyIter_list p.isList ?_
 refine⟨s1.heap.objs.size,[s1.heap.objs.size],_,_,H1,rfl,I1.kept (t':=s1.toks) λb o e=>dQ _ e,QU a _,⟨_,gi _ rfl,rfl,rfl⟩,λb hb=>?_,q⟩
 have e:b=s1.heap.objs.size:=by simpa using hb
 subst e
 exact I1.x8 (bI _) (I1.az.fresh (bI _))
theorem Iy{pins:List (Addr × Obj)}{σ:St}{H:Hp}{s:Shared}{R:It->Hp->Prop}{E:Value->Shared->Prop}{lo hi:Int}{t u v:Tok}{tk:Nat}(I:Inv X pins σ H s)(h1:-(2 ^ 62)<=lo)(h2:lo<2 ^ 62)(h3:-(2 ^ 62)<=hi)(h4:hi<2 ^ 62)
  (q:R (tT lo (hi-lo).toNat) H):wpAny (model X.prog X.w) X.A (pyIter (.ref s.heap.objs.size)) (Ir X pins σ tg R) E { s with heap:=s.heap.push { cls:=.type "range",data:=.fields #[.int lo t,.int hi u,.int 1 v] },toks:=tk }:=by
 refine wpAny_pyIter_range (IsRange.new ..) (small_one h1 h2 h3 h4) ?_
 have I1:Inv X pins σ H { s with heap:=s.heap.push { cls:=.type "range",data:=.fields #[.int lo t,.int hi u,.int 1 v] },toks:=tk }:=I.kept λb o e=>dQ _ e
 refine⟨(s.heap.push { cls:=.type "range",data:=.fields #[.int lo t,.int hi u,.int 1 v] }).objs.size,[(s.heap.push { cls:=.type "range",data:=.fields #[.int lo t,.int hi u,.int 1 v] }).objs.size],_,_,H,rfl,
  I1.kept (t':=tk) λb o e=>dQ _ e,QV _ lo (hi-lo).toNat,?_,λb hb=>?_,q⟩
 ·have e1:lo+((0:Nat):Int)*1=lo:=by simp
  have e2:(((hi-lo).toNat:Nat):Int)-((0:Nat):Int)=Builtin.Range.rangeSize lo hi 1:=by rw[rangeSize_one];split<;>omega
  show IsRangeIter _ _ (lo+((0:Nat):Int)*1) ((((hi-lo).toNat:Nat):Int)-((0:Nat):Int)) 1
  rw[e1,e2]
  exact gi _ rfl
 ·have e:b=(s.heap.push { cls:=.type "range",data:=.fields #[.int lo t,.int hi u,.int 1 v] }).objs.size:=by simpa using hb
  subst e
  exact I1.x8 (bI _) (I1.az.fresh (bI _))
noncomputable def QX(ta:TA):TI:=λσ H R=>ta σ H λvs H1=>∃j:Int,vs=[.int j]/\-(2 ^ 62)<=j/\j<2 ^ 62/\R (tT 0 j.toNat) H1
noncomputable def QY(ta:TA):TI:=λσ H R=>ta σ H λvs H1=>∃i j:Int,vs=[.int i,.int j]/\(-(2 ^ 62)<=i/\i<2 ^ 62/\-(2 ^ 62)<=j/\j<2 ^ 62)/\R (tT i (j-i).toNat) H1
theorem QZ{a:Expr}{ta:TA}{p pos:Pos}(hg:Gl X "range")(hm:X.mg "range"=none)(ha:PA X [a] ta)(hs:starEach [a] X.env=[(false,eval a X.env)]:=by rfl):PI X tg (.Call (.Name "range" p) [a] [] pos) (QX ta):=by
 intro pins s σ H R I h
 refine Call_ (nj I hg hm boot_range (w5 (aD (ha pos pins s σ H _ I h) λus s1 ⟨vs,H1,I1,r1,q1⟩=>?_) hs rfl))
 obtain⟨j,e,q1,q2,q⟩:=q1
 subst e
 cases r1 with
 | cons r rr =>
  cases rr
  obtain⟨t,rfl⟩:=r
  exact call_range_1 (Iy I1 (by omega) (by omega) q1 q2 (by simpa using q))
theorem Q0{a b:Expr}{ta:TA}{p pos:Pos}(hg:Gl X "range")(hm:X.mg "range"=none)(ha:PA X [a,b] ta)(hs:starEach [a,b] X.env=[(false,eval a X.env),(false,eval b X.env)]:=by rfl)(fC:starEach [b] X.env=[(false,eval b X.env)]:=by rfl) :
  PI X tg (.Call (.Name "range" p) [a,b] [] pos) (QY ta):=by
 intro pins s σ H R I h
 refine Call_ (nj I hg hm boot_range (w5 (aD (ha pos pins s σ H _ I h) λus s1 ⟨vs,H1,I1,r1,q1⟩=>?_) (by rw[hs,fC]) (by rw[fC];rfl)))
 obtain⟨i,j,e,⟨q1,q2,q3,q4⟩,q⟩:=q1
 subst e
 cases r1 with
 | cons r rr =>
  cases rr with
  | cons r' rr =>
   cases rr
   obtain⟨t,rfl⟩:=r
   obtain⟨t',rfl⟩:=r'
   exact call_range_2 (Iy I1 q1 q2 q3 q4 q)
noncomputable def Q1(wi:TI)(g:TG)(tb:TS):TS:=λD σ H=>wi σ H λJ H1=>∃W:Nat->Nat->St->Hp->Prop,(∃m,W 0 m σ H1)/\∀i m σ H,W i m σ H ->
 (J.stop i H/\D.nx σ H)\/(J.go i H/\∃N:St->Hp->Prop,(∀ax H',N ax H'->∃m',m'<m/\W (i+1) m' ax H')/\∀x H',J.iU i H x H'->g x σ H' λjW H2=>tb { D with nx:=N,ct:=N,bk:=D.nx } jW H2)
noncomputable def tU(fp:List Addr)(h:Heap):List (Addr × Obj):=fp.filterMap λb=>(h.get? b).map λo=>(b,o)
theorem x9{fp:List Addr}{h:Heap}{b:Addr}{o:Obj}(hb:b∈fp)(e:h.get? b=some o):(b,o)∈tU fp h:=Pg.mpr ⟨b,hb,by rw[e];rfl⟩
theorem Q2{fp:List Addr}{h:Heap}{p:Addr × Obj}(hp:p∈tU fp h):p.1∈fp/\h.get? p.1=some p.2:=by
 obtain⟨b,hb,e⟩:=Pg.mp hp
 cases q:h.get? b with
 | none=>rw[q]at e;cases e
 | some o =>
  rw[q]at e
  have e':(b,o)=p:=cN e
  subst e'
  exact⟨hb,q⟩
theorem Inv.pinned{pins:List (Addr × Obj)}{σ:St}{H:Hp}{s:Shared}{fp:List Addr}(I:Inv X pins σ H s)(hf:∀b∈fp,gM X pins H b)(ho:∀b∈fp,∃o,s.heap.get? b=some o/\∀v,o.data≠.cell v):Inv X (pins++tU fp s.heap) σ H s :=
 I.Ii λp hp=>(cB.mp hp).elim (λz=>I.pin p (dg _ z)) λz=>by
  obtain⟨hb,e⟩:=Q2 z
  obtain⟨f0,f1,f2,_⟩:=hf p.1 hb
  obtain⟨o,e',d⟩:=ho p.1 hb
  rw[e]at e';cases e'
  exact⟨e,f0,f1,f2,d⟩
theorem Inv.tV{pins pl:List (Addr × Obj)}{σ:St}{H:Hp}{s:Shared}(I:Inv X (pins++pl) σ H s):Inv X pins σ H s:=I.Ii λp hp=>I.pin p (dg _ (eH _ hp))
theorem Q3{iter:Expr}{body:List Stmt}{wi:TI}{g:TG}{tb:TS}{pos:Pos}(hp:PassesOwn (model X.prog X.w) X.A X.env X.xe)(hc:X.calm=true)(hi:PI X tg iter wi)(hg:PG X tg g)(hb:PSs X body tb)
  (hs:∀x,foldedSetIterable iter X.env x=pure x:=by intro _;rfl):PS X (.For tg iter body [] pos) (Q1 wi g tb):=by
 intro pins s σ H D I h
 refine wpAny_For (aD (hi pins s σ H _ I h) λv s1 h1=>aD h1 λAQ s2 h2=>?_) hs
 obtain⟨it,fp,tn,J,H2,e,I2,T,tW,f2,W,⟨m0,w0⟩,turn⟩:=h2
 subst e
 have AS:∀{H':Hp},(∀b∈fp,H' b=none)->∀b∈fp,gM X pins H' b:=λhn b hb=>⟨hn b hb,(f2 b hb).2⟩
 refine codeAny_forLoop_any (λn s'=>∃i ax H',Inv X pins ax H' s'/\tn i s'.heap/\(∀b∈fp,H' b=none)/\W i n ax H') ?_ m0 ⟨0,σ,H2,I2,tW,λb hb=>(f2 b hb).1,w0⟩
 rintro n s3 ⟨i,jy,H3,I3,Iz,AU,w3⟩
 rcases turn i n jy H3 w3 with⟨stop,qn⟩ | ⟨go,N,hN,step⟩
 ·refine wpAny_passesOwn hp (aD (T.done X rfl rfl rfl hc i pins s3 jy H3 X.xe I3 (AS AU) Iz stop) λr s4 ⟨hr,I4⟩=>?_)
  subst hr
  exact wpAny_execs_nil ⟨jy,H3,I4,qn⟩
 ·refine wpAny_passesOwn hp (aD (T.item X rfl rfl rfl hc i pins s3 jy H3 X.xe I3 (AS AU) Iz go) λr s4 ⟨u,hr,h4⟩=>?_)
  subst hr
  refine wpAny_passesOwn hp (aD h4 λ_ s5 ⟨x,H5,I5,r5,y5,nq,tX⟩=>?_)
  have AV:=I5.pinned (AS tX) (T.obj _ _ nq)
  refine wpAny_passesOwn hp (aD (hg _ s5 jy H5 x u _ AV r5 (step x H5 y5)) λ_ s6 ⟨AW,H6,I6,q6⟩=>?_)
  refine wpAny_passesOwn hp (aD (hb _ s6 AW H6 _ I6 q6) λf s7 q7=>?_)
  have again:∀{jz:St} {H7:Hp},Inv X (pins++tU fp s5.heap) jz H7 s7->N jz H7->∃m,m<n/\∃i ax H',Inv X pins ax H' s7/\tn i s7.heap/\(∀b∈fp,H' b=none)/\W i m ax H':=λ{jz H7} I7 n7=>by
   obtain⟨m',hm,w7⟩:=hN jz H7 n7
   refine⟨m',hm,i+1,jz,H7,I7.tV,T.keep _ _ _ nq λb hb o e=>(I7.pin (b,o) (dg _ (dg _ (x9 hb e)))).1,λb hb=>?_,w7⟩
   obtain⟨o,e,d⟩:=T.obj _ _ nq b hb
   exact(I7.pin (b,o) (dg _ (dg _ (x9 hb e)))).2.1
  cases f with
  | next=>obtain⟨jz,H7,I7,n7⟩:=q7;exact again I7 n7
  | cont=>obtain⟨jz,H7,I7,n7⟩:=q7;exact again I7 n7
  | brk=>obtain⟨jz,H7,I7,q7⟩:=q7;exact⟨jz,H7,I7.tV,q7⟩
  | ret v=>obtain⟨x7,jz,H7,I7,r7,q7⟩:=q7;exact⟨x7,jz,H7,I7.tV,r7,q7⟩
end
end L2
namespace L2
open PySem PySem.Spec PyProof.Rows
noncomputable abbrev R2:=V->V->Hp->VK->Prop
noncomputable def bW(X:Cx)(f:Value->Value->Sem Value)(r:R2):Prop :=
 ∀(pins:List (Addr × Obj)) (s:Shared) (σ:St) (H:Hp) (x y:V) (v u:Value) (Q:VK),Inv X pins σ H s->RelV x v->RelV y u->r x y H Q ->
  wpAny (model X.prog X.w) X.A (f v u) (EP X pins σ Q) X.xe s
noncomputable def fE(X:Cx)(f:Value)(r:List V->Hp->VK->Prop):Prop :=
 ∀(pins:List (Addr × Obj)) (s:Shared) (σ:St) (H:Hp) (xs:List V) (us:List Value) (Q:VK),Inv X pins σ H s->Vals xs us->r xs H Q ->
  wpAny (model X.prog X.w) X.A (call f us) (EP X pins σ Q) X.xe s
noncomputable def tY(r:R2)(ta tb:TE):TE:=λσ H Q=>ta σ H λx H1=>tb σ H1 λy H2=>r x y H2 Q
noncomputable def rI(C:Int->Int->Prop)(g:Int->Int->V):R2:=λx y H Q=>∃i j,x=.int i/\y=.int j/\C i j/\Q (g i j) H
noncomputable def ik(g:Int->Int->V):R2:=λx y H Q=>∃i j,x=.int i/\y=.int j/\Q (g i j) H
section
variable{X:Cx}{a b c:Expr}{ta tb tc:TE}{pos:Pos}
theorem AX(ha:PE X a ta)(hb:PE X b tb){pins:List (Addr × Obj)}{s:Shared}{σ:St}{H:Hp}{R:V->V->Hp->Prop}(I:Inv X pins σ H s)
  (h:ta σ H λx H1=>tb σ H1 λy H2=>R x y H2) {Q:Value->Shared->Prop} {f:Value->Value->Sem Value}
  (hf:∀v u s2 x y H2,Inv X pins σ H2 s2->RelV x v->RelV y u->R x y H2->wpAny (model X.prog X.w) X.A (f v u) Q X.xe s2) :
  wpAny (model X.prog X.w) X.A (eval a X.env) (λv bh=>wpAny (model X.prog X.w) X.A (eval b X.env) (λu jw=>wpAny (model X.prog X.w) X.A (f v u) Q X.xe jw) X.xe bh) X.xe s:=by
 refine aD (ha pins s σ H _ I h) λv s1 ⟨x,H1,I1,r1,q1⟩=>?_
 refine aD (hb pins s1 σ H1 _ I1 q1) λu s2 ⟨y,H2,I2,r2,q2⟩=>?_
 exact hf v u s2 x y H2 I2 r1 r2 q2
theorem by4{op:Operator}{r:R2}(ho:bW X (binaryOp op) r)(ha:PE X a ta)(hb:PE X b tb):PE X (.BinOp a op b pos) (tY r ta tb):=by
 intro pins s σ H Q I h
 exact wpAny_BinOp (AX ha hb I h λv u s2 x y H2 I2 rx ry q=>ho pins s2 σ H2 x y v u Q I2 rx ry q)
theorem pP{f:Value->Value->Sem Value}{C:Int->Int->Prop}{g:Int->Int->Int}
  (rule:∀(i j:Int) (t u:Tok) (s:Shared) (Q:Value->Shared->Prop) (E:Value->Shared->Prop),C i j->Q (.int (g i j) s.toks) { s with toks:=s.toks+1 }->wpAny (model X.prog X.w) X.A (f (.int i t) (.int j u)) Q E s) :
  bW X f (rI C λi j=>.int (g i j)):=by
 intro pins s σ H x y v u Q I rx ry h
 obtain⟨i,j,rfl,rfl,hc,q⟩:=h
 obtain⟨t,rfl⟩:=rx
 obtain⟨t',rfl⟩:=ry
 exact rule i j t t' s _ _ hc ⟨.int (g i j),H,I.tok _,⟨_,rfl⟩,q⟩
theorem pQ{f:Value->Value->Sem Value}{g:Int->Int->Int}
  (rule:∀(i j:Int) (t u:Tok) (s:Shared) (Q:Value->Shared->Prop) (E:Value->Shared->Prop),Q (.int (g i j) s.toks) { s with toks:=s.toks+1 }->wpAny (model X.prog X.w) X.A (f (.int i t) (.int j u)) Q E s) :
  bW X f (ik λi j=>.int (g i j)):=by
 intro pins s σ H x y v u Q I rx ry h
 obtain⟨i,j,rfl,rfl,q⟩:=h
 obtain⟨t,rfl⟩:=rx
 obtain⟨t',rfl⟩:=ry
 exact rule i j t t' s _ _ ⟨.int (g i j),H,I.tok _,⟨_,rfl⟩,q⟩
theorem ya{f:Value->Value->Sem Value}{g:Int->Int->Bool}
  (rule:∀(i j:Int) (t u:Tok) (s:Shared) (Q:Value->Shared->Prop) (E:Value->Shared->Prop),Q (.bool (g i j)) s->wpAny (model X.prog X.w) X.A (f (.int i t) (.int j u)) Q E s) :
  bW X f (ik λi j=>.bl (g i j)):=by
 intro pins s σ H x y v u Q I rx ry h
 obtain⟨i,j,rfl,rfl,q⟩:=h
 obtain⟨t,rfl⟩:=rx
 obtain⟨t',rfl⟩:=ry
 exact rule i j t t' s _ _ ⟨.bl (g i j),H,I,rfl,q⟩
noncomputable def gO(i j:Int):Prop:=(-(2 ^ 64)<i/\i<2 ^ 64)\/(-(2 ^ 64)<j/\j<2 ^ 64)
theorem gO.ok{i j:Int}(h:gO i j):IntMulOk i j:=by
 rcases h with⟨h1,h2⟩ | ⟨h1,h2⟩
 ·exact .of_left (intBits_le_64 h1 h2)
 ·exact .of_right (intBits_le_64 h1 h2)
theorem Q4(k:Nat):(0:Int)<=2 ^ k:=by
 rw[two_pow_cast]
 exact Ht _
theorem Q5:bW X (binaryOp .Add) (ik λi j=>.int (i+j)):=pQ λ_ _ _ _ _ _ _ q=>add_int q
theorem AY:bW X (binaryOp .Sub) (ik λi j=>.int (i-j)):=pQ λ_ _ _ _ _ _ _ q=>sub_int q
theorem Q6:bW X (binaryOp .Mod) (rI (λ_ j=>0<j) λi j=>.int (i%j)):=pP λi j _ _ _ _ _ hc q=>by
 have h1:(0:Int)<j:=hc
 exact mod_int' (by omega) (by rw[Int.fmod_eq_emod_of_nonneg i (by omega)];exact q)
theorem Q7:bW X (binaryOp .RShift) (rI (λ_ j=>0<=j) λi j=>.int (i/2 ^ j.toNat)):=pP λi j _ _ _ _ _ hc q =>
 rshift_int hc (by rw[Ph i (Q4 _)];exact q)
theorem Q8:bW X (binaryOp .BitAnd) (ik λi j=>.int (mV i j)):=pQ λ_ _ _ _ _ _ _ q=>and_int q
theorem Q9:bW X (binaryOp .BitXor) (ik λi j=>.int (lZ i j)):=pQ λ_ _ _ _ _ _ _ q=>xor_int q
theorem Ra:bW X (inplaceOp .Add) (ik λi j=>.int (i+j)):=pQ λ_ _ _ _ _ _ _ q=>iadd_int q
theorem Rb:bW X (inplaceOp .BitXor) (ik λi j=>.int (lZ i j)):=pQ λ_ _ _ _ _ _ _ q=>ixor_int q
end
section
variable{X:Cx}{a b c:Expr}{ta tb tc:TE}{pos:Pos}
theorem Rc{pins:List (Addr × Obj)}{σ:St}{H:Hp}{s:Shared}{Q:VK}{k k':Bool}(I:Inv X pins σ H s)(q:Q (.bl k) H)(e:k=k'):EP X pins σ Q (.bool k') s:=by
 subst e
 exact⟨.bl k,H,I,rfl,q⟩
theorem Rh:bW X (compareOp .Lt) (ik λi j=>.bl (decide (i<j))):=ya λ_ _ _ _ _ _ _ q=>lt_int q
theorem Ri:bW X (compareOp .LtE) (ik λi j=>.bl (decide (i<=j))):=ya λ_ _ _ _ _ _ _ q=>le_int q
theorem Rj:bW X (compareOp .Gt) (ik λi j=>.bl (decide (j<i))):=ya λ_ _ _ _ _ _ _ q=>gt_int q
theorem Rk:bW X (compareOp .GtE) (ik λi j=>.bl (decide (j<=i))):=ya λ_ _ _ _ _ _ _ q=>ge_int q
theorem Rl:bW X (compareOp .IsNot) (λx y H Q=>y=.ak/\Q (.bl (!decide (x=.ak))) H):=by
 intro pins s σ H x y v u Q I rx ry h
 obtain⟨rfl,q⟩:=h
 cases ry
 refine isnot_none_gen (Rc I q ?_)
 cases x<;>first
  | (cases rx;rfl)
  | (obtain⟨t,rfl⟩:=rx;rfl)
theorem bW.or{f:Value->Value->Sem Value}{r r':R2}(h:bW X f r)(h':bW X f r'):bW X f (λx y H Q=>r x y H Q\/r' x y H Q):=by
 intro pins s σ H x y v u Q I rx ry q
 rcases q with q | q
 ·exact h pins s σ H x y v u Q I rx ry q
 ·exact h' pins s σ H x y v u Q I rx ry q
theorem dB(b:Expr){op:CmpOp}(h:op≠.In:=by decide)(h2:op≠.NotIn:=by decide):behindInMarks op b=false:=by
 have e1:(op==CmpOp.In)=false:=by cases op<;>first | rfl | exact absurd rfl h
 have e2:(op==CmpOp.NotIn)=false:=by cases op<;>first | rfl | exact absurd rfl h2
 cases b<;>simp[behindInMarks,e1,e2]
theorem Rm{op:CmpOp}{r:R2}(ho:bW X (compareOp op) r)(ha:PE X a ta)(hb:PE X b tb)(hm:behindInMarks op b=false):PE X (.Compare a [op] [b] pos) (tY r ta tb):=by
 intro pins s σ H Q I h
 exact wpAny_Compare1 (AX ha hb I h λv u s2 x y H2 I2 rx ry q=>ho pins s2 σ H2 x y v u Q I2 rx ry q) hm
noncomputable def IA(t:TE):TT:=λσ H Q=>t σ H λx H'=>∃k,x=.bl k/\Q k H'
theorem Rn{op:CmpOp}{r:R2}(ho:bW X (compareOp op) r)(ha:PE X a ta)(hb:PE X b tb)(hm:behindInMarks op b=false):PT X (.Compare a [op] [b] pos) (IA (tY r ta tb)):=by
 intro pins s σ H Q I h
 refine wpAny_isTrue_Compare1 (aD (ha pins s σ H _ I h) λv s1 ⟨x,H1,I1,r1,q1⟩=>aD (hb pins s1 σ H1 _ I1 q1) λu s2 ⟨y,H2,I2,r2,q2⟩ =>
  aD (ho pins s2 σ H2 x y v u _ I2 r1 r2 q2) λc s3 ⟨z,H3,I3,r3,k,e,q3⟩=>?_) hm
 subst e
 cases r3
 exact wpAny_truthy_bool ⟨H3,I3,q3⟩
noncomputable def IB(r r':R2)(ta tb tc:TE):TE:=λσ H Q=>ta σ H λx H1=>tb σ H1 λy H2=>r x y H2 λz H3=>∃k,z=.bl k /\
 (if k=true then tc σ H3 λw' H4=>r' y w' H4 Q else Q (.bl false) H3)
theorem Ro{op nr:CmpOp}{r r':R2}(ho:bW X (compareOp op) r)(jv:bW X (compareOp nr) r')(ha:PE X a ta)(hb:PE X b tb)(hc:PE X c tc)
  (hm:lastMarks [op,nr] [b,c]=false:=by with_unfolding_all rfl):PE X (.Compare a [op,nr] [b,c] pos) (IB r r' ta tb tc):=by
 intro pins s σ H Q I h
 refine Compare_chain (aD (ha pins s σ H _ I h) λv s1 ⟨x,H1,I1,r1,q1⟩=>chain_link (aD (hb pins s1 σ H1 _ I1 q1) λu s2 ⟨y,H2,I2,r2,q2⟩ =>
  aD (ho pins s2 σ H2 x y v u _ I2 r1 r2 q2) λd s3 ⟨z,H3,I3,r3,k,e,q3⟩=>?_)) hm
 subst e
 cases r3
 refine wpAny_truthy_bool ?_
 cases k with
 | false=>exact ite_ff ⟨.bl false,H3,I3,rfl,q3⟩
 | true=>exact ite_tt (chain_last (aD (hc pins s3 σ H3 _ I3 q3) λw' s4 ⟨z',H4,I4,r4,q4⟩=>jv pins s4 σ H4 y z' u w' Q I4 r2 r4 q4))
theorem nt:(sizeLine:Nat)<2 ^ 63:=by rw[sizeLine_eq];decide
theorem Rp:bW X (binaryOp .Add) (λx y H Q=>∃i j,x=.str i/\y=.str j/\i.length+j.length<=sizeLine/\Q (.str (i++j)) H):=by
 intro pins s σ H x y v u Q I rx ry h
 obtain⟨i,j,rfl,rfl,hz,q⟩:=h
 obtain⟨t,rfl⟩:=rx
 obtain⟨t',rfl⟩:=ry
 exact add_str (λt' tk=>⟨.str (i++j),H,I.tok _,⟨_,rfl⟩,q⟩) hz
theorem tZ{x:V}{us:List Value}(r:Vals [x] us):∃u,us=[u]/\RelV x u:=by
 cases r with
 | cons r1 r2=>cases r2;exact⟨_,rfl,r1⟩
theorem Rq{x y:V}{us:List Value}(r:Vals [x,y] us):∃u w',us=[u,w']/\RelV x u/\RelV y w':=by
 cases r with
 | cons r1 r2 =>
  cases r2 with
  | cons r3 r4=>cases r4;exact⟨_,_,rfl,r1,r3⟩
theorem Rt(hc:X.calm=true):fE X (.builtin "min") (λxs H Q=>∃i j,xs=[.int i,.int j]/\Q (.int (if j<i then j else i)) H):=by
 intro pins s σ H xs us Q I r h
 obtain⟨i,j,rfl,q⟩:=h
 obtain⟨u,w',rfl,⟨t,rfl⟩,⟨t',rfl⟩⟩:=Rq r
 refine min_two_ints (I.ok.hd hc) λh' tk k=>⟨_,H,I.kept k,?_,q⟩
 by_cases hj:j<i
 ·rw[if_pos hj,if_pos hj];exact⟨_,rfl⟩
 ·rw[if_neg hj,if_neg hj];exact⟨_,rfl⟩
theorem Ru:fE X (.type "int") (λxs H Q=>(∃i,xs=[.int i]/\Q (.int i) H)\/∃k,xs=[.bl k]/\Q (.int (if k then 1 else 0)) H):=by
 intro pins s σ H xs us Q I r h
 rcases h with⟨i,rfl,q⟩ | ⟨k,rfl,q⟩
 ·obtain⟨u,rfl,t,rfl⟩:=tZ r
  exact call_int_int ⟨.int i,H,I,⟨_,rfl⟩,q⟩
 ·obtain⟨u,rfl,r1⟩:=tZ r
  cases r1
  exact call_int_bool ⟨.int (if k then 1 else 0),H,I.tok _,⟨_,rfl⟩,q⟩
end
end L2
namespace L2
open PySem PySem.Spec PyProof.Rows
structure nu(h:Heap)(x dx C:Addr)(mA:Str->Option Value):Prop where
 obj:h.get? x=some (PySem.W.instObj C dx)
 ns:h.Ns1 dx mA
 ne:dx≠x
theorem Rw{h:Heap}{dx:Addr}{mA:Str->Option Value}(n:h.Ns1 dx mA):∃od,h.get? dx=some od/\∀name,PySem.W.lookIn name od=some (mA name):=by
 obtain⟨o,es,ep,ho,hd,hk,_,hm⟩:=n
 refine⟨o,ho,λname=>?_⟩
 have e:=hm name
 unfold nsFind findBy at e
 rw[<-Array.find?_toList]at e
 unfold PySem.W.lookIn
 rw[hd]
 dsimp only
 split
 ·rename_i y q
  rw[q]at e
  exact congrArg some e
 ·rename_i q
  rw[q]at e
  have a:es.toList.any (·.refKey)=false:=by
   rw[List.any_eq_false]
   intro y hy
   obtain⟨z,t,Rx⟩:=hk y (Array.mem_toList_iff.mp hy)
   simp[DictEntry.refKey,Rx]
  have a':¬ es.toList.any (·.refKey)=true:=by rw[a];exact gh
  rw[if_neg a']
  exact congrArg some e
theorem nu.look{h:Heap}{x dx C:Addr}{mA:Str->Option Value}(I:nu h x dx C mA):∃od,PySem.W.InstAt h x (PySem.W.instObj C dx) C (some od)/\∀name,PySem.W.lookIn name od=some (mA name) :=
 let⟨od,ho,hl⟩:=Rw I.ns
 ⟨od,⟨I.obj,rfl,rfl,ho⟩,hl⟩
section
variable{prog:Program}{w:World}{A:Around}{E:Value->Shared->Prop}{s:Shared}{K:PySem.W.Frag}{x dx C f:Addr}{mA:Str->Option Value}{name:Str}{v:Value}
theorem Ry{expr:Bool}{Q:Value->Shared->Prop}(X:K.In s.heap)(I:nu s.heap x dx C mA)(hg:PySem.W.plainGet K C name=true)(hh:PySem.W.hasDictIn K C=true)
  (ha:PySem.W.findIn K (.ref C) name=some none) (hv:mA name=some v) (Rz:PySem.W.handedIn v=true) (h:Q v { s with toks:=s.toks+1 }) :
  wpAny (model prog w) A (getAttr (.ref x) name expr) Q E s:=by
 obtain⟨od,J,hl⟩:=I.look
 exact PySem.W.get_value X J (PySem.W.plainGet_of hg).1 (PySem.W.findObj_own hh ha rfl (by rw[hl,hv])) Rz h
theorem RA{pl:Sem Bool}{Q:Value × List Value->Shared->Prop}(X:K.In s.heap)(I:nu s.heap x dx C mA)(hg:PySem.W.plainGet K C name=true)
  (hf:PySem.W.findIn K (.ref C) name=some (some (.ref f))) (ht:PySem.W.isFn K (.ref f)=true) (hv:mA name=none) (h:Q (.ref f,[.ref x]) s) :
  wpAny (model prog w) A (getMethod (.ref x) name pl) Q E s:=by
 obtain⟨od,J,hl⟩:=I.look
 exact PySem.W.method_fn X J (PySem.W.plainGet_of hg).1 (PySem.W.plainGet_of hg).2 hf (beq_iff_eq.mp ht) (by show(PySem.W.lookIn name od).map (·.isSome)=some false;rw[hl,hv];rfl) h
theorem RB{ns:List Str}{Q:Unit->Shared->Prop}(X:K.In s.heap)(I:nu s.heap x dx C mA)
  (hs:PySem.W.findIn K (.ref C) "__setattr__"=some (some (.builtin "object.__setattr__"))) (hp:PySem.W.plainOver K C=true) (ht:PySem.W.takerIn K C name=some none) (hh:PySem.W.hasDictIn K C=true)
  (hw:PySem.Within mA ns) (iq:ns.length<=sizeLine)
  (h:∀h',nu h' x dx C (λy=>if y=name then some v else mA y)->Heap.SameBut dx s.heap h'->Q () { s with heap:=h',toks:=s.toks+2 }) :
  wpAny (model prog w) A (setAttr (.ref x) name v) Q E s:=by
 obtain⟨od,J,hl⟩:=I.look
 refine PySem.W.set_plain X J hs (PySem.W.osa_open (s:={ s with toks:=s.toks+1 }) (r:=none) X J hp ht λb=>?_)
 obtain⟨cd,hc,tM⟩:=PySem.W.any_some hh
 have hx:s.heap.get? x=some ⟨.ref C,some dx,.plain,#[]⟩:=I.obj
 refine wpAny_bind (wpAny_pure (wpAny_bind (wpAny_bind (wpAny_loadPart hx (wpAny_bind (PySem.W.Looks.here (s:={ s with toks:=s.toks+1 }) (PySem.W.looks_clsIn X hc) ?_))))))
 rw[tM]
 refine wpAny_pure (a:=some dx) (wpAny_bind (wpAny_pure (wpAny_bind ?_)))
 refine wpAny_nsSet1 (s:={ s with toks:=s.toks+1 }) I.ns λh' mj fC=>?_
 obtain⟨oD,esD,epD,RC,RD,RE⟩:=mj.count (PySem.Within.cons name v hw)
 refine wpAny_bind (wpAny_lookBehind RC (by rw[RD];exact pastItsLine_dict (dH RE (by rw[fw];omega))) ?_)
 exact wpAny_pure (h _ ⟨(fC.2 _ (dP I.ne)).trans I.obj,mj,I.ne⟩ fC)
theorem RF{R:Result->Shared->Prop}{vs:List Value}{kw:List (Str × Value)}(X:K.In s.heap)(hm:PySem.W.makesIn K C=true)
  (hi:PySem.W.findIn K (.ref C) "__init__"=some (some (.ref f))) (hf:PySem.W.typeIn K (.ref f)=some (.type "function"))
  (h:codeAny (model prog w) (A.under (.builtin "type.__call__" ⟨.ref C::vs,kw⟩)) (.call (.ref f) ⟨.ref (s.heap.objs.size+1)::vs,kw⟩) (PySem.W.InitBack (s.heap.objs.size+1) R)
   { s with heap:=(s.heap.push PySem.W.emptyDict).push (PySem.W.instObj C s.heap.objs.size) }) :
  codeAny (model prog w) A (.call (.ref C) ⟨vs,kw⟩) R s:=by
 obtain⟨hh,g,d,t,os⟩:=s
 exact PySem.W.make_core (PySem.W.makes_of X hm) (PySem.W.looks_findIn X hi) (λself=>PySem.W.bind_fn X self hf) (.inl rfl) h
end
noncomputable def bf(f:Str)(v:V):List (Str × V)->List (Str × V)
 | []=>[(f,v)]
 | (g,x)::r=>if g=f then(g,v)::r else(g,x)::bf f v r
theorem IC(f g:Str)(v:V):∀fs:List (Str × V),(bf f v fs).lookup g=if g=f then some v else fs.lookup g
 | []=>by
  show jP g [(f,v)]=_
  by_cases h:g=f
  ·have hb:(g==f)=true:=beq_iff_eq.mpr h
   simp only[jP,hb,if_pos h]
  ·have hb:(g==f)=false:=beq_eq_false_iff_ne.mpr h
   simp only[jP,hb,if_neg h]
 | (k,x)::r=>by
  have ih:=IC f g v r
  rw[show bf f v ((k,x)::r)=(if k=f then(k,v)::r else(k,x)::bf f v r) from rfl]
  by_cases hk:k=f
  ·rw[if_pos hk]
   by_cases h:g=k
   ·have hb:(g==k)=true:=beq_iff_eq.mpr h
    simp only[jP,hb,if_pos (h.trans hk)]
   ·have hb:(g==k)=false:=beq_eq_false_iff_ne.mpr h
    simp only[jP,hb,if_neg (λe:g=f=>h (e.trans hk.symm))]
  ·rw[if_neg hk]
   by_cases h:g=k
   ·have hb:(g==k)=true:=beq_iff_eq.mpr h
    simp only[jP,hb,if_neg (λe:g=f=>hk (h.symm.trans e))]
   ·have hb:(g==k)=false:=beq_eq_false_iff_ne.mpr h
    simp only[jP,hb]
    exact ih
theorem AZ(f:Str)(v:V):∀fs:List (Str × V),f∈(bf f v fs).map (·.1)/\∀g,g∈fs.map (·.1)->g∈(bf f v fs).map (·.1)
 | []=>⟨by simp[bf],λg h=>by simp at h⟩
 | (k,x)::r=>by
  obtain⟨i1,i2⟩:=AZ f v r
  rw[show bf f v ((k,x)::r)=(if k=f then(k,v)::r else(k,x)::bf f v r) from rfl]
  by_cases hk:k=f
  ·rw[if_pos hk]
   subst hk
   exact⟨by simp,λg h=>by simpa using h⟩
  ·rw[if_neg hk]
   refine⟨?_,λg h=>?_⟩
   ·rw[bV]
    exact dJ _ i1
   ·rw[bV]at h ⊢
    rcases bR.mp h with e | e
    ·exact bR.mpr (.inl e)
    ·exact dJ _ (i2 g e)
theorem ID(f:Str)(v:V):∀fs:List (Str × V),(bf f v fs).length<=fs.length+1
 | []=>by simp[bf]
 | (k,x)::r=>by
  have ih:=ID f v r
  rw[show bf f v ((k,x)::r)=(if k=f then(k,v)::r else(k,x)::bf f v r) from rfl]
  by_cases hk:k=f
  ·rw[if_pos hk,fw,fw];omega
  ·rw[if_neg hk,fw,fw];omega
theorem jS.some_of{v:V}{o:Option Value}(r:jS (some v) o):∃u,o=some u/\RelV v u:=by
 cases o with
 | none=>exact(show False from r).elim
 | some u=>exact⟨u,rfl,r⟩
theorem jS.none_of{o:Option Value}(r:jS none o):o=none:=by
 cases o with
 | none=>rfl
 | some u=>exact(show False from r).elim
theorem RG{v:V}{u:Value}(r:RelV v u):PySem.W.handedIn u=true:=by
 cases v with
 | ak=>cases(show u=mU from r);rfl
 | bl b=>cases(show u=zO b from r);rfl
 | int i=>obtain⟨t,e⟩:=(show ∃t,u=sS i t from r);cases e;rfl
 | str x=>obtain⟨t,e⟩:=(show ∃t,u=Value.str x t from r);cases e;rfl
 | xI b=>obtain⟨t,e⟩:=(show ∃t,u=Value.bytes b t from r);cases e;rfl
 | m9 b=>obtain⟨t,e⟩:=(show ∃t,u=Value.float b t from r);cases e;rfl
 | ref a=>cases(show u=dG a from r);rfl
 | ty n=>cases(show u=Value.type n from r);rfl
section
variable{P:Program}{w:World}{H H':Hp}{h h':Heap}{a C dx:Addr}{fs fs':List (Str × V)}
theorem yb(az:bZ P w H h)(e:H a=some (.ins C dx fs)):∃mA,nu h a dx C mA/\(∀f,jS (fs.lookup f) (mA f))/\PySem.Within mA (fs.map (·.1))/\fs.length<=1000/\H dx=some (.own a):=by
 obtain⟨d,z,ne,ob,mA,n,r,q⟩:=(show c9 P w H h a (.ins C dx fs) from az a _ e)
 exact⟨mA,⟨ob,n,ne⟩,r,q,z,d⟩
end
structure cR(K:PySem.W.Frag)(C:Addr):Prop where
 pg:PySem.W.plainGet K C Str.empty=true
 hd:PySem.W.hasDictIn K C=true
 po:PySem.W.plainOver K C=true
 sa:PySem.W.findIn K (.ref C) "__setattr__"=some (some (.builtin "object.__setattr__"))
theorem cR.get{K:PySem.W.Frag}{C:Addr}(c:cR K C)(f:Str):PySem.W.plainGet K C f=true:=c.pg
noncomputable def bj(K:PySem.W.Frag)(C:Addr)(f:Str):Prop:=PySem.W.findIn K (.ref C) f=some none
theorem bj.RH{K:PySem.W.Frag}{C:Addr}{f:Str}(n:bj K C f):PySem.W.takerIn K C f=some none:=by
 unfold PySem.W.takerIn
 rw[show PySem.W.findIn K (.ref C) f=some none from n]
 rfl
structure Meth(K:PySem.W.Frag)(C:Addr)(m:Str)(f:Addr):Prop where
 at_:PySem.W.findIn K (.ref C) m=some (some (.ref f))
 fn:PySem.W.isFn K (.ref f)=true
 kp:PySem.W.keepIn K (.ref f)=true
section
variable{X:Cx}{pins:List (Addr × Obj)}{σ:St}{H:Hp}{s:Shared}{a C dx:Addr}{fs:List (Str × V)}{f:Str}{v:V}{A:Around}{E:Value->Shared->Prop}
theorem RI{b:Bool}{Q:Value->Shared->Prop}(I:Inv X pins σ H s)(e:H a=some (.ins C dx fs))(c:cR X.K C)(n:bj X.K C f)(l:fs.lookup f=some v)
  (h:∀u s',Inv X pins σ H s'->RelV v u->Q u s'):wpAny (model X.prog X.w) A (getAttr (.ref a) f b) Q E s:=by
 obtain⟨mA,O,r,_,_,_⟩:=yb I.az e
 obtain⟨u,hu,ru⟩:=jS.some_of (v:=v) (o:=mA f) (by rw[<-l];exact r f)
 exact Ry I.cE O (c.get f) c.hd n hu (RG ru) (h u _ (I.tok _) ru)
theorem yc{m:Str}{g:Addr}{pl:Sem Bool}{Q:Value × List Value->Shared->Prop}(I:Inv X pins σ H s)(e:H a=some (.ins C dx fs))(c:cR X.K C)(k:Meth X.K C m g)(l:fs.lookup m=none)
  (h:Q (.ref g,[.ref a]) s):wpAny (model X.prog X.w) A (getMethod (.ref a) m pl) Q E s:=by
 obtain⟨mA,O,r,_,_,_⟩:=yb I.az e
 have hn:mA m=none:=jS.none_of (by rw[<-l];exact r m)
 exact RA I.cE O (c.get m) k.at_ k.fn hn h
theorem RJ{y:V}{u:Value}{Q:Unit->Shared->Prop}(I:Inv X pins σ H s)(e:H a=some (.ins C dx fs))(c:cR X.K C)(n:bj X.K C f)(hl:fs.length<1000)(ry:RelV y u)
  (h:∀s',Inv X pins σ (upd H a (.ins C dx (bf f y fs))) s'->Q () s'):wpAny (model X.prog X.w) A (setAttr (.ref a) f u) Q E s:=by
 obtain⟨mA,O,r,wi,_,ho⟩:=yb I.az e
 have hz:(fs.map (·.1)).length<=sizeLine:=by rw[bQ,sizeLine_eq];omega
 refine RB I.cE O c.sa c.po n.RH c.hd wi hz λh' O' sb=>h _ ?_
 have hd:∃o,h'.get? dx=some o:=let⟨o,_,_,e',_⟩:=O'.ns;⟨o,e'⟩
 refine I.write (x:=a) (e:=dx) (by rw[e];exact o8) (.inr ho) (λb q hb z=>(sb.2 b hb).trans z) hd ?_
 refine⟨by rw[aS O.ne];exact ho,?_,O.ne,O'.obj,_,O'.ns,λg=>?_,λg hg=>?_⟩
 ·have:=ID f y fs;omega
 ·show jS ((bf f y fs).lookup g) (if g=f then some u else mA g)
  rw[IC]
  by_cases q:g=f
  ·rw[if_pos q,if_pos q];exact ry
  ·rw[if_neg q,if_neg q];exact r g
 ·by_cases q:g=f
  ·rw[q];exact(AZ f y fs).1
  ·refine(AZ f y fs).2 g (wi g λz=>hg ?_)
   show(if g=f then some u else mA g)=none
   rw[if_neg q];exact z
theorem Inv.made(I:Inv X pins σ H s):Inv X pins σ (upd (upd H s.heap.objs.size (.own (s.heap.objs.size+1))) (s.heap.objs.size+1) (.ins C s.heap.objs.size []))
  { s with heap:=(s.heap.push PySem.W.emptyDict).push (PySem.W.instObj C s.heap.objs.size) }:=by
 have e1:(s.heap.push PySem.W.emptyDict).get? s.heap.objs.size=some PySem.W.emptyDict:=gi s.heap rfl
 have e2:((s.heap.push PySem.W.emptyDict).push (PySem.W.instObj C s.heap.objs.size)).get? (s.heap.objs.size+1)=some (PySem.W.instObj C s.heap.objs.size):=by
  have:=gi (s.heap.push PySem.W.emptyDict) (o:=PySem.W.instObj C s.heap.objs.size) rfl
  rwa [sV]at this
 have e3:(s.heap.push PySem.W.emptyDict).Ns s.heap.objs.size (λ_=>none):=⟨PySem.W.emptyDict,#[],_,e1,rfl,(λe he=>absurd he (by simp)),λ_=>rfl⟩
 have I1:=I.laid (a:=s.heap.objs.size) (o:=.own (s.heap.objs.size+1)) (h':=s.heap.push PySem.W.emptyDict) (t':=s.toks) (λb u q=>dQ _ q) (bI _) ⟨_,e1⟩
 refine I1.laid (a:=s.heap.objs.size+1) (o:=.ins C s.heap.objs.size []) (t':=s.toks) (λb u q=>dQ _ q) (zQ (sV _ _)) ?_
 have ne:s.heap.objs.size≠s.heap.objs.size+1:=eO (Hu _)
 refine⟨by rw[aS ne,bC],mW _,ne,e2,λ_=>none,(Heap.Ns1.of_empty e3).at λo q=>dQ _ q,λ_=>o8,λy hy=>absurd rfl hy⟩
theorem RK{prog:Program}{w:World}{env:Env}{e:Expr}{f:Str}{pos:Pos}{s:Shared}{Q:Value->Shared->Prop}(hb:attributeBase e f env (eval e env)=eval e env)
  (h:wpAny (model prog w) A (eval e env) (λo bh=>wpAny (model prog w) A (getAttr o f true) Q E bh) E s):wpAny (model prog w) A (eval (.Attribute e f pos) env) Q E s :=
 Attribute_any_ h (by rw[arm_eval_Attribute,hb])
end
noncomputable def RL(K:PySem.W.Frag)(ta:TE)(f:Str):TE:=λσ H Q=>ta σ H λx H1=>∃a C dx fs v,x=.ref a/\H1 a=some (.ins C dx fs)/\cR K C/\bj K C f/\fs.lookup f=some v/\Q v H1
noncomputable def RM(K:PySem.W.Frag)(ta tv:TE)(f:Str):TS:=λD σ H=>tv σ H λy H1=>ta σ H1 λx H2=>∃a C dx fs,x=.ref a/\H2 a=some (.ins C dx fs)/\cR K C/\bj K C f/\fs.length<1000 /\
 D.nx σ (upd H2 a (.ins C dx (bf f y fs)))
section
variable{X:Cx}{o e value:Expr}{f:Str}{pos pos' jx:Pos}{ta tv:TE}
theorem nv(he:PE X e ta)(hb:attributeBase e f X.env (eval e X.env)=eval e X.env):PE X (.Attribute e f pos) (RL X.K ta f):=by
 intro pins s σ H Q I h
 refine RK hb (aD (he pins s σ H _ I h) λu s1 ⟨x,H1,I1,rx,a,C,dx,fs,v,ex,ea,c,n,l,q⟩=>?_)
 subst ex
 obtain rfl:u=dG a:=rx
 exact RI I1 ea c n l λu' s2 I2 ru=>⟨v,H1,I2,ru,q⟩
theorem fF(ha:PE X o ta)(hv:PE X value tv)(hs:swapsWith value (some (.Attribute o f pos')) pos.line X.env=pure false):PS X (.Assign [.Attribute o f pos'] value pos) (RM X.K ta tv f):=by
 intro pins s σ H D I h
 refine plainObj_wpAny_Assign_Attribute (aD (hv pins s σ H _ I h) λu s1 ⟨y,H1,I1,ry,q⟩=>aD (ha pins s1 σ H1 _ I1 q) λov s2 ⟨x,H2,I2,rx,a,C,dx,fs,ex,ea,c,n,l,q2⟩=>?_) hs
 subst ex
 obtain rfl:ov=dG a:=rx
 exact RJ I2 ea c n l ry λs3 I3=>⟨σ,_,I3,q2⟩
end
section
variable{X:Cx}{pins:List (Addr × Obj)}{σ:St}{H:Hp}{s:Shared}{A:Around}{E:Value->Shared->Prop}{Q:Value->Shared->Prop}{c:Value}{b:Bool}
inductive gr(K:PySem.W.Frag)(H:Hp):V->Value->Prop where
 | ak:gr K H .ak (.type "NoneType")
 | bl (x:Bool):gr K H (.bl x) (.type "bool")
 | int (i:Int):gr K H (.int i) (.type "int")
 | str (x:Str):gr K H (.str x) (.type "str")
 | m9 (x:UInt64):gr K H (.m9 x) (.type "float")
 | lst {a:Addr} {xs:List V} (e:H a=some (.lst xs)):gr K H (.ref a) (.type "list")
 | bc {a:Addr} {o:Obj} {xs:List V} (e:H a=some (.bc o (.lst xs))):gr K H (.ref a) (.type "list")
 | tup {a:Addr} {xs:List V} (e:H a=some (.tup xs)):gr K H (.ref a) (.type "tuple")
 | dK {a:Addr} {cQ:List (Key × V)} (e:H a=some (.dK cQ)):gr K H (.ref a) (.type "dict")
 | dT {a:Addr} {cQ:List (List Key × V)} (e:H a=some (.dT cQ)):gr K H (.ref a) (.type "dict")
 | ins {a C dx:Addr} {fs:List (Str × V)} (e:H a=some (.ins C dx fs)) (cl:cR K C) (ha:PySem.W.findIn K (.ref C) "__class__"=some (some (.builtin "object.__class__")))
   (hn:PySem.W.specialIn K (.builtin "object.__class__") "__get__"=some (some (.builtin "getset_descriptor.__get__"))) (IE:PySem.W.takesIn K (.builtin "object.__class__")=some true)
   (hm:PySem.W.mroIn K C (.type "object")=some true):gr K H (.ref a) (.ref C)
theorem RN{x:V}{u t:Value}(I:Inv X pins σ H s)(rx:RelV x u)(ty:gr X.K H x t)(e:PySem.W.kitOne X.K t c=some b)(h:∀tk,Q (.bool b) { s with toks:=tk }) :
  wpAny (model X.prog X.w) A (call (.builtin "isinstance") [u,c]) Q E s:=by
 cases ty with
 | ak=>cases(show u=mU from rx);exact PySem.W.kia_one PySem.W.kitx_none I.cE o8 e (λz=>nomatch z) h
 | bl y=>cases(show u=zO y from rx);exact PySem.W.kia_one PySem.W.kitx_bool I.cE o8 e (λz=>nomatch z) h
 | int i=>obtain⟨t,q⟩:=(show ∃t,u=sS i t from rx);cases q;exact PySem.W.kia_one PySem.W.kitx_int I.cE o8 e (λz=>nomatch z) h
 | str y=>obtain⟨t,q⟩:=(show ∃t,u=Value.str y t from rx);cases q;exact PySem.W.kia_one PySem.W.kitx_str I.cE o8 e (λz=>nomatch z) h
 | m9 y=>obtain⟨t,q⟩:=(show ∃t,u=Value.float y t from rx);cases q;exact PySem.W.kia_one PySem.W.kitx_float I.cE o8 e (λz=>nomatch z) h
 | @lst a xs ea =>
  cases(show u=dG a from rx)
  obtain⟨_,_,n,_,h1⟩:=(show c9 X.prog X.w H s.heap a (.lst xs) from I.az a _ ea)
  exact PySem.W.kia_one PySem.W.kitx_list I.cE ⟨_,h1,rfl⟩ e (λz=>nomatch z) h
 | @bc a ob xs ea =>
  cases(show u=dG a from rx)
  obtain⟨_,_,_,n,_,h1⟩:=(show c9 X.prog X.w H s.heap a (.bc ob (.lst xs)) from I.az a _ ea)
  exact PySem.W.kia_one PySem.W.kitx_list I.cE ⟨_,h1,rfl⟩ e (λz=>nomatch z) h
 | @tup a xs ea =>
  cases(show u=dG a from rx)
  obtain⟨_,_,_,p⟩:=(show c9 X.prog X.w H s.heap a (.tup xs) from I.az a _ ea)
  obtain⟨o,h1,h2,_⟩:=p
  exact PySem.W.kia_one PySem.W.kitx_tuple I.cE ⟨o,h1,h2⟩ e (λz=>nomatch z) h
 | @dK a cQ ea =>
  cases(show u=dG a from rx)
  obtain⟨_,_,vs,_,p⟩:=(show c9 X.prog X.w H s.heap a (.dK cQ) from I.az a _ ea)
  obtain⟨o,es,ep,h1,h2,_⟩:=p
  exact PySem.W.kia_one PySem.W.kitx_dict I.cE ⟨o,h1,h2.1⟩ e (λz=>nomatch z) h
 | @dT a cQ ea =>
  cases(show u=dG a from rx)
  obtain⟨_,_,xs,_,o,es,ep,h1,h2,_⟩:=(show c9 X.prog X.w H s.heap a (.dT cQ) from I.az a _ ea)
  exact PySem.W.kia_one PySem.W.kitx_dict I.cE ⟨o,h1,h2.1⟩ e (λz=>nomatch z) h
 | @ins a C dx fs ea cl ha hn IE hm =>
  cases(show u=dG a from rx)
  obtain⟨mA,O,_⟩:=yb I.az ea
  obtain⟨od,J,_⟩:=O.look
  exact PySem.W.kia_one (PySem.W.kitx_own (cl.get _) cl.hd ha hn IE hm) I.cE J e (λz=>nomatch z) h
end
end L2
namespace L2
open PySem PySem.Spec PyProof.Rows
structure bM(k:Nat)(A:Around):Prop where
 hd:A.handled=none
 dp:A.depth+3*k+5<recursionLimit
 un:A.units+16*k+200<cLine
theorem bM.mono{j k:Nat}{A:Around}(r:bM k A)(h:j<=k):bM j A:=⟨r.hd,by have:=r.dp;omega,by have:=r.un;omega⟩
theorem bM.deeper{k:Nat}{A:Around}(r:bM (k+1) A)(env:Env):bM k (A.deeper env) :=
 ⟨r.hd,by have:=r.dp;show A.depth+1+3*k+5<_;omega,by have:=r.un;show A.units+3+16*k+200<_;omega⟩
theorem RO{A:Around}{C:Addr}{us:List Value}{kw:List (Str × Value)}:(A.under (.builtin "type.__call__" ⟨.ref C::us,kw⟩)).depth=A.depth+1:=by
 first | rfl | simp[Around.under,Code.weight,Code.isCreation,Code.isGuard,Code.isCaller,Code.frames,Code.isFrame,guardIds]
theorem RP{A:Around}{C:Addr}{us:List Value}{kw:List (Str × Value)}:(A.under (.builtin "type.__call__" ⟨.ref C::us,kw⟩)).units=A.units+1:=by
 first | rfl | simp[Around.under,Code.cUnits,Code.frames,Code.isFrame]
theorem bM.make{k:Nat}{A:Around}(r:bM (k+1) A)(C:Addr)(us:List Value)(kw:List (Str × Value)):bM k (A.under (.builtin "type.__call__" ⟨.ref C::us,kw⟩)) :=
 ⟨r.hd,by have:=r.dp;rw[RO];omega,by have:=r.un;rw[RP];omega⟩
theorem bM.depth{k:Nat}{A:Around}(r:bM k A):A.depth<recursionLimit:=by have:=r.dp;omega
noncomputable def RQ:TA:=λ_ H Q=>Q [] H
noncomputable def RU(ta:TE)(tr:TA):TA:=λσ H Q=>ta σ H λx H1=>tr σ H1 λxs H2=>Q (x::xs) H2
section
variable{X:Cx}{e:Expr}{es:List Expr}{te:TE}{t:TA}{pos:Pos}
theorem dU:PA X [] RQ:=λ_ _ _ _ H Q I h=>Calls.spliced_nil ⟨[],H,I,.nil,h⟩
theorem cn(ha:PE X e te)(hr:PA X es t)(hs:starEach (e::es) X.env=(false,eval e X.env)::starEach es X.env:=by rfl):PA X (e::es) (RU te t):=by
 intro pos pins s σ H Q I h
 rw[hs]
 show wpAny _ _ (spliced ((false,eval e X.env)::backTo pos (starEach es X.env))) _ _ s
 refine Calls.spliced_cons (aD (ha pins s σ H _ I h) λu s1 ⟨x,H1,I1,r1,q1⟩=>?_)
 exact aD (hr pos pins s1 σ H1 _ I1 q1) λus s2 ⟨xs,H2,I2,r2,q2⟩=>⟨x::xs,H2,I2,.cons r1 r2,q2⟩
noncomputable def RV(t:TA):TE:=λσ H Q=>t σ H λxs H1=>xs.length<=sizeLine/\∀p,H1 p=none->Q (.ref p) (upd H1 p (.tup xs))
noncomputable def RW(t:TA):TE:=λσ H Q=>t σ H λxs H1=>xs.length<=sizeLine/\∀p,H1 p=none->Q (.ref p) (upd H1 p (.lst xs))
theorem RX{x1}(h:PA X es t):PE X (.Tuple es x1 pos) (RV t):=by
 intro pins s σ H Q I hq
 refine wpAny_Tuple_spliced (aD (h pos pins s σ H _ I hq) λus s1 ⟨xs,H1,I1,r,z,q⟩=>⟨by rw[<-r.length];exact z,?_⟩)
 have hf:H1 s1.heap.objs.size=none:=I1.az.fresh (bI _)
 refine⟨.ref s1.heap.objs.size,upd H1 s1.heap.objs.size (.tup xs),I1.laid (t':=s1.toks) (λb u e=>dQ _ e) (bI _) ?_,rfl,q _ hf⟩
 exact⟨z,us,r,⟨_,gi _ rfl,rfl,_,rfl⟩⟩
theorem RY(h:PA X es t):PE X (.List es pos) (RW t):=by
 intro pins s σ H Q I hq
 refine wpAny_List_spliced (aD (h pos pins s σ H _ I hq) λus s1 ⟨xs,H1,I1,r,z,q⟩=>⟨by rw[<-r.length];exact z,?_⟩)
 have hf:H1 s1.heap.objs.size=none:=I1.az.fresh (bI _)
 refine⟨.ref s1.heap.objs.size,upd H1 s1.heap.objs.size (.lst xs),I1.laid (t':=s1.toks) (λb u e=>dQ _ e) (bI _) ?_,rfl,q _ hf⟩
 exact⟨z,us,0,r,gi _ rfl⟩
end
noncomputable abbrev Sp:=List V->Hp->VK->XK->Prop
noncomputable abbrev dm:=List Env->Hp->Shared->XK->Value->Shared->Prop
structure gP(P:Program)(w:World)(K:PySem.W.Frag)(mg:Str->Option Value)(base:Heap)(A:Around)(outer:List Env)(s:Shared)(H:Hp):Prop where
 frames:A.frames=some outer
 mod:Mod K mg base
 bs:∀b o,base.get? b=some o->s.heap.get? b=some o/\H b=none
 iQ:base.objs.size<=s.heap.objs.size
 fe:s.heap.FunFrames base outer
 iS:∀b∈da outer,H b=none
 az:bZ P w H s.heap
 bare:AllBare s.gens
noncomputable def CE(outer:List Env)(P:Program)(w:World)(H:Hp)(s:Shared)(Q:VK)(u:Value)(s':Shared):Prop :=
 ∃v H',s'.os=s.os/\AllBare s'.gens/\Un (da outer) [] H H' s.heap s'.heap/\bZ P w H' s'.heap/\RelV v u/\Q v H'
noncomputable def CR(CX:dm)(outer:List Env)(P:Program)(w:World)(H:Hp)(s:Shared)(Q:VK)(E:XK)(r:Result)(s':Shared):Prop :=
 match r with
 | .ok (.ret u)=>CE outer P w H s Q u s'
 | .ok _=>False
 | .error e=>CX outer H s E e s'
structure aQ(P:Program)(w:World)(K:PySem.W.Frag)(mg:Str->Option Value)(base:Heap)(CX:dm)(k:Nat)(f:Addr)(fd:FuncData)(ps:List Str)(sp:Sp):Prop where
 len:∀vs H Q E,sp vs H Q E->vs.length=ps.length
 run:∀(A:Around) (outer:List Env) (s:Shared) (H:Hp) (args:Args) (us:List Value) (vs:List V) (Q:VK) (E:XK),bM k A->gP P w K mg base A outer s H->BindsTo s fd args (ps.zip us)->Vals vs us->sp vs H Q E ->
  codeAny (model P w) A (.call (.ref f) args) (CR CX outer P w H s Q E) s
theorem aQ.mono{P:Program}{w:World}{K:PySem.W.Frag}{mg:Str->Option Value}{base:Heap}{CX:dm}{j k:Nat}{f:Addr}{fd:FuncData}{ps:List Str}{sp:Sp}(F:aQ P w K mg base CX j f fd ps sp)(h:j<=k) :
  aQ P w K mg base CX k f fd ps sp:=⟨F.len,λA outer s H args us vs Q E hr=>F.run A outer s H args us vs Q E (hr.mono h)⟩
theorem aQ.imp{P:Program}{w:World}{K:PySem.W.Frag}{mg:Str->Option Value}{base:Heap}{CX:dm}{k:Nat}{f:Addr}{fd:FuncData}{ps:List Str}{sp IF:Sp}(F:aQ P w K mg base CX k f fd ps sp)
  (h:∀vs H Q E,IF vs H Q E->sp vs H Q E):aQ P w K mg base CX k f fd ps IF :=
 ⟨λvs H Q E q=>F.len vs H Q E (h _ _ _ _ q),λA outer s H args us vs Q E hr he hb hv hs=>F.run A outer s H args us vs Q E hr he hb hv (h _ _ _ _ hs)⟩
theorem gP.make{P:Program}{w:World}{K:PySem.W.Frag}{mg:Str->Option Value}{base:Heap}{A:Around}{outer:List Env}{s:Shared}{H:Hp}(e:gP P w K mg base A outer s H)(C:Addr)(us:List Value)(kw:List (Str × Value)) :
  gP P w K mg base (A.under (.builtin "type.__call__" ⟨.ref C::us,kw⟩)) outer s H:=⟨by first | exact e.frames | (simpa[Around.under,Code.envs,Code.isFrame,pushEnvs]using e.frames),e.mod,e.bs,e.iQ,e.fe,e.iS,e.az,e.bare⟩
section
variable{X:Cx}{pins:List (Addr × Obj)}{σ:St}{H:Hp}{s s':Shared}
theorem Inv.t7(I:Inv X pins σ H s):gP X.prog X.w X.K X.mg X.base X.A X.stack s H :=
 ⟨I.ok.frames,I.ok.mod,I.bs,dH I.ok.iQ I.sz,I.stack,I.AD,I.az,I.bare⟩
theorem Inv.after{Q:VK}{u:Value}(I:Inv X pins σ H s)(h:CE X.stack X.prog X.w H s Q u s'):EP X pins σ Q u s':=by
 obtain⟨v,H',os,bare,un,az,r,q⟩:=h
 obtain⟨hh,g,d,t,RZ⟩:=s'
 obtain rfl:RZ=s.os:=os
 exact⟨v,H',I.call (h':=hh) (g':=g) (d':=d) (t':=t) (ch:=[]) un az bare (λb z=>absurd z (by simp)),r,q⟩
end
noncomputable def R0(sp:Sp)(dD:List V)(E:XK)(t:TA):TE:=λσ H Q=>t σ H λvs H1=>sp (vs++dD) H1 Q E
noncomputable def R1(C:Addr)(m:Str)(sp:Sp)(dD:List V)(E:XK)(ta:TE)(t:TA):TE:=λσ H Q=>ta σ H λx H1=>∃a dx fs,x=.ref a/\H1 a=some (.ins C dx fs)/\fs.lookup m=none /\
 t σ H1 λvs H2=>sp (x::(vs++dD)) H2 Q E
noncomputable def R3(C:Addr)(sp:Sp)(dD:List V)(E:XK)(t:TA):TE:=λσ H Q=>t σ H λvs H1=>∀x dx,H1 x=none->H1 dx=none->dx≠x ->
 sp (.ref x::(vs++dD)) (upd (upd H1 dx (.own x)) x (.ins C dx [])) (λv H2=>v=.ak/\Q (.ref x) H2) E
noncomputable def Binds(K:PySem.W.Frag)(fd:FuncData)(ps:List Str)(ds:List Value):Prop :=
 ∀(s:Shared) (us:List Value),K.In s.heap->(us++ds).length=ps.length->BindsTo s fd ⟨us,[]⟩ (ps.zip (us++ds))
theorem Binds.all{K:PySem.W.Frag}{fd:FuncData}{ps:List Str}(h:∀us:List Value,us.length=ps.length->bindArgs fd ⟨us,[]⟩=pure (ps.zip us)):Binds K fd ps []:=λs us _ hl=>by
 rw[e7]at hl ⊢
 exact .of_eq (h us hl)
noncomputable def iV(CX:dm)(X:Cx)(E:XK):Prop:=∀(pins:List (Addr × Obj)) (σ:St) (H:Hp) (s:Shared) (e:Value) (s':Shared),Inv X pins σ H s->CX X.stack H s E e s'->X.xe e s'
section
variable{X:Cx}{CX:dm}{k:Nat}{f C:Addr}{fd:FuncData}{ps:List Str}{sp:Sp}{dD:List V}{ds:List Value}{E:XK}{x m:Str}{p pos apos:Pos}{e o:Expr}{es:List Expr}{ta:TE}{t:TA}
theorem pS{pins:List (Addr × Obj)}{σ:St}{H:Hp}{s:Shared}{Q:VK}{us:List Value}{vs:List V}(F:aQ X.prog X.w X.K X.mg X.base CX k f fd ps sp)(hr:bM k X.A)(hb:Binds X.K fd ps ds)(hd:Vals dD ds)(hx:iV CX X E)
  (I:Inv X pins σ H s) (r:Vals vs us) (h:sp (vs++dD) H Q E):wpAny (model X.prog X.w) X.A (call (.ref f) us) (EP X pins σ Q) X.xe s:=by
 have r2:Vals (vs++dD) (us++ds):=r.append hd
 have hl:(us++ds).length=ps.length:=by rw[<-r2.length];exact F.len _ _ _ _ h
 refine wpAny_call (codeAny_mono (F.run X.A X.stack s H ⟨us,[]⟩ (us++ds) (vs++dD) Q E hr I.t7 (hb s us I.cE hl) r2 h) λr s' hq=>?_)
 cases r with
 | error e=>exact hx pins σ H s e s' I hq
 | ok fl =>
  cases fl with
  | ret u=>exact I.after hq
  | next=>exact eC hq
  | brk=>exact eC hq
  | cont=>exact eC hq
theorem iW(F:aQ X.prog X.w X.K X.mg X.base CX k f fd ps sp)(hr:bM k X.A)(hg:Gl X x)(hm:X.mg x=some (.ref f))(hk:PySem.W.keepIn X.K (.ref f)=true)(hb:Binds X.K fd ps ds)(hd:Vals dD ds)(hx:iV CX X E)
  (ha:PA X (e::es) t) (cW:(x==("__debug__":Str))=false:=by decide) (he:starEach (e::es) X.env=(false,eval e X.env)::starEach es X.env:=by rfl) (bD:(backTo pos (starEach es X.env)).any (·.1)=false:=by rfl) :
  PE X (.Call (.Name x p) (e::es) [] pos) (R0 sp dD E t):=by
 intro pins s σ H Q I h
 refine wpAny_Call_Name_kw (tQ I hg hm ?_ cW)
 refine PySem.W.callWith_K (h₀:=X.base) I.ok.mod.kC hk (aD (ha pos pins s σ H _ I h) λus s1 ⟨vs,H1,I1,r,q⟩=>⟨I1.cE,?_⟩) he bD
 exact pS F hr hb hd hx I1 r q
theorem R4{pl:Sem Bool}(he:PE X o ta)(c:cR X.K C)(hm:Meth X.K C m f)(F:aQ X.prog X.w X.K X.mg X.base CX k f fd ps sp)(hr:bM k X.A)(hb:Binds X.K fd ps ds)(hd:Vals dD ds)(hx:iV CX X E)(ha:PA X (e::es) t)
  (cq:starEach (e::es) X.env=(false,eval e X.env)::starEach es X.env:=by rfl) (bD:(backTo pos (starEach es X.env)).any (·.1)=false:=by rfl)
  (ht:eval (.Call (.Attribute o m apos) (e::es) [] pos) X.env=(do
   let ov<-eval o X.env
   standAt apos.atName
   let (f,first)<-holding [ov] (getMethod ov m pl)
   callWith pos f first (backTo pos (starEach (e::es) X.env)) (backToKw pos (keywordEach [] X.env))):=by rfl) :
  PE X (.Call (.Attribute o m apos) (e::es) [] pos) (R1 C m sp dD E ta t):=by
 intro pins s σ H Q I h
 refine PySem.W.methodCall_KW (pl:=pl) (aD (he pins s σ H _ I h) λu s1 ⟨x,H1,I1,rx,a,dx,fs,ex,ea,l,q⟩=>?_) ht
 subst ex
 obtain rfl:u=dG a:=rx
 refine yc I1 ea c hm l ?_
 refine PySem.W.callWith_K (first:=[.ref a]) (h₀:=X.base) I.ok.mod.kC hm.kp (aD (ha pos pins s1 σ H1 _ I1 q) λus s2 ⟨vs,H2,I2,r,q2⟩=>⟨I2.cE,?_⟩) cq bD
 exact pS (us:=.ref a::us) (vs:=.ref a::vs) F hr hb hd hx I2 (.cons rfl r) q2
structure Mk(K:PySem.W.Frag)(C f:Addr):Prop where
 makes:PySem.W.makesIn K C=true
 init:PySem.W.findIn K (.ref C) "__init__"=some (some (.ref f))
 fn:PySem.W.isFn K (.ref f)=true
 kp:PySem.W.keepIn K (.ref C)=true
theorem R5{pins:List (Addr × Obj)}{σ:St}{H:Hp}{s:Shared}{Q:VK}{us:List Value}{vs:List V}(M:Mk X.K C f)(F:aQ X.prog X.w X.K X.mg X.base CX k f fd ps sp)(hr:bM (k+1) X.A)(hb:Binds X.K fd ps ds)(hd:Vals dD ds)
  (hx:iV CX X E) (I:Inv X pins σ H s) (r:Vals vs us)
  (h:∀x dx,H x=none->H dx=none->dx≠x->sp (.ref x::(vs++dD)) (upd (upd H dx (.own x)) x (.ins C dx [])) (λv H2=>v=.ak/\Q (.ref x) H2) E) :
  wpAny (model X.prog X.w) X.A (call (.ref C) us) (EP X pins σ Q) X.xe s:=by
 have hq:=h (s.heap.objs.size+1) s.heap.objs.size (I.az.fresh (Nat.le_succ _)) (I.az.fresh (bI _)) (eO (Hu _))
 have I2:=Inv.made (C:=C) I
 have r2:Vals (V.ref (s.heap.objs.size+1)::(vs++dD)) (dG (s.heap.objs.size+1)::(us++ds)):=.cons rfl (r.append hd)
 have hl:(dG (s.heap.objs.size+1)::us++ds).length=ps.length:=by
  have e:=r2.length
  rw[F.len _ _ _ _ hq]at e
  exact e.symm
 refine wpAny_call (RF (f:=f) I.cE M.makes M.init (beq_iff_eq.mp M.fn) (codeAny_mono (F.run _ X.stack _ _ ⟨dG (s.heap.objs.size+1)::us,[]⟩ (dG (s.heap.objs.size+1)::(us++ds)) _ _ E (hr.make C us [])
  (I2.t7.make C us []) (hb _ (dG (s.heap.objs.size+1)::us) I2.cE hl) r2 hq) λr s' kE=>?_))
 cases r with
 | error e=>exact hx pins σ _ _ e s' I2 kE
 | ok fl =>
  cases fl with
  | ret u =>
   obtain⟨v,H',I3,rv,ev,q3⟩:=I2.after kE
   subst ev
   exact⟨rv,⟨V.ref (s.heap.objs.size+1),H',I3,rfl,q3⟩⟩
  | next=>exact eC kE
  | brk=>exact eC kE
  | cont=>exact eC kE
theorem IG(M:Mk X.K C f)(F:aQ X.prog X.w X.K X.mg X.base CX k f fd ps sp)(hr:bM (k+1) X.A)(hg:Gl X x)(hm:X.mg x=some (.ref C))(hb:Binds X.K fd ps ds)(hd:Vals dD ds)(hx:iV CX X E)
  (ha:PA X (e::es) t) (cW:(x==("__debug__":Str))=false:=by decide) (he:starEach (e::es) X.env=(false,eval e X.env)::starEach es X.env:=by rfl) (bD:(backTo pos (starEach es X.env)).any (·.1)=false:=by rfl) :
  PE X (.Call (.Name x p) (e::es) [] pos) (R3 C sp dD E t):=by
 intro pins s σ H Q I h
 refine wpAny_Call_Name_kw (tQ I hg hm ?_ cW)
 refine PySem.W.callWith_K (h₀:=X.base) I.ok.mod.kC M.kp (aD (ha pos pins s σ H _ I h) λus s1 ⟨vs,H1,I1,r,q⟩=>⟨I1.cE,?_⟩) he bD
 exact R5 M F hr hb hd hx I1 r q
end
section
variable{X:Cx}{CX:dm}{k:Nat}{f C:Addr}{fd:FuncData}{ps ks:List Str}{sp:Sp}{E:XK}{x m:Str}{p pos apos cQ8:Pos}{e o:Expr}{es:List Expr}{kws:List Keyword}{te ta:TE}{t tk:TA}{nm:Option Str}
variable{g:List Value->List Value->List Value}{gV:List V->List V->List V}
end
structure bq(N P:List Str)(sc:Scope):Prop where
 kind:sc.kind=.function
 co:sc.isCoroutine=false
 gen:sc.isGenerator=false
 nd:N.Nodup
 pre:N.take P.length=P
 par:∀x∈P,sc.names.lookup x=some .local\/sc.names.lookup x=some .cell
 R6:∀y∈sc.names,y.2≠.free
theorem IH{kindOf:Str->Option NameKind}{x:Str}:∀{binds:List (Str × Value)} {m:Str->Option Value},(∀v,(x,v) ∉ binds)->bindL kindOf binds m x=m x
 | [],_,_=>rfl
 | (n,v)::r,m,h=>by
  unfold bindL
  rw[IH λw hw=>h w (dJ _ hw)]
  split
  ·have:x≠n:=by rintro rfl;exact h v eP
   simp[this]
  ·rfl
theorem II{kindOf:Str->Option NameKind}{x:Str}:∀{binds:List (Str × Value)} {m:Str->Option Value},(∀v,(x,v) ∉ binds)->bindC kindOf binds m x=m x
 | [],_,_=>rfl
 | (n,v)::r,m,h=>by
  unfold bindC
  rw[II λw hw=>h w (dJ _ hw)]
  split
  ·rfl
  ·have:x≠n:=by rintro rfl;exact h v eP
   simp[this]
theorem IJ{kindOf:Str->Option NameKind}{x:Str}{v:Value}:∀{P:List Str} {vs:List Value} {i:Nat} {m:Str->Option Value},P.Nodup->P[i]?=some x->vs[i]?=some v->kindOf x=some .local ->
  bindL kindOf (P.zip vs) m x=some v
 | [],_,_,_,_,h,_,_=>by simp at h
 | _::_,[],_,_,_,_,h,_=>by simp at h
 | p::P,w::vs,0,m,nd,h1,h2,hk=>by
  simp at h1 h2;subst h1;subst h2
  show bindL kindOf ((p,w)::P.zip vs) m p=_
  unfold bindL
  rw[IH λv hv=>(iK.mp nd).1 (w6 hv).1,if_pos hk]
  simp
 | p::P,w::vs,i+1,m,nd,h1,h2,hk=>by
  show bindL kindOf ((p,w)::P.zip vs) m x=_
  unfold bindL
  exact IJ (i:=i) (iK.mp nd).2 (by simpa using h1) (by simpa using h2) hk
theorem IK{kindOf:Str->Option NameKind}{x:Str}{v:Value}:∀{P:List Str} {vs:List Value} {i:Nat} {m:Str->Option Value},P.Nodup->P[i]?=some x->vs[i]?=some v->kindOf x≠some .local ->
  bindC kindOf (P.zip vs) m x=some v
 | [],_,_,_,_,h,_,_=>by simp at h
 | _::_,[],_,_,_,_,h,_=>by simp at h
 | p::P,w::vs,0,m,nd,h1,h2,hk=>by
  simp at h1 h2;subst h1;subst h2
  show bindC kindOf ((p,w)::P.zip vs) m p=_
  unfold bindC
  rw[II λv hv=>(iK.mp nd).1 (w6 hv).1,if_neg hk]
  simp
 | p::P,w::vs,i+1,m,nd,h1,h2,hk=>by
  show bindC kindOf ((p,w)::P.zip vs) m x=_
  unfold bindC
  exact IK (i:=i) (iK.mp nd).2 (by simpa using h1) (by simpa using h2) hk
noncomputable def start(N:List Str)(vs:List V):St:=vs.map some++aK (N.length-vs.length) none
noncomputable def gu(CX:dm)(P:Program)(w:World)(K:PySem.W.Frag)(mg:Str->Option Value)(base:Heap)(N:List Str)(qual:Str)(scope:Scope)(f:Addr)(cd:Value)(A:Around)(outer:List Env)(s:Shared)(H:Hp)(E:XK):Cx where
 prog:=P
 w:=w
 K:=K
 mg:=mg
 base:=base
 A:=A.deeper (envOfC qual scope s.heap.objs.size f cd)
 N:=N
 b8:=s
 iP:=H
 env:=envOfC qual scope s.heap.objs.size f cd
 outer:=outer
 stack:=envOfC qual scope s.heap.objs.size f cd::outer
 ex:=[]
 calm:=true
 fn:=λ_=>true
 pn:=[]
 xe:=λe s'=>wpAny (model P w) (A.deeper (envOfC qual scope s.heap.objs.size f cd)) (leaving (envOfC qual scope s.heap.objs.size f cd) e) (λ_ ny=>CX outer H s E e ny) (λe' ny=>CX outer H s E e' ny) s'
theorem IL{sc:Scope}{n:Nat}{x:Str}(h:sc.names.lookup x=some .cell):∃c,(cellsFrom n sc.names []).lookup x=some c:=by
 have q:=PySem.W.cellsFrom_some sc.names n [] (.inl h)
 exact Pj.mp q
theorem R7{CX:dm}{P:Program}{w:World}{K:PySem.W.Frag}{mg:Str->Option Value}{base:Heap}{N ps:List Str}{qual:Str}{scope:Scope}{f:Addr}{cd:Value}{A:Around}{outer:List Env}{s s1:Shared}{H:Hp}{E:XK}{us:List Value}{vs:List V}
  (S:bq N ps scope) (hd:A.handled=none) (e0:gP P w K mg base A outer s H) (hl:vs.length=ps.length) (r:Vals vs us)
  (x:InCallC s s.heap.objs.size (bindL (envOfC qual scope s.heap.objs.size f cd).kindOf (ps.zip us) λ_=>none) (cellsFrom (s.heap.objs.size+1) scope.names []) (bindC (envOfC qual scope s.heap.objs.size f cd).kindOf (ps.zip us) λ_=>none) s1) :
  Inv (gu CX P w K mg base N qual scope f cd A outer s H E) [] (start N vs) H s1:=by
 have bD:ps.length<=N.length:=by have:=congrArg zR S.pre;rw[o9]at this;omega
 obtain⟨h1,tk,rfl,hk⟩:=x.done
 have t9:∀b:Addr,b ∉ (gu CX P w K mg base N qual scope f cd A outer s H E).ex:=λb z=>absurd (show b∈([]:List Addr) from z) (by simp)
 refine⟨⟨e0.mod,S.kind,rfl,rfl,bI _,λy z c h1 h2=>?_,λy hy=>?_,λy c _ h=>?_,λ_=>hd,Around.frames_deeper e0.frames,.inr ⟨rfl,rfl⟩,λb z=>absurd z (t9 b),e0.bs,e0.iQ,λb _ _=>t9 b,λb z=>absurd z (t9 b),e0.fe,e0.iS⟩,
  rfl,e0.bare,Un.kept hk,⟨_,x.toInCall.ns,λi y v h1 h2 h3=>?_⟩,λy c h=>⟨_,x.cell y c h⟩,e0.az.fresh (bI _),λy c h=>?_,λp hp=>absurd (show p∈([]:List (Addr × Obj)) from hp) (by simp),e0.az.kept hk,?_⟩
 ·exact name_of_addr x.apart (PySem.mem_of_lookup h1) (PySem.mem_of_lookup h2)
 ·have hy:scope.names.lookup y=some .cell\/scope.names.lookup y=some .free:=hy
  rcases hy with hy | hy
  ·exact IL hy
  ·exact absurd rfl (S.R6 _ (PySem.mem_of_lookup hy))
 ·exact wY (x.above y c (PySem.mem_of_lookup h))
 ·have hi:i<vs.length:=by
   unfold start at h2
   by_cases hi:i<vs.length
   ·exact hi
   ·rw[zS (by simpa using hi)]at h2
    rw[w9]at h2
    split at h2<;>cases h2
  have ha:vs[i]?=some v:=by
   unfold start at h2
   rw[zT (by simpa using hi),cJ]at h2
   cases e:vs[i]? with
   | none=>rw[e]at h2;cases h2
   | some a=>rw[e]at h2;cases h2;rfl
  obtain⟨u,hu,rv⟩:=r.get ha
  have hp:ps[i]?=some y:=by
   rw[<-S.pre,List.getElem?_take_of_lt (by omega)];exact h1
  have IM:ps.Nodup:=by rw[<-S.pre];exact S.nd.sublist (List.take_sublist _ _)
  refine⟨u,rv,?_⟩
  rcases S.par y (pd hp)with k | k
  ·exact .inl ⟨k,IJ IM hp hu k⟩
  ·obtain⟨c,e⟩:=IL (n:=s.heap.objs.size+1) k
   refine .inr ⟨.inl k,c,e,?_⟩
   have q:=x.cell y c e
   rw[IK IM hp hu (by show scope.names.lookup y≠_;rw[k];decide)]at q
   exact q
 ·exact e0.az.fresh (wY (x.above y c (PySem.mem_of_lookup h)))
 ·unfold start
  show _=N.length
  rw[jj,bQ,fA]
  omega
theorem yd{CX:dm}{P:Program}{w:World}{K:PySem.W.Frag}{mg:Str->Option Value}{base:Heap}{k:Nat}{f:Addr}{name qual:Str}{params:Arguments}{body:List Stmt}{scope:Scope}{dV kV doc pm aA ct oc:Value}{an od:Option Addr}
  {fG:Array (Option Value)} {N ps:List Str} {sp:Sp} (lk:K.lookup f=some ⟨oc,od,.func (PySem.W.fnOf name qual params body scope dV kV doc pm an aA ct),fG⟩) (bS:PySem.W.codeIn K aA qual=true) (S:bq N ps scope)
  (len:∀vs H Q E,sp vs H Q E->vs.length=ps.length)
  (fg:∀(A:Around) (outer:List Env) (s:Shared) (H:Hp) (vs:List V) (Q:VK) (E:XK),bM k (A.deeper (envOfC qual scope s.heap.objs.size f aA))->sp vs H Q E ->
   ∃t,PSs (gu CX P w K mg base N qual scope f aA A outer s H E) body t/\t { nx:=λ_ H'=>Q .ak H',rt:=Q } (start N vs) H) :
  aQ P w K mg base CX (k+1) f (PySem.W.fnOf name qual params body scope dV kV doc pm an aA ct) ps sp:=by
 refine⟨len,λA outer s H args us vs Q E hr e0 hb r fH=>?_⟩
 have hl:=len _ _ _ _ fH
 have KX:K.In s.heap:=e0.mod.kC.keeps λb o e=>(e0.bs b o e).1
 have lim:s.heap.NoLimit:=e0.mod.nolimit.keeps λb o e=>(e0.bs b o e).1
 have gQ:∀y∈ps.zip us,scope.names.lookup y.1=some .local\/(scope.names.lookup y.1=some .cell/\((cellsFrom (s.heap.objs.size+1) scope.names []).lookup y.1).isSome=true):=λ⟨n,v⟩ hy=>by
  rcases S.par n (w6 hy).1 with q | q
  ·exact .inl q
  ·exact .inr ⟨q,PySem.W.cellsFrom_some _ _ _ (.inl q)⟩
 refine codeAny_call_function hr.depth (KX _ _ lk) rfl S.co S.gen rfl (PySem.W.codeRec_of KX bS) (hb _ _ _ _ ?_)
 refine wpAny_newFunctionEnv_cells S.kind gQ λenv he s1 x=>?_
 subst he
 refine⟨lim.keeps x.toInCall.keep,codeAny_func ?_⟩
 obtain⟨t,ht,hq⟩:=fg A outer s H vs Q E (hr.deeper _) fH
 have I:Inv (gu CX P w K mg base N qual scope f aA A outer s H E) [] (start N vs) H s1:=R7 S hr.hd e0 hl r x
 refine wpAny_mono (ht [] s1 (start N vs) H _ I hq) (λfl s' hs=>?_) λe s' hs=>hs
 have fin:∀{ax:St} {H':Hp} {v:V} {u:Value},Inv (gu CX P w K mg base N qual scope f aA A outer s H E) [] ax H' s'->RelV v u->Q v H'->CE outer P w H s Q u s' :=
  λ{ax H' v u} J rv q=>⟨v,H',J.os,J.bare,J.base,J.az,rv,q⟩
 cases fl with
 | ret u =>
  obtain⟨v,ax,H',J,rv,q⟩:=hs
  exact fin J rv q
 | next =>
  obtain⟨ax,H',J,q⟩:=hs
  exact fin (v:=V.ak) (u:=mU) J rfl q
 | brk =>
  obtain⟨_,_,_,q⟩:=hs
  exact eC q
 | cont =>
  obtain⟨_,_,_,q⟩:=hs
  exact eC q
end L2
namespace L2
open PySem PySem.Spec PyProof.Rows
section
variable{X:Cx}{x:Str}{p pos:Pos}{e:Expr}{es:List Expr}{t:TA}{id T:String}{r:List V->Hp->VK->Prop}
noncomputable def A6(r:List V->Hp->VK->Prop)(t:TA):TE:=λσ H Q=>t σ H λvs H1=>r vs H1 Q
theorem A8(hc:fE X (.builtin id) r)(hg:Gl X x)(hm:X.mg x=none)(hv:bootBuiltins x=some (.builtin id))(ha:PA X (e::es) t)(hn:x≠"__name__":=by decide)(cW:(x==("__debug__":Str))=false:=by decide)
  (he:starEach (e::es) X.env=(false,eval e X.env)::starEach es X.env:=by rfl) (bD:(backTo pos (starEach es X.env)).any (·.1)=false:=by rfl):PE X (.Call (.Name x p) (e::es) [] pos) (A6 r t):=by
 intro pins s σ H Q I h
 refine wpAny_Call_Name_kw (nj I hg hm hv ?_ hn cW)
 exact PyProof.Rows.callWith_builtin1 (aD (ha pos pins s σ H _ I h) λus s1 ⟨vs,H1,I1,r1,q1⟩=>hc pins s1 σ H1 vs us Q I1 r1 q1) he bD
theorem R8(hc:fE X (.type T) r)(hg:Gl X x)(hm:X.mg x=none)(hv:bootBuiltins x=some (.type T))(ha:PA X (e::es) t)(hn:x≠"__name__":=by decide)(cW:(x==("__debug__":Str))=false:=by decide)
  (he:starEach (e::es) X.env=(false,eval e X.env)::starEach es X.env:=by rfl) (bD:(backTo pos (starEach es X.env)).any (·.1)=false:=by rfl):PE X (.Call (.Name x p) (e::es) [] pos) (A6 r t):=by
 intro pins s σ H Q I h
 refine wpAny_Call_Name_kw (nj I hg hm hv ?_ hn cW)
 exact w5 (aD (ha pos pins s σ H _ I h) λus s1 ⟨vs,H1,I1,r1,q1⟩=>hc pins s1 σ H1 vs us Q I1 r1 q1) he bD
end
end L2
namespace HT
open PySem PyProof.Rows
section
open PySem.SeqAt
open PySem.AutoSeq1 (wpAny_loadPart')
open PySem.MeetsSeq PySem.MeetsSeq2 PySem.MeetsSeq3
end
section
variable{prog:Program}{w:World}{A:Around}{E:Value->Shared->Prop}{s:Shared}
noncomputable def cu(n d:Nat):Option Int->Nat
 | none=>d
 | some v=>if v<0 then(v+(n:Int)).toNat else min v.toNat n
theorem Ba(n d k:Nat):cu n d (some (k:Int))=min k n:=by
 show(if(k:Int)<0 then((k:Int)+(n:Int)).toNat else min (k:Int).toNat n)=min k n
 rw[if_neg (by omega),jQ]
end
end HT
namespace L2
open PySem PySem.Spec PyProof.Rows
noncomputable abbrev TO:=St->Hp->(Option Int->Hp->Prop)->Prop
noncomputable def PO(X:Cx)(e:Option Expr)(t:TO):Prop :=
 ∀(pins:List (Addr × Obj)) (s:Shared) (σ:St) (H:Hp) (Q:Option Int->Hp->Prop),Inv X pins σ H s->t σ H Q ->
  wpAny (model X.prog X.w) X.A (evalPart e X.env) (λu s'=>∃o H',Inv X pins σ H' s'/\IsPart u o/\Q o H') X.xe s
noncomputable def R9:TO:=λ_ H Q=>Q none H
noncomputable def Sa(t:TE):TO:=λσ H Q=>t σ H λx H1=>∃i,x=.int i/\Q (some i) H1
theorem Sb{ns:List Int}:∀{us:List Value},Vals (ns.map V.int) us->IntsAre us ns:=by
 induction ns with
 | nil=>intro us r;rw[iM]at r;cases r;exact .nil
 | cons n ns ih =>
  intro us r
  rw[bV]at r
  cases r with
  | cons r1 r2 =>
   obtain⟨t,e⟩:=r1
   subst e
   exact .cons n t (ih r2)
section
variable{X:Cx}{e:Expr}{te:TE}{lo hi:Option Expr}{tl th:TO}{pos p2:Pos}
theorem Sd:PO X none R9:=by
 intro pins s σ H Q I h
 rw[evalPart_none]
 exact wpAny_pure ⟨none,H,I,.none,h⟩
theorem Se(h:PE X e te):PO X (some e) (Sa te):=by
 intro pins s σ H Q I hw
 rw[evalPart_some]
 refine aD (h pins s σ H _ I hw) λu s1 ⟨x,H1,I1,r1,q1⟩=>?_
 obtain⟨i,rfl,q⟩:=q1
 obtain⟨t,rfl⟩:=r1
 exact⟨some i,H1,I1,.int i t,q⟩
noncomputable def nz(X:Cx)(r:V->Option Int->Option Int->Hp->VK->Prop):Prop :=
 ∀(pins:List (Addr × Obj)) (s:Shared) (σ:St) (H:Hp) (x:V) (v vl vu:Value) (lo hi:Option Int) (sl:Addr) (Q:VK),Inv X pins σ H s->RelV x v->s.heap.IsSliceOf sl vl vu .none->IsPart vl lo->IsPart vu hi->r x lo hi H Q ->
  ∃T id,typeLookup (.type T) "__getitem__"=pure (some (.builtin id))/\s.TypeIs v T/\wpAny (model X.prog X.w) X.A (getItem v (.ref sl)) (EP X pins σ Q) X.xe s
theorem nz.or{r r':V->Option Int->Option Int->Hp->VK->Prop}(h:nz X r)(h':nz X r'):nz X (λx lo hi H Q=>r x lo hi H Q\/r' x lo hi H Q):=by
 intro pins s σ H x v vl vu lo hi sl Q I rx hs pl pu q
 rcases q with q | q
 ·exact h pins s σ H x v vl vu lo hi sl Q I rx hs pl pu q
 ·exact h' pins s σ H x v vl vu lo hi sl Q I rx hs pl pu q
noncomputable def Sf(r:V->Option Int->Option Int->Hp->VK->Prop)(te:TE)(tl th:TO):TE:=λσ H Q=>te σ H λx H1=>tl σ H1 λl H2=>th σ H2 λu H3=>r x l u H3 Q
theorem Sg{r:V->Option Int->Option Int->Hp->VK->Prop}(hr:nz X r)(he:PE X e te)(hl:PO X lo tl)(hu:PO X hi th):PE X (.Subscript e (.Slice lo hi none p2) pos) (Sf r te tl th):=by
 intro pins s σ H Q I h
 refine Subscript_ (aD (he pins s σ H _ I h) λv s1 ⟨x,H1,I1,r1,q1⟩=>?_)
 refine wpAny_Slice (aD (hl pins s1 σ H1 _ I1 q1) λvl s2 ⟨l,H2,I2,pl,q2⟩=>aD (hu pins s2 σ H2 _ I2 q2) λvu s3 ⟨u,H3,I3,pu,q3⟩=>?_)
 rw[evalPart_none]
 refine wpAny_pure ?_
 have I4:Inv X pins σ H3 { s3 with heap:=s3.heap.push { cls:=.type "slice",data:=.fields #[vl,vu,.none] } }:=I3.kept (t':=s3.toks) λb ob q=>dQ _ q
 obtain⟨T,id,hT,ht,hg⟩:=hr pins { s3 with heap:=s3.heap.push { cls:=.type "slice",data:=.fields #[vl,vu,.none] } } σ H3 x v vl vu l u s3.heap.objs.size Q I4 r1 (Heap.IsSliceOf.new ..) pl pu q3
 show wpAny (model X.prog X.w) X.A (subscriptTail e (.Slice lo hi none p2) v (.ref s3.heap.objs.size)) (EP X pins σ Q) X.xe { s3 with heap:=s3.heap.push { cls:=.type "slice",data:=.fields #[vl,vu,.none] } }
 exact tail_any (ops:=[.ref s3.heap.objs.size,v]) ht hT hg (by with_unfolding_all rfl)
noncomputable def pU(xs:List V)(lo hi:Option Int):List V:=(xs.drop (HT.cu xs.length 0 lo)).take (HT.cu xs.length xs.length hi-HT.cu xs.length 0 lo)
theorem Sh(xs:List V)(lo hi:Option Int):(pU xs lo hi).length<=xs.length:=by
 unfold pU
 rw[o9,pf]
 omega
end
end L2
namespace L2
open PySem PySem.Spec PyProof.Rows
noncomputable def gR(n:Nat)(i:Int):Option Nat:=if 0<=i then(if i<n then some i.toNat else none)else if -(n:Int)<=i then some (i+n).toNat else none
noncomputable def dM{α:Type}(xs:List α)(i:Int):Option α:=(gR xs.length i).bind λj=>xs[j]?
theorem IQ{n:Nat}{i:Int}{j:Nat}(h:gR n i=some j):seqIndex? i n=some j/\j<n/\-(n:Int)<=i/\i<n:=by
 unfold gR at h
 by_cases h0:0<=i
 ·rw[if_pos h0]at h
  by_cases h1:i<n
  ·rw[if_pos h1]at h
   have e:i.toNat=j:=cN h
   exact⟨by rw[seqIndex_of h0 h1,e],by omega,by omega,h1⟩
  ·rw[if_neg h1]at h;cases h
 ·rw[if_neg h0]at h
  by_cases h1:-(n:Int)<=i
  ·rw[if_pos h1]at h
   have e:(i+n).toNat=j:=cN h
   exact⟨by rw[seqIndex_neg (by omega) h1,e],by omega,h1,by omega⟩
  ·rw[if_neg h1]at h;cases h
theorem mm{α:Type}{xs:List α}{i:Int}{v:α}(h:dM xs i=some v):∃j,seqIndex? i xs.length=some j/\xs[j]?=some v/\j<xs.length/\-(xs.length:Int)<=i/\i<xs.length:=by
 unfold dM at h
 cases e:gR xs.length i with
 | none=>rw[e]at h;cases h
 | some j =>
  rw[e]at h
  obtain⟨h1,h2,h3,h4⟩:=IQ e
  exact⟨j,h1,h,h2,h3,h4⟩
noncomputable def IS(b:Expr):Prop:=∀o i,subscripted b false o i=operate [o,i] (getItem o i)
noncomputable def kF(X:Cx)(r:R2):Prop :=
 ∀(value slice:Expr) (pins:List (Addr × Obj)) (s:Shared) (σ:St) (H:Hp) (x y:V) (v u:Value) (Q:VK),Inv X pins σ H s->RelV x v->RelV y u->r x y H Q ->
  subscripted slice false v u=operate [v,u] (getItem v u)->wpAny (model X.prog X.w) X.A (subscriptTail value slice v u) (EP X pins σ Q) X.xe s
noncomputable def ua(X:Cx)(id:String)(r:V->List V->Hp->VK->Prop):Prop :=
 ∀(pins:List (Addr × Obj)) (s:Shared) (σ:St) (H:Hp) (x:V) (xs:List V) (v:Value) (us:List Value) (Q:VK),Inv X pins σ H s->RelV x v->Vals xs us->r x xs H Q ->
  wpAny (model X.prog X.w) X.A (call (.builtin id) (v::us)) (EP X pins σ Q) X.xe s
section
variable{X:Cx}{a b:Expr}{ta tb:TE}{pos:Pos}
theorem kF.or{r r':R2}(h:kF X r)(h':kF X r'):kF X (λx y H Q=>r x y H Q\/r' x y H Q):=by
 intro value slice pins s σ H x y v u Q I rx ry q hs
 rcases q with q | q
 ·exact h value slice pins s σ H x y v u Q I rx ry q hs
 ·exact h' value slice pins s σ H x y v u Q I rx ry q hs
theorem Si{r:R2}(hr:kF X r)(ha:PE X a ta)(hb:PE X b tb)(hs:IS b):PE X (.Subscript a b pos) (tY r ta tb):=by
 intro pins s σ H Q I h
 exact Subscript_ (AX ha hb I h λv u s2 x y H2 I2 rx ry q=>hr a b pins s2 σ H2 x y v u Q I2 rx ry q (hs _ _))
noncomputable def IT(K:PySem.W.Frag):R2:=λx y H Q=>∃p xs i v,x=.ref p/\y=.int i/\bz K H p xs/\dM xs i=some v/\Q v H
noncomputable def IU(K:PySem.W.Frag):R2:=λx y H Q=>∃p xs i v,x=.ref p/\y=.int i/\fB K H p xs/\dM xs i=some v/\Q v H
noncomputable def IV:R2:=λx y H Q=>∃z i c,x=.str z/\y=.int i/\z.length<=sizeLine/\dM z.cps.toList i=some c/\Q (.str ⟨#[c]⟩) H
theorem Sj:kF X (IT X.K):=by
 intro value slice pins s σ H x y v u Q I rx ry h hs
 obtain⟨p,xs,i,z,rfl,rfl,hq,he,q⟩:=h
 cases rx
 obtain⟨t,rfl⟩:=ry
 obtain⟨its,r,pl,hz⟩:=I.list hq
 obtain⟨j,h1,h2,h3,h4,h5⟩:=mm he
 obtain⟨w,ew,dW⟩:=r.get h2
 have hl:=r.length
 have hn:=nt
 have fin:EP X pins σ Q w s:=⟨z,H,I,dW,q⟩
 by_cases h0:0<=i
 ·have hj:i.toNat=j:=by
   rw[seqIndex_of h0 h5]at h1
   exact cN h1
  exact item_listR pl.isList h0 (by omega) (by rw[hj];simpa using ew) fin hs
 ·have hj:(i+(its.toArray.size:Int)).toNat=j:=by
   rw[seqIndex_neg (by omega) h4]at h1
   rw[cO,<- hl]
   exact cN h1
  exact subscriptTail_builtinR (x:=w) pl.isList.typeIs slot_list_getitem.lookup
   (wpAny_getItem_list_neg (Q:=λr s'=>r=w/\EP X pins σ Q r s') pl.isList (by omega) (by rw[cO]<;>omega) (by omega) (by rw[hj];simpa using ew) ⟨rfl,fin⟩) hs
theorem Sk:kF X (IU X.K):=by
 intro value slice pins s σ H x y v u Q I rx ry h hs
 obtain⟨p,xs,i,z,rfl,rfl,hq,he,q⟩:=h
 cases rx
 obtain⟨t,rfl⟩:=ry
 obtain⟨its,r,pl,hz⟩:=I.tuple hq
 obtain⟨j,h1,h2,h3,h4,h5⟩:=mm he
 obtain⟨w,ew,dW⟩:=r.get h2
 have hl:=r.length
 have hn:=nt
 have fin:EP X pins σ Q w s:=⟨z,H,I,dW,q⟩
 exact subscriptTail_builtinR (x:=w) pl.typeIs slot_tuple_getitem.lookup
  (getItem_tuple (j:=j) (Q:=λr s'=>r=w/\EP X pins σ Q r s') pl (by omega) (by omega) (by rw[cO,<- hl];exact h1) (by simpa using ew) ⟨rfl,fin⟩) hs
theorem Sl:kF X IV:=by
 intro value slice pins s σ H x y v u Q I rx ry h hs
 obtain⟨z,i,c,rfl,rfl,hz,he,q⟩:=h
 obtain⟨t,rfl⟩:=rx
 obtain⟨t',rfl⟩:=ry
 obtain⟨j,h1,h2,h3,h4,h5⟩:=mm he
 have hl:z.cps.toList.length=z.length:=by simp[Str.length]
 rw[hl]at h1 h4 h5
 have hn:=nt
 exact tail_any (typeIs_str s z t) slot_str_getitem.lookup (getItem_str (c:=c) (by
  have e1:decide (i < -(2 ^ 63:Int))=false:=decide_eq_false (by omega)
  have e2:decide (i ≥ 2 ^ 63)=false:=decide_eq_false (by omega)
  rw[e1,e2,sW]) (by rw[h1];simpa using h2) ⟨.str ⟨#[c]⟩,H,I.tok _,⟨_,rfl⟩,q⟩) hs
noncomputable def Sm(K:PySem.W.Frag):R2:=λx y H Q=>IT K x y H Q\/IU K x y H Q\/IV x y H Q
theorem Sn:kF X (Sm X.K):=Sj.or (Sk.or Sl)
theorem So(its:List Value)(n j:Nat)(u:Value):xa (·.setIfInBounds j u) { cls:=.type "list",data:=.seq its.toArray n }={ cls:=.type "list",data:=.seq (its.set j u).toArray n }:=by
 simp[xa]
theorem Inv.lst{pins:List (Addr × Obj)}{σ:St}{H:Hp}{s:Shared}{p:Addr}{xs:List V}(I:Inv X pins σ H s)(h:H p=some (.lst xs)) :
  ∃(its:List Value) (n:Nat),Vals xs its/\s.heap.get? p=some { cls:=.type "list",data:=.seq its.toArray n }/\xs.length<=sizeLine:=by
 obtain⟨z,its,n,r,e⟩:=I.az p _ h
 exact⟨its,n,r,e,z⟩
theorem Inv.Sq{pins:List (Addr × Obj)}{σ:St}{H:Hp}{s:Shared}{p:Addr}{xs ys:List V}{its its':List Value}{n n':Nat}{f:Obj->Obj}(I:Inv X pins σ H s)(h:H p=some (.lst xs))
  (ho:s.heap.get? p=some { cls:=.type "list",data:=.seq its.toArray n }) (hf:f { cls:=.type "list",data:=.seq its.toArray n }={ cls:=.type "list",data:=.seq its'.toArray n' }) (r:Vals ys its') (hz:ys.length<=sizeLine) (t:Nat) :
  Inv X pins σ (upd H p (.lst ys)) { s with heap:=s.heap.update p f,toks:=t }:=by
 have e:(s.heap.update p f).get? p=some { cls:=.type "list",data:=.seq its'.toArray n' }:=by
  rw[zU f ho (by rw[hf]<;>rfl),hf]
 refine I.write (x:=p) (e:=p) (by rw[h];trivial) (.inl rfl) (λb u hb q=>(mX _ _ (dP hb)).trans q) ⟨_,e⟩ ?_
 exact⟨hz,its',n',r,e⟩
noncomputable def Sr:V->V->V->Hp->(Hp->Prop)->Prop:=λo i v H Q=>∃p xs k j,o=.ref p/\i=.int k/\H p=some (.lst xs)/\gR xs.length k=some j/\Q (upd H p (.lst (xs.set j v)))
theorem IW:AL X Sr:=by
 intro pins s σ H o i v ov iv u Q I ro ri rv h
 obtain⟨p,xs,k,j,rfl,rfl,hp,hj,q⟩:=h
 cases ro
 obtain⟨t,rfl⟩:=ri
 obtain⟨its,n,r,ho,hz⟩:=I.lst hp
 obtain⟨h1,h2,h3,h4⟩:=IQ hj
 have hl:=r.length
 have hn:=nt
 have I':Inv X pins σ (upd H p (.lst (xs.set j v))) { s with heap:=s.heap.update p (xa (·.setIfInBounds j u)) } :=
  I.Sq hp ho (So its n j u) (r.set rv j) (by rw[mY];exact hz) s.toks
 by_cases h0:0<=k
 ·have hk:k.toNat=j:=by
   rw[seqIndex_of h0 h4]at h1
   exact cN h1
  exact PySem.W.ki_setAt ho h0 (by omega) (by rw[cO,<- hl];exact h4) (by rw[hk];exact⟨_,I',q⟩)
 ·have hk:(k+(its.toArray.size:Int)).toNat=j:=by
   rw[seqIndex_neg (by omega) h3]at h1
   rw[cO,<- hl]
   exact cN h1
  exact PySem.W.ki_setBack ho (by omega) (by rw[cO,<- hl];exact h3) (by omega) (by rw[hk];exact⟨_,I',q⟩)
theorem Bb(lo hi:Option Int)(n:Nat):(sliceBounds lo hi none n).1=((HT.cu n 0 lo:Nat):Int)/\(sliceBounds lo hi none n).2.1=((HT.cu n n hi:Nat):Int)/\(sliceBounds lo hi none n).2.2=1:=by
 refine⟨?_,?_,rfl⟩
 ·cases lo with
  | none=>simp[sliceBounds,HT.cu]
  | some i =>
   simp only[sliceBounds,HT.cu,ph,show(1:Int)>0 by decide,if_true]
   by_cases h:i<0
   ·simp only[h,if_true]<;>omega
   ·simp only[h,if_false]<;>omega
 ·cases hi with
  | none=>simp[sliceBounds,HT.cu]
  | some i =>
   simp only[sliceBounds,HT.cu,ph,show(1:Int)>0 by decide,if_true]
   by_cases h:i<0
   ·simp only[h,if_true]<;>omega
   ·simp only[h,if_false]<;>omega
theorem Ss(its:List Value)(lo hi:Option Int):slicePick its.toArray lo hi none=((its.drop (HT.cu its.length 0 lo)).take (HT.cu its.length its.length hi-HT.cu its.length 0 lo)).toArray:=by
 obtain⟨h1,h2,h3⟩:=Bb lo hi its.toArray.size
 unfold slicePick
 rw[h1,h2,h3]
 simp only[sliceRange_one,pick_run,cO]<;>rfl
noncomputable def Su(K:PySem.W.Frag):V->Option Int->Option Int->Hp->VK->Prop:=λx lo hi H Q=>∃a xs,x=.ref a/\bz K H a xs/\∀p,H p=none->Q (.ref p) (upd H p (.lst (pU xs lo hi)))
theorem Sv:nz X (Su X.K):=by
 intro pins s σ H x v vl vu lo hi sl Q I rx hs pl pu h
 obtain⟨a,xs,rfl,hx,q⟩:=h
 cases rx
 obtain⟨its,r,ht,hz⟩:=I.list hx
 have hlen:=r.length
 refine⟨"list",_,slot_list_getitem.lookup,ht.isList.typeIs,?_⟩
 refine wpAny_getItem_list_slice ht.isList hs pl pu .none (by simp) ?_ (by rw[cO]<;>omega)
 rw[Ss,<- hlen]
 refine⟨.ref s.heap.objs.size,_,I.laid (t':=s.toks) (o:=.lst (pU xs lo hi)) (λb ob q=>dQ _ q) (bI _) ?_,rfl,q _ (I.az.fresh (bI _))⟩
 exact⟨dH (Sh xs lo hi) hz,_,0,(r.drop (HT.cu xs.length 0 lo)).take (HT.cu xs.length xs.length hi-HT.cu xs.length 0 lo),gi _ rfl⟩
noncomputable def kG:V->Bool
 | .ak=>true
 | .bl _=>true
 | .int _=>true
 | .str _=>true
 | _=>false
noncomputable def jX:V->V->Bool
 | .ak,.ak=>true
 | .bl a,.bl b=>a==b
 | .bl a,.int b=>(if a then 1 else 0)==b
 | .int a,.bl b=>a==(if b then 1 else 0)
 | .int a,.int b=>a==b
 | .str a,.str b=>a==b
 | _,_=>false
theorem Sw{A:Around}{s:Shared}{y x:V}{u v:Value}(ry:RelV y u)(rx:RelV x v)(fy:kG y=true)(fx:kG x=true):zV A s u v (jX y x):=by
 cases y with
 | ak =>
  cases ry
  cases x with
  | ak=>cases rx;exact SeqAt.EqAt.same _
  | bl b=>cases rx;exact SeqAt.EqAt.none_bool b
  | int b=>obtain⟨t,rfl⟩:=rx;exact SeqAt.EqAt.none_int b t
  | str b=>obtain⟨t,rfl⟩:=rx;exact SeqAt.EqAt.none_str b t
  | _=>exact absurd (show false=true from fx) gh
 | bl a =>
  cases ry
  cases x with
  | ak=>cases rx;exact SeqAt.EqAt.bool_none a
  | bl b=>cases rx;exact SeqAt.EqAt.bool_bool a b
  | int b=>obtain⟨t,rfl⟩:=rx;exact SeqAt.EqAt.bool_int a b t
  | str b=>obtain⟨t,rfl⟩:=rx;exact SeqAt.EqAt.bool_str a b t
  | _=>exact absurd (show false=true from fx) gh
 | int a =>
  obtain⟨t',rfl⟩:=ry
  cases x with
  | ak=>cases rx;exact SeqAt.EqAt.int_none a t'
  | bl b=>cases rx;exact SeqAt.EqAt.int_bool a t' b
  | int b=>obtain⟨t,rfl⟩:=rx;exact SeqAt.EqAt.int_int a t' b t
  | str b=>obtain⟨t,rfl⟩:=rx;exact SeqAt.EqAt.int_str a t' b t
  | _=>exact absurd (show false=true from fx) gh
 | str a =>
  obtain⟨t',rfl⟩:=ry
  cases x with
  | ak=>cases rx;exact SeqAt.EqAt.str_none a t'
  | bl b=>cases rx;exact SeqAt.EqAt.str_bool a t' b
  | int b=>obtain⟨t,rfl⟩:=rx;exact SeqAt.EqAt.str_int a t' b t
  | str b=>obtain⟨t,rfl⟩:=rx;exact SeqAt.EqAt.str_str a t' b t
  | _=>exact absurd (show false=true from fx) gh
 | _=>exact absurd (show false=true from fy) gh
noncomputable def kH(x:V)(u:Value):Bool:=match u with
 | .none=>jX .ak x
 | .bool b=>jX (.bl b) x
 | .int i _=>jX (.int i) x
 | .str z _=>jX (.str z) x
 | _=>false
theorem IY{x y:V}{u:Value}(r:RelV y u)(f:kG y=true):kH x u=jX y x:=by
 cases y with
 | ak=>cases r;rfl
 | bl b=>cases r;rfl
 | int i=>obtain⟨t,rfl⟩:=r;rfl
 | str z=>obtain⟨t,rfl⟩:=r;rfl
 | _=>exact absurd (show false=true from f) gh
theorem Bc{x:V}:∀{xs:List V} {us:List Value},Vals xs us->xs.all kG=true->us.any (kH x)=xs.any λy=>jX y x
 | _,_,.nil,_=>rfl
 | y::xs,u::us,.cons r t,f=>by
  rw[dh,di]at f
  rw[List.any_cons,List.any_cons,IY r f.1,Bc t f.2]
theorem Bd{A:Around}{s:Shared}{x:V}{v:Value}(rx:RelV x v)(fx:kG x=true):∀{xs:List V} {us:List Value},Vals xs us->xs.all kG=true->∀u∈us,zV A s u v (kH x u)
 | _,_,.nil,_=>λu hu=>by cases hu
 | y::xs,u::us,.cons r t,f=>λu' hu=>by
  rw[dh,di]at f
  rcases bR.mp hu with rfl | hu
  ·rw[IY r f.1];exact Sw r rx f.1 fx
  ·exact Bd rx fx t f.2 u' hu
noncomputable def ye(x:V)(xs:List V):Bool:=xs.any λy=>jX y x
noncomputable def Sx(K:PySem.W.Frag)(neg:Bool):R2:=λx y H Q=>∃p xs,y=.ref p/\(bz K H p xs\/fB K H p xs)/\kG x=true/\xs.all kG=true/\Q (.bl (if neg then !ye x xs else ye x xs)) H
theorem Sy:bW X (compareOp .NotIn) (Sx X.K true):=by
 intro pins s σ H x y v u Q I rx ry h
 obtain⟨p,xs,rfl,hq,fx,fs,q⟩:=h
 cases ry
 rcases hq with hq | hq
 ·obtain⟨its,r,pl,hz⟩:=I.list hq
  refine SeqAt.notIn_listAt (kH x) pl.isList (λw hw=>Bd rx fx r fs w (by simpa using hw)) ⟨.bl _,H,I,rfl,?_⟩
  rw[show its.toArray.any (kH x)=its.any (kH x) by simp,Bc r fs]
  exact q
 ·obtain⟨its,r,pl,hz⟩:=I.tuple hq
  refine SeqAt.notIn_tupleAt (kH x) pl (λw hw=>Bd rx fx r fs w (by simpa using hw)) ⟨.bl _,H,I,rfl,?_⟩
  rw[show its.toArray.any (kH x)=its.any (kH x) by simp,Bc r fs]
  exact q
theorem IZ:fE X (.builtin "len") (λxs H Q=>∃p ys,xs=[.ref p]/\(bz X.K H p ys\/fB X.K H p ys)/\Q (.int ys.length) H):=by
 intro pins s σ H xs us Q I r h
 obtain⟨p,ys,rfl,hq,q⟩:=h
 obtain⟨u,rfl,rx⟩:=tZ r
 cases rx
 have hn:=nt
 rcases hq with hq | hq
 ·obtain⟨its,r',pl,hz⟩:=I.list hq
  have hlen:=r'.length
  exact Calls.call_len_list pl.isList (by simp only[cO]<;>omega) ⟨.int ys.length,H,I.tok _,⟨s.toks+1,by rw[cO,hlen]⟩,q⟩
 ·obtain⟨its,r',pl,hz⟩:=I.tuple hq
  have hlen:=r'.length
  exact len_tuple pl (by simp only[cO]<;>omega) ⟨.int ys.length,H,I.tok _,⟨s.toks+1,by rw[cO,hlen]⟩,q⟩
theorem Sz:fE X (.builtin "len") (λxs H Q=>∃z,xs=[.str z]/\z.length<=sizeLine/\Q (.int z.length) H):=by
 intro pins s σ H xs us Q I r h
 obtain⟨z,rfl,hz,q⟩:=h
 obtain⟨u,rfl,t,rfl⟩:=tZ r
 have hn:=nt
 exact len_str (by omega) ⟨.int z.length,H,I.tok _,⟨_,rfl⟩,q⟩
theorem fE.or{f:Value}{r r':List V->Hp->VK->Prop}(h:fE X f r)(h':fE X f r'):fE X f (λxs H Q=>r xs H Q\/r' xs H Q):=by
 intro pins s σ H xs us Q I rs q
 rcases q with q | q
 ·exact h pins s σ H xs us Q I rs q
 ·exact h' pins s σ H xs us Q I rs q
theorem SA:fE X (.type "list") (λxs H Q=>∃p ys,xs=[.ref p]/\(bz X.K H p ys\/fB X.K H p ys)/\∀l,H l=none->Q (.ref l) (upd H l (.lst ys))):=by
 intro pins s σ H xs us Q I r h
 obtain⟨p,ys,rfl,hq,q⟩:=h
 obtain⟨u,rfl,rx⟩:=tZ r
 cases rx
 have fin:∀(its:List Value),Vals ys its->ys.length<=sizeLine->∀(h':Heap) (c':Nat),(∀b o',s.heap.get? b=some o'->h'.get? b=some o') ->
   h'.get? s.heap.objs.size=some { cls:=.type "list",dict:=none,data:=.seq its.toArray c',slots:=#[] }->EP X pins σ Q (.ref s.heap.objs.size) { s with heap:=h' }:=λits r' hz h' c' kp e =>
  ⟨.ref s.heap.objs.size,_,I.laid (t':=s.toks) kp (bI _) (show c9 X.prog X.w _ h' _ (.lst ys) from⟨hz,its,c',r',e⟩),rfl,q _ (I.az.fresh (bI _))⟩
 rcases hq with hq | hq
 ·obtain⟨its,r',pl,hz⟩:=I.list hq
  have hlen:=r'.length
  obtain⟨o,ho,hc,n,hd⟩:=pl.isList
  exact call_list_seq p (.inl rfl) ho hc hd (λh' c' kp e=>fin its r' hz h' c' kp e) (by simp only[cO]<;>omega)
 ·obtain⟨its,r',pl,hz⟩:=I.tuple hq
  have hlen:=r'.length
  obtain⟨o,ho,hc,n,hd⟩:=pl
  exact call_list_seq p (.inr rfl) ho hc hd (λh' c' kp e=>fin its r' hz h' c' kp e) (by simp only[cO]<;>omega)
noncomputable def Be(K:PySem.W.Frag)(T:String)(x:V)(H:Hp):Prop:=match x with
 | .str _=>T="str"
 | .int _=>T="int"
 | .ref p=>(T="list"/\∃xs,bz K H p xs)\/(T="tuple"/\∃o,K.lookup p=some o/\o.cls=.type "tuple"/\o.dict=none) \/
   (T="dict"/\((∃cQ,H p=some (.dK cQ))\/∃cQ,H p=some (.dT cQ)))\/(T="set"/\∃S n,H p=some (.set S n))
 | _=>False
theorem I0{pins:List (Addr × Obj)}{σ:St}{H:Hp}{s:Shared}{T:String}{x:V}{v:Value}(I:Inv X pins σ H s)(r:RelV x v)(ty:Be X.K T x H) :
  s.TypeIs v T/\∀a,v=.ref a->∃ob,s.heap.get? a=some ob/\ob.dict=none:=by
 cases x with
 | str z =>
  obtain⟨t,rfl⟩:=r
  cases(show T="str" from ty)
  exact⟨typeIs_str s z t,λ_ e=>nomatch e⟩
 | int i =>
  obtain⟨t,rfl⟩:=r
  cases(show T="int" from ty)
  exact⟨typeIs_int s i t,λ_ e=>nomatch e⟩
 | ref p =>
  cases r
  rcases ty with⟨rfl,xs,hq⟩ | ⟨rfl,o,hk,hc,hd⟩ | ⟨rfl,hk⟩ | ⟨rfl,S,n,hk⟩
  ·obtain⟨its,_,pl,_⟩:=I.list hq
   refine⟨pl.isList.typeIs,λa e=>?_⟩
   cases e
   obtain⟨o,n,e,c,hd,_⟩:=pl
   exact⟨o,e,hd⟩
  ·refine⟨⟨o,I.cE p o hk,hc⟩,λa e=>?_⟩
   cases e
   exact⟨o,I.cE _ o hk,hd⟩
  ·have z:∃o,s.heap.get? p=some o/\o.ExactDict:=by
    rcases hk with⟨cQ,hk⟩ | ⟨cQ,hk⟩
    ·obtain⟨_,_,_,_,o,_,_,e,ex,_⟩:=I.az p _ hk
     exact⟨o,e,ex⟩
    ·obtain⟨_,_,_,_,o,_,_,e,ex,_⟩:=I.az p _ hk
     exact⟨o,e,ex⟩
   obtain⟨o,e,ex⟩:=z
   refine⟨⟨o,e,ex.1⟩,λa e2=>?_⟩
   cases e2
   exact⟨o,e,ex.2.1⟩
  ·obtain⟨o,_,_,_,e,ex,_⟩:=I.az p _ hk
   refine⟨⟨o,e,ex.1⟩,λa e2=>?_⟩
   cases e2
   exact⟨o,e,ex.2.1⟩
 | _=>exact eC ty
noncomputable def Ja(K:PySem.W.Frag)(T:String)(r:V->List V->Hp->VK->Prop)(to:TE):TE:=λσ H Q=>to σ H λx H1=>Be K T x H1/\r x [] H1 Q
noncomputable def SD(K:PySem.W.Frag)(T:String)(r:V->List V->Hp->VK->Prop)(to:TE)(t:TA):TE:=λσ H Q=>to σ H λx H1=>Be K T x H1/\t σ H1 λxs H2=>r x xs H2 Q
variable{o e:Expr}{es:List Expr}{to:TE}{t:TA}{name:Str}{apos br:Pos}{T id:String}{r:V->List V->Hp->VK->Prop}
theorem SE(pa:PlainAttrs T)(slot:Slot T name id)(Bf:typeOf (.builtin id)=pure (.type "method_descriptor"))(hm:ua X id r)(ho:PE X o to)
  (ir:attributeBase o name X.env (eval o X.env)=eval o X.env:=by rfl) (iu:(apos.endLine==br.line)=true:=by rfl):PE X (.Call (.Attribute o name apos) [] [] br) (Ja X.K T r to):=by
 intro pins s σ H Q I h
 refine wpAny_Call_method0_late ir iu (aD (ho pins s σ H _ I h) λv s1 ⟨x,H1,I1,r1,ty,q1⟩=>?_)
 obtain⟨h1,h2⟩:=I0 I1 r1 ty
 exact⟨T,id,pa,slot,Bf,h1,h2,Calls.callWith_builtin rfl (PySem.evalArgs_none (hm pins s1 σ H1 x [] v [] Q I1 r1 .nil q1))⟩
theorem Bg(pa:PlainAttrs T)(slot:Slot T name id)(Bf:typeOf (.builtin id)=pure (.type "method_descriptor"))(hm:ua X id r)(ho:PE X o to)(ha:PA X (e::es) t)
  (ir:attributeBase o name X.env (eval o X.env)=eval o X.env:=by rfl)
  (nB:((backTo br (starEach (e::es) X.env)).all (λx=>!x.1)&&(backToKw br (keywordEach [] X.env)).all (λx=>x.1.isSome)
   && decide ((e::es).length+([]:List Keyword).length+(if([]:List Keyword).isEmpty then 0 else 1)<30))=true:=by rfl)
  (iu:(apos.endLine==br.line)=true:=by rfl) (hs:starEach (e::es) X.env=(false,eval e X.env)::starEach es X.env:=by rfl) (nC:(backTo br (starEach es X.env)).any (·.1)=false:=by rfl) :
  PE X (.Call (.Attribute o name apos) (e::es) [] br) (SD X.K T r to t):=by
 intro pins s σ H Q I h
 refine wpAny_Call_method_late ir nB iu rfl (aD (ho pins s σ H _ I h) λv s1 ⟨x,H1,I1,r1,ty,q1⟩=>?_)
 obtain⟨h1,h2⟩:=I0 I1 r1 ty
 refine⟨T,id,pa,slot,Bf,h1,h2,?_⟩
 have hA:=ha br pins s1 σ H1 _ I1 q1
 rw[hs]at hA ⊢
 refine Calls.callWith_builtin (by show(false||(backTo br (starEach es X.env)).any (·.1))=false;rw[nC]<;>rfl) (Calls.evalArgs_plain ?_)
 exact aD hA λus s2 ⟨vs,H2,I2,r2,q2⟩=>hm pins s2 σ H2 x vs v us Q I2 r1 r2 q2
/- xs.append(e),list.index on a cR0 tuple .. are ua facts of 06m -/
end
end L2
namespace L2
open PySem PySem.Spec PyProof.Rows
noncomputable def Jb(X:Cx)(id:String)(r:V->List V->Hp->VK->Prop):Prop :=
 ∀(pins:List (Addr × Obj)) (s:Shared) (σ:St) (H:Hp) (x:V) (xs:List V) (v:Value) (us:List Value) (Q:VK),Inv X pins σ H s->RelV x v->Vals xs us->r x xs H Q ->
  wpAny (model X.prog X.w) X.A (call (.builtin id) (v::us)) (EP X pins σ Q) X.xe s
theorem Vals.one:∀{x:V} {us:List Value},Vals [x] us->∃u,us=[u]/\RelV x u
 | _,_,h=>by cases h with | cons r h=>cases h;exact⟨_,rfl,r⟩
theorem Vals.two:∀{x y:V} {us:List Value},Vals [x,y] us->∃u v,us=[u,v]/\RelV x u/\RelV y v
 | _,_,_,h=>by cases h with | cons r h=>cases h with | cons q h=>cases h;exact⟨_,_,rfl,r,q⟩
theorem Vals.rep{xs:List V}{us:List Value}(h:Vals xs us):∀k:Nat,Vals (aK k xs).flatten (aK k us).flatten
 | 0=>.nil
 | k+1=>by
  rw[mZ,mZ,l6,l6]
  exact Vals.append h (Vals.rep h k)
theorem Jc(its:List Value):∀(k:Nat) (acc:List Value),
  List.foldl (λx1 x2=>x1++x2) acc.toArray (aK k its.toArray)=(acc++(aK k its).flatten).toArray
 | 0,acc=>by simp
 | k+1,acc=>by
  have e:acc.toArray++its.toArray=(acc++its).toArray:=by simp
  have e2:(acc++its)++(aK k its).flatten=acc++(aK (k+1) its).flatten:=by
   rw[mZ,l6,dR]
  rw[<-e2,<- Jc its k (acc++its),<- e,mZ,pj]
section
variable{X:Cx}{pins:List (Addr × Obj)}{σ:St}{H:Hp}{s:Shared}{l b:Addr}{xs ys zs:List V}
theorem Inv.Jd{its its':List Value}{n:Nat}{f:Array Value->Array Value}{t':Nat}(I:Inv X pins σ H s)(hH:H l=some (.lst xs))
  (e:s.heap.get? l=some { cls:=.type "list",data:=.seq its.toArray n }) (hf:f its.toArray=its'.toArray) (hv:Vals ys its') (hz:ys.length<=sizeLine) :
  Inv X pins σ (upd H l (.lst ys)) { s with heap:=s.heap.update l (xa f),toks:=t' }:=by
 have q:=PySem.IsL.update e f
 rw[hf]at q
 refine I.write (x:=l) (e:=l) (by rw[hH];exact trivial) (.inl rfl) (λb' u hb hu=>(mX s.heap (xa f) (dP hb)).trans hu) ⟨_,q⟩ ?_
 exact⟨hz,its',_,hv,q⟩
theorem Inv.Je{its:List Value}{t':Nat}(I:Inv X pins σ H s)(hv:Vals ys its)(hz:ys.length<=sizeLine) :
  Inv X pins σ (upd H s.heap.objs.size (.lst ys)) { s with heap:=s.heap.push { cls:=.type "list",data:=.seq its.toArray },toks:=t' } :=
 I.laid (λ_ _ q=>dQ _ q) (bI _) ⟨hz,its,0,hv,gi _ rfl⟩
theorem Inv.fresh(I:Inv X pins σ H s):H s.heap.objs.size=none:=I.az.fresh (bI _)
theorem Inv.pV(I:Inv X pins σ H s)(hH:H l=some (.lst xs)):xs.length<=sizeLine/\∃(its:List Value) (n:Nat),Vals xs its/\xs.length=its.length/\s.heap.get? l=some { cls:=.type "list",data:=.seq its.toArray n }:=by
 obtain⟨z,its,n,r,e⟩:=I.az l _ hH
 exact⟨z,its,n,r,r.length,e⟩
theorem Jf{n:Nat}(h:n<=sizeLine):zW n=false:=by
 unfold zW
 exact decide_eq_false (by omega)
end
section
variable{X:Cx}
noncomputable def SF:V->List V->Hp->VK->Prop:=λx vs H Q=>∃l xs y,x=.ref l/\vs=[y]/\H l=some (.lst xs)/\xs.length<sizeLine/\Q .ak (upd H l (.lst (xs++[y])))
theorem Jg:Jb X "list.append" SF:=by
 intro pins s σ H x vs v us Q I rx rv h
 obtain⟨l,xs,y,rfl,rfl,hH,hz,q⟩:=h
 cases rx
 obtain⟨u,rfl,ru⟩:=rv.one
 obtain⟨z,its,n,r,hl,e⟩:=I.pV hH
 refine call_meets F.slot_list_append ⟨_,e,rfl⟩ F.entry_list_append (F.args_list_append_2 _ _) (PySem.list_append l its.toArray n u (by rw[cO];omega)) ⟨e,?_⟩
 refine⟨.ak,_,I.Jd (its':=its++[u]) hH e (by simp) (r.append (.cons ru .nil)) ?_,rfl,q⟩
 rw[jj,Pk]
 omega
noncomputable def SG:V->List V->Hp->VK->Prop:=λx vs H Q=>∃l b xs zs,x=.ref l/\vs=[.ref b]/\H l=some (.lst xs)/\H b=some (.lst zs)/\xs.length+zs.length<=sizeLine/\Q .ak (upd H l (.lst (xs++zs)))
theorem SH:Jb X "list.extend" SG:=by
 intro pins s σ H x vs v us Q I rx rv h
 obtain⟨l,b,xs,zs,rfl,rfl,hH,hB,hz,q⟩:=h
 cases rx
 obtain⟨u,rfl,ru⟩:=rv.one
 cases ru
 obtain⟨z,its,n,r,hl,e⟩:=I.pV hH
 obtain⟨z2,nD,n2,r2,ub,e2⟩:=I.pV hB
 have iq:its.toArray.size+nD.toArray.size<=sizeLine:=by rw[cO,cO];omega
 have Bh:¬ (!its.toArray.isEmpty&&zW (its.toArray.size+nD.toArray.size))=true:=by
  rw[Jf iq,Hv]
  exact gh
 refine call_meets F.slot_list_extend ⟨_,e,rfl⟩ F.entry_list_extend (F.args_list_extend_2 _ _)
  (AutoSeq1.list_extend_list_list_0 l its.toArray n b nD.toArray n2 Bh (by rw[cO];omega) (by omega)) ⟨e,e2,?_⟩
 refine⟨.ak,_,I.Jd (its':=its++nD) hH e (by simp) (r.append r2) ?_,rfl,q⟩
 rw[jj]
 omega
noncomputable def SI:R2:=λx y H Q=>∃l b xs zs,x=.ref l/\y=.ref b/\H l=some (.lst xs)/\H b=some (.lst zs)/\xs.length+zs.length<=sizeLine/\∀p,H p=none->Q (.ref p) (upd H p (.lst (xs++zs)))
theorem Jh:bW X (binaryOp .Add) SI:=by
 intro pins s σ H x y v u Q I rx ry h
 obtain⟨l,b,xs,zs,rfl,rfl,hH,hB,hz,q⟩:=h
 cases rx
 cases ry
 obtain⟨z,its,n,r,hl,e⟩:=I.pV hH
 obtain⟨z2,nD,n2,r2,ub,e2⟩:=I.pV hB
 refine PySem.P.add_list e e2 ?_ (by rw[cO,cO];omega)
 have ea:its.toArray++nD.toArray=(its++nD).toArray:=by simp
 rw[ea]
 exact⟨.ref _,_,I.Je (t':=s.toks) (r.append r2) (by rw[jj];omega),rfl,q _ I.fresh⟩
noncomputable def SJ:R2:=λx y H Q=>∃l k xs,x=.ref l/\y=.int k/\H l=some (.lst xs)/\-(2 ^ 63)<=k/\k<2 ^ 63/\xs.length*k.toNat<=sizeLine /\
 ∀p,H p=none->Q (.ref p) (upd H p (.lst (aK k.toNat xs).flatten))
theorem SK{α:Type}(xs:List α)(k:Nat):(aK k xs).flatten.length=k*xs.length:=by
 induction k with
 | zero=>simp
 | succ k ih=>rw[mZ,l6,jj,ih,Nat.succ_mul,sX]
theorem SM:bW X (binaryOp .Mult) SJ:=by
 intro pins s σ H x y v u Q I rx ry h
 obtain⟨l,k,xs,rfl,rfl,hH,h1,h2,hz,q⟩:=h
 cases rx
 obtain⟨t,rfl⟩:=ry
 obtain⟨z,its,n,r,hl,e⟩:=I.pV hH
 have hlen:its.toArray.size*k.toNat<=sizeLine:=by rw[cO,<- hl];exact hz
 have SN:¬ its.toArray.size*k.toNat>(2 ^ 63-1)/8:=by
  have:(sizeLine:Nat)<=(2 ^ 63-1)/8:=by decide
  omega
 have SO:¬ (!Builtin.List.listFitsIndex k)=true:=by
  rw[fitsIndex_both h1 h2]
  exact gh
 have Bh:¬ zW (its.toArray.size*k.toNat)=true:=by
  rw[Jf hlen]
  exact gh
 have SQ:List.foldl (λx1 x2=>x1++x2) #[] (aK (if its.toArray.isEmpty=true then 0 else k.toNat) its.toArray)=(aK k.toNat its).flatten.toArray:=by
  have f0:∀m:Nat,List.foldl (λx1 x2=>x1++x2) #[] (aK m its.toArray)=(aK m its).flatten.toArray:=λm=>by
   have:=Jc its m []
   rw[pk]at this
   exact this
  rw[f0]
  cases its with
  | nil=>simp
  | cons a r'=>rw[if_neg (by simp)]
 refine wpAny_binaryOp_repeat_ref (T:="list") (U:="int") (by decide) ⟨_,e,rfl⟩ (λs'=>typeIs_int s' k t) noFill_list_mul F.fills_int_mul F.slot_int_rmul repeat_list F.slot_int_index.lookup
  (call_meets F.slot_int_rmul (typeIs_int s k t) F.entry_int_rmul (F.args_int_rmul_2 _ _) (int___rmul___int_list k t l its.toArray n)
   ⟨e,rfl,⟨_,e,rfl⟩,call_meets F.slot_list_mul ⟨_,e,rfl⟩ F.entry_list_mul (F.args_list_mul_2 _ _) (AutoListH.list___mul___list_int_3 l its.toArray n k t SO SN Bh) ⟨e,?_⟩⟩)
 rw[SQ]
 exact⟨.ref _,_,I.Je (t':=s.toks) (r.rep k.toNat) (by rw[SK,km];exact hz),rfl,q _ I.fresh⟩
end
section
variable{prog:Program}{w:World}{A:Around}{E:Value->Shared->Prop}{s:Shared}
end
section
variable{X:Cx}
end
end L2
namespace Att
open PySem PySem.W PySem.Calls PyProof.Rows
theorem SR{P:Params}{h:Heap}:∀(ns:List Int) (vs:List Value),WellAll P h vs (ns.map WData.int)->IntsAre vs ns:=by
 intro ns
 induction ns with
 | nil =>
  intro vs w
  rw[iM]at w
  cases w
  exact .nil
 | cons n ns ih =>
  intro vs w
  rw[bV]at w
  cases w with
  | cons a b =>
   cases a
   exact .cons _ _ (ih _ b)
theorem SS{l:OpenLaw}{n:Nat}(hn:l.most=some n){P:Params}{h:Heap}{args:List WData}{vals:List Value}
  (yf:l.row.toRowW.claim.pre args=true) (Bi:WellAll P h vals args) :
  ∃a vs ns,vals=[dG a]/\args=[WData.list (ns.map WData.int)]/\h.get? a=some { cls:=.type "list",data:=.seq vs.toArray }/\IntsAre vs ns/\ns.length<=n:=by
 have ud:WShape.hasAll [] args [.list .int]=true:=(pre_splitW yf).1
 have hc:l.pre.holds [] { args:=args }=true:=(pre_splitW yf).2
 obtain⟨d,r,rfl,h1,h2⟩:=hasAllW_cons ud
 obtain rfl:=hasAllW_nil h2
 obtain⟨xs,rfl,h3⟩:=hasW_list h1
 obtain⟨ns,rfl⟩:=items_int h3
 have hlen:ns.length<=n:=by
  unfold OpenLaw.pre at hc
  have h4:(WTm.not (.lt (.lit (.int (n:Int))) (.len (.arg 0)))).holds [] { args:=[.list (ns.map .int)] }=true:=by
   have h4:=(holds_andW hc).1
   rw[hn]at h4
   exact h4
  have h5:=condW_of h4 (w_not (w_lt w_lit (w_len_list (w_arg rfl))))
  rw[bQ]at h5
  refine Hw λq=>?_
  have q':(n:Int)<((ns.length:Nat):Int):=by omega
  first
   | (rw[decide_eq_true q']at h5;exact absurd h5 (by decide))
   | (simp at h5;omega)
 cases Bi with
 | cons w1 w2 =>
  cases w2
  cases w1 with
  | list ho SU=>exact⟨_,_,ns,rfl,rfl,ho,SR ns _ SU,hlen⟩
theorem SV(l:OpenLaw)(args:List WData):l.row.toRowW.claim.post args (.bool true) args=true :=
 postW_of (r:=l.row.toRowW) (X:=(true==true))
  (show WShape.has [] (.bool true) .bool=true by first | rfl | decide | simp[WShape.has,WShape.arms,WShape.armsAll])
  (show(WTm.eq .res (.lit (.bool true))).value [] { args:=args,res:=some (.bool true),after:=args }=some (.bool (true==true)) from w_eq_bool (w_res rfl) w_lit) rfl
theorem SW{l:OpenLaw}{n:Nat}{q:Program}{loose:List Str}{XP:(Str->Option Value)->Heap->Prop}{YP:World->Heap->Prop}{d:DefRec}
  (hn:l.most=some n) (ue:d.params.defaults=[])
  (call:∀(w:World) (b8 bh:Shared) (mg mb:Str->Option Value) (fa:Addr) (o:Obj) (pm cd doc:Value) (a:Addr) (vs:List Value) (ns:List Int),
   Ground q loose [] XP w b8 mg mb bh.heap->YP w bh.heap ->
   bh.heap.get? fa=some o->o.data=.func (docDef d.name d.params d.body d.scope pm cd doc)->bh.heap.CodeRec cd d.name->mg d.name=some (.ref fa) ->
   bh.heap.get? a=some { cls:=.type "list",data:=.seq vs.toArray }->IntsAre vs ns->ns.length<=n->bh.gens=#[] ->
   codeAny (model l.prog w) callerA (.call (.ref fa) ⟨[.ref a],[]⟩) (λr s'=>r=.ok (.ret (.bool true))/\OldK bh.heap s'.heap/\s'.os=bh.os/\AllBare s'.gens) bh) :
  WalkO q loose XP YP l.row.toRowW d [] (λf vs=>PySem.call f vs):=by
 intro w b8 bh mg mb G Y fa o pm cd doc dV kV ho hd bS hD uf hg args vals as yf cR1 hrd Bi dX
 obtain rfl:dV=.none:=Dflts.none hD ue
 obtain rfl:kV=.none:=Dflts.noKw hD
 obtain⟨a,vs,ns,rfl,rfl,Bj,hints,hlen⟩:=SS hn yf Bi
 refine enter_call (codeAny_mono (call w b8 bh mg mb fa o pm cd doc a vs ns G Y ho (fd_plain hd) bS uf Bj hints hlen hg) λr s' hq=>?_)
 obtain⟨rfl,h2,h3,h4⟩:=hq
 exact⟨.inl ⟨.bool true,.bool true,[],rfl,λ_=>rfl,.bool true,SV l _,λ_=>⟨List.Pairwise.nil,λ_ hm=>(nomatch hm)⟩⟩,h2,h3,h4⟩
section
variable{prog:Program}{w:World}{A:Around}{E:Value->Shared->Prop}{s:Shared}{K:Frag}
end
end Att
namespace L2
open PySem PySem.Spec PyProof.Rows
theorem Ji:∀{vs:List Value} {ns:List Int},IntsAre vs ns->Vals (ns.map V.int) vs
 | _,_,.nil=>.nil
 | _,_,.cons n t h=>.cons ⟨t,rfl⟩ (Ji h)
end L2
namespace L2
open PySem PySem.Spec PyProof.Rows
end L2
/- THE cR4 cR5 (shape;LID,My.* are cR7):
   My.iw: a structure of Jj addresses cR8 cR9 cS0 names (classes,cS1);My.Txt K t: a structure (Prop) of Jj equations over K;
   My.cS2:{K} {implicit addresses ..} (e1:nsIn K mainGlobals "law"=some (some (.ref f))) (e2:K.lookup f=some ⟨oc,od,.func (fnOf "law" "law" params body scope dV kV doc pm an aA ct),sl⟩) (e3:codeIn K aA "law"=true) ..:∃t,My.Txt K t
(Jj tactic k_is has no namespace: write k_is) -/
namespace L2
open PySem PySem.Spec PyProof.Rows
noncomputable def gU(s:Stmt)(j:Nat):Stmt:=match s with
 | .ClassDef _ _ _ body _ _ _ _ _ _ _=>body.getD j (.Pass ⟨0,0,0,0⟩)
 | _=>.Pass ⟨0,0,0,0⟩
noncomputable def gv(s:Stmt):Arguments:=match s with
 | .FunctionDef _ a _ _ _ _ _ _ _ _=>a
 | _=>{ posonlyargs:=[],args:=[],vararg:=none,kwonlyargs:=[],kw_defaults:=[],kwarg:=none,defaults:=[] }
noncomputable def dY(s:Stmt):List Stmt:=match s with
 | .FunctionDef _ _ b _ _ _ _ _ _ _=>b
 | _=>[]
noncomputable def aM(s:Stmt):Scope:=match s with
 | .FunctionDef _ _ _ _ _ _ sc _ _ _=>sc
 | _=>{ kind:=.function,names:=[],isGenerator:=false,isCoroutine:=false }
noncomputable abbrev aX:dm:=λ_ _ _ _ _ _=>False
noncomputable abbrev E0:XK:=λ_ _ _=>False
theorem bE{X:Cx}:iV aX X E0:=λ_ _ _ _ _ _ _ h=>h.elim
structure aH(K:PySem.W.Frag)(x qual:Str)(st:Stmt)(f:Addr)(fd:FuncData):Prop where
 ex:∃(oc:Value) (od:Option Addr) (kV doc pm:Value) (an:Option Addr) (aA ct:Value) (fG:Array (Option Value)),
  fd=PySem.W.fnOf x qual (gv st) (dY st) (aM st) .none kV doc pm an aA ct/\K.lookup f=some ⟨oc,od,.func fd,fG⟩/\PySem.W.codeIn K aA qual=true
 kp:PySem.W.keepIn K (.ref f)=true
section
variable{P:Program}{w:World}{K:PySem.W.Frag}{mg:Str->Option Value}{base:Heap}
theorem aH.ok{x qual:Str}{st:Stmt}{f:Addr}{fd:FuncData}{N ps:List Str}{k:Nat}{sp:Sp}(F:aH K x qual st f fd)(S:bq N ps (aM st))(len:∀vs H Q E,sp vs H Q E->vs.length=ps.length)
  (fg:∀(aA:Value) (A:Around) (outer:List Env) (s:Shared) (H:Hp) (vs:List V) (Q:VK) (E:XK),bM k (A.deeper (envOfC qual (aM st) s.heap.objs.size f aA))->sp vs H Q E ->
   ∃t,PSs (gu aX P w K mg base N qual (aM st) f aA A outer s H E).eI (dY st) t/\t { nx:=λ_ H'=>Q .ak H',rt:=Q } (start N vs) H):aQ P w K mg base aX (k+1) f fd ps sp:=by
 obtain⟨oc,od,kV,doc,pm,an,aA,ct,fG,rfl,lk,bS⟩:=F.ex
 refine yd lk bS S len λA outer s H vs Q E hr fH=>?_
 obtain⟨t,h,q⟩:=fg aA A outer s H vs Q E hr fH
 exact⟨t,h.eI,q⟩
theorem aH.binds{x qual:Str}{st:Stmt}{f:Addr}{fd:FuncData}{ps:List Str}(F:aH K x qual st f fd)
  (h:∀(kV doc pm:Value) (an:Option Addr) (aA ct:Value) (us:List Value),us.length=ps.length->bindArgs (PySem.W.fnOf x qual (gv st) (dY st) (aM st) .none kV doc pm an aA ct) ⟨us,[]⟩=pure (ps.zip us)):Binds K fd ps []:=by
 obtain⟨oc,od,kV,doc,pm,an,aA,ct,fG,rfl,lk,bS⟩:=F.ex
 exact .all (h kV doc pm an aA ct)
theorem yg{x qual:Str}{st:Stmt}{f:Addr}{oc:Value}{od an:Option Addr}{fG:Array (Option Value)}{kV doc pm aA ct:Value}(l:K.lookup f=some ⟨oc,od,.func (PySem.W.fnOf x qual (gv st) (dY st) (aM st) .none kV doc pm an aA ct),fG⟩)
  (c:PySem.W.codeIn K aA qual=true) (k:PySem.W.keepIn K (.ref f)=true):aH K x qual st f (PySem.W.fnOf x qual (gv st) (dY st) (aM st) .none kV doc pm an aA ct):=⟨⟨oc,od,kV,doc,pm,an,aA,ct,fG,rfl,l,c⟩,k⟩
end
section
variable{X:Cx}
theorem pv(i:Nat){x:Str}{pos:Pos}(hN:X.N[i]?=some x:=by rfl)(hv:ju X.env.scope x:=by first | exact av rfl | exact bw (av rfl) | exact bw (bw rfl))(hd:(x==("__debug__":Str))=false:=by decide)
  (bS:(x==("__classdict__":Str))=false:=by decide):PE X (.Name x pos) (Io i):=mh hN hv hd bS
end
theorem jA{A B:Prop}(h:B):if false=true then A else B:=by
 rw[if_neg gh]
 exact h
theorem mn{A B:Prop}(h:A):if true=true then A else B:=by
 rw[if_pos rfl]
 exact h
end L2
namespace Mf
noncomputable def bl(n:Nat):Nat:=if n=0 then 0 else n.log2+1
theorem eT{n m:Nat}:bl n<=m↔n<2 ^ m:=by
 unfold bl
 by_cases h:n=0
 ·simp[h,sY]
 ·rw[if_neg h]
  rw[<-Nat.log2_lt h]
  omega
theorem Bk{n m:Nat}:m<bl n↔2 ^ m<=n:=by
 have:=@eT n m
 omega
theorem kI(n:Nat):n<2 ^ bl n:=eT.mp (bI _)
theorem Jk{n:Nat}(h:n≠0):2 ^ (bl n-1)<=n:=by
 have:0<bl n:=by unfold bl;rw[if_neg h];omega
 exact Bk.mp (by omega)
theorem jB{n:Nat}(h:n≠0):0<bl n:=by
 unfold bl;rw[if_neg h];omega
theorem ug:bl 0=0:=rfl
theorem yh{n:Nat}(h:n≠0):n.testBit (bl n-1)=true:=by
 have h1:=Jk h
 have h2:=kI n
 have hp:=jB h
 have e:bl n=(bl n-1)+1:=by omega
 rw[e,m3]at h2
 rw[Pl]
 have:n/2 ^ (bl n-1)=1:=by
  apply Nat.div_eq_of_lt_le
  ·omega
  ·omega
 rw[this];rfl
theorem SX{x n:Nat}(h:∀i,n<=i->x.testBit i=false):x<2 ^ n:=by
 apply Nat.lt_pow_two_of_testBit
 intro i hi
 exact h i hi
theorem SY{x y n:Nat}(hx:x<2 ^ (n+1))(hy:y<2 ^ (n+1))(tx:x.testBit n=true)(ty:y.testBit n=true):x ^^^ y<2 ^ n:=by
 apply SX
 intro i hi
 rw[kn]
 by_cases e:i=n
 ·rw[e,tx,ty];rfl
 ·have gW:n+1<=i:=by omega
  have p:2 ^ (n+1)<=2 ^ i:=xb (by decide) gW
  rw[zX (cA hx p),zX (cA hy p)]
  rfl
theorem Jl(x y z:Nat):(x ^^^ y) ^^^ (z ^^^ y)=x ^^^ z:=by
 apply xf;intro i;simp only[kn]
 cases x.testBit i<;>cases y.testBit i<;>cases z.testBit i<;>rfl
theorem Jm(x y z t:Nat):(x ^^^ y) ^^^ (z ^^^ t)=(x ^^^ z) ^^^ (y ^^^ t):=by
 apply xf;intro i;simp only[kn]
 cases x.testBit i<;>cases y.testBit i<;>cases z.testBit i<;>cases t.testBit i<;>rfl
noncomputable def P(a b:Nat):Nat->Nat
 | 0=>0
 | k+1=>P a b k ^^^ (if b.testBit k then a <<< k else 0)
noncomputable def cl(a b:Nat):Nat:=P a b (bl b)
theorem Jn{a b k:Nat}(h:b<2 ^ k):∀j,P a b (k+j)=P a b k
 | 0=>rfl
 | j+1=>by
  show P a b (k+j) ^^^ (if b.testBit (k+j)then a <<< (k+j)else 0)=_
  rw[Jn h j]
  have p:2 ^ k<=2 ^ (k+j):=xb (by decide) (by omega)
  rw[zX (cA h p)]
  simp
theorem pW{a b k:Nat}(h:b<2 ^ k):P a b k=cl a b:=by
 have h1:=eT.mpr h
 have e:k=bl b+(k-bl b):=by omega
 rw[e,Jn (kI b)]
 rfl
theorem Jo(a a' b:Nat):∀k,P (a ^^^ a') b k=P a b k ^^^ P a' b k
 | 0=>(m4 0).symm
 | k+1=>by
  show P (a ^^^ a') b k ^^^ _=(P a b k ^^^ _) ^^^ (P a' b k ^^^ _)
  rw[Jo a a' b k]
  by_cases t:b.testBit k=true
  ·rw[if_pos t,if_pos t,if_pos t,Pm]
   ac_rfl
  ·rw[if_neg t,if_neg t,if_neg t]
   simp
theorem Jp(a b b':Nat):∀k,P a (b ^^^ b') k=P a b k ^^^ P a b' k
 | 0=>(m4 0).symm
 | k+1=>by
  show P a (b ^^^ b') k ^^^ _=(P a b k ^^^ _) ^^^ (P a b' k ^^^ _)
  rw[Jp a b b' k,kn]
  cases b.testBit k<;>cases b'.testBit k<;>simp
  ·ac_rfl
  ·ac_rfl
  ·exact(Jl _ _ _).symm
theorem nE(a a' b:Nat):cl (a ^^^ a') b=cl a b ^^^ cl a' b:=Jo a a' b _
theorem pX{x y n:Nat}(hx:x<2 ^ n)(hy:y<2 ^ n):x ^^^ y<2 ^ n:=Nat.xor_lt_two_pow hx hy
theorem S0(a b b':Nat):cl a (b ^^^ b')=cl a b ^^^ cl a b':=by
 let k:=bl b+bl b'
 have h1:b<2 ^ k:=eT.mp (by omega)
 have h2:b'<2 ^ k:=eT.mp (by omega)
 rw[<-pW (pX h1 h2),<- pW h1,<- pW h2,Jp]
theorem Jq(b:Nat):∀k,P 0 b k=0
 | 0=>rfl
 | k+1=>by
  show P 0 b k ^^^ _=0
  rw[Jq b k];simp
theorem mq(b:Nat):cl 0 b=0:=Jq b _
theorem S1(b k:Nat):(b/2).testBit k=b.testBit (k+1):=by
 rw[zY]
theorem Jr(a b:Nat):∀k,P a b (k+1)=(if b%2=1 then a else 0) ^^^ P (2*a) (b/2) k
 | 0=>by
  show 0 ^^^ _=_ ^^^ 0
  rw[m5,m4,xg]
  simp
 | k+1=>by
  show P a b (k+1) ^^^ _=_ ^^^ (P (2*a) (b/2) k ^^^ _)
  rw[Jr a b k,S1,pq]
  have e:a <<< (k+1)=(2*a) <<< k:=by
   rw[jk,jk,m3]
   rw[km 2 a,m6,km 2]
  rw[e]
theorem S2{b k:Nat}(h:b<2 ^ (k+1)):b/2<2 ^ k:=by
 rw[m3]at h;omega
theorem S3(a b:Nat):cl a b=(if b%2=1 then a else 0) ^^^ cl (2*a) (b/2):=by
 have h:b<2 ^ (bl b+1):=Nat.lt_trans (kI b) (by rw[m3];have:=sY (bl b);omega)
 rw[<-pW h,Jr,pW (S2 h)]
theorem Js(a b:Nat):∀k,P (2*a) b k=2*P a b k
 | 0=>rfl
 | k+1=>by
  show P (2*a) b k ^^^ _=2*(P a b k ^^^ _)
  rw[Js a b k]
  have d:∀x y:Nat,2*(x ^^^ y)=2*x ^^^ 2*y:=by
   intro x y
   have h:=@Pm 1 x y
   rw[jk,jk,jk,Hx]at h
   rw[km 2 (x ^^^ y),km 2 x,km 2 y]
   exact h
  rw[d]
  by_cases t:b.testBit k=true
  ·rw[if_pos t,if_pos t,jk,jk,m6]
  ·rw[if_neg t,if_neg t]
theorem Bl(a b:Nat):cl (2*a) b=2*cl a b:=Js a b _
theorem uh(a c t:Nat)(ht:t<2):cl a (2*c+t)=2*cl a c ^^^ (if t=1 then a else 0):=by
 rw[S3,Bl,Hy]
 have e1:(2*c+t)/2=c:=by omega
 have e2:(2*c+t)%2=t:=by omega
 rw[e1,e2]
theorem S4(a c:Nat):cl a (2*c)=2*cl a c:=by
 have h:=uh a c 0 (by decide)
 simpa using h
theorem Jt(c t:Nat)(ht:t<2):2*c ^^^ t=2*c+t:=by
 apply xf
 intro i
 cases i with
 | zero =>
  rw[kn,xg,xg,xg]
  have:t=0\/t=1:=by omega
  rcases this with h | h<;>subst h<;>simp<;>omega
 | succ i =>
  rw[kn,zY,zY,zY]
  have e1:2*c/2=c:=by omega
  have e2:t/2=0:=by omega
  have e3:(2*c+t)/2=c:=by omega
  rw[e1,e2,e3];simp
theorem Bo:∀b:Nat,cl 1 b=b:=by
 intro b
 induction b using zZ with
 | ind b ih =>
  by_cases h:b=0
  ·subst h;rfl
  ·have e:b=2*(b/2)+b%2:=by omega
   rw[e,uh 1 (b/2) (b%2) (by omega),ih (b/2) (by omega)]
   have:b%2=0\/b%2=1:=by omega
   rcases this with h | h
   ·rw[h];simp
   ·rw[h];rw[if_pos rfl];exact Jt _ _ (by decide)
theorem ui:∀b a:Nat,cl a b=cl b a:=by
 intro b
 induction b using zZ with
 | ind b ih =>
  intro a
  by_cases h:b=0
  ·subst h;rw[mq];rfl
  ·have e:b=2*(b/2)+b%2:=by omega
   have lt:b%2<2:=by omega
   have e':cl b a=cl (2*(b/2) ^^^ b%2) a:=by rw[Jt _ _ lt,<- e]
   rw[e',nE,Bl,<- ih (b/2) (by omega) a]
   have S5:cl a b=cl a (2*(b/2)+b%2):=by rw[<-e]
   rw[S5,uh _ _ _ lt]
   have:b%2=0\/b%2=1:=by omega
   rcases this with h | h
   ·rw[h,mq];rfl
   ·rw[h,Bo];rfl
theorem Bp{a m:Nat}(h:a<2 ^ m)(b:Nat):∀k,P a b (k+1)<2 ^ (m+k)
 | 0=>by
  show 0 ^^^ _<_
  rw[m5,Nat.add_zero]
  by_cases t:b.testBit 0=true
  ·rw[if_pos t];simpa using h
  ·rw[if_neg t];exact sY m
 | k+1=>by
  show P a b (k+1) ^^^ _<_
  have i:=Bp h b k
  have p:2 ^ (m+k)<=2 ^ (m+(k+1)):=xb (by decide) (by omega)
  apply pX (cA i p)
  by_cases t:b.testBit (k+1)=true
  ·rw[if_pos t,jk,Nat.pow_add 2 m]
   exact(Pn (sY _)).mpr h
  ·rw[if_neg t];exact sY _
theorem S6{a b m n:Nat}(h:a<2 ^ m)(h':b<2 ^ (n+1)):cl a b<2 ^ (m+n):=by
 rw[<-pW h'];exact Bp h b n
theorem S7{a b:Nat}(ha:a≠0)(hb:b≠0):2 ^ (bl a-1+(bl b-1))<=cl a b:=by
 have e:bl b=(bl b-1)+1:=by have:=jB hb;omega
 have ta:=yh ha
 have tb:=yh hb
 apply Nat.ge_two_pow_of_testBit
 unfold cl
 rw[e]
 show(P a b (bl b-1) ^^^ _).testBit _=true
 have e2:bl b-1+1-1=bl b-1:=by omega
 rw[e2,kn,if_pos tb]
 have f:(P a b (bl b-1)).testBit (bl a-1+(bl b-1))=false:=by
  cases q:bl b-1 with
  | zero=>show Nat.testBit 0 _=false;exact Nat.zero_testBit _
  | succ k =>
   apply zX
   have l:=Bp (kI a) b k
   have p:=jB ha
   have e3:bl a-1+(k+1)=bl a+k:=by omega
   rw[e3];exact l
 rw[f,Po]
 have e4:bl a-1+(bl b-1)-(bl b-1)=bl a-1:=by omega
 rw[e4,ta]
 simp
theorem Ju{a b:Nat}(ha:a≠0)(hb:b≠0):bl (cl a b)=bl a+bl b-1:=by
 have p1:=jB ha
 have p2:=jB hb
 have h1:bl (cl a b)<=bl a+(bl b-1):=eT.mpr (S6 (kI a) (by
  have e:bl b-1+1=bl b:=by omega
  rw[e];exact kI b))
 have h2:=Bk.mpr (S7 ha hb)
 omega
theorem Jv(s b:Nat):cl (2 ^ s) b=b <<< s:=by
 induction s with
 | zero=>rw[Hz,Bo];rfl
 | succ s ih =>
  rw[m3,km,Bl,ih,jk,jk,m3]
  rw[<-m6,km 2,m6,km 2,<- m6,m6]
theorem S8{a q b r s:Nat}(h:a=cl q b ^^^ r):a=cl (q ^^^ 2 ^ s) b ^^^ (r ^^^ b <<< s):=by
 rw[nE,Jv,h,Jl]
theorem Jw{b r:Nat}(hb:b≠0)(h:bl b<=bl r):bl (r ^^^ b <<< (bl r-bl b))<bl r:=by
 have p:=jB hb
 have hr:r≠0:=by
  intro z;rw[z,ug]at h;omega
 have:r ^^^ b <<< (bl r-bl b)<2 ^ (bl r-1):=by
  apply SY
  ·have e:bl r-1+1=bl r:=by omega
   rw[e];exact kI r
  ·have e:bl r-1+1=bl b+(bl r-bl b):=by omega
   rw[e,jk,Nat.pow_add]
   exact(Pn (sY _)).mpr (kI b)
  ·exact yh hr
  ·rw[Po]
   have e:bl r-1-(bl r-bl b)=bl b-1:=by omega
   rw[e,yh hb]
   simp;omega
 have:=eT.mpr this
 omega
theorem S9{x y z:Nat}(h:x ^^^ y=z):x=z ^^^ y:=by
 rw[<-h,pq,xh,m4]
theorem Bq{x y:Nat}(h:x ^^^ y=0):x=y:=by
 have:=S9 h
 rwa [m5]at this
theorem Ta{b q r q' r':Nat}(h:cl q b ^^^ r=cl q' b ^^^ r')(hr:bl r<bl b)(bU:bl r'<bl b):q=q'/\r=r':=by
 have hb:b≠0:=by intro z;rw[z,ug]at hr;omega
 have e:cl (q ^^^ q') b=r ^^^ r':=by
  rw[nE]
  have z:(cl q b ^^^ r) ^^^ (cl q' b ^^^ r')=0:=by rw[h,xh]
  rw[Jm]at z
  exact Bq z
 have lt:bl (r ^^^ r')<bl b:=by
  have h1:r<2 ^ (bl b-1):=eT.mp (by omega)
  have h2:r'<2 ^ (bl b-1):=eT.mp (by omega)
  have:=eT.mpr (pX h1 h2)
  have:=jB hb
  omega
 have z:q ^^^ q'=0:=by
  apply Classical.byContradiction
  intro hq
  have h1:=Ju hq hb
  have h2:=jB hq
  rw[e]at h1
  omega
 have zq:=Bq z
 subst zq
 rw[z,mq]at e
 exact⟨rfl,Bq e.symm⟩
end Mf
namespace Mf
open PySem PySem.Builtin.Int
theorem Tc(x y:Nat):(x ^^^ y)+2*(x &&& y)=x+y:=by
 induction x using zZ generalizing y with
 | ind x ih =>
  by_cases h:x=0
  ·subst h;simp
  ·have h1:=ih (x/2) (by omega) (y/2)
   have e1:(x ^^^ y)/2=x/2 ^^^ y/2:=Nat.xor_div_two
   have e2:(x &&& y)/2=x/2 &&& y/2:=Nat.and_div_two
   have t:∀n:Nat,n%2=if n.testBit 0=true then 1 else 0:=by
    intro n
    rw[xg]
    by_cases h:n%2=1
    ·simp[h]
    ·simp[h];omega
   have m1:(x ^^^ y)%2=(x%2+y%2)%2:=by
    rw[t (x ^^^ y),t x,t y,kn]
    cases x.testBit 0<;>cases y.testBit 0<;>rfl
   have m2:(x &&& y)%2=x%2*(y%2):=by
    rw[t (x &&& y),t x,t y,HA]
    cases x.testBit 0<;>cases y.testBit 0<;>rfl
   have d1:=Nat.div_add_mod (x ^^^ y) 2
   have d2:=Nat.div_add_mod (x &&& y) 2
   rw[e1]at d1
   rw[e2]at d2
   have hx:x%2=0\/x%2=1:=by omega
   have hy:y%2=0\/y%2=1:=by omega
   rcases hx with hx | hx<;>rcases hy with hy | hy<;>rw[hx,hy]at m1 m2<;>omega
theorem Jx{x y:Int}(hx:0<=x)(hy:0<=y):mV x y=((x.toNat &&& y.toNat:Nat):Int):=by
 unfold mV
 rw[decide_eq_true hx,decide_eq_true hy]
theorem Td{x y:Int}(hx:0<=x)(hy:0<=y):Builtin.bitOr x y=((x.toNat ||| y.toNat:Nat):Int):=by
 unfold Builtin.bitOr mV Builtin.bitNot
 rw[decide_eq_false (by omega),decide_eq_false (by omega)]
 show-(-((((- (-x-1)-1).toNat ||| (-(-y-1)-1).toNat:Nat):Int))-1)-1=_
 have e1:(- (-x-1)-1).toNat=x.toNat:=by omega
 have e2:(- (-y-1)-1).toNat=y.toNat:=by omega
 rw[e1,e2]
 omega
theorem Te(x y:Nat):(x ||| y)=(x ^^^ y)+(x &&& y):=by
 have d:(x ^^^ y) &&& (x &&& y)=0:=by
  apply xf;intro i
  simp only[kn,HA,Nat.zero_testBit]
  cases x.testBit i<;>cases y.testBit i<;>rfl
 have e:(x ||| y)=(x ^^^ y) ^^^ (x &&& y):=by
  apply xf;intro i
  simp only[kn,HA,Nat.testBit_or]
  cases x.testBit i<;>cases y.testBit i<;>rfl
 have h:=Tc (x ^^^ y) (x &&& y)
 rw[d]at h
 rw[e];omega
theorem Tf{x y:Int}(hx:0<=x)(hy:0<=y):lZ x y=((x.toNat ^^^ y.toNat:Nat):Int):=by
 unfold lZ
 rw[Td hx hy,Jx hx hy,Te]
 omega
theorem uj(x y:Nat):lZ (x:Int) (y:Int)=((x ^^^ y:Nat):Int):=by
 rw[Tf (by omega) (by omega)];rfl
theorem Tg(x y:Nat):mV (x:Int) (y:Int)=((x &&& y:Nat):Int):=by
 rw[Jx (by omega) (by omega)];rfl
theorem pY(x k:Nat):(x:Int)*2 ^ ((k:Int)).toNat=((x <<< k:Nat):Int):=by
 rw[jk]
 simp
theorem Th(x k:Nat):(x:Int)/2 ^ ((k:Int)).toNat=((x >>> k:Nat):Int):=by
 rw[Pp]
 simp
theorem Ti(x k:Nat):((x >>> k) &&& 1=1)↔x.testBit k=true:=by
 rw[Pl,Pp]
 have:(x/2 ^ k) &&& 1=(x/2 ^ k)%2:=Nat.and_two_pow_sub_one_eq_mod _ 1
 rw[this]
 simp
end Mf
namespace Mf
end Mf
namespace Mf
theorem Jy(a b:Nat):∀c,cl (cl a b) c=cl a (cl b c):=by
 intro c
 induction c using zZ with
 | ind c ih =>
  by_cases h:c=0
  ·subst h;rfl
  ·have e:c=2*(c/2)+c%2:=by omega
   have lt:c%2<2:=by omega
   have i:=ih (c/2) (by omega)
   rw[e,uh _ _ _ lt,uh _ _ _ lt,i,S0,S4]
   have:c%2=0\/c%2=1:=by omega
   rcases this with h | h
   ·rw[h];rfl
   ·rw[h];rfl
noncomputable def pZ:Nat->Nat->Nat->Nat
 | 0,a,_=>a
 | n+1,a,b=>if bl a<bl b then a else pZ n (a ^^^ b <<< (bl a-bl b)) b
noncomputable def md(a b:Nat):Nat:=pZ (bl a+1) a b
theorem Jz{b:Nat}(hb:b≠0):∀n a,bl a<n->(∃q,a=cl q b ^^^ pZ n a b)/\bl (pZ n a b)<bl b
 | 0,_,h=>absurd h (by omega)
 | n+1,a,h=>by
  unfold pZ
  by_cases l:bl a<bl b
  ·rw[if_pos l]
   exact⟨⟨0,by rw[mq,m5]⟩,l⟩
  ·rw[if_neg l]
   have less:=Jw hb (show bl b<=bl a by omega)
   obtain⟨⟨q,e⟩,l2⟩:=Jz hb n (a ^^^ b <<< (bl a-bl b)) (by omega)
   refine⟨⟨q ^^^ 2 ^ (bl a-bl b),?_⟩,l2⟩
   rw[nE,Jv]
   have e2:a=(a ^^^ b <<< (bl a-bl b)) ^^^ b <<< (bl a-bl b):=by rw[pq,xh,m4]
   rw[e]at e2
   refine e2.trans ?_
   generalize pZ n _ b=r
   rw[pq,Hy r,<- pq]
theorem uk{b:Nat}(hb:b≠0)(a:Nat):(∃q,a=cl q b ^^^ md a b)/\bl (md a b)<bl b:=Jz hb _ a (by omega)
theorem um{a b q r:Nat}(h:a=cl q b ^^^ r)(hr:bl r<bl b):md a b=r:=by
 have hb:b≠0:=by intro z;rw[z,ug]at hr;omega
 obtain⟨⟨q',e⟩,l⟩:=uk hb a
 exact(Ta (e.symm.trans h) l hr).2
theorem Tj(q:Nat){b:Nat}(hb:b≠0):md (cl q b) b=0 :=
 um (q:=q) (by rw[m4]) (by rw[ug];exact jB hb)
end Mf
namespace Mf
theorem Br{x y:Nat}(h:x<=y):bl x<=bl y:=eT.mpr (kq h (kI y))
end Mf
namespace Mf
noncomputable def al(a:Nat):Bool:=decide (2<=a)&&(au (2 ^ ((bl a-1)/2+1)-2)).all λi=>md a (2+i) != 0
theorem Tn{a:Nat}(h:a<2):al a=false:=by
 unfold al;rw[decide_eq_false (by omega)];rfl
theorem To{a:Nat}(h:2<=a)(k:∀i,i<2 ^ ((bl a-1)/2+1)-2->md a (2+i)≠0):al a=true:=by
 unfold al
 rw[decide_eq_true h,kr,dj]
 intro i hi
 have:=k i (bP.mp hi)
 simpa using this
theorem Tp{a i:Nat}(k:i<2 ^ ((bl a-1)/2+1)-2)(z:md a (2+i)=0):al a=false:=by
 unfold al
 rw[Bool.and_eq_false_iff]
 right
 rw[List.all_eq_false]
 exact⟨i,bP.mpr k,by simp[z]⟩
theorem Tq{a:Nat}(h:2<=a){b:Nat}(hb:b<2 ^ ((bl a-1)/2+1)):b<a/\2*bl b<=bl a+1:=by
 have h2:2<=bl a:=by
  have:=Bk.mpr (show 2 ^ 1<=a by omega)
  omega
 have l:=eT.mpr hb
 refine⟨cA hb (dH (xb (by decide) ?_) (Jk (by omega))),by omega⟩
 omega
end Mf
namespace L2
open PySem PySem.Spec PyProof.Rows Mf
theorem p5:bootBuiltins "len"=some (.builtin "len"):=by decide +kernel
theorem Tr:bootBuiltins "isinstance"=some (.builtin "isinstance"):=by decide +kernel
theorem JA:bootBuiltins "min"=some (.builtin "min"):=by decide +kernel
theorem JB:bootBuiltins "all"=some (.builtin "all"):=by decide +kernel
theorem JC:bootBuiltins "int"=some (.type "int"):=by decide +kernel
theorem Ts:bootBuiltins "bool"=some (.type "bool"):=by decide +kernel
theorem JE:bootBuiltins "list"=some (.type "list"):=by decide +kernel
section
variable{X:Cx}{a b o:Expr}{ta tb to:TE}{pos apos br:Pos}
theorem JF(i:Int):Builtin.Int.intBits i=bl i.natAbs:=by
 unfold Builtin.Int.intBits bl
 by_cases h:i=0
 ·subst h;rfl
 ·have h':¬ i.natAbs=0:=by omega
  rw[if_neg h',if_neg (by simpa using h)]
noncomputable def JG:V->List V->Hp->VK->Prop:=λx vs H Q=>∃i,x=.int i/\vs=[]/\Q (.int (bl i.natAbs:Nat)) H
theorem Tt:ua X "int.bit_length" JG:=by
 intro pins s σ H x xs v us Q I rx rs h
 obtain⟨i,rfl,rfl,q⟩:=h
 obtain⟨t,rfl⟩:=rx
 cases rs
 refine call_int_bit_length ?_
 rw[JF]
 exact⟨.int _,H,I.tok _,⟨_,rfl⟩,q⟩
theorem Bt(ho:PE X o to)(ir:attributeBase o "bit_length" X.env (eval o X.env)=eval o X.env:=by rfl)(iu:(apos.endLine==br.line)=true:=by rfl) :
  PE X (.Call (.Attribute o "bit_length" apos) [] [] br) (Ja X.K "int" JG to) :=
 SE PySem.F.plainAttrs_int PySem.F.slot_int_bit_length PySem.F.type_int_bit_length Tt ho ir iu
noncomputable def JH(i j:Int):Prop:=0<=j/\((bl i.natAbs:Nat):Int)+j<=134217728
theorem JI:bW X (binaryOp .LShift) (rI JH λi j=>.int (i*2 ^ j.toNat)):=pP λi j _ _ _ _ _ hc q =>
 lshift_int hc.1 (by rw[JF];exact Int.le_trans hc.2 (by decide)) q
theorem Tu{x:Str}{n:String}(hg:Gl X x)(hm:X.mg x=none)(hv:bootBuiltins x=some (.type n))(hn:x≠"__name__":=by decide)(hd:(x==("__debug__":Str))=false:=by decide):PE X (.Name x pos) (tC (.ty n)) :=
 Qf hg hm hv rfl hn hd
noncomputable def Tv(K:PySem.W.Frag):List V->Hp->VK->Prop:=λxs H Q=>∃x n t b,xs=[x,.ty n]/\gr K H x t/\PySem.W.kitOne K t (.type n)=some b/\Q (.bl b) H
theorem Tw:fE X (.builtin "isinstance") (Tv X.K):=by
 intro pins s σ H xs us Q I r h
 obtain⟨x,n,t,b,rfl,ty,e,q⟩:=h
 obtain⟨u,v,rfl,ru,rv⟩:=r.two
 cases(show v=Value.type n from rv)
 exact RN I ru ty e λtk=>⟨.bl b,H,I.tok _,rfl,q⟩
end
theorem Tx(b i:Nat):decide (V.int (mV ((b:Int)/2 ^ ((0:Int)+(i:Int)).toNat) 1)=V.int 1)=b.testBit i:=by
 have e:((0:Int)+(i:Int)).toNat=((i:Int)).toNat:=by omega
 rw[e,Th,show(1:Int)=((1:Nat):Int) from rfl,Tg,pB,decide_eq_true_iff,<- Ti]
 constructor
 ·intro h;injection h with h;omega
 ·intro h;rw[h]
theorem Tz{a b i:Nat}(h:b.testBit i=true):lZ ((P a b i:Nat):Int) ((a:Int)*2 ^ ((0:Int)+(i:Int)).toNat)=((P a b (i+1):Nat):Int):=by
 have e:((0:Int)+(i:Int)).toNat=((i:Int)).toNat:=by omega
 rw[e,pY,uj]
 show _=((P a b i ^^^ (if b.testBit i then a <<< i else 0):Nat):Int)
 rw[if_pos h]
theorem TB{a b i:Nat}(h:¬ b.testBit i=true):P a b (i+1)=P a b i:=by
 show P a b i ^^^ (if b.testBit i then a <<< i else 0)=_
 rw[if_neg h,m4]
theorem dI{i j:Int}:decide (V.int i=V.int j)=true↔i=j:=by
 rw[decide_eq_true_iff]
 exact⟨λh=>by injection h,λh=>by rw[h]⟩
end L2
namespace L2
open PySem PySem.Spec PyProof.Rows
section
variable{X:Cx}
end
end L2
namespace L2
open PySem PySem.Spec PyProof.Rows
noncomputable def yi(X:Cx)(scope:Scope)(N:List Str)(cl:List (Str × Addr))(C:Addr)(s:Shared)(H:Hp)(fp:List Addr):Cx where
 prog:=X.prog
 w:=X.w
 K:=X.K
 mg:=X.mg
 base:=X.base
 A:=X.A
 N:=N
 b8:=s
 iP:=H
 env:=compEnvC scope cl C X.env
 outer:=X.stack
 stack:=X.stack
 ex:=fp
 fn:=λ_=>false
 calm:=X.calm
 pn:=[]
 xe:=λ_ _=>False
noncomputable def kJ(X:Cx)(scope:Scope)(cl:List (Str × Addr)):List (Str × Nat)->Prop
 | []=>True
 | (y,i)::r=>(X.N[i]?=some y/\(X.env.scope.names.lookup y=some .cell\/X.env.scope.names.lookup y=some .free)/\((relabel scope X.env).names.lookup y=some .cell\/(relabel scope X.env).names.lookup y=some .free)/\∃c,cl.lookup y=some c/\X.env.cells.lookup y=some c)/\kJ X scope cl r
theorem kJ.at{X:Cx}{scope:Scope}{cl:List (Str × Addr)}:∀{aq:List (Str × Nat)},kJ X scope cl aq->∀p∈aq,X.N[p.2]?=some p.1/\(X.env.scope.names.lookup p.1=some .cell\/X.env.scope.names.lookup p.1=some .free)/\((relabel scope X.env).names.lookup p.1=some .cell\/(relabel scope X.env).names.lookup p.1=some .free)/\∃c,cl.lookup p.1=some c/\X.env.cells.lookup p.1=some c
 | [],_,p,hp=>absurd hp (by simp)
 | (y,i)::r,h,p,hp=>by
  rcases bR.mp hp with e | e
  ·subst e;exact h.1
  ·exact kJ.at h.2 p e
noncomputable def kK(Y:Cx)(ifs:List Expr)(t:TT):Prop :=
 ∀(pins:List (Addr × Obj)) (s:Shared) (σ:St) (H:Hp) (Q:Bool->Hp->Prop),Inv Y pins σ H s->t σ H Q ->
  wpAny (model Y.prog Y.w) Y.A (forIn ifs true λc r=>if r=true then do let ok<-isTrue c Y.env (eval c Y.env);pure (z5 ok)else pure (z5 r)) (TP Y pins σ Q) Y.xe s
noncomputable def TC:TT:=λ_ H Q=>Q true H
theorem TF{Y:Cx}:kK Y [] TC:=λ_ _ _ H _ I h=>wpAny_tests_nil ⟨H,I,h⟩
theorem TH{Y:Cx}{c:Expr}{t:TT}(h:PT Y c t):kK Y [c] t:=λpins s σ H Q I q=>wpAny_tests_one (h pins s σ H Q I q)
section
variable{X:Cx}{elt iter:Expr}{x:Str}{px pos:Pos}{ifs:List Expr}{scope:Scope}{cl:List (Str × Addr)}{aq:List (Str × Nat)}{wi:TI}{tt:TT}{te:TE}
end
section
variable{prog:Program}{w:World}{A:Around}{R:Result->Shared->Prop}{s:Shared}
theorem TJ{elt target iter:Expr}{ifs:List Expr}{scope:Scope}{pos:Pos}{it acc:Value}{env:Env}(Iv:Nat->Shared->Prop)
  (turn:∀n s,Iv n s->wpAny (model prog w) A (pyNext it) (λr s1=>match r with
   | none=>R (.ok .next) s1
   | some v=>wpAny (model prog w) A (letOwnedTupleGo target it v) (λ_ t1=>wpAny (model prog w) A (assign target env v) (λ_ s2 =>
     wpAny (model prog w) A (forIn ifs true λc r=>if r=true then do let ok<-isTrue c env (eval c env);pure (z5 ok)else pure (z5 r)) (λok s3 =>
      if ok=true then wpAny (model prog w) A (eval elt env) (λy s4=>wpAny (model prog w) A (call (.builtin "list.append") [acc,y]) (λ_ s5=>∃m,m<n/\Iv m s5) (λ_ _=>False) s4) (λ_ _=>False) s3
      else ∃m,m<n/\Iv m s3) (λ_ _=>False) s2) (λ_ _=>False) t1) (λ_ _=>False) s1) (λ_ _=>False) s)
  (n:Nat) (h:Iv n s):codeAny (model prog w) A (.compLoop (.ListComp elt [⟨target,iter,ifs,0⟩] scope pos) 0 it acc env) R s:=by
 refine codeAny_loop rfl Iv (λn s hI=>?_) n h
 change wpAny _ A (Sem.onRaise (compTurn (.ListComp elt [⟨target,iter,ifs,0⟩] scope pos) 0 it acc env) λx=>do noteFrame x env;theTreesLotGoes x) _ _ s
 refine wpAny_noted (wpAny_mono (E:=λ_ _=>False) ?_ (λ_ _ q=>q) λ_ _ z=>z.elim)
 rw[compTurn_list]
 refine wpAny_bind (wpAny_standAt (wpAny_bind (aD (turn n s hI) λr s1 h1=>?_)))
 cases r with
 | none=>exact wpAny_pure h1
 | some v =>
  refine wpAny_bind (aD h1 λ_ t1 k1=>wpAny_bind (aD k1 λ_ s2 h2=>wpAny_bind (aD h2 λok s3 h3=>?_)))
  cases ok with
  | false=>exact wpAny_pure ⟨rfl,h3⟩
  | true=>exact wpAny_bind (wpAny_bind (aD h3 λy s4 h4=>wpAny_bind (aD h4 λ_ s5 h5=>wpAny_pure (wpAny_pure ⟨rfl,h5⟩))))
end
section
variable{X:Cx}{elt iter:Expr}{x:Str}{px pos:Pos}{ifs:List Expr}{scope:Scope}{cl:List (Str × Addr)}{aq:List (Str × Nat)}{wi:TI}{tt:TT}{te:TE}
end
end L2
namespace L2
open PySem PySem.Spec PyProof.Rows
section
variable{X:Cx}
theorem TK{bs:List Bool}{us:List Value}(r:Vals (bs.map V.bl) us):bs.length=us.length/\∀(i:Nat) (v:Value),us[i]?=some v->∃b,bs[i]?=some b/\v=.bool b:=by
 have l:=r.length
 rw[bQ]at l
 refine⟨l,λi v e=>?_⟩
 have hi:i<us.length:=(ji.mp e).1
 have hb:i<bs.length:=by omega
 obtain⟨u,e2,q⟩:=r.get (i:=i) (x:=V.bl bs[i]) (by rw[cJ,aR hb];rfl)
 rw[e]at e2
 cases e2
 exact⟨bs[i],aR hb,q⟩
theorem TL{s:Shared}{h':Heap}{o:Obj}(hk:∀b x,b ∉ [s.heap.objs.size]->(s.heap.push o).get? b=some x->h'.get? b=some x)(b:Addr)(x:Obj)(e:s.heap.get? b=some x):h'.get? b=some x :=
 hk b x (λhm=>fv _ (by have:=bK e;rw[jl.mp hm]at this;exact this)) (dQ _ e)
theorem TM(bs:List Bool):((au bs.length).all λi=>(bs[i]?).getD true)=bs.all id:=by
 rw[pB,dj,dj]
 constructor
 ·intro h b hb
  obtain⟨i,hi,rfl⟩:=jm hb
  have:=h i (bP.mpr hi)
  rwa [aR hi]at this
 ·intro h i hi
  have gW:=bP.mp hi
  rw[aR gW]
  exact h _ (eQ gW)
theorem TN(hc:X.calm=true):fE X (.builtin "all") (λxs H Q=>∃(p:Addr) (bs:List Bool),xs=[.ref p]/\bz X.K H p (bs.map V.bl)/\Q (.bl (bs.all id)) H):=by
 intro pins s σ H xs us Q I r h
 obtain⟨p,bs,rfl,hS,q⟩:=h
 obtain⟨u,rfl,ru⟩:=r.one
 cases ru
 obtain⟨its,rv,pl,hz⟩:=I.list hS
 obtain⟨hlen,TQ⟩:=TK rv
 have hl:=pl.isList
 have fh:p<s.heap.objs.size:=by obtain⟨_,e,_⟩:=hl;exact bK e
 refine call_all_walk (wpAny_pyIter_list hl ?_)
 refine⟨s.heap.objs.size,[s.heap.objs.size,p],[s.heap.objs.size],its.toArray.size,_,_,λi=>(bs[i]?).getD true,rfl,Walks.list (A:=X.A.in1) (I.ok.hd hc) _ p (eO fh) its.toArray,
  ⟨⟨_,gi _ rfl,rfl,rfl⟩,hl.push _⟩,λi v s' Q' E' hP hQ=>?_,λh' tk hk=>?_⟩
 ·obtain⟨b,e,rfl⟩:=TQ i v (by simpa using hP)
  simp only[e,pE]at hQ
  exact wpAny_truthy_bool hQ
 ·have e:((au its.toArray.size).all λi=>(bs[i]?).getD true)=bs.all id:=by
   rw[cO,<- hlen];exact TM bs
  rw[e]
  exact⟨.bl _,H,I.kept (h':=h') (t':=tk) (TL hk),rfl,q⟩
end
noncomputable def kL(X:Cx):List (Str × Addr)->Prop
 | []=>True
 | (y,c)::r=>X.env.cells.lookup y=some c/\kL X r
theorem kL.all{X:Cx}:∀{cl:List (Str × Addr)},kL X cl->∀y c,cl.lookup y=some c->X.env.cells.lookup y=some c
 | [],_,y,c,h=>by simp at h
 | (z,d)::r,h,y,c,e=>by
  rw[eD]at e
  cases q:y==z with
  | true =>
   rw[q]at e
   cases e
   rw[eq_of_beq q]
   exact h.1
  | false =>
   rw[q]at e
   exact kL.all h.2 y c e
noncomputable def kM(cl:List (Str × Addr)):List (Str × NameKind)->Prop
 | []=>True
 | (y,k)::r=>(k=.local\/k=.globalImplicit\/∃c,cl.lookup y=some c)/\kM cl r
theorem kM.all{cl:List (Str × Addr)}:∀{ns:List (Str × NameKind)},kM cl ns->∀y,(ns.lookup y=some .cell\/ns.lookup y=some .free)->∃c,cl.lookup y=some c
 | [],_,y,h=>by simp at h
 | (z,k)::r,h,y,e=>by
  rw[eD]at e
  cases q:y==z with
  | true =>
   rw[q]at e
   rw[eq_of_beq q]
   rcases h.1 with g | g | g
   ·rw[g]at e;rcases e with e | e<;>cases e
   ·rw[g]at e;rcases e with e | e<;>cases e
   ·exact g
  | false =>
   rw[q]at e
   exact kM.all h.2 y e
section
variable{X:Cx}{elt iter:Expr}{x:Str}{px pos:Pos}{ifs:List Expr}{scope:Scope}{cl:List (Str × Addr)}{wi:TI}{tt:TT}{te:TE}
end
end L2
namespace L2
open PySem PySem.Spec PyProof.Rows Mf
end L2
namespace L2
end L2
namespace L2
open PySem PySem.Spec PyProof.Rows
noncomputable def fI(aq:List (Str × Nat))(n:Nat)(σ:L2.St):St:=(aq.map λp=>(σ[p.2]?).getD none)++aK n none
noncomputable def JJ(J:It)(aq:List (Str × Nat))(n:Nat)(g:TG)(tt:TT)(te:TE)(σ:L2.St)(H1:Hp)(Q:VK):Prop:=∀D,H1 D=none->∃W:Nat->Nat->List V->Hp->Prop,(∃m,W 0 m [] (upd H1 D (.lst []))) /\
 ∀i m acc H2,W i m acc H2->H2 D=some (.lst acc)/\((J.stop i H2/\Q (.ref D) H2)\/(J.go i H2/\∀x H3,J.iU i H2 x H3->H3 D=some (.lst acc)/\g x (fI aq n σ) H3 λff H4 =>
  (ff.length=(fI aq n σ).length/\∀j,j<aq.length->ff[j]?=(fI aq n σ)[j]?)/\tt ff H4 λb H5=>H5 D=some (.lst acc) /\
  if b=true then te ff H5 λy H6=>H6 D=some (.lst acc)/\acc.length<sizeLine/\∃m',m'<m/\W (i+1) m' (acc++[y]) (upd H6 D (.lst (acc++[y])))else ∃m',m'<m/\W (i+1) m' acc H5))
noncomputable def yj(wi:TI)(aq:List (Str × Nat))(n:Nat)(g:TG)(tt:TT)(te:TE):TE:=λσ H Q=>wi σ H λJ H1=>JJ J aq n g tt te σ H1 Q
section
variable{X:Cx}{elt iter tg:Expr}{pos:Pos}{ifs:List Expr}{scope:Scope}{cl:List (Str × Addr)}{wi:TI}{tt:TT}{te:TE}{g:TG}
end
end L2
namespace L2
open PySem PySem.Spec PyProof.Rows
section
variable{X:Cx}{tg:Expr}
end
end L2
namespace L2
open PySem PySem.Spec PyProof.Rows
noncomputable def Bu(h:Heap)(a T:Addr)(cls fl:Value):Prop :=
 ∃oe vs oT ts,h.get? a=some oe/\oe.cls=cls/\oe.dict=none/\oe.data=.fields vs/\vs[1]?=some (.ref T)/\T≠a/\h.get? T=some oT/\oT.data=.fields ts/\ts[3]?=some fl
noncomputable abbrev nF(h:Heap)(a T:Addr)(cls:Value):Prop:=Bu h a T cls .none
theorem TR(o:Obj)(f:Array Value->Array Value):(o.mapFields f).dict=o.dict:=by
 obtain⟨c,d,dt,sl⟩:=o
 cases dt<;>rfl
section
variable{M:Model}{A:Around}{E:Value->Shared->Prop}{s:Shared}{base:Heap}{env:Env}{outer:List Env}{L a T:Addr}{cls:Value}{oe:Obj}{vs:Array Value}{Q:Unit->Shared->Prop}
structure Ent(fs:List Addr)(h h':Heap)(a T:Addr)(oe:Obj)(L:Addr):Prop where
 new:h.get? T=none
 ne:T≠a
 keep:∀b o,b≠a->b ∉ fs->h.get? b=some o->h'.get? b=some o
 slot:∀b o,b≠a->h.get? b=some o->∃sl,h'.get? b=some { o with slots:=sl }
 exc:h'.get? a=some (oe.mapFields λz=>z.setIfInBounds 1 (.ref T))
 ent:∃oT ts,h'.get? T=some oT/\oT.data=.fields ts/\ts[3]?=some (rawInt L)
theorem JK{head:Value}{TU:Bool}(dz:A.frames=some (env::outer))(hl:s.heap.FunFrames base (env::outer))(hf:env.frame=some L)(he:s.heap.get? a=some oe)(hd:oe.data=.fields vs)(iq:1<vs.size)
  (na:a ∉ (env::outer).filterMap (·.frame)) (k:∀h' T',Ent ((env::outer).filterMap (·.frame)) s.heap h' a T' oe L->Q () { s with heap:=h' }) :
  wpAny M A (do let x<-frameOf env;let pl<-entryPlaceOf L TU;let b<-EntryCells.newEntry head x .none (rawInt L) .none pl;setField (.ref a) 1 b) Q E s:=by
 refine wpAny_bind (wpAny_frameOf_fun dz hl hf λg1 so=>wpAny_bind (wpAny_entryPlaceOf λpl ip=>?_))
 unfold EntryCells.newEntry newFields
 have e1:g1.get? a=some oe:=(so.2.1 a na).trans he
 refine wpAny_bind (wpAny_newObj_type ?_ (ip.sizeOk5 _ _ _ _ _))
 generalize JL:({ cls:=.type "traceback",dict:=none,data:=.fields ([head,dG L,.none,rawInt L,.none]++(if pl.isEmpty then aK 6 mU else pl)).toArray }:Obj)=te
 have e2:(g1.push te).get? a=some oe:=dQ te e1
 have TV:te.data=.fields ([head,dG L,.none,rawInt L,.none]++(if pl.isEmpty then aK 6 mU else pl)).toArray:=by rw[<-JL]
 have nf:te.isFreed=false:=by rw[<-JL];rfl
 refine wpAny_setField e2 hd iq ?_
 have d3:=z7 hd λz=>z.setIfInBounds 1 (dG g1.objs.size)
 have nT:g1.objs.size≠a:=Hs (bK e1)
 refine k _ g1.objs.size ⟨?_,nT,λb o hb hz q=>?_,λb o hb q=>?_,zU _ e2 (HB d3),⟨te,_,?_,TV,?_⟩⟩
 ·cases q:s.heap.get? g1.objs.size with
  | none=>rfl
  | some o=>obtain⟨sl,z⟩:=so.2.2 _ _ q;exact absurd (bK z) (fv _)
 ·rw[mX _ _ (dP hb)]
  exact dQ te ((so.2.1 b hz).trans q)
 ·obtain⟨sl,z⟩:=so.2.2 b o q
  refine⟨sl,?_⟩
  rw[mX _ _ (dP hb)]
  exact dQ te z
 ·rw[mX _ _ (dP nT)]
  exact gi g1 nf
 ·first | (simp;done) | (rcases ip with rfl | ⟨_,_,_,_,_,_,_,rfl⟩<;>simp)
structure JM(fs Z:List Addr)(h h':Heap)(a T:Addr)(cls:Value):Prop where
 new:h.get? T=none
 keep:∀b o,b ∉ Z->b ∉ fs->h.get? b=some o->h'.get? b=some o
 slot:∀b o,b ∉ Z->h.get? b=some o->∃sl,h'.get? b=some { o with slots:=sl }
 uo:nF h' a T cls
theorem JN{fl:Value}(tr:Bu s.heap a T cls fl)(k:∀h',(∀b o,b≠T->s.heap.get? b=some o->h'.get? b=some o)->nF h' a T cls->Q () { s with heap:=h' }):wpAny M A (setFlight (.ref a) none) Q E s:=by
 obtain⟨oe,vs,oT,ts,h1,h2,h3,h4,h5,h6,h7,h8,h9⟩:=tr
 have sz:3<ts.size:=(HC.mp h9).1
 unfold setFlight
 refine wpAny_bind (wpAny_field h1 h4 h5 ?_)
 rw[if_pos (by simp)]
 refine wpAny_setField h7 h8 sz (k _ (λb o hb q=>(mX _ _ (dP hb)).trans q) ?_)
 have d:=z7 h8 λz=>z.setIfInBounds 3 ((none:Option Addr).elim mU λf=>rawInt f)
 exact⟨oe,vs,_,_,(mX _ _ h6).trans h1,h2,h3,h4,h5,h6,zU _ h7 (HB d),d,by simp[sz]⟩
theorem Ent.fin{fs:List Addr}{h h':Heap}{a T L:Addr}{oe:Obj}{vs:Array Value}(e:Ent fs h h' a T oe L)(hd:oe.data=.fields vs)(iq:1<vs.size)(TX:oe.dict=none):Bu h' a T oe.cls (rawInt L):=by
 obtain⟨oT,ts,e1,e2,e3⟩:=e.ent
 exact⟨_,_,oT,ts,e.exc,Obj.cls_mapFields _ _,by rw[TR];exact TX,z7 hd _,by simp[iq],e.ne,e1,e2,e3⟩
theorem TY(dz:A.frames=some (env::outer))(hl:s.heap.FunFrames base (env::outer))(hf:env.frame=some L)(na:a ∉ (env::outer).filterMap (·.frame))(tr:nF s.heap a T cls)
  (k:∀h' T',JM ((env::outer).filterMap (·.frame)) [a,T] s.heap h' a T' cls->Q () { s with heap:=h' }):wpAny M A (noteFrame (.ref a) env) (λ_ jw=>wpAny M A (setFlight (.ref a) none) Q E jw) E s:=by
 obtain⟨oe,vs,oT,ts,h1,h2,h3,h4,h5,h6,h7,h8,h9⟩:=tr
 have s1:1<vs.size:=(HC.mp h5).1
 have s3:3<ts.size:=(HC.mp h9).1
 unfold noteFrame
 simp only[hf]
 refine wpAny_bind (wpAny_field h1 h4 h5 ?_)
 rw[if_pos (by simp)]
 refine wpAny_bind (wpAny_field h7 h8 h9 ?_)
 rw[if_neg (by simp[rawInt])]
 refine wpAny_bind (wpAny_setField h7 h8 s3 ?_)
 generalize hg:s.heap.update T (Obj.mapFields λz=>z.setIfInBounds 3 mU)=g
 have nG:∀b,b≠T->g.get? b=s.heap.get? b:=λb hb=>by rw[<-hg];exact mX _ _ (dP hb)
 have bT:∀b o,s.heap.get? b=some o->(∀ws,o.data≠.fields ws)->b≠T:=λb o q hn z=>by subst z;rw[h7]at q;cases q;exact hn ts h8
 have gT:∃TZ,g.get? T=some TZ:=⟨_,by rw[<-hg];exact zU _ h7 (HB (z7 h8 _))⟩
 refine JK (s:={ s with heap:=g }) dz (hl.of_keeps λb o q hn=>⟨o,(nG b (bT b o q hn)).trans q,rfl⟩) hf ((nG a (dP h6)).trans h1) h4 s1 na λh' T' en=>?_
 have T1:T'≠T:=λz=>by subst z;obtain⟨o,q⟩:=gT;rw[en.new]at q;cases q
 refine JN (s:={ s with heap:=h' }) (h2 ▸ en.fin h4 s1 h3) λBv kp Bw=>?_
 refine k Bv T' ⟨(nG T' T1).symm.trans en.new,λb o hz hb q=>?_,λb o hz q=>?_,Bw⟩
 ·have z1:b≠a:=λz=>hz (by simp[z])
  have z2:b≠T:=λz=>hz (by simp[z])
  have z3:b≠T':=λz=>by have:=en.new;rw[<-z,nG b z2,q]at this;cases this
  exact kp b o z3 (en.keep b o z1 hb ((nG b z2).trans q))
 ·have z1:b≠a:=λz=>hz (by simp[z])
  have z2:b≠T:=λz=>hz (by simp[z])
  have z3:b≠T':=λz=>by have:=en.new;rw[<-z,nG b z2,q]at this;cases this
  obtain⟨sl,r⟩:=en.slot b o z1 ((nG b z2).trans q)
  exact⟨sl,kp b _ z3 r⟩
theorem T2{h1:Heap}{args:List Value}(dz:A.frames=some (env::outer))(hl:s.heap.FunFrames base (env::outer))(hf:env.frame=some L)(hx:HD s.heap h1 a cls args)
  (k:∀h' T',JM ((env::outer).filterMap (·.frame)) [] s.heap h' a T' cls->Q () { s with heap:=h' }):wpAny M A (noteFrame (.ref a) env) (λ_ jw=>wpAny M A (setFlight (.ref a) none) Q E jw) E { s with heap:=h1 }:=by
 obtain⟨t,e1,_,_⟩:=hx.there
 have na:a ∉ (env::outer).filterMap (·.frame):=λhb=>by obtain⟨_,o,ho,_⟩:=hl.mem hb;rw[hx.new]at ho;cases ho
 unfold noteFrame
 simp only[hf]
 refine wpAny_bind (wpAny_field (s:={ s with heap:=h1 }) e1 rfl (x:=.none) (by rfl) ?_)
 rw[if_neg (by decide)]
 refine JK (s:={ s with heap:=h1 }) dz (hl.of_keeps λb o q _=>⟨o,hx.keeps b o q,rfl⟩) hf e1 rfl (by simp) na λh' T' en=>?_
 refine JN (s:={ s with heap:=h' }) (en.fin rfl (by simp) rfl) λBv kp Bw=>?_
 have ba:∀b o,s.heap.get? b=some o->b≠a:=λb o q z=>by rw[z,hx.new]at q;cases q
 have bT:∀b o,s.heap.get? b=some o->b≠T':=λb o q z=>by have:=hx.keeps b o q;rw[z,en.new]at this;cases this
 refine k Bv T' ⟨?_,λb o _ hb q=>kp b o (bT b o q) (en.keep b o (ba b o q) hb (hx.keeps b o q)),λb o _ q=>?_,Bw⟩
 ·cases q:s.heap.get? T' with
  | none=>rfl
  | some o=>exact absurd rfl (bT T' o q)
 ·obtain⟨sl,r⟩:=en.slot b o (ba b o q) (hx.keeps b o q)
  exact⟨sl,kp b _ (bT b o q) r⟩
end
end L2
namespace L2
open PySem PySem.Spec PyProof.Rows
theorem c9.there{P:Program}{w:World}{H:Hp}{h:Heap}{a:Addr}{o:HO}(x:c9 P w H h a o):∃u,h.get? a=some u:=by
 cases o with
 | lst xs=>obtain⟨_,_,_,_,e⟩:=x;exact⟨_,e⟩
 | tup xs=>obtain⟨_,_,_,o,e,_⟩:=x;exact⟨o,e⟩
 | dK cQ=>obtain⟨_,_,_,_,o,_,_,e,_⟩:=x;exact⟨_,e⟩
 | dT cQ=>obtain⟨_,_,_,_,o,_,_,e,_⟩:=x;exact⟨_,e⟩
 | set S n=>obtain⟨o,_,_,_,e,_⟩:=x;exact⟨_,e⟩
 | ins C dx fs=>obtain⟨_,_,_,e,_⟩:=x;exact⟨_,e⟩
 | own y=>exact x
 | xd fs=>obtain⟨_,⟨_,_,_,e,_⟩,_⟩:=x;exact⟨_,e⟩
 | tJ lo hi=>obtain⟨_,_,_,e⟩:=x;exact⟨_,e⟩
 | bc ob u=>obtain⟨e,_⟩:=x;exact⟨_,e⟩
 | cL ps=>exact⟨_,show h.get? a=some _ from x.1⟩
 | met f y=>exact⟨_,show h.get? a=some _ from x⟩
 | ext φ=>obtain⟨_,e,_⟩:=x;exact e
theorem bZ.none{P:Program}{w:World}{H:Hp}{h:Heap}{a:Addr}(x:bZ P w H h)(e:h.get? a=.none):H a=.none:=by
 cases q:H a with
 | none=>rfl
 | some u=>obtain⟨o,z⟩:=(x a u q).there;rw[e]at z;cases z
structure Apart(X:Cx)(pins:List (Addr × Obj))(H:Hp)(b:Addr):Prop where
 old:X.b8.heap.get? b=none
 free:H b=none
 loc:b≠X.env.locals
 cell:∀x c,X.env.cells.lookup x=some c->c≠b
 pin:∀p∈X.pn++pins,p.1≠b
 fr:b ∉ da X.stack
section
variable{X:Cx}{pins:List (Addr × Obj)}{σ:St}{H H':Hp}{s:Shared}{a T b:Addr}{cls:Value}{M:Model}{Q:Unit->Shared->Prop}{E:Value->Shared->Prop}{h':Heap}
theorem Inv.old(I:Inv X pins σ H s)(hex:X.ex=[])(e:s.heap.get? b=none):X.b8.heap.get? b=none:=by
 cases q:X.b8.heap.get? b with
 | none=>rfl
 | some o=>obtain⟨o',z⟩:=I.base.there b o q (by rw[hex];simp);rw[e]at z;cases z
theorem JO(I:Inv X pins σ H s)(cq:X.stack=X.env::X.outer)(hex:X.ex=[])(hf:X.env.frame=some X.env.locals)(Z:List Addr)(hZ:∀b∈Z,X.b8.heap.get? b=none/\H b=none)
  (keep:∀b o,b ∉ Z->b ∉ da X.stack->s.heap.get? b=some o->h'.get? b=some o) (slots:∀b o,b ∉ Z->s.heap.get? b=some o->∃sl,h'.get? b=some { o with slots:=sl }) :
  Un (da X.outer) [] X.iP H X.b8.heap h'/\bZ X.prog X.w H h':=by
 have BA:∀b o,X.b8.heap.get? b=some o->b ∉ Z:=λb o e z=>by rw[(hZ b z).1]at e;cases e
 have sub:∀b,b∈da X.stack->b=X.env.locals\/b∈da X.outer:=λb hb=>by
  rw[cq]at hb
  unfold da at hb
  rw[wZ,hf]at hb
  exact bR.mp hb
 have sup:∀b,b∈da X.outer->b∈da X.stack:=λb hb=>by
  rw[cq]
  unfold da
  rw[wZ,hf]
  exact dJ _ hb
 have xN:∀b o,X.b8.heap.get? b=some o->b≠X.env.locals:=λb o e=>eO (cA (bK e) I.ok.above)
 have nx:∀b:Addr,b ∉ X.ex:=λb=>by rw[hex];simp
 refine⟨⟨λb o e n hb _=>?_,λb o e n hb _=>?_,λb o e n _=>I.base.free b o e n (nx b),λb o e _=>?_,I.base.iO,I.base.ig,I.base.gq⟩,λb ob e=>?_⟩
 ·exact keep b o (BA b o e) (λz=>(sub b z).elim (xN b o e) hb) (I.base.keep b o e n hb (nx b))
 ·obtain⟨sl,e1⟩:=I.base.slot b o e n hb (nx b)
  exact(slots b _ (BA b o e) e1).imp λsl h=>h
 ·obtain⟨o',e1⟩:=I.base.there b o e (nx b)
  exact(slots b o' (BA b o e) e1).elim λsl q=>⟨_,q⟩
 ·refine(I.az b ob e).jt (λc u hc q=>keep c u (λz=>?_) (λz=>?_) q) (λ_ q=>q) (λ_ _ q=>q) λ_ _ q=>q
  ·have n:=(hZ c z).2
   rcases hc with rfl | hc
   ·rw[n]at e;cases e
   ·rw[n]at hc;cases hc
  ·have n:=I.AD c z
   rcases hc with rfl | hc
   ·rw[n]at e;cases e
   ·rw[n]at hc;cases hc
structure JP(X:Cx)(H:Hp)(h':Heap)(a T:Addr)(cls:Value):Prop where
 un:Un (da X.outer) [] X.iP H X.b8.heap h'
 az:bZ X.prog X.w H h'
 uo:nF h' a T cls
 a0:X.b8.heap.get? a=none
 a1:H a=none
 t0:X.b8.heap.get? T=none
 t1:H T=none
theorem T3(I:Inv X pins σ H s)(cq:X.stack=X.env::X.outer)(hex:X.ex=[])(hf:X.env.frame=some X.env.locals)(tr:nF s.heap a T cls)(pa:Apart X pins H a)(pT:Apart X pins H T)
  (hQ:∀h' T',JP X H h' a T' cls->Q () { s with heap:=h' }):wpAny M X.A (leaving X.env (.ref a)) Q E s:=by
 have hZ:∀b∈[a,T],X.b8.heap.get? b=none/\H b=none:=λb hb=>by
  rcases bR.mp hb with rfl | hb
  ·exact⟨pa.old,pa.free⟩
  ·rw[jl.mp hb];exact⟨pT.old,pT.free⟩
 have na:a ∉ (X.env::X.outer).filterMap (·.frame):=by have:=pa.fr;rw[cq]at this;exact this
 refine wpAny_bind (TY (base:=X.base) (by rw[I.ok.frames,cq]) (cq ▸ I.stack) hf na tr λh' T' st=>?_)
 have kp:∀b o,b ∉ [a,T]->b ∉ da X.stack->s.heap.get? b=some o->h'.get? b=some o:=λb o hz hb q=>st.keep b o hz (by rw[cq]at hb;exact hb) q
 obtain⟨un,az⟩:=JO (h':=h') I cq hex hf [a,T] hZ kp st.slot
 exact hQ h' T' ⟨un,az,st.uo,pa.old,pa.free,I.old hex st.new,I.az.none st.new⟩
theorem T4{h1:Heap}{args:List Value}(I:Inv X pins σ H s)(cq:X.stack=X.env::X.outer)(hex:X.ex=[])(hf:X.env.frame=some X.env.locals)(hx:HD s.heap h1 a cls args)
  (hQ:∀h' T',JP X H h' a T' cls->Q () { s with heap:=h' }):wpAny M X.A (leaving X.env (.ref a)) Q E { s with heap:=h1 }:=by
 refine wpAny_bind (T2 (base:=X.base) (by rw[I.ok.frames,cq]) (cq ▸ I.stack) hf hx λh' T' st=>?_)
 have kp:∀b o,b ∉ ([]:List Addr)->b ∉ da X.stack->s.heap.get? b=some o->h'.get? b=some o:=λb o hz hb q=>st.keep b o hz (by rw[cq]at hb;exact hb) q
 obtain⟨un,az⟩:=JO (h':=h') I cq hex hf [] (λb hb=>absurd hb (by simp)) kp st.slot
 exact hQ h' T' ⟨un,az,st.uo,I.old hex hx.new,I.az.none hx.new,I.old hex st.new,I.az.none st.new⟩
end
noncomputable def kN(P:Program)(w:World):dm:=λouter H s E e s'=>∃a T cls H',e=.ref a/\s'.os=s.os/\AllBare s'.gens/\Un (da outer) [] H H' s.heap s'.heap/\bZ P w H' s'.heap/\nF s'.heap a T cls /\
 s.heap.get? a=none/\H' a=none/\s.heap.get? T=none/\H' T=none/\E cls none H'
section
variable{X:Cx}{pins:List (Addr × Obj)}{σ:St}{H H':Hp}{s:Shared}{a T b:Addr}{cls:Value}{M:Model}{Q:Unit->Shared->Prop}{E:Value->Shared->Prop}{h':Heap}
end
end L2
namespace L2
open PySem PySem.W PySem.Spec PySem.Calls PyProof.Rows
section
variable{prog:Program}{w:World}{A:Around}{E:Value->Shared->Prop}{s:Shared}{K:Frag}{x D:Addr}{ox:Obj}{T5:Option Obj}
end
end L2
namespace L2
open PySem PySem.W PySem.Spec PySem.Calls PyProof.Rows
section
variable{prog:Program}{w:World}{A:Around}{E:Value->Shared->Prop}{s:Shared}{K:Frag}{x D:Addr}{ox:Obj}{T5:Option Obj}
structure T6(K:Frag)(C:Addr):Prop where
 cls:(clsIn K C).isSome=true
 ga:findIn K (.ref C) "__getattribute__"=some (some (.builtin "BaseException.__getattribute__"))
 gt:findIn K (.ref C) "__getattr__"=some none
 ca:findIn K (.ref C) "__class__"=some (some (.builtin "object.__class__"))
 hn:specialIn K (.builtin "object.__class__") "__get__"=some (some (.builtin "getset_descriptor.__get__"))
 tk:takesIn K (.builtin "object.__class__")=some true
 mo:mroIn K C (.type "object")=some true
 mb:mroIn K C (.type "BaseException")=some true
end
end L2
namespace L2
open PySem PySem.Spec PyProof.Rows
section
variable{X:Cx}{pins:List (Addr × Obj)}{σ:St}{H:Hp}{s:Shared}{h':Heap}{its:List Addr}{T:Addr}{o:HO}{t':Nat}
theorem Inv.yk(I:Inv X pins σ H s)(k:∀b o,b ∉ its->s.heap.get? b=some o->h'.get? b=some o)(hf:∀b∈its,gM X pins H b):Inv X pins σ H { s with heap:=h',toks:=t' }:=by
 have mf:∀b u,H b=some u->b ∉ its:=λb u e z=>by have:=(hf b z).1;rw[this]at e;cases e
 refine I.step (g':=s.gens) (d':=s.drawn) (ch:=its) (λb hb=>?_) (λb o _ _ hc e _=>k b o hc e) (λb o _ _ hc e _=>⟨o.slots,k b o hc e⟩) (λ_ _ _ _ n=>n)
  (λb o hc e=>⟨o,k b o hc e⟩) (λ_ _ e=>e) (λ_ _ _ e=>e) (λb ps e=>⟨#[],by rw[e];simp⟩) (λm hm=>?_) (λb u e=>?_) I.bare
 ·obtain⟨_,h1,_,h2,h3,h4⟩:=hf b hb
  exact⟨h2,h1,h3,h4⟩
 ·obtain⟨o,es,ep,ho,r⟩:=hm
  exact⟨o,es,ep,k _ o (λz=>(hf _ z).2.1 rfl) ho,r⟩
 ·refine(I.az b u e).jt (λc v hc q=>k c v ?_ q) (λ_ q=>q) (λ_ _ q=>q) λ_ _ q=>q
  rcases hc with z | z
  ·rw[z];exact mf b u e
  ·exact mf c _ z
theorem Inv.JQ(I:Inv X pins σ H s)(k:∀b o,b ∉ its->s.heap.get? b=some o->h'.get? b=some o)(hf:∀b∈its,gM X pins H b)(hT:s.heap.objs.size<=T)(new:c9 X.prog X.w (upd H T o) h' T o) :
  Inv X pins σ (upd H T o) { s with heap:=h',toks:=t' }:=by
 have mf:∀b u,H b=some u->b ∉ its:=λb u e z=>by have:=(hf b z).1;rw[this]at e;cases e
 have fT:H T=none:=I.az.fresh hT
 have neT:∀b u,H b=some u->b≠T:=λb u e z=>by rw[z,fT]at e;cases e
 have T7:∀b u,s.heap.get? b=some u->b≠T:=λb u e z=>absurd (cA (bK e) hT) (by rw[z];exact fv _)
 refine I.step (g':=s.gens) (d':=s.drawn) (ch:=its) (λb hb=>?_) (λb o _ _ hc e _=>k b o hc e) (λb o _ _ hc e _=>⟨o.slots,k b o hc e⟩) (λb u _ e n=>by rw[aS (T7 b u e)];exact n)
  (λb o hc e=>⟨o,k b o hc e⟩) (λb _ e=>by rw[aS (neT b _ e)];exact e) (λb _ _ e=>by rw[aS (neT b _ e)];exact e) (λb ps e=>⟨#[],by rw[aS (neT b _ e),e];simp⟩) (λm hm=>?_) (λb u e=>?_) I.bare
 ·obtain⟨_,h1,_,h2,h3,h4⟩:=hf b hb
  exact⟨h2,h1,h3,h4⟩
 ·obtain⟨o,es,ep,ho,r⟩:=hm
  exact⟨o,es,ep,k _ o (λz=>(hf _ z).2.1 rfl) ho,r⟩
 ·by_cases hb:b=T
  ·subst hb;rw[bC]at e;cases e;exact new
  ·rw[aS hb]at e
   refine(I.az b u e).jt (λc v hc q=>k c v ?_ q) (λc q=>by rw[aS (neT c _ q)];exact q) (λc _ q=>by rw[aS (neT c _ q)];exact q) λc _ q=>by rw[aS (neT c _ q)];exact q
   rcases hc with z | z
   ·rw[z];exact mf b u e
   ·exact mf c _ z
noncomputable def BB(K:PySem.W.Frag)(a b:Addr):It :=
 ⟨λi H=>∃xs ys x y,bz K H a xs/\bz K H b ys/\xs[i]?=some x/\ys[i]?=some y,
  λi H v H'=>∃T x y,v=.ref T/\H T=none/\H'=upd H T (.tup [x,y])/\(∀xs,bz K H a xs->xs[i]?=some x)/\∀ys,bz K H b ys->ys[i]?=some y,
  λi H=>∃xs ys,bz K H a xs/\bz K H b ys/\(xs.length<=i\/ys.length<=i)⟩
theorem mr{K:PySem.W.Frag}{a c:Addr}{xs:List V}(hk:X.K=K)(I:Inv X pins σ H s)(h:bz K H a xs)(hf:gM X pins H c)(ho:∃o,s.heap.get? c=some o/\o.cls≠.type "list"):a≠c:=by
 subst hk
 obtain⟨its,rv,p,hz⟩:=I.list h
 obtain⟨o,e,d⟩:=ho
 obtain⟨o',e',c',_⟩:=p.isList
 intro z
 subst z
 rw[e]at e';cases e'
 exact d c'
theorem T8{P:Program}{w:World}{K:PySem.W.Frag}{elts:List Expr}{k:Nat}{pos:Pos}(a b z TI TO i1 i2:Addr)(D5:[z,TI,TO,i1,i2].Nodup) :
  Turn P w K (.Tuple elts k pos) (BB K a b) [z,TI,TO,i1,i2] z (λi h=>IsZip h z TI TO .none/\IsPair h TI (.ref i1) (.ref i2)/\(∃u v,IsPair h TO u v)/\h.IsListIter i1 a i/\h.IsListIter i2 b i):=by
 have ap:∀(X:Cx) (pins:List (Addr × Obj)) (s:Shared) (σ:St) (H:Hp) (i:Nat) (xs ys:List V),X.K=K->Inv X pins σ H s->(∀b∈[z,TI,TO,i1,i2],gM X pins H b)->IsZip s.heap z TI TO .none->(∃u v,IsPair s.heap TO u v)->s.heap.IsListIter i1 a i->s.heap.IsListIter i2 b i ->
   bz K H a xs->bz K H b ys->ZipApart z TI TO i1 i2 a b:=by
  intro X pins s σ H i xs ys hK I hf hz gX h1 h2 hx hy
  simp only[iK,bR,not_or,gj,not_false_eq_true,and_true]at D5
  obtain⟨⟨d1,d2,d3,d4⟩,⟨d5,d6,d7⟩,⟨d8,d9⟩,T9,_⟩:=D5
  have oz:∃o,s.heap.get? z=some o/\o.cls≠.type "list":=⟨_,hz,by intro q;exact absurd (z9 q) (by decide)⟩
  have JR:∃o,s.heap.get? TO=some o/\o.cls≠.type "list":=by obtain⟨u,v,e⟩:=gX;exact⟨_,e,by intro q;exact absurd (z9 q) (by decide)⟩
  have o1:∃o,s.heap.get? i1=some o/\o.cls≠.type "list":=by obtain⟨o,e,c,d⟩:=h1;exact⟨_,e,by rw[c];intro q;exact absurd (z9 q) (by decide)⟩
  have o2:∃o,s.heap.get? i2=some o/\o.cls≠.type "list":=by obtain⟨o,e,c,d⟩:=h2;exact⟨_,e,by rw[c];intro q;exact absurd (z9 q) (by decide)⟩
  exact⟨dP d1,dP d2,dP d3,dP d4,d5,d6,d7,d8,d9,T9,
   mr hK I hx (hf z (by simp)) oz,mr hK I hx (hf TO (by simp)) JR,mr hK I hx (hf i1 (by simp)) o1,mr hK I hx (hf i2 (by simp)) o2,
   mr hK I hy (hf z (by simp)) oz,mr hK I hy (hf TO (by simp)) JR,mr hK I hy (hf i1 (by simp)) o1,mr hK I hy (hf i2 (by simp)) o2⟩
 refine⟨by simp,λi h st c hc=>?_,λi h h' st kk=>?_,?_,?_,λ_ _ _ _ _ st h=>wpAny_pyIter_zip st.1 h⟩
 ·obtain⟨hz,jC,⟨u,v,gX⟩,⟨o1,e1,c1,d1⟩,⟨o2,e2,c2,d2⟩⟩:=st
  simp only[bR,gj,or_false]at hc
  rcases hc with rfl | rfl | rfl | rfl | rfl
  ·exact⟨_,hz,λv q=>by cases q⟩
  ·exact⟨_,jC,λv q=>by cases q⟩
  ·exact⟨_,gX,λv q=>by cases q⟩
  ·exact⟨_,e1,λv q=>by rw[d1]at q;cases q⟩
  ·exact⟨_,e2,λv q=>by rw[d2]at q;cases q⟩
 ·obtain⟨hz,jC,⟨u,v,gX⟩,h1,h2⟩:=st
  exact⟨kk _ (by simp) _ hz,kk _ (by simp) _ jC,⟨u,v,kk _ (by simp) _ gX⟩,h1.at λo e=>kk _ (by simp) o e,h2.at λo e=>kk _ (by simp) o e⟩
 ·intro X hP hw hK hc i pins s σ H E I hf st hg
  obtain⟨xs,ys,x,y,hx,hy,ex,ey⟩:=hg
  obtain⟨hz,jC,⟨u,v,gX⟩,h1,h2⟩:=st
  have D:=ap X pins s σ H i xs ys hK I hf hz ⟨u,v,gX⟩ h1 h2 hx hy
  subst hP hw hK
  obtain⟨as,ra,pa,_⟩:=I.list hx
  obtain⟨bs,rb,pb,_⟩:=I.list hy
  obtain⟨ux,BC,rx⟩:=ra.get ex
  obtain⟨uy,Ua,ry⟩:=rb.get ey
  refine wpAny_pyNext_zip_item D hz jC gX h1 h2 pa.isList pb.isList (x:=ux) (y:=uy) (by simpa using BC) (by simpa using Ua) λh' z' Ub iX ix T' sz kk=>?_
  have fT:H s.heap.objs.size=none:=I.az.fresh (bI _)
  have I1:Inv X pins σ (upd H s.heap.objs.size (.tup [x,y])) { s with heap:=h',toks:=s.toks }:=I.JQ (its:=[z,TO,i1,i2]) (λc o hc e=>kk c o (λq=>hc (by simp[q])) (λq=>hc (by simp[q])) (λq=>hc (by simp[q])) (λq=>hc (by simp[q])) e)
   (λc hc=>hf c (by simp only[bR,gj,or_false]at hc ⊢;rcases hc with rfl | rfl | rfl | rfl<;>simp)) (bI _) ⟨by show 2<=sizeLine;decide,[ux,uy],.cons rx (.cons ry .nil),⟨_,T',rfl,_,rfl⟩⟩
  have nT:∀c∈[z,TI,TO,i1,i2],c≠s.heap.objs.size:=λc hc q=>by
   have:∃o,s.heap.get? c=some o:=by
    simp only[bR,gj,or_false]at hc
    rcases hc with rfl | rfl | rfl | rfl | rfl
    ·exact⟨_,hz⟩
    ·exact⟨_,jC⟩
    ·exact⟨_,gX⟩
    ·obtain⟨o,e,_⟩:=h1;exact⟨o,e⟩
    ·obtain⟨o,e,_⟩:=h2;exact⟨o,e⟩
   obtain⟨o,e⟩:=this
   exact absurd (bK e) (by rw[q];exact fv _)
  refine⟨_,rfl,wpAny_letOwnedTupleGo_zip z' λBD BE sb=>?_⟩
  have BF:∀c∈[z],gM X pins (upd H s.heap.objs.size (.tup [x,y])) c:=λc hc=>by
   have e:c=z:=by simpa using hc
   subst e
   obtain⟨f0,fr⟩:=hf c (by simp)
   exact⟨by rw[aS (nT c (by simp))];exact f0,fr⟩
  have I2:=Inv.yk (h':=BD) (its:=[z]) (t':=s.toks) I1 (λc o hc e=>sb.extBut _ _ (λq=>hc (by simp[q])) e) BF
  refine⟨.ref s.heap.objs.size,_,I2,rfl,⟨_,x,y,rfl,fT,rfl,λUc de=>by rw[I.xR de hx];exact ex,λJS Ud=>by rw[I.xR Ud hy];exact ey⟩,⟨BE,sb.extBut _ _ D.TIz (kk _ _ D.TIz D.TITO D.TIi1 D.TIi2 jC),⟨ux,uy,sb.extBut _ _ D.TOz Ub⟩,iX.extBut sb.extBut D.i1z,ix.extBut sb.extBut D.i2z⟩,λc hc=>?_⟩
  rw[aS (nT c hc)]
  exact(hf c hc).1
 ·intro X hP hw hK hc i pins s σ H E I hf st hg
  obtain⟨xs,ys,hx,hy,hl⟩:=hg
  obtain⟨hz,jC,⟨u,v,gX⟩,h1,h2⟩:=st
  have D:=ap X pins s σ H i xs ys hK I hf hz ⟨u,v,gX⟩ h1 h2 hx hy
  subst hP hw hK
  obtain⟨as,ra,pa,_⟩:=I.list hx
  obtain⟨bs,rb,pb,_⟩:=I.list hy
  have la:=ra.length
  have lb:=rb.length
  refine wpAny_pyNext_zip_end (I.ok.hd hc) D hz jC gX h1 h2 pa.isList pb.isList (hl.imp (λq=>by simp;omega) λq=>by simp;omega) λh' kk=>⟨rfl,?_⟩
  exact I.yk (its:=[z,TO,i1,i2]) (t':=s.toks) (λc o hc e=>kk c o (λq=>hc (by simp[q])) (λq=>hc (by simp[q])) (λq=>hc (by simp[q])) (λq=>hc (by simp[q])) e)
   (λc hc=>hf c (by simp only[bR,gj,or_false]at hc ⊢;rcases hc with rfl | rfl | rfl | rfl<;>simp))
noncomputable def BG(K:PySem.W.Frag)(a:Addr):It :=
 ⟨λi H=>∃xs x,bz K H a xs/\xs[i]?=some x,
  λi H v H'=>∃T x,v=.ref T/\H T=none/\H'=upd H T (.tup [.int i,x])/\∀xs,bz K H a xs->xs[i]?=some x,
  λi H=>∃xs,bz K H a xs/\xs.length<=i⟩
theorem Ue{P:Program}{w:World}{K:PySem.W.Frag}{elts:List Expr}{k:Nat}{pos:Pos}(a z it:Addr)(jY:z≠it) :
  Turn P w K (.Tuple elts k pos) (BG K a) [z,it] z (λi h=>(∃old,IsEnum h z it i old)/\h.IsListIter it a i):=by
 refine⟨by simp,λi h st c hc=>?_,λi h h' st kk=>?_,?_,?_,λ_ _ _ _ _ st h=>by obtain⟨⟨old,e⟩,_⟩:=st;exact wpAny_pyIter_enum e h⟩
 ·obtain⟨⟨old,hz⟩,⟨o1,e1,c1,d1⟩⟩:=st
  simp only[bR,gj,or_false]at hc
  rcases hc with rfl | rfl
  ·exact⟨_,hz,λv q=>by cases q⟩
  ·exact⟨_,e1,λv q=>by rw[d1]at q;cases q⟩
 ·obtain⟨⟨old,hz⟩,h1⟩:=st
  exact⟨⟨old,kk _ (by simp) _ hz⟩,h1.at λo e=>kk _ (by simp) o e⟩
 ·intro X hP hw hK hc i pins s σ H E I hf st hg
  subst hP hw hK
  obtain⟨xs,x,hx,ex⟩:=hg
  obtain⟨⟨old,hz⟩,h1⟩:=st
  obtain⟨as,ra,pa,_⟩:=I.list hx
  obtain⟨ux,BC,rx⟩:=ra.get ex
  refine wpAny_pyNext_enum_item hz h1 pa.isList (x:=ux) (by simpa using BC) jY λh' z' iX T' sz kk=>?_
  have fT:H s.heap.objs.size=none:=I.az.fresh (bI _)
  have I1:Inv X pins σ (upd H s.heap.objs.size (.tup [.int i,x])) { s with heap:=h',toks:=s.toks+1 }:=I.JQ (its:=[z,it]) (λc o hc e=>kk c o (λq=>hc (by simp[q])) (λq=>hc (by simp[q])) e)
   (λc hc=>hf c hc) (bI _) ⟨by show 2<=sizeLine;decide,[.int i s.toks,ux],.cons ⟨_,rfl⟩ (.cons rx .nil),⟨_,T',rfl,_,rfl⟩⟩
  have nT:∀c∈[z,it],c≠s.heap.objs.size:=λc hc q=>by
   have:∃o,s.heap.get? c=some o:=by
    simp only[bR,gj,or_false]at hc
    rcases hc with rfl | rfl
    ·exact⟨_,hz⟩
    ·obtain⟨o,e,_⟩:=h1;exact⟨o,e⟩
   obtain⟨o,e⟩:=this
   exact absurd (bK e) (by rw[q];exact fv _)
  refine⟨_,rfl,wpAny_letOwnedTupleGo_enum z' λBD BE sb=>?_⟩
  have BF:∀c∈[z],gM X pins (upd H s.heap.objs.size (.tup [.int i,x])) c:=λc hc=>by
   have e:c=z:=by simpa using hc
   subst e
   obtain⟨f0,fr⟩:=hf c (by simp)
   exact⟨by rw[aS (nT c (by simp))];exact f0,fr⟩
  have I2:=Inv.yk (h':=BD) (its:=[z]) (t':=s.toks+1) I1 (λc o hc e=>sb.extBut _ _ (λq=>hc (by simp[q])) e) BF
  refine⟨.ref s.heap.objs.size,_,I2,rfl,⟨_,x,rfl,fT,rfl,λUc de=>by rw[I.xR de hx];exact ex⟩,⟨⟨ux,by simpa using BE⟩,iX.extBut sb.extBut (dP jY)⟩,λc hc=>?_⟩
  rw[aS (nT c hc)]
  exact(hf c hc).1
 ·intro X hP hw hK hc i pins s σ H E I hf st hg
  subst hP hw hK
  obtain⟨xs,hx,hl⟩:=hg
  obtain⟨⟨old,hz⟩,h1⟩:=st
  obtain⟨as,ra,pa,_⟩:=I.list hx
  have la:=ra.length
  refine wpAny_pyNext_enum_end (I.ok.hd hc) hz h1 pa.isList (by simp;omega) λh' kk=>⟨rfl,?_⟩
  exact I.yk (its:=[it]) (t':=s.toks) (λc o hc e=>kk c o (λq=>hc (by simp[q])) e) (λc hc=>hf c (by simp at hc ⊢;simp[hc]))
end
section
variable{X:Cx}{a b:Expr}{ta:TA}{p pos jx:Pos}{elts:List Expr}{x1:Nat}
noncomputable def Ug(K:PySem.W.Frag)(ta:TA):TI:=λσ H R=>ta σ H λvs H1=>∃a b,vs=[.ref a,.ref b]/\(∃xs,bz K H1 a xs)/\(∃ys,bz K H1 b ys)/\R (BB K a b) H1
theorem Uh:bootBuiltins "zip"=some (.type "zip"):=by decide +kernel
theorem Ui(hg:Gl X "zip")(hm:X.mg "zip"=none)(ha:PA X [a,b] ta)(hs:starEach [a,b] X.env=[(false,eval a X.env),(false,eval b X.env)]:=by rfl)(fC:starEach [b] X.env=[(false,eval b X.env)]:=by rfl) :
  PI X (.Tuple elts x1 jx) (.Call (.Name "zip" p) [a,b] [] pos) (Ug X.K ta):=by
 intro pins s σ H R I h
 refine Call_ (nj I hg hm Uh (w5 (aD (ha pos pins s σ H _ I h) λus s1 zq=>?_) (by rw[hs,fC]) (by rw[fC];rfl)))
 obtain⟨vs,H1,I1,r1,q1⟩:=zq
 obtain⟨a,b,e,⟨xs,hx⟩,⟨ys,hy⟩,q⟩:=q1
 subst e
 cases r1 with
 | cons r rr =>
  cases rr with
  | cons r2 rr =>
   cases rr
   cases r
   cases r2
   obtain⟨as,ra,pa,_⟩:=I1.list hx
   obtain⟨bs,rb,pb,_⟩:=I1.list hy
   refine call_zip_2 pa.isList pb.isList λh' hz jC gX h1 h2 sz kk=>wpAny_pyIter_zip hz ?_
   refine⟨_,[s1.heap.objs.size+4,s1.heap.objs.size+2,s1.heap.objs.size+3,s1.heap.objs.size,s1.heap.objs.size+1],_,_,H1,rfl,I1.kept (t':=s1.toks) kk,T8 a b _ _ _ _ _ (by simp),⟨hz,jC,⟨_,_,gX⟩,h1,h2⟩,λc hc=>?_,q⟩
   have hle:s1.heap.objs.size<=c:=by
    simp only[bR,gj,or_false]at hc
    rcases hc with rfl | rfl | rfl | rfl | rfl<;>omega
   exact I1.x8 hle (I1.az.fresh hle)
noncomputable def Uj(K:PySem.W.Frag)(ta:TA):TI:=λσ H R=>ta σ H λvs H1=>∃a,vs=[.ref a]/\(∃xs,bz K H1 a xs)/\R (BG K a) H1
theorem Uk:bootBuiltins "enumerate"=some (.type "enumerate"):=by decide +kernel
theorem Ul(hg:Gl X "enumerate")(hm:X.mg "enumerate"=none)(ha:PA X [a] ta)(hs:starEach [a] X.env=[(false,eval a X.env)]:=by rfl) :
  PI X (.Tuple elts x1 jx) (.Call (.Name "enumerate" p) [a] [] pos) (Uj X.K ta):=by
 intro pins s σ H R I h
 refine Call_ (nj I hg hm Uk (w5 (aD (ha pos pins s σ H _ I h) λus s1 zq=>?_) hs rfl))
 obtain⟨vs,H1,I1,r1,q1⟩:=zq
 obtain⟨a,e,⟨xs,hx⟩,q⟩:=q1
 subst e
 cases r1 with
 | cons r rr =>
  cases rr
  cases r
  obtain⟨as,ra,pa,_⟩:=I1.list hx
  refine call_enumerate_list pa.isList λh' hz h1 sz kk=>wpAny_pyIter_enum hz ?_
  refine⟨_,[s1.heap.objs.size+1,s1.heap.objs.size],_,_,H1,rfl,I1.kept (t':=s1.toks) kk,Ue a (s1.heap.objs.size+1) s1.heap.objs.size (Nat.succ_ne_self _),⟨⟨_,hz⟩,h1⟩,λc hc=>?_,q⟩
  have hle:s1.heap.objs.size<=c:=by
   simp only[bR,gj,or_false]at hc
   rcases hc with rfl | rfl<;>omega
  exact I1.x8 hle (I1.az.fresh hle)
end
end L2
namespace L2
open PySem PySem.Spec PyProof.Rows PySem.W PySem.Calls
section
variable{X:Cx}
noncomputable def p7{α:Type}(xs:List α)(lo hi:Option Int):List α:=(xs.drop (HT.cu xs.length 0 lo)).take (HT.cu xs.length xs.length hi-HT.cu xs.length 0 lo)
theorem Um(x:Str)(lo hi:Option Int):Txt.slice x lo hi=⟨(p7 x.cps.toList lo hi).toArray⟩:=by
 have hx:x.length=x.cps.size:=rfl
 have e:(Aa lo hi 1 x.length).filterMap (x.cps[·]?)=p7 x.cps.toList lo hi:=by
  obtain⟨h1,h2,h3⟩:=Bb lo hi x.length
  have e0:Aa lo hi 1 x.length=sliceRange (sliceBounds lo hi none x.length).1 (sliceBounds lo hi none x.length).2.1 1:=by
   cases lo<;>cases hi<;>rfl
  rw[e0,h1,h2]
  simp only[sliceRange_one,pick_run]
  unfold p7
  rw[hx,sT]
 unfold Txt.slice
 split
 ·rename_i h
  have hl:(Aa lo hi 1 x.length).length=x.length:=by
   rw[di]at h;exact eq_of_beq h.2
  have hs:(p7 x.cps.toList lo hi)=x.cps.toList:=by
   have e2:HT.cu x.cps.toList.length x.cps.toList.length hi-HT.cu x.cps.toList.length 0 lo=x.length:=by
    obtain⟨h1,h2,h3⟩:=Bb lo hi x.length
    have e0:Aa lo hi 1 x.length=sliceRange (sliceBounds lo hi none x.length).1 (sliceBounds lo hi none x.length).2.1 1:=by
     cases lo<;>cases hi<;>rfl
    rw[e0,h1,h2]at hl
    simp only[sliceRange_one,bQ,cK]at hl
    rw[sT,<- hx]
    omega
   unfold p7
   have le:HT.cu x.cps.toList.length x.cps.toList.length hi<=x.cps.toList.length:=by
    cases hi with
    | none=>simp[HT.cu]
    | some i=>simp only[HT.cu];split<;>omega
   have Uo:HT.cu x.cps.toList.length 0 lo<=x.cps.toList.length:=by
    cases lo with
    | none=>simp[HT.cu]
    | some i=>simp only[HT.cu];split<;>omega
   rw[sT,<- hx]at e2 le Uo ⊢
   have z:HT.cu x.length 0 lo=0:=by omega
   have z2:HT.cu x.length x.length hi=x.length:=by omega
   rw[z,z2,List.drop_zero,Nat.sub_zero,hx,<- sT,Ab]
  rw[hs]
 ·rw[e]
theorem Up:nz X (λx lo hi H Q=>∃z,x=.str z/\z.length<=sizeLine/\Q (.str ⟨(p7 z.cps.toList lo hi).toArray⟩) H):=by
 intro pins s σ H x v vl vu lo hi sl Q I rx hs pl pu h
 obtain⟨z,rfl,hz,q⟩:=h
 obtain⟨t,rfl⟩:=rx
 refine⟨"str",_,F.slot_str_getitem.lookup,typeIs_str _ _ _,?_⟩
 have fin:∀(l u:Option (Int × Tok)),l.map (·.1)=lo->u.map (·.1)=hi->partValue l=vl->partValue u=vu->wpAny (model X.prog X.w) X.A (getItem (.str z t) (.ref sl)) (EP X pins σ Q) X.xe s:=by
  intro l u h1 h2 h3 h4
  obtain⟨o,e1,e2,e3⟩:=hs
  refine wpAny_getItem_str_slice (l:=l) (u:=u) (st:=none) ⟨o,e1,e2,by rw[e3,h3,h4];rfl⟩ rfl ?_
  have e:Txt.slice z lo hi=(if(((none:Option (Int × Tok)).map (·.1)).getD 1==1&&(slicePicked z l u none).length==z.length)=true then z else⟨((slicePicked z l u none).filterMap (z.cps[·]?)).toArray⟩):=by
   unfold Txt.slice slicePicked;rw[h1,h2];rfl
  refine post_val_or_str ⟨?_,λt' k=>?_⟩
  ·rw[<-e];exact dH (Txt.slice_le z _ _) hz
  ·rw[<-e,Um];exact⟨.str _,H,I.tok _,⟨_,rfl⟩,q⟩
 cases pl with
 | none =>
  cases pu with
  | none=>exact fin none none rfl rfl rfl rfl
  | int j tj=>exact fin none (some (j,tj)) rfl rfl rfl rfl
 | int i ti =>
  cases pu with
  | none=>exact fin (some (i,ti)) none rfl rfl rfl rfl
  | int j tj=>exact fin (some (i,ti)) (some (j,tj)) rfl rfl rfl rfl
end
end L2
namespace L3
open PySem L2
noncomputable def gY:HO->Bool
 | .cL _=>false
 | _=>true
structure ae(H H':Hp):Prop where
 get:∀b o,H b=some o->(h:gY o=true:=by rfl)->H' b=some o
 tb:∀b ps,H b=some (.cL ps)->∃more,H' b=some (.cL (ps++more))
noncomputable instance {H H':Hp}:CoeFun (ae H H') λ_=>∀b o,H b=some o->(h:gY o=true:=by rfl)->H' b=some o:=⟨λs=>@ae.get _ _ s⟩
theorem BH{o:HO}(h:gY o=false):∃ps,o=.cL ps:=by
 cases o with
 | cL ps=>exact⟨ps,rfl⟩
 | _=>cases h
theorem ae.of{H H':Hp}(h:∀b o,H b=some o->H' b=some o):ae H H':=⟨λb o e _=>h b o e,λb ps e=>⟨#[],by rw[h b _ e];simp⟩⟩
theorem ae.refl(H:Hp):ae H H:=.of λ_ _ h=>h
theorem ae.trans{H H1 H2:Hp}(a:ae H H1)(b:ae H1 H2):ae H H2 :=
 ⟨λc o h n=>b.get c o (a.get c o h n) n,λc ps h=>by
  obtain⟨m1,e1⟩:=a.tb c ps h
  obtain⟨m2,e2⟩:=b.tb c _ e1
  exact⟨m1++m2,by rw[e2,o6]⟩⟩
theorem ae.any{H H':Hp}(e:ae H H'){l:Addr}{o:HO}(h:H l=some o):∃o',H' l=some o':=by
 cases n:gY o with
 | true=>exact⟨o,e.get l o h n⟩
 | false =>
  obtain⟨ps,rfl⟩:=BH n
  obtain⟨m,q⟩:=e.tb l ps h
  exact⟨_,q⟩
theorem ae.free{H H':Hp}(e:ae H H'){l:Addr}(h:H' l=Option.none):H l=Option.none:=by
 cases q:H l with
 | none=>rfl
 | some o =>
  obtain⟨o',z⟩:=e.any q
  rw[z]at h
  cases h
inductive p8 where
 | ext (φ:Addr->Heap->Prop)
 | lam (of oc:Obj) (c k:Addr)
noncomputable instance:Coe (Addr->Heap->Prop) p8:=⟨.ext⟩
noncomputable def BI(H:Hp)(k:Addr):Prop:=∃ψ,H k=some (.ext ψ)/\∀h,ψ h->∃q,h.CodeRec (.ref k) q
noncomputable def iy(of oc:Obj)(c p:Addr):Heap->Prop:=λh=>h.get? p=some of/\h.get? c=some oc
structure iY(H:Hp)(p:Addr)(of oc:Obj)(c k:Addr):Prop where
 fn:H p=some (.ext (iy of oc c p))
 cell:H c=some (.own p)
 BJ:BI H k
noncomputable def nH(H:Hp)(p:Addr):p8->Prop
 | .ext φ=>H p=some (.ext (φ p))
 | .lam of oc c k=>iY H p of oc c k
theorem nH.mono{H H':Hp}{p:Addr}:∀{z:p8},nH H p z->(∀a o,H a=some o->(∀ws,o≠.lst ws)->gY o=true->H' a=some o)->nH H' p z
 | .ext φ,x,k=>k _ _ x (λws q=>by cases q) rfl
 | .lam of oc c k',x,k=>⟨k _ _ x.fn (λws q=>by cases q) rfl,k _ _ x.cell (λws q=>by cases q) rfl,let⟨ψ,e,h⟩:=x.BJ;⟨ψ,k _ _ e (λws q=>by cases q) rfl,h⟩⟩
inductive D where
 | ak | bl (b:Bool) | int (i:Int) | str (x:Str)
 | lst (o:Bool) (xs:List D)
 | tup (xs:List D)
 | obj (C:Addr) (ns:List Str) (xs:List D)
 | fz (xs:List D)
 | bt (z:p8)
 deriving Inhabited
noncomputable def D.pl:D->Bool
 | .lst o xs=>!o&&uq xs
 | .tup xs=>uq xs
 | _=>true
where uq:List D->Bool
 | []=>true
 | d::ds=>d.pl&&uq ds
noncomputable def D.fr:D->Bool
 | .lst o xs=>o&&ur xs
 | .tup xs=>ur xs
 | .obj _ _ _=>false
 | .fz _=>false
 | _=>true
where ur:List D->Bool
 | []=>true
 | d::ds=>d.fr&&ur ds
noncomputable def D.sh:D->D
 | .lst _ xs=>.lst false (uu xs)
 | .tup xs=>.tup (uu xs)
 | d=>d
where uu:List D->List D
 | []=>[]
 | d::ds=>d.sh::uu ds
theorem JT(ds:List D):D.pl.uq ds=ds.all D.pl:=by induction ds with | nil=>rfl | cons d ds ih=>simp[D.pl.uq,ih]
theorem JU(ds:List D):D.fr.ur ds=ds.all D.fr:=by induction ds with | nil=>rfl | cons d ds ih=>simp[D.fr.ur,ih]
theorem JV(ds:List D):D.sh.uu ds=ds.map D.sh:=by induction ds with | nil=>rfl | cons d ds ih=>simp[D.sh.uu,ih]
theorem gZ(o:Bool)(xs:List D):(D.lst o xs).pl=(!o&&xs.all D.pl):=by simp[D.pl,JT]
theorem jZ(xs:List D):(D.tup xs).pl=xs.all D.pl:=by simp[D.pl,JT]
theorem eU(o:Bool)(xs:List D):(D.lst o xs).fr=(o&&xs.all D.fr):=by simp[D.fr,JU]
theorem nI(xs:List D):(D.tup xs).fr=xs.all D.fr:=by simp[D.fr,JU]
theorem dZ(o:Bool)(xs:List D):(D.lst o xs).sh=.lst false (xs.map D.sh):=by simp[D.sh,JV]
theorem kO(xs:List D):(D.tup xs).sh=.tup (xs.map D.sh):=by simp[D.sh,JV]
inductive R(F H:Hp):List D->List V->List Addr->Prop
 | nil:R F H [] [] []
 | ak {ds vs B}:R F H ds vs B->R F H (.ak::ds) (.ak::vs) B
 | bl {b ds vs B}:R F H ds vs B->R F H (.bl b::ds) (.bl b::vs) B
 | int {i ds vs B}:R F H ds vs B->R F H (.int i::ds) (.int i::vs) B
 | str {x ds vs B}:R F H ds vs B->R F H (.str x::ds) (.str x::vs) B
 | shr {p ws xs ds vs B}:F p=some (.lst ws)->R F H xs ws []->R F H ds vs B->R F H (.lst false xs::ds) (.ref p::vs) B
 | own {p ws xs A ds vs B}:H p=some (.lst ws)->F p=none->R F H xs ws A->R F H ds vs B->R F H (.lst true xs::ds) (.ref p::vs) (p::(A++B))
 | tup {p ws xs A ds vs B}:H p=some (.tup ws)->R F H xs ws A->R F H ds vs B->R F H (.tup xs::ds) (.ref p::vs) (A++B)
 | obj {p C dx ns ws xs ds vs B}:H p=some (.ins C dx (ns.zip ws))->ns.length=ws.length->R F H xs ws []->R F H ds vs B->R F H (.obj C ns xs::ds) (.ref p::vs) B
 | fz {p o ws xs ds vs B}:F p=some (.bc o (.lst ws))->R F H xs ws []->R F H ds vs B->R F H (.fz xs::ds) (.ref p::vs) B
 | bt {p z ds vs B}:nH H p z->R F H ds vs B->R F H (.bt z::ds) (.ref p::vs) B
inductive S(F H:Hp):List D->List V->Prop
 | nil:S F H [] []
 | ak {ds vs}:S F H ds vs->S F H (.ak::ds) (.ak::vs)
 | bl {b ds vs}:S F H ds vs->S F H (.bl b::ds) (.bl b::vs)
 | int {i ds vs}:S F H ds vs->S F H (.int i::ds) (.int i::vs)
 | str {x ds vs}:S F H ds vs->S F H (.str x::ds) (.str x::vs)
 | shr {p ws xs ds vs}:F p=some (.lst ws)->R F H xs ws []->S F H ds vs->S F H (.lst false xs::ds) (.ref p::vs)
 | own {p ws xs ds vs}:H p=some (.lst ws)->S F H xs ws->S F H ds vs->S F H (.lst true xs::ds) (.ref p::vs)
 | tup {p ws xs ds vs}:H p=some (.tup ws)->S F H xs ws->S F H ds vs->S F H (.tup xs::ds) (.ref p::vs)
 | obj {p C dx ns ws xs ds vs}:H p=some (.ins C dx (ns.zip ws))->ns.length=ws.length->R F H xs ws []->S F H ds vs->S F H (.obj C ns xs::ds) (.ref p::vs)
 | fz {p o ws xs ds vs}:F p=some (.bc o (.lst ws))->R F H xs ws []->S F H ds vs->S F H (.fz xs::ds) (.ref p::vs)
 | bt {p z ds vs}:nH H p z->S F H ds vs->S F H (.bt z::ds) (.ref p::vs)
section
variable{F F' H H':Hp}{d:D}{ds es:List D}{v:V}{vs ws:List V}{A B:List Addr}
theorem R.length(r:R F H ds vs A):ds.length=vs.length:=by
 induction r<;>simp_all
theorem S.length(r:S F H ds vs):ds.length=vs.length:=by
 induction r<;>simp_all
theorem R.jD{vs:List V}{A:List Addr}(r:R F H [] vs A):vs=[]/\A=[]:=by cases r;exact⟨rfl,rfl⟩
noncomputable def Rv(F H:Hp)(ds:List D)(v:V)(vs:List V)(B:List Addr):D->Prop
 | .lst true xs=>∃p ws A B',v=.ref p/\H p=some (.lst ws)/\F p=none/\R F H xs ws A/\R F H ds vs B'/\B=p::(A++B')
 | .tup xs=>∃p ws A B',v=.ref p/\H p=some (.tup ws)/\R F H xs ws A/\R F H ds vs B'/\B=A++B'
 | _=>R F H ds vs B
theorem R.rv{d:D}{ds:List D}{v:V}{vs:List V}{B:List Addr}(r:R F H (d::ds) (v::vs) B):Rv F H ds v vs B d:=by
 cases r with
 | ak q=>exact q
 | bl q=>exact q
 | int q=>exact q
 | str q=>exact q
 | shr _ _ q=>exact q
 | own h f x q=>exact⟨_,_,_,_,rfl,h,f,x,q,rfl⟩
 | tup h x q=>exact⟨_,_,_,_,rfl,h,x,q,rfl⟩
 | obj _ _ _ q=>exact q
 | fz _ _ q=>exact q
 | bt _ q=>exact q
theorem R.cons(r:R F H [d] [v] A)(q:R F H ds vs B):R F H (d::ds) (v::vs) (A++B):=by
 cases r with
 | ak r=>rw[r.jD.2];exact .ak q
 | bl r=>rw[r.jD.2];exact .bl q
 | int r=>rw[r.jD.2];exact .int q
 | str r=>rw[r.jD.2];exact .str q
 | shr h x r=>rw[r.jD.2];exact .shr h x q
 | own h f x r=>rw[r.jD.2,e7];exact R.own h f x q
 | tup h x r=>rw[r.jD.2,e7];exact R.tup h x q
 | obj h l x r=>rw[r.jD.2];exact .obj h l x q
 | fz h x r=>rw[r.jD.2];exact .fz h x q
 | bt h r=>rw[r.jD.2];exact .bt h q
theorem R.cF(r:R F H (d::ds) vs A):∃v bN A1 A2,vs=v::bN/\A=A1++A2/\R F H [d] [v] A1/\R F H ds bN A2:=by
 cases r with
 | ak r=>exact⟨_,_,[],_,rfl,rfl,.ak .nil,r⟩
 | bl r=>exact⟨_,_,[],_,rfl,rfl,.bl .nil,r⟩
 | int r=>exact⟨_,_,[],_,rfl,rfl,.int .nil,r⟩
 | str r=>exact⟨_,_,[],_,rfl,rfl,.str .nil,r⟩
 | shr h x r=>exact⟨_,_,[],_,rfl,rfl,.shr h x .nil,r⟩
 | @own p _ _ A1 _ _ B1 h f x r=>exact⟨_,_,p::A1,B1,rfl,rfl,by simpa using R.own h f x .nil,r⟩
 | @tup p _ _ A1 _ _ B1 h x r=>exact⟨_,_,A1,B1,rfl,rfl,by simpa using R.tup h x .nil,r⟩
 | obj h l x r=>exact⟨_,_,[],_,rfl,rfl,.obj h l x .nil,r⟩
 | fz h x r=>exact⟨_,_,[],_,rfl,rfl,.fz h x .nil,r⟩
 | bt h r=>exact⟨_,_,[],_,rfl,rfl,.bt h .nil,r⟩
theorem S.cons(r:S F H [d] [v])(q:S F H ds vs):S F H (d::ds) (v::vs):=by
 cases r with
 | ak r=>exact .ak q
 | bl r=>exact .bl q
 | int r=>exact .int q
 | str r=>exact .str q
 | shr h x r=>exact .shr h x q
 | own h x r=>exact .own h x q
 | tup h x r=>exact .tup h x q
 | obj h l x r=>exact .obj h l x q
 | fz h x r=>exact .fz h x q
 | bt h r=>exact .bt h q
theorem S.cF(r:S F H (d::ds) vs):∃v bN,vs=v::bN/\S F H [d] [v]/\S F H ds bN:=by
 cases r with
 | ak r=>exact⟨_,_,rfl,.ak .nil,r⟩
 | bl r=>exact⟨_,_,rfl,.bl .nil,r⟩
 | int r=>exact⟨_,_,rfl,.int .nil,r⟩
 | str r=>exact⟨_,_,rfl,.str .nil,r⟩
 | shr h x r=>exact⟨_,_,rfl,.shr h x .nil,r⟩
 | own h x r=>exact⟨_,_,rfl,.own h x .nil,r⟩
 | tup h x r=>exact⟨_,_,rfl,.tup h x .nil,r⟩
 | obj h l x r=>exact⟨_,_,rfl,.obj h l x .nil,r⟩
 | fz h x r=>exact⟨_,_,rfl,.fz h x .nil,r⟩
 | bt h r=>exact⟨_,_,rfl,.bt h .nil,r⟩
theorem R.append:∀{ds:List D} {vs:List V} {A:List Addr},R F H ds vs A->R F H es ws B->R F H (ds++es) (vs++ws) (A++B)
 | [],_,_,r,q=>by cases r;exact q
 | d::ds,_,_,r,q=>by
  obtain⟨v,bN,A1,A2,rfl,rfl,h1,h2⟩:=r.cF
  simpa using h1.cons (R.append h2 q)
theorem S.append:∀{ds:List D} {vs:List V},S F H ds vs->S F H es ws->S F H (ds++es) (vs++ws)
 | [],_,r,q=>by cases r;exact q
 | d::ds,_,r,q=>by
  obtain⟨v,bN,rfl,h1,h2⟩:=r.cF
  exact h1.cons (S.append h2 q)
theorem R.split:∀{ds:List D} {vs:List V} {A:List Addr},R F H (ds++es) vs A->∃v1 v2 A1 A2,vs=v1++v2/\A=A1++A2/\R F H ds v1 A1/\R F H es v2 A2
 | [],vs,A,r=>⟨[],vs,[],A,rfl,rfl,.nil,r⟩
 | d::ds,_,_,r=>by
  obtain⟨v,bN,A1,A2,rfl,rfl,h1,h2⟩:=R.cF (ds:=ds++es) r
  obtain⟨v1,v2,B1,B2,rfl,rfl,h3,h4⟩:=R.split (ds:=ds) h2
  exact⟨v::v1,v2,A1++B1,B2,rfl,by simp,h1.cons h3,h4⟩
theorem R.get:∀{ds:List D} {vs:List V} {A:List Addr} {i:Nat},R F H ds vs A->ds[i]?=some d->∃v A1,vs[i]?=some v/\R F H [d] [v] A1/\A1 ⊆ A
 | [],_,_,_,_,e=>by simp at e
 | d'::ds,_,_,i,r,e=>by
  obtain⟨v,bN,A1,A2,rfl,rfl,h1,h2⟩:=r.cF
  cases i with
  | zero=>simp at e;subst e;exact⟨v,A1,rfl,h1,by simp⟩
  | succ i =>
   obtain⟨w,B1,e2,q,sb⟩:=R.get (ds:=ds) (i:=i) h2 (by simpa using e)
   exact⟨w,B1,by simpa using e2,q,λx hx=>dg _ (sb hx)⟩
theorem S.get:∀{ds:List D} {vs:List V} {i:Nat},S F H ds vs->ds[i]?=some d->∃v,vs[i]?=some v/\S F H [d] [v]
 | [],_,_,_,e=>by simp at e
 | d'::ds,_,i,r,e=>by
  obtain⟨v,bN,rfl,h1,h2⟩:=r.cF
  cases i with
  | zero=>simp at e;subst e;exact⟨v,rfl,h1⟩
  | succ i =>
   obtain⟨w,e2,q⟩:=S.get (ds:=ds) (i:=i) h2 (by simpa using e)
   exact⟨w,by simpa using e2,q⟩
theorem S.get':∀{ds:List D} {vs:List V} {i:Nat},S F H ds vs->vs[i]?=some v->∃d,ds[i]?=some d/\S F H [d] [v]
 | [],_,_,r,e=>by cases r;simp at e
 | d'::ds,_,i,r,e=>by
  obtain⟨v,bN,rfl,h1,h2⟩:=r.cF
  cases i with
  | zero=>simp at e;subst e;exact⟨d',rfl,h1⟩
  | succ i =>
   obtain⟨w,e2,q⟩:=S.get' (ds:=ds) (i:=i) h2 (by simpa using e)
   exact⟨w,by simpa using e2,q⟩
theorem S.take:∀{ds:List D} {vs:List V} (n:Nat),S F H ds vs->S F H (ds.take n) (vs.take n)
 | _,_,0,r=>by simpa using S.nil
 | [],_,n+1,r=>by cases r;exact .nil
 | d::ds,_,n+1,r=>by
  obtain⟨v,bN,rfl,h1,h2⟩:=r.cF
  exact h1.cons (S.take n h2)
theorem S.drop:∀{ds:List D} {vs:List V} (n:Nat),S F H ds vs->S F H (ds.drop n) (vs.drop n)
 | _,_,0,r=>by simpa using r
 | [],_,n+1,r=>by cases r;exact .nil
 | d::ds,_,n+1,r=>by
  obtain⟨v,bN,rfl,h1,h2⟩:=r.cF
  exact S.drop n h2
theorem gx{p:Addr}{o:HO}(h:Rd F p o)(s:ae F F')(n:gY o=true:=by rfl):Rd F' p o:=by
 rcases h with h | ⟨u,h⟩
 ·exact .inl (s.get _ _ h n)
 ·exact .inr ⟨u,s _ _ h⟩
theorem R.s(r:R F H ds vs A):S F H ds vs:=by
 induction r with
 | nil=>exact .nil
 | ak _ ih=>exact .ak ih
 | bl _ ih=>exact .bl ih
 | int _ ih=>exact .int ih
 | str _ ih=>exact .str ih
 | shr h x _ _ ih=>exact .shr h x ih
 | own h f _ _ i1 i2=>exact .own h i1 i2
 | tup h _ _ i1 i2=>exact .tup h i1 i2
 | obj h l x _ _ ih=>exact .obj h l x ih
 | fz h x _ _ ih=>exact .fz h x ih
 | bt h _ ih=>exact .bt h ih
structure eV(W:List Addr)(H H':Hp):Prop where
 get:∀a o,H a=some o->a ∉ W->(h:gY o=true:=by rfl)->H' a=some o
noncomputable instance {W:List Addr} {H H':Hp}:CoeFun (eV W H H') λ_=>∀a o,H a=some o->a ∉ W->(h:gY o=true:=by rfl)->H' a=some o:=⟨λs=>@eV.get _ _ _ s⟩
noncomputable def fJ(W:List Addr)(H:Hp):Prop:=∀a∈W,∃ws,H a=some (.lst ws)
theorem R.keep{W:List Addr}(hf:ae F F')(hb:eV W H H')(hl:fJ W H)(r:R F H ds vs A)(hn:∀a∈A,F' a=none)(hd:∀a∈A,a ∉ W):R F' H' ds vs A:=by
 induction r with
 | nil=>exact .nil
 | ak _ ih=>exact .ak (ih hn hd)
 | bl _ ih=>exact .bl (ih hn hd)
 | int _ ih=>exact .int (ih hn hd)
 | str _ ih=>exact .str (ih hn hd)
 | shr h x _ i1 ih=>exact .shr (hf _ _ h) (i1 (by simp) (by simp)) (ih hn hd)
 | own h f _ _ i1 i2 =>
  refine .own (hb _ _ h (hd _ (by simp))) (hn _ (by simp)) (i1 (λa ha=>hn a ?_) λa ha=>hd a ?_) (i2 (λa ha=>hn a ?_) λa ha=>hd a ?_)<;>simp[ha]
 | @tup p ws _ _ _ _ _ h _ _ i1 i2 =>
  refine .tup (hb _ _ h λz=>?_) (i1 (λa ha=>hn a ?_) λa ha=>hd a ?_) (i2 (λa ha=>hn a ?_) λa ha=>hd a ?_)<;>try simp[ha]
  obtain⟨q,e⟩:=hl _ z
  rw[h]at e;cases e
 | obj h l x _ i1 ih =>
  refine .obj (hb _ _ h λz=>?_) l (i1 (by simp) (by simp)) (ih hn hd)
  obtain⟨q,e⟩:=hl _ z
  rw[h]at e;cases e
 | fz h x _ i1 ih=>exact .fz (hf _ _ h) (i1 (by simp) (by simp)) (ih hn hd)
 | bt h _ ih =>
  exact .bt (h.mono λa o e n t=>hb.get a o e (λz=>by
   obtain⟨q,e'⟩:=hl _ z
   rw[e]at e';cases e';exact n _ rfl) t) (ih hn hd)
theorem eV.same(h:ae H H'):eV [] H H':=⟨λa o e _ n=>h.get a o e n⟩
theorem fJ.nil:fJ [] H:=λa h=>absurd h (by simp)
theorem R.grow(hf:ae F F')(hb:ae H H')(r:R F H ds vs A)(hn:∀a∈A,F' a=none):R F' H' ds vs A :=
 r.keep hf (eV.same hb) fJ.nil hn (by simp)
theorem R.shared(hf:ae F F')(hb:ae H H')(r:R F H ds vs []):R F' H' ds vs []:=r.grow hf hb (by simp)
theorem S.mono(hf:ae F F')(hb:ae H H')(r:S F H ds vs):S F' H' ds vs:=by
 induction r with
 | nil=>exact .nil
 | ak _ ih=>exact .ak ih
 | bl _ ih=>exact .bl ih
 | int _ ih=>exact .int ih
 | str _ ih=>exact .str ih
 | shr h x _ ih=>exact .shr (hf _ _ h) (x.shared hf hb) ih
 | own h _ _ i1 i2=>exact .own (hb _ _ h) i1 i2
 | tup h _ _ i1 i2=>exact .tup (hb _ _ h) i1 i2
 | obj h l x _ ih=>exact .obj (hb _ _ h) l (x.shared hf hb) ih
 | fz h x _ ih=>exact .fz (hf _ _ h) (x.shared hf hb) ih
 | bt h _ ih=>exact .bt (h.mono λa o e _ t=>hb.get a o e t) ih
theorem S.r(s:S F H ds vs)(p:ds.all D.pl=true):R F H ds vs []:=by
 induction s with
 | nil=>exact .nil
 | ak _ ih=>exact .ak (ih (by simpa[D.pl]using p))
 | bl _ ih=>exact .bl (ih (by simpa[D.pl]using p))
 | int _ ih=>exact .int (ih (by simpa[D.pl]using p))
 | str _ ih=>exact .str (ih (by simpa[D.pl]using p))
 | shr h x _ ih=>exact .shr h x (ih (by simp[gZ]at p;simpa using p.2))
 | own h _ _ i1 i2=>simp[gZ]at p
 | tup h _ _ i1 i2 =>
  rw[dh,jZ,di]at p
  simpa using R.tup h (i1 p.1) (i2 p.2)
 | obj h l x _ ih=>exact .obj h l x (ih (by simpa[D.pl]using p))
 | fz h x _ ih=>exact .fz h x (ih (by simpa[D.pl]using p))
 | bt h _ ih=>exact .bt h (ih (by simpa[D.pl]using p))
theorem R.pl(r:R F H ds vs []):ds.all D.pl=true:=by
 generalize e:([]:List Addr)=A at r
 induction r with
 | nil=>rfl
 | ak _ ih=>simp[D.pl];simpa using ih e
 | bl _ ih=>simp[D.pl];simpa using ih e
 | int _ ih=>simp[D.pl];simpa using ih e
 | str _ ih=>simp[D.pl];simpa using ih e
 | shr h x _ i1 ih=>simp only[dh,gZ,i1 rfl,ih e];rfl
 | own h f _ _ i1 i2=>cases e
 | tup h _ _ i1 i2 =>
  obtain⟨e1,e2⟩:=xi.mp e.symm
  simp only[dh,jZ,i1 e1.symm,i2 e2.symm];rfl
 | obj h l x _ i1 ih=>simp[D.pl];simpa using ih e
 | fz h x _ i1 ih=>simp[D.pl];simpa using ih e
 | bt h _ ih=>simp[D.pl];simpa using ih e
theorem D.ym:∀{d:D},d.pl=true->d.sh=d
 | .ak,_=>rfl
 | .bl _,_=>rfl
 | .int _,_=>rfl
 | .str _,_=>rfl
 | .obj _ _ _,_=>rfl
 | .fz _,_=>rfl
 | .bt _,_=>rfl
 | .lst o xs,h=>by
  rw[gZ,di]at h
  have:∀(l:List D),(∀x∈l,x∈xs)->l.all D.pl=true->l.map D.sh=l:=by
   intro l hl hp
   induction l with
   | nil=>rfl
   | cons x l ih =>
    simp only[dh,di]at hp
    have hx:x∈xs:=hl x (by simp)
    rw[bV,D.ym hp.1,ih (λy hy=>hl y (by simp[hy])) hp.2]
  rw[dZ,this xs (λ_ h=>h) h.2]
  cases o<;>simp_all
 | .tup xs,h=>by
  rw[jZ]at h
  have:∀(l:List D),(∀x∈l,x∈xs)->l.all D.pl=true->l.map D.sh=l:=by
   intro l hl hp
   induction l with
   | nil=>rfl
   | cons x l ih =>
    simp only[dh,di]at hp
    have hx:x∈xs:=hl x (by simp)
    rw[bV,D.ym hp.1,ih (λy hy=>hl y (by simp[hy])) hp.2]
  rw[kO,this xs (λ_ h=>h) h]
termination_by d=>sizeOf d
theorem j4{l:List D}(h:l.all D.pl=true):l.map D.sh=l:=by
 induction l with
 | nil=>rfl
 | cons x l ih =>
  simp only[dh,di]at h
  rw[bV,D.ym h.1,ih h.2]
theorem S.frozen(e:ae F H)(s:S F H ds vs):R H H (ds.map D.sh) vs []:=by
 induction s with
 | nil=>exact .nil
 | ak _ ih=>exact .ak ih
 | bl _ ih=>exact .bl ih
 | int _ ih=>exact .int ih
 | str _ ih=>exact .str ih
 | shr h x _ ih =>
  rw[bV,dZ,j4 x.pl]
  exact .shr (e _ _ h) (x.shared e (ae.refl _)) ih
 | own h _ _ i1 i2=>rw[bV,dZ];exact .shr h i1 i2
 | tup h _ _ i1 i2=>rw[bV,kO];simpa using R.tup h i1 i2
 | obj h l x _ ih=>exact .obj h l (x.shared e (ae.refl _)) ih
 | fz h x _ ih=>exact .fz (e _ _ h) (x.shared e (ae.refl _)) ih
 | bt h _ ih=>exact .bt h ih
noncomputable def bc(F H:Hp)(A:List Addr):Hp:=λa=>if a∈A then H a else F a
theorem g5(e:ae F H):ae F (bc F H A):=⟨λa o h n=>by unfold bc;split;exact e.get _ _ h n;exact h,λa ps h=>by unfold bc;split;exact e.tb _ _ h;exact⟨#[],by rw[h];simp⟩⟩
theorem nJ(e:ae F H):ae (bc F H A) H:=⟨λa o h n=>by unfold bc at h;split at h;exact h;exact e.get _ _ h n,λa ps h=>by unfold bc at h;split at h;exact⟨#[],by rw[h];simp⟩;exact e.tb _ _ h⟩
theorem nK{a:Addr}(h:a ∉ A):bc F H A a=F a:=by unfold bc;rw[if_neg h]
theorem Uq{a:Addr}(h:a∈A):bc F H A a=H a:=by unfold bc;rw[if_pos h]
theorem R.bc(e:ae F H)(r:R F H ds vs A):∀A',A ⊆ A'->R (L3.bc F H A') H (ds.map D.sh) vs []:=by
 induction r with
 | nil=>exact λ_ _=>.nil
 | ak _ ih=>exact λA' h=>.ak (ih A' h)
 | bl _ ih=>exact λA' h=>.bl (ih A' h)
 | int _ ih=>exact λA' h=>.int (ih A' h)
 | str _ ih=>exact λA' h=>.str (ih A' h)
 | shr h x _ i1 ih =>
  intro A' hA
  rw[bV,dZ,j4 x.pl]
  exact .shr (g5 e _ _ h) (x.shared (g5 e) (ae.refl _)) (ih A' hA)
 | own h f _ _ i1 i2 =>
  intro A' hA
  rw[bV,dZ]
  exact .shr ((Uq (hA (by simp))).trans h) (i1 A' λa ha=>hA (by simp[ha])) (i2 A' λa ha=>hA (by simp[ha]))
 | tup h _ _ i1 i2 =>
  intro A' hA
  rw[bV,kO]
  simpa using R.tup h (i1 A' λa ha=>hA (by simp[ha])) (i2 A' λa ha=>hA (by simp[ha]))
 | obj h l x _ i1 ih=>exact λA' hA=>.obj h l (x.shared (g5 e) (ae.refl _)) (ih A' hA)
 | fz h x _ i1 ih=>exact λA' hA=>.fz (g5 e _ _ h) (x.shared (g5 e) (ae.refl _)) (ih A' hA)
 | bt h _ ih=>exact λA' hA=>.bt h (ih A' hA)
theorem R.lists(r:R F H ds vs A):∀a∈A,(∃ws,H a=some (.lst ws))/\F a=none:=by
 induction r with
 | nil=>simp
 | ak _ ih=>exact ih
 | bl _ ih=>exact ih
 | int _ ih=>exact ih
 | str _ ih=>exact ih
 | shr h x _ i1 ih=>exact ih
 | own h f _ _ i1 i2 =>
  intro a ha
  rcases bR.mp ha with rfl | ha
  ·exact⟨⟨_,h⟩,f⟩
  ·exact(cB.mp ha).elim (i1 a) (i2 a)
 | tup h _ _ i1 i2=>exact λa ha=>(cB.mp ha).elim (i1 a) (i2 a)
 | obj h l x _ i1 ih=>exact ih
 | fz h x _ i1 ih=>exact ih
 | bt h _ ih=>exact ih
theorem R.p9(r:R F H ds vs A)(hd:ds.all D.fr=true)(e:ae F' F):R F' H ds vs A:=by
 induction r with
 | nil=>exact .nil
 | ak _ ih=>exact .ak (ih (by simpa[D.fr]using hd))
 | bl _ ih=>exact .bl (ih (by simpa[D.fr]using hd))
 | int _ ih=>exact .int (ih (by simpa[D.fr]using hd))
 | str _ ih=>exact .str (ih (by simpa[D.fr]using hd))
 | shr h x _ i1 ih=>simp[eU]at hd
 | own h f _ _ i1 i2 =>
  rw[dh,eU,di,kr]at hd
  exact .own h (e.free f) (i1 hd.1) (i2 hd.2)
 | tup h _ _ i1 i2 =>
  rw[dh,nI,di]at hd
  exact .tup h (i1 hd.1) (i2 hd.2)
 | obj h l x _ i1 ih=>simp[D.fr]at hd
 | fz h x _ i1 ih=>simp[D.fr]at hd
 | bt h _ ih=>exact .bt h (ih (by simpa[D.fr]using hd))
theorem R.inj(r:R F H ds vs A):∀{B:List Addr},R F H ds vs B->A=B:=by
 induction r with
 | nil=>exact λq=>q.jD.2.symm
 | ak _ ih=>exact λq=>ih q.rv
 | bl _ ih=>exact λq=>ih q.rv
 | int _ ih=>exact λq=>ih q.rv
 | str _ ih=>exact λq=>ih q.rv
 | shr h x _ i1 ih=>exact λq=>ih q.rv
 | own h f _ _ i1 i2 =>
  intro B q
  obtain⟨p,ws,A,B',e,h',f',x',q',rfl⟩:=q.rv
  cases e
  rw[h]at h';cases h'
  rw[i1 x',i2 q']
 | tup h _ _ i1 i2 =>
  intro B q
  obtain⟨p,ws,A,B',e,h',x',q',rfl⟩:=q.rv
  cases e
  rw[h]at h';cases h'
  rw[i1 x',i2 q']
 | obj h l x _ i1 ih=>exact λq=>ih q.rv
 | fz h x _ i1 ih=>exact λq=>ih q.rv
 | bt h _ ih=>exact λq=>ih q.rv
theorem R.perm{ps qs:List (D × V)}(hp:ps.Perm qs):∀{A:List Addr},R F H (ps.map (·.1)) (ps.map (·.2)) A->∃A',R F H (qs.map (·.1)) (qs.map (·.2)) A'/\A.Perm A':=by
 induction hp with
 | nil=>exact λr=>⟨_,r,.refl _⟩
 | cons x _ ih =>
  intro A r
  obtain⟨v,bN,A1,A2,e,rfl,h1,h2⟩:=R.cF r
  obtain⟨rfl,rfl⟩:=ku e
  obtain⟨A',r',p⟩:=ih h2
  exact⟨A1++A',h1.cons r',p.append_left _⟩
 | swap x y l =>
  intro A r
  obtain⟨v,bN,A1,A2,e,rfl,h1,h2⟩:=R.cF r
  obtain⟨rfl,rfl⟩:=ku e
  obtain⟨v2,JW,B1,B2,e,rfl,h3,h4⟩:=R.cF h2
  obtain⟨rfl,rfl⟩:=ku e
  exact⟨B1++(A1++B2),h3.cons (h1.cons h4),by rw[<-dR,<- dR];exact l7.append_right _⟩
 | trans _ _ i1 i2 =>
  intro A r
  obtain⟨A',r',p⟩:=i1 r
  obtain⟨A2,r2,p2⟩:=i2 r'
  exact⟨A2,r2,p.trans p2⟩
noncomputable def Full(F H:Hp):Prop:=∀a o,H a=some o->(∀ws,o≠.lst ws)->F a=some o
theorem Full.refl(H:Hp):Full H H:=λ_ _ h _=>h
theorem R.full(hF:Full F H)(hs:ae F H')(r:R F H ds vs A)(e:A=[]):R F H' ds vs []:=by
 induction r with
 | nil=>exact .nil
 | ak _ ih=>exact .ak (ih e)
 | bl _ ih=>exact .bl (ih e)
 | int _ ih=>exact .int (ih e)
 | str _ ih=>exact .str (ih e)
 | shr h x _ i1 ih=>exact .shr h (i1 rfl) (ih e)
 | own h f _ _ i1 i2=>cases e
 | tup h _ _ i1 i2 =>
  obtain⟨e1,e2⟩:=xi.mp e
  exact R.tup (A:=[]) (B:=[]) (hs _ _ (hF _ _ h (by intro ws z;cases z))) (i1 e1) (i2 e2)
 | obj h l x _ i1 ih=>exact .obj (hs _ _ (hF _ _ h (by intro ws z;cases z))) l (i1 rfl) (ih e)
 | fz h x _ i1 ih=>exact .fz h (i1 rfl) (ih e)
 | bt h _ ih=>exact .bt (h.mono λa o e n t=>hs.get a o (hF a o e n) t) (ih e)
open Classical in
noncomputable def snap(F H:Hp):Hp:=λa=>if(∃o,H a=some o/\∀ws,o≠.lst ws)then H a else F a
theorem qa:Full (snap F H) H:=λa o h n=>by unfold snap;rw[if_pos ⟨o,h,n⟩];exact h
theorem nL(e:ae F H):ae F (snap F H):=⟨λa o h n=>by
 unfold snap;split
 ·exact e.get a o h n
 ·exact h,λa ps h=>by
 unfold snap;split
 ·exact e.tb a ps h
 ·exact⟨#[],by rw[h];simp⟩⟩
theorem Ur(e:ae F H):ae (snap F H) H:=⟨λa o h n=>by
 unfold snap at h;split at h
 ·exact h
 ·exact e.get a o h n,λa ps h=>by
 unfold snap at h;split at h
 ·exact⟨#[],by rw[h];simp⟩
 ·exact e.tb a ps h⟩
theorem Us(e:ae F H){a:Addr}{ws:List V}(h:snap F H a=some (.lst ws)):F a=some (.lst ws):=by
 unfold snap at h;split at h
 ·rename_i z
  obtain⟨o,h1,h2⟩:=z
  rw[h]at h1;exact absurd (cN h1).symm (h2 ws)
 ·exact h
theorem Ut{a:Addr}{ws:List V}(h:H a=some (.lst ws))(n:F a=none):snap F H a=none:=by
 unfold snap;split
 ·rename_i z
  obtain⟨o,h1,h2⟩:=z
  rw[h]at h1;exact absurd (cN h1).symm (h2 ws)
 ·exact n
end
end L3
namespace L3
open PySem L2
noncomputable abbrev Dl:=List (Option D)
inductive RS(F H:Hp):Dl->St->List Addr->Prop
 | nil:RS F H [] [] []
 | ak {δ σ o C}:RS F H δ σ C->RS F H (none::δ) (o::σ) C
 | dq {d v A δ σ C}:R F H [d] [v] A->RS F H δ σ C->RS F H (some d::δ) (some v::σ) (A++C)
theorem fK{A B:List Addr}:(A++B).Nodup↔A.Nodup/\B.Nodup/\∀a∈A,a ∉ B:=by
 rw[List.nodup_append]
 constructor
 ·rintro⟨h1,h2,h3⟩;exact⟨h1,h2,λa ha hb=>h3 a ha a hb rfl⟩
 ·rintro⟨h1,h2,h3⟩;exact⟨h1,h2,λa ha b hb e=>h3 a ha (e ▸ hb)⟩
section
variable{F F' H H':Hp}{d:D}{v:V}{δ:Dl}{σ:St}{A C:List Addr}{i:Nat}
theorem RS.length(r:RS F H δ σ C):δ.length=σ.length:=by induction r<;>simp_all
theorem RS.pick:∀{δ:Dl} {σ:St} {C:List Addr} {i:Nat},RS F H δ σ C->δ[i]?=some (some d)->∃v A C',σ[i]?=some (some v)/\R F H [d] [v] A/\RS F H (δ.set i none) σ C'/\C.Perm (A++C')
 | _,_,_,_,.nil,e=>by simp at e
 | _,_,_,i,.ak r,e=>by
  cases i with
  | zero=>simp at e
  | succ i =>
   obtain⟨v,A,C',e1,h1,h2,p⟩:=RS.pick r (by simpa using e)
   exact⟨v,A,C',by simpa using e1,h1,.ak h2,p⟩
 | _,_,_,i,.dq (A:=A0) (C:=C0) h r,e=>by
  cases i with
  | zero =>
   simp at e;subst e
   exact⟨_,A0,C0,rfl,h,.ak r,.refl _⟩
  | succ i =>
   obtain⟨v,A,C',e1,h1,h2,p⟩:=RS.pick r (by simpa using e)
   refine⟨v,A,A0++C',by simpa using e1,h1,.dq h h2,(p.append_left A0).trans ?_⟩
   rw[<-dR,<- dR]
   exact l7.append_right _
theorem RS.fill:∀{δ:Dl} {σ:St} {C:List Addr} {i:Nat},RS F H δ σ C->δ[i]?=some none->σ[i]?=some (some v)->R F H [d] [v] A->∃C',RS F H (δ.set i (some d)) σ C'/\C'.Perm (A++C)
 | _,_,_,_,.nil,e,_,_=>by simp at e
 | _,_,_,i,.ak r,e,e2,h=>by
  cases i with
  | zero=>simp at e2;subst e2;exact⟨_,.dq h r,.refl _⟩
  | succ i =>
   obtain⟨C',h1,p⟩:=RS.fill r (by simpa using e) (by simpa using e2) h
   exact⟨C',.ak h1,p⟩
 | _,_,_,i,.dq (A:=A0) (C:=C0) h0 r,e,e2,h=>by
  cases i with
  | zero=>simp at e
  | succ i =>
   obtain⟨C',h1,p⟩:=RS.fill r (by simpa using e) (by simpa using e2) h
   refine⟨A0++C',.dq h0 h1,(p.append_left A0).trans ?_⟩
   rw[<-dR,<- dR]
   exact l7.append_right _
theorem RS.drop:∀{δ:Dl} {σ:St} {C:List Addr} (i:Nat),RS F H δ σ C->∃C',RS F H (δ.set i none) σ C'/\C'.Sublist C
 | _,_,_,_,.nil=>⟨_,.nil,.refl _⟩
 | _,_,_,i,.ak r=>by
  cases i with
  | zero=>exact⟨_,.ak r,.refl _⟩
  | succ i=>obtain⟨C',h,s⟩:=RS.drop i r;exact⟨C',.ak h,s⟩
 | _,_,_,i,.dq (A:=A0) h0 r=>by
  cases i with
  | zero=>exact⟨_,.ak r,List.sublist_append_right _ _⟩
  | succ i=>obtain⟨C',h,s⟩:=RS.drop i r;exact⟨_,.dq h0 h,(HE A0).append s⟩
theorem RS.uv:∀{δ:Dl} {σ:St} {C:List Addr} {i:Nat} (o:Option V),RS F H δ σ C->(δ[i]?=some none\/δ[i]?=none)->RS F H δ (σ.set i o) C
 | _,_,_,_,_,.nil,_=>.nil
 | _,_,_,i,_,.ak r,e=>by
  cases i with
  | zero=>exact .ak r
  | succ i=>exact .ak (RS.uv _ r (by simpa using e))
 | _,_,_,i,_,.dq h0 r,e=>by
  cases i with
  | zero=>simp at e
  | succ i=>exact .dq h0 (RS.uv _ r (by simpa using e))
theorem RS.keep{W:List Addr}(hf:ae F F')(hb:eV W H H')(hl:fJ W H)(r:RS F H δ σ C)(hn:∀a∈C,F' a=none)(hd:∀a∈C,a ∉ W):RS F' H' δ σ C:=by
 induction r with
 | nil=>exact .nil
 | ak _ ih=>exact .ak (ih hn hd)
 | dq h _ ih=>exact .dq (h.keep hf hb hl (λa ha=>hn a (by simp[ha])) λa ha=>hd a (by simp[ha])) (ih (λa ha=>hn a (by simp[ha])) λa ha=>hd a (by simp[ha]))
theorem RS.lists(r:RS F H δ σ C):∀a∈C,(∃ws,H a=some (.lst ws))/\F a=none:=by
 induction r with
 | nil=>simp
 | ak _ ih=>exact ih
 | dq h _ ih=>exact λa ha=>(cB.mp ha).elim (h.lists a) (ih a)
end
structure Bs where
 H0:Hp
 F0:Hp
structure aj(B:Bs)(F H:Hp)(σ:St)(δ:Dl)(ts:List (D × V)):Prop where
 ext:ae F H
 b1:ae B.H0 H
 b2:ae B.F0 F
 b3:∀a ws,F a=some (.lst ws)->B.F0 a=some (.lst ws)\/B.H0 a=none
 own:∃A C,R F H (ts.map (·.1)) (ts.map (·.2)) A/\RS F H δ σ C/\(A++C).Nodup/\∀a∈A++C,B.H0 a=none
section
variable{B:Bs}{F F' H H':Hp}{d:D}{v:V}{δ:Dl}{σ:St}{ts ps:List (D × V)}{A C W:List Addr}{i:Nat}{p:Addr}{xs ys:List D}{vs ws:List V}
theorem aj.look(c:aj B F H σ δ ts)(e:δ[i]?=some (some d)):∃v,σ[i]?=some (some v)/\S F H [d] [v]:=by
 obtain⟨A,C,r,s,nd,fr⟩:=c.own
 obtain⟨v,A',C',e1,h1,h2,p⟩:=s.pick e
 exact⟨v,e1,h1.s⟩
theorem aj.len(c:aj B F H σ δ ts):δ.length=σ.length:=let⟨_,_,_,s,_⟩:=c.own;s.length
theorem aj.grow(c:aj B F H σ δ ts)(h:ae H H'):aj B F H' σ δ ts:=by
 obtain⟨A,C,r,s,nd,fr⟩:=c.own
 exact⟨c.ext.trans h,c.b1.trans h,c.b2,c.b3,A,C,r.grow (ae.refl _) h λa ha=>(r.lists a ha).2,s.keep (ae.refl _) (eV.same h) fJ.nil (λa ha=>(s.lists a ha).2) (by simp),nd,fr⟩
theorem aj.pop(c:aj B F H σ δ ((d,v)::ts)):aj B F H σ δ ts:=by
 obtain⟨A,C,r,s,nd,fr⟩:=c.own
 obtain⟨w,bN,A1,A2,e,rfl,h1,h2⟩:=R.cF r
 obtain⟨rfl,rfl⟩:=ku e
 refine⟨c.ext,c.b1,c.b2,c.b3,A2,C,h2,s,?_,λa ha=>fr a (by simp at ha ⊢;exact .inr ha)⟩
 rw[dR]at nd
 exact(fK.mp nd).2.1
theorem aj.top(c:aj B F H σ δ ((d,v)::ts)):S F H [d] [v]:=by
 obtain⟨A,C,r,s,nd,fr⟩:=c.own
 obtain⟨w,bN,A1,A2,e,rfl,h1,h2⟩:=R.cF r
 obtain⟨rfl,rfl⟩:=ku e
 exact h1.s
theorem aj.pushS(c:aj B F H σ δ ts)(s:S F H [d] [v])(pl:d.pl=true):aj B F H σ δ ((d,v)::ts):=by
 obtain⟨A,C,r,q,nd,fr⟩:=c.own
 exact⟨c.ext,c.b1,c.b2,c.b3,A,C,(s.r (by simp[pl])).cons r,q,nd,fr⟩
theorem ae.upd{o:HO}(h:H p=none):ae H (upd H p o):=.of λb u e=>by rw[aS (dk e h)];exact e
theorem aj.pack(c:aj B F H σ δ (ps++ts))(hs:ae H H')(k:∀A1,R F H' (ps.map (·.1)) (ps.map (·.2)) A1->A1.Nodup->∃A',R F H' [d] [v] A'/\A'.Nodup/\∀a∈A',a∈A1\/H a=none):aj B F H' σ δ ((d,v)::ts):=by
 obtain⟨A,C,r,s,nd,fr⟩:=c.own
 rw[jo,jo]at r
 obtain⟨v1,v2,A1,A2,e,rfl,h1,h2⟩:=R.split r
 have l1:(ps.map (·.2)).length=v1.length:=by rw[<-h1.length];simp
 obtain⟨rfl,rfl⟩:=Ac e l1
 rw[dR]at nd fr
 obtain⟨n1,n2,n3⟩:=fK.mp nd
 have g1:=h1.grow (ae.refl F) hs λa ha=>(h1.lists a ha).2
 have g2:=h2.grow (ae.refl F) hs λa ha=>(h2.lists a ha).2
 have gs:=s.keep (ae.refl F) (eV.same hs) fJ.nil (λa ha=>(s.lists a ha).2) (by simp)
 obtain⟨A',r',BK,sub⟩:=k A1 g1 n1
 refine⟨c.ext.trans hs,c.b1.trans hs,c.b2,c.b3,A'++A2,C,r'.cons g2,gs,?_,?_⟩
 ·rw[dR]
  refine fK.mpr ⟨BK,n2,λa ha hb=>?_⟩
  rcases sub a ha with z | z
  ·exact n3 a z hb
  ·rcases cB.mp hb with y | y
   ·obtain⟨⟨_,q⟩,_⟩:=h2.lists a y;rw[z]at q;cases q
   ·obtain⟨⟨_,q⟩,_⟩:=s.lists a y;rw[z]at q;cases q
 ·intro a ha
  rw[dR]at ha
  rcases cB.mp ha with y | y
  ·rcases sub a y with z | z
   ·exact fr a (by simp[z])
   ·exact c.b1.free z
  ·exact fr a (dg _ y)
theorem aj.BL(c:aj B F H σ δ ts)(hs:ae H H')(r:R F H' [d] [v] A)(nd:A.Nodup)(fr:∀a∈A,H a=none):aj B F H' σ δ ((d,v)::ts) :=
 aj.pack (ps:=[]) c hs λ_ _ _=>⟨A,r,nd,λa ha=>.inr (fr a ha)⟩
theorem aj.mw(c:aj B F H σ δ ts)(hp:H p=none)(s:S F H xs vs)(pl:xs.all D.pl=true):aj B F (upd H p (.lst vs)) σ δ ((.lst true xs,.ref p)::ts) :=
 c.BL (ae.upd hp) (A:=[p]) (by simpa using R.own bC (c.ext.free hp) ((s.r pl).shared (ae.refl _) (ae.upd hp)) .nil) (by simp) (by simp[hp])
theorem aj.Uu(c:aj B F H σ δ (ps++ts))(hp:H p=none):aj B F (upd H p (.lst (ps.map (·.2)))) σ δ ((.lst true (ps.map (·.1)),.ref p)::ts):=by
 refine c.pack (ae.upd hp) λA1 r nd=>⟨p::A1,by simpa using R.own bC (c.ext.free hp) r .nil,iK.mpr ⟨λh=>?_,nd⟩,λa ha=>?_⟩
 ·obtain⟨A,C,r0,_,_,_⟩:=c.own
  rw[jo,jo]at r0
  obtain⟨v1,v2,B1,B2,e,rfl,h1,h2⟩:=R.split r0
  have l1:(ps.map (·.2)).length=v1.length:=by rw[<-h1.length];simp
  obtain⟨rfl,rfl⟩:=Ac e l1
  have g1:=h1.grow (ae.refl F) (ae.upd (o:=.lst (ps.map (·.2))) hp) λa ha=>(h1.lists a ha).2
  have:A1=B1:=R.inj r g1
  subst this
  obtain⟨⟨_,q⟩,_⟩:=h1.lists p h
  rw[hp]at q;cases q
 ·rcases bR.mp ha with rfl | h
  ·exact .inr hp
  ·exact .inl h
theorem aj.Uv(c:aj B F H σ δ (ps++ts))(hp:H p=none):aj B F (upd H p (.tup (ps.map (·.2)))) σ δ ((.tup (ps.map (·.1)),.ref p)::ts) :=
 c.pack (ae.upd hp) λA1 r nd=>⟨A1,by simpa using R.tup (F:=F) bC r .nil,nd,λa ha=>.inl ha⟩
theorem aj.perm(c:aj B F H σ δ ps)(h:ps.Perm ts):aj B F H σ δ ts:=by
 obtain⟨A,C,r,s,nd,fr⟩:=c.own
 obtain⟨A',r',p⟩:=r.perm h
 have pp:=p.append_right C
 exact⟨c.ext,c.b1,c.b2,c.b3,A',C,r',s,pp.nodup_iff.mp nd,λa ha=>fr a (pp.mem_iff.mpr ha)⟩
theorem aj.move(c:aj B F H σ δ ts)(e:δ[i]?=some (some d)):∃v,σ[i]?=some (some v)/\aj B F H σ (δ.set i none) ((d,v)::ts):=by
 obtain⟨A,C,r,s,nd,fr⟩:=c.own
 obtain⟨v,A',C',e1,h1,h2,p⟩:=s.pick e
 have pp:(A++C).Perm ((A'++A)++C'):=by
  refine(p.append_left A).trans ?_
  rw[<-dR]
  exact l7.append_right _
 exact⟨v,e1,c.ext,c.b1,c.b2,c.b3,A'++A,C',h1.cons r,h2,pp.nodup_iff.mp nd,λa ha=>fr a (pp.mem_iff.mpr ha)⟩
theorem aj.forget(c:aj B F H σ δ ts)(i:Nat):aj B F H σ (δ.set i none) ts:=by
 obtain⟨A,C,r,s,nd,fr⟩:=c.own
 obtain⟨C',h,sb⟩:=s.drop i
 exact⟨c.ext,c.b1,c.b2,c.b3,A,C',r,h,nd.sublist ((HE A).append sb),λa ha=>fr a (((HE A).append sb).subset ha)⟩
theorem aj.fill(c:aj B F H σ δ ((d,v)::ts))(e:δ[i]?=some none)(e2:σ[i]?=some (some v)):aj B F H σ (δ.set i (some d)) ts:=by
 obtain⟨A,C,r,s,nd,fr⟩:=c.own
 obtain⟨w,bN,A1,A2,e',rfl,h1,h2⟩:=R.cF r
 obtain⟨rfl,rfl⟩:=ku e'
 obtain⟨C',s',p⟩:=s.fill e e2 h1
 have pp:((A1++A2)++C).Perm (A2++C'):=by
  refine((l7 (l₁:=A1) (l₂:=A2)).append_right C).trans ?_
  rw[dR]
  exact(p.symm).append_left A2
 exact⟨c.ext,c.b1,c.b2,c.b3,A2,C',h2,s',pp.nodup_iff.mp nd,λa ha=>fr a (pp.mem_iff.mpr ha)⟩
theorem aj.uv(c:aj B F H σ δ ts)(o:Option V)(e:δ[i]?=some none\/δ[i]?=none):aj B F H (σ.set i o) δ ts:=by
 obtain⟨A,C,r,s,nd,fr⟩:=c.own
 exact⟨c.ext,c.b1,c.b2,c.b3,A,C,r,s.uv o e,nd,fr⟩
theorem aj.store(c:aj B F H σ δ ((d,v)::ts))(i:Nat):aj B F H (σ.set i (some v)) (δ.set i (some d)) ts:=by
 by_cases hi:i<δ.length
 ·have c1:=c.forget i
  have hs:i<σ.length:=by rw[<-c.len];exact hi
  have e:(δ.set i none)[i]?=some none:=by simp[hi]
  have c2:=(c1.uv (some v) (.inl e)).fill (i:=i) e (by simp[hs])
  rwa [HF]at c2
 ·have hs:¬ i<σ.length:=by rw[<-c.len];exact hi
  rw[Pq (by omega),Pq (by omega)]
  exact c.pop
theorem aj.mut(c:aj B F H σ δ (ps++ts))(e:δ[i]?=some (some (.lst true xs)))(e2:σ[i]?=some (some (.ref p)))
  (k:∀ws A1 A2,H p=some (.lst ws)->R F H xs ws A1->R F H (ps.map (·.1)) (ps.map (·.2)) A2->(A1++A2).Nodup->∃A',R F H ys vs A'/\A'.Nodup/\∀a∈A',a∈A1++A2) :
  aj B F (upd H p (.lst vs)) σ (δ.set i (some (.lst true ys))) ts:=by
 have hi:i<δ.length:=(ji.mp e).1
 obtain⟨v,e3,c1⟩:=c.move e
 rw[e2]at e3;cases e3
 obtain⟨A,C,r,s,nd,fr⟩:=c1.own
 have r':R F H (([.lst true xs]++ps.map (·.1))++ts.map (·.1)) ((.ref p::ps.map (·.2))++ts.map (·.2)) A:=by simpa using r
 obtain⟨v1,v2,A1,A2,e4,rfl,h1,h2⟩:=R.split r'
 have l1:(V.ref p::ps.map (·.2)).length=v1.length:=by rw[<-h1.length];simp
 obtain⟨rfl,rfl⟩:=Ac e4 l1
 obtain⟨p',uw,B1,B2,ep,hH,hF,hx,hr,rfl⟩:=h1.rv
 cases ep
 ·skip
  rw[dR]at nd fr
  obtain⟨n1,n2,n3⟩:=fK.mp nd
  obtain⟨m1,m2⟩:=iK.mp n1
  obtain⟨A',ra,Uw,sub⟩:=k uw B1 B2 hH hx hr m2
  have pA:p ∉ A':=λz=>m1 (sub _ z)
  have pR:p ∉ A2++C:=λz=>n3 p (by simp) z
  have but:eV [p] H (upd H p (.lst vs)):=⟨λa o q z _=>by rw[aS (by simpa using z)];exact q⟩
  have hl:fJ [p] H:=λa ha=>by rw[jl.mp ha];exact⟨_,hH⟩
  have g1:=ra.keep (ae.refl F) but hl (λa ha=>(ra.lists a ha).2) λa ha z=>pA (by rw[<-jl.mp z];exact ha)
  have g2:=h2.keep (ae.refl F) but hl (λa ha=>(h2.lists a ha).2) λa ha z=>pR (by rw[<-jl.mp z];exact eH _ ha)
  have gs:=s.keep (ae.refl F) but hl (λa ha=>(s.lists a ha).2) λa ha z=>pR (by rw[<-jl.mp z];exact dg _ ha)
  have fp:B.H0 p=none:=fr p (by simp)
  have b1:ae B.H0 (upd H p (.lst vs)):=⟨λa o q n=>by
   rw[aS (λz=>by rw[z,fp]at q;cases q)]
   exact c1.b1.get a o q n,λa ps q=>by
   rw[aS (λz=>by rw[z,fp]at q;cases q)]
   exact c1.b1.tb a ps q⟩
  have ext:ae F (upd H p (.lst vs)):=⟨λa o q n=>by
   rw[aS (λz=>by rw[z,hF]at q;cases q)]
   exact c1.ext.get a o q n,λa ps q=>by
   rw[aS (λz=>by rw[z,hF]at q;cases q)]
   exact c1.ext.tb a ps q⟩
  have c2:aj B F (upd H p (.lst vs)) σ (δ.set i none) ((.lst true ys,.ref p)::ts):=by
   refine⟨ext,b1,c1.b2,c1.b3,(p::A')++A2,C,R.cons (by simpa using R.own bC hF g1 .nil) g2,gs,?_,?_⟩
   ·rw[dR]
    refine fK.mpr ⟨iK.mpr ⟨pA,Uw⟩,n2,λa ha hb=>?_⟩
    rcases bR.mp ha with rfl | ha
    ·exact pR hb
    ·exact n3 a (dJ _ (sub a ha)) hb
   ·intro a ha
    rw[dR]at ha
    rcases cB.mp ha with z | z
    ·rcases bR.mp z with rfl | z
     ·exact fp
     ·exact fr a (eH _ (dJ _ (sub a z)))
    ·exact fr a (dg _ z)
  have c3:=c2.fill (i:=i) (by simp[hi]) e2
  rwa [HF]at c3
theorem aj.JX(c:aj B F H σ δ ((d,v)::ts)):∃F',ae F F'/\aj B F' H σ δ ((d.sh,v)::ts):=by
 obtain⟨A,C,r,s,nd,fr⟩:=c.own
 obtain⟨w,bN,A1,A2,e',rfl,h1,h2⟩:=R.cF r
 obtain⟨rfl,rfl⟩:=ku e'
 rw[dR]at nd fr
 obtain⟨n1,n2,n3⟩:=fK.mp nd
 have out:∀a∈A2++C,bc F H A1 a=F a:=λa ha=>nK λz=>n3 a z ha
 have b3:∀a o,bc F H A1 a=some (.lst o)->B.F0 a=some (.lst o)\/B.H0 a=none:=λa o q=>by
  by_cases z:a∈A1
  ·exact .inr (fr a (eH _ z))
  ·rw[nK z]at q;exact c.b3 a o q
 refine⟨bc F H A1,g5 c.ext,nJ c.ext,c.b1,c.b2.trans (g5 c.ext),b3,A2,C,?_,?_,n2,λa ha=>fr a (dg _ ha)⟩
 ·have g1:=h1.bc c.ext A1 (λ_ h=>h)
  exact R.cons (A:=[]) g1 (h2.keep (g5 c.ext) (eV.same (ae.refl H)) fJ.nil (λa ha=>by rw[out a (eH _ ha)];exact(h2.lists a ha).2) (by simp))
 ·exact s.keep (g5 c.ext) (eV.same (ae.refl H)) fJ.nil (λa ha=>by rw[out a (dg _ ha)];exact(s.lists a ha).2) (by simp)
theorem aj.freeze(c:aj B F H σ δ ts)(e:δ[i]?=some (some d)):∃F',ae F F'/\aj B F' H σ (δ.set i (some d.sh)) ts:=by
 have hi:i<δ.length:=(ji.mp e).1
 obtain⟨v,e2,c1⟩:=c.move e
 obtain⟨F',s,c2⟩:=c1.JX
 refine⟨F',s,?_⟩
 have c3:=c2.fill (i:=i) (by simp[hi]) e2
 rwa [HF]at c3
theorem aj.rebase(c:aj B F H σ δ ts):aj ⟨B.H0,F⟩ F H σ δ ts:=⟨c.ext,c.b1,ae.refl _,λ_ _ q=>.inl q,c.own⟩
theorem aj.Ux{F1:Hp}(c:aj ⟨B.H0,F1⟩ F H σ δ ts)(h:ae B.F0 F1)(h3:∀a ws,F1 a=some (.lst ws)->B.F0 a=some (.lst ws)\/B.H0 a=none):aj B F H σ δ ts :=
 ⟨c.ext,c.b1,h.trans c.b2,λa o q=>(c.b3 a o q).elim (h3 a o) .inr,c.own⟩
theorem aj.call(c:aj B F H σ δ ts)(hs:ae H H')(hf:ae F F')(he:ae F' H')(h3:∀a ws,F' a=some (.lst ws)->F a=some (.lst ws)\/H a=none)(r:R F' H' [d] [v] A)(nd:A.Nodup)(fr:∀a∈A,H a=none) :
  aj B F' H' σ δ ((d,v)::ts):=by
 obtain⟨A0,C,r0,s,Uy,Uz⟩:=c.own
 have no:∀a,(∃ws,H a=some (.lst ws))/\F a=none->F' a=none:=λa zz=>by
  obtain⟨⟨ws,e⟩,n⟩:=zz
  cases q:F' a with
  | none=>rfl
  | some o =>
   have q2:H' a=some o:=by
    cases n:gY o with
    | true=>exact he.get a o q n
    | false =>
     obtain⟨ps,rfl⟩:=BH n
     obtain⟨m,z⟩:=he.tb a ps q
     rw[hs a _ e]at z
     cases z
   rw[hs a _ e]at q2
   cases q2
   rcases h3 a ws q with z | z
   ·rw[n]at z;cases z
   ·rw[e]at z;cases z
 refine⟨he,c.b1.trans hs,c.b2.trans hf,λa o q=>(h3 a o q).elim (c.b3 a o) λz=>.inr (c.b1.free z),A++A0,C,R.cons r (r0.grow hf hs λa ha=>no a (r0.lists a ha)),
  s.keep hf (eV.same hs) fJ.nil (λa ha=>no a (s.lists a ha)) (by simp),?_,?_⟩
 ·rw[dR]
  refine fK.mpr ⟨nd,Uy,λa ha hb=>?_⟩
  have z:=fr a ha
  rcases cB.mp hb with y | y
  ·obtain⟨⟨_,q⟩,_⟩:=r0.lists a y;rw[z]at q;cases q
  ·obtain⟨⟨_,q⟩,_⟩:=s.lists a y;rw[z]at q;cases q
 ·intro a ha
  rw[dR]at ha
  rcases cB.mp ha with y | y
  ·exact c.b1.free (fr a y)
  ·exact Uz a y
theorem aj.UA(c:aj B F H σ δ ((d,v)::ts)):aj B F H (some v::σ) (some d::δ) ts:=by
 obtain⟨A,C,r,s,nd,fr⟩:=c.own
 obtain⟨w,bN,A1,A2,e',rfl,h1,h2⟩:=R.cF r
 obtain⟨rfl,rfl⟩:=ku e'
 have pp:((A1++A2)++C).Perm (A2++(A1++C)):=by
  rw[<-dR];exact l7.append_right C
 exact⟨c.ext,c.b1,c.b2,c.b3,A2,A1++C,h2,.dq h1 s,pp.nodup_iff.mp nd,λa ha=>fr a (pp.mem_iff.mpr ha)⟩
theorem aj.UB{w:V}(c:aj B F H (some w::σ) (some d::δ) ts):aj B F H σ δ ((d,w)::ts):=by
 obtain⟨A,C,r,s,nd,fr⟩:=c.own
 cases s with
 | @dq _ _ A1 _ _ C1 h1 s =>
  have pp:(A++(A1++C1)).Perm ((A1++A)++C1):=by
   rw[<-dR];exact l7.append_right C1
  exact⟨c.ext,c.b1,c.b2,c.b3,A1++A,C1,R.cons h1 r,s,pp.nodup_iff.mp nd,λa ha=>fr a (pp.mem_iff.mpr ha)⟩
theorem aj.UC(c:aj B F H σ δ ((d,v)::(.lst true xs,.ref p)::ts))(hp:H p=some (.lst ws)):aj B F (upd H p (.lst (ws++[v]))) σ δ ((.lst true (xs++[d]),.ref p)::ts):=by
 have c1:=(c.perm (List.Perm.swap _ _ _)).UA
 refine(aj.mut (ps:=[(d,v)]) (i:=0) (ys:=xs++[d]) (vs:=ws++[v]) c1 rfl rfl λeJ A1 A2 h r1 r2 nd=>?_).UB
 rw[hp]at h;cases h
 exact⟨A1++A2,r1.append r2,nd,λa ha=>ha⟩
theorem aj.app(c:aj B F H σ δ ((d,v)::ts))(e:δ[i]?=some (some (.lst true xs)))(e2:σ[i]?=some (some (.ref p)))(hp:H p=some (.lst ws)) :
  aj B F (upd H p (.lst (ws++[v]))) σ (δ.set i (some (.lst true (xs++[d])))) ts :=
 aj.mut (ps:=[(d,v)]) c e e2 λeJ A1 A2 h r1 r2 nd=>by
  rw[hp]at h;cases h
  exact⟨A1++A2,r1.append r2,nd,λa ha=>ha⟩
theorem R.JY:∀{xs:List D} {ws:List V} {A1 A2:List Addr} (j:Nat),R F H xs ws A1->R F H [d] [v] A2->(A1++A2).Nodup->∃A',R F H (xs.set j d) (ws.set j v) A'/\A'.Nodup/\∀a∈A',a∈A1++A2
 | [],_,A1,A2,j,r,q,nd=>by cases r;exact⟨[],.nil,by simp,by simp⟩
 | x::xs,_,A1,A2,j,r,q,nd=>by
  obtain⟨w,eJ,B1,B2,rfl,rfl,h1,h2⟩:=r.cF
  rw[dR]at nd
  obtain⟨n1,n2,n3⟩:=fK.mp nd
  cases j with
  | zero =>
   refine⟨A2++B2,q.cons h2,(l7 (l₁:=B2) (l₂:=A2)).nodup_iff.mp n2,λa ha=>?_⟩
   simp only[cB]at ha ⊢
   rcases ha with z | z
   ·exact .inr z
   ·exact .inl (.inr z)
  | succ j =>
   obtain⟨A',r',BK,sub⟩:=R.JY j h2 q n2
   refine⟨B1++A',h1.cons r',fK.mpr ⟨n1,BK,λa ha hb=>n3 a ha (sub a hb)⟩,λa ha=>?_⟩
   rcases cB.mp ha with z | z
   ·simp[z]
   ·have:=sub a z
    simp only[cB]at this ⊢
    rcases this with z | z
    ·exact .inl (.inr z)
    ·exact .inr z
theorem aj.JZ(c:aj B F H σ δ ((d,v)::ts))(e:δ[i]?=some (some (.lst true xs)))(e2:σ[i]?=some (some (.ref p)))(hp:H p=some (.lst ws))(j:Nat) :
  aj B F (upd H p (.lst (ws.set j v))) σ (δ.set i (some (.lst true (xs.set j d)))) ts :=
 aj.mut (ps:=[(d,v)]) c e e2 λeJ A1 A2 h r1 r2 nd=>by
  rw[hp]at h;cases h
  exact r1.JY j r2 nd
theorem aj.ownAt(c:aj B F H σ δ ts)(e:δ[i]?=some (some (.lst true xs))):∃p ws,σ[i]?=some (some (.ref p))/\H p=some (.lst ws)/\xs.length=ws.length:=by
 obtain⟨v,e1,s⟩:=c.look e
 cases s with
 | own h x _=>exact⟨_,_,e1,h,x.length⟩
theorem RS.start{ds:List D}{vs:List V}(r:R F H ds vs [])(n:Nat):RS F H (ds.map some++aK n none) (vs.map some++aK n none) []:=by
 have z:∀n,RS F H (aK n none) (aK n none) []:=λn=>by
  induction n with
  | zero=>exact .nil
  | succ n ih=>exact .ak ih
 have:∀(ds:List D) (vs:List V),R F H ds vs []->RS F H (ds.map some++aK n none) (vs.map some++aK n none) []:=by
  intro ds
  induction ds with
  | nil=>intro vs r;cases r;exact z n
  | cons d ds ih =>
   intro vs r
   obtain⟨v,bN,A1,A2,rfl,e,h1,h2⟩:=r.cF
   obtain⟨rfl,rfl⟩:=xi.mp e.symm
   exact .dq (A:=[]) h1 (ih _ h2)
 exact this ds vs r
theorem aj.start{ds:List D}{vs:List V}(e:ae F H)(r:R F H ds vs [])(n:Nat):aj ⟨H,F⟩ F H (vs.map some++aK n none) (ds.map some++aK n none) [] :=
 ⟨e,ae.refl _,ae.refl _,λ_ _ q=>.inl q,[],[],.nil,RS.start r n,by simp,by simp⟩
theorem aj.snap(c:aj B F H σ δ ts):aj B (L3.snap F H) H σ δ ts:=by
 obtain⟨A,C,r,s,nd,fr⟩:=c.own
 have no:∀a,(∃ws,H a=some (.lst ws))/\F a=none->L3.snap F H a=none:=λa ⟨⟨ws,e⟩,n⟩=>Ut e n
 exact⟨Ur c.ext,c.b1,c.b2.trans (nL c.ext),λa ws q=>c.b3 a ws (Us c.ext q),A,C,r.grow (nL c.ext) (ae.refl _) λa ha=>no a (r.lists a ha),
  s.keep (nL c.ext) (eV.same (ae.refl _)) fJ.nil (λa ha=>no a (s.lists a ha)) (by simp),nd,fr⟩
end
end L3
namespace L3
open PySem L2 PySem.Spec PyProof.Rows
noncomputable abbrev aB:=Dl->(D->Dl->Prop)->Prop
noncomputable abbrev eo:=Dl->(Bool->Dl->Prop)->Prop
noncomputable abbrev bX:=Dl->(List D->Dl->Prop)->Prop
structure qe where
 nx:Dl->Prop
 rt:D->Prop
 bk:Dl->Prop:=λ_=>False
 ct:Dl->Prop:=λ_=>False
 xc:Addr->Dl->Prop:=λ_ _=>False
 xr:Addr->Dl->Prop:=λ_ _=>False
noncomputable abbrev b9:=qe->Dl->Prop
noncomputable def lE(t:aB):TE:=λσ H Q=>∃B F δ ts Qd,aj B F H σ δ ts/\t δ Qd/\∀d ag v F' H',Qd d ag->ae F F'->ae H H'->aj B F' H' σ ag ((d,v)::ts)->Q v H'
noncomputable def lB(t:aB):TE:=λσ H Q=>∃B F δ ts Qd,aj B F H σ δ ts/\t δ Qd/\∀d ag v F' H',Qd d ag->ae F F'->ae H H'->aj B F' H' σ ag ts->S F' H' [d] [v]->Q v H'
noncomputable def lT(t:eo):TT:=λσ H Q=>∃B F δ ts Qd,aj B F H σ δ ts/\t δ Qd/\∀b ag F' H',Qd b ag->ae F F'->ae H H'->aj B F' H' σ ag ts->Q b H'
noncomputable def lA(t:bX):TA:=λσ H Q=>∃B F δ ts Qd,aj B F H σ δ ts/\t δ Qd/\∀ds ag vs F' H',Qd ds ag->ae F F'->ae H H'->aj B F' H' σ ag ts->S F' H' ds vs->Q vs H'
noncomputable def lO(t:bX):TA:=λσ H Q=>∃B F δ ts Qd,aj B F H σ δ ts/\t δ Qd/\∀(ps:List (D × V)) ag F' H',Qd (ps.map (·.1)) ag->ae F F'->ae H H'->aj B F' H' σ ag (ps++ts)->Q (ps.map (·.2)) H'
noncomputable def XL(X:Cx)(B:Bs)(Dd:qe):Prop :=
 (∀C ag pins ax F' H' s' a T,Dd.xc C ag->aj B F' H' ax ag []->Inv X pins ax H' s'->nF s'.heap a T (.ref C)->Apart X pins H' a->Apart X pins H' T->X.xe (.ref a) s') /\
 (∀C ag pins ax F' H' s' h' e vs,Dd.xr C ag->aj B F' H' ax ag []->Inv X pins ax H' s'->HD s'.heap h' e (.ref C) vs->X.xe (.ref e) { s' with heap:=h' })
theorem XL.none{X:Cx}{B:Bs}{Dd:qe}(h1:∀C δ,¬ Dd.xc C δ)(h2:∀C δ,¬ Dd.xr C δ):XL X B Dd:=⟨λC δ _ _ _ _ _ _ _ h=>absurd h (h1 C δ),λC δ _ _ _ _ _ _ _ _ h=>absurd h (h2 C δ)⟩
noncomputable def lS(X:Cx)(t:b9):TS:=λD σ H=>∃B F δ Dd,aj B F H σ δ []/\t Dd δ/\(∀ag ax F' H',Dd.nx ag->aj B F' H' ax ag []->D.nx ax H')/\(∀d v ag ax F' H',Dd.rt d->aj B F' H' ax ag [(d,v)]->D.rt v H') /\
 (∀ag ax F' H',Dd.bk ag->aj B F' H' ax ag []->D.bk ax H')/\(∀ag ax F' H',Dd.ct ag->aj B F' H' ax ag []->D.ct ax H')/\XL X B Dd
section
variable{X:Cx}{e a b c:Expr}{es:List Expr}{pos:Pos}{st:Stmt}{uz:List Stmt}
theorem cS{t t':TE}(h:PE X e t)(m:∀σ H Q,t' σ H Q->t σ H Q):PE X e t':=λpins s σ H Q I q=>h pins s σ H Q I (m σ H Q q)
theorem BM{t t':TT}(h:PT X e t)(m:∀σ H Q,t' σ H Q->t σ H Q):PT X e t':=λpins s σ H Q I q=>h pins s σ H Q I (m σ H Q q)
theorem J0{t t':TT}(h:PW X e t)(m:∀σ H Q,t' σ H Q->t σ H Q):PW X e t':=λwh pins s σ H Q I q=>h wh pins s σ H Q I (m σ H Q q)
theorem uA{t t':TA}(h:PA X es t)(m:∀σ H Q,t' σ H Q->t σ H Q):PA X es t':=λp pins s σ H Q I q=>h p pins s σ H Q I (m σ H Q q)
theorem iZ{t t':TS}(h:PS X st t)(m:∀D σ H,t' D σ H->t D σ H):PS X st t':=λpins s σ H D I q=>h pins s σ H D I (m D σ H q)
theorem BN{t t':TS}(h:PSs X uz t)(m:∀D σ H,t' D σ H->t D σ H):PSs X uz t':=λpins s σ H D I q=>h pins s σ H D I (m D σ H q)
variable{t u ta tb tc:aB}
theorem ah(h:PE X e (lE t)):PE X e (lB t):=cS h λσ H Q zq=>by
 obtain⟨B,F,δ,ts,Qd,c,q,k⟩:=zq
 exact⟨B,F,δ,ts,Qd,c,q,λd ag v F' H' hd sf sh c'=>k d ag v F' H' hd sf sh c'.pop c'.top⟩
noncomputable def nM(t:aB):aB:=λδ Q=>t δ λd ag=>d.pl=true/\Q d ag
theorem eE(h:PE X e (lB t)):PE X e (lE (nM t)):=cS h λσ H Q zq=>by
 obtain⟨B,F,δ,ts,Qd,c,q,k⟩:=zq
 exact⟨B,F,δ,ts,_,c,q,λd ag v F' H' hd sf sh c' s=>k d ag v F' H' hd.2 sf sh (c'.pushS s hd.1)⟩
noncomputable def mx(i:Nat):aB:=λδ Q=>match δ[i]? with
 | some (some d)=>Q d δ
 | _=>False
noncomputable def my(i:Nat):aB:=λδ Q=>match δ[i]? with
 | some (some d)=>Q d (δ.set i none)
 | _=>False
theorem UD{i:Nat}{δ:Dl}{Q:D->Dl->Prop}(h:mx i δ Q):∃d,δ[i]?=some (some d)/\Q d δ:=by
 unfold mx at h
 split at h
 ·rename_i d e;exact⟨d,e,h⟩
 ·exact h.elim
theorem UE{i:Nat}{δ:Dl}{Q:D->Dl->Prop}(h:my i δ Q):∃d,δ[i]?=some (some d)/\Q d (δ.set i none):=by
 unfold my at h
 split at h
 ·rename_i d e;exact⟨d,e,h⟩
 ·exact h.elim
noncomputable def dC(d:D):aB:=λδ Q=>Q d δ
theorem bv(i:Nat){x:Str}(hN:X.N[i]?=some x:=by rfl)(hv:ju X.env.scope x:=by first | exact av rfl | exact bw (av rfl) | exact bw (bw rfl))(hd:(x==("__debug__":Str))=false:=by decide)
  (bS:(x==("__classdict__":Str))=false:=by decide):PE X (.Name x pos) (lB (mx i)):=cS (mh hN hv hd bS) λσ H Q zq=>by
 obtain⟨B,F,δ,ts,Qd,c,q,k⟩:=zq
 obtain⟨d,e,q⟩:=UD q
 obtain⟨v,e1,s⟩:=c.look e
 exact⟨v,e1,k d δ v F H q (ae.refl _) (ae.refl _) c s⟩
theorem em(i:Nat){x:Str}(hN:X.N[i]?=some x:=by rfl)(hv:ju X.env.scope x:=by first | exact av rfl | exact bw (av rfl) | exact bw (bw rfl))(hd:(x==("__debug__":Str))=false:=by decide)
  (bS:(x==("__classdict__":Str))=false:=by decide):PE X (.Name x pos) (lE (my i)):=cS (mh hN hv hd bS) λσ H Q zq=>by
 obtain⟨B,F,δ,ts,Qd,c,q,k⟩:=zq
 obtain⟨d,e,q⟩:=UE q
 obtain⟨v,e1,c'⟩:=c.move e
 exact⟨v,e1,k d _ v F H q (ae.refl _) (ae.refl _) c'⟩
theorem uB{B:Bs}{F H:Hp}{σ:L2.St}{δ:Dl}{ts:List (D × V)}{Qd:D->Dl->Prop}{Q:VK}{d:D}{v:V}(c:aj B F H σ δ ts)(q:Qd d δ)(s:S F H [d] [v])(p:d.pl=true)
  (k:∀d ag v F' H',Qd d ag->ae F F'->ae H H'->aj B F' H' σ ag ((d,v)::ts)->Q v H'):Q v H:=k d δ v F H q (ae.refl _) (ae.refl _) (c.pushS s p)
theorem ay{i j}:PE X (.Constant (.int i) j pos) (lE (dC (.int i))):=cS pM λσ H Q ⟨B,F,δ,ts,Qd,c,q,k⟩=>uB c q (.int .nil) rfl k
theorem qf{i j}:PE X (.Constant (.bool i) j pos) (lE (dC (.bl i))):=cS Qa λσ H Q ⟨B,F,δ,ts,Qd,c,q,k⟩=>uB c q (.bl .nil) rfl k
theorem J1{j}:PE X (.Constant .none j pos) (lE (dC .ak)):=cS Qb λσ H Q ⟨B,F,δ,ts,Qd,c,q,k⟩=>uB c q (.ak .nil) rfl k
theorem J2{x j}:PE X (.Constant (.str x) j pos) (lE (dC (.str x))):=cS Qc λσ H Q ⟨B,F,δ,ts,Qd,c,q,k⟩=>uB c q (.str .nil) rfl k
theorem UG{x:Str}{i:Int}{tk:Tok}(hg:Gl X x)(hm:X.mg x=some (.int i tk))(hd:(x==("__debug__":Str))=false:=by decide):PE X (.Name x pos) (lE (dC (.int i))) :=
 cS (Qe (v:=.int i) hg hm ⟨_,rfl⟩ hd) λσ H Q ⟨B,F,δ,ts,Qd,c,q,k⟩=>uB c q (.int .nil) rfl k
noncomputable abbrev ck:=D->D->(D->Prop)->Prop
noncomputable def yn(r:R2)(rd:ck):Prop:=∀{B:Bs} {F H:Hp} {σ:L2.St} {δ:Dl} {ts:List (D × V)} {x y:D} {v w:V} {Q:VK} {Qd:D->Prop},aj B F H σ δ ts->S F H [x] [v]->S F H [y] [w]->rd x y Qd ->
 (∀d z H',Qd d->ae H H'->aj B F H' σ δ ((d,z)::ts)->Q z H')->r v w H Q
noncomputable def bG(X:Cx)(f:Value->Value->Sem Value)(rd:ck):Prop:=∃r,bW X f r/\yn r rd
theorem bG.or{f:Value->Value->Sem Value}{r1 r2:ck}(h1:bG X f r1)(h2:bG X f r2):bG X f λx y Q=>r1 x y Q\/r2 x y Q:=by
 obtain⟨q1,a1,b1⟩:=h1
 obtain⟨q2,a2,b2⟩:=h2
 refine⟨_,a1.or a2,λ{B F H σ δ ts x y v w Q Qd} c sx sy h k=>?_⟩
 rcases h with h | h
 ·exact .inl (b1 c sx sy h k)
 ·exact .inr (b2 c sx sy h k)
theorem bG.imp{f:Value->Value->Sem Value}{r1 r2:ck}(h1:bG X f r1)(h:∀x y Q,r2 x y Q->r1 x y Q):bG X f r2:=by
 obtain⟨q1,a1,b1⟩:=h1
 exact⟨q1,a1,λ{B F H σ δ ts x y v w Q Qd} c sx sy h2 k=>b1 c sx sy (h _ _ _ h2) k⟩
noncomputable def kP(rd:ck)(ta tb:aB):aB:=λδ Q=>ta δ λx ai=>tb ai λy aJ=>rd x y λd=>Q d aJ
theorem BO{r:R2}{rd:ck}(hl:yn r rd):∀σ H Q,lE (kP rd ta tb) σ H Q->tY r (lB ta) (lB tb) σ H Q:=λσ H Q ⟨B,F,δ,ts,Qd,c,q,k⟩ =>
 ⟨B,F,δ,ts,_,c,q,λx ai v F1 H1 q1 f1 h1 c1 s1=>⟨B,F1,ai,ts,_,c1,q1,λy aJ w F2 H2 q2 f2 h2 c2 s2 =>
  hl c2 (s1.mono f2 h2) s2 q2 λd z H' hd hs c3=>k d aJ z F2 H' hd (f1.trans f2) ((h1.trans h2).trans hs) c3⟩⟩
theorem aL{op:Operator}{rd:ck}(ho:bG X (binaryOp op) rd)(ha:PE X a (lB ta))(hb:PE X b (lB tb)):PE X (.BinOp a op b pos) (lE (kP rd ta tb)):=by
 obtain⟨r,h1,h2⟩:=ho
 exact cS (by4 h1 ha hb) (BO h2)
theorem BP{op:CmpOp}{rd:ck}(ho:bG X (compareOp op) rd)(ha:PE X a (lB ta))(hb:PE X b (lB tb))(hm:behindInMarks op b=false):PE X (.Compare a [op] [b] pos) (lE (kP rd ta tb)):=by
 obtain⟨r,h1,h2⟩:=ho
 exact cS (Rm h1 ha hb hm) (BO h2)
noncomputable def dT(t:aB):eo:=λδ Q=>t δ λd ag=>∃k,d=.bl k/\Q k ag
theorem UH{te:TE}(h:∀σ H Q,lE t σ H Q->te σ H Q):∀σ H Q,lT (dT t) σ H Q->IA te σ H Q:=λσ H Q zz=>by
 obtain⟨B,F,δ,ts,Qd,c,q,k⟩:=zz
 refine h σ H _ ⟨B,F,δ,ts,_,c,q,λd ag v F' H' hd sf sh c'=>?_⟩
 obtain⟨b,rfl,qb⟩:=hd
 have s:=c'.top
 cases s with
 | bl _=>exact⟨b,rfl,k b ag F' H' qb sf sh c'.pop⟩
theorem et{op:CmpOp}{rd:ck}(ho:bG X (compareOp op) rd)(ha:PE X a (lB ta))(hb:PE X b (lB tb))(hm:behindInMarks op b=false):PT X (.Compare a [op] [b] pos) (lT (dT (kP rd ta tb))):=by
 obtain⟨r,h1,h2⟩:=ho
 exact BM (Rn h1 ha hb hm) (UH (BO h2))
noncomputable def nN(r r':ck)(ta tb tc:aB):aB:=λδ Q=>ta δ λx ai=>tb ai λy aJ=>r x y λd=>∃k,d=.bl k/\if k=true then tc aJ λz gy=>r' y z λd'=>Q d' gy else Q (.bl false) aJ
theorem uC(h:PE X e (lB t))(he:∀whole,isTrue e X.env whole=(do let v<-whole;standAt e.pos;holding [v] (truthy v)):=by intro _;rfl):PT X e (lT (dT t)) :=
 BM (AJ h he) λσ H Q zq=>by
 obtain⟨B,F,δ,ts,Qd,c,q,k⟩:=zq
 exact⟨B,F,δ,ts,_,c,q,λd ag v F' H' hd sf sh c' s=>by
  obtain⟨b,rfl,qb⟩:=hd
  cases s with
  | bl _=>exact⟨b,rfl,k b ag F' H' qb sf sh c'⟩⟩
variable{tA tB:eo}{rest:List Expr}
noncomputable def qg(t u:eo):eo:=λδ Q=>t δ λc ai=>if c=true then u ai Q else Q false ai
noncomputable def qh(t u:eo):eo:=λδ Q=>t δ λc ai=>if c=true then Q true ai else u ai Q
noncomputable def qi(t:eo):eo:=λδ Q=>t δ λc ai=>Q (!c) ai
theorem UI(ha:PT X a (lT tA))(hb:PW X (.BoolOp .And (b::rest) pos) (lT tB)):PW X (.BoolOp .And (a::b::rest) pos) (lT (qg tA tB)) :=
 J0 (Ql ha hb) λσ H Q zq=>by
 obtain⟨B,F,δ,ts,Qd,c,q,k⟩:=zq
 exact⟨B,F,δ,ts,_,c,q,λb ai F1 H1 q1 f1 h1 c1=>by
  cases b with
  | true=>exact mn ⟨B,F1,ai,ts,Qd,c1,by simpa using q1,λb ag F' H' hd sf sh c'=>k b ag F' H' hd (f1.trans sf) (h1.trans sh) c'⟩
  | false=>exact jA (k false ai F1 H1 (by simpa using q1) f1 h1 c1)⟩
theorem UJ(ha:PT X a (lT tA))(hb:PW X (.BoolOp .Or (b::rest) pos) (lT tB)):PW X (.BoolOp .Or (a::b::rest) pos) (lT (qh tA tB)) :=
 J0 (Qm ha hb) λσ H Q zq=>by
 obtain⟨B,F,δ,ts,Qd,c,q,k⟩:=zq
 exact⟨B,F,δ,ts,_,c,q,λb ai F1 H1 q1 f1 h1 c1=>by
  cases b with
  | true=>exact mn (k true ai F1 H1 (by simpa using q1) f1 h1 c1)
  | false=>exact jA ⟨B,F1,ai,ts,Qd,c1,by simpa using q1,λb ag F' H' hd sf sh c'=>k b ag F' H' hd (f1.trans sf) (h1.trans sh) c'⟩⟩
theorem BQ(ha:PT X a (lT tA)):PT X (.UnaryOp .Not a pos) (lT (qi tA)) :=
 BM (AK ha) λσ H Q zq=>by
 obtain⟨B,F,δ,ts,Qd,c,q,k⟩:=zq
 exact⟨B,F,δ,ts,_,c,q,λb ai F1 H1 q1 f1 h1 c1=>k _ ai F1 H1 q1 f1 h1 c1⟩
noncomputable def qj(ta tb:aB):aB:=λδ Q=>ta δ λx ai=>∃c,x=.bl c/\if c=true then tb ai Q else Q (.bl false) ai
noncomputable def qk(ta:aB):aB:=λδ Q=>ta δ λx ai=>∃c,x=.bl c/\Q (.bl (!c)) ai
theorem uD(ha:PE X a (lB ta))(hb:PE X (.BoolOp .And (b::rest) pos) (lE tb)):PE X (.BoolOp .And (a::b::rest) pos) (lE (qj ta tb)) :=
 cS (Qp ha hb) λσ H Q zq=>by
 obtain⟨B,F,δ,ts,Qd,c,q,k⟩:=zq
 exact⟨B,F,δ,ts,_,c,q,λd ai v F1 H1 q1 f1 h1 c1 s1=>by
  obtain⟨b,rfl,qb⟩:=q1
  cases s1 with
  | bl _ =>
   refine⟨b,rfl,?_⟩
   cases b with
   | true=>exact mn ⟨B,F1,ai,ts,Qd,c1,by simpa using qb,λd ag v F' H' hd sf sh c'=>k d ag v F' H' hd (f1.trans sf) (h1.trans sh) c'⟩
   | false=>exact jA (k _ ai _ F1 H1 (by simpa using qb) f1 h1 (c1.pushS (.bl .nil) rfl))⟩
theorem UK(ha:PE X a (lB ta)):PE X (.UnaryOp .Not a pos) (lE (qk ta)) :=
 cS (Qq ha) λσ H Q zq=>by
 obtain⟨B,F,δ,ts,Qd,c,q,k⟩:=zq
 exact⟨B,F,δ,ts,_,c,q,λd ai v F1 H1 q1 f1 h1 c1 s1=>by
  obtain⟨b,rfl,qb⟩:=q1
  cases s1 with
  | bl _=>exact⟨b,rfl,k _ ai _ F1 H1 qb f1 h1 (c1.pushS (.bl .nil) rfl)⟩⟩
noncomputable def ql(t:eo)(ta tb:aB):aB:=λδ Q=>t δ λc ai=>if c=true then ta ai Q else tb ai Q
theorem UL(hc:PT X c (lT tA))(ha:PE X a (lE ta))(hb:PE X b (lE tb)):PE X (.IfExp c a b pos) (lE (ql tA ta tb)) :=
 cS (Qs hc ha hb) λσ H Q zq=>by
 obtain⟨B,F,δ,ts,Qd,c,q,k⟩:=zq
 exact⟨B,F,δ,ts,_,c,q,λb ai F1 H1 q1 f1 h1 c1=>by
  cases b with
  | true=>exact mn ⟨B,F1,ai,ts,Qd,c1,by simpa using q1,λd ag v F' H' hd sf sh c'=>k d ag v F' H' hd (f1.trans sf) (h1.trans sh) c'⟩
  | false=>exact jA ⟨B,F1,ai,ts,Qd,c1,by simpa using q1,λd ag v F' H' hd sf sh c'=>k d ag v F' H' hd (f1.trans sf) (h1.trans sh) c'⟩⟩
noncomputable def nO:bX:=λδ Q=>Q [] δ
noncomputable def nQ(t:aB)(r:bX):bX:=λδ Q=>t δ λd ai=>r ai λds aJ=>Q (d::ds) aJ
theorem aP:PA X [] (lA nO):=uA dU λσ H Q ⟨B,F,δ,ts,Qd,c,q,k⟩=>k [] δ [] F H q (ae.refl _) (ae.refl _) c .nil
variable{tr:bX}
theorem ao(ha:PE X e (lB t))(hr:PA X es (lA tr))(hs:starEach (e::es) X.env=(false,eval e X.env)::starEach es X.env:=by rfl):PA X (e::es) (lA (nQ t tr)) :=
 uA (cn ha hr hs) λσ H Q zq=>by
 obtain⟨B,F,δ,ts,Qd,c,q,k⟩:=zq
 exact⟨B,F,δ,ts,_,c,q,λd ai v F1 H1 q1 f1 h1 c1 s1=>⟨B,F1,ai,ts,_,c1,q1,λds aJ vs F2 H2 q2 f2 h2 c2 s2 =>
  k (d::ds) aJ (v::vs) F2 H2 q2 (f1.trans f2) (h1.trans h2) c2 ((s1.mono f2 h2).cons s2)⟩⟩
theorem eW:PA X [] (lO nO):=uA dU λσ H Q ⟨B,F,δ,ts,Qd,c,q,k⟩=>k [] δ F H q (ae.refl _) (ae.refl _) c
theorem fi(ha:PE X e (lE t))(hr:PA X es (lO tr))(hs:starEach (e::es) X.env=(false,eval e X.env)::starEach es X.env:=by rfl):PA X (e::es) (lO (nQ t tr)) :=
 uA (cn ha hr hs) λσ H Q zq=>by
 obtain⟨B,F,δ,ts,Qd,c,q,k⟩:=zq
 exact⟨B,F,δ,ts,_,c,q,λd ai v F1 H1 q1 f1 h1 c1=>⟨B,F1,ai,(d,v)::ts,_,c1,q1,λps aJ F2 H2 q2 f2 h2 c2 =>
  k ((d,v)::ps) aJ F2 H2 q2 (f1.trans f2) (h1.trans h2) (c2.perm (List.perm_middle))⟩⟩
noncomputable def qm(t:bX):aB:=λδ Q=>t δ λds ag=>ds.length<=sizeLine/\Q (.lst true ds) ag
noncomputable def qo(t:bX):aB:=λδ Q=>t δ λds ag=>ds.length<=sizeLine/\Q (.tup ds) ag
theorem gz(h:PA X es (lO tr)):PE X (.List es pos) (lE (qm tr)) :=
 cS (RY h) λσ H Q zq=>by
 obtain⟨B,F,δ,ts,Qd,c,q,k⟩:=zq
 exact⟨B,F,δ,ts,_,c,q,λps ai F1 H1 q1 f1 h1 c1=>⟨by simpa using q1.1,λp hp=>k _ ai _ F1 _ q1.2 f1 (h1.trans (ae.upd hp)) (c1.Uu hp)⟩⟩
theorem BR{x1}(h:PA X es (lO tr)):PE X (.Tuple es x1 pos) (lE (qo tr)) :=
 cS (RX h) λσ H Q zq=>by
 obtain⟨B,F,δ,ts,Qd,c,q,k⟩:=zq
 exact⟨B,F,δ,ts,_,c,q,λps ai F1 H1 q1 f1 h1 c1=>⟨by simpa using q1.1,λp hp=>k _ ai _ F1 _ q1.2 f1 (h1.trans (ae.upd hp)) (c1.Uv hp)⟩⟩
end
end L3
namespace L3
open PySem L2 PySem.Spec PyProof.Rows
noncomputable abbrev bx:=List D->(D->Prop)->Prop
noncomputable def bB(sp:bx):Sp:=λvs H Q _=>∃F ds Qd,ae F H/\R F H ds vs []/\sp ds Qd/\∀d v F' H' A,Qd d->ae H H'->ae F F'->ae F' H'->(∀a ws,F' a=some (.lst ws)->F a=some (.lst ws)\/H a=none)->R F' H' [d] [v] A->A.Nodup->(∀a∈A,H a=none)->Q v H'
noncomputable def nR(sp:bx)(t:bX):aB:=λδ Q=>t δ λds ag=>sp (ds.map D.sh) λd=>(ds.all D.pl||d.fr)=true/\Q d ag
theorem uE{B:Bs}{F H:Hp}{σ:L2.St}{δ:Dl}{ts:List (D × V)}{Qd:D->Prop}{Q:VK}{E:XK}{ds:List D}{vs:List V}{sp:bx}(c:aj B F H σ δ ts)(s:S F H ds vs)(q:sp (ds.map D.sh) λd=>(ds.all D.pl||d.fr)=true/\Qd d)
  (k:∀d v F' H',Qd d->ae F F'->ae H H'->aj B F' H' σ δ ((d,v)::ts)->Q v H'):bB sp vs H Q E:=by
 by_cases hp:ds.all D.pl=true
 ·rw[j4 hp]at q
  exact⟨F,ds,_,c.ext,s.r hp,q,λd v F' H' A hd hs hf he h3 r nd fr=>k d v F' H' hd.2 hf hs (c.call hs hf he h3 r nd fr)⟩
 ·refine⟨H,ds.map D.sh,_,ae.refl _,s.frozen c.ext,q,λd v F' H' A hd hs hf he h3 r nd fr=>?_⟩
  have dz:d.fr=true:=by
   have:=hd.1
   rw[Bool.or_eq_true]at this
   exact this.resolve_left hp
  exact k d v F H' hd.2 (ae.refl _) hs (c.BL hs (r.p9 (by simp[dz]) (c.ext.trans hf)) nd fr)
section
variable{X:Cx}{CX:dm}{n:Nat}{f:Addr}{fd:FuncData}{ps:List Str}{sp:bx}{E:XK}{x:Str}{p pos:Pos}{e:Expr}{es:List Expr}{t:bX}
theorem cH(F:aQ X.prog X.w X.K X.mg X.base CX n f fd ps (bB sp))(hr:bM n X.A)(hg:Gl X x)(hm:X.mg x=some (.ref f))(hk:PySem.W.keepIn X.K (.ref f)=true)(hb:Binds X.K fd ps [])(hx:iV CX X E)
  (ha:PA X (e::es) (lA t)) (cW:(x==("__debug__":Str))=false:=by decide) (he:starEach (e::es) X.env=(false,eval e X.env)::starEach es X.env:=by rfl) (bD:(backTo pos (starEach es X.env)).any (·.1)=false:=by rfl) :
  PE X (.Call (.Name x p) (e::es) [] pos) (lE (nR sp t)) :=
 cS (iW F hr hg hm hk hb .nil hx ha cW he bD) λσ H Q zq=>by
 obtain⟨B,F,δ,ts,Qd,c,q,k⟩:=zq
 exact⟨B,F,δ,ts,_,c,q,λds ai vs F1 H1 q1 f1 h1 c1 s1=>by
  show bB sp (vs++[]) H1 Q E
  rw[e7]
  exact uE c1 s1 q1 λd v F' H' hd hf hs c'=>k d ai v F' H' hd (f1.trans hf) (h1.trans hs) c'⟩
end
noncomputable def jE(N:List Str)(ds:List D):Dl:=ds.map some++aK (N.length-ds.length) none
section
variable{P:Program}{w:World}{K:PySem.W.Frag}{mg:Str->Option Value}{base:Heap}
theorem cm{x qual:Str}{st:Stmt}{f:Addr}{fd:FuncData}{N ps:List Str}{k:Nat}{sp:bx}(F:aH K x qual st f fd)(S:bq N ps (aM st))(len:∀ds Q,sp ds Q->ds.length=ps.length)
  (fg:∀(aA:Value) (A:Around) (outer:List Env) (s:Shared) (H:Hp) (E:XK),bM k (A.deeper (envOfC qual (aM st) s.heap.objs.size f aA)) ->
   ∃t:b9,PSs (gu aX P w K mg base N qual (aM st) f aA A outer s H E).eI (dY st) (lS (gu aX P w K mg base N qual (aM st) f aA A outer s H E).eI t)/\∀ds Q,sp ds Q->t { nx:=λ_=>Q .ak,rt:=Q } (jE N ds)):aQ P w K mg base aX (k+1) f fd ps (bB sp):=by
 refine F.ok S (λvs H Q E ⟨F,ds,Qd,e,r,h,_⟩=>by rw[<-r.length];exact len ds Qd h) λaA A outer s H vs Q E hr zz=>?_
 obtain⟨F,ds,Qd,e,r,h,k⟩:=zz
 obtain⟨t,ht,hq⟩:=fg aA A outer s H E hr
 have fin:∀d v ag ax F' H',Qd d->aj ⟨H,F⟩ F' H' ax ag [(d,v)]->Q v H':=λd v ag ax F' H' hd c=>by
  obtain⟨A,C,r',s',nd,fr⟩:=c.own
  exact k d v F' H' A hd c.b1 c.b2 c.ext c.b3 r' (fK.mp nd).1 λa ha=>fr a (eH _ ha)
 have e1:L2.start N vs=vs.map some++aK (N.length-ds.length) none:=by unfold L2.start;rw[r.length]
 refine⟨_,ht,⟨H,F⟩,F,jE N ds,_,?_,hq ds Qd h,λag ax F' H' hd c=>fin .ak .ak ag ax F' H' hd (c.pushS (.ak .nil) rfl),fin,λ_ _ _ _ z=>z.elim,λ_ _ _ _ z=>z.elim,XL.none (λ_ _ z=>z) λ_ _ z=>z⟩
 rw[e1]
 exact aj.start e r _
end
section
variable{X:Cx}{e a b c:Expr}{es:List Expr}{pos:Pos}{st:Stmt}{uz rest:List Stmt}{t u:b9}{te:aB}{tt:eo}
noncomputable def qp:b9:=λD δ=>D.nx δ
noncomputable def J3(t u:b9):b9:=λD δ=>t { D with nx:=u D } δ
theorem aN{t u:b9}{En:qe}{δ:Dl}(h:∀U:Dl->Prop,(∀ag,u En ag->U ag)->t { En with nx:=U } δ):J3 t u En δ:=h (u En) λ_ z=>z
theorem fj:PSs X [] (lS X qp):=BN xS λD σ H ⟨B,F,δ,Dd,c,q,k1,_⟩=>k1 δ σ F H q c
theorem aO(h1:PS X st (lS X t))(h2:PSs X rest (lS X u)):PSs X (st::rest) (lS X (J3 t u)) :=
 BN (dS h1 h2) λD σ H zq=>by
 obtain⟨B,F,δ,Dd,c,q,k1,k2,k3,k4⟩:=zq
 exact⟨B,F,δ,{ Dd with nx:=u Dd },c,q,λag ax F' H' hq c'=>⟨B,F',ag,Dd,c',hq,k1,k2,k3,k4⟩,k2,k3,k4⟩
theorem aT(h1:PS X st (lS X t)):PSs X [st] (lS X t):=kD h1
theorem UM:PS X st (lS X λ_ _=>False):=iZ xU λD σ H ⟨_,_,_,_,_,q,_⟩=>q.elim
noncomputable def nS(i:Nat)(t:b9):b9:=λD δ=>∃d,δ[i]?=some (some d)/\t D (δ.set i (some d.sh))
theorem J4(i:Nat)(h:PSs X uz (lS X t)):PSs X uz (lS X (nS i t)):=BN h λD σ H zz=>by
 obtain⟨B,F,δ,Dd,c,⟨d,e,q⟩,k⟩:=zz
 obtain⟨F',s,c'⟩:=c.freeze e
 exact⟨B,F',_,Dd,c',q,k⟩
noncomputable def qq(i:Nat)(t:aB):b9:=λD δ=>t δ λd ag=>D.nx (ag.set i (some d))
theorem bo{i:Nat}{x:Str}{pos':Pos}(hN:X.N.Nodup)(hi:X.N[i]?=some x)(hx:Loc X.env.scope x)(he:PE X e (lE te))(hs:swapsWith e (some (.Name x pos')) pos.line X.env=pure false:=by rfl)
  (hf:X.fn x=true\/X.env.scope.names.lookup x=some .local:=by first | exact .inl rfl | exact .inr rfl | assumption):PS X (.Assign [.Name x pos'] e pos) (lS X (qq i te)) :=
 iZ (AO hN hi hx he hs hf) λD σ H zq=>by
 obtain⟨B,F,δ,Dd,c,q,k1,k2,k3,k4⟩:=zq
 exact⟨B,F,δ,[],_,c,q,λd ag v F' H' hd sf sh c'=>k1 _ _ F' H' hd (c'.store i)⟩
noncomputable def qt(t:aB):b9:=λD δ=>t δ λd _=>D.rt d
theorem bA(he:PE X e (lE te)):PS X (.Return (some e) pos) (lS X (qt te)) :=
 iZ (Qy he) λD σ H zq=>by
 obtain⟨B,F,δ,Dd,c,q,k1,k2,k3,k4⟩:=zq
 exact⟨B,F,δ,[],_,c,q,λd ag v F' H' hd sf sh c'=>k2 d v ag σ F' H' hd c'⟩
noncomputable def qu(tc:eo)(t u:b9):b9:=λD δ=>tc δ λb ag=>if b=true then t D ag else u D ag
theorem fk{l r:List Stmt}(hc:PT X c (lT tt))(ha:PSs X l (lS X t))(hb:PSs X r (lS X u)):PS X (.If c l r pos) (lS X (qu tt t u)) :=
 iZ (xT hc ha hb) λD σ H zq=>by
 obtain⟨B,F,δ,Dd,c,q,k⟩:=zq
 exact⟨B,F,δ,[],_,c,q,λb ag F' H' hq sf sh c'=>by
  cases b with
  | true=>exact mn ⟨B,F',ag,Dd,c',by simpa using hq,k⟩
  | false=>exact jA ⟨B,F',ag,Dd,c',by simpa using hq,k⟩⟩
noncomputable def qv(i:Nat)(rd:ck)(t:aB):b9:=λD δ=>∃x,δ[i]?=some (some x)/\t δ λy ai=>rd x y λz=>D.nx (ai.set i (some z))
theorem uF{i:Nat}{x:Str}{op:Operator}{rd:ck}{pos':Pos}(hN:X.N.Nodup)(hi:X.N[i]?=some x)(hx:Loc X.env.scope x)(he:PE X e (lB te))(ho:bG X (inplaceOp op) rd)
  (hf:X.fn x=true\/X.env.scope.names.lookup x=some .local:=by first | exact .inl rfl | exact .inr rfl | assumption):PS X (.AugAssign (.Name x pos') op e pos) (lS X (qv i rd te)):=by
 obtain⟨r,h1,h2⟩:=ho
 refine iZ (QL hN hi hx he (ti:=r) h1 hf) λD σ H zz=>?_
 obtain⟨B,F,δ,Dd,c,⟨d0,e0,q⟩,k1,k2,k3,k4⟩:=zz
 obtain⟨v0,e1,s0⟩:=c.look e0
 exact⟨v0,e1,B,F,δ,[],_,c,q,λd ag v F' H' hd sf sh c' s=>h2 c' (s0.mono sf sh) s hd λz w H2 hz h3 c3=>k1 _ _ F' H2 hz (c3.store i)⟩
noncomputable def qw(tc:eo)(tb:b9):b9:=λD δ=>∃W:Nat->Dl->Prop,(∃m,W m δ)/\∀m δ,W m δ->tc δ λb ag=>if b=true then tb { D with nx:=λag=>∃m',m'<m/\W m' ag,ct:=λag=>∃m',m'<m/\W m' ag,bk:=D.nx } ag else D.nx ag
theorem BS{body:List Stmt}(hp:PassesOwn (model X.prog X.w) X.A X.env X.xe)(hc:PT X c (lT tt))(hb:PSs X body (lS X t)):PS X (.While c body [] pos) (lS X (qw tt t)) :=
 iZ (QT hp hc hb) λD σ H zz=>by
  obtain⟨B,F,δ,Dd,c,⟨W,⟨m0,w0⟩,hw⟩,k1,k2,k3,k4⟩:=zz
  refine⟨λm σ H=>∃F δ,aj B F H σ δ []/\W m δ,⟨m0,F,δ,c,w0⟩,λm σ H ⟨F,δ,c,w⟩=>⟨B,F,δ,[],_,c,hw m δ w,λb ag F' H' hq sf sh c'=>?_⟩⟩
  cases b with
  | true =>
   refine mn ⟨λax H'=>∃m',m'<m/\∃F δ,aj B F H' ax δ []/\W m' δ,λax H' z=>z,B,F',ag,{ Dd with nx:=λag=>∃m',m'<m/\W m' ag,ct:=λag=>∃m',m'<m/\W m' ag,bk:=Dd.nx },c',by simpa using hq,λaJ jW F2 H2 ⟨m',hm,w2⟩ c2=>⟨m',hm,F2,aJ,c2,w2⟩,k2,λaJ jW F2 H2 z c2=>k1 aJ jW F2 H2 z c2,λaJ jW F2 H2 ⟨m',hm,w2⟩ c2=>⟨m',hm,F2,aJ,c2,w2⟩,k4.2⟩
  | false=>exact jA (k1 ag σ F' H' (by simpa using hq) c')
end
structure JD(J:It)(F:Hp)(xs:List D):Prop where
 go:∀i H,ae F H->i<xs.length->J.go i H
 iU:∀i H x H',ae F H->i<xs.length->J.iU i H x H'->∃d,xs[i]?=some d/\ae H H'/\R F H' [d] [x] []
 stop:∀i H,ae F H->xs.length<=i->J.stop i H
noncomputable abbrev g6:=Dl->(Bool->List D->Dl->Prop)->Prop
noncomputable def lI(t:g6):TI:=λσ H Rr=>∃B F δ ts Qd,aj B F H σ δ ts/\t δ Qd/\∀g xs ag J F' H',Qd g xs ag->ae F F'->ae H H'->aj B F' H' σ ag ts->JD J H' (xs.map D.sh)->(g=true->xs.all D.pl=true/\JD J F' xs)->Rr J H'
noncomputable abbrev fL:=D->Dl->(Dl->Prop)->Prop
noncomputable def lG(m:Nat)(t:fL):TG:=λv σ H Q=>∃B F δ ts d Qd,aj B F H σ δ ((d,v)::ts)/\t d δ Qd/\∀ag ax,Qd ag->ax.length=σ.length->(∀j,j<m->ax[j]?=σ[j]?)->aj B F H ax ag ts->Q ax H
noncomputable def i3:D->Option (List D)
 | .lst _ xs=>some xs
 | .fz xs=>some xs
 | _=>none
section
variable{B:Bs}{F H F1:Hp}{σ:L2.St}{δ:Dl}{ts:List (D × V)}
end
section
variable{X:Cx}{e a b c tg l iter:Expr}{es:List Expr}{pos:Pos}{t u:b9}{te:aB}{tt:eo}{ta:bX}{m:Nat}
theorem qy{w w':TI}(h:PI X tg iter w)(m:∀σ H Q,w' σ H Q->w σ H Q):PI X tg iter w':=λpins s σ H Q I q=>h pins s σ H Q I (m σ H Q q)
theorem J5{w w':TG}(h:PG X tg w)(m:∀v σ H Q,w' v σ H Q->w v σ H Q):PG X tg w':=λpins s σ H v u Q I r q=>h pins s σ H v u Q I r (m v σ H Q q)
noncomputable def gN(i:Nat):fL:=λd δ Q=>Q (δ.set i (some d))
theorem du{i:Nat}{x:Str}(hN:X.N.Nodup)(hi:X.N[i]?=some x)(hx:Loc X.env.scope x)(hm:m<=i:=by decide)(hf:X.fn x=true\/X.env.scope.names.lookup x=some .local:=by first | exact .inl rfl | exact .inr rfl | assumption):PG X (.Name x pos) (lG m (gN i)) :=
 J5 (xX hN hi hx hf) λv σ H Q ⟨B,F,δ,ts,d,Qd,c,q,k⟩=>k _ _ q (by simp) (λj hj=>by rw[o7 (by omega)]) (c.store i)
theorem kQ{K:PySem.W.Frag}{F H:Hp}{p:Addr}{xs:List D}{ws:List V}(hp:Rd F p (.lst ws))(r:R F H xs ws [])(hF:Full F H):JD (AR K p) F xs where
 go:=λi H' hs hi=>by
  have l:=r.length
  have gW:i<ws.length:=by omega
  exact⟨ws,ws[i],.inl (gx hp hs),aR gW⟩
 iU:=λi H' x H2 hs hi zz=>by
  obtain⟨e,y⟩:=zz
  subst e
  have hx:=y ws (.inl (gx hp hs))
  obtain⟨v,A1,e2,r1,sub⟩:=(r.full hF hs rfl).get (aR hi)
  rw[hx]at e2;cases e2
  have:A1=[]:=Pr.mpr λa ha=>by simpa using sub ha
  subst this
  exact⟨_,aR hi,ae.refl _,r1⟩
 stop:=λi H' hs hi=>⟨ws,.inl (gx hp hs),by have:=r.length;omega⟩
theorem yo{F:Hp}(lo:Int)(n:Nat):JD (tT lo n) F ((au n).map λ(k:Nat)=>D.int (lo+(k:Int))) where
 go:=λi H' hs hi=>by
  have gW:i<n:=by simpa using hi
  exact gW
 iU:=λi H' x H2 hs hi zz=>by
  obtain⟨e,y⟩:=zz
  subst e y
  have gW:i<n:=by simpa using hi
  exact⟨.int (lo+i),by simp[ky gW],ae.refl _,.int .nil⟩
 stop:=λi H' hs hi=>by
  have gW:n<=i:=by simpa using hi
  exact gW
noncomputable def qA(t:aB):g6:=λδ Q=>t δ λd ag=>∃xs,i3 d=some xs/\Q true (xs.map D.sh) ag
theorem UN(xs:List D){F H:Hp}{ws:List V}(r:R F H (xs.map D.sh) ws []):(xs.map D.sh).map D.sh=xs.map D.sh:=j4 r.pl
theorem BU(h:PE X l (lE te)):PI X tg l (lI (qA te)) :=
 qy (Iw h) λσ H Q zq=>by
 obtain⟨B,F,δ,ts,Qd,c,q,k⟩:=zq
 exact⟨B,F,δ,ts,_,c,q,λd ai v F1 H1 hd f1 h1 c1=>by
  obtain⟨xs,e,hq⟩:=hd
  obtain⟨F2,f2,c2⟩:=c1.JX
  have tp:=c2.top
  have c3:=c2.pop.snap
  have e2:=c2.ext
  have sn:=nL e2
  cases d with
  | lst o ys =>
   obtain rfl:=cN e
   rw[dZ]at tp
   cases tp with
   | @shr p ws _ _ _ hp r _ =>
    have r3:=r.shared sn (ae.refl _)
    refine⟨p,rfl,⟨ws,bz.of (e2 _ _ hp)⟩,k true _ ai _ _ H1 hq ((f1.trans f2).trans sn) h1 c3 ?_ λ_=>⟨r.pl,kQ (.inl (sn _ _ hp)) r3 qa⟩⟩
    rw[UN _ r]
    exact kQ (.inl (e2 _ _ hp)) (r.shared e2 (ae.refl _)) (Full.refl _)
  | fz ys =>
   obtain rfl:=cN e
   cases tp with
   | @fz p o ws _ _ _ hp r _ =>
    have r3:=r.shared sn (ae.refl _)
    have es:=j4 r.pl
    rw[es]at hq
    refine⟨p,rfl,⟨ws,.inl (.inr ⟨o,e2 _ _ hp⟩)⟩,k true _ ai _ _ H1 hq ((f1.trans f2).trans sn) h1 c3 ?_ λ_=>⟨r.pl,kQ (.inr ⟨o,sn _ _ hp⟩) r3 qa⟩⟩
    rw[es]
    exact kQ (.inr ⟨o,e2 _ _ hp⟩) (r.shared e2 (ae.refl _)) (Full.refl _)
  | ak=>cases e
  | bl _=>cases e
  | int _=>cases e
  | str _=>cases e
  | tup _=>cases e
  | obj _ _ _=>cases e
  | bt _=>cases e⟩
noncomputable def qB(t:aB):g6:=λδ Q=>t δ λd ag=>∃xs,i3 d=some xs/\Q d.pl xs ag
theorem nU(h:PE X l (lB te)):PI X tg l (lI (qB te)) :=
 qy (Iw h) λσ H Q zq=>by
 obtain⟨B,F,δ,ts,Qd,c,q,k⟩:=zq
 exact⟨B,F,δ,ts,_,c,q,λd ai v F1 H1 hd f1 h1 c1 s=>by
  obtain⟨xs,e,hq⟩:=hd
  have c3:=c1.snap
  have e2:=c1.ext
  have sn:=nL e2
  cases s with
  | @shr p ws ys _ _ hp r _ =>
   obtain rfl:=cN e
   refine⟨p,rfl,⟨ws,bz.of (e2 _ _ hp)⟩,k _ _ ai _ _ H1 hq (f1.trans sn) h1 c3 ?_ λ_=>⟨r.pl,kQ (.inl (sn _ _ hp)) (r.shared sn (ae.refl _)) qa⟩⟩
   rw[j4 r.pl]
   exact kQ (.inl (e2 _ _ hp)) (r.shared e2 (ae.refl _)) (Full.refl _)
  | @own p ws ys _ _ hp r _ =>
   obtain rfl:=cN e
   refine⟨p,rfl,⟨ws,bz.of hp⟩,k _ _ ai _ _ H1 hq (f1.trans sn) h1 c3 (kQ (.inl hp) (r.frozen e2) (Full.refl _)) λz=>by simp[gZ]at z⟩
  | @fz p o ws ys _ _ hp r _ =>
   obtain rfl:=cN e
   refine⟨p,rfl,⟨ws,.inl (.inr ⟨o,e2 _ _ hp⟩)⟩,k _ _ ai _ _ H1 hq (f1.trans sn) h1 c3 ?_ λ_=>⟨r.pl,kQ (.inr ⟨o,sn _ _ hp⟩) (r.shared sn (ae.refl _)) qa⟩⟩
   rw[j4 r.pl]
   exact kQ (.inr ⟨o,e2 _ _ hp⟩) (r.shared e2 (ae.refl _)) (Full.refl _)
  | ak _=>cases e
  | bl _=>cases e
  | int _=>cases e
  | str _=>cases e
  | tup _ _ _=>cases e
  | obj _ _ _ _=>cases e
  | bt _ _=>cases e⟩
theorem uG(f:Nat->Int)(l:List Nat):(l.map λk=>D.int (f k)).map D.sh=l.map λk=>D.int (f k):=by simp[D.sh]
theorem J6(f:Nat->Int)(l:List Nat):(l.map λk=>D.int (f k)).all D.pl=true:=by simp[D.pl]
noncomputable def qC(t:bX):g6:=λδ Q=>t δ λds ag=>∃j:Int,ds=[.int j]/\(-(2 ^ 62)<=j/\j<2 ^ 62)/\Q true ((au j.toNat).map λ(k:Nat)=>D.int (0+(k:Int))) ag
theorem jF{p:Pos}(hg:Gl X "range")(hm:X.mg "range"=none)(ha:PA X [a] (lA ta))(hs:starEach [a] X.env=[(false,eval a X.env)]:=by rfl):PI X tg (.Call (.Name "range" p) [a] [] pos) (lI (qC ta)) :=
 qy (QZ hg hm ha hs) λσ H Q zq=>by
 obtain⟨B,F,δ,ts,Qd,c,q,k⟩:=zq
 exact⟨B,F,δ,ts,_,c,q,λds ai vs F1 H1 hd f1 h1 c1 s=>by
  obtain⟨j,rfl,⟨b1,b2⟩,hq⟩:=hd
  cases s with
  | int s =>
   cases s
   refine⟨j,rfl,b1,b2,k true _ ai _ _ H1 hq f1 h1 c1 ?_ λ_=>⟨J6 _ _,yo 0 _⟩⟩
   rw[uG]
   exact yo 0 _⟩
noncomputable def qD(t:bX):g6:=λδ Q=>t δ λds ag=>∃i j:Int,ds=[.int i,.int j]/\(-(2 ^ 62)<=i/\i<2 ^ 62/\-(2 ^ 62)<=j/\j<2 ^ 62)/\Q true ((au (j-i).toNat).map λ(k:Nat)=>D.int (i+(k:Int))) ag
theorem yp{p:Pos}(hg:Gl X "range")(hm:X.mg "range"=none)(ha:PA X [a,b] (lA ta))(hs:starEach [a,b] X.env=[(false,eval a X.env),(false,eval b X.env)]:=by rfl)(fC:starEach [b] X.env=[(false,eval b X.env)]:=by rfl) :
  PI X tg (.Call (.Name "range" p) [a,b] [] pos) (lI (qD ta)) :=
 qy (Q0 hg hm ha hs fC) λσ H Q zq=>by
 obtain⟨B,F,δ,ts,Qd,c,q,k⟩:=zq
 exact⟨B,F,δ,ts,_,c,q,λds ai vs F1 H1 hd f1 h1 c1 s=>by
  obtain⟨i,j,rfl,bd,hq⟩:=hd
  cases s with
  | int s =>
   cases s with
   | int s =>
    cases s
    refine⟨i,j,rfl,bd,k true _ ai _ _ H1 hq f1 h1 c1 ?_ λ_=>⟨J6 _ _,yo i _⟩⟩
    rw[uG]
    exact yo i _⟩
noncomputable def iz(xs:List D)(g:fL)(tb:b9):b9:=λEn ai=>∃Iv:Nat->Dl->Prop,Iv 0 ai /\
 (∀i d ag,xs[i]?=some d->Iv i ag->g d ag λaJ=>tb { En with nx:=Iv (i+1),ct:=Iv (i+1),bk:=En.nx } aJ)/\∀ag,Iv xs.length ag->En.nx ag
theorem iz.mk{xs:List D}{g:fL}{tb:b9}{En:qe}{δ:Dl}(Iv:Nat->Dl->Prop)(h0:Iv 0 δ)(ht:∀i d ag,xs[i]?=some d->Iv i ag->g d ag λaJ=>tb { En with nx:=Iv (i+1),ct:=Iv (i+1),bk:=En.nx } aJ)
  (hf:∀ag,Iv xs.length ag->En.nx ag):iz xs g tb En δ:=⟨Iv,h0,ht,hf⟩
noncomputable def qE(ti:g6)(g:fL)(tb:b9):b9:=λEn δ=>ti δ λsh xs ai=>sh=true/\iz xs g tb En ai
theorem gA{ti:g6}{g:fL}{body:List Stmt}(hp:PassesOwn (model X.prog X.w) X.A X.env X.xe)(hc:X.calm=true)(hi:PI X tg iter (lI ti))(hg:PG X tg (lG 0 g))(hb:PSs X body (lS X t))
  (hs:∀x,foldedSetIterable iter X.env x=pure x:=by intro _;rfl):PS X (.For tg iter body [] pos) (lS X (qE ti g t)) :=
 iZ (Q3 hp hc hi hg hb hs) λEn σ H zq=>by
 obtain⟨B,F,δ,Dd,c,q,k1,k2,k3,k4⟩:=zq
 exact⟨B,F,δ,[],_,c,q,λsh xs ai J F1 H1 hq f1 h1 c1 _ jd=>by
  obtain⟨ud,Iv,i0,turn,fin⟩:=hq
  obtain⟨bD,jd⟩:=jd ud
  have un:∀{F' H':Hp} {ax:L2.St} {ag:Dl} {ts:List (D × V)},aj ⟨B.H0,F1⟩ F' H' ax ag ts->aj B F' H' ax ag ts:=λc'=>c'.Ux c1.b2 c1.b3
  refine⟨λi m σ H=>m=xs.length-i/\i<=xs.length/\∃F δ,aj ⟨B.H0,F1⟩ F H σ δ []/\Iv i δ,⟨_,rfl,mW _,F1,ai,c1.rebase,i0⟩,?_⟩
  rintro i m jW H2 ⟨rfl,hi,F2,aJ,c2,iv⟩
  have s2:ae F1 H2:=c2.b2.trans c2.ext
  by_cases fh:i<xs.length
  ·refine .inr ⟨jd.go i H2 s2 fh,λax H'=>∃F δ,aj ⟨B.H0,F1⟩ F H' ax δ []/\Iv (i+1) δ,λax H' z=>⟨xs.length-(i+1),by omega,rfl,fh,z⟩,λx H3 y=>?_⟩
   obtain⟨d,e,s3,r⟩:=jd.iU i H2 x H3 s2 fh y
   have c3:=(c2.grow s3).pushS (d:=d) (v:=x) ((r.s).mono c2.b2 (ae.refl _)) (by have:=r.pl;simpa using this)
   refine⟨⟨B.H0,F1⟩,F2,aJ,[],d,_,c3,turn i d aJ e iv,λag ax hq _ _ c4=>?_⟩
   exact⟨⟨B.H0,F1⟩,F2,ag,_,c4,hq,λiA kR F5 H5 h5 c5=>⟨F5,iA,c5,h5⟩,λd5 v5 iA kR F5 H5 h5 c5=>k2 d5 v5 iA kR F5 H5 h5 (un c5),λiA kR F5 H5 h5 c5=>k1 iA kR F5 H5 h5 (un c5),λiA kR F5 H5 h5 c5=>⟨F5,iA,c5,h5⟩,⟨λC iA pins kR F5 H5 s5 a T h5 c5=>k4.2.1 C iA pins kR F5 H5 s5 a T h5 (un c5),λC iA pins kR F5 H5 s5 h' e vs h5 c5=>k4.2.2 C iA pins kR F5 H5 s5 h' e vs h5 (un c5)⟩⟩
  ·have e:i=xs.length:=by omega
   subst e
   exact .inl ⟨jd.stop _ H2 s2 (bI _),k1 aJ jW F2 H2 (fin aJ iv) (un c2)⟩⟩
end
end L3
namespace L3
open PySem L2 PySem.Spec PyProof.Rows
noncomputable def iB(δ:Dl)(q:Str × Nat):Option D:=(δ[q.2]?).getD none
noncomputable def g7(δ:Dl)(q:Str × Nat):Bool:=match iB δ q with
 | some d=>d.pl
 | none=>true
noncomputable def eK(aq:List (Str × Nat))(n:Nat)(δ:Dl):Dl:=(aq.map λq=>(iB δ q).map D.sh)++aK n none
noncomputable def qF(sh:Bool)(xs:List D)(aq:List (Str × Nat))(n:Nat)(g:fL)(tt:eo)(te:aB)(ai:Dl)(Q:D->Dl->Prop):Prop:=∃(p:D->Bool) (f:D->D),
 (∀x∈xs.map D.sh,g x (eK aq n ai) λaJ=>tt aJ λb gy=>b=p x/\(p x=true->te gy λd _=>d=f x)) /\
 ((sh&&aq.all (g7 ai))=true\/∀x∈xs.map D.sh,p x=true->(f x).fr=true)/\xs.length<=sizeLine/\Q (.lst true (((xs.map D.sh).filter p).map f)) ai
noncomputable def nV(ti:g6)(aq:List (Str × Nat))(n:Nat)(g:fL)(tt:eo)(te:aB):aB:=λδ Q=>ti δ λsh xs ai=>qF sh xs aq n g tt te ai Q
noncomputable def j5:eo:=λδ Q=>Q true δ
theorem UO{sh:Bool}{xs:List D}{aq:List (Str × Nat)}{n m:Nat}{te:aB}{ai:Dl}{Q:D->Dl->Prop}(f:D->D)(hx:∀x∈xs.map D.sh,te ((eK aq n ai).set m (some x)) λd _=>d=f x)
  (dz:(sh&&aq.all (g7 ai))=true\/∀x∈xs.map D.sh,(f x).fr=true) (hl:xs.length<=sizeLine) (hq:Q (.lst true ((xs.map D.sh).map f)) ai):qF sh xs aq n (gN m) j5 te ai Q :=
 ⟨λ_=>true,f,λx h=>⟨rfl,λ_=>hx x h⟩,dz.imp id λh x hx _=>h x hx,hl,by rw[Pt.mpr (λ_ _=>rfl)];exact hq⟩
section
variable{B:Bs}{F H:Hp}{σ:L2.St}{δ:Dl}{ts:List (D × V)}
theorem J7(c:aj B F H σ δ ts)(n:Nat):∀(aq:List (Str × Nat)),aq.all (g7 δ)=true->RS F H (eK aq n δ) (fI aq n σ) []
 | [],_=>by
  have z:∀n,RS F H (aK n none) (aK n none) []:=λn=>by
   induction n with
   | zero=>exact .nil
   | succ n ih=>exact .ak ih
  exact z n
 | q::r,h=>by
  rw[dh,di]at h
  have ih:=J7 c n r h.2
  show RS F H ((iB δ q).map D.sh::eK r n δ) ((σ[q.2]?).getD none::fI r n σ) []
  cases e:iB δ q with
  | none=>exact .ak ih
  | some d =>
   have e2:δ[q.2]?=some (some d):=by
    unfold iB at e
    cases z:δ[q.2]? with
    | none=>rw[z]at e;cases e
    | some o=>rw[z]at e;exact congrArg some e
   have hp:d.pl=true:=by have:=h.1;unfold g7 at this;rw[e]at this;exact this
   obtain⟨v,e3,s⟩:=c.look e2
   rw[e3]
   show RS F H (some d.sh::_) (some v::_) []
   rw[D.ym hp]
   exact .dq (A:=[]) (s.r (by simp[hp])) ih
theorem J8(c:aj B F H σ δ ts)(n:Nat):∀(aq:List (Str × Nat)),RS H H (eK aq n δ) (fI aq n σ) []
 | []=>by
  have z:∀n,RS H H (aK n none) (aK n none) []:=λn=>by
   induction n with
   | zero=>exact .nil
   | succ n ih=>exact .ak ih
  exact z n
 | q::r=>by
  have ih:=J8 c n r
  show RS H H ((iB δ q).map D.sh::eK r n δ) ((σ[q.2]?).getD none::fI r n σ) []
  cases e:iB δ q with
  | none=>exact .ak ih
  | some d =>
   have e2:δ[q.2]?=some (some d):=by
    unfold iB at e
    cases z:δ[q.2]? with
    | none=>rw[z]at e;cases e
    | some o=>rw[z]at e;exact congrArg some e
   obtain⟨v,e3,s⟩:=c.look e2
   rw[e3]
   exact .dq (A:=[]) (s.frozen c.ext) ih
theorem J9{α:Type}(xs:List α)(p:α->Bool)(i:Nat)(x:α)(h:xs[i]?=some x):(xs.take (i+1)).filter p=(xs.take i).filter p++(if p x=true then [x]else []):=by
 rw[sZ,h,List.filter_append]
 simp only[Option.toList_some]
 by_cases hp:p x=true<;>simp[hp]
end
section
variable{X:Cx}{elt iter tg:Expr}{pos:Pos}{ifs:List Expr}{scope:Scope}{cl:List (Str × Addr)}{ti:g6}{tt:eo}{te:aB}{g:fL}
theorem Ka{B:Bs}{F1 H1:Hp}{σ:L2.St}{ai:Dl}{ts:List (D × V)}{J:It}{Qd:D->Dl->Prop}{Q:VK}{xs:List D}{sh:Bool}{aq:List (Str × Nat)}{n:Nat}(c1:aj B F1 H1 σ ai ts)
  (nW:JD J H1 (xs.map D.sh)) (uH:sh=true->xs.all D.pl=true/\JD J F1 xs) (p:D->Bool) (f:D->D)
  (hx:∀x∈xs.map D.sh,g x (eK aq n ai) λaJ=>tt aJ λb gy=>b=p x/\(p x=true->te gy λd _=>d=f x))
  (dz:(sh&&aq.all (g7 ai))=true\/∀x∈xs.map D.sh,p x=true->(f x).fr=true) (hlen:xs.length<=sizeLine) (hq:Qd (.lst true (((xs.map D.sh).filter p).map f)) ai)
  (k:∀d ag v F' H',Qd d ag->ae F1 F'->ae H1 H'->aj B F' H' σ ag ((d,v)::ts)->Q v H'):JJ J aq n (lG aq.length g) (lT tt) (lE te) σ H1 Q:=by
 intro Dp hD
 have cD:aj B F1 (upd H1 Dp (.lst [])) σ ai ((.lst true [],.ref Dp)::ts):=c1.mw hD .nil rfl
 refine⟨λi m acc H2=>m=xs.length-i/\i<=xs.length/\H2 Dp=some (.lst acc)/\ae H1 H2/\acc.length<=i/\∃F2,ae F1 F2 /\
  aj B F2 H2 σ ai ((.lst true ((((xs.map D.sh).take i).filter p).map f),.ref Dp)::ts),⟨xs.length,rfl,mW _,bC,ae.upd hD,bI _,F1,ae.refl _,by simpa using cD⟩,?_⟩
 rintro i m acc H2 ⟨rfl,hi,BV,uI,UP,F2,kS,c2⟩
 refine⟨BV,?_⟩
 by_cases fh:i<xs.length
 case neg =>
  have e:i=xs.length:=by omega
  subst e
  refine .inl ⟨nW.stop _ H2 uI (by simp),k _ ai _ F2 H2 ?_ kS uI c2⟩
  have:(xs.map D.sh).take xs.length=xs.map D.sh:=by rw[Ad (by simp)]
  rw[this]
  exact hq
 case pos =>
  refine .inr ⟨nW.go i H2 uI (by simpa using fh),λx H3 y=>?_⟩
  obtain⟨d0,e0,BW,r0⟩:=nW.iU i H2 x H3 uI (by simpa using fh) y
  have Kb:d0∈xs.map D.sh:=pd e0
  have Ke:H3 Dp=some (.lst acc):=BW _ _ BV
  have c3:=c2.grow BW
  have BX:=uI.trans BW
  refine⟨Ke,?_⟩
  have j6:=hx d0 Kb
  have turn:∀Fi,ae Fi H3->RS Fi H3 (eK aq n ai) (fI aq n σ) []->S Fi H3 [d0] [x]->d0.pl=true ->
    (∀d v F' H' A,d=f d0->p d0=true->ae H3 H'->ae Fi F'->ae F' H'->(∀a ws,F' a=some (.lst ws)->Fi a=some (.lst ws)\/H3 a=none)->R F' H' [d] [v] A->A.Nodup->(∀a∈A,H3 a=none) ->
     ∃F4,ae F2 F4/\aj B F4 H' σ ai ((d,v)::(.lst true ((((xs.map D.sh).take i).filter p).map f),.ref Dp)::ts)) ->
    lG aq.length g x (fI aq n σ) H3 λff H4 =>
     (ff.length=(fI aq n σ).length/\∀j,j<aq.length->ff[j]?=(fI aq n σ)[j]?)/\lT tt ff H4 λb H5=>H5 Dp=some (.lst acc) /\
     if b=true then lE te ff H5 λy H6=>H6 Dp=some (.lst acc)/\acc.length<sizeLine/\∃m',m'<xs.length-i /\
      (m'=xs.length-(i+1)/\i+1<=xs.length/\upd H6 Dp (.lst (acc++[y])) Dp=some (.lst (acc++[y]))/\ae H1 (upd H6 Dp (.lst (acc++[y])))/\(acc++[y]).length<=i+1/\∃F2,ae F1 F2 /\
       aj B F2 (upd H6 Dp (.lst (acc++[y]))) σ ai ((.lst true ((((xs.map D.sh).take (i+1)).filter p).map f),.ref Dp)::ts))
     else ∃m',m'<xs.length-i/\(m'=xs.length-(i+1)/\i+1<=xs.length/\H5 Dp=some (.lst acc)/\ae H1 H5/\acc.length<=i+1/\∃F2,ae F1 F2 /\
       aj B F2 H5 σ ai ((.lst true ((((xs.map D.sh).take (i+1)).filter p).map f),.ref Dp)::ts)):=by
   intro Fi UQ UR hS bD back
   have ci:aj ⟨H3,Fi⟩ Fi H3 (fI aq n σ) (eK aq n ai) []:=⟨UQ,ae.refl _,ae.refl _,λ_ _ q=>.inl q,[],[],.nil,UR,by simp,by simp⟩
   refine⟨⟨H3,Fi⟩,Fi,eK aq n ai,[],d0,_,ci.pushS hS bD,j6,λag ff US l1 k1 c4=>⟨⟨l1,k1⟩,⟨H3,Fi⟩,Fi,ag,[],_,c4,US,λb iA F5 H5 hb f5 h5 c5=>?_⟩⟩
   obtain⟨hb,ht⟩:=hb
   have yq:H5 Dp=some (.lst acc):=h5 _ _ Ke
   refine⟨yq,?_⟩
   by_cases hp:p d0=true
   ·rw[hb,hp]
    refine mn ⟨⟨H3,Fi⟩,F5,iA,[],_,c5,ht hp,λd δ6 v F6 H6 hd f6 h6 c6=>?_⟩
    have Kf:H6 Dp=some (.lst acc):=h6 _ _ yq
    obtain⟨A,C,r,s,nd,fr⟩:=c6.own
    obtain⟨F4,uJ,c7⟩:=back d v F6 H6 A hd hp c6.b1 c6.b2 c6.ext c6.b3 r (fK.mp nd).1 λa ha=>fr a (eH _ ha)
    have c8:=c7.UC Kf
    refine⟨Kf,by omega,xs.length-(i+1),by omega,rfl,fh,bC,?_,by simpa using UP,F4,kS.trans uJ,?_⟩
    ·have Kg:=BX.trans c6.b1
     exact⟨λa o q n=>by rw[aS (dk q hD)];exact Kg.get a o q n,λa ps q=>by rw[aS (dk q hD)];exact Kg.tb a ps q⟩
    ·have e9:(((xs.map D.sh).take (i+1)).filter p).map f=(((xs.map D.sh).take i).filter p).map f++[d]:=by
      rw[J9 _ p i d0 e0,hp,hd];simp
     rw[e9]
     exact c8
   ·have uK:p d0=false:=by simpa using hp
    rw[hb,uK]
    refine jA ⟨xs.length-(i+1),by omega,rfl,fh,yq,BX.trans h5,by omega,F2,kS,?_⟩
    have e9:(((xs.map D.sh).take (i+1)).filter p).map f=(((xs.map D.sh).take i).filter p).map f:=by
     rw[J9 _ p i d0 e0,uK];simp
    rw[e9]
    exact c3.grow h5
  by_cases hA:(sh&&aq.all (g7 ai))=true
  ·rw[di]at hA
   obtain⟨bD,jd⟩:=uH hA.1
   have ud:=j4 bD
   rw[ud]at e0
   obtain⟨d1,e1,_,r1⟩:=jd.iU i H2 x H3 (kS.trans c2.ext) fh y
   rw[e0]at e1;cases e1
   have UT:d0.pl=true:=by have:=r1.pl;simpa using this
   refine turn F2 c3.ext (J7 c3 n aq hA.2) ((r1.s).mono kS (ae.refl _)) UT λd v F' H' A hd hp hs hf he h3 r nd fr=>⟨F',hf,c3.call hs hf he h3 r nd fr⟩
  ·have UU:=dz.resolve_left hA
   refine turn H3 (ae.refl _) (J8 c3 n aq) ((r0.shared BX (ae.refl _)).s) (by have:=r0.pl;simpa using this) λd v F' H' A hd hp hs hf he h3 r nd fr=>⟨F2,ae.refl _,?_⟩
   exact c3.BL hs (r.p9 (by rw[hd];simp[UU d0 Kb hp]) (c3.ext.trans hf)) nd fr
theorem g8{Y:Cx}:kK Y [] (lT j5):=λ_ _ _ H _ I ⟨B,F,δ,ts,Qd,c,q,k⟩=>TF _ _ _ H _ I (k true δ F H q (ae.refl _) (ae.refl _) c)
theorem Kh{Y:Cx}{c:Expr}(h:PT Y c (lT tt)):kK Y [c] (lT tt):=TH h
end
end L3
namespace L3
open PySem L2 PySem.Spec PyProof.Rows
section
variable{X:Cx}{F H:Hp}{v w:V}
noncomputable def l2(rd:ck):R2:=λv w H Q=>∃B F σ δ ts x y Qd,aj B F H σ δ ts/\S F H [x] [v]/\S F H [y] [w]/\rd x y Qd/\∀d z H',Qd d->ae H H'->aj B F H' σ δ ((d,z)::ts)->Q z H'
theorem bG.of{f:Value->Value->Sem Value}{rd:ck}(h:bW X f (l2 rd)):bG X f rd:=⟨_,h,λ{B F H σ δ ts x y v w Q Qd} c sx sy q k=>⟨B,F,σ,δ,ts,x,y,Qd,c,sx,sy,q,k⟩⟩
theorem qG{f:Value->Value->Sem Value}{C:Int->Int->Prop}{g:Int->Int->V}{gd:Int->Int->D}(ho:bW X f (rI C g))(hg:∀i j F H,S F H [gd i j] [g i j])(hp:∀i j,(gd i j).pl=true):bG X f λx y Q=>∃i j,x=.int i/\y=.int j/\C i j/\Q (gd i j) :=
 ⟨_,ho,λ{B F H σ δ ts x y v w Q Qd} c sx sy h k=>by
  obtain⟨i,j,rfl,rfl,hc,q⟩:=h
  cases sx;cases sy
  exact⟨i,j,rfl,rfl,hc,k _ _ _ q (ae.refl _) (c.pushS (hg i j F H) (hp i j))⟩⟩
theorem j7{f:Value->Value->Sem Value}{g:Int->Int->V}{gd:Int->Int->D}(ho:bW X f (ik g))(hg:∀i j F H,S F H [gd i j] [g i j])(hp:∀i j,(gd i j).pl=true):bG X f λx y Q=>∃i j,x=.int i/\y=.int j/\Q (gd i j) :=
 ⟨_,ho,λ{B F H σ δ ts x y v w Q Qd} c sx sy h k=>by
  obtain⟨i,j,rfl,rfl,q⟩:=h
  cases sx;cases sy
  exact⟨i,j,rfl,rfl,k _ _ _ q (ae.refl _) (c.pushS (hg i j F H) (hp i j))⟩⟩
theorem fM{o:Bool}{xs:List D}(s:S F H [.lst o xs] [v])(e:ae F H):∃p ws,v=.ref p/\H p=some (.lst ws)/\S F H xs ws:=by
 cases s with
 | shr h r _=>exact⟨_,_,rfl,e _ _ h,r.s⟩
 | own h r _=>exact⟨_,_,rfl,h,r⟩
theorem jG{xs:List D}(s:S F H [.tup xs] [v]):∃p ws,v=.ref p/\H p=some (.tup ws)/\S F H xs ws:=by
 cases s with
 | tup h r _=>exact⟨_,_,rfl,h,r⟩
theorem kT{d:D}{xs:List D}(s:S F H [d] [v])(e:ae F H)(h:i3 d=some xs):∃p ws,v=.ref p/\Rd H p (.lst ws)/\S F H xs ws:=by
 cases s with
 | shr h' r _=>cases h;exact⟨_,_,rfl,.inl (e _ _ h'),r.s⟩
 | own h' r _=>cases h;exact⟨_,_,rfl,.inl h',r⟩
 | fz h' r _=>cases h;exact⟨_,_,rfl,.inr ⟨_,e _ _ h'⟩,r.s⟩
 | ak _=>cases h
 | bl _=>cases h
 | int _=>cases h
 | str _=>cases h
 | tup _ _ _=>cases h
 | obj _ _ _ _=>cases h
 | bt _ _=>cases h
theorem S.rep{xs:List D}{ws:List V}(s:S F H xs ws):∀k:Nat,S F H (aK k xs).flatten (aK k ws).flatten
 | 0=>by simpa using S.nil
 | k+1=>by
  rw[mZ,mZ,l6,l6]
  exact s.append (S.rep s k)
noncomputable def nX:ck:=λx y Q=>match x,y with
 | .int i,.int j=>Q (.int (i+j))
 | .str a,.str b=>a.length+b.length<=sizeLine/\Q (.str (a++b))
 | .lst _ xs,.lst _ ys=>(xs.length+ys.length<=sizeLine/\xs.all D.pl=true/\ys.all D.pl=true)/\Q (.lst true (xs++ys))
 | _,_=>False
theorem UW:bG X (binaryOp .Add) λx y Q=>∃o xs o' ys,x=.lst o xs/\y=.lst o' ys/\(xs.length+ys.length<=sizeLine/\xs.all D.pl=true/\ys.all D.pl=true)/\Q (.lst true (xs++ys)) :=
 ⟨_,Jh,λ{B F H σ δ ts x y v w Q Qd} c sx sy h k=>by
  obtain⟨o,xs,o',ys,rfl,rfl,⟨hz,h1,h2⟩,q⟩:=h
  obtain⟨p,ws,rfl,e1,s1⟩:=fM sx c.ext
  obtain⟨p',eJ,rfl,e2,s2⟩:=fM sy c.ext
  refine⟨p,p',ws,eJ,rfl,rfl,e1,e2,by rw[<-s1.length,<- s2.length];exact hz,λr hr=>?_⟩
  exact k _ _ _ q (ae.upd hr) (c.mw hr (s1.append s2) (by simp[h1,h2]))⟩
theorem UX:bG X (binaryOp .Add) λx y Q=>∃i j,x=.str i/\y=.str j/\i.length+j.length<=sizeLine/\Q (.str (i++j)) :=
 ⟨_,Rp,λ{B F H σ δ ts x y v w Q Qd} c sx sy h k=>by
  obtain⟨i,j,rfl,rfl,hz,q⟩:=h
  cases sx;cases sy
  exact⟨i,j,rfl,rfl,hz,k _ _ _ q (ae.refl _) (c.pushS (.str .nil) rfl)⟩⟩
theorem gB:bG X (binaryOp .Add) nX:=((j7 (gd:=λi j=>.int (i+j)) Q5 (λ_ _ _ _=>.int .nil) λ_ _=>rfl).or (UX.or UW)).imp λx y Q h=>by
 unfold nX at h
 split at h
 ·exact .inl ⟨_,_,rfl,rfl,h⟩
 ·exact .inr (.inl ⟨_,_,rfl,rfl,h.1,h.2⟩)
 ·exact .inr (.inr ⟨_,_,_,_,rfl,rfl,h.1,h.2⟩)
 ·exact h.elim
noncomputable def iI(C:Int->Int->Prop)(g:Int->Int->D):ck:=λx y Q=>match x,y with
 | .int i,.int j=>C i j/\Q (g i j)
 | _,_=>False
noncomputable def fO(g:Int->Int->D):ck:=λx y Q=>match x,y with
 | .int i,.int j=>Q (g i j)
 | _,_=>False
theorem uL{f:Value->Value->Sem Value}{C:Int->Int->Prop}{g:Int->Int->D}(h:bG X f λx y Q=>∃i j,x=.int i/\y=.int j/\C i j/\Q (g i j)):bG X f (iI C g):=h.imp λx y Q h=>by
 unfold iI at h
 split at h
 ·exact⟨_,_,rfl,rfl,h.1,h.2⟩
 ·exact h.elim
theorem kU{f:Value->Value->Sem Value}{g:Int->Int->D}(h:bG X f λx y Q=>∃i j,x=.int i/\y=.int j/\Q (g i j)):bG X f (fO g):=h.imp λx y Q h=>by
 unfold fO at h
 split at h
 ·exact⟨_,_,rfl,rfl,h⟩
 ·exact h.elim
noncomputable def qH:ck:=fO λi j=>.int (i-j)
theorem dE:bG X (binaryOp .Sub) qH:=kU (j7 AY (λ_ _ _ _=>.int .nil) λ_ _=>rfl)
noncomputable def BY(_ j:Int):Prop:=0<j/\j.natAbs.log2<9000
theorem uM{i j:Int}(h1:0<j)(h2:j<1073741824):BY i j:=⟨h1,by
 have h:j.natAbs<2 ^ 30:=by omega
 have:=(Nat.log2_lt (show j.natAbs≠0 by omega)).mpr h
 omega⟩
theorem UY:bW X (binaryOp .FloorDiv) (rI BY λi j=>.int (i/j)):=pP λi j _ _ _ _ _ hc q =>
 floordiv_int (show j≠0 by have:=hc.1;omega) (by rw[Ph i (by have:=hc.1;omega)];exact q) (.inl (PyProof.noPylong_of_log2 hc.2))
noncomputable def qI:ck:=iI BY λi j=>.int (i/j)
theorem uN:bG X (binaryOp .FloorDiv) qI:=uL (qG UY (λ_ _ _ _=>.int .nil) λ_ _=>rfl)
noncomputable def qJ:ck:=iI (λ_ j=>0<j) λi j=>.int (i%j)
theorem gC:bG X (binaryOp .Mod) qJ:=uL (qG Q6 (λ_ _ _ _=>.int .nil) λ_ _=>rfl)
noncomputable def qK:ck:=iI JH λi j=>.int (i*2 ^ j.toNat)
theorem uO:bG X (binaryOp .LShift) qK:=uL (qG JI (λ_ _ _ _=>.int .nil) λ_ _=>rfl)
noncomputable def qL:ck:=iI (λ_ j=>0<=j) λi j=>.int (i/2 ^ j.toNat)
theorem UZ:bG X (binaryOp .RShift) qL:=uL (qG Q7 (λ_ _ _ _=>.int .nil) λ_ _=>rfl)
noncomputable def qM:ck:=fO λi j=>.int (mV i j)
theorem U0:bG X (binaryOp .BitAnd) qM:=kU (j7 Q8 (λ_ _ _ _=>.int .nil) λ_ _=>rfl)
noncomputable def qN:ck:=fO λi j=>.int (lZ i j)
theorem Ki:bG X (binaryOp .BitXor) qN:=kU (j7 Q9 (λ_ _ _ _=>.int .nil) λ_ _=>rfl)
theorem U1:bW X (binaryOp .Mult) (rI IntMulOk λi j=>.int (i*j)):=pP λ_ _ _ _ _ _ _ hc q=>mul_int q hc
noncomputable def nY:ck:=λx y Q=>match x,y with
 | .int i,.int j=>IntMulOk i j/\Q (.int (i*j))
 | .lst _ xs,.int k=>(-(2 ^ 63)<=k/\k<2 ^ 63/\xs.length*k.toNat<=sizeLine/\xs.all D.pl=true)/\Q (.lst true (aK k.toNat xs).flatten)
 | _,_=>False
theorem U2:bG X (binaryOp .Mult) λx y Q=>∃o xs k,x=.lst o xs/\y=.int k/\(-(2 ^ 63)<=k/\k<2 ^ 63/\xs.length*k.toNat<=sizeLine/\xs.all D.pl=true)/\Q (.lst true (aK k.toNat xs).flatten) :=
 ⟨_,SM,λ{B F H σ δ ts x y v w Q Qd} c sx sy h k=>by
  obtain⟨o,xs,n,rfl,rfl,⟨b1,b2,hz,h1⟩,q⟩:=h
  obtain⟨p,ws,rfl,e1,s1⟩:=fM sx c.ext
  cases sy
  refine⟨p,n,ws,rfl,rfl,e1,b1,b2,by rw[<-s1.length];exact hz,λr hr=>?_⟩
  refine k _ _ _ q (ae.upd hr) (c.mw hr (s1.rep _) ?_)
  rw[dj]
  intro x hx
  obtain⟨l,hl,Kj⟩:=Ae.mp hx
  rw[(xj.mp hl).2]at Kj
  exact dj.mp h1 x Kj⟩
theorem g9:bG X (binaryOp .Mult) nY:=((qG (gd:=λi j=>.int (i*j)) U1 (λ_ _ _ _=>.int .nil) λ_ _=>rfl).or U2).imp λx y Q h=>by
 unfold nY at h
 split at h
 ·exact .inl ⟨_,_,rfl,rfl,h.1,h.2⟩
 ·exact .inr ⟨_,_,_,rfl,rfl,h.1,h.2⟩
 ·exact h.elim
theorem U3:bG X (inplaceOp .Add) (fO λi j=>.int (i+j)):=kU (j7 Ra (λ_ _ _ _=>.int .nil) λ_ _=>rfl)
theorem BZ:bG X (inplaceOp .BitXor) (fO λi j=>.int (lZ i j)):=kU (j7 Rb (λ_ _ _ _=>.int .nil) λ_ _=>rfl)
theorem U4:bW X (inplaceOp .Mult) (rI IntMulOk λi j=>.int (i*j)):=pP λ_ _ _ _ _ _ _ hc q=>imul_int q hc
theorem U5:bG X (inplaceOp .Mult) (iI IntMulOk λi j=>.int (i*j)):=uL (qG U4 (λ_ _ _ _=>.int .nil) λ_ _=>rfl)
noncomputable def qO:ck:=fO λi j=>.bl (decide (i<j))
noncomputable def qP:ck:=fO λi j=>.bl (decide (i<=j))
noncomputable def qQ:ck:=fO λi j=>.bl (decide (j<i))
noncomputable def qR:ck:=fO λi j=>.bl (decide (j<=i))
theorem B0:bG X (compareOp .Lt) qO:=kU (j7 Rh (λ_ _ _ _=>.bl .nil) λ_ _=>rfl)
theorem i4:bG X (compareOp .LtE) qP:=kU (j7 Ri (λ_ _ _ _=>.bl .nil) λ_ _=>rfl)
theorem Kk:bG X (compareOp .Gt) qQ:=kU (j7 Rj (λ_ _ _ _=>.bl .nil) λ_ _=>rfl)
theorem U6:bG X (compareOp .GtE) qR:=kU (j7 Rk (λ_ _ _ _=>.bl .nil) λ_ _=>rfl)
noncomputable def mB:D->Bool
 | .ak=>true
 | _=>false
noncomputable def nZ:ck:=λx y Q=>match y with
 | .ak=>Q (.bl (!mB x))
 | _=>False
theorem U7{d:D}(s:S F H [d] [v]):decide (v=.ak)=mB d:=by cases s<;>simp[mB]
theorem U8:bG X (compareOp .IsNot) nZ:=⟨_,Rl,λ{B F H σ δ ts x y v w Q Qd} c sx sy h k=>by
 unfold nZ at h
 split at h
 ·cases sy
  refine⟨rfl,?_⟩
  rw[U7 sx]
  exact k _ _ _ h (ae.refl _) (c.pushS (.bl .nil) rfl)
 ·exact h.elim⟩
noncomputable def bF:D->D->Bool
 | .ak,.ak=>true
 | .bl a,.bl b=>a==b
 | .bl a,.int b=>(if a then 1 else 0)==b
 | .int a,.bl b=>a==(if b then 1 else 0)
 | .int a,.int b=>a==b
 | .str a,.str b=>a==b
 | .lst _ xs,.lst _ ys=>eF xs ys
 | .tup xs,.tup ys=>eF xs ys
 | _,_=>false
where eF:List D->List D->Bool
 | [],[]=>true
 | x::xs,y::ys=>bF x y&&eF xs ys
 | _,_=>false
noncomputable def df:Nat->D->Bool
 | _,.ak=>true
 | _,.bl _=>true
 | _,.int _=>true
 | _,.str _=>true
 | n+1,.lst _ xs=>xs.all (df n)
 | n+1,.tup xs=>xs.all (df n)
 | _,_=>false
theorem B4:∀(xs ys:List D),xs.length=ys.length->bF.eF xs ys=(au xs.length).all λj=>bF (xs.getD j .ak) (ys.getD j .ak)
 | [],[],_=>rfl
 | x::xs,y::ys,h=>by
  rw[fw,HG,dh,m8]
  show(bF x y&&bF.eF xs ys)=_
  rw[B4 xs ys (by simpa using h)]
  rfl
theorem B5:∀(xs ys:List D),xs.length≠ys.length->bF.eF xs ys=false
 | [],[],h=>absurd rfl h
 | [],_::_,_=>rfl
 | _::_,[],_=>rfl
 | x::xs,y::ys,h=>by
  show(bF x y&&bF.eF xs ys)=false
  rw[B5 xs ys (by simpa using h),Hv]
noncomputable def U9:V->D
 | .bl b=>.bl b
 | .int i=>.int i
 | .str z=>.str z
 | _=>.ak
theorem uP{x:D}{v:V}(h:df 0 x=true)(s:S F H [x] [v]):x=U9 v:=by
 cases s with
 | ak _=>rfl
 | bl _=>rfl
 | int _=>rfl
 | str _=>rfl
 | _=>cases h
theorem Kl{x:D}(h:df 0 x=true):bF x x=true:=by
 cases x with
 | ak=>rfl
 | bl b=>exact beq_self_eq_true b
 | int i=>exact beq_self_eq_true i
 | str z=>exact beq_self_eq_true z
 | _=>cases h
theorem mC{n:Nat}{x:D}(h:df (n+1) x=true):df 0 x=true\/(∃o xs,x=.lst o xs/\xs.all (df n)=true)\/∃xs,x=.tup xs/\xs.all (df n)=true:=by
 cases x with
 | lst o xs=>exact .inr (.inl ⟨o,xs,rfl,h⟩)
 | tup xs=>exact .inr (.inr ⟨xs,rfl,h⟩)
 | obj _ _ _=>exact absurd h gh
 | fz _=>exact absurd h gh
 | bt _=>exact absurd h gh
 | _=>exact .inl rfl
theorem yr{x:D}{p:Addr}(h:df 0 x=true)(s:S F H [x] [.ref p]):False:=by
 rw[uP h s]at s
 cases s
theorem Km:∀(n:Nat) {xs ys:List D} {vs:List V},xs.all (df n)=true->ys.all (df n)=true->S F H xs vs->S F H ys vs->ae F H->bF.eF xs ys=true:=by
 intro n xs
 induction n generalizing xs with
 | zero =>
  induction xs with
  | nil=>intro ys vs _ _ s1 s2 _;cases s1;cases s2;rfl
  | cons x xs ih =>
   intro ys vs h1 h2 s1 s2 e
   obtain⟨v,bN,rfl,q1,r1⟩:=s1.cF
   cases ys with
   | nil=>cases s2
   | cons y ys =>
    obtain⟨v',JW,ee,q2,r2⟩:=s2.cF
    obtain⟨rfl,rfl⟩:=ku ee
    rw[dh,di]at h1 h2
    show(bF x y&&bF.eF xs ys)=true
    rw[ih h1.2 h2.2 r1 r2 e,kz,uP h2.1 q2,<- uP h1.1 q1]
    exact Kl h1.1
 | succ n Kn =>
  induction xs with
  | nil=>intro ys vs _ _ s1 s2 _;cases s1;cases s2;rfl
  | cons x xs ih =>
   intro ys vs h1 h2 s1 s2 e
   obtain⟨v,bN,rfl,q1,r1⟩:=s1.cF
   cases ys with
   | nil=>cases s2
   | cons y ys =>
    obtain⟨v',JW,ee,q2,r2⟩:=s2.cF
    obtain⟨rfl,rfl⟩:=ku ee
    rw[dh,di]at h1 h2
    show(bF x y&&bF.eF xs ys)=true
    rw[ih h1.2 h2.2 r1 r2 e,kz]
    have h1:=h1.1
    have h2:=h2.1
    clear ih r1 r2 s1 s2
    rcases mC h1 with k1 | ⟨o1,a1,rfl,k1⟩ | ⟨a1,rfl,k1⟩
    ·rcases mC h2 with k2 | ⟨o2,a2,rfl,k2⟩ | ⟨a2,rfl,k2⟩
     ·rw[uP k2 q2,<- uP k1 q1]
      exact Kl k1
     ·obtain⟨p,ws,rfl,_⟩:=fM q2 e
      exact(yr k1 q1).elim
     ·obtain⟨p,ws,rfl,_⟩:=jG q2
      exact(yr k1 q1).elim
    ·obtain⟨p,ws,rfl,e1,t1⟩:=fM q1 e
     rcases mC h2 with k2 | ⟨o2,a2,rfl,k2⟩ | ⟨a2,rfl,k2⟩
     ·exact(yr k2 q2).elim
     ·obtain⟨p2,B6,ev,e2,t2⟩:=fM q2 e
      cases ev
      cases e1.symm.trans e2
      exact Kn k1 k2 t1 t2 e
     ·obtain⟨p2,B6,ev,e2,t2⟩:=jG q2
      cases ev
      cases e1.symm.trans e2
    ·obtain⟨p,ws,rfl,e1,t1⟩:=jG q1
     rcases mC h2 with k2 | ⟨o2,a2,rfl,k2⟩ | ⟨a2,rfl,k2⟩
     ·exact(yr k2 q2).elim
     ·obtain⟨p2,B6,ev,e2,t2⟩:=fM q2 e
      cases ev
      cases e1.symm.trans e2
     ·obtain⟨p2,B6,ev,e2,t2⟩:=jG q2
      cases ev
      cases e1.symm.trans e2
      exact Kn k1 k2 t1 t2 e
end
end L3
namespace L3
open PySem L2 PySem.Spec PyProof.Rows
structure Ko(A:Around)(s:Shared)(u w:Value)(b:Bool):Prop where
 rc:SeqAt.RcAt A s u w b
 ne:SeqAt.RcNeAt A s u w (!b)
 eq:zV A s u w b
section
variable{X:Cx}{F H:Hp}{v w:V}
theorem Kp{xs:List V}{us:List Value}(r:Vals xs us){j:Nat}(h:j<us.toArray.size):∃x,xs[j]?=some x/\RelV x us.toArray[j]:=by
 have l:=r.length
 have hj:j<xs.length:=by rw[l];simpa using h
 obtain⟨u,e,q⟩:=r.get (aR hj)
 obtain⟨_,z⟩:=ji.mp e
 refine⟨_,aR hj,?_⟩
 have:us.toArray[j]=u:=by simpa using z
 rw[this];exact q
theorem Kq{xs:List D}{j:Nat}{d:D}(h:xs[j]?=some d):xs.getD j .ak=d:=by rw[aV,h];rfl
theorem qS{x:D}{v:V}{u:Value}(h:df 0 x=true)(s:S F H [x] [v])(r:RelV v u):(x=.ak/\u=.none)\/(∃b,x=.bl b/\u=.bool b)\/(∃i t,x=.int i/\u=.int i t)\/∃z t,x=.str z/\u=.str z t:=by
 cases s with
 | ak _=>cases r;exact .inl ⟨rfl,rfl⟩
 | bl _=>cases r;exact .inr (.inl ⟨_,rfl,rfl⟩)
 | int _=>obtain⟨t,rfl⟩:=r;exact .inr (.inr (.inl ⟨_,t,rfl,rfl⟩))
 | str _=>obtain⟨t,rfl⟩:=r;exact .inr (.inr (.inr ⟨_,t,rfl,rfl⟩))
 | _=>exact absurd h gh
theorem Kr{x y:D}{u u':Value}{A:Around}{s:Shared}(h1:(x=.ak/\u=.none)\/(∃b,x=.bl b/\u=.bool b)\/(∃i t,x=.int i/\u=.int i t)\/∃z t,x=.str z/\u=.str z t)(h2:(y=.ak/\u'=.none)\/(∃b,y=.bl b/\u'=.bool b)\/(∃i t,y=.int i/\u'=.int i t)\/∃z t,y=.str z/\u'=.str z t):Ko A s u u' (bF x y):=by
 rcases h1 with⟨rfl,rfl⟩ | ⟨a,rfl,rfl⟩ | ⟨a,t,rfl,rfl⟩ | ⟨a,t,rfl,rfl⟩<;>rcases h2 with⟨rfl,rfl⟩ | ⟨b,rfl,rfl⟩ | ⟨b,t',rfl,rfl⟩ | ⟨b,t',rfl,rfl⟩
 ·exact⟨.none_none,.none_none,.same _⟩
 ·exact⟨.none_bool _,.none_bool _,.none_bool _⟩
 ·exact⟨.none_int _ _,.none_int _ _,.none_int _ _⟩
 ·exact⟨.none_str _ _,.none_str _ _,.none_str _ _⟩
 ·exact⟨.bool_none _,.bool_none _,.bool_none _⟩
 ·exact⟨.bool_bool _ _,.bool_bool _ _,.bool_bool _ _⟩
 ·exact⟨.bool_int _ _ _,.bool_int _ _ _,.bool_int _ _ _⟩
 ·exact⟨.bool_str _ _ _,.bool_str _ _ _,.bool_str _ _ _⟩
 ·exact⟨.int_none _ _,.int_none _ _,.int_none _ _⟩
 ·exact⟨.int_bool _ _ _,.int_bool _ _ _,.int_bool _ _ _⟩
 ·exact⟨.int_int _ _ _ _,.int_int _ _ _ _,.int_int _ _ _ _⟩
 ·exact⟨.int_str _ _ _ _,.int_str _ _ _ _,.int_str _ _ _ _⟩
 ·exact⟨.str_none _ _,.str_none _ _,.str_none _ _⟩
 ·exact⟨.str_bool _ _ _,.str_bool _ _ _,.str_bool _ _ _⟩
 ·exact⟨.str_int _ _ _ _,.str_int _ _ _ _,.str_int _ _ _ _⟩
 ·exact⟨.str_str _ _ _ _,.str_str _ _ _ _,.str_str _ _ _ _⟩
theorem Ks{pins:List (Addr × Obj)}{σ:L2.St}{s:Shared}(I:Inv X pins σ H s)(e:ae F H):∀(n:Nat) (x y:D) (v w:V) (u u':Value) (A:Around),df n x=true->df n y=true->S F H [x] [v]->S F H [y] [w]->RelV v u->RelV w u' ->
  A.units+n<cLine->Ko A s u u' (bF x y):=by
 intro n
 induction n with
 | zero =>
  intro x y v w u u' A hx hy sx sy rv dW hu
  exact Kr (qS hx sx rv) (qS hy sy dW)
 | succ n ih =>
  intro x y v w u u' A hx hy sx sy rv dW hu
  have aZ:A.units<cLine:=kq (Nat.le_add_right ..) hu
  have Kt:A.in1.units+n<cLine:=by show A.units+1+n<cLine;rw[HH,sX 1];exact hu
  have items:∀{xs ys:List D} {vs ws:List V} {us n6:List Value},xs.all (df n)=true->ys.all (df n)=true->S F H xs vs->S F H ys ws->Vals vs us->Vals ws n6 ->
    ∀j (h1:j<us.toArray.size) (h2:j<n6.toArray.size),zV A.in1 s us.toArray[j] n6.toArray[j] (bF (xs.getD j .ak) (ys.getD j .ak)):=by
   intro xs ys vs ws us n6 hx hy sx sy r1 r2 j h1 h2
   obtain⟨a,e1,q1⟩:=Kp r1 h1
   obtain⟨b,e2,q2⟩:=Kp r2 h2
   obtain⟨d1,g1,t1⟩:=sx.get' e1
   obtain⟨d2,g2,t2⟩:=sy.get' e2
   rw[Kq g1,Kq g2]
   exact(ih d1 d2 a b _ _ A.in1 (dj.mp hx d1 (pd g1)) (dj.mp hy d2 (pd g2)) t1 t2 q1 q2 Kt).eq
  clear ih hu Kt
  rcases mC hx with k1 | ⟨o,xs,rfl,k1⟩ | ⟨xs,rfl,k1⟩
  ·have f:=qS k1 sx rv
   rcases mC hy with k2 | ⟨o',ys,rfl,k2⟩ | ⟨ys,rfl,k2⟩
   ·exact Kr f (qS k2 sy dW)
   ·obtain⟨p',eJ,rfl,e2,t2⟩:=fM sy e
    cases dW
    obtain⟨jH,r2,p2,z2⟩:=I.list (bz.of (K:=X.K) e2)
    have p2:=p2.isList
    rcases f with⟨rfl,rfl⟩ | ⟨a,rfl,rfl⟩ | ⟨a,t,rfl,rfl⟩ | ⟨a,t,rfl,rfl⟩
    ·exact⟨.none_list p2 aZ,.none_list p2 aZ,.none_list p2 aZ⟩
    ·exact⟨.bool_list _ p2 aZ,.bool_list _ p2 aZ,.bool_list _ p2 aZ⟩
    ·exact⟨.int_list _ _ p2 aZ,.int_list _ _ p2 aZ,.int_list _ _ p2 aZ⟩
    ·exact⟨.str_list _ _ p2 aZ,.str_list _ _ p2 aZ,.str_list _ _ p2 aZ⟩
   ·obtain⟨p',eJ,rfl,e2,t2⟩:=jG sy
    cases dW
    obtain⟨jH,r2,p2,z2⟩:=I.tuple (fB.of (K:=X.K) e2)
    rcases f with⟨rfl,rfl⟩ | ⟨a,rfl,rfl⟩ | ⟨a,t,rfl,rfl⟩ | ⟨a,t,rfl,rfl⟩
    ·exact⟨.none_tuple p2 aZ,.none_tuple p2 aZ,.none_tuple p2 aZ⟩
    ·exact⟨.bool_tuple _ p2 aZ,.bool_tuple _ p2 aZ,.bool_tuple _ p2 aZ⟩
    ·exact⟨.int_tuple _ _ p2 aZ,.int_tuple _ _ p2 aZ,.int_tuple _ _ p2 aZ⟩
    ·exact⟨.str_tuple _ _ p2 aZ,.str_tuple _ _ p2 aZ,.str_tuple _ _ p2 aZ⟩
  ·obtain⟨p,ws,rfl,e1,t1⟩:=fM sx e
   cases rv
   obtain⟨its,r1,p1,z1⟩:=I.list (bz.of (K:=X.K) e1)
   have p1:=p1.isList
   rcases mC hy with k2 | ⟨o',ys,rfl,k2⟩ | ⟨ys,rfl,k2⟩
   ·rcases qS k2 sy dW with⟨rfl,rfl⟩ | ⟨a,rfl,rfl⟩ | ⟨a,t,rfl,rfl⟩ | ⟨a,t,rfl,rfl⟩
    ·exact⟨.list_none p1 aZ,.list_none p1 aZ,.list_none p1 aZ⟩
    ·exact⟨.list_bool _ p1 aZ,.list_bool _ p1 aZ,.list_bool _ p1 aZ⟩
    ·exact⟨.list_int _ _ p1 aZ,.list_int _ _ p1 aZ,.list_int _ _ p1 aZ⟩
    ·exact⟨.list_str _ _ p1 aZ,.list_str _ _ p1 aZ,.list_str _ _ p1 aZ⟩
   ·obtain⟨p',eJ,rfl,e2,t2⟩:=fM sy e
    cases dW
    obtain⟨jH,r2,p2,z2⟩:=I.list (bz.of (K:=X.K) e2)
    have p2:=p2.isList
    have n8:xs.length=its.length:=t1.length.trans r1.length
    have qT:ys.length=jH.length:=t2.length.trans r2.length
    by_cases hl:xs.length=ys.length
    ·have iq:its.toArray.size=jH.toArray.size:=by rw[cO,cO,<- n8,<- qT];exact hl
     have ev:(au its.toArray.size).all (λj=>bF (xs.getD j .ak) (ys.getD j .ak))=bF (.lst o xs) (.lst o' ys):=by
      show _=bF.eF xs ys
      rw[B4 xs ys hl,cO,<- n8]
     have a:=SeqAt.RcAt.lists (e:=λj=>bF (xs.getD j .ak) (ys.getD j .ak)) p1 p2 iq aZ (items k1 k2 t1 t2 r1 r2)
     have b:=SeqAt.RcNeAt.lists (e:=λj=>bF (xs.getD j .ak) (ys.getD j .ak)) p1 p2 iq aZ (items k1 k2 t1 t2 r1 r2)
     rw[ev]at a b
     refine⟨a,b,?_⟩
     by_cases oa:p=p'
     ·subst oa
      cases e1.symm.trans e2
      rw[show bF (.lst o xs) (.lst o' ys)=true from Km n k1 k2 t1 t2 e]
      exact .same _
     ·exact .of_refs oa a
    ·have iq:(its.toArray.size != jH.toArray.size)=true:=bne_iff_ne.mpr (by rw[cO,cO,<- n8,<- qT];exact hl)
     rw[show bF (.lst o xs) (.lst o' ys)=false from B5 xs ys hl]
     have a:=SeqAt.RcAt.lists_lengths p1 p2 iq aZ
     refine⟨a,SeqAt.RcNeAt.lists_lengths p1 p2 iq aZ,.of_refs (λoa=>?_) a⟩
     subst oa
     cases e1.symm.trans e2
     exact hl (t1.length.trans t2.length.symm)
   ·obtain⟨p',eJ,rfl,e2,t2⟩:=jG sy
    cases dW
    obtain⟨jH,r2,p2,z2⟩:=I.tuple (fB.of (K:=X.K) e2)
    exact⟨.list_tuple p1 p2 aZ,.list_tuple p1 p2 aZ,.list_tuple p1 p2 aZ⟩
  ·obtain⟨p,ws,rfl,e1,t1⟩:=jG sx
   cases rv
   obtain⟨its,r1,p1,z1⟩:=I.tuple (fB.of (K:=X.K) e1)
   rcases mC hy with k2 | ⟨o',ys,rfl,k2⟩ | ⟨ys,rfl,k2⟩
   ·rcases qS k2 sy dW with⟨rfl,rfl⟩ | ⟨a,rfl,rfl⟩ | ⟨a,t,rfl,rfl⟩ | ⟨a,t,rfl,rfl⟩
    ·exact⟨.tuple_none p1 aZ,.tuple_none p1 aZ,.tuple_none p1 aZ⟩
    ·exact⟨.tuple_bool _ p1 aZ,.tuple_bool _ p1 aZ,.tuple_bool _ p1 aZ⟩
    ·exact⟨.tuple_int _ _ p1 aZ,.tuple_int _ _ p1 aZ,.tuple_int _ _ p1 aZ⟩
    ·exact⟨.tuple_str _ _ p1 aZ,.tuple_str _ _ p1 aZ,.tuple_str _ _ p1 aZ⟩
   ·obtain⟨p',eJ,rfl,e2,t2⟩:=fM sy e
    cases dW
    obtain⟨jH,r2,p2,z2⟩:=I.list (bz.of (K:=X.K) e2)
    have p2:=p2.isList
    exact⟨.tuple_list p1 p2 aZ,.tuple_list p1 p2 aZ,.tuple_list p1 p2 aZ⟩
   ·obtain⟨p',eJ,rfl,e2,t2⟩:=jG sy
    cases dW
    obtain⟨jH,r2,p2,z2⟩:=I.tuple (fB.of (K:=X.K) e2)
    have n8:xs.length=its.length:=t1.length.trans r1.length
    have qT:ys.length=jH.length:=t2.length.trans r2.length
    have ev:((au (min its.toArray.size jH.toArray.size)).all (λj=>bF (xs.getD j .ak) (ys.getD j .ak))&&its.toArray.size==jH.toArray.size)=bF (.tup xs) (.tup ys):=by
     show _=bF.eF xs ys
     rw[cO,cO,<- n8,<- qT]
     by_cases hl:xs.length=ys.length
     ·rw[B4 xs ys hl,<- hl,s8,beq_self_eq_true,kz]
     ·rw[B5 xs ys hl,beq_false_of_ne hl,Hv]
    have a:=SeqAt.RcAt.tuples (e:=λj=>bF (xs.getD j .ak) (ys.getD j .ak)) p1 p2 aZ (items k1 k2 t1 t2 r1 r2)
    have b:=SeqAt.RcNeAt.tuples (e:=λj=>bF (xs.getD j .ak) (ys.getD j .ak)) p1 p2 aZ (items k1 k2 t1 t2 r1 r2)
    rw[ev]at a b
    refine⟨a,b,?_⟩
    by_cases oa:p=p'
    ·subst oa
     cases e1.symm.trans e2
     rw[show bF (.tup xs) (.tup ys)=true from Km n k1 k2 t1 t2 e]
     exact .same _
    ·exact .of_refs oa a
noncomputable def qU:ck:=λx y Q=>(df 6 x=true/\df 6 y=true)/\Q (.bl (bF x y))
noncomputable def qV:ck:=λx y Q=>(df 6 x=true/\df 6 y=true)/\Q (.bl (!bF x y))
theorem kW(hu:X.A.units+6<cLine):bG X (compareOp .Eq) qU:=bG.of λpins s σ H v w u u' Q I rv dW zz=>by
 obtain⟨B,F,ax,δ,ts,x,y,Qd,c,sx,sy,⟨⟨hx,hy⟩,q⟩,k⟩:=zz
 exact(Ks I c.ext 6 x y v w u u' X.A hx hy sx sy rv dW hu).rc _ _ _ _ ⟨.bl _,H,I,rfl,k _ _ _ q (ae.refl _) (c.pushS (.bl .nil) rfl)⟩
theorem uQ(hu:X.A.units+6<cLine):bG X (compareOp .NotEq) qV:=bG.of λpins s σ H v w u u' Q I rv dW zz=>by
 obtain⟨B,F,ax,δ,ts,x,y,Qd,c,sx,sy,⟨⟨hx,hy⟩,q⟩,k⟩:=zz
 exact(Ks I c.ext 6 x y v w u u' X.A hx hy sx sy rv dW hu).ne _ _ _ _ ⟨.bl _,H,I,rfl,k _ _ _ q (ae.refl _) (c.pushS (.bl .nil) rfl)⟩
end
end L3
namespace L3
open PySem L2 PySem.Spec PyProof.Rows
section
variable{X:Cx}{F H:Hp}{v w:V}{e a b c o:Expr}{es:List Expr}{pos p p2 apos br:Pos}{t ta tb tc te:aB}{tr:bX}{x:Str}
theorem Va{r r':R2}{rd uR:ck}(hl:yn r rd)(AG:yn r' uR):∀σ H Q,lE (nN rd uR ta tb tc) σ H Q->IB r r' (lB ta) (lB tb) (lB tc) σ H Q:=λσ H Q ⟨B,F,δ,ts,Qd,c,q,k⟩ =>
 ⟨B,F,δ,ts,_,c,q,λx ai v F1 H1 q1 f1 h1 c1 s1=>⟨B,F1,ai,ts,_,c1,q1,λy aJ w F2 H2 q2 f2 h2 c2 s2=>by
  refine hl c2 (s1.mono f2 h2) s2 q2 λd z H' hd hs c3=>?_
  obtain⟨b,rfl,qb⟩:=hd
  have st:=c3.top
  cases st with
  | bl _ =>
   refine⟨b,rfl,?_⟩
   cases b with
   | true =>
    refine mn ⟨B,F2,aJ,ts,_,c3.pop,by simpa using qb,λz gy w3 F3 H3 q3 f3 h3 c4 s3=>?_⟩
    exact AG c4 (s2.mono f3 (hs.trans h3)) s3 q3 λd z H' hd Vb c5=>k d gy z F3 H' hd ((f1.trans f2).trans f3) ((((h1.trans h2).trans hs).trans h3).trans Vb) c5
   | false=>exact jA (k _ aJ _ F2 H' (by simpa using qb) (f1.trans f2) ((h1.trans h2).trans hs) (c3.pop.pushS (.bl .nil) rfl))⟩⟩
theorem uS{op nr:CmpOp}{rd uR:ck}(ho:bG X (compareOp op) rd)(jv:bG X (compareOp nr) uR)(ha:PE X a (lB ta))(hb:PE X b (lB tb))(hc:PE X c (lB tc))
  (hm:lastMarks [op,nr] [b,c]=false:=by with_unfolding_all rfl):PE X (.Compare a [op,nr] [b,c] pos) (lE (nN rd uR ta tb tc)):=by
 obtain⟨r,h1,h2⟩:=ho
 obtain⟨r',iX,ix⟩:=jv
 exact cS (Ro h1 iX ha hb hc hm) (Va h2 ix)
noncomputable def uT(t:aB):aB:=λδ Q=>t δ λd ag=>match d with
 | .int i=>Q (.int (-i)) ag
 | _=>False
noncomputable abbrev iC:=List D->(D->Prop)->Prop
noncomputable def lc(rd:iC):List V->Hp->VK->Prop:=λvs H Q=>∃B F σ δ ts ds Qd,aj B F H σ δ ts/\S F H ds vs/\rd ds Qd/\∀d z H',Qd d->ae H H'->aj B F H' σ δ ((d,z)::ts)->Q z H'
noncomputable def gD(X:Cx)(f:Value)(rd:iC):Prop:=fE X f (lc rd)
theorem gD.of{f:Value}{r:List V->Hp->VK->Prop}{rd:iC}(h:fE X f r)(m:∀vs H Q,lc rd vs H Q->r vs H Q):gD X f rd:=λpins s σ H xs us Q I r q=>h pins s σ H xs us Q I r (m xs H Q q)
noncomputable def mD(rd:iC)(t:bX):aB:=λδ Q=>t δ λds ag=>rd ds λd=>Q d ag
theorem Ku{rd:iC}:∀σ H Q,lE (mD rd tr) σ H Q->A6 (lc rd) (lA tr) σ H Q:=λσ H Q zq=>by
 obtain⟨B,F,δ,ts,Qd,c,q,k⟩:=zq
 exact⟨B,F,δ,ts,_,c,q,λds ai vs F1 H1 q1 f1 h1 c1 s1 =>
 ⟨B,F1,σ,ai,ts,ds,_,c1,s1,q1,λd z H' hd hs c'=>k d ai z F1 H' hd f1 (h1.trans hs) c'⟩⟩
theorem kX{id:String}{rd:iC}(hc:gD X (.builtin id) rd)(hg:Gl X x)(hm:X.mg x=none)(hv:bootBuiltins x=some (.builtin id))(ha:PA X (e::es) (lA tr))(hn:x≠"__name__":=by decide)(cW:(x==("__debug__":Str))=false:=by decide)
  (he:starEach (e::es) X.env=(false,eval e X.env)::starEach es X.env:=by rfl) (bD:(backTo pos (starEach es X.env)).any (·.1)=false:=by rfl):PE X (.Call (.Name x p) (e::es) [] pos) (lE (mD rd tr)) :=
 cS (A8 hc hg hm hv ha hn cW he bD) Ku
theorem Kv{T:String}{rd:iC}(hc:gD X (.type T) rd)(hg:Gl X x)(hm:X.mg x=none)(hv:bootBuiltins x=some (.type T))(ha:PA X (e::es) (lA tr))(hn:x≠"__name__":=by decide)(cW:(x==("__debug__":Str))=false:=by decide)
  (he:starEach (e::es) X.env=(false,eval e X.env)::starEach es X.env:=by rfl) (bD:(backTo pos (starEach es X.env)).any (·.1)=false:=by rfl):PE X (.Call (.Name x p) (e::es) [] pos) (lE (mD rd tr)) :=
 cS (R8 hc hg hm hv ha hn cW he bD) Ku
theorem jI{d:D}{vs:List V}(s:S F H [d] vs):∃v,vs=[v]/\S F H [d] [v]:=by
 obtain⟨v,bN,rfl,h1,h2⟩:=s.cF
 cases h2
 exact⟨v,rfl,h1⟩
theorem Vc{d d':D}{vs:List V}(s:S F H [d,d'] vs):∃v v',vs=[v,v']/\S F H [d] [v]/\S F H [d'] [v']:=by
 obtain⟨v,bN,rfl,h1,h2⟩:=s.cF
 obtain⟨v',rfl,h3⟩:=jI h2
 exact⟨v,v',rfl,h1,h3⟩
theorem jJ{K:PySem.W.Frag}{p:Addr}{ws:List V}(h:Rd H p (.lst ws)):bz K H p ws:=.inl h
noncomputable def og:iC:=λds Q=>match ds with
 | [.lst _ xs]=>Q (.int xs.length)
 | [.fz xs]=>Q (.int xs.length)
 | [.tup xs]=>Q (.int xs.length)
 | [.str z]=>z.length<=sizeLine/\Q (.int z.length)
 | _=>False
theorem uU:gD X (.builtin "len") og:=gD.of (IZ.or Sz) λvs H Q zz=>by
 obtain⟨B,F,σ,δ,ts,ds,Qd,c,s,q,k⟩:=zz
 unfold og at q
 split at q
 ·obtain⟨v,rfl,s1⟩:=jI s
  obtain⟨p,ws,rfl,h,t⟩:=kT s1 c.ext rfl
  refine .inl ⟨p,ws,rfl,.inl (jJ h),?_⟩
  rw[<-t.length]
  exact k _ _ _ q (ae.refl _) (c.pushS (.int .nil) rfl)
 ·obtain⟨v,rfl,s1⟩:=jI s
  obtain⟨p,ws,rfl,h,t⟩:=kT s1 c.ext rfl
  refine .inl ⟨p,ws,rfl,.inl (jJ h),?_⟩
  rw[<-t.length]
  exact k _ _ _ q (ae.refl _) (c.pushS (.int .nil) rfl)
 ·obtain⟨v,rfl,s1⟩:=jI s
  obtain⟨p,ws,rfl,h,t⟩:=jG s1
  refine .inl ⟨p,ws,rfl,.inr (fB.of h),?_⟩
  rw[<-t.length]
  exact k _ _ _ q (ae.refl _) (c.pushS (.int .nil) rfl)
 ·obtain⟨v,rfl,s1⟩:=jI s
  cases s1
  exact .inr ⟨_,rfl,q.1,k _ _ _ q.2 (ae.refl _) (c.pushS (.int .nil) rfl)⟩
 ·exact q.elim
noncomputable def oh:iC:=λds Q=>match ds with
 | [.lst _ xs]=>xs.all D.pl=true/\Q (.lst true xs)
 | [.fz xs]=>Q (.lst true xs)
 | [.tup xs]=>xs.all D.pl=true/\Q (.lst true xs)
 | _=>False
theorem Vd:gD X (.type "list") oh:=gD.of SA λvs H Q zz=>by
 obtain⟨B,F,σ,δ,ts,ds,Qd,c,s,q,k⟩:=zz
 unfold oh at q
 split at q
 ·obtain⟨v,rfl,s1⟩:=jI s
  obtain⟨p,ws,rfl,h,t⟩:=kT s1 c.ext rfl
  exact⟨p,ws,rfl,.inl (jJ h),λl hl=>k _ _ _ q.2 (ae.upd hl) (c.mw hl t q.1)⟩
 ·obtain⟨v,rfl,s1⟩:=jI s
  cases s1 with
  | fz h r _=>exact⟨_,_,rfl,.inl (jJ (.inr ⟨_,c.ext _ _ h⟩)),λl hl=>k _ _ _ q (ae.upd hl) (c.mw hl r.s r.pl)⟩
 ·obtain⟨v,rfl,s1⟩:=jI s
  obtain⟨p,ws,rfl,h,t⟩:=jG s1
  exact⟨p,ws,rfl,.inr (fB.of h),λl hl=>k _ _ _ q.2 (ae.upd hl) (c.mw hl t q.1)⟩
 ·exact q.elim
noncomputable def ii(g:Int->Int->Int):iC:=λds Q=>match ds with
 | [.int i,.int j]=>Q (.int (g i j))
 | _=>False
theorem Ve{f:Value}{g:Int->Int->Int}(h:fE X f (λxs H Q=>∃i j,xs=[.int i,.int j]/\Q (.int (g i j)) H)):gD X f (ii g):=gD.of h λvs H Q zz=>by
 obtain⟨B,F,σ,δ,ts,ds,Qd,c,s,q,k⟩:=zz
 unfold ii at q
 split at q
 ·obtain⟨v,v',rfl,s1,s2⟩:=Vc s
  cases s1;cases s2
  exact⟨_,_,rfl,k _ _ _ q (ae.refl _) (c.pushS (.int .nil) rfl)⟩
 ·exact q.elim
theorem Kw(hc:X.calm=true):gD X (.builtin "min") (ii λi j=>if j<i then j else i):=Ve (Rt hc)
noncomputable def yt(bs:List Bool):List D:=bs.map D.bl
theorem Kx:∀{bs:List Bool} {ws:List V},S F H (yt bs) ws->ws=bs.map V.bl
 | [],_,s=>by cases s;rfl
 | b::bs,_,s=>by
  cases s with
  | bl s=>rw[Kx s];rfl
noncomputable def oi:iC:=λds Q=>match ds with
 | [.lst _ xs]=>∃bs,xs=yt bs/\Q (.bl (bs.all id))
 | _=>False
theorem Ky(hc:X.calm=true):gD X (.builtin "all") oi:=gD.of (TN hc) λvs H Q zz=>by
 obtain⟨B,F,σ,δ,ts,ds,Qd,c,s,q,k⟩:=zz
 unfold oi at q
 split at q
 ·obtain⟨v,rfl,s1⟩:=jI s
  obtain⟨bs,rfl,q⟩:=q
  obtain⟨p,ws,rfl,h,t⟩:=kT s1 c.ext rfl
  rw[Kx t]at h
  exact⟨p,bs,rfl,jJ h,k _ _ _ q (ae.refl _) (c.pushS (.bl .nil) rfl)⟩
 ·exact q.elim
noncomputable def B7:D->Option String
 | .int _=>some "int"
 | .bl _=>some "bool"
 | .ak=>some "NoneType"
 | .str _=>some "str"
 | .lst _ _=>some "list"
 | .fz _=>some "list"
 | .tup _=>some "tuple"
 | _=>none
noncomputable def B8(k n:String):Option Bool:=([("int","int",true),("int","bool",false),("int","list",false),("int","tuple",false),("int","str",false),("bool","int",true),("bool","bool",true),("bool","list",false),("bool","tuple",false),("bool","str",false),
 ("NoneType","int",false),("NoneType","bool",false),("NoneType","list",false),("NoneType","tuple",false),("NoneType","str",false),("str","int",false),("str","bool",false),("str","list",false),("str","tuple",false),("str","str",true),
 ("list","int",false),("list","bool",false),("list","list",true),("list","tuple",false),("list","str",false),("tuple","int",false),("tuple","bool",false),("tuple","list",false),("tuple","tuple",true),("tuple","str",false)].find? λz=>z.1==k&&z.2.1==n).map (·.2.2)
noncomputable def j8(n:String)(d:D):Option Bool:=(B7 d).bind λk=>B8 k n
theorem Vf{K:PySem.W.Frag}{k n:String}{r:Bool}(h:B8 k n=some r):PySem.W.kitOne K (.type k) (.type n)=some r:=by
 unfold B8 at h
 obtain⟨z,hz,rfl⟩:=Af.mp h
 have hm:=Pu hz
 have hp:=List.find?_some hz
 rw[di,beq_iff_eq,beq_iff_eq]at hp
 obtain⟨rfl,rfl⟩:=hp
 simp only[bR,gj,or_false]at hm
 repeat' (rcases hm with hm | hm)
 all_goals rfl
theorem Vg{K:PySem.W.Frag}{d:D}(s:S F H [d] [v])(e:ae F H){k:String}(h:B7 d=some k):gr K H v (.type k):=by
 cases s with
 | int _=>cases h;exact .int _
 | bl _=>cases h;exact .bl _
 | ak _=>cases h;exact .ak
 | str _=>cases h;exact .str _
 | shr h' _ _=>cases h;exact .lst (e _ _ h')
 | own h' _ _=>cases h;exact .lst h'
 | fz h' _ _=>cases h;exact .bc (e _ _ h')
 | tup h' _ _=>cases h;exact .tup h'
 | obj _ _ _ _=>cases h
 | bt _ _=>cases h
theorem Vh{K:PySem.W.Frag}{d:D}(s:S F H [d] [v])(e:ae F H){n:String}{r:Bool}(h:j8 n d=some r):∃t,gr K H v t/\PySem.W.kitOne K t (.type n)=some r:=by
 unfold j8 at h
 cases hk:B7 d with
 | none=>rw[hk]at h;cases h
 | some k=>rw[hk]at h;exact⟨_,Vg s e hk,Vf h⟩
noncomputable def qW(n:String)(t:aB):aB:=λδ Q=>t δ λd ag=>∃r,j8 n d=some r/\Q (.bl r) ag
theorem B9{n:String}{y:Str}{q:Pos}(hg:Gl X "isinstance")(hm:X.mg "isinstance"=none)(Vi:Gl X y)(Kz:X.mg y=none)(Vj:bootBuiltins y=some (.type n))(ha:PE X a (lB ta))
  (hn:y≠"__name__":=by decide) (hd:(y==("__debug__":Str))=false:=by decide)
  (hs:starEach [a,.Name y q] X.env=(false,eval a X.env)::starEach [.Name y q] X.env:=by rfl) (fC:starEach [.Name y q] X.env=(false,eval (.Name y q) X.env)::starEach [] X.env:=by rfl) (bD:(backTo pos (starEach [.Name y q] X.env)).any (·.1)=false:=by rfl) :
  PE X (.Call (.Name "isinstance" p) [a,.Name y q] [] pos) (lE (qW n ta)) :=
 cS (A8 Tw hg hm Tr (cn ha (cn (Tu Vi Kz Vj hn hd) dU fC) hs) (by decide) (by decide) hs bD) λσ H Q zq=>by
 obtain⟨B,F,δ,ts,Qd,c,q,k⟩:=zq
 exact⟨B,F,δ,ts,_,c,q,λd ai v F1 H1 q1 f1 h1 c1 s1=>by
  obtain⟨r,e,qr⟩:=q1
  obtain⟨t,h2,h3⟩:=Vh (K:=X.K) s1 c1.ext e
  exact⟨v,n,t,r,rfl,h2,h3,k _ ai _ F1 H1 qr f1 h1 (c1.pushS (.bl .nil) rfl)⟩⟩
theorem Ca{xs:List D}{ws:List V}{i:Int}{d:D}(s:S F H xs ws)(h:dM xs i=some d):∃v,dM ws i=some v/\S F H [d] [v]:=by
 unfold dM at h ⊢
 rw[<-s.length]
 cases e:gR xs.length i with
 | none=>rw[e]at h;cases h
 | some j =>
  rw[e]at h
  exact s.get h
noncomputable def oj(x y:D)(Q:D->Prop):Prop:=match x,y with
 | .lst _ xs,.int i=>∃d,dM xs i=some d/\Q d
 | .fz xs,.int i=>∃d,dM xs i=some d/\Q d
 | .tup xs,.int i=>∃d,dM xs i=some d/\Q d
 | .str z,.int i=>z.length<=sizeLine/\∃ch,dM z.cps.toList i=some ch/\Q (.str ⟨#[ch]⟩)
 | _,_=>False
noncomputable def qX(ta tb:aB):aB:=λδ Q=>ta δ λx ai=>tb ai λy aJ=>oj x y λd=>Q d aJ
theorem cT(ha:PE X a (lB ta))(hb:PE X b (lB tb))(hs:IS b):PE X (.Subscript a b pos) (lB (qX ta tb)) :=
 cS (Si Sn ha hb hs) λσ H Q zq=>by
 obtain⟨B,F,δ,ts,Qd,c,q,k⟩:=zq
 exact⟨B,F,δ,ts,_,c,q,λx ai v F1 H1 q1 f1 h1 c1 s1=>⟨B,F1,ai,ts,_,c1,q1,λy aJ w F2 H2 q2 f2 h2 c2 s2=>by
  have kY:=s1.mono f2 h2
  have fin:∀d z,Qd d aJ->S F2 H2 [d] [z]->Q z H2:=λd z hd s=>k d aJ z F2 H2 hd (f1.trans f2) (h1.trans h2) c2 s
  unfold oj at q2
  split at q2
  ·obtain⟨d,ed,qd⟩:=q2
   cases s2
   obtain⟨p,ws,rfl,h,t⟩:=kT kY c2.ext rfl
   obtain⟨z,ez,sz⟩:=Ca t ed
   exact .inl ⟨p,ws,_,z,rfl,rfl,jJ h,ez,fin d z qd sz⟩
  ·obtain⟨d,ed,qd⟩:=q2
   cases s2
   obtain⟨p,ws,rfl,h,t⟩:=kT kY c2.ext rfl
   obtain⟨z,ez,sz⟩:=Ca t ed
   exact .inl ⟨p,ws,_,z,rfl,rfl,jJ h,ez,fin d z qd sz⟩
  ·obtain⟨d,ed,qd⟩:=q2
   cases s2
   obtain⟨p,ws,rfl,h,t⟩:=jG kY
   obtain⟨z,ez,sz⟩:=Ca t ed
   exact .inr (.inl ⟨p,ws,_,z,rfl,rfl,fB.of h,ez,fin d z qd sz⟩)
  ·obtain⟨hz,ch,ec,qc⟩:=q2
   cases kY
   cases s2
   exact .inr (.inr ⟨_,_,ch,rfl,rfl,hz,ec,fin _ _ qc (.str .nil)⟩)
  ·exact q2.elim⟩⟩
noncomputable abbrev qY:=Dl->(Option Int->Dl->Prop)->Prop
noncomputable def lP(t:qY):TO:=λσ H Q=>∃B F δ ts Qd,aj B F H σ δ ts/\t δ Qd/\∀o ag F' H',Qd o ag->ae F F'->ae H H'->aj B F' H' σ ag ts->Q o H'
theorem KA{oe:Option Expr}{u u':TO}(h:PO X oe u)(m:∀σ H Q,u' σ H Q->u σ H Q):PO X oe u':=λpins s σ H Q I q=>h pins s σ H Q I (m σ H Q q)
noncomputable def qZ:qY:=λδ Q=>Q none δ
noncomputable def q0(t:aB):qY:=λδ Q=>t δ λd ag=>match d with
 | .int i=>Q (some i) ag
 | _=>False
theorem KC:PO X none (lP qZ):=KA Sd λσ H Q ⟨B,F,δ,ts,Qd,c,q,k⟩=>k none δ F H q (ae.refl _) (ae.refl _) c
theorem KD(h:PE X e (lB t)):PO X (some e) (lP (q0 t)):=KA (Se h) λσ H Q zq=>by
 obtain⟨B,F,δ,ts,Qd,c,q,k⟩:=zq
 exact⟨B,F,δ,ts,_,c,q,λd ai v F1 H1 q1 f1 h1 c1 s1=>by
 cases s1 with
 | int _=>exact⟨_,rfl,k _ ai F1 H1 q1 f1 h1 c1⟩
 | _=>exact q1.elim⟩
noncomputable def gE{α:Type}(xs:List α)(lo hi:Option Int):List α:=(xs.drop (HT.cu xs.length 0 lo)).take (HT.cu xs.length xs.length hi-HT.cu xs.length 0 lo)
theorem S.cut{xs:List D}{ws:List V}(s:S F H xs ws)(lo hi:Option Int):S F H (gE xs lo hi) (pU ws lo hi):=by
 unfold gE pU
 rw[<-s.length]
 exact(s.drop _).take _
theorem KG{xs:List D}{p:D->Bool}(h:xs.all p=true)(lo hi:Option Int):(gE xs lo hi).all p=true:=by
 rw[dj]at h ⊢
 intro x hx
 exact h x (xk (Ag hx))
noncomputable def q8(t:aB):aB:=λδ Q=>t δ λd ag=>match d with
 | .int i=>Q (.int (Mf.bl i.natAbs:Nat)) ag
 | _=>False
theorem om(ho:PE X o (lB t))(ir:attributeBase o "bit_length" X.env (eval o X.env)=eval o X.env:=by rfl)(iu:(apos.endLine==br.line)=true:=by rfl):PE X (.Call (.Attribute o "bit_length" apos) [] [] br) (lE (q8 t)) :=
 cS (Bt ho ir iu) λσ H Q zq=>by
 obtain⟨B,F,δ,ts,Qd,c,q,k⟩:=zq
 exact⟨B,F,δ,ts,_,c,q,λd ai v F1 H1 q1 f1 h1 c1 s1=>by
  cases s1 with
  | int _=>exact⟨rfl,_,rfl,rfl,k _ ai _ F1 H1 q1 f1 h1 (c1.pushS (.int .nil) rfl)⟩
  | _=>exact q1.elim⟩
end
end L3
namespace L3
open PySem L2 PySem.Spec PyProof.Rows
section
variable{X:Cx}{F H:Hp}{v w:V}{e a b c o tg:Expr}{es:List Expr}{pos p p2 apos br pos':Pos}{t ta tb tc te ti:aB}{tr:bX}{x:Str}{i:Nat}
noncomputable def q9(i:Nat)(t:aB):b9:=λD δ=>(∃xs,δ[i]?=some (some (.lst true xs)))/\t δ λd ag=>∃xs,ag[i]?=some (some (.lst true xs))/\xs.length<sizeLine/\D.nx (ag.set i (some (.lst true (xs++[d]))))
theorem Cb(hN:X.N[i]?=some x)(hv:ju X.env.scope x)(he:PE X e (lE t))(hd:(x==("__debug__":Str))=false:=by decide)(bS:(x==("__classdict__":Str))=false:=by decide)
  (ir:attributeBase (.Name x p) "append" X.env (eval (.Name x p) X.env)=eval (.Name x p) X.env:=by rfl)
  (nB:((backTo br (starEach [e] X.env)).all (λx=>!x.1)&&(backToKw br (keywordEach [] X.env)).all (λx=>x.1.isSome)
   && decide ([e].length+([]:List Keyword).length+(if([]:List Keyword).isEmpty then 0 else 1)<30))=true:=by rfl)
  (iu:(apos.endLine==br.line)=true:=by rfl) (hs:starEach [e] X.env=(false,eval e X.env)::starEach [] X.env:=by rfl) (nC:(backTo br (starEach [] X.env)).any (·.1)=false:=by rfl)
  (oo:swapsWith (.Call (.Attribute (.Name x p) "append" apos) [e] [] br) none pos.line X.env=pure false:=by rfl) :
  PS X (.Expr (.Call (.Attribute (.Name x p) "append" apos) [e] [] br) pos) (lS X (q9 i t)) :=
 iZ (tR (Bg PySem.F.plainAttrs_list PySem.F.slot_list_append PySem.F.type_list_append Jg (mh hN hv hd bS) (cn he dU hs) ir nB iu hs nC) oo) λEn σ H zz=>by
  obtain⟨B,F,δ,Dd,c,⟨⟨ys,ey⟩,q⟩,k1,k2,k3,k4⟩:=zz
  obtain⟨p0,uw,g1,g2,g3⟩:=c.ownAt ey
  refine⟨.ref p0,g1,.inl ⟨rfl,_,bz.of g2⟩,B,F,δ,[],_,c,q,λd ag v F' H' hd sf sh c'=>?_⟩
  obtain⟨xs,ex,hl,hn⟩:=hd
  obtain⟨p1,ws,r1,r2,r3⟩:=c'.ownAt ex
  rw[g1]at r1;cases r1
  exact⟨p0,ws,v,rfl,rfl,r2,by omega,k1 _ _ F' _ hn (c'.app ex g1 r2)⟩
noncomputable def rh(i:Nat)(te ti:aB):b9:=λD δ=>te δ λd ai=>∃ys,ai[i]?=some (some (.lst true ys))/\nM ti ai λk aJ=>match k with
 | .int n=>∃xs j,aJ[i]?=some (some (.lst true xs))/\gR xs.length n=some j/\D.nx (aJ.set i (some (.lst true (xs.set j d))))
 | _=>False
theorem Cc(hN:X.N[i]?=some x)(hv:ju X.env.scope x)(he:PE X e (lE te))(hi:PE X b (lB ti))(hd:(x==("__debug__":Str))=false:=by decide)(bS:(x==("__classdict__":Str))=false:=by decide)
  (ha:∀v,assign (.Subscript (.Name x p) b pos') X.env v=(do
   let ov<-holding [v] (eval (.Name x p) X.env)
   let iv<-holding [v,ov] (eval b X.env)
   standAt pos'
   holding [v,ov,iv] (setItem ov iv v)
   release [v,ov,iv] []):=by intro _;rfl)
  (hs:swapsWithSole [.Subscript (.Name x p) b pos'] e pos.line X.env=pure false:=by rfl) (hw:swappedStores [.Subscript (.Name x p) b pos'] e X.env=pure none:=by rfl)
  (h1:(assignEach [.Subscript (.Name x p) b pos'] X.env).map (·.2)=[assign (.Subscript (.Name x p) b pos') X.env]:=by rfl) :
  PS X (.Assign [.Subscript (.Name x p) b pos'] e pos) (lS X (rh i te ti)) :=
 iZ (QJ he (QI (mh hN hv hd bS) (eE hi) IW ha) hs hw h1) λEn σ H zq=>by
 obtain⟨B,F,δ,Dd,c,q,k1,k2,k3,k4⟩:=zq
 exact⟨B,F,δ,[],_,c,q,λd ai v F1 H1 hq f1 h1 c1=>by
  obtain⟨ys,ey,hq⟩:=hq
  obtain⟨p0,uw,g1,g2,g3⟩:=c1.ownAt ey
  refine⟨.ref p0,g1,B,F1,ai,[(d,v)],_,c1,hq,λkd aJ kv F2 H2 hk f2 h2 c2=>?_⟩
  have st:=c2.top
  split at hk
  ·obtain⟨xs,j,ex,ej,hn⟩:=hk
   cases st
   have c3:=c2.pop
   obtain⟨p1,ws,r1,r2,r3⟩:=c3.ownAt ex
   rw[g1]at r1;cases r1
   exact⟨p0,ws,_,j,rfl,rfl,r2,by rw[<-r3];exact ej,k1 _ _ F2 _ hn (c3.JZ ex g1 r2 j)⟩
  ·exact hk.elim⟩
end
end L3
namespace L3
open PySem L2 PySem.Spec PyProof.Rows
theorem hE{A:Around}{k:Nat}(hr:bM k A):A.units+6<cLine:=by have:=hr.un;omega
noncomputable def aC(ns:List Int):List D:=ns.map D.int
noncomputable def Cd(o:Obj):Bool:=match o.cls with
 | .type n=>n != "list"
 | _=>true
noncomputable def KH:bx:=λds Q=>∃ns:List Int,ds=[.fz (aC ns)]/\ns.length<=63/\Q (.bl true)
theorem jK{F H:Hp}:∀ns:List Int,R F H (aC ns) (ns.map V.int) []
 | []=>.nil
 | n::ns=>.int (jK ns)
theorem Vk{K:PySem.W.Frag}{a:Addr}{o:Obj}(h:K.lookup a=some o):(a,o)∈K:=by
 induction K with
 | nil=>cases h
 | cons p K ih =>
  obtain⟨b,u⟩:=p
  rw[eD]at h
  split at h
  ·rename_i z
   have:a=b:=by simpa using z
   cases h;subst this;simp
  ·exact dJ _ (ih h)
end L3
namespace L3
open PySem L2 PySem.Spec PyProof.Rows
section
variable{B:Bs}{F H:Hp}{σ:L2.St}{δ:Dl}{ts ps:List (D × V)}{i k:Nat}{p q:Addr}{l1 l2 ys JS:List D}{ws n6:List V}
end
section
variable{X:Cx}{F H:Hp}{e b:Expr}{pos p pr apos br Ce:Pos}{t ti te:aB}{x y:Str}{i j:Nat}
end
end L3
namespace L3
open PySem L2 PySem.Spec PyProof.Rows
theorem uV(i:Int):(D.int i).pl=true:=rfl
theorem uW(i:Bool):(D.bl i).pl=true:=rfl
theorem uX(i:Str):(D.str i).pl=true:=rfl
theorem uY:D.ak.pl=true:=rfl
theorem uZ(xs:List D):(D.fz xs).pl=true:=rfl
theorem u0(C:Addr)(ns:List Str)(xs:List D):(D.obj C ns xs).pl=true:=rfl
theorem u3(i:Int):(D.int i).fr=true:=rfl
theorem u4(i:Bool):(D.bl i).fr=true:=rfl
theorem u5(i:Str):(D.str i).fr=true:=rfl
theorem u6:D.ak.fr=true:=rfl
theorem mE(i:Int):(D.int i).sh=.int i:=rfl
theorem u7(i:Bool):(D.bl i).sh=.bl i:=rfl
theorem u9(i:Str):(D.str i).sh=.str i:=rfl
theorem va:D.ak.sh=.ak:=rfl
theorem vb(xs:List D):(D.fz xs).sh=.fz xs:=rfl
theorem vd(C:Addr)(ns:List Str)(xs:List D):(D.obj C ns xs).sh=.obj C ns xs:=rfl
theorem rj{α:Type}(n:Nat)(x:α):(aK n [x]).flatten=aK n x:=by
 induction n with
 | zero=>rfl
 | succ n ih=>rw[mZ,l6,ih];rfl
theorem kZ(ns:List Int):(aC ns).length=ns.length:=by simp[aC]
theorem mF(ns:List Int):(aC ns).all D.pl=true:=by simp[aC,D.pl]
theorem oq(ns:List Int):(aC ns).all D.fr=true:=by simp[aC,D.fr]
theorem i5(ns:List Int):(aC ns).map D.sh=aC ns:=by simp[aC,D.sh]
theorem rk(a b:List Int):aC a++aC b=aC (a++b):=by simp[aC]
theorem ve(n:Nat)(i:Int):aK n (D.int i)=aC (aK n i):=by simp[aC]
theorem rl(n:Nat)(i:Int):df n (.int i)=true:=by cases n<;>rfl
theorem vg(n:Nat)(i:Str):df n (.str i)=true:=by cases n<;>rfl
theorem mG(i j:Int):bF (.int i) (.int j)=decide (i=j):=by
 show(i==j)=_
 rw[Bool.beq_eq_decide_eq]
theorem KI:∀(a b:List Int),bF.eF (aC a) (aC b)=decide (a=b)
 | [],[]=>rfl
 | [],_::_=>by simp[aC,bF.eF]
 | _::_,[]=>by simp[aC,bF.eF]
 | x::xs,y::ys=>by
  show(bF (.int x) (.int y)&&bF.eF (aC xs) (aC ys))=_
  rw[KI xs ys,mG,pB];simp
theorem rm(o o':Bool)(a b:List Int):bF (.lst o (aC a)) (.lst o' (aC b))=decide (a=b):=KI a b
theorem Vl{ns:List Int}{k:Nat}(h:k<ns.length):(aC ns)[k]?=some (.int ns[k]):=by simp[aC,h]
theorem j9{ns:List Int}{k:Int}(h0:0<=k)(h:k<ns.length):dM (aC ns) k=some (.int (ns.getD k.toNat 0)):=by
 unfold dM gR
 rw[if_pos h0,kZ,if_pos h]
 show(aC ns)[k.toNat]?=_
 have hk:k.toNat<ns.length:=by omega
 rw[Vl hk,aV,aR hk];rfl
theorem vh(i:Int):j8 "int" (.int i)=some true:=by rfl
theorem vi(i:Int):j8 "bool" (.int i)=some false:=by rfl
theorem vj(i:Int):j8 "list" (.int i)=some false:=by rfl
theorem vm(o:Bool)(xs:List D):j8 "list" (.lst o xs)=some true:=by rfl
theorem vn:j8 "int" .ak=some false:=by rfl
theorem vo(x:Str):j8 "str" (.str x)=some true:=by rfl
theorem vp(xs:List D):j8 "tuple" (.tup xs)=some true:=by rfl
theorem sL:sizeLine=16777216:=rfl
theorem vq{p:Prop}[Decidable p]:(decide p=true)=p:=by simp
theorem Vm{α:Type}(xs:List α)(a b:Nat):gE xs (some (a:Int)) (some (b:Int))=(xs.drop a).take (b-a):=by
 unfold gE
 rw[HT.Ba,HT.Ba]
 by_cases h:a<=xs.length
 ·rw[Nat.min_eq_left h]
  apply HI
  intro i
  rw[Pw,Pw,List.getElem?_drop]
  by_cases hi:i<b-a
  ·rw[if_pos hi]
   by_cases hb:a+i<xs.length
   ·rw[if_pos (by omega)]
   ·rw[ie (by omega)];simp
  ·rw[if_neg hi,if_neg (by omega)]
 ·rw[Nat.min_eq_right (show xs.length<=a by omega),HJ (bI _),HJ (show xs.length<=a by omega)];simp
end L3
namespace L2
open PySem PySem.Spec PyProof.Rows
section
variable{X:Cx}{e:Expr}{te:TE}{lo hi:Option Expr}{st:Expr}{tl th ts:TO}{pos p2:Pos}
end
end L2
namespace L3
open PySem L2 PySem.Spec PyProof.Rows
section
variable{X:Cx}{F H:Hp}{e:Expr}{t:aB}{lo hi:Option Expr}{st:Expr}{tl th td:qY}{pos p2:Pos}
theorem KJ:∀{a:List Int} {ws:List V},S F H (aC a) ws->ws=a.map V.int
 | [],_,s=>by cases s;rfl
 | b::bs,_,s=>by
  cases s with
  | int s=>rw[KJ s];rfl
noncomputable def Cf:Expr->Option Int
 | .Constant (.int i) _ _=>some i
 | _=>none
noncomputable def yu:List Expr->Option (List Int)
 | []=>some []
 | e::es=>(Cf e).bind λi=>(yu es).map (i :: ·)
theorem Vn{e:Expr}{i:Int}(h:Cf e=some i):∃a b,e=.Constant (.int i) a b:=by
 cases e with
 | Constant c a b =>
  cases c with
  | int j=>cases h;exact⟨_,_,rfl⟩
  | _=>cases h
 | _=>cases h
noncomputable def Vo(ns:List Int):bX:=λδ Q=>Q (aC ns) δ
theorem KL:∀(es:List Expr) (ns:List Int),yu es=some ns->PA X es (lO (Vo ns))
 | [],ns,h=>by cases h;exact eW
 | e::es,ns,h=>by
  obtain⟨i,hi,h2⟩:=Option.bind_eq_some_iff.mp (show(Cf e).bind (λi=>(yu es).map (i :: ·))=some ns from h)
  obtain⟨ms,hm,rfl⟩:=Af.mp h2
  obtain⟨a,b,rfl⟩:=Vn hi
  exact uA (fi (ay (i:=i)) (KL es ms hm)) λ_ _ _ q=>q
noncomputable def rn(ns:List Int):aB:=λδ Q=>ns.length<=sizeLine/\Q (.lst true (aC ns)) δ
theorem KN{es:List Expr}{ns:List Int}(h:yu es=some ns):PE X (.List es pos) (lE (rn ns)) :=
 cS (gz (KL es ns h)) λ_ _ _ zq=>by
 obtain⟨B,F,δ,ts,Qd,c,q,k⟩:=zq
 exact⟨B,F,δ,ts,Qd,c,by
  show(aC ns).length<=sizeLine/\_
  rw[kZ];exact q,k⟩
theorem ot{n:Nat}{g:fL}{tb:b9}{En:qe}{δ:Dl}(Iv:Nat->Dl->Prop)(h0:Iv 0 δ)(ht:∀k ag,k<n->Iv k ag->g (.int k) ag λaJ=>tb { En with nx:=Iv (k+1),ct:=Iv (k+1),bk:=En.nx } aJ)
  (hf:∀ag,Iv n ag->En.nx ag):iz (Ah (λ(k:Nat)=>D.int (0+(k:Int))) (au (n:Int).toNat)) g tb En δ:=by
 rw[jQ]
 refine iz.mk Iv h0 (λi d ag hd iv=>?_) λag iv=>hf ag (by simpa using iv)
 rw[cJ]at hd
 obtain⟨k,hk,rfl⟩:=Af.mp hd
 have hi:i<n:=by have:=(ji.mp hk).1;simpa using this
 rw[ky hi]at hk
 cases hk
 rw[HK]
 exact ht i ag hi iv
theorem mm{xs:List D}{k:Int}{d:D}(h0:0<=k)(h:xs[k.toNat]?=some d):dM xs k=some d:=by
 unfold dM gR
 have hk:k.toNat<xs.length:=(ji.mp h).1
 rw[if_pos h0,if_pos (by omega)]
 exact h
end
end L3
namespace L3
open PySem L2 PySem.Spec PyProof.Rows
noncomputable abbrev mH:=List D->(D->Prop)->(Addr->Prop)->Prop
noncomputable def vt(sp:mH):Sp:=λvs H Q E=>∃F ds Qd Ed,ae F H/\R F H ds vs []/\sp ds Qd Ed/\(∀d v F' H' A,Qd d->ae H H'->ae F F'->ae F' H'->(∀a ws,F' a=some (.lst ws)->F a=some (.lst ws)\/H a=none)->R F' H' [d] [v] A->A.Nodup->(∀a∈A,H a=none)->Q v H') /\
 ∀C H',Ed C->ae H H'->E (.ref C) none H'
section
variable{P:Program}{w:World}{K:PySem.W.Frag}{mg:Str->Option Value}{base:Heap}
theorem KO{x qual:Str}{st:Stmt}{f:Addr}{fd:FuncData}{N ps:List Str}{k:Nat}{sp:mH}(F:aH K x qual st f fd)(S:bq N ps (aM st))(len:∀ds Q E,sp ds Q E->ds.length=ps.length)
  (fg:∀(aA:Value) (A:Around) (outer:List Env) (s:Shared) (H:Hp) (E:XK),bM k (A.deeper (envOfC qual (aM st) s.heap.objs.size f aA)) ->
   ∃t:b9,PSs (gu (kN P w) P w K mg base N qual (aM st) f aA A outer s H E) (dY st) (lS (gu (kN P w) P w K mg base N qual (aM st) f aA A outer s H E) t) /\
    ∀ds Q Ex,sp ds Q Ex->t { nx:=λ_=>Q .ak,rt:=Q,xc:=λC _=>Ex C,xr:=λC _=>Ex C } (jE N ds)):aQ P w K mg base (kN P w) (k+1) f fd ps (vt sp):=by
 obtain⟨oc,od,kV,doc,pm,an,aA,ct,fG,rfl,lk,bS⟩:=F.ex
 refine yd lk bS S (λvs H Q E ⟨F,ds,Qd,Ed,e,r,h,_⟩=>by rw[<-r.length];exact len ds Qd Ed h) λA outer s H vs Q E hr zz=>?_
 obtain⟨F,ds,Qd,Ed,e,r,h,k,kx⟩:=zz
 obtain⟨t,ht,hq⟩:=fg aA A outer s H E hr
 have fin:∀d v ag ax F' H',Qd d->aj ⟨H,F⟩ F' H' ax ag [(d,v)]->Q v H':=λd v ag ax F' H' hd c=>by
  obtain⟨A,C,r',s',nd,fr⟩:=c.own
  exact k d v F' H' A hd c.b1 c.b2 c.ext c.b3 r' (fK.mp nd).1 λa ha=>fr a (eH _ ha)
 have e1:L2.start N vs=vs.map some++aK (N.length-ds.length) none:=by unfold L2.start;rw[r.length]
 refine⟨_,ht,⟨H,F⟩,F,jE N ds,_,?_,hq ds Qd Ed h,λag ax F' H' hd c=>fin .ak .ak ag ax F' H' hd (c.pushS (.ak .nil) rfl),fin,λ_ _ _ _ z=>z.elim,λ_ _ _ _ z=>z.elim,λC ag pins ax F' H' s' a T hx c I tr pa pT=>?_,λC ag pins ax F' H' s' h' e vs hx c I hm=>?_⟩
 ·rw[e1]
  exact aj.start e r _
 ·exact T3 I rfl rfl rfl tr pa pT λh' T' g=>⟨a,T',.ref C,H',rfl,I.os,I.bare,g.un,g.az,g.uo,g.a0,g.a1,g.t0,g.t1,kx C H' hx c.b1⟩
 ·exact T4 I rfl rfl rfl hm λh' T' g=>⟨e,T',.ref C,H',rfl,I.os,I.bare,g.un,g.az,g.uo,g.a0,g.a1,g.t0,g.t1,kx C H' hx c.b1⟩
end
section
variable{X:Cx}{n:Nat}{f:Addr}{fd:FuncData}{ps:List Str}{sp:mH}{x:Str}{p pos:Pos}{e:Expr}{es:List Expr}{t:bX}{tx:cS4}
noncomputable def rp(t:b9):b9:=λD δ=>t { D with xc:=λ_ _=>False,xr:=λ_ _=>False } δ
theorem Vp{st:Stmt}{u:b9}(h:PS X.eI st (lS X.eI u)):PS X st (lS X (rp u)):=by
 intro pins s σ H D I zz
 obtain⟨B,F,δ,Dd,c,q,k1,k2,k3,k4,xl⟩:=zz
 exact wpAny_mono (h pins s σ H D (I.iT _) ⟨B,F,δ,_,c,q,k1,k2,k3,k4,XL.none (λ_ _ z=>z) λ_ _ z=>z⟩) (λ_ _ q=>q.jV) λ_ _ z=>eC z
noncomputable def rq(C:Addr)(t:bX):b9:=λD δ=>t δ λds ag=>ds.length<=9/\D.xr C ag
structure Cg(K:PySem.W.Frag)(mg:Str->Option Value)(x:Str)(C:Addr):Prop where
 own:∀h:Heap,K.In h->h.Ns mainGlobals mg->∃newId Bn KP KQ B KR KS yv,OwnCls x C yv newId mg h/\ExcBaseFacts Bn newId KP KQ/\yv.contains (.type Bn)=true/\ExcBaseFacts B KR KS yv
theorem KU{C:Addr}{np br:Pos}(hm:Cg X.K X.mg x C)(hc:X.calm=true)(hg:Gl X x)(ha:PA X (e::es) (lA t))(cW:(x==("__debug__":Str))=false:=by decide)
  (he:starEach (e::es) X.env=(false,eval e X.env)::starEach es X.env:=by rfl) (bD:(backTo br (starEach es X.env)).any (·.1)=false:=by rfl) :
  PS X (.Raise (some (.Call (.Name x np) (e::es) [] br)) none pos) (lS X (rq C t)):=by
 intro pins s σ H D I zz
 obtain⟨B,F,δ,Dd,c,q,k1,k2,k3,k4,xl⟩:=zz
 obtain⟨newId,Bn,KP,KQ,B',KR,KS,yv,O,Fn,Vq,FB⟩:=hm.own X.base I.ok.mod.kC I.ok.mod.glob
 obtain⟨tl,N,nm,qn,bs,hdct,sn,sub,ab,col,dd,k0,n8,qT,Vr,k5,mN,hC,hN,mI,T⟩:=O.obj
 refine wpAny_Raise_call_subU (k5:=k5) (k3:=Vr) (k2:=qT) (k1:=n8) (k0:=k0) (dd:=dd) (col:=col) (ab:=ab) (sub:=sub) (sn:=sn) (hdct:=hdct) (bs:=bs) (N:=N) (q:=qn) (nm:=nm) (C:=C) Fn Vq FB (mN:=mN) (T.hasType FB.hasBase) (I.ok.hd hc) (by rw[he];show(false||(backTo br (starEach es X.env)).any (·.1))=false;rw[bD];rfl) mI (tQ I hg O.bound ⟨rfl,?_⟩ cW)
 have KW:=ha br pins s σ H (λvs H1=>vs.length<=9/\∃ag F',Dd.xr C ag/\aj B F' H1 σ ag []) I ⟨B,F,δ,[],_,c,q,λds ai vs F1 H1 q1 f1 h1 c1 s1=>⟨by rw[<-s1.length];exact q1.1,ai,F1,q1.2,c1⟩⟩
 rw[he]at KW ⊢
 refine Calls.evalArgs_plain (wpAny_mono KW (λus s2 h2=>?_) λ_ _ y=>y)
 obtain⟨vs,H1,I1,r,hl,ag,F',hx,c'⟩:=h2
 exact⟨rfl,by rw[<-r.length];exact dH hl (by decide),I1.bk _ _ hC,hN.keeps I1.bk,T.keeps I1.bk,λh' e' Vs=>xl.2 C ag pins σ F' H1 s2 h' e' _ hx c' I1 Vs⟩
end
end L3
namespace L3
open PySem L2 PySem.Spec PyProof.Rows
section
variable{X:Cx}{pins AH:List (Addr × Obj)}{σ:L2.St}{H:Hp}{s:Shared}{a:Addr}
end
section
variable{X:Cx}{tb th:b9}{body Vt:List Stmt}{Vu:Stmt}{K n:Str}{Kc:Addr}{i:Nat}{kp Vv pos:Pos}
end
end L3
namespace L3
open PySem L2 PySem.Spec PyProof.Rows
section
variable{X:Cx}{F H:Hp}{v:V}{a:Expr}{ta:aB}{p pos:Pos}
end
section
variable{K:PySem.W.Frag}{mg:Str->Option Value}{x:Str}{C:Addr}
theorem Vw(hm:mg x=some (.ref C))(q:PySem.W.excIn K C [.type "ValueError",.type "Exception",.type "BaseException",.type "object"] "ValueError.__new__"=true):Cg K mg x C:=by
 refine⟨λh X G=>⟨"ValueError.__new__","ValueError",_,_,"ValueError",_,_,[.type "ValueError",.type "Exception",.type "BaseException",.type "object"],?_,PySem.F.excBase_ValueError,rfl,PySem.F.excBase_ValueError⟩⟩
 refine⟨hm,?_⟩
 unfold PySem.W.excIn at q
 split at q
 ·rename_i dd cd sl ho
  split at q
  ·rename_i C' bm k0 k1 k2 k3 n k5 hm hs
   simp only[di,beq_iff_eq,Bool.not_eq_true']at q
   obtain⟨⟨⟨⟨⟨rfl,rfl⟩,KY⟩,ht⟩,az⟩,mI⟩:=q
   obtain⟨nm,bs,mro,ns,qn,hd,sn,sub,ab,col,del⟩:=cd
   dsimp only at hm KY az mI
   subst hm KY
   have Vx:sl=#[k0,k1,k2,k3,some (.builtin "ValueError.__new__"),k5]:=by
    obtain⟨l⟩:=sl
    simp only at hs
    rw[hs]
   subst Vx
   exact⟨bm,ns,nm,qn,bs,hd,sn,sub,ab,col,dd,k0,k1,k2,k3,k5,_,X _ _ ho,.of_isNs (PySem.W.isNs_of_in X az),PySem.W.nsMap_none_of_in X az mI,PySem.W.tail_of_in X ht⟩
  ·cases q
 ·cases q
end
theorem Ci{P:Program}{w:World}{X:Cx}:iV (kN P w) X E0:=by
 rintro _ _ _ _ _ _ _ ⟨_,_,_,_,_,_,_,_,_,_,_,_,_,_,z⟩
 exact z.elim
theorem Cj{P:Program}{w:World}{K:PySem.W.Frag}{mg:Str->Option Value}{base:Heap}{k:Nat}{f:Addr}{fd:FuncData}{ps:List Str}{sp:mH}(h:aQ P w K mg base (kN P w) k f fd ps (vt sp)) :
  aQ P w K mg base (kN P w) k f fd ps (bB λds Q=>sp ds Q λ_=>False) :=
 h.imp λvs H Q E zq=>by
 obtain⟨F,ds,Qd,e,r,q,k⟩:=zq
 exact⟨F,ds,Qd,_,e,r,q,k,λ_ _ z=>z.elim⟩
end L3
namespace L3
open PySem L2 PySem.Spec PyProof.Rows
theorem vw{CX:dm}{P:Program}{w:World}{K:PySem.W.Frag}{mg:Str->Option Value}{base:Heap}{N:List Str}{q:Str}{sc:Scope}{f:Addr}{aA:Value}{A:Around}{outer:List Env}{s:Shared}{H:Hp}{E:XK}:(gu CX P w K mg base N q sc f aA A outer s H E).K=K:=rfl
theorem vx(φ:p8):(D.bt φ).pl=true:=rfl
theorem vy(φ:p8):(D.bt φ).sh=.bt φ:=rfl
end L3
namespace L3
open PySem L2 PySem.Spec PyProof.Rows
theorem vz{X:Cx}:X.eI.K=X.K:=rfl
end L3
namespace L3
open PySem L2 PySem.Spec PyProof.Rows
noncomputable def eL(xs ys:List D):List D:=eR (λx y=>D.tup [x,y]) xs ys
noncomputable def fP(xs:List D):List D:=xs.mapIdx λi x=>D.tup [.int i,x]
theorem KZ(xs ys:List D):(eL xs ys).map D.sh=eL (xs.map D.sh) (ys.map D.sh):=by
 unfold eL
 rw[Ai,List.zipWith_map]
 congr 1
theorem Vy{xs ys:List D}(h1:xs.all D.pl=true)(h2:ys.all D.pl=true):(eL xs ys).all D.pl=true:=by
 unfold eL
 rw[dj]at h1 h2 ⊢
 intro d hd
 obtain⟨i,hi,e⟩:=jm hd
 rw[List.getElem_zipWith]at e
 subst e
 rw[jZ]
 simp only[dh,pF,kz,di]
 exact⟨h1 _ (eQ _),h2 _ (eQ _)⟩
theorem Vz(xs:List D):(fP xs).map D.sh=fP (xs.map D.sh):=by
 unfold fP
 apply HI
 intro i
 simp only[cJ,Aj,Option.map_map]
 cases xs[i]? with
 | none=>rfl
 | some x =>
  show some (D.sh (.tup [.int i,x]))=some (D.tup [.int i,x.sh])
  rw[kO];rfl
theorem VA{xs:List D}(h1:xs.all D.pl=true):(fP xs).all D.pl=true:=by
 unfold fP
 rw[dj]at h1 ⊢
 intro d hd
 obtain⟨i,hi,e⟩:=jm hd
 rw[List.getElem_mapIdx]at e
 subst e
 rw[jZ]
 simp only[dh,pF,kz,di]
 exact⟨rfl,h1 _ (eQ _)⟩
theorem vA(xs:List D):(fP xs).length=xs.length:=by simp[fP]
theorem Ck(xs ys:List D):(eL xs ys).length=min xs.length ys.length:=by simp[eL]
section
variable{F H:Hp}{d:D}{v:V}{xs ys:List D}{ws us:List V}{p q:Addr}{K:PySem.W.Frag}
theorem Cm(s:S F H [d] [v])(e2:ae F H)(e:i3 d=some xs):∃p ws,v=.ref p/\Rd H p (.lst ws)/\R H H (xs.map D.sh) ws []/\(d.pl=true->xs.all D.pl=true/\Rd F p (.lst ws)/\R F H xs ws []):=by
 cases s with
 | @shr p ws ys _ _ hp r _ =>
  obtain rfl:=cN e
  refine⟨p,ws,rfl,.inl (e2 _ _ hp),?_,λ_=>⟨r.pl,.inl hp,r⟩⟩
  rw[j4 r.pl]
  exact r.shared e2 (ae.refl _)
 | @own p ws ys _ _ hp r _ =>
  obtain rfl:=cN e
  exact⟨p,ws,rfl,.inl hp,r.frozen e2,λz=>by simp[gZ]at z⟩
 | @fz p o ws ys _ _ hp r _ =>
  obtain rfl:=cN e
  refine⟨p,ws,rfl,.inr ⟨o,e2 _ _ hp⟩,?_,λ_=>⟨r.pl,.inr ⟨o,hp⟩,r⟩⟩
  rw[j4 r.pl]
  exact r.shared e2 (ae.refl _)
 | ak _=>cases e
 | bl _=>cases e
 | int _=>cases e
 | str _=>cases e
 | tup _ _ _=>cases e
 | obj _ _ _ _=>cases e
 | bt _ _=>cases e
theorem Cn(r:R F H xs ws []){i:Nat}(hi:i<xs.length){x:V}(hx:ws[i]?=some x):R F H [xs[i]] [x] []:=by
 obtain⟨v,A1,e2,r1,sub⟩:=r.get (aR hi)
 rw[hx]at e2;cases e2
 have:A1=[]:=Pr.mpr λa ha=>by simpa using sub ha
 subst this
 exact r1
theorem K0(hp:Rd F p (.lst ws))(r:R F H xs ws [])(hq:Rd F q (.lst us))(t:R F H ys us [])(hF:Full F H):JD (BB K p q) F (eL xs ys) where
 go:=λi H' hs hi=>by
  rw[Ck]at hi
  have l1:=r.length
  have l2:=t.length
  exact⟨ws,us,_,_,.inl (gx hp hs),.inl (gx hq hs),aR (show i<ws.length by omega),aR (show i<us.length by omega)⟩
 iU:=λi H' v H2 hs hi zz=>by
  obtain⟨T,x,y,e1,e2,e3,hx,hy⟩:=zz
  subst e1 e3
  have yw:=hi
  rw[Ck]at yw
  have h1:=Cn (r.full hF hs rfl) (show i<xs.length by omega) (hx ws (.inl (gx hp hs)))
  have h2:=Cn (t.full hF hs rfl) (show i<ys.length by omega) (hy us (.inl (gx hq hs)))
  have sm:=ae.upd (o:=.tup [x,y]) e2
  refine⟨_,aR hi,sm,?_⟩
  have eg:(eL xs ys)[i]=.tup [xs[i]'(by omega),ys[i]'(by omega)]:=by simp[eL]
  rw[eg]
  exact R.tup (A:=[]) (B:=[]) bC ((h1.shared (ae.refl _) sm).cons (h2.shared (ae.refl _) sm)) .nil
 stop:=λi H' hs hi=>by
  rw[Ck]at hi
  have l1:=r.length
  have l2:=t.length
  exact⟨ws,us,.inl (gx hp hs),.inl (gx hq hs),by omega⟩
theorem K1(hp:Rd F p (.lst ws))(r:R F H xs ws [])(hF:Full F H):JD (BG K p) F (fP xs) where
 go:=λi H' hs hi=>by
  rw[vA]at hi
  have l1:=r.length
  exact⟨ws,_,.inl (gx hp hs),aR (show i<ws.length by omega)⟩
 iU:=λi H' v H2 hs hi zz=>by
  obtain⟨T,x,e1,e2,e3,hx⟩:=zz
  subst e1 e3
  have yw:=hi
  rw[vA]at yw
  have h1:=Cn (r.full hF hs rfl) yw (hx ws (.inl (gx hp hs)))
  have sm:=ae.upd (o:=.tup [.int i,x]) e2
  refine⟨_,aR hi,sm,?_⟩
  have eg:(fP xs)[i]=.tup [.int i,xs[i]]:=by simp[fP]
  rw[eg]
  exact R.tup (A:=[]) (B:=[]) bC (.int (h1.shared (ae.refl _) sm)) .nil
 stop:=λi H' hs hi=>by
  rw[vA]at hi
  have l1:=r.length
  exact⟨ws,.inl (gx hp hs),by omega⟩
end
section
variable{X:Cx}{a b:Expr}{ta:bX}{p pos jx:Pos}{elts:List Expr}{x1:Nat}
noncomputable def rz(t:bX):g6:=λδ Q=>t δ λds ag=>match ds with
 | [d1,d2]=>∃xs ys,i3 d1=some xs/\i3 d2=some ys/\Q (d1.pl&&d2.pl) (eL xs ys) ag
 | _=>False
theorem Co(hg:Gl X "zip")(hm:X.mg "zip"=none)(ha:PA X [a,b] (lA ta))(hs:starEach [a,b] X.env=[(false,eval a X.env),(false,eval b X.env)]:=by rfl)(fC:starEach [b] X.env=[(false,eval b X.env)]:=by rfl) :
  PI X (.Tuple elts x1 jx) (.Call (.Name "zip" p) [a,b] [] pos) (lI (rz ta)) :=
 qy (Ui hg hm ha hs fC) λσ H Q zq=>by
 obtain⟨B,F,δ,ts,Qd,c,q,k⟩:=zq
 exact⟨B,F,δ,ts,_,c,q,λds ai vs F1 H1 hd f1 h1 c1 s=>by
  match ds,hd,s with
  | [d1,d2],⟨xs,ys,i1,i2,hq⟩,s =>
   obtain⟨v1,bN,rfl,s1,s2⟩:=s.cF
   obtain⟨v2,cS5,rfl,s2,s3⟩:=s2.cF
   cases s3
   have e2:=c1.ext
   have sn:=nL e2
   obtain⟨p1,w1,rfl,r1,t1,u1⟩:=Cm s1 e2 i1
   obtain⟨p2,w2,rfl,r2,t2,u2⟩:=Cm s2 e2 i2
   refine⟨p1,p2,rfl,⟨w1,.inl r1⟩,⟨w2,.inl r2⟩,k _ _ ai _ _ H1 hq (f1.trans sn) h1 c1.snap ?_ λz=>?_⟩
   ·rw[KZ]
    exact K0 r1 t1 r2 t2 (Full.refl _)
   ·rw[di]at z
    obtain⟨a1,a2,a3⟩:=u1 z.1
    obtain⟨b1,b2,b3⟩:=u2 z.2
    exact⟨Vy a1 b1,K0 (gx a2 sn) (a3.shared sn (ae.refl _)) (gx b2 sn) (b3.shared sn (ae.refl _)) qa⟩⟩
noncomputable def rA(t:bX):g6:=λδ Q=>t δ λds ag=>match ds with
 | [d1]=>∃xs,i3 d1=some xs/\Q d1.pl (fP xs) ag
 | _=>False
theorem Cp(hg:Gl X "enumerate")(hm:X.mg "enumerate"=none)(ha:PA X [a] (lA ta))(hs:starEach [a] X.env=[(false,eval a X.env)]:=by rfl) :
  PI X (.Tuple elts x1 jx) (.Call (.Name "enumerate" p) [a] [] pos) (lI (rA ta)) :=
 qy (Ul hg hm ha hs) λσ H Q zq=>by
 obtain⟨B,F,δ,ts,Qd,c,q,k⟩:=zq
 exact⟨B,F,δ,ts,_,c,q,λds ai vs F1 H1 hd f1 h1 c1 s=>by
  match ds,hd,s with
  | [d1],⟨xs,i1,hq⟩,s =>
   obtain⟨v1,bN,rfl,s1,s2⟩:=s.cF
   cases s2
   have e2:=c1.ext
   have sn:=nL e2
   obtain⟨p1,w1,rfl,r1,t1,u1⟩:=Cm s1 e2 i1
   refine⟨p1,rfl,⟨w1,.inl r1⟩,k _ _ ai _ _ H1 hq (f1.trans sn) h1 c1.snap ?_ λz=>?_⟩
   ·rw[Vz]
    exact K1 r1 t1 (Full.refl _)
   ·obtain⟨a1,a2,a3⟩:=u1 z
    exact⟨VA a1,K1 (gx a2 sn) (a3.shared sn (ae.refl _)) qa⟩⟩
end
end L3
namespace L3
open PySem L2 PySem.Spec PyProof.Rows
section
variable{X:Cx}{F H:Hp}{e b:Expr}{pos p p2 p3 pr apos br Ce:Pos}{t ti te:aB}{x y:Str}{i j:Nat}
theorem K2{α:Type}{xs:List α}{k:Nat}{v:α}(h:xs[k]?=some v):dM xs (k:Int)=some v:=by
 unfold dM gR
 have hk:k<xs.length:=(ji.mp h).1
 rw[if_pos (by omega),if_pos (by omega)]
 exact h
end
section
variable{X:Cx}{CX:dm}{k:Nat}{f:Addr}{fd:FuncData}{ps:List Str}{sp:bx}{E:XK}{fn x1 x2 y1 y2:Str}{i1 i2 j1 j2:Nat}{tk:Nat}
 {tp t1 t2 zp cS6 q1 q2 fp cS7 a1 a2 VB cS8 cS9 cp Ce pr apos br cT0 pos:Pos}
end
end L3
namespace L3
open PySem L2 PySem.Spec PyProof.Rows
theorem aj.VC{B:Bs}{F H:Hp}{σ:L2.St}{δ:Dl}{ts:List (D × V)}{a b:D}{v:V}(c:aj B F H σ δ ((.tup [a,b],v)::ts)):∃p u w,v=.ref p/\H p=some (.tup [u,w])/\aj B F H σ δ ((a,u)::(b,w)::ts):=by
 obtain⟨A,C,r,s,nd,fr⟩:=c.own
 cases r with
 | @tup p ws xs A1 _ _ B1 hp r1 r2 =>
  obtain⟨u,eJ,A2,A3,rfl,rfl,h1,h2⟩:=r1.cF
  obtain⟨w,cT1,A4,A5,rfl,rfl,h3,h4⟩:=h2.cF
  cases h4
  refine⟨p,u,w,rfl,hp,c.ext,c.b1,c.b2,c.b3,A2++(A4++B1),C,h1.cons (h3.cons r2),s,?_,?_⟩
  ·simpa using nd
  ·intro a ha;exact fr a (by simpa using ha)
section
variable{X:Cx}{y1 y2:Str}{i1 i2 tk m:Nat}{t1 t2 tp:Pos}
noncomputable def i6(i1 i2:Nat):fL:=λd δ Q=>match d with
 | .tup [a,b]=>Q ((δ.set i1 (some a)).set i2 (some b))
 | _=>False
theorem rB(hc:X.calm=true)(K3:X.N.Nodup)(m1:X.N[i1]?=some y1)(l1:Loc X.env.scope y1)(m2:X.N[i2]?=some y2)(l2:Loc X.env.scope y2)(hm1:m<=i1:=by decide)(Kz:m<=i2:=by decide)
  (f1:X.fn y1=true\/X.env.scope.names.lookup y1=some .local:=by first | exact .inl rfl | exact .inr rfl | assumption) (f2:X.fn y2=true\/X.env.scope.names.lookup y2=some .local:=by first | exact .inl rfl | exact .inr rfl | assumption)
  (VD:(assignEach [.Name y1 t1,.Name y2 t2] X.env).map (·.2)=assign (.Name y1 t1) X.env::(assignEach [.Name y2 t2] X.env).map (·.2):=by rfl) (VE:(assignEach [.Name y2 t2] X.env).map (·.2)=assign (.Name y2 t2) X.env::(assignEach [] X.env).map (·.2):=by rfl)
  (hn:(assignEach [.Name y1 t1,.Name y2 t2] X.env).length=2:=by rfl) (cq:(assignEach [.Name y1 t1,.Name y2 t2] X.env).findIdx? (·.1)=none:=by rfl) :
  PG X (.Tuple [.Name y1 t1,.Name y2 t2] tk tp) (lG m (i6 i1 i2)) :=
 J5 (QG hc (Ip (xX K3 m1 l1 f1) (Ip (xX K3 m2 l2 f2) QE VE) VD) hn cq) λv σ H Q zz=>by
  obtain⟨B,F,δ,ts,d,Qd,c,q,k⟩:=zz
  obtain⟨a,b,rfl,q⟩:∃a b,d=D.tup [a,b]/\Qd ((δ.set i1 (some a)).set i2 (some b)):=by
   unfold i6 at q
   split at q
   ·exact⟨_,_,rfl,q⟩
   ·exact q.elim
  obtain⟨p,u,w,rfl,hp,c2⟩:=c.VC
  refine⟨p,[u,w],rfl,fB.of hp,rfl,u,[w],rfl,w,[],rfl,rfl,k _ _ q (by simp) (λj hj=>?_) ((c2.store i1).store i2)⟩
  rw[o7 (by omega),o7 (by omega)]
end
open Classical in
theorem i7{α:Type}{sh:Bool}{xs:List D}{aq:List (Str × Nat)}{n m:Nat}{te:aB}{ai:Dl}{Q:D->Dl->Prop}(l:List α)(e g:α->D)(hJ:xs.map D.sh=l.map e)(inj:∀a b,e a=e b->a=b)
  (hx:∀a∈l,te ((eK aq n ai).set m (some (e a))) λd _=>d=g a) (dz:(sh&&aq.all (g7 ai))=true\/∀a∈l,(g a).fr=true) (hl:l.length<=sizeLine) (hq:Q (.lst true (l.map g)) ai):qF sh xs aq n (gN m) j5 te ai Q:=by
 let f:D->D:=λx=>if h:∃a∈l,e a=x then g h.choose else .ak
 have hf:∀a∈l,f (e a)=g a:=λa ha=>by
  have h:∃b∈l,e b=e a:=⟨a,ha,rfl⟩
  show(if h:∃b∈l,e b=e a then g h.choose else .ak)=g a
  rw[dif_pos h]
  exact congrArg g (inj _ _ h.choose_spec.2)
 refine UO f (λx h=>?_) (dz.imp id λh x hx=>?_) ?_ ?_
 ·rw[hJ]at h
  obtain⟨a,ha,rfl⟩:=cC.mp h
  rw[hf a ha];exact hx a ha
 ·rw[hJ]at hx
  obtain⟨a,ha,rfl⟩:=cC.mp hx
  rw[hf a ha];exact h a ha
 ·have:=congrArg zR hJ
  simp at this
  omega
 ·rw[hJ,cV,show l.map (f ∘ e)=l.map g from gk λa ha=>hf a ha]
  exact hq
end L3
namespace L3
open PySem L2 PySem.Spec PyProof.Rows
end L3
namespace L2
open PySem PySem.Spec PyProof.Rows
section
variable{X:Cx}
end
end L2
namespace L3
open PySem L2 PySem.Spec PyProof.Rows
noncomputable abbrev tx(l:List Nat):D:=.str ⟨l.toArray⟩
section
variable{X:Cx}{F H:Hp}{e:Expr}{es:List Expr}{t:aB}{pos p p2 apos br:Pos}
noncomputable def ou(x:D)(lo hi:Option Int)(Q:D->Prop):Prop:=match x with
 | .lst _ xs=>xs.all D.pl=true/\Q (.lst true (gE xs lo hi))
 | .fz xs=>Q (.lst true (gE xs lo hi))
 | .str z=>z.length<=sizeLine/\Q (tx (gE z.cps.toList lo hi))
 | _=>False
noncomputable def rC(t:aB)(tl th:qY):aB:=λδ Q=>t δ λx ai=>tl ai λl aJ=>th aJ λu gy=>ou x l u λd=>Q d gy
theorem K4{lo hi:Option Expr}{tl th:qY}(he:PE X e (lB t))(hl:PO X lo (lP tl))(hu:PO X hi (lP th)):PE X (.Subscript e (.Slice lo hi none p2) pos) (lE (rC t tl th)) :=
 cS (Sg (Sv.or Up) he hl hu) λσ H Q zq=>by
 obtain⟨B,F,δ,ts,Qd,c,q,k⟩:=zq
 exact⟨B,F,δ,ts,_,c,q,λx ai v F1 H1 q1 f1 h1 c1 s1=>⟨B,F1,ai,ts,_,c1,q1,λl aJ F2 H2 q2 f2 h2 c2=>⟨B,F2,aJ,ts,_,c2,q2,λu gy F3 H3 q3 f3 h3 c3=>by
  have kY:=s1.mono (f2.trans f3) (h2.trans h3)
  unfold ou at q3
  split at q3
  ·obtain⟨p,ws,rfl,h,t⟩:=kT kY c3.ext rfl
   exact .inl ⟨p,ws,rfl,jJ h,λr hr=>k _ gy _ F3 _ q3.2 ((f1.trans f2).trans f3) (((h1.trans h2).trans h3).trans (ae.upd hr)) (c3.mw hr (t.cut _ _) (KG q3.1 _ _))⟩
  ·obtain⟨p,ws,rfl,h,t⟩:=kT kY c3.ext rfl
   cases kY with
   | fz h' r _=>exact .inl ⟨_,_,rfl,jJ (.inr ⟨_,c3.ext _ _ h'⟩),λr' hr=>k _ gy _ F3 _ q3 ((f1.trans f2).trans f3) (((h1.trans h2).trans h3).trans (ae.upd hr)) (c3.mw hr (r.s.cut _ _) (KG r.pl _ _))⟩
  ·cases kY with
   | str _=>exact .inr ⟨_,rfl,q3.1,k _ gy _ F3 H3 q3.2 ((f1.trans f2).trans f3) ((h1.trans h2).trans h3) (c3.pushS (.str .nil) rfl)⟩
  ·exact q3.elim⟩⟩⟩
end
end L3
namespace L3
open PySem L2 PySem.Spec PyProof.Rows
noncomputable def aE(l:List Nat):List D:=aC (l.map λ(n:Nat)=>(n:Int))
theorem ka(l:List Nat):(aE l).length=l.length:=by unfold aE;rw[kZ,bQ]
theorem dF(l:List Nat):aE l=l.map λ(n:Nat)=>D.int (n:Int):=by unfold aE aC;rw[cV];rfl
theorem yx(l:List Nat):(aE l).map D.sh=l.map λ(n:Nat)=>D.int (n:Int):=by unfold aE;rw[i5];exact dF l
theorem ow(a b:Nat)(h:D.int (a:Int)=D.int (b:Int)):a=b:=by injection h with h;omega
theorem rD(l:List Nat):(aE l).all D.pl=true:=mF _
theorem oy(l:List Nat):(aE l).map D.sh=aE l:=i5 _
theorem VF{α:Type}(xs:List α)(b:Nat):gE xs none (some (b:Int))=xs.take b:=by
 have:=Vm xs 0 b
 unfold gE at this ⊢
 simpa[HT.cu]using this
theorem VG{α:Type}(xs:List α)(a:Nat):gE xs (some (a:Int)) none=xs.drop a:=by
 unfold gE
 rw[HT.Ba]
 show(xs.drop (min a xs.length)).take (xs.length-min a xs.length)=_
 by_cases h:a<=xs.length
 ·rw[Nat.min_eq_left h,Ad (by rw[pf];exact bI _)]
 ·rw[Nat.min_eq_right (by omega),List.drop_length,HJ (by omega)];simp
end L3
namespace L2
open PySem PySem.Spec PyProof.Rows
section
variable{X:Cx}{tg l o e:Expr}{tl to te:TE}{apos br:Pos}
end
end L2
namespace L3
open PySem L2 PySem.Spec PyProof.Rows
section
variable{X:Cx}{F H:Hp}{tg l e:Expr}{te t tb:aB}{apos br pos:Pos}
variable{o:Expr}
theorem Cq:∀{ns:List Int} {ws:List V},S F H (aC ns) ws->ws=ns.map V.int
 | [],_,s=>by cases s;rfl
 | n::ns,_,s=>by
  cases s with
  | int s=>rw[Cq s];rfl
end
end L3
namespace L3
open PySem L2 PySem.Spec PyProof.Rows
end L3
namespace L2
open PySem PySem.Spec PyProof.Rows
noncomputable def Tb(ts:List Addr)(H:Hp):Prop:=∀P∈ts,∃ps,H P=some (.cL ps)
structure rE(ts:List Addr)(H:Hp):Prop where
 any:∀b,H b=none\/(∃o xs,H b=some (.bc o (.lst xs)))\/(b∈ts/\H b=some (.cL #[]))
 tab:∀P∈ts,H P=some (.cL #[])
theorem rE.tb{ts:List Addr}{H:Hp}(h:rE ts H):Tb ts H:=λP hP=>⟨#[],h.tab P hP⟩
noncomputable def Bm(mg:Str->Option Value)(base:Heap):Prop:=∃bm o,mg "__builtins__"=some (.ref bm)/\bm≠builtinsNs/\bm≠mainGlobals/\base.get? bm=some o/\o.cls=.type "module"/\o.dict=some builtinsNs/\o.data=.plain
theorem VH{P:Program}{w:World}{K:PySem.W.Frag}{mg mb:Str->Option Value}{CX:dm}{k:Nat}{fa a:Addr}{fd:FuncData}{x:Str}{sp:Sp}{bh:Shared}{vs:List Value}{ns:List Int}{ts:List Addr}
  (KX:K.In bh.heap) (yy:bh.heap.Ns mainGlobals mg) (hb:bh.heap.Ns builtinsNs mb) (VI:∀x:Str,x≠"__name__"->mb x=bootBuiltins x) (VJ:bh.heap.NoLimit) (hg:bh.gens=#[])
  (ht:∀P∈ts,bh.heap.get? P=some (PySem.W.tabObj #[])) (Cr:∀P∈ts,isCodeTable bh.heap P) (VL:∀P∈ts,K.lookup P=none)
  (ha:bh.heap.get? a=some { cls:=.type "list",data:=.seq vs.toArray }) (hi:IntsAre vs ns) (hl:ns.length<=sizeLine) (hr:bM k callerA)
  (vB:Bm mg bh.heap) (F:∀base:Heap,K.In base->base.Ns mainGlobals mg->Bm mg base->aQ P w K mg base CX k fa fd [x] sp) (VM:∀(s:Shared) (u:Value),BindsTo s fd ⟨[u],[]⟩ [(x,u)])
  (fH:∀H:Hp,rE ts H->bz K H a (ns.map V.int)->sp [.ref a] H (λv _=>v=.bl true) λ_ _ _=>False)
  (Cs:∀H e s',CX [] H bh (λ_ _ _=>False) e s'->False) :
  codeAny (model P w) callerA (.call (.ref fa) ⟨[.ref a],[]⟩) (λr s'=>r=.ok (.ret (.bool true))/\OldK bh.heap s'.heap/\s'.os=bh.os/\AllBare s'.gens) bh:=by
 have rv:=Ji hi
 have VN:=hi.length
 have nat:a ∉ ts:=λz=>by
  have:=ht a z
  rw[ha]at this
  cases this
 have core:∀H:Hp,rE ts H->bz K H a (ns.map V.int)->bZ P w H bh.heap->(∀b,H b≠none->b=a\/b∈ts)->(H a≠none->K.lookup a=none) ->
   codeAny (model P w) callerA (.call (.ref fa) ⟨[.ref a],[]⟩) (λr s'=>r=.ok (.ret (.bool true))/\OldK bh.heap s'.heap/\s'.os=bh.os/\AllBare s'.gens) bh:=by
  intro H hO hS az hA hK
  have Ct:∀{b:Addr} {o:Obj},bh.heap.get? b=some o->H b=none->(jT bh.heap H).get? b=some o:=λe n=>PY e n
  have t9:∀{b:Addr} {o:Obj} {es:Array DictEntry} {ep:Nat},bh.heap.get? b=some o->o.data=.dict es ep->H b=none:=λ{b o es ep} e d=>by
   cases q:H b with
   | none=>rfl
   | some u =>
    rcases hA b (by rw[q];simp)with e' | e'
    ·subst e'
     rw[ha]at e;cases e
     have d':Data.seq vs.toArray _=Data.dict es ep:=d
     cases d'
    ·rw[ht b e']at e;cases e
     have d':Data.fields #[]=Data.dict es ep:=d
     cases d'
  have yz:∀{b:Addr} {m:Str->Option Value},bh.heap.Ns b m->(jT bh.heap H).Ns b m:=λ{b m} ⟨o,es,ep,e,d,r⟩=>⟨o,es,ep,Ct e (t9 e d),d,r⟩
  have K5:K.In (jT bh.heap H):=λb o e=>Ct (KX b o e) (by
   cases q:H b with
   | none=>rfl
   | some u =>
    rcases hA b (by rw[q];simp)with e' | e'
    ·subst e'
     rw[hK (by rw[q];simp)]at e;cases e
    ·rw[VL b e']at e;cases e)
  have VO:Bm mg (jT bh.heap H):=by
   obtain⟨bm,o,b1,b2,b3,b4,b5,b6,b7⟩:=vB
   refine⟨bm,o,b1,b2,b3,Ct b4 ?_,b5,b6,b7⟩
   cases q:H bm with
   | none=>rfl
   | some u =>
    rcases hA bm (by rw[q];simp)with e' | e'
    ·rw[e',ha]at b4;cases b4
     have d':Data.seq vs.toArray _=Data.plain:=b7
     cases d'
    ·rw[ht bm e']at b4;cases b4
     have d':Data.fields #[]=Data.plain:=b7
     cases d'
  have hM:Mod K mg (jT bh.heap H):=⟨K5,yz yy,⟨mb,yz hb,VI⟩,let⟨mc,h1,h2⟩:=VJ;⟨mc,yz h1,h2⟩⟩
  have e0:gP P w K mg (jT bh.heap H) callerA [] bh H:=⟨rfl,hM,λb o e=>PZ e,zQ (PX _ _),trivial,λb hb=>absurd (show b∈([]:List Addr) from hb) (by simp),az,.of_eq hg⟩
  refine codeAny_mono ((F _ K5 (yz yy) VO).run callerA [] bh H ⟨[.ref a],[]⟩ [.ref a] [.ref a] _ _ hr e0 (VM bh (.ref a)) (.cons rfl .nil) (fH H hO hS)) λr s' h=>?_
  cases r with
  | error e=>exact(Cs H e s' h).elim
  | ok fl =>
   cases fl with
   | next=>exact eC h
   | brk=>exact eC h
   | cont=>exact eC h
   | ret u =>
    obtain⟨v,H',os,bare,un,K6,r',q⟩:=h
    have q':v=.bl true:=q
    subst q'
    obtain rfl:u=zO true:=r'
    have each:∀b o,bh.heap.get? b=some o->asItWas bh.heap s'.heap b o/\∃o',s'.heap.get? b=some o':=λb o e=>by
     cases q:H b with
     | none =>
      have z:=un.keep b o e q (by intro z;exact absurd (show b∈([]:List Addr) from z) (by simp)) (by simp)
      exact⟨.inl z,o,z⟩
     | some u =>
      rcases hO.any b with z | ⟨ob,xs,z⟩ | ⟨iD,z⟩
      ·rw[q]at z;cases z
      ·have z2:=un.ig b ob _ z
       obtain⟨e1,_⟩:=az b _ z
       obtain⟨e2,_⟩:=K6 b _ z2
       rw[e]at e1;cases e1
       exact⟨.inl e2,_,e2⟩
      ·obtain⟨more,z2⟩:=un.gq b _ z
       have e2:=(K6 b _ z2).1
       rw[ht b iD]at e;cases e
       exact⟨.inr (.inl ⟨Cr b iD,rfl,#[],more,rfl,e2⟩),_,e2⟩
    exact⟨rfl,⟨λb o e=>(each b o e).1,λb o e=>(each b o e).2⟩,os,bare⟩
 have tok:∀(H:Hp) (b:Addr),b∈ts->c9 P w H bh.heap b (.cL #[]):=λH b hb=>⟨ht b hb,trivial,λpos cv q=>by cases q⟩
 cases hk:K.lookup a with
 | some o =>
  have e:=KX a o hk
  rw[ha]at e
  cases e
  refine core (λb=>if b∈ts then some (.cL #[])else none) ⟨λb=>?_,λb hb=>if_pos hb⟩ (.inr ⟨_,vs.toArray,_,hk,rfl,rfl,rfl,by rw[cO,VN];exact hl,by simpa using rv⟩) (λb u z=>?_) (λb z=>?_) λz=>absurd (if_neg nat) z
  ·by_cases hb:b∈ts
   ·exact .inr (.inr ⟨hb,if_pos hb⟩)
   ·exact .inl (if_neg hb)
  ·by_cases hb:b∈ts
   ·have z':=(if_pos hb).symm.trans z
    cases z'
    exact tok _ b hb
   ·have z':=(if_neg hb).symm.trans z
    cases z'
  ·by_cases hb:b∈ts
   ·exact .inr hb
   ·exact absurd (if_neg hb) z
 | none =>
  refine core (λb=>if b=a then some (.bc { cls:=.type "list",data:=.seq vs.toArray } (.lst (ns.map V.int)))else if b∈ts then some (.cL #[])else none) ⟨λb=>?_,λb hb=>?_⟩ (.inl (.inr ⟨{ cls:=.type "list",data:=.seq vs.toArray },if_pos rfl⟩)) (λb u z=>?_) (λb z=>?_) λ_=>hk
  ·by_cases hb:b=a
   ·exact .inr (.inl ⟨_,_,if_pos hb⟩)
   ·by_cases iD:b∈ts
    ·exact .inr (.inr ⟨iD,(if_neg hb).trans (if_pos iD)⟩)
    ·exact .inl ((if_neg hb).trans (if_neg iD))
  ·have jY:b≠a:=λz=>nat (z ▸ hb)
   exact(if_neg jY).trans (if_pos hb)
  ·by_cases hb:b=a
   ·have z':=(if_pos hb).symm.trans z
    cases z'
    subst hb
    exact⟨ha,by rw[bQ];exact hl,vs,_,rv,ha⟩
   ·by_cases iD:b∈ts
    ·have z':=((if_neg hb).trans (if_pos iD)).symm.trans z
     cases z'
     exact tok _ b iD
    ·have z':=((if_neg hb).trans (if_neg iD)).symm.trans z
     cases z'
  ·by_cases hb:b=a
   ·exact .inl hb
   ·by_cases iD:b∈ts
    ·exact .inr iD
    ·exact absurd ((if_neg hb).trans (if_neg iD)) z
theorem VP{l:PySem.W.OpenLaw}{n k:Nat}{q:Program}{loose:List Str}{XP:(Str->Option Value)->Heap->Prop}{YP:World->Heap->Prop}{d:DefRec}{K:Params->PySem.W.Frag}{CX:World->dm}{sp:World->Sp}{x:Str}{ts:List Addr}
  (hn:l.most=some n) (mj:n<=sizeLine) (ue:d.params.defaults=[]) (hr:bM k callerA)
  (hY:∀(w:World) (h:Heap),YP w h->(K w.params).In h/\∀P∈ts,h.get? P=some (PySem.W.tabObj #[]))
  (hC:∀(w:World) (h:Heap),(K w.params).In h->∀P∈ts,(K w.params).lookup P=none/\∃c,PySem.W.CodeHd h c P)
  (F:∀(w:World) (mg:Str->Option Value) (fa:Addr) (h:Heap),(K w.params).In h->h.Ns mainGlobals mg->mg d.name=some (.ref fa) ->
   ∃fd:FuncData,(∀(s:Shared) (u:Value),BindsTo s fd ⟨[u],[]⟩ [(x,u)]) /\
    ∀base:Heap,(K w.params).In base->base.Ns mainGlobals mg->Bm mg base->aQ l.prog w (K w.params) mg base (CX w) k fa fd [x] (sp w))
  (fH:∀(w:World) (H:Hp) (a:Addr) (ns:List Int),ns.length<=n->rE ts H->bz (K w.params) H a (ns.map V.int)->sp w [.ref a] H (λv _=>v=.bl true) λ_ _ _=>False)
  (Cs:∀(w:World) (H:Hp) (s:Shared) (e:Value) (s':Shared),CX w [] H s (λ_ _ _=>False) e s'->False) :
  PySem.W.WalkO q loose XP YP l.row.toRowW d [] (λf vs=>PySem.call f vs):=by
 refine Att.SW hn ue λw b8 bh mg mb fa o pm cd doc a vs ns G Y ho hd bS uf Bj hints hlen hg=>?_
 obtain⟨KX,hT⟩:=hY w _ Y
 obtain⟨fd,hb,hF⟩:=F w mg fa _ KX G.T.g uf
 have Cr:∀P∈ts,isCodeTable bh.heap P:=λP hP=>by
  obtain⟨_,c,C⟩:=hC w _ KX P hP
  exact(C.tab (hT P hP)).isCodeTable
 have vB:Bm mg bh.heap:=by
  obtain⟨bm,ob,b1,b2,b3,b4,b5,b6⟩:=G.T.bmain
  refine⟨bm,ob,b1,b2,λq=>?_,b3,b4,b5,b6⟩
  obtain⟨o,es,ep,e,hd,_⟩:=G.T.g
  rw[q,e]at b3;cases b3;rw[hd]at b6;cases b6
 exact VH KX G.T.g G.T.b G.T.builtins G.T.nolimit hg hT Cr (λP hP=>(hC w _ KX P hP).1) Bj hints (dH hlen mj) hr vB hF hb (λH hO hS=>fH w H a ns hlen hO hS) λH e s'=>Cs w H bh e s'
end L2
namespace L3
open PySem L2 PySem.Spec PyProof.Rows
noncomputable def vC(ts:List Addr)(sp:Sp):Sp:=λvs H Q E=>Tb ts H/\sp vs H Q E
theorem Cu{X:Cx}{pins:List (Addr × Obj)}{σ:L2.St}{H:Hp}{s:Shared}{ts:List Addr}(I:Inv X pins σ H s)(h:Tb ts X.iP):Tb ts H:=λP hP=>by
 obtain⟨ps,e⟩:=h P hP
 obtain⟨m,e2⟩:=I.base.gq P ps e
 exact⟨_,e2⟩
noncomputable def yA(ts:List Addr)(K:PySem.W.Frag):Sp:=λvs H Q _=>∃(a:Addr) (ns:List Int),vs=[.ref a]/\rE ts H/\bz K H a (ns.map V.int)/\ns.length<=63/\∀H',Q (.bl true) H'
theorem VQ{ts:List Addr}{K:PySem.W.Frag}(nl:K.all (λp=>Cd p.2)=true){vs:List V}{H:Hp}{Q:VK}{E:XK}(h:yA ts K vs H Q E):vC ts (bB KH) vs H Q E:=by
 obtain⟨a,ns,rfl,hO,hS,hl,q⟩:=h
 have hz:∃o,H a=some (.bc o (.lst (ns.map V.int))):=by
  rcases hS with (hS | hS) | ⟨o,its,n,hk,hc,_⟩
  ·rcases hO.any a with z | ⟨o,xs,z⟩ | ⟨_,z⟩
   ·rw[hS]at z;cases z
   ·rw[hS]at z;cases z
   ·rw[hS]at z;cases z
  ·exact hS
  ·have hm:=Vk hk
   have:=dj.mp nl _ hm
   simp[Cd,hc]at this
 obtain⟨o,ho⟩:=hz
 refine⟨hO.tb,H,[.fz (aC ns)],λd=>d=.bl true,ae.refl _,.fz ho (jK ns) .nil,⟨ns,rfl,hl,rfl⟩,λd v F' H' A hd hs hf he h3 r nd fr=>?_⟩
 subst hd
 cases r
 exact q H'
end L3
namespace L2
open PySem PySem.Spec PyProof.Rows
noncomputable def rem(H:Hp)(f c:Addr):Hp:=λb=>if b=f\/b=c then none else H b
noncomputable def k7(H H':Hp)(f c:Addr):Hp:=λb=>if b=f\/b=c then H b else H' b
section
variable{P:Program}{w:World}{H H':Hp}{h:Heap}{a b f c:Addr}{o:HO}{of oc:Obj}
theorem K7:rem H f c f=none:=if_pos (.inl rfl)
theorem yB:rem H f c c=none:=if_pos (.inr rfl)
theorem fQ(h1:b≠f)(h2:b≠c):rem H f c b=H b:=if_neg (by simp[h1,h2])
theorem rF(e:H b=none):rem H f c b=none:=by unfold rem;split;rfl;exact e
theorem K8(e:rem H f c b=some o):b≠f/\b≠c/\H b=some o:=by
 unfold rem at e
 split at e
 ·cases e
 ·rename_i n
  exact⟨λz=>n (.inl z),λz=>n (.inr z),e⟩
theorem mJ(h1:b≠f)(h2:b≠c):k7 H H' f c b=H' b:=if_neg (by simp[h1,h2])
theorem K9:k7 H H' f c f=H f:=if_pos (.inl rfl)
theorem Cv:k7 H H' f c c=H c:=if_pos (.inr rfl)
theorem c9.rem{φ:Heap->Prop}(x:c9 P w H h a o)(ha:a≠f)(hf:H f=some (.ext φ))(hc:H c=some (.own f)\/H c=none)(Cw:¬ ∀h',φ h'->∃q,h'.CodeRec (.ref f) q):c9 P w (rem H f c) h a o:=by
 have own:∀b,H b=some (.own a)->L2.rem H f c b=some (.own a):=λb e=>by
  rw[fQ (λz=>by subst z;rw[hf]at e;cases e) (λz=>by subst z;rcases hc with hc | hc<;>(rw[hc]at e;cases e);exact ha rfl)];exact e
 have tup:∀b xs,H b=some (.tup xs)->L2.rem H f c b=some (.tup xs):=λb xs e=>by
  rw[fQ (λz=>by subst z;rw[hf]at e;cases e) (λz=>by subst z;rcases hc with hc | hc<;>(rw[hc]at e;cases e))];exact e
 induction o with
 | lst xs=>exact x
 | tup xs=>exact x
 | dK cQ=>exact x
 | dT cQ =>
  obtain⟨z,y,xs,r,ob⟩:=x
  exact⟨z,y,xs,Paired.AB r λp q z=>⟨z.1,tup _ _ z.2.1,z.2.2⟩,ob⟩
 | set S n=>exact x
 | ins C dx fs =>
  obtain⟨d,r⟩:=x
  exact⟨own _ d,r⟩
 | own y=>exact x
 | xd fs=>exact x
 | tJ lo hi=>exact x
 | bc ob u ih=>obtain⟨e,q⟩:=x;exact⟨e,ih q⟩
 | cL ps =>
  obtain⟨e,t,cc⟩:=x
  refine⟨e,t,λpos cv q=>?_⟩
  obtain⟨d,φ,e1,e2,e3⟩:=cc pos cv q
  refine⟨d,φ,e1,?_,e3⟩
  rw[fQ (λz=>?_) (λz=>by subst z;rcases hc with hc | hc<;>(rw[hc]at e2;cases e2))]
  ·exact e2
  ·subst z
   rw[hf]at e2;cases e2
   exact Cw e3
 | met f y=>exact x
 | ext φ=>obtain⟨p,r,st⟩:=x;exact⟨p,r,λh1 h2 p1 kk=>st h1 h2 p1 λb o hb q=>kk b o (hb.imp id (own b)) q⟩
theorem La{φ:Heap->Prop}{fd:FuncData}(p:φ h)(g:∀h',φ h'->h'.get? f=some of)(hd:of.data=.func fd):¬ ∀h',φ h'->∃q,h'.CodeRec (.ref f) q:=λz=>by
 obtain⟨q,k,ok,vs,t,q1,q2,q3,_⟩:=z h p
 cases q1
 rw[g h p]at q2;cases q2
 rw[hd]at q3;cases q3
theorem bZ.lam(ok:bZ P w H h)(hf:H f=some (.ext (L3.iy of oc c f))):L3.iy of oc c f h:=(ok f _ hf).1
theorem bZ.rem{fd:FuncData}(ok:bZ P w H h)(hf:H f=some (.ext (L3.iy of oc c f)))(hc:H c=some (.own f))(hd:of.data=.func fd):bZ P w (rem H f c) h:=λb o e =>
 let⟨h1,_,h3⟩:=K8 e;(ok b o h3).rem h1 hf (.inl hc) (La (ok.lam hf) (λ_ p=>p.1) hd)
end
theorem gP.rem{P:Program}{w:World}{K:PySem.W.Frag}{mg:Str->Option Value}{base:Heap}{A:Around}{outer:List Env}{s:Shared}{H:Hp}{f c:Addr}{of oc:Obj}{fd:FuncData}(e:gP P w K mg base A outer s H)
  (hf:H f=some (.ext (L3.iy of oc c f))) (hc:H c=some (.own f)) (hd:of.data=.func fd):gP P w K mg base A outer s (rem H f c) :=
 ⟨e.frames,e.mod,λb o q=>⟨(e.bs b o q).1,rF (e.bs b o q).2⟩,e.iQ,e.fe,λb hb=>rF (e.iS b hb),e.az.rem hf hc hd,e.bare⟩
theorem CE.add{P:Program}{w:World}{K:PySem.W.Frag}{mg:Str->Option Value}{base:Heap}{A:Around}{outer:List Env}{s s':Shared}{H:Hp}{f c:Addr}{of oc:Obj}{Q Q':VK}{u:Value}(e0:gP P w K mg base A outer s H)
  (hf:H f=some (.ext (L3.iy of oc c f))) (hc:H c=some (.own f)) (h:CE outer P w (rem H f c) s Q u s') (hQ:∀v H',Q v H'->H' f=none->H' c=none->Q' v (k7 H H' f c)):CE outer P w H s Q' u s':=by
 obtain⟨v,H',os,bare,un,az,r,q⟩:=h
 obtain⟨gf,gc⟩:=e0.az.lam hf
 have Lb:∀{b o},H b=some o->b ∉ da outer:=λ{b o} e z=>by rw[e0.iS b z]at e;cases e
 have nf:H' f=none:=un.free f _ gf K7 (by simp)
 have nc:H' c=none:=un.free c _ gc yB (by simp)
 have kf:=un.keep f _ gf K7 (Lb hf) (by simp)
 have kc:=un.keep c _ gc yB (Lb hc) (by simp)
 refine⟨v,k7 H H' f c,os,bare,⟨λb o e n=>un.keep b o e (rF n),λb o e n=>un.slot b o e (rF n),λb o e n x=>?_,un.there,λb xs e=>?_,λb ob xs e=>?_,λb ps e=>?_⟩,λb o e=>?_,r,hQ v H' q nf nc⟩
 ·rw[mJ (λz=>by subst z;rw[hf]at n;cases n) (λz=>by subst z;rw[hc]at n;cases n)]
  exact un.free b o e (rF n) x
 ·have n1:b≠f:=λz=>by subst z;rw[hf]at e;cases e
  have n2:b≠c:=λz=>by subst z;rw[hc]at e;cases e
  rw[mJ n1 n2]
  exact un.iO b xs (by rw[fQ n1 n2];exact e)
 ·have n1:b≠f:=λz=>by subst z;rw[hf]at e;cases e
  have n2:b≠c:=λz=>by subst z;rw[hc]at e;cases e
  rw[mJ n1 n2]
  exact un.ig b ob xs (by rw[fQ n1 n2];exact e)
 ·have n1:b≠f:=λz=>by subst z;rw[hf]at e;cases e
  have n2:b≠c:=λz=>by subst z;rw[hc]at e;cases e
  rw[mJ n1 n2]
  exact un.gq b ps (by rw[fQ n1 n2];exact e)
 ·by_cases z:b=f
  ·subst z
   rw[K9,hf]at e;cases e
   refine⟨⟨kf,kc⟩,⟨_,kf⟩,λh1 h2 p kk=>⟨kk b _ (.inl rfl) p.1,kk c _ (.inr ?_) p.2⟩⟩
   rw[Cv];exact hc
  ·by_cases z2:b=c
   ·subst z2
    rw[Cv,hc]at e;cases e
    exact⟨_,kc⟩
   ·rw[mJ z z2]at e
    have up:∀{b' o'},H' b'=some o'->k7 H H' f c b'=some o':=λ{b' o'} q=>by
     rw[mJ (λz=>by subst z;rw[nf]at q;cases q) (λz=>by subst z;rw[nc]at q;cases q)];exact q
    exact(az b o e).jt (λ_ _ _ q=>q) (λ_ q=>up q) (λ_ _ q=>up q) λ_ _ q=>up q
theorem VR{prog:Program}{w:World}{A:Around}{R:Result->Shared->Prop}{s:Shared}{a:Addr}{args:Args}{o:Obj}{fd:FuncData}{body:Expr}{q:Str}(VS:A.depth<recursionLimit)
  (ho:s.heap.get? a=some o)
  (tM:o.data=.func fd) (VT:fd.scope.isCoroutine=false) (VU:fd.scope.isGenerator=false) (fg:fd.body=.expr body) (bS:s.heap.CodeRec fd.code q)
  (h:wpAny (model prog w) A.in1 (bindArgs fd args) (λbinds bh =>
   wpAny (model prog w) A.in1 (newFunctionEnv fd.scope fd.globals fd.closure binds (q++".<locals>.") (some a) fd.code none fd.builtins)
    (λenv jw=>jw.heap.NoLimit/\codeAny (model prog w) A (.expr body env) R jw) (λe s'=>R (.error e) s') bh) (λe s'=>R (.error e) s') s) :
  codeAny (model prog w) A (.call (.ref a) args) R s:=by
 refine codeAny_of_tree ?_
 show wpAny _ A.in1 (callAny (.ref a) args) _ _ s
 simp only[callAny]
 refine wpAny_bind (wpAny_load ho ?_)
 obtain⟨c,oc,vs,tq,hc,gL,Cy,hq⟩:=bS
 simp only[tM,callFunction,VT,VU,fg,hc]
 rw[hc]at h
 refine wpAny_bind (m:=field (.ref c) 1) (wpAny_field gL Cy hq (wpAny_bind (wpAny_pure ?_)))
 exact wpAny_bind (wpAny_mono h (λbinds bh yC=>wpAny_bind (wpAny_mono yC (λenv jw Lc=>wpAny_bind (wpAny_enterFrame Lc.1 VS
  (wpAny_pure (And.intro rfl Lc.2)))) λ_ _ h'=>h')) λ_ _ h'=>h')
structure Ld(p1 p2 x:Str)(sc:Scope):Prop where
 kind:sc.kind=.function
 co:sc.isCoroutine=false
 gen:sc.isGenerator=false
 nd:[p1,p2,x].Nodup
 l1:sc.names.lookup p1=some .local
 l2:sc.names.lookup p2=some .local
 Le:∀y∈sc.names,y.2≠.cell
 only:∀y∈sc.names,y.2=.free->y.1=x
 lx:sc.names.lookup x=some .free
noncomputable def oA(CX:dm)(P:Program)(w:World)(K:PySem.W.Frag)(mg:Str->Option Value)(base:Heap)(N:List Str)(qual:Str)(scope:Scope)(f:Addr)(cd:Value)(cl:List (Str × Addr))(A:Around)(outer:List Env)(s:Shared)(H:Hp)(E:XK):Cx where
 prog:=P
 w:=w
 K:=K
 mg:=mg
 base:=base
 A:=A.deeper (PySem.W.envX qual scope s.heap.objs.size f cd cl)
 N:=N
 b8:=s
 iP:=H
 env:=PySem.W.envX qual scope s.heap.objs.size f cd cl
 outer:=outer
 stack:=PySem.W.envX qual scope s.heap.objs.size f cd cl::outer
 ex:=[]
 calm:=true
 fn:=λ_=>false
 pn:=[]
 xe:=λe s'=>wpAny (model P w) (A.deeper (PySem.W.envX qual scope s.heap.objs.size f cd cl)) (leaving (PySem.W.envX qual scope s.heap.objs.size f cd cl) e) (λ_ ny=>CX outer H s E e ny) (λe' ny=>CX outer H s E e' ny) s'
theorem VV{CX:dm}{P:Program}{w:World}{K:PySem.W.Frag}{mg:Str->Option Value}{base:Heap}{p1 p2 x qn q:Str}{params:Arguments}{body:Expr}{scope:Scope}{pm hV:Value}{f c c':Addr}{k:Nat}{A:Around}{outer:List Env}{s:Shared}{H:Hp}{E:XK}
  {u1 u2 uc:Value} {v1 v2 vc:V} {Q:VK} {t:TE} {args:Args} (S:Ld p1 p2 x scope) (e0:gP P w K mg base A outer s H) (hr:bM (k+1) A)
  (hf:s.heap.get? f=some (PySem.W.kla_obj "<lambda>" qn params body scope [(x,c)] pm c' hV)) (hc:s.heap.IsCell c (some uc)) (rc:RelV vc uc) (hH:H c=none) (bS:s.heap.CodeRec (.ref c') q)
  (hb:bindArgs (PySem.W.kla_fn "<lambda>" qn params body scope [(x,c)] pm (.ref c') hV) args=pure [(p1,u1),(p2,u2)]) (r1:RelV v1 u1) (r2:RelV v2 u2)
  (ht:PE (oA CX P w K mg base [p1,p2,x] q scope f (.ref c') [(x,c)] A outer s H E) body t) (h:t [some v1,some v2,some vc] H Q) :
  codeAny (model P w) A (.call (.ref f) args) (CR CX outer P w H s Q E) s:=by
 have lim:s.heap.NoLimit:=e0.mod.nolimit.keeps λb o e=>(e0.bs b o e).1
 refine VR hr.depth hf rfl S.co S.gen rfl bS ?_
 rw[hb]
 have VW:∀y∈[(p1,u1),(p2,u2)],scope.names.lookup y.1=some .local:=λy hy=>by
  simp at hy
  rcases hy with rfl | rfl
  ·exact S.l1
  ·exact S.l2
 refine wpAny_pure (wpAny_newFunctionEnv S.Le VW (λyC yy Lf=>⟨lim.fresh _ Lf,?_⟩) S.kind)
 show codeAny _ _ (.expr body (PySem.W.envX q scope s.heap.objs.size f (.ref c') [(x,c)])) _ _
 have hk:∀b o,s.heap.get? b=some o->yC.get? b=some o:=λb o e=>Lf.extBut b o (eO (bK e)) (dQ _ e)
 have cM:p1≠p2/\p1≠x/\p2≠x:=by have:=S.nd;simp at this;exact⟨this.1.1,this.1.2,this.2⟩
 have look:∀y d,([(x,c)]:List (Str × Addr)).lookup y=some d->y=x/\d=c:=λy d e=>by
  rw[eD]at e
  split at e
  ·rename_i z;exact⟨beq_iff_eq.mp z,(cN e).symm⟩
  ·cases e
 have I:Inv (oA CX P w K mg base [p1,p2,x] q scope f (.ref c') [(x,c)] A outer s H E) [] [some v1,some v2,some vc] H { s with heap:=yC,toks:=s.toks+[(p1,u1),(p2,u2)].length }:=by
  refine⟨⟨e0.mod,S.kind,rfl,rfl,bI _,λy z d h1 h2=>?_,λy hy=>?_,λy d z _=>absurd z (by simp[oA]),λ_=>hr.hd,Around.frames_deeper e0.frames,.inr ⟨rfl,rfl⟩,λb z=>absurd z (by simp[oA]),e0.bs,e0.iQ,λb _ _=>by simp[oA],λb z=>absurd z (by simp[oA]),e0.fe,e0.iS⟩,
   rfl,e0.bare,Un.kept hk,⟨_,yy,λi y v h1 h2 h3=>?_⟩,λy d h=>?_,e0.az.fresh (bI _),λy d h=>?_,λp hp=>absurd (show p∈([]:List (Addr × Obj)) from hp) (by simp),e0.az.kept hk,rfl⟩
  ·exact(look y d h1).1.trans (look z d h2).1.symm
  ·have hy:scope.names.lookup y=some .cell\/scope.names.lookup y=some .free:=hy
   rcases hy with hy | hy
   ·exact absurd rfl (S.Le _ (PySem.mem_of_lookup hy))
   ·obtain rfl:y=x:=S.only _ (PySem.mem_of_lookup hy) rfl
    exact⟨c,by show([(y,c)]:List (Str × Addr)).lookup y=_;rw[eD,beq_self_eq_true]⟩
  ·match i,h1,h2 with
   | 0,h1,h2 =>
    cases h1;cases h2
    exact⟨u1,r1,.inl ⟨S.l1,by
     show([(p1,u1),(p2,u2)]:List (Str × Value)).reverse.lookup p1=_
     simp[eD,beq_eq_false_iff_ne.mpr cM.1]⟩⟩
   | 1,h1,h2 =>
    cases h1;cases h2
    exact⟨u2,r2,.inl ⟨S.l2,by
     show([(p1,u1),(p2,u2)]:List (Str × Value)).reverse.lookup p2=_
     simp[eD]⟩⟩
   | 2,h1,h2 =>
    cases h1;cases h2
    exact⟨uc,rc,.inr ⟨.inr S.lx,c,by show([(x,c)]:List (Str × Addr)).lookup x=_;rw[eD,beq_self_eq_true],hc.keeps hk⟩⟩
   | n+3,h1,h2=>cases h2
  ·obtain⟨rfl,rfl⟩:=look y d h
   exact⟨_,hc.keeps hk⟩
  ·obtain⟨rfl,rfl⟩:=look y d h
   exact hH
 refine PySem.W.kla_codeExpr (wpAny_mono (ht [] _ _ H _ I h) (λu s' hs=>?_) λe s' hs=>hs)
 obtain⟨v,H',J,rv,q⟩:=hs
 exact⟨v,H',J.os,J.bare,J.base,J.az,rv,q⟩
end L2
namespace L3
open PySem L2 PySem.Spec PyProof.Rows
theorem ae.k7{H H':Hp}{f c:Addr}{o1 o2:HO}(h:ae (rem H f c) H')(h1:H f=some o1)(n1:gY o1=true)(h2:H c=some o2)(n2:gY o2=true):ae H (k7 H H' f c) where
 get b o e n:=by
  by_cases z:b=f
  ·rw[z,K9,<- z];exact e
  ·by_cases z2:b=c
   ·rw[z2,Cv,<- z2];exact e
   ·rw[mJ z z2];exact h.get b o (by rw[fQ z z2];exact e) n
 tb b ps e:=by
  have z:b≠f:=λz=>by subst z;rw[h1]at e;cases e;cases n1
  have z2:b≠c:=λz=>by subst z;rw[h2]at e;cases e;cases n2
  rw[mJ z z2]
  exact h.tb b ps (by rw[fQ z z2];exact e)
noncomputable abbrev rG:=Int->Int->(Int->Prop)->Prop
structure vD(P:Program)(w:World)(K:PySem.W.Frag)(mg:Str->Option Value)(base:Heap)(n:Nat)(of oc:Obj)(c k:Addr)(sp:rG):Prop where
 fn:∃o1 od fd sl,of=⟨o1,od,.func fd,sl⟩
 run:∀(A:Around) (outer:List Env) (s:Shared) (H:Hp) (f:Addr) (t u:Tok) (i j:Int) (Qd:Int->Prop),bM n A->gP P w K mg base A outer s H->s.heap.get? f=some of->s.heap.get? c=some oc->H c=none->(∃q,s.heap.CodeRec (.ref k) q)->sp i j Qd ->
  codeAny (model P w) A (.call (.ref f) ⟨[.int i t,.int j u],[]⟩) (CR aX outer P w H s (λv H'=>∃r,v=.int r/\Qd r/\ae H H') (λ_ _ _=>False)) s
noncomputable def rH(L:Obj->Obj->Addr->Addr->rG->Prop)(i:Nat)(ta:bX):aB:=λδ Q=>∃of oc c k sp,δ[i]?=some (some (.bt (.lam of oc c k)))/\L of oc c k sp/\ta δ λds ag=>∃a b,ds=[.int a,.int b]/\sp a b λr=>Q (.int r) ag
theorem Lg{X:Cx}{n i:Nat}{x:Str}{p pos:Pos}{e1 e2:Expr}{ta:bX}(hN:X.N[i]?=some x)(hv:ju X.env.scope x)(hr:bM n X.A)(ha:PA X [e1,e2] (lA ta))
  (hd:(x==("__debug__":Str))=false:=by decide) (bS:(x==("__classdict__":Str))=false:=by decide) (he:starEach [e1,e2] X.env=(false,eval e1 X.env)::starEach [e2] X.env:=by rfl) (bD:(backTo pos (starEach [e2] X.env)).any (·.1)=false:=by rfl) :
  PE X (.Call (.Name x p) [e1,e2] [] pos) (lE (rH (vD X.prog X.w X.K X.mg X.base n) i ta)):=by
 intro pins s σ H Q I zz
 obtain⟨B,F,δ,ts,Qd,c,⟨of,oc,cc,k,sp,ed,L,q⟩,kk⟩:=zz
 obtain⟨v,ev,sv⟩:=c.look ed
 obtain⟨f,rfl,lam⟩:∃f,v=.ref f/\iY H f of oc cc k:=by
  cases sv with
  | bt h _=>exact⟨_,rfl,h⟩
 refine wpAny_Call_Name_kw (aD (mh hN hv hd bS pins s σ H (λv' H'=>v'=.ref f/\H'=H) I ⟨_,ev,rfl,rfl⟩) λu s1 zz=>?_)
 obtain⟨v',H',I1,r1,e1,e2⟩:=zz
 subst e1 e2
 obtain rfl:u=.ref f:=r1
 have fnAt:∀{H1:Hp} {s2:Shared},Inv X pins σ H1 s2->iY H1 f of oc cc k->PySem.W.FnAt f s2.heap:=λ{H1 s2} J l=>by
  obtain⟨o1,od,fd,sl,e⟩:=L.fn
  exact⟨o1,od,fd,sl,by rw[<-e];exact(J.az.lam l.fn).1⟩
 refine PySem.W.callWith_F (fnAt I1 lam) (aD (ha pos pins s1 σ H' (λvs H2=>∃a b ag F',vs=[.int a,.int b]/\(sp a b λr=>Qd (.int r) ag)/\ae F F'/\ae H' H2/\aj B F' H2 σ ag ts) I1
  ⟨B,F,δ,ts,_,c,q,λds ag vs F' H2 ⟨a,b,VX,q2⟩ f1 h1 c1 s1=>?_⟩) λus s2 ⟨vs,H2,I2,r2,a,b,ag,F',VY,q2,f1,h1,c1⟩=>⟨fnAt I2 ((show nH H' f (.lam of oc cc k) from lam).mono λa o e _ t=>h1.get a o e t),?_⟩) he bD
 ·subst VX
  refine⟨a,b,ag,F',?_,q2,f1,h1,c1⟩
  cases s1 with
  | int s1=>cases s1 with
   | int s1=>cases s1;rfl
 ·subst VY
  have mK:iY H2 f of oc cc k:=(show nH H' f (.lam of oc cc k) from lam).mono λa o e _ t=>h1.get a o e t
  obtain⟨o1,od,fd,sl,eof⟩:=L.fn
  have VZ:of.data=.func fd:=by rw[eof]
  obtain⟨gf,gc⟩:=I2.az.lam mK.fn
  obtain⟨ψ,V0,vE⟩:=mK.BJ
  obtain⟨u1,u2,t1,t2,rfl⟩:∃(u1 u2:Unit) (t1 t2:Tok),us=[.int a t1,.int b t2]:=by
   cases r2 with
   | cons ra r2=>cases r2 with
    | cons rb r2 =>
     cases r2
     obtain⟨t1,rfl⟩:=ra
     obtain⟨t2,rfl⟩:=rb
     exact⟨(),(),t1,t2,rfl⟩
  refine wpAny_call (codeAny_mono (L.run X.A X.stack s2 (rem H2 f cc) f t1 t2 a b _ hr (I2.t7.rem mK.fn mK.cell VZ) gf gc yB (vE _ (I2.az k _ V0).1) q2) λr s' hq=>?_)
  cases r with
  | error e=>exact hq.elim
  | ok fl =>
   cases fl with
   | ret u =>
    refine I2.after (CE.add I2.t7 mK.fn mK.cell hq (Q':=Q) ?_)
    rintro v H3 ⟨r,rfl,V1,hs⟩ nf nc
    have sm:=hs.k7 mK.fn rfl mK.cell rfl
    exact kk _ ag _ F' _ V1 f1 (h1.trans sm) ((c1.grow sm).pushS (.int .nil) rfl)
   | next=>exact eC hq
   | brk=>exact eC hq
   | cont=>exact eC hq
end L3
namespace L2
open PySem PySem.Spec PyProof.Rows
theorem V2{p:Pos}{c:Value}(l:List Value)(h:TriplesOk l):TriplesOk (l++[rawInt p.line,rawInt p.col,c]):=by
 fun_induction TriplesOk l with
 | case1=>simp[TriplesOk,rawInt]
 | case2 a b d e f rest ih=>exact ih h
 | case3=>exact h.elim
theorem V3{p q:Pos}{c cv:Value}(l:List Value)(h:TriplesOk l)(e:codeAmong q (l++[rawInt p.line,rawInt p.col,c])=some cv):codeAmong q l=some cv\/cv=c:=by
 fun_induction TriplesOk l with
 | case1 =>
  simp only[pk,rawInt,codeAmong]at e
  split at e
  ·exact .inr (cN e).symm
  ·cases e
 | case2 a b d e' f rest ih =>
  simp only[s9,codeAmong]at e ⊢
  split at e
  ·rename_i z;rw[if_pos z];exact .inl e
  ·rename_i z;rw[if_neg z];exact ih h e
 | case3=>exact h.elim
noncomputable def k9(f:Addr)(o:Obj):Heap->Prop:=λh=>h.get? f=some o
noncomputable def V4(P c:Addr)(x:Str)(params:Arguments)(body:Expr)(scope:Scope):TE:=λ_ H Q=>(∃ps,H P=some (.cL ps)) /\
 ∀f k qn pm hV H',H f=none->H' f=some (.ext (k9 f (PySem.W.kla_obj "<lambda>" qn params body scope [(x,c)] pm k hV)))->L3.BI H' k->k≠f->L3.ae H H'->(∀a ws,H' a=some (.lst ws)->H a=some (.lst ws))->Q (.ref f) H'
theorem Lh{X:Cx}{P c cc:Addr}{x:Str}{params:Arguments}{body:Expr}{scope:Scope}{pos:Pos}(fm:closureFor scope X.env=pure [(x,c)])(yD:X.env.code=.ref cc)(hK:PySem.W.codeHdIn X.K cc P=true)(vB:Bm X.mg X.base)
  (V5:defaultsOf params X.env=([],[]):=by rfl):PE X (.Lambda params body scope pos) (V4 P c x params body scope):=by
 intro pins s σ H Q I zz
 obtain⟨⟨ps,hP⟩,q⟩:=zz
 obtain⟨bm,ob,b1,b2,b3,b4,b5,b6,b7⟩:=vB
 have C:=PySem.W.codeHd_of_K I.cE hK
 obtain⟨oP,yE,codes⟩:=I.az P _ hP
 have hg:=I.mod.glob.keeps I.bk
 have Li:∀{b o},X.base.get? b=some o->b≠P:=λ{b o} e z=>by
  have:=(I.bs b o e).2
  rw[z,hP]at this;cases this
 have V6:mainGlobals≠P:=by
  obtain⟨o,es,ep,e,_⟩:=I.mod.glob
  exact Li e
 have Lj:s.heap.BuiltinsAt X.mg P:=⟨bm,ob,b1,b2,b3,Li b4,I.bk _ _ b4,b5,b6,b7⟩
 refine PySem.W.kla_eval V5 ?_
 have fresh:∀{b:Addr},s.heap.objs.size<=b->H b=none:=λ{b} h=>I.az.fresh h
 cases Cz:codeAmong pos ps.toList with
 | none =>
  refine PySem.W.kla_makeFunction (mg:=X.mg) fm I.ok.glob hg yD C oP yE Cz V6 Lj λk hV h' tk hx vF fh V7 Lk=>?_
  have CA:P<s.heap.objs.size:=bK oP
  have V8:k≠P:=λz=>by rw[z]at vF;exact absurd CA (tf.mpr vF)
  have oB:s.heap.objs.size<=h'.objs.size:=dH vF (wY fh)
  have V9:h'.objs.size≠P:=λz=>by rw[<-z]at CA;exact absurd CA (tf.mpr oB)
  have Ll:k≠h'.objs.size:=eO fh
  generalize Lm:PySem.W.kla_obj "<lambda>" (X.env.qual++"<lambda>") params body scope [(x,c)] ((X.mg "__name__").getD .none) k hV=obj
  have dz:obj.isFreed=false:=by rw[<-Lm];rfl
  have vG:∀b,b≠P->b≠k->b≠h'.objs.size->upd (upd (upd H P (.cL (ps++#[rawInt pos.line,rawInt pos.col,.ref k]))) k (.ext λh=>∃q,h.CodeRec (.ref k) q)) h'.objs.size (.ext (k9 h'.objs.size obj)) b=H b:=λb n1 n2 n3=>by
   rw[aS n3,aS n2,aS n1]
  have yF:upd (upd (upd H P (.cL (ps++#[rawInt pos.line,rawInt pos.col,.ref k]))) k (.ext λh=>∃q,h.CodeRec (.ref k) q)) h'.objs.size (.ext (k9 h'.objs.size obj)) h'.objs.size=some (.ext (k9 h'.objs.size obj)):=bC
  have atK:upd (upd (upd H P (.cL (ps++#[rawInt pos.line,rawInt pos.col,.ref k]))) k (.ext λh=>∃q,h.CodeRec (.ref k) q)) h'.objs.size (.ext (k9 h'.objs.size obj)) k=some (.ext λh=>∃q,h.CodeRec (.ref k) q):=by rw[aS Ll,bC]
  have yG:upd (upd (upd H P (.cL (ps++#[rawInt pos.line,rawInt pos.col,.ref k]))) k (.ext λh=>∃q,h.CodeRec (.ref k) q)) h'.objs.size (.ext (k9 h'.objs.size obj)) P=some (.cL (ps++#[rawInt pos.line,rawInt pos.col,.ref k])):=by rw[aS V9.symm,aS V8.symm,bC]
  generalize hHn:upd (upd (upd H P (.cL (ps++#[rawInt pos.line,rawInt pos.col,.ref k]))) k (.ext λh=>∃q,h.CodeRec (.ref k) q)) h'.objs.size (.ext (k9 h'.objs.size obj))=Hn at vG yF atK yG
  have old:∀{b o},H b=some o->b≠P->Hn b=some o:=λ{b o} e n=>by
   have hb:b<s.heap.objs.size:=I.az.lt e
   rw[vG b n (λz=>absurd hb (tf.mpr (z ▸ vF))) (λz=>absurd hb (tf.mpr (z ▸ oB)))];exact e
  have kept:∀b o,b≠P->s.heap.get? b=some o->(h'.push obj).get? b=some o:=λb o n e=>dQ _ (hx b o n e)
  have un:Un X.fs [] H Hn s.heap (h'.push obj):=by
   refine⟨λb o e n _ _=>kept b o (λz=>by rw[z,hP]at n;cases n) e,λb o e n _ _=>⟨o.slots,kept b o (λz=>by rw[z,hP]at n;cases n) e⟩,λb o e n _=>?_,λb o e _=>?_,λb xs e=>old e (λz=>by rw[z,hP]at e;cases e),λb ob xs e=>old e (λz=>by rw[z,hP]at e;cases e),λb Ln e=>?_⟩
   ·have hb:=bK e
    rw[vG b (λz=>by rw[z,hP]at n;cases n) (λz=>absurd hb (tf.mpr (z ▸ vF))) (λz=>absurd hb (tf.mpr (z ▸ oB)))];exact n
   ·by_cases z:b=P
    ·rw[z];exact⟨_,dQ _ Lk⟩
    ·exact⟨o,kept b o z e⟩
   ·by_cases z:b=P
    ·subst z
     rw[hP]at e;cases e
     exact⟨_,yG⟩
    ·exact⟨#[],by rw[old e z];simp⟩
  have az:bZ X.prog X.w Hn (h'.push obj):=λb o e=>by
   by_cases z1:b=h'.objs.size
   ·subst z1
    rw[yF]at e;cases e
    exact⟨gi _ dz,⟨_,gi _ dz⟩,λh1 h2 p kk=>kk _ _ (.inl rfl) p⟩
   ·by_cases z2:b=k
    ·subst z2
     rw[atK]at e;cases e
     have hr:=V7.push obj
     refine⟨⟨_,hr⟩,?_,λh1 h2 ⟨q,c1,o1,vs,t,e1,e2,r⟩ kk=>?_⟩
     ·obtain⟨c1,o1,vs,t,e1,e2,_⟩:=hr
      cases e1
      exact⟨o1,e2⟩
     ·cases e1
      exact⟨q,_,o1,vs,t,rfl,kk _ _ (.inl rfl) e2,r⟩
    ·by_cases z3:b=P
     ·subst z3
      rw[yG]at e;cases e
      refine⟨dQ _ Lk,by rw[Px];exact V2 _ yE,λp' cv e'=>?_⟩
      rw[Px]at e'
      rcases V3 _ yE e' with e' | e'
      ·obtain⟨d,φ,e1,e2,e3⟩:=codes p' cv e'
       exact⟨d,φ,e1,old e2 (λz=>by rw[z,hP]at e2;cases e2),e3⟩
      ·exact⟨k,_,e',atK,λh' p=>p⟩
     ·rw[vG b z3 z2 z1]at e
      have nP:∀{b' o'},H b'=some o'->(∀ps,o'≠.cL ps)->b'≠P:=λ{b' o'} e n z=>by rw[z,hP]at e;cases e;exact n _ rfl
      refine(I.az b o e).jt (λb' u CB e'=>kept b' u ?_ e') (λb' e'=>old e' (nP e' (λps z=>by cases z))) (λb' xs e'=>old e' (nP e' (λps z=>by cases z))) λb' φ e'=>old e' (nP e' (λps z=>by cases z))
      rcases CB with rfl | CB
      ·exact z3
      ·exact nP CB (λps z=>by cases z)
  refine⟨.ref h'.objs.size,Hn,I.un un az,rfl,q _ k _ _ _ _ (fresh oB) (by rw[Lm];exact yF) ⟨_,atK,λh p=>p⟩ Ll ⟨λb o e n=>old e (λz=>by rw[z,hP]at e;cases e;cases n),λb Ln e=>?_⟩ λa ws e=>?_⟩
  ·exact un.gq b Ln e
  ·by_cases z1:a=h'.objs.size
   ·subst z1;rw[yF]at e;cases e
   ·by_cases z2:a=k
    ·subst z2;rw[atK]at e;cases e
    ·by_cases z3:a=P
     ·subst z3;rw[yG]at e;cases e
     ·rw[vG a z3 z2 z1]at e;exact e
 | some cv =>
  obtain⟨k,φ,rfl,hk,Cw⟩:=codes pos cv Cz
  refine PySem.W.kla_makeFunctionHit (mg:=X.mg) fm I.ok.glob hg yD C oP yE Cz Lj λhV h' tk hx oB=>?_
  have hf:=fresh oB
  refine⟨.ref h'.objs.size,upd H h'.objs.size (.ext (k9 h'.objs.size (PySem.W.kla_obj "<lambda>" (X.env.qual++"<lambda>") params body scope [(x,c)] ((X.mg "__name__").getD .none) k hV))),I.laid (λb u e=>dQ _ (hx b u e)) oB ?_,rfl,q _ k (X.env.qual++"<lambda>") ((X.mg "__name__").getD .none) hV _ hf bC ⟨φ,?_,Cw⟩ (dk hk hf) (L3.ae.of λb o e=>?_) λa ws e=>?_⟩
  ·exact⟨gi _ rfl,⟨_,gi _ rfl⟩,λh1 h2 p kk=>kk _ _ (.inl rfl) p⟩
  ·rw[aS (dk hk hf)];exact hk
  ·rw[aS (dk e hf)];exact e
  ·by_cases z:a=h'.objs.size
   ·subst z;rw[bC]at e;cases e
   ·rw[aS z]at e;exact e
end L2
namespace L2
open PySem PySem.Spec PyProof.Rows
structure rJ(K:PySem.W.Frag)(C:Addr)(m:Str)(f:Addr):Prop where
 ga:PySem.W.specialIn K (.ref C) "__getattribute__"=some (some (.builtin "type.__getattribute__"))
 rd:PySem.W.readsIn K C (.type "type")=true
 at_:PySem.W.findCls K (.ref C) (.type "type") m=some (.val (.ref f))
 kp:PySem.W.keepIn K (.ref f)=true
section
variable{X:Cx}{CX:dm}{k:Nat}{f C:Addr}{fd:FuncData}{ps:List Str}{sp:Sp}{E:XK}{x m:Str}{p pos apos:Pos}{e o:Expr}{es:List Expr}{ta:TE}{t:TA}
theorem Wa{pins:List (Addr × Obj)}{σ:St}{H:Hp}{s:Shared}{pl:Sem Bool}{A:Around}{E':Value->Shared->Prop}{Q:Value × List Value->Shared->Prop}(I:Inv X pins σ H s)(M:rJ X.K C m f)(h:∀s',Inv X pins σ H s'->Q (.ref f,[]) s') :
  wpAny (model X.prog X.w) A (getMethod (.ref C) m pl) Q E' s :=
 PySem.W.method_cls I.cE M.ga (PySem.W.cls_value (mc:=.type "type") I.cE M.rd M.at_ rfl (h _ (I.tok _)))
theorem Lo{pins:List (Addr × Obj)}{σ:St}{H:Hp}{s:Shared}{pl:Sem Bool}{Q:Value->Shared->Prop}{QA:List V->Hp->Prop}(I:Inv X pins σ H s)(M:rJ X.K C m f)(hg:Gl X x)(hm:X.mg x=some (.ref C))(ha:PA X (e::es) t)(h:t σ H QA)
  (hq:∀us s1 vs H1,Inv X pins σ H1 s1->Vals vs us->QA vs H1->wpAny (model X.prog X.w) X.A (call (.ref f) us) Q X.xe s1)
  (cW:(x==("__debug__":Str))=false:=by decide) (cq:starEach (e::es) X.env=(false,eval e X.env)::starEach es X.env:=by rfl) (bD:(backTo pos (starEach es X.env)).any (·.1)=false:=by rfl)
  (ht:eval (.Call (.Attribute (.Name x p) m apos) (e::es) [] pos) X.env=(do
   let ov<-eval (.Name x p) X.env
   standAt apos.atName
   let (f,first)<-holding [ov] (getMethod ov m pl)
   callWith pos f first (backTo pos (starEach (e::es) X.env)) (backToKw pos (keywordEach [] X.env))):=by rfl) :
  wpAny (model X.prog X.w) X.A (eval (.Call (.Attribute (.Name x p) m apos) (e::es) [] pos) X.env) Q X.xe s:=by
 refine PySem.W.methodCall_KW (pl:=pl) (tQ I hg hm ?_ cW) ht
 refine Wa I M λs1 I1=>?_
 refine PySem.W.callWith_K (first:=[]) (h₀:=X.base) I.ok.mod.kC M.kp (aD (ha pos pins s1 σ H _ I1 h) λus s2 ⟨vs,H2,I2,r,q2⟩=>⟨I2.cE,?_⟩) cq bD
 exact hq us s2 vs H2 I2 r q2
noncomputable def Wb(sp:Sp)(E:XK)(c:Addr)(i:Nat)(t:TA):TE:=λσ H Q=>t σ H λvs H1=>∃f of fd v,H1 f=some (.ext (k9 f of))/\of.data=.func fd/\σ[i]?=some (some v) /\
 ∀oc u,oc.data=.cell (some u)->RelV v u->H1 c=none->c≠f->sp vs (upd (upd H1 f (.ext (L3.iy of oc c f))) c (.own f)) (λr H2=>H2 f=some (.ext (L3.iy of oc c f))/\H2 c=some (.own f)/\Q r (rem H2 f c)) E
theorem Lp{pl:Sem Bool}{y:Str}{c:Addr}{i:Nat}(M:rJ X.K C m f)(F:aQ X.prog X.w X.K X.mg X.base aX k f fd ps sp)(hr:bM k X.A)(hb:Binds X.K fd ps [])(hg:Gl X x)(hm:X.mg x=some (.ref C))
  (hN:X.N[i]?=some y) (hy:X.env.scope.names.lookup y=some .cell) (fm:X.env.cells.lookup y=some c) (tO:X.fn y=true) (ha:PA X (e::es) t)
  (cW:(x==("__debug__":Str))=false:=by decide) (cq:starEach (e::es) X.env=(false,eval e X.env)::starEach es X.env:=by rfl) (bD:(backTo pos (starEach es X.env)).any (·.1)=false:=by rfl)
  (ht:eval (.Call (.Attribute (.Name x p) m apos) (e::es) [] pos) X.env=(do
   let ov<-eval (.Name x p) X.env
   standAt apos.atName
   let (f,first)<-holding [ov] (getMethod ov m pl)
   callWith pos f first (backTo pos (starEach (e::es) X.env)) (backToKw pos (keywordEach [] X.env))):=by rfl) :
  PE X (.Call (.Attribute (.Name x p) m apos) (e::es) [] pos) (Wb sp E c i t):=by
 intro pins s σ H Q I h
 refine Lo (pl:=pl) I M hg hm ha h (λus s1 vs H1 I1 r zq=>?_) cW cq bD ht
 obtain⟨fa,of,fdd,v,hf,hd,hv,hq⟩:=zq
 obtain⟨ml,_,hl⟩:=I1.loc
 obtain⟨u,rv,lk⟩:=hl i y v hN hv (.inr (.inl hy))
 obtain⟨oc,gc,gL⟩:∃oc,s1.heap.get? c=some oc/\oc.data=.cell (some u):=by
  rcases lk with⟨hk,_⟩ | ⟨_,c',tP,ic⟩
  ·rw[show X.env.kindOf y=some .cell from hy]at hk;cases hk
  ·rw[fm]at tP;cases tP;exact ic
 have nc:H1 c=none:=I1.ij y c fm
 have mL:c≠fa:=λz=>by rw[z,hf]at nc;cases nc
 have gf:s1.heap.get? fa=some of:=(I1.az fa _ hf).1
 have kE:=hq oc u gL rv nc mL
 have Lq:=I1.ok.ni y c tO fm
 generalize hH:upd (upd H1 fa (.ext (L3.iy of oc c fa))) c (.own fa)=Hp at kE
 have Lr:Hp c=some (.own fa):=by rw[<-hH,bC]
 have Wc:Hp fa=some (.ext (L3.iy of oc c fa)):=by rw[<-hH,aS mL.symm,bC]
 have kb:∀b,b≠fa->b≠c->Hp b=H1 b:=λb n1 n2=>by rw[<-hH,aS n2,aS n1]
 have We:c ∉ X.fs:=λhb=>by
  obtain⟨_,o,ho,_⟩:=I1.ok.fe.mem hb
  exact absurd (cA (bK ho) Lq) (fv _)
 have Wf:∀b∈da X.stack,b≠c:=λb hb z=>by
  rcases bR.mp (I1.xM b hb)with e | hb
  ·exact I1.l9 y c fm (z ▸ e)
  ·exact We (z ▸ hb)
 have Wg:bZ X.prog X.w Hp s1.heap:=λb ob q=>by
  by_cases z1:b=c
  ·subst z1;rw[Lr]at q;cases q;exact⟨_,gc⟩
  ·by_cases z2:b=fa
   ·subst z2;rw[Wc]at q;cases q
    exact⟨⟨gf,gc⟩,⟨_,gf⟩,λh1 h2 p kk=>⟨kk _ _ (.inl rfl) p.1,kk _ _ (.inr Lr) p.2⟩⟩
   ·rw[kb b z2 z1]at q
    have x1:=(I1.az b ob q).rem (f:=fa) (c:=c) z2 hf (.inr nc) (La gf (λ_ p=>p) hd)
    have up:∀{b' o'},rem H1 fa c b'=some o'->Hp b'=some o':=λ{b' o'} q=>by
     obtain⟨n1,n2,q'⟩:=K8 q
     rw[kb b' n1 n2];exact q'
    exact x1.jt (λ_ _ _ q=>q) (λ_ q=>up q) (λ_ _ q=>up q) λ_ _ q=>up q
 have e0:gP X.prog X.w X.K X.mg X.base X.A X.stack s1 Hp:=by
  have e1:=I1.t7
  refine⟨e1.frames,e1.mod,λb ob q=>⟨(e1.bs b ob q).1,?_⟩,e1.iQ,e1.fe,λb hb=>?_,Wg,e1.bare⟩
  ·have Wh:=(I1.ok.bs b ob q).1
   rw[kb b (λz=>by have:=(e1.bs b ob q).2;rw[z,hf]at this;cases this) (λz=>absurd (cA (bK Wh) (z ▸ Lq)) (fv _))]
   exact(e1.bs b ob q).2
  ·have nb:=e1.iS b hb
   rw[kb b (λz=>by rw[z,hf]at nb;cases nb) (Wf b hb)];exact nb
 have hlen:us.length=ps.length:=by rw[<-r.length];exact F.len _ _ _ _ kE
 refine wpAny_call (codeAny_mono (F.run X.A X.stack s1 Hp ⟨us,[]⟩ us vs _ E hr e0 (by have:=hb s1 us I1.cE (by rw[e7];exact hlen);rwa [e7]at this) r kE) λrr s' hz=>?_)
 cases rr with
 | error e=>exact hz.elim
 | ok fl =>
  cases fl with
  | next=>exact eC hz
  | brk=>exact eC hz
  | cont=>exact eC hz
  | ret u' =>
   obtain⟨v',H2,os,bare,un,Ls,Wi,q1,q2,q3⟩:=hz
   obtain⟨_,Lu⟩:=Ls.lam q1
   refine I1.after ⟨v',rem H2 fa c,os,bare,⟨λb ob g n hb hx=>?_,λb ob g n hb hx=>?_,λb ob g n hx=>?_,un.there,λb xs g=>?_,λb ob xs g=>?_,λb ps g=>?_⟩,Ls.rem q1 q2 hd,Wi,q3⟩
   ·by_cases z:b=c
    ·rw[z,gc]at g;cases g;rw[z];exact Lu
    ·exact un.keep b ob g (by rw[kb b (λz=>by rw[z,hf]at n;cases n) z];exact n) hb hx
   ·by_cases z:b=c
    ·rw[z,gc]at g;cases g;rw[z];exact⟨_,Lu⟩
    ·exact un.slot b ob g (by rw[kb b (λz=>by rw[z,hf]at n;cases n) z];exact n) hb hx
   ·by_cases z:b=c
    ·rw[z];exact yB
    ·exact rF (un.free b ob g (by rw[kb b (λz=>by rw[z,hf]at n;cases n) z];exact n) hx)
   ·have n1:b≠fa:=λz=>by rw[z,hf]at g;cases g
    have n2:b≠c:=λz=>by rw[z,nc]at g;cases g
    rw[fQ n1 n2]
    exact un.iO b xs (by rw[kb b n1 n2];exact g)
   ·have n1:b≠fa:=λz=>by rw[z,hf]at g;cases g
    have n2:b≠c:=λz=>by rw[z,nc]at g;cases g
    rw[fQ n1 n2]
    exact un.ig b ob xs (by rw[kb b n1 n2];exact g)
   ·have n1:b≠fa:=λz=>by rw[z,hf]at g;cases g
    have n2:b≠c:=λz=>by rw[z,nc]at g;cases g
    rw[fQ n1 n2]
    exact un.gq b ps (by rw[kb b n1 n2];exact g)
end
end L2
namespace L3
open PySem L2 PySem.Spec PyProof.Rows
theorem vH{ts:List Addr}{H H':Hp}(h:Tb ts H)(s:ae H H'):Tb ts H':=λP hP=>by
 obtain⟨ps,e⟩:=h P hP
 obtain⟨m,e2⟩:=s.tb P ps e
 exact⟨_,e2⟩
theorem Lv{P:Program}{w:World}{K:PySem.W.Frag}{mg:Str->Option Value}{base:Heap}{n:Nat}{p1 p2 x qn:Str}{params:Arguments}{body:Expr}{scope:Scope}{pm hV:Value}{oc:Obj}{c k:Addr}{m:Int}{tm:Tok}{sp:rG}(S:Ld p1 p2 x scope)
  (gL:oc.data=.cell (some (.int m tm))) (hb:∀u1 u2:Value,bindArgs (PySem.W.kla_fn "<lambda>" qn params body scope [(x,c)] pm (.ref k) hV) ⟨[u1,u2],[]⟩=pure [(p1,u1),(p2,u2)])
  (fg:∀(q:Str) (f:Addr) (A:Around) (outer:List Env) (s:Shared) (H:Hp) (E:XK),bM n (A.deeper (PySem.W.envX q scope s.heap.objs.size f (.ref k) [(x,c)])) ->
   ∃t:aB,PE (oA aX P w K mg base [p1,p2,x] q scope f (.ref k) [(x,c)] A outer s H E).eI body (lE t)/\∀i j Qd,sp i j Qd->t [some (.int i),some (.int j),some (.int m)] λd _=>∃r,d=.int r/\Qd r) :
  vD P w K mg base (n+1) (PySem.W.kla_obj "<lambda>" qn params body scope [(x,c)] pm k hV) oc c k sp where
 fn:=⟨_,_,_,_,rfl⟩
 run A outer s H f t u i j Qd hr e0 gf gc hH bS h:=by
  obtain⟨q,bS⟩:=bS
  obtain⟨tt,ht,hq⟩:=fg q f A outer s H (λ_ _ _=>False) (hr.deeper _)
  refine VV (v1:=.int i) (v2:=.int j) (vc:=.int m) (E:=λ_ _ _=>False) S e0 hr gf ⟨oc,gc,gL⟩ ⟨tm,rfl⟩ hH bS (hb _ _) ⟨t,rfl⟩ ⟨u,rfl⟩ ht.eI ?_
  refine⟨⟨H,H⟩,H,_,[],_,?_,hq i j Qd h,λd ag v F' H' hd f1 h1 c1=>?_⟩
  ·exact aj.start (ds:=[.int i,.int j,.int m]) (vs:=[.int i,.int j,.int m]) (ae.refl H) (.int (.int (.int .nil))) 0
  ·obtain⟨r,rfl,hd⟩:=hd
   have s1:=c1.top
   cases s1
   exact⟨r,rfl,hd,h1⟩
section
variable{X:Cx}{CX:dm}{n:Nat}{f:Addr}{fd:FuncData}{ps:List Str}{sp:bx}{E:XK}{x:Str}{p pos:Pos}{e:Expr}{es:List Expr}{t:bX}{tl:List Addr}
theorem Wj(hT:Tb tl X.iP)(F:aQ X.prog X.w X.K X.mg X.base CX n f fd ps (vC tl (bB sp)))(hr:bM n X.A)(hg:Gl X x)(hm:X.mg x=some (.ref f))(hk:PySem.W.keepIn X.K (.ref f)=true)(hb:Binds X.K fd ps [])(hx:iV CX X E)
  (ha:PA X (e::es) (lA t)) (cW:(x==("__debug__":Str))=false:=by decide) (he:starEach (e::es) X.env=(false,eval e X.env)::starEach es X.env:=by rfl) (bD:(backTo pos (starEach es X.env)).any (·.1)=false:=by rfl) :
  PE X (.Call (.Name x p) (e::es) [] pos) (lE (nR sp t)):=by
 intro pins s σ H Q I zz
 obtain⟨B,F',δ,ts,Qd,c,q,k⟩:=zz
 have tb:=Cu I hT
 refine iW F hr hg hm hk hb .nil hx ha cW he bD pins s σ H Q I ⟨B,F',δ,ts,_,c,q,λds ai vs F1 H1 q1 f1 h1 c1 s1=>?_⟩
 refine⟨vH tb h1,?_⟩
 rw[e7]
 exact uE c1 s1 q1 λd v F' H' hd hf hs c'=>k d ai v F' H' hd (f1.trans hf) (h1.trans hs) c'
end
section
variable{P:Program}{w:World}{K:PySem.W.Frag}{mg:Str->Option Value}{base:Heap}
theorem Lw{x qual:Str}{st:Stmt}{f:Addr}{fd:FuncData}{N ps:List Str}{k:Nat}{sp:bx}{tl:List Addr}(F:aH K x qual st f fd)(S:bq N ps (aM st))(len:∀ds Q,sp ds Q->ds.length=ps.length)
  (fg:∀(aA:Value) (A:Around) (outer:List Env) (s:Shared) (H:Hp) (E:XK),Tb tl H->bM k (A.deeper (envOfC qual (aM st) s.heap.objs.size f aA)) ->
   ∃t:b9,PSs (gu aX P w K mg base N qual (aM st) f aA A outer s H E).eI (dY st) (lS (gu aX P w K mg base N qual (aM st) f aA A outer s H E).eI t)/\∀ds Q,sp ds Q->t { nx:=λ_=>Q .ak,rt:=Q } (jE N ds)):aQ P w K mg base aX (k+1) f fd ps (vC tl (bB sp)):=by
 refine F.ok S (λvs H Q E ⟨_,F,ds,Qd,e,r,h,_⟩=>by rw[<-r.length];exact len ds Qd h) λaA A outer s H vs Q E hr zz=>?_
 obtain⟨tb,F,ds,Qd,e,r,h,k⟩:=zz
 obtain⟨t,ht,hq⟩:=fg aA A outer s H E tb hr
 have fin:∀d v ag ax F' H',Qd d->aj ⟨H,F⟩ F' H' ax ag [(d,v)]->Q v H':=λd v ag ax F' H' hd c=>by
  obtain⟨A,C,r',s',nd,fr⟩:=c.own
  exact k d v F' H' A hd c.b1 c.b2 c.ext c.b3 r' (fK.mp nd).1 λa ha=>fr a (eH _ ha)
 have e1:L2.start N vs=vs.map some++aK (N.length-ds.length) none:=by unfold L2.start;rw[r.length]
 refine⟨_,ht,⟨H,F⟩,F,jE N ds,_,?_,hq ds Qd h,λag ax F' H' hd c=>fin .ak .ak ag ax F' H' hd (c.pushS (.ak .nil) rfl),fin,λ_ _ _ _ z=>z.elim,λ_ _ _ _ z=>z.elim,XL.none (λ_ _ z=>z) λ_ _ z=>z⟩
 rw[e1]
 exact aj.start e r _
theorem Lx{x qual:Str}{st:Stmt}{f cc:Addr}{fd:FuncData}{N ps:List Str}{k:Nat}{sp:Sp}(F:aH K x qual st f fd)(yD:fd.code=.ref cc)(S:bq N ps (aM st))(len:∀vs H Q E,sp vs H Q E->vs.length=ps.length)
  (fg:∀(A:Around) (outer:List Env) (s:Shared) (H:Hp) (vs:List V) (Q:VK) (E:XK),bM k (A.deeper (envOfC qual (aM st) s.heap.objs.size f (.ref cc)))->sp vs H Q E ->
   ∃t,PSs (gu aX P w K mg base N qual (aM st) f (.ref cc) A outer s H E).eI (dY st) t/\t { nx:=λ_ H'=>Q .ak H',rt:=Q } (L2.start N vs) H):aQ P w K mg base aX (k+1) f fd ps sp:=by
 obtain⟨oc,od,kV,doc,pm,an,aA,ct,fG,rfl,lk,bS⟩:=F.ex
 obtain rfl:aA=.ref cc:=yD
 refine yd lk bS S len λA outer s H vs Q E hr fH=>?_
 obtain⟨t,h,q⟩:=fg A outer s H vs Q E hr fH
 exact⟨t,h.eI,q⟩
end
end L3
namespace L3
open PySem L2 PySem.Spec PyProof.Rows
theorem Wk{ns:List Str}{xs:List D}{ws:List V}{F H:Hp}{f:Str}{d:D}(r:R F H xs ws [])(h:(ns.zip xs).lookup f=some d):∃w,(ns.zip ws).lookup f=some w/\R F H [d] [w] []:=by
 generalize e:([]:List Addr)=A at r
 induction ns generalizing xs ws A with
 | nil=>simp at h
 | cons n ns ih =>
  cases xs with
  | nil=>simp at h
  | cons x xs =>
   obtain⟨v,bN,A1,A2,rfl,rfl,h1,h2⟩:=R.cF r
   obtain⟨rfl,rfl⟩:=xi.mp e.symm
   rw[Py]at h ⊢
   by_cases z:f=n
   ·subst z
    rw[eD,beq_self_eq_true]at h
    cases h
    refine⟨v,?_,h1⟩
    rw[eD,beq_self_eq_true]
   ·have z':(f==n)=false:=beq_eq_false_iff_ne.mpr z
    rw[eD,z']at h
    obtain⟨w,e1,e2⟩:=ih h [] rfl h2
    refine⟨w,?_,e2⟩
    rw[eD,z']
    exact e1
theorem CC{ns:List Str}{ws:List V}{f:Str}(h:f ∉ ns):(ns.zip ws).lookup f=none:=by
 induction ns generalizing ws with
 | nil=>simp
 | cons n ns ih =>
  cases ws with
  | nil=>simp
  | cons w ws =>
   rw[Py,eD]
   have hn:(f==n)=false:=beq_eq_false_iff_ne.mpr λz=>h (by rw[z];simp)
   simp only[hn]
   exact ih λz=>h (by simp[z])
theorem yH{F H:Hp}{C:Addr}{ns:List Str}{xs:List D}{v:V}(s:S F H [.obj C ns xs] [v]):∃p dx ws,v=.ref p/\H p=some (.ins C dx (ns.zip ws))/\ns.length=ws.length/\R F H xs ws []:=by
 cases s with
 | obj h l r _=>exact⟨_,_,_,rfl,h,l,r⟩
section
variable{X:Cx}{e o:Expr}{es:List Expr}{f m x:Str}{pos p apos:Pos}{t to:aB}{ta:bX}{n:Nat}
noncomputable def oE(K:PySem.W.Frag)(t:aB)(f:Str):aB:=λδ Q=>t δ λd ag=>∃C ns xs v,d=.obj C ns xs/\cR K C/\bj K C f/\(ns.zip xs).lookup f=some v/\Q v ag
theorem Wl(he:PE X e (lB t))(hb:attributeBase e f X.env (eval e X.env)=eval e X.env:=by rfl):PE X (.Attribute e f pos) (lB (oE X.K t f)) :=
 cS (nv he hb) λσ H Q zq=>by
 obtain⟨B,F,δ,ts,Qd,c,q,k⟩:=zq
 exact⟨B,F,δ,ts,_,c,q,λd ag v F' H' ⟨C,ns,xs,w,ed,hc,hn,hl,hq⟩ f1 h1 c1 s1=>by
  subst ed
  obtain⟨p,dx,ws,rfl,hp,_,r⟩:=yH s1
  obtain⟨u,hu,ru⟩:=Wk r hl
  exact⟨p,C,dx,_,u,rfl,hp,hc,hn,hu,k w ag u F' H' hq f1 h1 c1 ru.s⟩⟩
structure jL(P:Program)(w:World)(K:PySem.W.Frag)(mg:Str->Option Value)(base:Heap)(n:Nat)(m:Str)(C:Addr)(sp:bx):Prop where
 cls:cR K C
 ex:∃f fd ps,Meth K C m f/\aQ P w K mg base aX n f fd ps (bB sp)/\Binds K fd ps []
noncomputable def oF(MO:Addr->bx->Prop)(m:Str)(to:aB)(ta:bX):aB:=λδ Q=>to δ λd ai=>∃C ns xs sp,d=.obj C ns xs/\MO C sp/\m ∉ ns/\ta ai λds aJ=>sp ((D.obj C ns xs::ds).map D.sh) λr=>((D.obj C ns xs::ds).all D.pl||r.fr)=true/\Q r aJ
theorem Wm{pl:Sem Bool}(ho:PE X o (lB to))(hr:bM n X.A)(ha:PA X (e::es) (lA ta))
  (cq:starEach (e::es) X.env=(false,eval e X.env)::starEach es X.env:=by rfl) (bD:(backTo pos (starEach es X.env)).any (·.1)=false:=by rfl)
  (ht:eval (.Call (.Attribute o m apos) (e::es) [] pos) X.env=(do
   let ov<-eval o X.env
   standAt apos.atName
   let (f,first)<-holding [ov] (getMethod ov m pl)
   callWith pos f first (backTo pos (starEach (e::es) X.env)) (backToKw pos (keywordEach [] X.env))):=by rfl) :
  PE X (.Call (.Attribute o m apos) (e::es) [] pos) (lE (oF (jL X.prog X.w X.K X.mg X.base n m) m to ta)):=by
 intro pins s σ H Q I zz
 obtain⟨B,F,δ,ts,Qd,c,q,k⟩:=zz
 refine PySem.W.methodCall_KW (pl:=pl) (aD (ho pins s σ H (λx H1=>∃d ai F1,S F1 H1 [d] [x]/\aj B F1 H1 σ ai ts/\ae F F1/\ae H H1/\∃C ns xs sp,d=.obj C ns xs/\jL X.prog X.w X.K X.mg X.base n m C sp/\m ∉ ns/\ta ai λds aJ=>sp ((D.obj C ns xs::ds).map D.sh) λr=>((D.obj C ns xs::ds).all D.pl||r.fr)=true/\Qd r aJ) I
  ⟨B,F,δ,ts,_,c,q,λd ai v F1 H1 hq f1 h1 c1 s1=>⟨d,ai,F1,s1,c1,f1,h1,hq⟩⟩) λu s1 zq=>?_) ht
 obtain⟨x,H1,I1,rx,d,ai,F1,sd,c1,f1,h1,C,ns,xs,sp,ed,M,hm,hq⟩:=zq
 subst ed
 obtain⟨a,dx,ws,rfl,ea,hl,r0⟩:=yH sd
 obtain rfl:u=dG a:=rx
 obtain⟨f,fd,ps,mM,FO,hb⟩:=M.ex
 refine yc I1 ea M.cls mM (CC hm) ?_
 refine PySem.W.callWith_K (first:=[.ref a]) (h₀:=X.base) I.ok.mod.kC mM.kp (aD (ha pos pins s1 σ H1 (λvs H2=>∃ds aJ F2,S F2 H2 ds vs/\aj B F2 H2 σ aJ ts/\ae F1 F2/\ae H1 H2/\sp ((D.obj C ns xs::ds).map D.sh) λr=>((D.obj C ns xs::ds).all D.pl||r.fr)=true/\Qd r aJ) I1
  ⟨B,F1,ai,ts,_,c1,hq,λds aJ vs F2 H2 hq f2 h2 c2 s2=>⟨ds,aJ,F2,s2,c2,f2,h2,hq⟩⟩) λus s2 ⟨vs,H2,I2,r,ds,aJ,F2,CD,c2,f2,h2,fH⟩=>⟨I2.cE,?_⟩) cq bD
 refine pS (us:=.ref a::us) (vs:=.ref a::vs) (dD:=[]) FO hr hb .nil bE I2 (.cons rfl r) ?_
 rw[e7]
 exact uE c2 (.obj (h2 _ _ ea) hl (r0.shared f2 h2) CD) fH λd v F' H' hd hf hs c'=>k d aJ v F' H' hd (f1.trans (f2.trans hf)) (h1.trans (h2.trans hs)) c'
noncomputable def oG(MO:Addr->bx->Prop)(m:Str)(to:aB):aB:=λδ Q=>to δ λd ai=>∃C ns xs sp,d=.obj C ns xs/\MO C sp/\m ∉ ns/\sp [D.obj C ns xs] λr=>Q r ai
theorem Wn{pl:Sem Bool}(ho:PE X o (lB to))(hr:bM n X.A)
  (ht:eval (.Call (.Attribute o m apos) [] [] pos) X.env=(do
   let ov<-eval o X.env
   standAt apos.atName
   let (f,first)<-holding [ov] (getMethod ov m pl)
   callWith pos f first (backTo pos (starEach [] X.env)) (backToKw pos (keywordEach [] X.env))):=by rfl) :
  PE X (.Call (.Attribute o m apos) [] [] pos) (lE (oG (jL X.prog X.w X.K X.mg X.base n m) m to)):=by
 intro pins s σ H Q I zz
 obtain⟨B,F,δ,ts,Qd,c,q,k⟩:=zz
 refine PySem.W.methodCall_KW (pl:=pl) (aD (ho pins s σ H (λx H1=>∃d ai F1,S F1 H1 [d] [x]/\aj B F1 H1 σ ai ts/\ae F F1/\ae H H1/\∃C ns xs sp,d=.obj C ns xs/\jL X.prog X.w X.K X.mg X.base n m C sp/\m ∉ ns/\sp [D.obj C ns xs] λr=>Qd r ai) I
  ⟨B,F,δ,ts,_,c,q,λd ai v F1 H1 hq f1 h1 c1 s1=>⟨d,ai,F1,s1,c1,f1,h1,hq⟩⟩) λu s1 zq=>?_) ht
 obtain⟨x,H1,I1,rx,d,ai,F1,sd,c1,f1,h1,C,ns,xs,sp,ed,M,hm,hq⟩:=zq
 subst ed
 obtain⟨a,dx,ws,rfl,ea,hl,r0⟩:=yH sd
 obtain rfl:u=dG a:=rx
 obtain⟨f,fd,ps,mM,FO,hb⟩:=M.ex
 refine yc I1 ea M.cls mM (CC hm) ?_
 refine PySem.W.callWith_K0 (first:=[.ref a]) I1.cE mM.kp (pS (us:=[.ref a]) (vs:=[.ref a]) (dD:=[]) FO hr hb .nil bE I1 (.cons rfl .nil) ?_)
 show bB sp [.ref a] H1 Q E0
 exact uE (Qd:=λr=>Qd r ai) c1 (.obj ea hl r0 .nil) (by simpa[D.sh,D.pl]using hq) λd v F' H' hd hf hs c'=>k d ai v F' H' hd (f1.trans hf) (h1.trans hs) c'
end
structure bH(x:Addr)(H H':Hp):Prop where
 get:∀b o,b≠x->H b=some o->gY o=true->H' b=some o
 tb:∀b ps,H b=some (.cL ps)->∃more,H' b=some (.cL (ps++more))
theorem bH.trans{x:Addr}{H H1 H2:Hp}(a:bH x H H1)(b:bH x H1 H2):bH x H H2 :=
 ⟨λc o n h t=>b.get c o n (a.get c o n h t) t,λc ps h=>by
  obtain⟨m1,e1⟩:=a.tb c ps h
  obtain⟨m2,e2⟩:=b.tb c _ e1
  exact⟨m1++m2,by rw[e2,o6]⟩⟩
theorem ae.x{x:Addr}{H H':Hp}(h:ae H H'):bH x H H':=⟨λb o _ e n=>h.get b o e n,h.tb⟩
theorem bH.upd{x C dx:Addr}{H:Hp}{o o':HO}(h:H x=some o)(n:gY o=true):bH x H (upd H x o') :=
 ⟨λb o z e _=>by rw[aS z];exact e,λb ps e=>⟨#[],by rw[aS (λz=>by rw[z,h]at e;cases e;cases n),e];simp⟩⟩
noncomputable def CF(tl:List Addr)(C:Addr)(iE:List D->List Str->List D->Prop):Sp:=λvs H Q _=>∃x dx bN ds ns xs,vs=.ref x::bN/\Tb tl H/\H x=some (.ins C dx [])/\R H H ds bN []/\iE ds ns xs /\
 ∀H' ws A,bH x H H'->H' x=some (.ins C dx (ns.zip ws))->ns.length=ws.length->R (λ_=>none) H' xs ws A->A.Nodup->(∀a∈A,H a=none)->Q .ak H'
noncomputable def rK(C:Addr)(iE:List D->List Str->List D->Prop)(ta:bX):aB:=λδ Q=>ta δ λds ag=>∃ns xs,iE (ds.map D.sh) ns xs/\Q (.obj C ns (xs.map D.sh)) ag
theorem aj.made{B:Bs}{F H H':Hp}{σ:L2.St}{δ:Dl}{ts:List (D × V)}{C dx x:Addr}{ns:List Str}{xs:List D}{ws:List V}{A:List Addr}(c:aj B F H σ δ ts)(hs:ae H H')(hx:H' x=some (.ins C dx (ns.zip ws)))(hl:ns.length=ws.length)
  (r:R (λ_=>none) H' xs ws A) (fr:∀a∈A,H a=none):ae F (L3.bc F H' A)/\aj B (L3.bc F H' A) H' σ δ ((.obj C ns (xs.map D.sh),.ref x)::ts):=by
 have c1:=c.grow hs
 have hF:∀a∈A,F a=none:=λa ha=>c.ext.free (fr a ha)
 have r1:R F H' xs ws A:=r.keep (ae.of λb o e=>by cases e) (eV.same (ae.refl _)) fJ.nil hF (by simp)
 have r2:=r1.bc c1.ext A (λ_ h=>h)
 have fs:ae F (L3.bc F H' A):=g5 c1.ext
 obtain⟨A',C',r',s',nd,rL⟩:=c.own
 have out:∀a,(∃ws,H a=some (.lst ws))/\F a=none->L3.bc F H' A a=none:=λa zz=>by
  obtain⟨⟨ws,h⟩,hf⟩:=zz
  rw[nK (λz=>by rw[fr a z]at h;cases h)];exact hf
 have g1:=r'.grow fs hs λa ha=>out a (r'.lists a ha)
 have g2:=s'.keep fs (eV.same hs) fJ.nil (λa ha=>out a (s'.lists a ha)) (by simp)
 refine⟨fs,nJ c1.ext,c1.b1,c1.b2.trans fs,λa ws h=>?_,A',C',?_,g2,nd,rL⟩
 ·by_cases z:a∈A
  ·exact .inr (c.b1.free (fr a z))
  ·rw[nK z]at h;exact c.b3 a ws h
 ·exact R.obj hx hl r2 g1
section
variable{X:Cx}{CX:dm}{n:Nat}{f C:Addr}{fd:FuncData}{ps:List Str}{iE:List D->List Str->List D->Prop}{E:XK}{x:Str}{p pos:Pos}{e:Expr}{es:List Expr}{t:bX}{tl:List Addr}
theorem Ly(hT:Tb tl X.iP)(M:Mk X.K C f)(F:aQ X.prog X.w X.K X.mg X.base CX n f fd ps (CF tl C iE))(hr:bM (n+1) X.A)(hg:Gl X x)(hm:X.mg x=some (.ref C))(hb:Binds X.K fd ps [])(hx:iV CX X E)
  (ha:PA X (e::es) (lA t)) (cW:(x==("__debug__":Str))=false:=by decide) (he:starEach (e::es) X.env=(false,eval e X.env)::starEach es X.env:=by rfl) (bD:(backTo pos (starEach es X.env)).any (·.1)=false:=by rfl) :
  PE X (.Call (.Name x p) (e::es) [] pos) (lE (rK C iE t)):=by
 intro pins s σ H Q I zz
 obtain⟨B,F',δ,ts,Qd,c,q,k⟩:=zz
 have tb:=Cu I hT
 refine IG M F hr hg hm hb .nil hx ha cW he bD pins s σ H Q I ⟨B,F',δ,ts,_,c,q,λds ai vs F1 H1 q1 f1 h1 c1 s1=>?_⟩
 intro x dx cM dA jY
 obtain⟨ns,xs,hI,hq⟩:=q1
 have sm:ae H1 (upd (upd H1 dx (.own x)) x (.ins C dx [])):=.of λb o e=>by rw[aS (dk e cM),aS (dk e dA)];exact e
 refine⟨x,dx,vs,ds.map D.sh,ns,xs,by rw[e7],vH (vH tb h1) sm,bC,(s1.frozen c1.ext).shared sm sm,hI,λH' ws A vI de hl r nd fr=>⟨rfl,?_⟩⟩
 have s2:ae H1 H':=⟨λb o e n=>vI.get b o (dk e cM) (sm.get b o e n) n,λb ps e=>by
  obtain⟨m1,e1⟩:=sm.tb b ps e
  obtain⟨m2,e2⟩:=vI.tb b _ e1
  exact⟨m1++m2,by rw[e2,o6]⟩⟩
 obtain⟨fs,c2⟩:=c1.made s2 de hl r λa ha=>sm.free (fr a ha)
 exact k _ ai _ _ H' hq (f1.trans fs) (h1.trans s2) c2
end
end L3
namespace Mf
open PySem L2 L3
noncomputable def gm(m:Bool × Nat)(a b:Nat):Nat:=if m.1 then md (cl a b) m.2 else a*b%m.2
noncomputable def aa(m:Bool × Nat):Nat:=if m.1 then 2 ^ (bl m.2-1)else m.2
noncomputable def yI(g:Nat->Nat->Nat)(a:Nat):Nat->Nat->List Int->Option (List Int)
 | 0,_,_=>none
 | f+1,p,acc=>if p=1 then some acc else if p<64 then yI g a f (g p a) (acc++[(p:Int)])else none
noncomputable def CG(g:Nat->Nat->Nat)(a:Nat):Option (List Int):=yI g a 64 (g 1 a) [1]
noncomputable def yJ(g:Nat->Nat->Nat)(many:Nat):Nat->Nat->List Int->Option (List Int)
 | 0,_,_=>none
 | f+1,st,l=>if l.length+1<many then(match CG g (st+1)with | some l'=>yJ g many f (st+1) l' | none=>none)else some l
noncomputable def vJ(g:Nat->Nat->Nat)(many:Nat):Option (List Int):=match CG g 1 with | some l=>yJ g many 62 1 l | none=>none
noncomputable def vK(g:Nat->Nat->Nat):rG:=λi j Q=>∃a b:Nat,i=a/\j=b/\a<64/\b<64/\Q (g a b:Nat)
noncomputable def jM:List Nat:=[7,11,13,19,25,31,37,41,47,55,59,61,67,73,87,91,97,103,109,115,117]
noncomputable def yK:List Nat:=[2,3,5,7,11,13,17,19,23,29,31,37,41,43,47,53,59,61]
noncomputable def aw:List (Bool × Nat):=jM.map (λn=>(true,n))++yK.map λn=>(false,n)
noncomputable def lh(l:List Int):Nat->List Int
 | 0=>aK (l.length+1) 0
 | i+1=>(lh l i).set (l.getD i 0).toNat (i:Int)
noncomputable def dv(l:List Int):List Int:=lh l l.length
theorem vL(l:List Int):∀i,(lh l i).length=l.length+1
 | 0=>by simp[lh]
 | i+1=>by simp[lh,vL l i]
noncomputable def mO(l g:List Int)(a:Nat):List Int:=if a=0 then aK (l.length+1) 0 else 0::(au l.length).map λ(b:Nat)=>l.getD ((g.getD a 0+g.getD (b+1) 0)%(l.length:Int)).toNat 0
noncomputable def rM(l g:List Int)(n:Nat):List D:=(au n).map λa=>D.lst true (aC (mO l g a))
noncomputable def mP(l g:List Int):List D:=rM l g (l.length+1)
end Mf
namespace L3
open PySem L2 Mf
noncomputable def LI(H:Hp)(p:Addr)(ns:List Int):Prop:=H p=some (.lst (ns.map V.int))
theorem LI.same{H H':Hp}{p:Addr}{ns:List Int}(h:LI H p ns)(s:ae H H'):LI H' p ns:=s.get _ _ h
theorem LI.upd{H:Hp}{p x:Addr}{ns:List Int}{o o':HO}(h:LI H p ns)(hx:H x=some o)(n:∀ws,o≠.lst ws):LI (upd H x o') p ns:=by
 unfold LI
 rw[aS (λz=>by rw[z]at h;unfold LI at h;rw[hx]at h;cases h;exact n _ rfl)];exact h
theorem Lz{F' H' H:Hp}{v:V}{A:List Addr}{ns:List Int}(r:R F' H' [.lst true (aC ns)] [v] A)(fr:∀a∈A,H a=none):∃p,v=.ref p/\LI H' p ns/\H p=none:=by
 cases r with
 | @own p ws xs A1 _ _ B1 hp hf r1 r2 =>
  have:=KJ r1.s
  subst this
  exact⟨p,rfl,hp,fr p (by simp)⟩
structure Wo(K:PySem.W.Frag)(C f:Addr):Prop where
 cls:cR K C
 many:bj K C "many"
 wide:bj K C "wide"
 CH:bj K C "powers"
 Wq:bj K C "logs"
 step:bj K C "step"
 sp:Meth K C "step_power" f
structure LA(g:Nat->Nat->Nat)(many:Nat)(l:List Int)(st:Int):Prop where
 lo:2<=many
 hi:many<=64
 step:vJ g many=some l
 len:l.length+1=many
 ins:∀x∈l,0<=x/\x.toNat<=l.length
 st:l[((1:Int)%((many:Int)-1)).toNat]?=some st
noncomputable def fS(b:Str):List Str:=[b,"many","wide","powers","logs","step"]
noncomputable def yL(n0:Int)(many:Nat)(p1 p2:Addr)(st:Int):List V:=[.int n0,.int many,.int ((bl many:Nat)-1),.ref p1,.ref p2,.int st]
theorem rN{f:Str}{v:V}:∀{fs:List (Str × V)},(∀p∈fs,p.1≠f)->bf f v fs=fs++[(f,v)]
 | [],_=>rfl
 | (g,x)::r,h=>by
  unfold bf
  rw[if_neg (h (g,x) (by simp)),rN λp hp=>h p (by simp[hp])];rfl
theorem iY.rO{H:Hp}{x C dx f c k:Addr}{fs:List (Str × V)}{o':HO}{of oc:Obj}(h:iY H f of oc c k)(hx:H x=some (.ins C dx fs)):iY (L2.upd H x o') f of oc c k:=by
 obtain⟨ψ,e,vE⟩:=h.BJ
 exact⟨by rw[aS (λz=>by rw[<-z,h.fn]at hx;cases hx)];exact h.fn,by rw[aS (λz=>by rw[<-z,h.cell]at hx;cases hx)];exact h.cell,ψ,by rw[aS (λz=>by rw[<-z,e]at hx;cases hx)];exact e,vE⟩
theorem vM{H:Hp}{x p:Addr}{o o':HO}(hx:H x=some o)(h:L2.upd H x o' p=none):H p=none:=by
 by_cases z:p=x
 ·subst z;rw[bC]at h;cases h
 ·rw[aS z]at h;exact h
theorem yM{α:Type}{b f:Str}{v:α}{r:List (Str × α)}(h:b≠f):((b,v)::r).lookup f=r.lookup f:=by
 rw[eD,beq_eq_false_iff_ne.mpr (dP h)]
section
variable{H2 H3 H':Hp}{x f c p:Addr}{o1 o2:HO}
theorem vN{b:Addr}{o:HO}(e:H3 b=some o)(nb:b≠f)(nc:H3 c=none):L2.upd (L2.upd H3 f o1) c o2 b=some o:=by
 rw[aS (dk e nc),aS nb];exact e
theorem LB(hs:ae H2 H3)(nf:H2 f=none)(nc:H3 c=none)(s:bH x (L2.upd (L2.upd H3 f o1) c o2) H'):bH x H2 (rem H' f c) where
 get b o n e t:=by
  have z1:=dk e nf
  have e3:=hs.get b o e t
  rw[fQ z1 (dk e3 nc)]
  exact s.get b o n (vN e3 z1 nc) t
 tb b ps e:=by
  have z1:=dk e nf
  obtain⟨m,e3⟩:=hs.tb b ps e
  obtain⟨m2,e4⟩:=s.tb b _ (vN e3 z1 nc)
  exact⟨m++m2,by rw[fQ z1 (dk e3 nc),e4,o6]⟩
theorem yN(hs:ae H2 H3)(h:L2.upd (L2.upd H3 f o1) c o2 p=none):H2 p=none:=by
 refine hs.free ?_
 by_cases z:p=c
 ·subst z;rw[bC]at h;cases h
 ·rw[aS z]at h
  by_cases z2:p=f
  ·subst z2;rw[bC]at h;cases h
  ·rw[aS z2]at h;exact h
theorem LI.rem{l:List Int}{φ:Heap->Prop}{y:Addr}(h:LI H' p l)(hf:H' f=some (.ext φ))(hc:H' c=some (.own y)):LI (rem H' f c) p l:=by
 unfold LI at h ⊢
 rw[fQ (λz=>by rw[z,hf]at h;cases h) (λz=>by rw[z,hc]at h;cases h)];exact h
theorem LC{of oc:Obj}{k:Addr}(jY:c≠f)(nc:H3 c=none)(hk:BI H3 k)(kf:k≠f):iY (L2.upd (L2.upd H3 f (.ext (iy of oc c f))) c (.own f)) f of oc c k:=by
 obtain⟨ψ,e,vE⟩:=hk
 exact⟨by rw[aS jY.symm,bC],bC,ψ,vN e kf nc,vE⟩
end
noncomputable def fl(m:Bool × Nat):List Int:=(vJ (gm m) (aa m)).getD []
noncomputable def fst(m:Bool × Nat):Int:=(fl m).getD ((1:Int)%((aa m:Int)-1)).toNat 0
noncomputable def LD(m:Bool × Nat):Bool:=decide (2<=aa m)&&decide (aa m<=64)&&(vJ (gm m) (aa m)).isSome&&decide ((fl m).length+1=aa m)&&(fl m).all (λx=>decide (0<=x)&&decide (x.toNat<=(fl m).length))&&decide (((1:Int)%((aa m:Int)-1)).toNat<(fl m).length)
theorem Wr:aw.all LD=true:=by decide +kernel
theorem dw{m:Bool × Nat}(h:m∈aw):LA (gm m) (aa m) (fl m) (fst m):=by
 have h:=dj.mp Wr m h
 simp only[LD,di,decide_eq_true_eq,dj]at h
 obtain⟨⟨⟨⟨⟨h1,h2⟩,h3⟩,h4⟩,h5⟩,h6⟩:=h
 obtain⟨l,e⟩:=Pj.mp h3
 have el:fl m=l:=by unfold fl;rw[e];rfl
 refine⟨h1,h2,by rw[e,el],h4,λx hx=>h5 x hx,?_⟩
 unfold fst
 rw[aV,aR h6];rfl
theorem Ws:∀p∈yK,(decide (2<=(p:Int))&&decide ((p:Int)<=61)&&(au ((p:Int).toNat-2)).all λi=>(p:Int)%(2+(i:Int)) != 0)=true:=by decide +kernel
theorem Wt:∀p∈jM,(decide (4<=(p:Int))&&decide ((p:Int)<=127)&&al (p:Int).toNat)=true:=by decide +kernel
theorem R.rO{F H:Hp}{x C dx:Addr}{fs:List (Str × V)}{o':HO}{ds:List D}{vs:List V}{A:List Addr}(r:R F H ds vs A)(hx:H x=some (.ins C dx fs))(hd:ds.all D.fr=true):R F (L2.upd H x o') ds vs A:=by
 have up:∀{a o},H a=some o->(∀C dx fs,o≠.ins C dx fs)->L2.upd H x o' a=some o:=λ{a o} e n=>by
  rw[aS (λz=>by rw[z,hx]at e;cases e;exact n _ _ _ rfl)];exact e
 induction r with
 | nil=>exact .nil
 | ak _ ih=>exact .ak (ih (by simpa[D.fr]using hd))
 | bl _ ih=>exact .bl (ih (by simpa[D.fr]using hd))
 | int _ ih=>exact .int (ih (by simpa[D.fr]using hd))
 | str _ ih=>exact .str (ih (by simpa[D.fr]using hd))
 | shr h x _ i1 ih=>simp[eU]at hd
 | own h f _ _ i1 i2 =>
  rw[dh,eU,di,kr]at hd
  exact .own (up h λ_ _ _ z=>by cases z) f (i1 hd.1) (i2 hd.2)
 | tup h _ _ i1 i2 =>
  rw[dh,nI,di]at hd
  exact .tup (up h λ_ _ _ z=>by cases z) (i1 hd.1) (i2 hd.2)
 | obj h l x _ i1 ih=>simp[D.fr]at hd
 | fz h x _ i1 ih=>simp[D.fr]at hd
 | @bt p z _ _ _ h r ih =>
  refine .bt ?_ (ih (by simpa[D.fr]using hd))
  cases z with
  | ext φ=>exact up h λ_ _ _ z=>by cases z
  | lam of oc c k=>exact iY.rO h hx
theorem LF(l g:List Int):(mP l g).all D.fr=true:=by
 unfold mP rM
 rw[m8,dj]
 intro a _
 show(D.lst true (aC _)).fr=true
 rw[eU,oq];rfl
theorem bH.free{x a:Addr}{H H':Hp}(s:bH x H H')(hx:H' x≠none)(h:H' a=none):H a=none:=by
 cases q:H a with
 | none=>rfl
 | some o =>
  by_cases z:a=x
  ·subst z;exact absurd h hx
  ·cases n:gY o with
   | true=>rw[s.get a o z q n]at h;cases h
   | false =>
    obtain⟨ps,rfl⟩:=BH n
    obtain⟨m,e⟩:=s.tb a ps q
    rw[e]at h;cases h
theorem LG(l:List Int):∀i,∀x∈lh l i,0<=x
 | 0=>λx hx=>by rw[(xj.mp hx).2];exact Int.le_refl _
 | i+1=>λx hx=>by
  unfold lh at hx
  rcases HL hx with h | h
  ·exact LG l i x h
  ·rw[h];exact Ht _
theorem Wu:∀p∈jM,bl p<=7:=by decide +kernel
theorem Wv:∀p∈jM,1<=bl p:=by decide +kernel
theorem Ww(a b:Nat):bl (cl a b)<=bl a+bl b:=by
 by_cases ha:a=0
 ·subst ha;rw[mq];exact mW _
 ·by_cases hb:b=0
  ·subst hb
   have:cl a 0=0:=rfl
   rw[this];exact mW _
  ·rw[Ju ha hb];omega
noncomputable def rP(l g:List Int):List D:=(au (l.length+1)).map λa=>D.lst false (aC (mO l g a))
theorem Wx(l g:List Int):(D.lst true (mP l g)).sh=.lst false (rP l g):=by
 rw[dZ]
 unfold mP rM rP
 rw[cV]
 congr 1
 apply gk
 intro a _
 show D.sh (.lst true (aC _))=_
 rw[dZ,i5]
noncomputable abbrev pD(m:Bool × Nat):List D:=[.int m.2,.int (aa m),.int ((bl (aa m):Nat)-1),.lst false (aC (fl m)),.lst false (aC (dv (fl m))),.int (fst m)]
noncomputable def vO(C:Addr)(p:Nat):D:=.obj C (fS "prime") (pD (false,p))
noncomputable def yO(C:Addr)(p:Nat):D:=.obj C (fS "bits"++[("products":Str)]) (pD (true,p)++[.lst false (rP (fl (true,p)) (dv (fl (true,p))))])
noncomputable def fD(cb cp:Addr)(m:Bool × Nat):D:=if m.1 then yO cb m.2 else vO cp m.2
end L3
namespace L3
open PySem L2 Mf
theorem LH{u p:Nat}(h:bl u<bl p):md u p=u:=um (q:=0) (by rw[mq,m5]) h
theorem Wy{u v n:Nat}(hu:bl u<n)(hv:bl v<n):bl (u ^^^ v)<n:=by
 have h1:u<2 ^ (n-1):=eT.mp (by omega)
 have h2:v<2 ^ (n-1):=eT.mp (by omega)
 have:=eT.mpr (pX h1 h2)
 omega
theorem LJ{p:Nat}(hp:p≠0)(u v:Nat):md (u ^^^ v) p=md u p ^^^ md v p:=by
 obtain⟨⟨q1,e1⟩,l1⟩:=uk hp u
 obtain⟨⟨q2,e2⟩,l2⟩:=uk hp v
 refine um (q:=q1 ^^^ q2) ?_ (Wy l1 l2)
 rw[nE,<- Jm,<- e1,<- e2]
theorem Wz{p:Nat}(hp:p≠0)(w:Nat):md (cl p w) p=0:=by rw[ui];exact Tj w hp
theorem cw:∀m∈aw,0<m.2:=by decide +kernel
theorem fo(m:Bool × Nat)(a b:Nat):gm m a b=gm m b a:=by
 unfold gm
 split
 ·rw[ui]
 ·rw[km]
theorem LK{n:Nat}(hn:n≠0)(u c:Nat):md (cl (md u n) c) n=md (cl u c) n:=by
 obtain⟨⟨q,e⟩,_⟩:=uk hn u
 have h:cl u c=cl n (cl q c) ^^^ cl (md u n) c:=by
  conv=>lhs;rw[e]
  rw[nE,ui n q,Jy]
 rw[h,LJ hn,Wz hn,m5]
theorem fU{m:Bool × Nat}(h:0<m.2)(a b c:Nat):gm m (gm m a b) c=gm m a (gm m b c):=by
 unfold gm
 split
 ·rw[LK (by omega),ui (md (cl b c) m.2) a,LK (by omega),Jy a b c,ui (cl b c) a]
 ·rw[tu,HM,<- tu,tu a (b*c%m.2),HM,<- tu,m6]
theorem LL{m:Bool × Nat}(h:m.1=true){a:Nat}:a<aa m↔bl a<=bl m.2-1:=by
 unfold aa
 rw[if_pos h];exact eT.symm
theorem rQ{m:Bool × Nat}{a:Nat}(ha:a<aa m):gm m 1 a=a:=by
 obtain⟨k,n⟩:=m
 cases k with
 | true =>
  show md (cl 1 a) n=a
  rw[Bo]
  have h1:=(LL (m:=(true,n)) rfl).mp ha
  have h1:bl a<=bl n-1:=h1
  by_cases z:bl n=0
  ·have a0:a=0:=by
    have:=eT (n:=a) (m:=0)
    have:=this.mp (by omega)
    omega
   subst a0
   have n0:n=0:=by
    have:=(eT (n:=n) (m:=0)).mp (by omega)
    omega
   subst n0
   decide
  ·exact LH (by omega)
 | false=>show 1*a%n=a;rw[tw];exact xm ha
theorem lj{m:Bool × Nat}{a:Nat}(ha:a<aa m):gm m a 1=a:=by rw[fo];exact rQ ha
noncomputable def lg(m:Bool × Nat)(a:Nat):Int:=(dv (fl m)).getD a 0
noncomputable def pw(m:Bool × Nat)(k:Nat):Int:=(fl m).getD k 0
noncomputable def CI(m:Bool × Nat):Bool:=((au (aa m-1)).all λk=>decide (1<=pw m k)&&decide (pw m k<aa m)&&decide (lg m (pw m k).toNat=k))&&((au (aa m-1)).all λa=>decide (0<=lg m (a+1))&&decide (lg m (a+1)<(aa m:Int)-1)&&decide (pw m (lg m (a+1)).toNat=((a+1:Nat):Int)))
theorem LM:aw.all CI=true:=by decide +kernel
theorem yP{m:Bool × Nat}(hm:m∈aw){k:Nat}(hk:k<aa m-1):1<=pw m k/\pw m k<aa m/\lg m (pw m k).toNat=k:=by
 have h:=dj.mp LM m hm
 simp only[CI,di,dj,decide_eq_true_eq,bP]at h
 have:=h.1 k hk
 exact⟨this.1.1,this.1.2,this.2⟩
theorem yQ{m:Bool × Nat}(hm:m∈aw){a:Nat}(h1:1<=a)(h2:a<aa m):0<=lg m a/\lg m a<(aa m:Int)-1/\pw m (lg m a).toNat=a:=by
 have h:=dj.mp LM m hm
 simp only[CI,di,dj,decide_eq_true_eq,bP]at h
 have:=h.2 (a-1) (by omega)
 rw[show a-1+1=a by omega]at this
 exact⟨this.1.1,this.1.2,this.2⟩
theorem fq(m:Bool × Nat)(b:Nat)(h:0<m.2):gm m 0 b=0:=by
 unfold gm
 split
 ·rw[mq];exact LH (by rw[ug];exact jB (by omega))
 ·rw[xn,Nat.zero_mod]
theorem fV(m:Bool × Nat)(b:Nat)(h:0<m.2):gm m b 0=0:=by rw[fo];exact fq m b h
noncomputable def stC(m:Bool × Nat):Bool:=decide (pw m 0=1)&&(au (aa m-1)).all λk=>decide (gm m (pw m k).toNat (pw m (1%(aa m-1))).toNat=(pw m ((k+1)%(aa m-1))).toNat)
theorem LN:aw.all stC=true:=by decide +kernel
theorem LO(m:Bool × Nat)(hm:m∈aw):pw m 0=1:=by
 have h:=dj.mp LN m hm
 simp only[stC,di,decide_eq_true_eq]at h
 exact h.1
noncomputable def pN(m:Bool × Nat)(k:Nat):Nat:=(pw m (k%(aa m-1))).toNat
theorem WA{m:Bool × Nat}(hm:m∈aw)(k:Nat):pN m k<aa m:=by
 have dX:=(dw hm).lo
 have:=yP hm (tD k (show 0<aa m-1 by omega))
 unfold pN
 omega
theorem LP{m:Bool × Nat}(hm:m∈aw)(k:Nat):gm m (pN m k) (pN m 1)=pN m (k+1):=by
 have dX:=(dw hm).lo
 have h:=dj.mp LN m hm
 simp only[stC,di,decide_eq_true_eq,dj,bP]at h
 have h2:=h.2 (k%(aa m-1)) (tD k (by omega))
 rw[Ak]at h2
 exact h2
theorem LQ{m:Bool × Nat}(hm:m∈aw)(i:Nat):∀j,gm m (pN m i) (pN m j)=pN m (i+j)
 | 0=>by
  have e:pN m 0=1:=by unfold pN;rw[Nat.zero_mod,LO m hm];rfl
  rw[e,lj (WA hm i)];rfl
 | j+1=>by rw[<-LP hm j,<- fU (cw m hm),LQ hm i j,LP hm];rfl
theorem CJ{m:Bool × Nat}(hm:m∈aw){a b:Nat}(a1:1<=a)(a2:a<aa m)(b1:1<=b)(b2:b<aa m):((gm m a b:Nat):Int)=pw m ((lg m a+lg m b)%((aa m:Int)-1)).toNat:=by
 have dX:=(dw hm).lo
 obtain⟨g0,g1,g2⟩:=yQ hm a1 a2
 obtain⟨f0,f1,f2⟩:=yQ hm b1 b2
 have ea:pN m (lg m a).toNat=a:=by unfold pN;rw[xm (by omega),g2];rfl
 have eb:pN m (lg m b).toNat=b:=by unfold pN;rw[xm (by omega),f2];rfl
 have e:=LQ hm (lg m a).toNat (lg m b).toNat
 rw[ea,eb]at e
 rw[e]
 have ei:((lg m a+lg m b)%((aa m:Int)-1)).toNat=((lg m a).toNat+(lg m b).toNat)%(aa m-1):=by
  have:(((lg m a).toNat+(lg m b).toNat)%(aa m-1):Nat)=((lg m a+lg m b)%((aa m:Int)-1)):=by
   rw[xo,HN,pG g0,pG f0,Int.natCast_sub (by omega)];rfl
  omega
 rw[ei]
 have:=yP hm (tD ((lg m a).toNat+(lg m b).toNat) (show 0<aa m-1 by omega))
 unfold pN
 omega
theorem WB{p a:Nat}(hp:p∈jM)(ha:a<aa (true,p)):mO (fl (true,p)) (dv (fl (true,p))) a=(au (aa (true,p))).map λb=>((gm (true,p) a b:Nat):Int):=by
 have hm:(true,p)∈aw:=eH _ (Al hp)
 have h0:=cw _ hm
 have hF:=dw hm
 have hlen:=hF.len
 unfold mO
 split
 ·rename_i h
  subst h
  rw[hlen]
  refine HP (by simp) λi h1 h2=>?_
  simp[fq _ _ h0]
 ·rename_i h
  rw[<-hlen,HG,bV,cV,fV _ _ h0]
  congr 1
  apply gk
  intro b hb
  have hb:=bP.mp hb
  show(fl (true,p)).getD (((dv (fl (true,p))).getD a 0+(dv (fl (true,p))).getD (b+1) 0)%((fl (true,p)).length:Int)).toNat 0=((gm (true,p) a (b+1):Nat):Int)
  rw[CJ hm (by omega) ha (by omega) (by omega),show(((fl (true,p)).length:Nat):Int)=(aa (true,p):Int)-1 by omega]
  rfl
theorem LR{p a b:Nat}(hp:p∈jM)(ha:a<aa (true,p))(hb:b<aa (true,p)):dM (aC (mO (fl (true,p)) (dv (fl (true,p))) a)) (b:Int)=some (.int (gm (true,p) a b:Nat)):=by
 refine mm (by omega) ?_
 rw[WB hp ha]
 unfold aC
 rw[jQ,cJ,cJ,ky hb];rfl
theorem LS{p a:Nat}(hp:p∈jM)(ha:a<aa (true,p)):dM (rP (fl (true,p)) (dv (fl (true,p)))) (a:Int)=some (.lst false (aC (mO (fl (true,p)) (dv (fl (true,p))) a))):=by
 have hF:=dw (m:=(true,p)) (eH _ (Al hp))
 refine mm (by omega) ?_
 unfold rP
 rw[jQ,cJ,ky (by rw[hF.len];exact ha)];rfl
end L3
namespace L3
open PySem L2 Mf
theorem WC(C:Addr)(p:Nat):D.obj C (fS "bits"++[("products":Str)]) (Ah D.sh [.int p,.int (aa (true,p)),.int ((bl (aa (true,p)):Nat)-1),.lst true (aC (fl (true,p))),.lst true (aC (dv (fl (true,p)))),.int (fst (true,p)),.lst true (mP (fl (true,p)) (dv (fl (true,p))))])=yO C p:=by
 simp only[bV,iM]
 rw[Wx]
 simp only[dZ,mE,i5];rfl
theorem WD(C:Addr)(p:Nat):D.obj C (fS "prime") (Ah D.sh [.int p,.int p,.int ((bl p:Nat)-1),.lst true (aC (fl (false,p))),.lst true (aC (dv (fl (false,p)))),.int (fst (false,p))])=vO C p:=by
 simp only[bV,iM,dZ,mE,i5];rfl
theorem CK{n:Nat}(h:(true,n)∈aw):n∈jM:=by
 rcases cB.mp h with h | h
 ·obtain⟨x,hx,e⟩:=cC.mp h
  cases e;exact hx
 ·obtain⟨x,hx,e⟩:=cC.mp h
  cases e
theorem WE{n:Nat}(h:(false,n)∈aw):n∈yK:=by
 rcases cB.mp h with h | h
 ·obtain⟨x,hx,e⟩:=cC.mp h
  cases e
 ·obtain⟨x,hx,e⟩:=cC.mp h
  cases e;exact hx
open Classical in
theorem WG{α:Type}{sh:Bool}{xs:List D}{aq:List (Str × Nat)}{n:Nat}{g0:fL}{te:aB}{ai:Dl}{Q:D->Dl->Prop}(l:List α)(e g:α->D)(hJ:xs.map D.sh=l.map e)(inj:∀a b,e a=e b->a=b)
  (hx:∀a∈l,g0 (e a) (eK aq n ai) λaJ=>te aJ λd _=>d=g a) (hg:∀d δ (P P':Dl->Prop),(∀ag,P ag->P' ag)->g0 d δ P->g0 d δ P') (dz:(sh&&aq.all (g7 ai))=true\/∀a∈l,(g a).fr=true) (hl:l.length<=sizeLine) (hq:Q (.lst true (l.map g)) ai):qF sh xs aq n g0 j5 te ai Q:=by
 let f:D->D:=λx=>if h:∃a∈l,e a=x then g h.choose else .ak
 have hf:∀a∈l,f (e a)=g a:=λa ha=>by
  have h:∃b∈l,e b=e a:=⟨a,ha,rfl⟩
  show(if h:∃b∈l,e b=e a then g h.choose else .ak)=g a
  rw[dif_pos h]
  exact congrArg g (inj _ _ h.choose_spec.2)
 refine⟨λ_=>true,f,λx h=>?_,dz.imp id λh x hx _=>?_,?_,?_⟩
 ·rw[hJ]at h
  obtain⟨a,ha,rfl⟩:=cC.mp h
  rw[hf a ha]
  exact hg _ _ _ _ (λag h=>⟨rfl,λ_=>h⟩) (hx a ha)
 ·rw[hJ]at hx
  obtain⟨a,ha,rfl⟩:=cC.mp hx
  rw[hf a ha];exact h a ha
 ·have:=congrArg zR hJ
  simp at this
  omega
 ·rw[hJ,Pt.mpr (λ_ _=>rfl),cV,show l.map (f ∘ e)=l.map g from gk λa ha=>hf a ha]
  exact hq
theorem WH{i1 i2:Nat}(d:D)(δ:Dl)(P P':Dl->Prop)(h:∀ag,P ag->P' ag)(q:i6 i1 i2 d δ P):i6 i1 i2 d δ P':=by
 unfold i6 at q ⊢
 split at q
 ·exact h _ q
 ·exact q
theorem WI(xs ys:List Int):(eL (aC xs) (aC ys)).map D.sh=(xs.zip ys).map λz=>D.tup [.int z.1,.int z.2]:=by
 rw[KZ,i5,i5]
 unfold eL aC
 rw[List.zipWith_map,List.zip,Ai]
end L3
namespace L3
open PySem L2 PySem.Spec PyProof.Rows
structure yR(P:Program)(w:World)(K:PySem.W.Frag)(mg:Str->Option Value)(base:Heap)(n:Nat)(m:Str)(C:Addr)(sp:mH):Prop where
 cls:cR K C
 ex:∃f fd ps,Meth K C m f/\aQ P w K mg base (kN P w) n f fd ps (vt sp)/\Binds K fd ps []
section
variable{X:Cx}{e o:Expr}{es:List Expr}{f m x:Str}{pos p apos:Pos}{to:aB}{ta:bX}{n:Nat}
noncomputable def oH(MO:Addr->mH->Prop)(m:Str)(to:aB)(ta:bX):aB:=λδ Q=>to δ λd ai=>∃C ns xs sp,d=.obj C ns xs/\MO C sp/\m ∉ ns/\ta ai λds aJ=>sp ((D.obj C ns xs::ds).map D.sh) (λr=>((D.obj C ns xs::ds).all D.pl||r.fr)=true/\Q r aJ) λ_=>False
theorem WJ{pl:Sem Bool}(ho:PE X o (lB to))(hr:bM n X.A)(ha:PA X (e::es) (lA ta))
  (cq:starEach (e::es) X.env=(false,eval e X.env)::starEach es X.env:=by rfl) (bD:(backTo pos (starEach es X.env)).any (·.1)=false:=by rfl)
  (ht:eval (.Call (.Attribute o m apos) (e::es) [] pos) X.env=(do
   let ov<-eval o X.env
   standAt apos.atName
   let (f,first)<-holding [ov] (getMethod ov m pl)
   callWith pos f first (backTo pos (starEach (e::es) X.env)) (backToKw pos (keywordEach [] X.env))):=by rfl) :
  PE X (.Call (.Attribute o m apos) (e::es) [] pos) (lE (oH (yR X.prog X.w X.K X.mg X.base n m) m to ta)):=by
 intro pins s σ H Q I zz
 obtain⟨B,F,δ,ts,Qd,c,q,k⟩:=zz
 refine PySem.W.methodCall_KW (pl:=pl) (aD (ho pins s σ H (λx H1=>∃d ai F1,S F1 H1 [d] [x]/\aj B F1 H1 σ ai ts/\ae F F1/\ae H H1/\∃C ns xs sp,d=.obj C ns xs/\yR X.prog X.w X.K X.mg X.base n m C sp/\m ∉ ns/\ta ai λds aJ=>sp ((D.obj C ns xs::ds).map D.sh) (λr=>((D.obj C ns xs::ds).all D.pl||r.fr)=true/\Qd r aJ) λ_=>False) I
  ⟨B,F,δ,ts,_,c,q,λd ai v F1 H1 hq f1 h1 c1 s1=>⟨d,ai,F1,s1,c1,f1,h1,hq⟩⟩) λu s1 zq=>?_) ht
 obtain⟨x,H1,I1,rx,d,ai,F1,sd,c1,f1,h1,C,ns,xs,sp,ed,M,hm,hq⟩:=zq
 subst ed
 obtain⟨a,dx,ws,rfl,ea,hl,r0⟩:=yH sd
 obtain rfl:u=dG a:=rx
 obtain⟨f,fd,ps,mM,FO,hb⟩:=M.ex
 refine yc I1 ea M.cls mM (CC hm) ?_
 refine PySem.W.callWith_K (first:=[.ref a]) (h₀:=X.base) I.ok.mod.kC mM.kp (aD (ha pos pins s1 σ H1 (λvs H2=>∃ds aJ F2,S F2 H2 ds vs/\aj B F2 H2 σ aJ ts/\ae F1 F2/\ae H1 H2/\sp ((D.obj C ns xs::ds).map D.sh) (λr=>((D.obj C ns xs::ds).all D.pl||r.fr)=true/\Qd r aJ) λ_=>False) I1
  ⟨B,F1,ai,ts,_,c1,hq,λds aJ vs F2 H2 hq f2 h2 c2 s2=>⟨ds,aJ,F2,s2,c2,f2,h2,hq⟩⟩) λus s2 ⟨vs,H2,I2,r,ds,aJ,F2,CD,c2,f2,h2,fH⟩=>⟨I2.cE,?_⟩) cq bD
 refine pS (us:=.ref a::us) (vs:=.ref a::vs) (dD:=[]) (Cj FO) hr hb .nil Ci I2 (.cons rfl r) ?_
 rw[e7]
 exact uE (sp:=λds Q=>sp ds Q λ_=>False) c2 (.obj (h2 _ _ ea) hl (r0.shared f2 h2) CD) fH λd v F' H' hd hf hs c'=>k d aJ v F' H' hd (f1.trans (f2.trans hf)) (h1.trans (h2.trans hs)) c'
end
section
variable{X:Cx}{tb th:b9}{body Vt:List Stmt}{Vu:Stmt}{K:Str}{Kc:Addr}{kp Vv pos:Pos}
end
end L3
namespace L3
open PySem L2 Mf
theorem LU{m:Bool × Nat}(hm:m∈aw){a b:Nat}(a1:1<=a)(a2:a<aa m)(b1:1<=b)(b2:b<aa m):∃r:Nat,pw m ((lg m a-lg m b)%((aa m:Int)-1)).toNat=r/\r<aa m/\gm m r b=a:=by
 have hF:=dw hm
 have dX:=hF.lo
 have n0:=iN (lg m a-lg m b) (show(aa m:Int)-1≠0 by omega)
 have n1:=jR (lg m a-lg m b) (show(0:Int)<(aa m:Int)-1 by omega)
 obtain⟨p1,p2,p3⟩:=yP hm (k:=((lg m a-lg m b)%((aa m:Int)-1)).toNat) (by omega)
 obtain⟨g0,g1,g2⟩:=yQ hm a1 a2
 refine⟨(pw m ((lg m a-lg m b)%((aa m:Int)-1)).toNat).toNat,by omega,by omega,?_⟩
 have e:=CJ hm (a:=(pw m ((lg m a-lg m b)%((aa m:Int)-1)).toNat).toNat) (by omega) (by omega) b1 b2
 rw[p3,pG n0,Int.emod_add_emod,Int.sub_add_cancel,Am g0 g1,g2]at e
 omega
end L3
namespace L3
open PySem L2 PySem.Spec PyProof.Rows
section
variable{X:Cx}{e o a:Expr}{es:List Expr}{f m y:Str}{pos p apos q:Pos}{t to ta':aB}{ta:bX}{n:Nat}{P:Program}{w:World}{K:PySem.W.Frag}{mg:Str->Option Value}{base:Heap}
theorem eN(he:PE X e (lB t))(hK:K=X.K:=by rfl)(hb:attributeBase e f X.env (eval e X.env)=eval e X.env:=by rfl):PE X (.Attribute e f pos) (lB (oE K t f)):=by
 subst hK;exact Wl he hb
theorem rR{pl:Sem Bool}(ho:PE X o (lB to))(hr:bM n X.A)(ha:PA X (e::es) (lA ta))(hP:P=X.prog:=by rfl)(hw:w=X.w:=by rfl)(hK:K=X.K:=by rfl)(hm:mg=X.mg:=by rfl)(hb:base=X.base:=by rfl)
  (cq:starEach (e::es) X.env=(false,eval e X.env)::starEach es X.env:=by rfl) (bD:(backTo pos (starEach es X.env)).any (·.1)=false:=by rfl)
  (ht:eval (.Call (.Attribute o m apos) (e::es) [] pos) X.env=(do
   let ov<-eval o X.env
   standAt apos.atName
   let (f,first)<-holding [ov] (getMethod ov m pl)
   callWith pos f first (backTo pos (starEach (e::es) X.env)) (backToKw pos (keywordEach [] X.env))):=by rfl) :
  PE X (.Call (.Attribute o m apos) (e::es) [] pos) (lE (oF (jL P w K mg base n m) m to ta)):=by
 subst hP hw hK hm hb;exact Wm ho hr ha cq bD ht
theorem WK{pl:Sem Bool}(ho:PE X o (lB to))(hr:bM n X.A)(hP:P=X.prog:=by rfl)(hw:w=X.w:=by rfl)(hK:K=X.K:=by rfl)(hm:mg=X.mg:=by rfl)(hb:base=X.base:=by rfl)
  (ht:eval (.Call (.Attribute o m apos) [] [] pos) X.env=(do
   let ov<-eval o X.env
   standAt apos.atName
   let (f,first)<-holding [ov] (getMethod ov m pl)
   callWith pos f first (backTo pos (starEach [] X.env)) (backToKw pos (keywordEach [] X.env))):=by rfl) :
  PE X (.Call (.Attribute o m apos) [] [] pos) (lE (oG (jL P w K mg base n m) m to)):=by
 subst hP hw hK hm hb;exact Wn ho hr ht
theorem WL{pl:Sem Bool}(ho:PE X o (lB to))(hr:bM n X.A)(ha:PA X (e::es) (lA ta))(hP:P=X.prog:=by rfl)(hw:w=X.w:=by rfl)(hK:K=X.K:=by rfl)(hm:mg=X.mg:=by rfl)(hb:base=X.base:=by rfl)
  (cq:starEach (e::es) X.env=(false,eval e X.env)::starEach es X.env:=by rfl) (bD:(backTo pos (starEach es X.env)).any (·.1)=false:=by rfl)
  (ht:eval (.Call (.Attribute o m apos) (e::es) [] pos) X.env=(do
   let ov<-eval o X.env
   standAt apos.atName
   let (f,first)<-holding [ov] (getMethod ov m pl)
   callWith pos f first (backTo pos (starEach (e::es) X.env)) (backToKw pos (keywordEach [] X.env))):=by rfl) :
  PE X (.Call (.Attribute o m apos) (e::es) [] pos) (lE (oH (yR P w K mg base n m) m to ta)):=by
 subst hP hw hK hm hb;exact WJ ho hr ha cq bD ht
end
theorem WM:∀m∈Mf.aw,1<=Mf.bl m.2/\Mf.bl m.2<=7:=by decide +kernel
end L3
namespace L3
open PySem L2 Mf
noncomputable def gp(m:Bool × Nat)(a b:Nat):Nat:=if m.1 then a ^^^ b else(a+b)%m.2
noncomputable def gl(m:Bool × Nat)(a b:Nat):Int:=if m.1 then(a ^^^ b:Nat)else((a:Int)-b)%m.2
noncomputable def gd(m:Bool × Nat)(xs ys:List Nat):Nat:=(eR (gm m) xs ys).foldl (gp m) 0
noncomputable def i8(m:Bool × Nat):D:=.tup [.bl m.1,.int m.2]
theorem yS(cb cp:Addr)(m:Bool × Nat):fD cb cp m=.obj (if m.1 then cb else cp) (if m.1 then fS "bits"++[("products":Str)]else fS "prime") (if m.1 then pD (true,m.2)++[.lst false (rP (fl (true,m.2)) (dv (fl (true,m.2))))]else pD (false,m.2)):=by
 obtain⟨k,n⟩:=m
 cases k<;>rfl
theorem WN(m:Bool × Nat)(x:Str)(h:x ∉ (["bits","prime","many","wide","powers","logs","step","products"]:List Str)):x ∉ (if m.1 then fS "bits"++[("products":Str)]else fS "prime"):=by
 obtain⟨k,n⟩:=m
 intro z
 apply h
 cases k
 ·have z:x∈fS "prime":=z
  simp[fS]at z
  simp only[bR]
  rcases z with z | z | z | z | z | z<;>simp[z]
 ·have z:x∈fS "bits"++[("products":Str)]:=z
  simp[fS]at z
  simp only[bR]
  rcases z with z | z | z | z | z | z | z<;>simp[z]
theorem LV(cb cp:Addr)(m:Bool × Nat):(fD cb cp m).sh=fD cb cp m:=by rw[yS];rfl
theorem CL(cb cp:Addr)(m:Bool × Nat):(fD cb cp m).pl=true:=by rw[yS];rfl
theorem WO(m:Bool × Nat):(i8 m).sh=i8 m:=rfl
theorem WQ(m:Bool × Nat):(i8 m).pl=true:=rfl
noncomputable def WR(P:Program)(w:World)(K:PySem.W.Frag)(mg:Str->Option Value)(base:Heap)(n:Nat)(cb cp:Addr)(m:Bool × Nat)(x:Str)(ds:List D)(Q:D->Prop):Prop:=∃C ns xs sp,fD cb cp m=.obj C ns xs/\jL P w K mg base n x C sp/\x ∉ ns/\sp (.obj C ns xs::ds) Q
theorem vP(m:Bool × Nat)(a b:Nat):gp m a b=gp m b a:=by
 unfold gp
 split
 ·rw[Hy]
 ·rw[sX]
theorem WS(m:Bool × Nat)(a b c:Nat):gp m (gp m a b) c=gp m a (gp m b c):=by
 unfold gp
 split
 ·rw[pq]
 ·rw[Ak,Nat.add_mod_mod,HH]
theorem WT{m:Bool × Nat}(h:0<m.2)(a b c:Nat):gm m (gp m a b) c=gp m (gm m a c) (gm m b c):=by
 unfold gm gp
 split
 ·rw[nE,LJ (by omega)]
 ·rw[tu,HM,<- tu,An,Ak,Nat.add_mod_mod]
theorem yT{m:Bool × Nat}(h:0<m.2)(a b c:Nat):gm m c (gp m a b)=gp m (gm m c a) (gm m c b):=by rw[fo,WT h,fo m a,fo m b]
theorem WU:∀m∈aw,m.1=true->2<=bl m.2:=by decide +kernel
theorem LW{m:Bool × Nat}(hm:m∈aw){a b:Nat}(ha:a<aa m)(hb:b<aa m):gp m a b<aa m:=by
 have h0:=cw m hm
 obtain⟨k,n⟩:=m
 cases k with
 | true=>exact pX ha hb
 | false=>exact tD _ h0
theorem cI{m:Bool × Nat}(hm:m∈aw)(a b:Nat):gm m a b<aa m:=by
 have h0:=cw m hm
 obtain⟨k,n⟩:=m
 cases k with
 | true =>
  have h2:=WU (true,n) hm rfl
  have:=(uk (show n≠0 by have:0<n:=h0;omega) (cl a b)).2
  refine(LL rfl).mpr ?_
  show bl (md (cl a b) n)<=bl n-1
  omega
 | false=>exact tD _ h0
theorem i9{m:Bool × Nat}{a:Nat}(ha:a<aa m):gp m 0 a=a:=by
 obtain⟨k,n⟩:=m
 cases k with
 | true=>exact m5 a
 | false=>show(0+a)%n=a;rw[Nat.zero_add];exact xm ha
theorem oI{m:Bool × Nat}{a:Nat}(ha:a<aa m):gp m a 0=a:=by rw[vP];exact i9 ha
theorem WV{m:Bool × Nat}(hm:m∈aw){a b:Nat}(ha:a<aa m)(hb:b<aa m):∃r:Nat,gl m a b=r/\r<aa m/\gp m r b=a:=by
 have h0:=cw m hm
 obtain⟨k,n⟩:=m
 cases k with
 | true=>exact⟨a ^^^ b,rfl,pX ha hb,by show a ^^^ b ^^^ b=a;rw[pq,xh,m4]⟩
 | false =>
  have h0:0<n:=h0
  have ha:a<n:=ha
  have hb:b<n:=hb
  refine⟨(a+(n-b))%n,?_,tD _ h0,?_⟩
  ·show((a:Int)-b)%n=_
   rw[xo,HN,Int.natCast_sub (by omega),show((a:Int)+((n:Int)-b))=((a:Int)-b)+n by omega,Int.add_emod_right]
  ·show((a+(n-b))%n+b)%n=a
   rw[Ak,show a+(n-b)+b=a+n by omega,Nat.add_mod_right,xm ha]
noncomputable def eS(m:Bool × Nat)(n:Int):Nat:=(pw m (n%((aa m:Int)-1)).toNat).toNat
theorem ly{m:Bool × Nat}(hm:m∈aw)(n:Int):1<=eS m n/\eS m n<aa m/\lg m (eS m n)=n%((aa m:Int)-1)/\pw m (n%((aa m:Int)-1)).toNat=eS m n:=by
 have dX:=(dw hm).lo
 have n0:=iN n (show(aa m:Int)-1≠0 by omega)
 have n1:=jR n (show(0:Int)<(aa m:Int)-1 by omega)
 obtain⟨p1,p2,p3⟩:=yP hm (k:=(n%((aa m:Int)-1)).toNat) (by omega)
 unfold eS
 rw[p3]
 omega
theorem CM{m:Bool × Nat}(hm:m∈aw)(n:Int):eS m n<aa m:=(ly hm n).2.1
theorem CN{m:Bool × Nat}(hm:m∈aw)(a b:Int):gm m (eS m a) (eS m b)=eS m (a+b):=by
 obtain⟨a1,a2,a3,_⟩:=ly hm a
 obtain⟨b1,b2,b3,_⟩:=ly hm b
 have e:=CJ hm a1 a2 b1 b2
 rw[a3,b3,<- Int.add_emod]at e
 have c:=(ly hm (a+b)).2.2.2
 rw[c]at e
 omega
theorem WW{m:Bool × Nat}(hm:m∈aw):eS m 0=1:=by
 unfold eS
 rw[Int.zero_emod,show(0:Int).toNat=0 from rfl,LO m hm];rfl
theorem LX{m:Bool × Nat}(hm:m∈aw){a:Nat}(h1:1<=a)(h2:a<aa m):eS m (lg m a)=a:=by
 obtain⟨g0,g1,g2⟩:=yQ hm h1 h2
 unfold eS
 rw[Am g0 g1,g2];rfl
theorem WX{m:Bool × Nat}(hm:m∈aw)(n:Int):(fl m)[(n%((aa m:Int)-1)).toNat]?=some ((eS m n:Nat):Int):=by
 have hF:=dw hm
 have dX:=hF.lo
 have n0:=iN n (show(aa m:Int)-1≠0 by omega)
 have n1:=jR n (show(0:Int)<(aa m:Int)-1 by omega)
 have hk:(n%((aa m:Int)-1)).toNat<(fl m).length:=by have:=hF.len;omega
 rw[<-(ly hm n).2.2.2]
 unfold pw
 rw[aV,aR hk];rfl
theorem WY{m:Bool × Nat}(hm:m∈aw){a b:Nat}(a1:1<=a)(a2:a<aa m)(b1:1<=b)(b2:b<aa m):gm m a b≠0:=by
 rw[<-LX hm a1 a2,<- LX hm b1 b2,CN hm]
 have:=(ly hm (lg m a+lg m b)).1
 omega
end L3
namespace L2
open PySem PySem.Spec PyProof.Rows
section
variable{X:Cx}{a:Expr}{ta:TA}{p pos:Pos}{tg:Expr}
end
end L2
namespace L3
open PySem L2 PySem.Spec PyProof.Rows
section
variable{F H:Hp}{K:PySem.W.Frag}{p:Addr}{ws:List V}{xs:List D}
end
section
variable{X:Cx}{a:Expr}{ta:bX}{p pos:Pos}{tg:Expr}
end
end L3
namespace L3
open PySem L2 Mf
noncomputable def px(m:Bool × Nat)(x:Nat):Nat->Nat
 | 0=>1
 | k+1=>gm m (px m x k) x
noncomputable def AllLt(n:Nat)(l:List Nat):Prop:=∀a∈l,a<n
theorem AllLt.getD{n:Nat}{l:List Nat}(h:AllLt n l)(h0:0<n)(k:Nat):l.getD k 0<n:=by
 rw[aV]
 cases e:l[k]? with
 | none=>exact h0
 | some v=>exact h v (pd e)
end L3
namespace L3
open PySem L2 PySem.Spec PyProof.Rows
theorem WZ(n:Nat)(l:List Nat):(aE l).all (df n)=true:=by
 rw[dF,m8,dj]
 intro a _
 exact rl n _
theorem CO(n:Nat)(o:Bool)(l:List Nat):df (n+1) (.lst o (aE l))=true:=WZ n l
theorem vQ(o o':Bool)(a b:List Nat):bF (.lst o (aE a)) (.lst o' (aE b))=decide (a=b):=by
 unfold aE
 rw[rm]
 congr 1
 apply propext
 constructor
 ·intro h
  have:=congrArg (Ah gn) h
  have e:(gn ∘ λ(n:Nat)=>(n:Int))=id:=by funext x;rfl
  rw[cV,cV,e,List.map_id,List.map_id]at this
  exact this
 ·intro h;rw[h]
theorem yU{l:List Nat}{k:Int}(h0:0<=k)(h:k.toNat<l.length):dM (aE l) k=some (.int ((l.getD k.toNat 0:Nat):Int)):=by
 refine mm h0 ?_
 rw[dF,cJ,aR h,aV,aR h];rfl
theorem LY{n:Nat}{k:Int}(h0:0<=k)(h:k.toNat<n):gR n k=some k.toNat:=by
 unfold gR
 rw[if_pos h0,if_pos (by omega)]
theorem yV{n:Nat}(k:Int)(h:k=n):(((au k.toNat).map λ(k:Nat)=>D.int (0+(k:Int))).map D.sh)=(au n).map λ(i:Nat)=>D.int (i:Int):=by
 subst h
 rw[uG,jQ]
 simp
theorem LZ(l:List Nat)(k v:Nat):(aE l).set k (.int (v:Nat))=aE (l.set k v):=by
 rw[dF,dF,HQ]
theorem W0(l:List Nat):(aE l).all D.fr=true:=oq _
theorem CP(o:Bool)(l:List Nat):(D.lst o (aE l)).sh=.lst false (aE l):=by rw[dZ,oy]
theorem mQ(l:List Nat):(D.lst true (aE l)).fr=true:=by rw[eU,W0];rfl
section
variable{X:Cx}
noncomputable def vR:iC:=λds Q=>match ds with
 | [.int i]=>Q (.int (if i<0 then -i else i))
 | _=>False
noncomputable def oJ:iC:=λds Q=>match ds with
 | [.int i]=>Q (.int i)
 | [.bl b]=>Q (.int (if b then 1 else 0))
 | _=>False
theorem W2:gD X (.type "int") oJ:=gD.of Ru λvs H Q zz=>by
 obtain⟨B,F,σ,δ,ts,ds,Qd,c,s,q,k⟩:=zz
 unfold oJ at q
 split at q
 ·obtain⟨v,rfl,s1⟩:=jI s
  cases s1
  exact .inl ⟨_,rfl,k _ _ _ q (ae.refl _) (c.pushS (.int .nil) rfl)⟩
 ·obtain⟨v,rfl,s1⟩:=jI s
  cases s1
  exact .inr ⟨_,rfl,k _ _ _ q (ae.refl _) (c.pushS (.int .nil) rfl)⟩
 ·exact q.elim
end
end L3
namespace L3
open PySem L2 Mf
noncomputable def aI(m:Bool × Nat)(a b:Nat):Nat:=(gl m a b).toNat
theorem gF{m:Bool × Nat}(hm:m∈aw){a b:Nat}(ha:a<aa m)(hb:b<aa m):gl m a b=(aI m a b:Nat)/\aI m a b<aa m/\gp m (aI m a b) b=a:=by
 obtain⟨r,e,h1,h2⟩:=WV hm ha hb
 have:aI m a b=r:=by unfold aI;rw[e];rfl
 rw[this]
 exact⟨e,h1,h2⟩
theorem L0{n:Nat}{f:Nat->Nat->Nat}:∀{a b:List Nat},(∀x∈a,∀y∈b,f x y<n)->AllLt n (eR f a b)
 | [],_,_=>by intro x hx;simp at hx
 | _::_,[],_=>by intro x hx;simp at hx
 | x::a,y::b,h=>by
  intro z hz
  rw[List.zipWith_cons_cons]at hz
  rcases bR.mp hz with rfl | hz
  ·exact h x (by simp) y (by simp)
  ·exact L0 (λx hx y hy=>h x (by simp[hx]) y (by simp[hy])) z hz
theorem W3(xs ys:List Nat):(eL (aE xs) (aE ys)).map D.sh=(xs.zip ys).map λz=>D.tup [.int (z.1:Int),.int (z.2:Int)]:=by
 unfold aE
 rw[WI,List.zip_map,cV];rfl
theorem L1{sh:Bool}{aq:List (Str × Nat)}{n i1 i2:Nat}{te:aB}{ai:Dl}{Q:D->Dl->Prop}(f:Nat->Nat->Nat){A B:List Nat}(hx:∀x∈A,∀y∈B,i6 i1 i2 (.tup [.int (x:Int),.int (y:Int)]) (eK aq n ai) λaJ=>te aJ λd _=>d=.int ((f x y:Nat):Int))
  (hl:A.length<=100000) (hq:Q (.lst true (aE (eR f A B))) ai):qF sh (eL (aE A) (aE B)) aq n (i6 i1 i2) j5 te ai Q:=by
 refine WG (A.zip B) (λz=>D.tup [.int (z.1:Int),.int (z.2:Int)]) (λz=>D.int ((f z.1 z.2:Nat):Int)) (W3 A B) (λa b h=>?_) (λz hz=>hx z.1 (w6 hz).1 z.2 (w6 hz).2) WH (.inr λ_ _=>rfl) (by rw[HR,sL];omega) ?_
 ·injection h with h
  simp at h
  exact Prod.ext (by omega) (by omega)
 ·rw[show((A.zip B).map λz=>D.int ((f z.1 z.2:Nat):Int))=aE (eR f A B) by rw[dF,List.zip,Ai,Ai]]
  exact hq
end L3
namespace L3
open PySem L2 PySem.Spec PyProof.Rows
theorem aj.W4{B:Bs}{F H:Hp}{σ:L2.St}{δ:Dl}{ps ts:List (D × V)}{p:Addr}{o:HO}{A1:List Addr}(c:aj B F H σ δ (ps++ts))(hp:H p=none)(r:R F (upd H p o) (ps.map (·.1)) (ps.map (·.2)) A1):p ∉ A1:=λh=>by
 obtain⟨A,C,r0,_,_,_⟩:=c.own
 rw[jo,jo]at r0
 obtain⟨v1,v2,B1,B2,e,rfl,h1,h2⟩:=R.split r0
 have l1:(ps.map (·.2)).length=v1.length:=by rw[<-h1.length];simp
 obtain⟨rfl,rfl⟩:=Ac e l1
 have g1:=h1.grow (ae.refl F) (ae.upd (o:=o) hp) λa ha=>(h1.lists a ha).2
 have:A1=B1:=R.inj r g1
 subst this
 obtain⟨ws,e⟩:=(h1.lists p h).1
 rw[hp]at e;cases e
theorem aj.join{B:Bs}{F H:Hp}{σ:L2.St}{δ:Dl}{ts:List (D × V)}{p p' r:Addr}{xs ys:List D}{ws eJ:List V}(c:aj B F H σ δ ((.lst true ys,.ref p')::(.lst true xs,.ref p)::ts))(e1:H p=some (.lst ws))(e2:H p'=some (.lst eJ))(hr:H r=none) :
  aj B F (upd H r (.lst (ws++eJ))) σ δ ((.lst true (xs++ys),.ref r)::ts):=by
 refine aj.pack (ps:=[(.lst true ys,.ref p'),(.lst true xs,.ref p)]) c (ae.upd hr) λA1 r1 nd=>?_
 have W5:=aj.W4 (ps:=[(.lst true ys,.ref p'),(.lst true xs,.ref p)]) (ts:=ts) c hr r1
 have n1:p≠r:=λz=>by rw[z,hr]at e1;cases e1
 have n2:p'≠r:=λz=>by rw[z,hr]at e2;cases e2
 have r1:R F (upd H r (.lst (ws++eJ))) [.lst true ys,.lst true xs] [.ref p',.ref p] A1:=r1
 cases r1 with
 | @own _ wy _ Ay _ _ By hy fy ry rb =>
  cases rb with
  | @own _ wx _ Ax _ _ Bx hx fx rx rc =>
   cases rc
   rw[aS n2,e2]at hy;cases hy
   rw[aS n1,e1]at hx;cases hx
   refine⟨r::(Ax++Ay),by simpa using R.own bC (c.ext.free hr) (rx.append ry) .nil,?_,λa ha=>?_⟩
   ·refine iK.mpr ⟨λz=>W5 ?_,?_⟩
    ·rcases cB.mp z with z | z<;>simp[z]
    ·have sl:(Ay++Ax).Sublist (p'::Ay++(p::Ax++[])):=by
      rw[e7]
      exact(((HS p Ax).append_left Ay).trans (HS p' _))
     exact l7.nodup_iff.mp (nd.sublist sl)
   ·simp only[bR,cB]at ha ⊢
    rcases ha with rfl | ha | ha
    ·exact .inr hr
    ·simp[ha]
    ·simp[ha]
section
variable{X:Cx}{a b:Expr}{ta tb:aB}{pos:Pos}
noncomputable def rS(ta tb:aB):aB:=λδ Q=>ta δ λx ai=>tb ai λy aJ=>∃xs ys,x=.lst true xs/\y=.lst true ys/\xs.length+ys.length<=sizeLine/\Q (.lst true (xs++ys)) aJ
theorem W6(ha:PE X a (lE ta))(hb:PE X b (lE tb)):PE X (.BinOp a .Add b pos) (lE (rS ta tb)) :=
 cS (by4 Jh ha hb) λσ H Q ⟨B,F,δ,ts,Qd,c,q,k⟩ =>
  ⟨B,F,δ,ts,_,c,q,λx ai v F1 H1 q1 f1 h1 c1=>⟨B,F1,ai,(x,v)::ts,_,c1,q1,λy aJ w F2 H2 q2 f2 h2 c2=>by
   obtain⟨xs,ys,rfl,rfl,hz,hq⟩:=q2
   obtain⟨p',eJ,rfl,e2,s2⟩:=fM c2.top c2.ext
   obtain⟨p,ws,rfl,e1,s1⟩:=fM c2.pop.top c2.ext
   refine⟨p,p',ws,eJ,rfl,rfl,e1,e2,by rw[<-s1.length,<- s2.length];exact hz,λr hr=>?_⟩
   exact k _ aJ _ F2 _ hq (f1.trans f2) ((h1.trans h2).trans (ae.upd hr)) (c2.join e1 e2 hr)⟩⟩
end
theorem W7{a b:List Nat}(h:aE a=aE b):a=b:=by
 have:=vQ true true a b
 rw[h,show bF (D.lst true (aE b)) (D.lst true (aE b))=true from(vQ _ _ _ _).trans (decide_eq_true rfl)]at this
 exact of_decide_eq_true this.symm
theorem yW{o:Bool}(a b:List Nat)(h:D.lst o (aE a)=D.lst o (aE b)):a=b:=W7 (by injection h)
end L3
namespace L3
open PySem L2 Mf
theorem L4{m:Bool × Nat}(hm:m∈aw)(k:Int):∀n:Nat,px m (eS m k) n=eS m (k*n)
 | 0=>by
  show 1=eS m (k*((0:Nat):Int))
  rw[show k*((0:Nat):Int)=0 by omega,WW hm]
 | n+1=>by
  show gm m (px m (eS m k) n) (eS m k)=_
  rw[L4 hm k n,CN hm,HN,Int.mul_add]
  congr 1
  omega
end L3
namespace L2
open PySem PySem.Spec PyProof.Rows
end L2
namespace L3
open PySem L2 PySem.Spec PyProof.Rows Mf
end L3
namespace L3
open PySem L2 Mf
noncomputable def cf(l:List Nat)(k:Nat):Nat:=l.getD k 0
theorem vS{l:List Nat}{k:Nat}(h:l.length<=k):cf l k=0:=by
 unfold cf;rw[aV,ie h];rfl
theorem dy{m:Bool × Nat}(hm:m∈aw){l:List Nat}(h:AllLt (aa m) l)(k:Nat):cf l k<aa m:=h.getD (by have:=(dw hm).lo;omega) k
theorem rT(m:Bool × Nat)(x:Nat):aI m x x=0:=by
 obtain⟨k,n⟩:=m
 cases k with
 | true=>show(((x ^^^ x:Nat):Int)).toNat=0;rw[xh];rfl
 | false=>show(((x:Int)-(x:Int))%(n:Int)).toNat=0;rw[Int.sub_self,Int.zero_emod];rfl
end L3
namespace L3
open PySem L2 PySem.Spec PyProof.Rows
section
variable{B:Bs}{F H:Hp}{σ:L2.St}{δ:Dl}{ts ps:List (D × V)}{i k:Nat}{p q:Addr}{l1 l2 ys JS:List D}{ws n6:List V}
end
section
variable{X:Cx}{F H:Hp}{e b:Expr}{pos p p2 p3 pr apos br Ce:Pos}{t ti te:aB}{x y:Str}{i j:Nat}
end
end L3
namespace L3
structure Rg(N:Nat)(p q:Nat->Nat->Nat):Prop where
 pc:∀a b,p a b=p b a
 pa:∀a b c,p (p a b) c=p a (p b c)
 mc:∀a b,q a b=q b a
 ma:∀{a b c},a<N->b<N->c<N->q (q a b) c=q a (q b c)
 dl:∀a b c,q a (p b c)=p (q a b) (q a c)
 z:∀{a},a<N->p 0 a=a
 qz:∀a,q a 0=0
 one:∀{a},a<N->q 1 a=a
 lp:∀{a b},a<N->b<N->p a b<N
 lq:∀a b,q a b<N
 ng:∀{a},a<N->∃b,b<N/\p a b=0
section
variable{N:Nat}{p q:Nat->Nat->Nat}
noncomputable def sm(p:Nat->Nat->Nat):Nat->(Nat->Nat)->Nat
 | 0,_=>0
 | n+1,f=>p (sm p n f) (f n)
theorem Rg.pos(r:Rg N p q):0<N:=kq (mW _) (r.lq 0 0)
theorem Rg.z'(r:Rg N p q){a:Nat}(h:a<N):p a 0=a:=by rw[r.pc];exact r.z h
theorem Rg.W8(r:Rg N p q){a b c:Nat}(ha:a<N)(hb:b<N)(hc:c<N)(h:p a c=p b c):a=b:=by
 obtain⟨d,_,e⟩:=r.ng hc
 have:=congrArg (λx=>p x d) h
 simp only[r.pa,e]at this
 rw[r.z' ha,r.z' hb]at this
 exact this
theorem dN{f g:Nat->Nat}:∀{n:Nat},(∀j,j<n->f j=g j)->sm p n f=sm p n g
 | 0,_=>rfl
 | n+1,h=>by rw[sm,sm,dN λj hj=>h j (by omega),h n (by omega)]
theorem vT(r:Rg N p q){f:Nat->Nat}:∀{n:Nat},(∀j,j<n->f j<N)->sm p n f<N
 | 0,_=>r.pos
 | n+1,h=>r.lp (vT r λj hj=>h j (by omega)) (h n (by omega))
theorem jc(r:Rg N p q){f:Nat->Nat}:∀{n:Nat},(∀j,j<n->f j=0)->sm p n f=0
 | 0,_=>rfl
 | n+1,h=>by rw[sm,jc r λj hj=>h j (by omega),h n (by omega)];exact r.z r.pos
theorem Rg.four(r:Rg N p q)(a b c d:Nat):p (p a b) (p c d)=p (p a c) (p b d):=by
 rw[r.pa,r.pa,<- r.pa b,<- r.pa c,r.pc b c]
theorem lC(r:Rg N p q)(f g:Nat->Nat):∀n,sm p n (λj=>p (f j) (g j))=p (sm p n f) (sm p n g)
 | 0=>(r.z r.pos).symm
 | n+1=>by rw[sm,lC r f g n,sm,sm,r.four]
theorem oK(r:Rg N p q)(c:Nat)(f:Nat->Nat):∀n,sm p n (λj=>q c (f j))=q c (sm p n f)
 | 0=>(r.qz c).symm
 | n+1=>by rw[sm,oK r c f n,sm,r.dl]
theorem L5(r:Rg N p q)(F:Nat->Nat->Nat)(k:Nat):∀n,sm p n (λi=>sm p k λj=>F i j)=sm p k λj=>sm p n λi=>F i j
 | 0=>(jc r λ_ _=>rfl).symm
 | n+1=>by
  rw[sm,L5 r F k n,<- lC r];rfl
theorem L6(r:Rg N p q){f:Nat->Nat}(n:Nat):∀k,(∀j,j<n+k->f j<N)->sm p (n+k) f=p (sm p n f) (sm p k λj=>f (n+j))
 | 0,h=>(r.z' (vT r λj hj=>h j (by omega))).symm
 | k+1,h=>by
  rw[<-HH,sm,L6 r n k λj hj=>h j (by omega),sm,r.pa]
theorem W9(r:Rg N p q){f:Nat->Nat}(n:Nat)(h:∀j,j<n+1->f j<N):sm p (n+1) f=p (f 0) (sm p n λj=>f (j+1)):=by
 rw[sX n 1,L6 r 1 n λj hj=>h j (by omega)]
 show p (p 0 (f 0)) _=_
 rw[r.z (h 0 (by omega))]
 congr 1
 exact dN λj _=>by rw[sX]
end
end L3
namespace L3
section
variable{N:Nat}{p q:Nat->Nat->Nat}
end
end L3
namespace L3
open PySem L2 Mf
theorem rg{m:Bool × Nat}(hm:m∈aw):Rg (aa m) (gp m) (gm m) where
 pc:=vP m
 pa:=WS m
 mc:=fo m
 ma:=λ_ _ _=>fU (cw m hm) _ _ _
 dl:=λa b c=>yT (cw m hm) b c a
 z:=i9
 qz:=λa=>fV m a (cw m hm)
 one:=rQ
 lp:=LW hm
 lq:=cI hm
 ng:=λ{a} ha=>by
  have g:=gF hm (a:=0) (b:=a) (by omega) ha
  exact⟨_,g.2.1,(vP m _ _).trans g.2.2⟩
theorem Xa(p:Nat->Nat->Nat)(l:List Nat):l.foldl p 0=sm p l.length λj=>l.getD j 0:=by
 have key:∀n,n<=l.length->(l.take n).foldl p 0=sm p n λj=>l.getD j 0:=by
  intro n
  induction n with
  | zero=>intro _;rfl
  | succ n ih =>
   intro h
   rw[sZ,aR (by omega),Ao,ih (by omega),sm,aV,aR (show n<l.length by omega)]
   rfl
 have:=key l.length (bI _)
 rw[Ab]at this
 exact this
theorem Xb{m:Bool × Nat}(hm:m∈aw)(f:Nat)(b:List Nat)(j:Nat):cf (b.map (gm m f)) j=gm m f (cf b j):=by
 unfold cf
 rw[aV,cJ,aV]
 cases b[j]? with
 | none=>exact(fV m f (cw m hm)).symm
 | some x=>rfl
theorem L7{m:Bool × Nat}(hm:m∈aw){a b:Nat}(ha:a<aa m)(hb:b<aa m)(h0:b≠0):∃r,r<aa m/\gm m r b=a:=by
 by_cases a0:a=0
 ·exact⟨0,by have:=(dw hm).lo;omega,by rw[a0];exact fq m b (cw m hm)⟩
 ·obtain⟨r,_,h1,h2⟩:=LU hm (show 1<=a by omega) ha (show 1<=b by omega) hb
  exact⟨r,h1,h2⟩
end L3
namespace L3
open PySem L2 PySem.Spec PyProof.Rows
section
variable{X:Cx}{i j:Nat}{x y:Str}{p pos pos' apos br:Pos}
end
section
variable{X:Cx}{e:Expr}{t:aB}{p pos:Pos}
end
section
variable{X:Cx}
theorem Xc(i:Int)(ns:List Int):ye (.int i) (ns.map V.int)=decide (i∈ns):=by
 unfold ye
 rw[List.any_map,pB,List.any_eq_true,decide_eq_true_iff]
 exact⟨λ⟨x,hx,he⟩=>(show x=i by simpa[jX]using he) ▸ hx,λhx=>⟨i,hx,by simp[jX]⟩⟩
noncomputable def oM:ck:=λx y Q=>match x,y with
 | .int i,.lst _ xs=>∃ns:List Int,xs=aC ns/\Q (.bl (!decide (i∈ns)))
 | _,_=>False
theorem Xd:bG X (compareOp .NotIn) oM :=
 ⟨_,Sy,λ{B F H σ δ ts x y v w Q Qd} c sx sy h k=>by
  unfold oM at h
  split at h
  ·rename_i i o xs
   obtain⟨ns,rfl,q⟩:=h
   obtain⟨p,ws,rfl,e1,s1⟩:=fM sy c.ext
   have e:=Cq s1
   subst e
   cases sx
   refine⟨p,_,rfl,.inl (bz.of e1),rfl,by simp[kG],?_⟩
   rw[if_pos rfl,Xc]
   exact k _ _ _ q (ae.refl _) (c.pushS (.bl .nil) rfl)
  ·exact h.elim⟩
end
end L3
namespace L3
open PySem L2 Mf
noncomputable def aF(o:Bool)(T:List (List Nat)):List D:=T.map λr=>.lst o (aE r)
theorem lD(o:Bool)(T:List (List Nat)):(aF o T).length=T.length:=by unfold aF;rw[bQ]
theorem ft(o:Bool)(T:List (List Nat)):(aF o T).map D.sh=aF false T:=by
 unfold aF
 rw[cV]
 exact gk λr _=>CP o r
theorem vU(T:List (List Nat)):(aF false T).all D.pl=true:=by
 unfold aF
 rw[m8,dj]
 intro r _
 show(D.lst false (aE r)).pl=true
 rw[gZ,rD];rfl
theorem vV(T:List (List Nat)):(aF true T).all D.fr=true:=by
 unfold aF
 rw[m8,dj]
 intro r _
 exact mQ r
theorem yX(o:Bool)(S T:List (List Nat)):aF o S++aF o T=aF o (S++T):=by unfold aF;rw[jo]
theorem vW(o:Bool)(T:List (List Nat))(lo hi:Option Int):gE (aF o T) lo hi=aF o (gE T lo hi):=by
 unfold aF gE
 rw[bQ,List.map_take,List.map_drop]
theorem CQ(o:Bool){T:List (List Nat)}{i:Nat}(h:i<T.length):dM (aF o T) (i:Int)=some (.lst o (aE T[i])):=by
 refine L3.K2 ?_
 unfold aF
 rw[cJ,aR h];rfl
theorem Xe(n:Nat)(o:Bool)(T:List (List Nat)):(aF o T).all (df (n+1))=true:=by
 unfold aF
 rw[m8,dj]
 intro r _
 exact CO _ _ _
theorem Xf(n:Nat)(o o':Bool)(T:List (List Nat)):df (n+2) (.lst o (aF o' T))=true:=Xe n o' T
theorem L8(o o':Bool):∀(a b:List (List Nat)),bF.eF (aF o a) (aF o' b)=decide (a=b)
 | [],[]=>rfl
 | [],_::_=>by simp[aF,bF.eF]
 | _::_,[]=>by simp[aF,bF.eF]
 | x::xs,y::ys=>by
  show(bF (.lst o (aE x)) (.lst o' (aE y))&&bF.eF (aF o xs) (aF o' ys))=_
  rw[L8 o o' xs ys,vQ,pB];simp
theorem Xg(o o' o1 o2:Bool)(a b:List (List Nat)):bF (.lst o (aF o1 a)) (.lst o' (aF o2 b))=decide (a=b):=L8 o1 o2 a b
open Classical in
theorem L9{α:Type}{sh:Bool}{xs:List D}{aq:List (Str × Nat)}{n:Nat}{g0:fL}{tt:eo}{te:aB}{ai:Dl}{Q:D->Dl->Prop}(l:List α)(e g:α->D)(kp:α->Bool)(hJ:xs.map D.sh=l.map e)(inj:∀a b,e a=e b->a=b)
  (hx:∀a∈l,g0 (e a) (eK aq n ai) λaJ=>tt aJ λb gy=>b=kp a/\(kp a=true->te gy λd _=>d=g a)) (dz:(sh&&aq.all (g7 ai))=true\/∀a∈l,kp a=true->(g a).fr=true) (hl:l.length<=sizeLine) (hq:Q (.lst true ((l.filter kp).map g)) ai):qF sh xs aq n g0 tt te ai Q:=by
 have pick:∀{β:Type} (h:α->β) (z:β),∃f:D->β,∀a∈l,f (e a)=h a:=λh z=>⟨λx=>if w:∃a∈l,e a=x then h w.choose else z,λa ha=>by
  have w:∃b∈l,e b=e a:=⟨a,ha,rfl⟩
  show(if w:∃b∈l,e b=e a then h w.choose else z)=h a
  rw[dif_pos w]
  exact congrArg h (inj _ _ w.choose_spec.2)⟩
 obtain⟨f,hf⟩:=pick g .ak
 obtain⟨p,hp⟩:=pick kp false
 refine⟨p,f,λx h=>?_,dz.imp id λh x de=>?_,?_,?_⟩
 ·rw[hJ]at h
  obtain⟨a,ha,rfl⟩:=cC.mp h
  rw[hp a ha,hf a ha]
  exact hx a ha
 ·rw[hJ]at de
  obtain⟨a,ha,rfl⟩:=cC.mp de
  rw[hp a ha,hf a ha];exact h a ha
 ·have:=congrArg zR hJ
  simp at this
  omega
 ·rw[hJ,List.filter_map,cV,show l.filter (p ∘ e)=l.filter kp from List.filter_congr λa ha=>hp a ha,show(l.filter kp).map (f ∘ e)=(l.filter kp).map g from gk λa ha=>hf a (lY.mp ha).1]
  exact hq
theorem Xh{o:Bool}{G:List (List Nat)}{i:Nat}{d:D}(h:(fP (aF o G))[i]?=some d):∃hi:i<G.length,d=.tup [.int i,.lst o (aE G[i])]:=by
 unfold fP aF at h
 rw[Aj,cJ]at h
 by_cases hi:i<G.length
 ·rw[aR hi]at h
  exact⟨hi,(cN h).symm⟩
 ·rw[ie (by omega)]at h;cases h
theorem Xi(r:List Nat):(fP (aE r)).map D.sh=(au r.length).map λ(i:Nat)=>D.tup [.int (i:Int),.int ((r.getD i 0:Nat):Int)]:=by
 apply HI
 intro i
 unfold fP
 rw[dF,cJ,Aj,cJ,cJ]
 by_cases hi:i<r.length
 ·have e:r.getD i 0=r[i]:=by rw[aV,aR hi];rfl
  rw[aR hi,ky hi]
  show _=some (D.tup [D.int (i:Int),D.int ((r.getD i 0:Nat):Int)])
  rw[e];rfl
 ·rw[ie (show r.length<=i by omega),ie (show(au r.length).length<=i by simpa using hi)];rfl
theorem Xj{r:List Nat}(h:∃x∈r,x≠0):((au r.length).filter λi=>r.getD i 0 != 0)[0]?=some (r.findIdx (· != 0)):=by
 obtain⟨x,hx,h0⟩:=h
 have hl:r.findIdx (· != 0)<r.length:=Pz ⟨x,hx,by simpa using h0⟩
 rw[<-List.head?_eq_getElem?,List.head?_filter,List.find?_range_eq_some]
 refine⟨?_,bP.mpr hl,λj hj=>?_⟩
 ·rw[aV,aR hl]
  exact List.findIdx_getElem (w:=hl)
 ·have:=List.not_of_lt_findIdx hj
  rw[aV,aR (by omega)]
  simpa using this
noncomputable def af(T:List (List Nat)):Nat:=(T.headD []).length
noncomputable def iF(T:List (List Nat))(j:Nat):Option Nat:=T.findIdx? λr=>r.getD j 0 != 0
noncomputable def eX(m:Bool × Nat)(T:List (List Nat))(l:List Nat)(j:Nat):List (List Nat):=T.map λr=>eR (λx y=>aI m x (gm m (r.getD j 0) y)) r l
noncomputable def vX(m:Bool × Nat)(b:Nat):Nat:=((au (aa m)).find? λr=>gm m r b==1).getD 0
theorem Ma{m:Bool × Nat}(hm:m∈aw){b r:Nat}(hr:r<aa m)(h:gm m r b=1):vX m b=r:=by
 have m0:=cw m hm
 unfold vX
 cases e:(au (aa m)).find? λr=>gm m r b==1 with
 | none =>
  have:=List.find?_eq_none.mp e r (bP.mpr hr)
  simp[h]at this
 | some r' =>
  have h':gm m r' b=1:=by simpa using List.find?_some e
  have l':r'<aa m:=bP.mp (Pu e)
  show r'=r
  rw[<-lj hr,<- h',<- fU m0,fo m r r',fU m0,h,lj l']
noncomputable def RT(N w:Nat)(T:List (List Nat)):Prop:=∀r∈T,r.length=w/\AllLt N r
theorem RT.app{N w:Nat}{S T:List (List Nat)}(a:RT N w S)(b:RT N w T):RT N w (S++T):=λr hr=>(cB.mp hr).elim (a r) (b r)
theorem Mb{m:Bool × Nat}(hm:m∈aw){w j:Nat}{T:List (List Nat)}{l:List Nat}(h:RT (aa m) w T)(hl:l.length=w):RT (aa m) w (eX m T l j):=λr hr=>by
 obtain⟨r,h1,rfl⟩:=cC.mp hr
 obtain⟨a,b⟩:=h r h1
 exact⟨by rw[pH,a,hl,s8],L0 λx hx y hy=>(gF hm (b x hx) (cI hm _ y)).2.1⟩
noncomputable def cX(m:Bool × Nat)(T:List (List Nat))(i p:Nat):List Nat:=(T.getD i []).map (gm m (vX m ((T.getD i []).getD p 0)))
noncomputable def fW(m:Bool × Nat)(s:List (List Nat) × List (List Nat))(p:Nat):List (List Nat) × List (List Nat):=match iF s.2 p with
 | none=>s
 | some i=>(eX m s.1 (cX m s.2 i p) p++[cX m s.2 i p],eX m (s.2.take i++s.2.drop (i+1)) (cX m s.2 i p) p)
noncomputable def iG(m:Bool × Nat)(G:List (List Nat))(k:Nat):List (List Nat) × List (List Nat):=(au k).foldl (fW m) ([],G)
noncomputable def bO(m:Bool × Nat)(G:List (List Nat)):List (List Nat):=(iG m G (af G)).1
theorem CS(m:Bool × Nat)(G:List (List Nat))(k:Nat):iG m G (k+1)=fW m (iG m G k) k:=by
 unfold iG
 rw[Ap,Ao];rfl
theorem yY{T:List (List Nat)}{j i:Nat}(h:iF T j=some i):∃hi:i<T.length,T[i].getD j 0≠0/\T.getD i []=T[i]:=by
 obtain⟨hi,h1,_⟩:=PB.mp h
 exact⟨hi,by simpa using h1,by rw[aV,aR hi];rfl⟩
structure vY(N w n:Nat)(s:List (List Nat) × List (List Nat)):Prop where
 a:RT N w s.1
 b:RT N w s.2
 l:s.1.length+s.2.length<=n
theorem Xk{m:Bool × Nat}(hm:m∈aw){w n p:Nat}{s:List (List Nat) × List (List Nat)}(h:vY (aa m) w n s):vY (aa m) w n (fW m s p):=by
 unfold fW
 split
 ·exact h
 ·rename_i i e
  obtain⟨hi,h1,h2⟩:=yY e
  have hl:(cX m s.2 i p).length=w:=by unfold cX;rw[bQ,h2];exact(h.b _ (eQ hi)).1
  have hr:RT (aa m) w [cX m s.2 i p]:=λr hr=>by
   rw[jl]at hr
   refine⟨by rw[hr];exact hl,λx hx=>?_⟩
   rw[hr]at hx
   obtain⟨y,_,rfl⟩:=cC.mp hx
   exact cI hm _ _
  refine⟨(Mb hm h.a hl).app hr,Mb hm (λr hr=>h.b r ?_) hl,?_⟩
  ·rcases cB.mp hr with hr | hr
   ·exact Ag hr
   ·exact xk hr
  ·have:=h.l
   unfold eX
   rw[jj,bQ,bQ,jj,o9,pf]
   show s.1.length+1+_<=n
   omega
theorem yZ{m:Bool × Nat}(hm:m∈aw){w:Nat}{G:List (List Nat)}(h:RT (aa m) w G):∀k,vY (aa m) w G.length (iG m G k)
 | 0=>⟨(λr hr=>nomatch hr),h,zQ (Nat.zero_add _)⟩
 | k+1=>by rw[CS];exact Xk hm (yZ hm h k)
theorem Xl(j:Nat)(l:List Nat):decide ((j:Int)∈l.map λ(n:Nat)=>(n:Int))=l.contains j:=by
 rw[pB,decide_eq_true_iff,Aq,cC]
 exact⟨λ⟨a,h,e⟩=>(show a=j by omega) ▸ h,λh=>⟨j,h,rfl⟩⟩
theorem Xm{o:Bool}{G:List (List Nat)}{f:List Nat->Nat}{k:Nat}{d:D}(h:(eL (aE (G.map f)) (aF o G))[k]?=some d):∃hk:k<G.length,d=.tup [.int ((f G[k]:Nat):Int),.lst o (aE G[k])]:=by
 unfold eL aF at h
 rw[dF,xp,cJ,cJ,cJ]at h
 by_cases hk:k<G.length
 ·rw[aR hk]at h
  exact⟨hk,(cN h).symm⟩
 ·rw[ie (by omega)]at h;cases h
theorem Mc{α:Type}(a:α->Nat)(b:α->Nat):∀(l:List α) (x:List Nat),(l.foldl (λx z=>x.set (a z) (b z)) x).length=x.length
 | [],_=>rfl
 | z::l,x=>by rw[pj,Mc a b l,mY]
end L3
namespace L2
open PySem PySem.Spec PyProof.Rows
theorem Xn{M:Model}{A:Around}{E:Value->Shared->Prop}{s:Shared}{scope:Scope}{globals:Addr}{cl:List (Str × Addr)}{qual:Str}{env:Env}{bi:Addr}{Q:Env->Shared->Prop}
  (hQ:Q (newEnv scope s.heap.objs.size globals (cellsFrom (s.heap.objs.size+1) scope.names cl) qual none .none (some env) bi) { s with heap:=pushCells (s.heap.push { cls:=.type "dict",data:=.dict #[] }) scope.names }) :
  wpAny M A (newFunctionEnv scope globals cl [] qual none .none (some env) bi) Q E s:=by
 simp only[newFunctionEnv,Option.isSome_some,if_true]
 refine wpAny_bind (wpAny_alloc (wpAny_bind (wpAny_layCells _ (λname kind cells=>by cases e:kind==Ar<;>simp[e]) _ _ _ _ ?_)))
 rw[List.forIn_nil]
 refine wpAny_bind (wpAny_pure (wpAny_pure ?_))
 have z:({ s with heap:=s.heap.push { cls:=.type "dict",data:=.dict #[] } }:Shared).heap.objs.size=s.heap.objs.size+1:=sV ..
 rw[z]
 exact hQ
theorem vZ:∀(ns:List (Str × NameKind)) (n:Nat) (acc:List (Str × Addr)) (y:Str) (c:Addr),(cellsFrom n ns acc).lookup y=some c->(n<=c/\(y,Ar)∈ns)\/acc.lookup y=some c
 | [],_,_,_,_,h=>.inr h
 | (z,k)::r,n,acc,y,c,h=>by
  unfold cellsFrom at h
  split at h
  ·rename_i hk
   rcases vZ r (n+1) _ y c h with⟨h1,h2⟩ | h1
   ·exact .inl ⟨by omega,dJ _ h2⟩
   ·rw[eD]at h1
    cases q:y==z with
    | true =>
     rw[q]at h1;cases h1
     exact .inl ⟨bI _,by rw[eq_of_beq q,eq_of_beq hk];exact eP⟩
    | false=>rw[q]at h1;exact .inr h1
  ·rcases vZ r n acc y c h with⟨h1,h2⟩ | h1
   ·exact .inl ⟨h1,dJ _ h2⟩
   ·exact .inr h1
theorem CT:∀(ns:List (Str × NameKind)) (n:Nat) (acc:List (Str × Addr)),(∀y z c,acc.lookup y=some c->acc.lookup z=some c->y=z)->(∀y c,acc.lookup y=some c->c<n) ->
  ∀y z c,(cellsFrom n ns acc).lookup y=some c->(cellsFrom n ns acc).lookup z=some c->y=z
 | [],_,_,i,_,y,z,c,h1,h2=>i y z c h1 h2
 | (u,k)::r,n,acc,i,b,y,z,c,h1,h2=>by
  unfold cellsFrom at h1 h2
  split at h1
  ·rw[if_pos (by assumption)]at h2
   refine CT r (n+1) ((u,n)::acc) (λy z c e1 e2=>?_) (λy c e=>?_) y z c h1 h2
   ·rw[eD]at e1 e2
    cases q1:y==u with
    | true =>
     rw[q1]at e1;cases e1
     cases q2:z==u with
     | true=>rw[eq_of_beq q1,eq_of_beq q2]
     | false=>rw[q2]at e2;exact absurd (b _ _ e2) (fv _)
    | false =>
     rw[q1]at e1
     cases q2:z==u with
     | true=>rw[q2]at e2;cases e2;exact absurd (b _ _ e1) (fv _)
     | false=>rw[q2]at e2;exact i y z c e1 e2
   ·rw[eD]at e
    cases q:y==u with
    | true=>rw[q]at e;cases e;exact Hu _
    | false=>rw[q]at e;exact Nat.lt_succ_of_lt (b _ _ e)
  ·rw[if_neg (by assumption)]at h2
   exact CT r n acc i b y z c h1 h2
theorem CU:∀(ns:List (Str × NameKind)) (n:Nat) (acc:List (Str × Addr)) (y:Str) (c:Addr),(y,Ar)∈ns->(cellsFrom n ns acc).lookup y=some c->n<=c
 | [],_,_,_,_,m,_=>nomatch m
 | (z,k)::r,n,acc,y,c,m,h=>by
  unfold cellsFrom at h
  split at h
  ·rename_i hk
   rcases bR.mp m with e | m
   ·have e1:y=z:=(Prod.mk.inj e).1
    rcases vZ r (n+1) _ y c h with⟨h1,_⟩ | h1
    ·exact xq h1
    ·rw[eD,e1,beq_self_eq_true]at h1
     exact zQ (cN h1)
   ·exact xq (CU r (n+1) _ y c m h)
  ·rename_i hk
   rcases bR.mp m with e | m
   ·cases e;exact absurd rfl hk
   ·exact CU r n acc y c m h
noncomputable def cY(X:Cx)(scope:Scope)(N:List Str)(cl:List (Str × Addr))(C:Addr)(s:Shared)(H:Hp)(fp:List Addr):Cx :=
 { yi X scope N (cellsFrom (C+1) scope.names cl) C s H fp with fn:=λy=>scope.names.contains (y,Ar) }
section
variable{X:Cx}{scope:Scope}{cl:List (Str × Addr)}
theorem Xo{pins:List (Addr × Obj)}{σ:St}{H:Hp}{s:Shared}{fp:List Addr}{C:Addr}(I:Inv X pins σ H s)(gQ:scope.kind=.function)(hC:s.heap.objs.size<=C)
  (fm:∀y c,cl.lookup y=some c->X.env.cells.lookup y=some c) (Xp:∀y,((relabel scope X.env).names.lookup y=some .cell\/(relabel scope X.env).names.lookup y=some .free)->∃c,(cellsFrom (C+1) scope.names cl).lookup y=some c)
  (hf:∀b∈fp,gM X pins H b) (ho:∀b∈fp,∃o,s.heap.get? b=some o/\∀v,o.data≠.cell v) (N:List Str):(cY X scope N cl C s H fp).Ok where
 mod:=I.ok.mod
 kind:=gQ
 glob:=I.ok.glob
 blt:=I.ok.blt
 above:=hC
 inj:=CT scope.names (C+1) cl (λy z c h1 h2=>I.ok.inj y z c (fm _ _ h1) (fm _ _ h2)) λy c e=>by
  obtain⟨v,o,ho,_⟩:=I.cell y c (fm y c e)
  exact Nat.lt_succ_of_le (wY (cA (bK ho) hC))
 has:=Xp
 ni:=λy c h e=>dH hC (xq (CU _ _ _ y c (Aq.mp h) e))
 hd:=I.ok.hd
 frames:=I.ok.frames
 tK:=.inl rfl
 tL:=λb hb=>⟨by
  obtain⟨o,e,_⟩:=ho b hb
  exact eO (cA (bK e) hC),λy c e z=>by
  rcases vZ _ _ _ y c e with⟨h1,_⟩ | h1
  ·obtain⟨o,e,_⟩:=ho b hb
   rw[z]at h1
   exact absurd (cA (bK e) (dH hC (xq h1))) (fv _)
  ·exact(hf b hb).2.2.2.2.1 y c (fm _ _ h1) z⟩
 bs:=I.bs
 iQ:=dH I.ok.iQ I.sz
 pJ:=λb o e hb=>by
  rcases(hf b hb).2.2.2.1 with z | z
  ·exact I.ok.pJ b o e z
  ·exact absurd (cA (bK (I.ok.bs b o e).1) z) (fv _)
 pK:=λb hb z=>(bR.mp (I.xM b z)).elim (hf b hb).2.1 (hf b hb).2.2.1
 fe:=I.stack
 iS:=I.AD
end
theorem CV:∀(ns:List (Str × NameKind)) (h:Heap) (acc:List (Str × Addr)) (y:Str) (c:Addr),(cellsFrom h.objs.size ns acc).lookup y=some c->(∃o,(pushCells h ns).get? c=some o/\o.data=.cell none)\/acc.lookup y=some c
 | [],_,_,_,_,e=>.inr e
 | (z,k)::r,h,acc,y,c,e=>by
  unfold cellsFrom at e
  unfold pushCells
  split at e
  ·rename_i hk
   rw[if_pos hk]
   rw[<-sV h { cls:=.type "cell",data:=.cell none }]at e
   rcases CV r _ _ y c e with h1 | h1
   ·exact .inl h1
   ·rw[eD]at h1
    cases q:y==z with
    | true =>
     rw[q]at h1;cases h1
     exact .inl ⟨_,pushCells_keeps _ _ _ _ (gi _ rfl),rfl⟩
    | false=>rw[q]at h1;exact .inr h1
  ·rename_i hk
   rw[if_neg hk]
   exact CV r h acc y c e
end L2
namespace L2
open PySem PySem.Spec PyProof.Rows
section
variable{X:Cx}{elt iter tg:Expr}{pos:Pos}{ifs:List Expr}{scope:Scope}{cl:List (Str × Addr)}{wi:TI}{tt:TT}{te:TE}{g:TG}
theorem Md(aq:List (Str × Nat))(bJ:List Str)(hc:X.calm=true)(hi:PI X tg iter wi)
  (hg:∀C s H fp,PG (cY X scope (aq.map (·.1)++bJ) cl C s H fp) tg g)
  (ht:∀C s H fp,kK (cY X scope (aq.map (·.1)++bJ) cl C s H fp) ifs tt) (he:∀C s H fp,PE (cY X scope (aq.map (·.1)++bJ) cl C s H fp) elt te)
  (lF:closureFor scope X.env=pure cl) (lH:kL X cl) (lJ:∀C:Addr,kM (cellsFrom (C+1) scope.names cl) (relabel scope X.env).names) (lK:∀C:Addr,kJ X scope (cellsFrom (C+1) scope.names cl) aq)
  (gQ:scope.kind=.function) (lL:∀y∈scope.names,y.2=.local->scope.names.lookup y.1=some .local)
  (hs:∀x,foldedSetIterable iter X.env x=pure x:=by intro _;rfl) {pins:List (Addr × Obj)} {s:Shared} {σ:L2.St} {H:Hp} {Q:VK} {use:Option (Value->Sem Unit)} {br:Pos} {Rf:Value->Shared->Prop} (I:Inv X pins σ H s) (h:yj wi aq bJ.length g tt te σ H Q)
  (Xq:∀(s':Shared) (H':Hp) (C Da:Addr) (m:Str->Option Value),Inv X pins σ H' s'->s'.heap.Ns C m->H' C=none->C≠X.env.locals->X.b8.heap.objs.size<=C->(∀x c,X.env.cells.lookup x=some c->c≠C)->(∀p∈X.pn++pins,p.1≠C)->C ∉ X.fs->Q (.ref Da) H' ->
   compPost (model X.prog X.w) X.A X.xe use Rf (.ref Da) C (.ok .next) s') :
  wpAny (model X.prog X.w) X.A (comprehension (.ListComp elt [⟨tg,iter,ifs,0⟩] scope pos) scope X.env br (newList []) false (eval iter X.env) use) Rf X.xe s:=by
 have fm:=lH.all
 refine wpAny_comprehension_free (use:=use) rfl hs lF gQ lL (aD (hi pins s σ H _ I h) λv s1 h1=>aD h1 λAQ s2 h2=>?_)
 obtain⟨it,fp,tn,J,H2,e,I2,T,tW,f2,q⟩:=h2
 subst e
 refine wpAny_newList ?_
 refine Xn ?_
 have hD:H2 s2.heap.objs.size=none:=I2.az.fresh (bI _)
 obtain⟨W,⟨m0,w0⟩,turn⟩:=q s2.heap.objs.size hD
 generalize CW:s2.heap.push { cls:=.type "list",data:=.seq ([]:List Value).toArray }=g0 at ⊢
 have hCs:g0.objs.size=s2.heap.objs.size+1:=by rw[<-CW,sV]
 have Xr:s2.heap.objs.size≠g0.objs.size:=by omega
 have hle:s2.heap.objs.size<=g0.objs.size:=by omega
 have pL:∀b o,s2.heap.get? b=some o->b≠g0.objs.size:=λb o e=>eO (cA (bK e) hle)
 obtain⟨g1,y6⟩:∃g1,g1=pushCells (g0.push { cls:=.type "dict",data:=.dict #[] }) scope.names:=⟨_,rfl⟩
 have Xs:g1.Ns g0.objs.size (λ_=>none):=by rw[y6];exact(Heap.Ns.new g0 (.type "dict")).keeps (pushCells_keeps _ _)
 have Me:∀b o,g0.get? b=some o->g1.get? b=some o:=λb o e=>by rw[y6];exact pushCells_keeps _ _ b o (dQ _ e)
 have old:∀b o,s2.heap.get? b=some o->g1.get? b=some o:=λb o e=>Me b o (CW ▸ dQ _ e)
 rw[<-y6]
 have Xt:g1.get? s2.heap.objs.size=some { cls:=.type "list",data:=.seq ([]:List Value).toArray }:=Me _ _ (CW ▸ gi _ rfl)
 have Mg:∀b∈fp,∃o,s2.heap.get? b=some o/\∀v,o.data≠.cell v:=T.obj _ _ tW
 have y7:=Xo (scope:=scope) (cl:=cl) (C:=g0.objs.size) I2 gQ hle fm (lJ g0.objs.size).all f2 Mg (aq.map (·.1)++bJ)
 have I4:Inv (cY X scope (aq.map (·.1)++bJ) cl g0.objs.size s2 H2 fp) [] (fI aq bJ.length σ) (upd H2 s2.heap.objs.size (.lst [])) { s2 with heap:=g1 }:=by
  refine⟨y7,rfl,I2.bare,Un.laid old (bI _) hD,⟨_,Xs,λi y v h1 h2 h3=>?_⟩,λy c e=>?_,?_,λy c e=>?_,λp hp=>absurd hp (by simp[cY,yi]),I2.az.laid old (bI _) ⟨mW _,[],0,.nil,Xt⟩,by simp[fI,cY,yi]⟩
  ·by_cases CY:i<aq.length
   case neg =>
    have ix:((aq.map λp=>(σ[p.2]?).getD none)++aK bJ.length none)[i]?=some (some v):=h2
    rw[zS (by simpa using CY),w9]at ix
    split at ix<;>cases ix
   case pos =>
    have iX:(aq.map (·.1))[i]?=some y:=by
     have z:(aq.map (·.1)++bJ)[i]?=some y:=h1
     rwa [zT (by simpa using CY)]at z
    have ix:(aq.map λp=>(σ[p.2]?).getD none)[i]?=some (some v):=by
     have z:((aq.map λp=>(σ[p.2]?).getD none)++aK bJ.length none)[i]?=some (some v):=h2
     rwa [zT (by simpa using CY)]at z
    rw[cJ]at iX ix
    cases hj:aq[i]? with
    | none=>rw[hj]at iX;cases iX
    | some p =>
     rw[hj]at iX ix
     have ey:p.1=y:=cN iX
     have ev:(σ[p.2]?).getD none=some v:=cN ix
     obtain⟨hN,hk,Mh,c,e1,e2⟩:=(lK g0.objs.size).at p (pd hj)
     obtain⟨m,hn,hl⟩:=I2.loc
     have es:σ[p.2]?=some (some v):=by
      cases z:σ[p.2]? with
      | none=>rw[z]at ev;cases ev
      | some o=>rw[z]at ev;exact congrArg some ev
     obtain⟨u,ru,lk⟩:=hl p.2 p.1 v hN es (hk.elim (λz=>.inr (.inl z)) λz=>.inr (.inr z))
     refine⟨u,ru,?_⟩
     rcases lk with⟨lk,_⟩ | ⟨_,c',e3,ic⟩
     ·rcases hk with hk | hk
      ·have:=hk.symm.trans lk;cases this
      ·have:=hk.symm.trans lk;cases this
     ·rw[e2]at e3
      cases e3
      subst ey
      obtain⟨oc,gL,Cy⟩:=ic
      exact .inr ⟨Mh,c,e1,oc,old _ _ gL,Cy⟩
  ·rcases CV _ _ _ y c (show(cellsFrom (g0.push { cls:=.type "dict",data:=.dict #[] }).objs.size scope.names cl).lookup y=some c by rw[sV];exact e)with h1 | h1
   ·rw[<-y6]at h1
    exact⟨none,h1⟩
   ·obtain⟨v,o,ho,hd⟩:=I2.cell y c (fm y c h1)
    exact⟨v,o,old _ _ ho,hd⟩
  ·show upd H2 _ _ g0.objs.size=none
   rw[aS (dP Xr)]
   exact I2.az.fresh hle
  ·rcases vZ _ _ _ y c e with⟨h1,_⟩ | h1
   ·rw[aS (Hs (kq hle h1))]
    exact I2.az.fresh (dH hle (xq h1))
   ·obtain⟨v,o,ho,hd⟩:=I2.cell y c (fm y c h1)
    rw[aS (eO (bK ho))]
    exact I2.ij y c (fm y c h1)
 have fin:∀(s':Shared) (H':Hp) (ax:L2.St),Inv (cY X scope (aq.map (·.1)++bJ) cl g0.objs.size s2 H2 fp) [] ax H' s'->Q (.ref s2.heap.objs.size) H' ->
   compPost (model X.prog X.w) X.A X.xe use Rf (.ref s2.heap.objs.size) g0.objs.size (.ok .next) s':=by
  intro s' H' ax I' q'
  obtain⟨m,hn,_⟩:=I'.loc
  have u:=I'.base
  have Xu:H' g0.objs.size=none:=I'.free
  have IX:Inv X pins σ H' s':=I2.P9 (s':=s') (ch:=fp) I'.os ⟨u.keep,u.slot,u.free,u.there,u.iO,u.ig,u.gq⟩ I'.az I'.bare λb hb=>by
   obtain⟨_,y1,y2,y3,y4,y5⟩:=f2 b hb
   exact⟨y3,y1,y4,y5⟩
  have Mi:∀b,(∃o,s2.heap.get? b=some o)->b≠g0.objs.size:=λb ⟨o,e⟩=>pL b o e
  refine Xq s' H' g0.objs.size s2.heap.objs.size m IX hn Xu (λz=>?_) (dH I2.sz hle) (λx c e z=>?_) (λp hp z=>?_) (λz=>?_) q'
  ·have h0:X.env.locals<s2.heap.objs.size:=I2.lt
   rw[<-z]at h0
   exact fv _ (cA h0 hle)
  ·obtain⟨v,o,ho,_⟩:=I2.cell x c e
   exact Mi c ⟨o,ho⟩ z
  ·exact Mi p.1 ⟨_,(I2.pin p hp).1⟩ z
  ·exact I2.Ih hle z
 have CZ:∀(H':Hp),(∀b∈fp,H' b=none)->∀b∈fp,gM (cY X scope (aq.map (·.1)++bJ) cl g0.objs.size s2 H2 fp) [] H' b:=λH' hn b hb =>
  ⟨hn b hb,(y7.tL b hb).1,y7.pK b hb,.inl hb,(y7.tL b hb).2,λp hp=>absurd hp (by simp[cY,yi])⟩
 have loop:codeAny (model X.prog X.w) X.A (.compLoop (.ListComp elt [⟨tg,iter,ifs,0⟩] scope pos) 0 (.ref it) (.ref s2.heap.objs.size) (compEnvC scope (cellsFrom (g0.objs.size+1) scope.names cl) g0.objs.size X.env))
   (compPost (model X.prog X.w) X.A X.xe use Rf (.ref s2.heap.objs.size) g0.objs.size) { s2 with heap:=g1 }:=by
  refine TJ (λn s'=>∃i acc H',Inv (cY X scope (aq.map (·.1)++bJ) cl g0.objs.size s2 H2 fp) [] (fI aq bJ.length σ) H' s'/\tn i s'.heap/\(∀b∈fp,H' b=none)/\W i n acc H') ?_ m0
   ⟨0,[],_,I4,T.keep _ _ _ tW λb hb o e=>old b o e,λb hb=>?_,w0⟩
  ·rintro n s' ⟨i,acc,H',I',mi,rL,w'⟩
   obtain⟨BV,⟨stop,qn⟩ | ⟨go,step⟩⟩:=turn i n acc H' w'
   ·refine aD (T.done (cY X scope (aq.map (·.1)++bJ) cl g0.objs.size s2 H2 fp) rfl rfl rfl hc i [] s' _ H' (λ_ _=>False) I' (CZ H' rL) mi stop) λr t1 zz=>?_
    obtain⟨hr,I1⟩:=zz
    subst hr
    exact fin _ _ _ I1 qn
   ·refine aD (T.item (cY X scope (aq.map (·.1)++bJ) cl g0.objs.size s2 H2 fp) rfl rfl rfl hc i [] s' _ H' (λ_ _=>False) I' (CZ H' rL) mi go) λr t1 zz=>?_
    obtain⟨u,hr,h4⟩:=zz
    subst hr
    refine aD h4 λ_ t2 zz=>?_
    obtain⟨x5,H5,I5,r5,y5,nq,tX⟩:=zz
    obtain⟨yq,Xv⟩:=step x5 H5 y5
    have AV:=I5.pinned (CZ H5 tX) (T.obj _ _ nq)
    refine aD (hg _ _ _ _ _ t2 _ H5 x5 u _ AV r5 Xv) λ_ t3 zz=>?_
    obtain⟨AW,H6,I6,⟨Xw,Xx⟩,Xy⟩:=zz
    have back:∀(s7:Shared) (H7:Hp) (C2:List V) (m7:Nat),Inv (cY X scope (aq.map (·.1)++bJ) cl g0.objs.size s2 H2 fp) ([]++tU fp t2.heap) AW H7 s7->W (i+1) m7 C2 H7 ->
      ∃i acc H',Inv (cY X scope (aq.map (·.1)++bJ) cl g0.objs.size s2 H2 fp) [] (fI aq bJ.length σ) H' s7/\tn i s7.heap/\(∀b∈fp,H' b=none)/\W i m7 acc H':=λs7 H7 C2 m7 I7 w7 =>
     ⟨i+1,C2,H7,(I7.tV).weak Xw.symm λj v z=>by
       by_cases hj:j<aq.length
       ·rw[Xx j hj];exact z
       ·have z':((aq.map λp=>(σ[p.2]?).getD none)++aK bJ.length none)[j]?=some (some v):=z
        rw[zS (by simpa using hj),w9]at z'
        split at z'<;>(cases z'),
      T.keep _ _ _ nq λb hb o e=>(I7.pin (b,o) (dg _ (dg _ (x9 hb e)))).1,λb hb=>by
       obtain⟨o,e,d⟩:=T.obj _ _ nq b hb
       exact(I7.pin (b,o) (dg _ (dg _ (x9 hb e)))).2.1,w7⟩
    refine aD (ht _ _ _ _ _ t3 _ H6 _ I6 Xy) λok t4 zz=>?_
    obtain⟨H7,I7,hD7,q7⟩:=zz
    cases ok with
    | false =>
     obtain⟨m',hm,w7⟩:=(show ∃m',m'<n/\W (i+1) m' acc H7 from q7)
     exact⟨m',hm,back t4 H7 acc m' I7 w7⟩
    | true =>
     refine aD (he _ _ _ _ _ t4 _ H7 _ I7 q7) λy t5 zz=>?_
     obtain⟨v8,H8,I8,r8,Xz,XA,m',hm,w8⟩:=zz
     exact aD (Jg _ t5 _ H8 (.ref s2.heap.objs.size) [v8] (.ref s2.heap.objs.size) [y] (λ_ H9=>H9=upd H8 s2.heap.objs.size (.lst (acc++[v8]))) I8 rfl (.cons r8 .nil) ⟨_,acc,v8,rfl,rfl,Xz,XA,rfl⟩) λ_ t6 zz=>by
      obtain⟨_,H9,I9,_,e9⟩:=zz
      subst e9
      exact⟨m',hm,back t6 _ _ m' I9 w8⟩
  ·obtain⟨o,e,_⟩:=Mg b hb
   rw[aS (eO (bK e))]
   exact(f2 b hb).1
 exact codeAny_compStart_list loop (T.self _ 0 _ _ _ (T.keep _ _ _ tW λb hb o e=>old b o e) loop)
theorem XB(aq:List (Str × Nat))(bJ:List Str)(hc:X.calm=true)(hi:PI X tg iter wi)
  (hg:∀C s H fp,PG (cY X scope (aq.map (·.1)++bJ) cl C s H fp) tg g)
  (ht:∀C s H fp,kK (cY X scope (aq.map (·.1)++bJ) cl C s H fp) ifs tt) (he:∀C s H fp,PE (cY X scope (aq.map (·.1)++bJ) cl C s H fp) elt te)
  (lF:closureFor scope X.env=pure cl) (lH:kL X cl) (lJ:∀C:Addr,kM (cellsFrom (C+1) scope.names cl) (relabel scope X.env).names) (lK:∀C:Addr,kJ X scope (cellsFrom (C+1) scope.names cl) aq)
  (gQ:scope.kind=.function) (lL:∀y∈scope.names,y.2=.local->scope.names.lookup y.1=some .local)
  (hs:∀x,foldedSetIterable iter X.env x=pure x:=by intro _;rfl):PE X (.ListComp elt [⟨tg,iter,ifs,0⟩] scope pos) (yj wi aq bJ.length g tt te):=by
 intro pins s σ H Q I h
 rw[eval_ListComp]
 refine Md aq bJ hc hi hg ht he lF lH lJ lK gQ lL hs I h λs' H' C Da m IX hn hC hL h1 h2 h3 h4 q'=>?_
 exact⟨m,hn,λh' sb=>⟨.ref Da,H',IX.turned (t':=s'.toks) (λb o hb e=>sb.extBut b o hb e) hC hL (.inr h1) h2 h3,rfl,q'⟩⟩
theorem XC{i:Nat}{x:Str}{pos' apos:Pos}(hN:X.N.Nodup)(mI:X.N[i]?=some x)(hx:Loc X.env.scope x)(hf:X.fn x=true\/X.env.scope.names.lookup x=some .local)(aq:List (Str × Nat))(bJ:List Str)(hc:X.calm=true)(hi:PI X tg iter wi)
  (hg:∀C s H fp,PG (cY X scope (aq.map (·.1)++bJ) cl C s H fp) tg g)
  (ht:∀C s H fp,kK (cY X scope (aq.map (·.1)++bJ) cl C s H fp) ifs tt) (he:∀C s H fp,PE (cY X scope (aq.map (·.1)++bJ) cl C s H fp) elt te)
  (lF:closureFor scope X.env=pure cl) (lH:kL X cl) (lJ:∀C:Addr,kM (cellsFrom (C+1) scope.names cl) (relabel scope X.env).names) (lK:∀C:Addr,kJ X scope (cellsFrom (C+1) scope.names cl) aq)
  (gQ:scope.kind=.function) (lL:∀y∈scope.names,y.2=.local->scope.names.lookup y.1=some .local)
  (oo:swapsWith (.ListComp elt [⟨tg,iter,ifs,0⟩] scope pos) (some (.Name x pos')) apos.line X.env=pure true) (hs:∀x,foldedSetIterable iter X.env x=pure x:=by intro _;rfl):PS X (.Assign [.Name x pos'] (.ListComp elt [⟨tg,iter,ifs,0⟩] scope pos) apos) (AN (yj wi aq bJ.length g tt te) (xW i)):=by
 intro pins s σ H D I h
 rw[exec_Assign_Name_used x pos' _ apos oo]
 refine wpAny_bind (wpAny_standAt (wpAny_bind ?_))
 have hh:yj wi aq bJ.length g tt te σ H λv H1=>D.nx (σ.set i (some v)) H1:=h
 show wpAny _ _ (comprehension (.ListComp elt [⟨tg,iter,ifs,0⟩] scope pos) scope X.env (firstIterPos [⟨tg,iter,ifs,0⟩] pos) (newList []) false (eval iter X.env) (some (assign (.Name x pos') X.env)) >>= λ_=>pure ()) _ _ _
 refine wpAny_bind (Md (use:=some (assign (.Name x pos') X.env)) (pos:=pos) aq bJ hc hi hg ht he lF lH lJ lK gQ lL hs I hh λs' H' C Da m IX hn hC hL h1 h2 h3 h4 q'=>?_)
 obtain⟨oC,es,ep,XD,Mj,rest⟩:=id hn
 have IP:Inv X (pins++[(C,oC)]) σ H' s':=⟨IX.ok,IX.os,IX.bare,IX.base,IX.loc,IX.cell,IX.free,IX.ij,λp hp=>by
  rcases cB.mp hp with z | z
  ·exact IX.pin p (eH _ z)
  ·rcases cB.mp z with z | z
   ·exact IX.pin p (dg _ z)
   ·obtain rfl:=jl.mp z
    exact⟨XD,hC,hL,h4,λv w=>by rw[Mj]at w;cases w⟩,IX.az,IX.len⟩
 refine aD (xX (X:=X) hN mI hx hf _ s' σ H' (.ref Da) (.ref Da) (λjW H2=>jW=σ.set i (some (.ref Da))/\H2=H') IP rfl ⟨rfl,rfl⟩) λ_ s2 zz=>?_
 obtain⟨jW,H2,I2,e1,e2⟩:=zz
 subst e1 e2
 have pC:=I2.pin (C,oC) (dg _ (dg _ (by simp)))
 refine⟨m,⟨oC,es,ep,pC.1,Mj,rest⟩,λh' sb=>wpAny_pure (wpAny_pure ?_)⟩
 exact⟨σ.set i (some (.ref Da)),H2,(I2.tV).turned (t':=s2.toks) (λb o hb e=>sb.extBut b o hb e) hC hL (.inr h1) h2 h3,q'⟩
end
end L2
namespace L3
open PySem L2 PySem.Spec PyProof.Rows
section
variable{X:Cx}{elt iter tg:Expr}{pos:Pos}{ifs:List Expr}{scope:Scope}{cl:List (Str × Addr)}{ti:g6}{tt:eo}{te:aB}{g:fL}
theorem gG(aq:List (Str × Nat))(bJ:List Str)(hc:X.calm=true)(hi:PI X tg iter (lI ti))
  (hg:∀C s H fp,PG (cY X scope (aq.map (·.1)++bJ) cl C s H fp) tg (lG aq.length g))
  (ht:∀C s H fp,kK (cY X scope (aq.map (·.1)++bJ) cl C s H fp) ifs (lT tt)) (he:∀C s H fp,PE (cY X scope (aq.map (·.1)++bJ) cl C s H fp) elt (lE te))
  (lF:closureFor scope X.env=pure cl) (lH:kL X cl) (lJ:∀C:Addr,kM (cellsFrom (C+1) scope.names cl) (relabel scope X.env).names) (lK:∀C:Addr,kJ X scope (cellsFrom (C+1) scope.names cl) aq)
  (gQ:scope.kind=.function) (lL:∀y∈scope.names,y.2=.local->scope.names.lookup y.1=some .local)
  (hs:∀x,foldedSetIterable iter X.env x=pure x:=by intro _;rfl):PE X (.ListComp elt [⟨tg,iter,ifs,0⟩] scope pos) (lE (nV ti aq bJ.length g tt te)) :=
 cS (XB aq bJ hc hi hg ht he lF lH lJ lK gQ lL hs) λσ H Q zq=>by
 obtain⟨B,F,δ,ts,Qd,c,q,k⟩:=zq
 exact⟨B,F,δ,ts,_,c,q,λsh xs ai J F1 H1 hq f1 h1 c1 nW uH=>by
  obtain⟨p,f,hx,dz,hlen,hQ⟩:=hq
  exact Ka c1 nW uH p f hx dz hlen hQ λd ag v F' H' hd hf hs c'=>k d ag v F' H' hd (f1.trans hf) (h1.trans hs) c'⟩
end
end L3
namespace L3
open PySem L2 Mf
theorem lo1{m:Bool × Nat}(hm:m∈aw):1<aa m:=by have:=(dw hm).lo;omega
inductive Sp(N:Nat)(p q:Nat->Nat->Nat)(S:(Nat->Nat)->Prop):(Nat->Nat)->Prop
 | mem {f:Nat->Nat}:S f->Sp N p q S f
 | zero:Sp N p q S λ_=>0
 | add {f g:Nat->Nat}:Sp N p q S f->Sp N p q S g->Sp N p q S λk=>p (f k) (g k)
 | mul {f:Nat->Nat} (c:Nat):c<N->Sp N p q S f->Sp N p q S λk=>q c (f k)
theorem Sp.trans{N:Nat}{p q:Nat->Nat->Nat}{S S':(Nat->Nat)->Prop}(h:∀f,S f->Sp N p q S' f){f:Nat->Nat}(s:Sp N p q S f):Sp N p q S' f:=by
 induction s with
 | mem a=>exact h _ a
 | zero=>exact .zero
 | add _ _ a b=>exact .add a b
 | mul c hc _ a=>exact .mul c hc a
noncomputable def Gn(T:List (List Nat))(f:Nat->Nat):Prop:=∃r∈T,f=cf r
noncomputable def bY(m:Bool × Nat)(T:List (List Nat))(f:Nat->Nat):Prop:=Sp (aa m) (gp m) (gm m) (Gn T) f
theorem bY.of{m:Bool × Nat}{T:List (List Nat)}{r:List Nat}(h:r∈T):bY m T (cf r):=.mem ⟨r,h,rfl⟩
theorem XE{m:Bool × Nat}(hm:m∈aw){a:Nat}(ha:a<aa m){f f' l:Nat->Nat}(C3:∀k,f' k<aa m)(hl:∀k,l k<aa m)(h:∀k,gp m (f' k) (gm m a (l k))=f k):∃b,b<aa m/\f'=λk=>gp m (f k) (gm m b (l k)):=by
 have r:=rg hm
 obtain⟨b,hb,e⟩:=r.ng ha
 refine⟨b,hb,funext λk=>?_⟩
 rw[<-h k,r.pa,r.mc a,r.mc b,<- r.dl,e,r.qz,r.z' (C3 k)]
theorem C5{m:Bool × Nat}(hm:m∈aw){r l:List Nat}{w:Nat}(hr:r.length=w)(hl:l.length=w)(a k:Nat):cf (eR (λx y=>aI m x (gm m a y)) r l) k=aI m (cf r k) (gm m a (cf l k)):=by
 by_cases h:k<w
 ·unfold cf
  rw[aV,xp,aR (by omega),aR (by omega),aV,aR (by omega),aV,aR (by omega)]
  rfl
 ·rw[vS (by rw[pH];omega),vS (l:=r) (by omega),vS (l:=l) (by omega),fV m _ (cw m hm),rT]
theorem C6{m:Bool × Nat}(hm:m∈aw){r l:List Nat}{w a:Nat}(hr:r.length=w)(hl:l.length=w)(ar:AllLt (aa m) r)(k:Nat):gp m (cf (eR (λx y=>aI m x (gm m a y)) r l) k) (gm m a (cf l k))=cf r k:=by
 rw[C5 hm hr hl]
 exact(gF hm (dy hm ar k) (cI hm _ _)).2.2
theorem Ml{m:Bool × Nat}(hm:m∈aw){r l:List Nat}{w:Nat}(hr:r.length=w)(hl:l.length=w)(ar:AllLt (aa m) r)(a k:Nat):cf (eR (λx y=>aI m x (gm m a y)) r l) k<aa m:=by
 rw[C5 hm hr hl]
 exact(gF hm (dy hm ar k) (cI hm _ _)).2.1
theorem Mm{m:Bool × Nat}(hm:m∈aw){w p i:Nat}{T:List (List Nat)}(hT:RT (aa m) w T)(e:iF T p=some i):∃(g:List Nat) (c:Nat),g∈T/\T.getD i []=g/\g.length=w/\AllLt (aa m) g/\c<aa m/\gm m c (cf g p)=1/\(cX m T i p).length=w/\AllLt (aa m) (cX m T i p)/\(∀k,cf (cX m T i p) k=gm m c (cf g k))/\cf (cX m T i p) p=1/\∀k,gm m (cf g p) (cf (cX m T i p) k)=cf g k:=by
 obtain⟨hi,h1,h2⟩:=yY e
 obtain⟨a,b⟩:=hT _ (eQ hi)
 have l1:1<aa m:=lo1 hm
 obtain⟨c,hc,y8⟩:=L7 hm l1 (dy hm b p) h1
 have ec:vX m (cf T[i] p)=c:=Ma hm hc y8
 have el:cX m T i p=T[i].map (gm m c):=by unfold cX;rw[h2,<- ec];rfl
 have ek:∀k,cf (cX m T i p) k=gm m c (cf T[i] k):=λk=>by rw[el];exact Xb hm _ _ _
 refine⟨T[i],c,eQ hi,h2,a,b,hc,y8,by rw[el,bQ,a],λx hx=>?_,ek,by rw[ek];exact y8,λk=>?_⟩
 ·rw[el]at hx
  obtain⟨y,_,rfl⟩:=cC.mp hx
  exact cI hm _ _
 ·rw[ek,<- fU (cw m hm),fo m _ c,y8,rQ (dy hm b k)]
theorem Mn{m:Bool × Nat}{s:List (List Nat) × List (List Nat)}{p i:Nat}(e:iF s.2 p=some i):fW m s p=(eX m s.1 (cX m s.2 i p) p++[cX m s.2 i p],eX m (s.2.take i++s.2.drop (i+1)) (cX m s.2 i p) p):=by unfold fW;rw[e]
theorem Mo{m:Bool × Nat}{s:List (List Nat) × List (List Nat)}{p:Nat}(e:iF s.2 p=none):fW m s p=s:=by unfold fW;rw[e]
theorem y9{α:Type}{T:List α}{i:Nat}{r:α}(h:r∈T.take i++T.drop (i+1)):r∈T:=(cB.mp h).elim Ag xk
theorem XF{α:Type}{T:List α}{i:Nat}{r:α}(h:r∈T)(hi:i<T.length):r=T[i]\/r∈T.take i++T.drop (i+1):=by
 obtain⟨j,hj,rfl⟩:=jm h
 rcases Nat.lt_trichotomy j i with h | h | h
 ·exact .inr (cB.mpr (.inl (List.mem_take_iff_getElem.mpr ⟨j,by omega,rfl⟩)))
 ·subst h;exact .inl rfl
 ·exact .inr (cB.mpr (.inr (List.mem_drop_iff_getElem.mpr ⟨j-(i+1),by omega,by congr 1;omega⟩)))
theorem XG{m:Bool × Nat}(hm:m∈aw){w n p:Nat}{s:List (List Nat) × List (List Nat)}(h:vY (aa m) w n s)(f:Nat->Nat):bY m (s.1++s.2) f↔bY m ((fW m s p).1++(fW m s p).2) f:=by
 cases e:iF s.2 p with
 | none=>rw[Mo e]
 | some i =>
  obtain⟨g,c,g1,g2,g3,g4,c1,c2,l1,l2,l3,l4,l5⟩:=Mm hm h.b e
  obtain⟨hi,_,hg⟩:=yY e
  rw[Mn e]
  generalize cX m s.2 i p=l at l1 l2 l3 l4 l5
  have ll:=dy hm l2
  have row:∀{T:List (List Nat)},RT (aa m) w T->∀r'∈eX m T l p,∃r∈T,∃b,b<aa m/\cf r'=λk=>gp m (cf r k) (gm m b (cf l k)):=λ{T} hT r' bU=>by
   obtain⟨r,hr,rfl⟩:=cC.mp bU
   obtain⟨a1,a2⟩:=hT r hr
   exact⟨r,hr,XE hm (dy hm a2 p) (Ml hm a1 l1 a2 _) ll (C6 hm a1 l1 a2)⟩
  have Mp:∀{T:List (List Nat)},RT (aa m) w T->∀r∈T,∃r'∈eX m T l p,cf r=λk=>gp m (cf r' k) (gm m (cf r p) (cf l k)):=λ{T} hT r hr=>by
   obtain⟨a1,a2⟩:=hT r hr
   exact⟨_,cC.mpr ⟨r,hr,rfl⟩,funext λk=>(C6 hm a1 l1 a2 k).symm⟩
  have hB:RT (aa m) w (s.2.take i++s.2.drop (i+1)):=λr hr=>h.b r (y9 hr)
  constructor
  ·refine Sp.trans ?_
   rintro f ⟨r,hr,rfl⟩
   have hl:bY m ((eX m s.1 l p++[l])++eX m (s.2.take i++s.2.drop (i+1)) l p) (cf l):=bY.of (by simp)
   rcases cB.mp hr with hr | hr
   ·obtain⟨r',h1,h2⟩:=Mp h.a r hr
    rw[h2]
    exact .add (bY.of (by simp[h1])) (.mul _ (dy hm (h.a r hr).2 p) hl)
   ·rcases XF hr hi with e' | bU
    ·have:cf r=λk=>gm m (cf g p) (cf l k):=funext λk=>by rw[l5 k,e',<- hg,g2]
     rw[this]
     exact .mul _ (dy hm g4 p) hl
    ·obtain⟨r',h1,h2⟩:=Mp hB r bU
     rw[h2]
     exact .add (bY.of (by simp[h1])) (.mul _ (dy hm (h.b r hr).2 p) hl)
  ·refine Sp.trans ?_
   rintro f ⟨r,hr,rfl⟩
   have hl:bY m (s.1++s.2) (cf l):=by
    have:cf l=λk=>gm m c (cf g k):=funext l3
    rw[this]
    exact .mul _ c1 (bY.of (dg _ g1))
   rcases cB.mp hr with hr | hr
   ·rcases cB.mp hr with hr | hr
    ·obtain⟨r1,h1,b,hb,h2⟩:=row h.a r hr
     rw[h2]
     exact .add (bY.of (eH _ h1)) (.mul _ hb hl)
    ·rw[jl]at hr
     rw[hr];exact hl
   ·obtain⟨r1,h1,b,hb,h2⟩:=row hB r hr
    rw[h2]
    exact .add (bY.of (dg _ (y9 h1))) (.mul _ hb hl)
structure RR(w:Nat)(R:List (List Nat))(H:Nat->Nat):Prop where
 u:∀i j,i<R.length->j<R.length->cf (R.getD i []) (H j)=if i=j then 1 else 0
 z:∀i,i<R.length->∀t,t<H i->cf (R.getD i []) t=0
 i:∀i j,i<j->j<R.length->H i<H j
 l:∀i,i<R.length->H i<w
theorem za{α β:Type}(f:α->β){l:List α}{i:Nat}(h:i<l.length)(a:α)(b:β):(l.map f).getD i b=f (l.getD i a):=by
 rw[aV,cJ,aV,aR h];rfl
theorem fX{α:Type}{l:List α}{i:Nat}(h:i<l.length)(a:α):l.getD i a∈l:=by
 rw[aV,aR h];exact eQ h
theorem XH{m:Bool × Nat}(hm:m∈aw){w n p:Nat}{s:List (List Nat) × List (List Nat)}(h:vY (aa m) w n s){H:Nat->Nat}(I:RR p s.1 H)(e2:∀r∈s.2,∀t,t<p->cf r t=0):∃H',RR (p+1) (fW m s p).1 H'/\∀r∈(fW m s p).2,∀t,t<p+1->cf r t=0:=by
 cases e:iF s.2 p with
 | none =>
  rw[Mo e]
  refine⟨H,⟨I.u,I.z,I.i,λi hi=>Nat.lt_succ_of_lt (I.l i hi)⟩,λr hr t ht=>?_⟩
  rcases HU t p with h1 | h1
  ·exact e2 r hr t h1
  ·have:=PC.mp e r hr
   have z:r.getD p 0=0:=by simpa using this
   rw[show t=p by omega]
   exact z
 | some i0 =>
  obtain⟨g,c,g1,g2,g3,g4,c1,c2,l1,l2,l3,l4,l5⟩:=Mm hm h.b e
  rw[Mn e]
  generalize cX m s.2 i0 p=l at l1 l2 l3 l4 l5
  have m0:=cw m hm
  have lz:∀t,t<p->cf l t=0:=λt ht=>by rw[l3,e2 g g1 t ht,fV m _ m0]
  have v3:∀{r:List Nat},r.length=w->AllLt (aa m) r->(∀t,t<p->cf (eR (λx y=>aI m x (gm m (r.getD p 0) y)) r l) t=cf r t)/\cf (eR (λx y=>aI m x (gm m (r.getD p 0) y)) r l) p=0:=λ{r} a1 a2=>by
   constructor
   ·intro t ht
    have:=C6 hm (a:=r.getD p 0) a1 l1 a2 t
    rw[lz t ht,fV m _ m0,oI (Ml hm a1 l1 a2 _ _)]at this
    exact this
   ·rw[C5 hm a1 l1,l4]
    show aI m (r.getD p 0) (gm m (r.getD p 0) 1)=0
    rw[lj (show r.getD p 0<aa m from dy hm a2 p),rT]
  have nl:(eX m s.1 l p).length=s.1.length:=by unfold eX;rw[bQ]
  have Mq:∀i,i<s.1.length->∃r,s.1.getD i []=r/\r.length=w/\AllLt (aa m) r/\(eX m s.1 l p++[l]).getD i []=eR (λx y=>aI m x (gm m (r.getD p 0) y)) r l:=λi hi=>by
   refine⟨_,rfl,(h.a _ (fX hi [])).1,(h.a _ (fX hi [])).2,?_⟩
   rw[aV,zT (by omega),<- aV]
   exact za _ hi [] []
  have Mr:(eX m s.1 l p++[l]).getD s.1.length []=l:=by
   rw[aV,zS (by omega),nl,Nat.sub_self];rfl
  have le:(eX m s.1 l p++[l]).length=s.1.length+1:=by rw[jj,nl];rfl
  refine⟨λi=>if i<s.1.length then H i else p,⟨λi j hi hj=>?_,λi hi t ht=>?_,λi j v7 hj=>?_,λi hi=>?_⟩,λr hr t ht=>?_⟩
  ·show cf ((eX m s.1 l p++[l]).getD i []) _=_
   dsimp only at hi hj ⊢
   rw[le]at hi hj
   by_cases h1:i<s.1.length
   ·obtain⟨r,r1,r2,r3,r4⟩:=Mq i h1
    rw[r4]
    by_cases h2:j<s.1.length
    ·rw[if_pos h2,(v3 r2 r3).1 _ (I.l j h2),<- r1]
     exact I.u i j h1 h2
    ·rw[if_neg h2,(v3 r2 r3).2,if_neg (by omega)]
   ·have e1:i=s.1.length:=by omega
    rw[e1,Mr]
    by_cases h2:j<s.1.length
    ·rw[if_pos h2,lz _ (I.l j h2),if_neg (by omega)]
    ·rw[if_neg h2,l4,if_pos (by omega)]
  ·dsimp only at hi ht ⊢
   rw[le]at hi
   by_cases h1:i<s.1.length
   ·rw[if_pos h1]at ht
    obtain⟨r,r1,r2,r3,r4⟩:=Mq i h1
    rw[r4,(v3 r2 r3).1 _ (by have:=I.l i h1;omega),<- r1]
    exact I.z i h1 t ht
   ·rw[if_neg h1]at ht
    have e1:i=s.1.length:=by omega
    rw[e1,Mr];exact lz t ht
  ·dsimp only at hj ⊢
   rw[le]at hj
   rw[if_pos (by omega)]
   by_cases h2:j<s.1.length
   ·rw[if_pos h2];exact I.i i j v7 h2
   ·rw[if_neg h2];exact I.l i (by omega)
  ·dsimp only at hi ⊢
   rw[le]at hi
   split
   ·have:=I.l i (by omega);omega
   ·omega
  ·obtain⟨r1,zb,rfl⟩:=cC.mp hr
   obtain⟨a1,a2⟩:=h.b r1 (y9 zb)
   rcases HU t p with h1 | h1
   ·rw[(v3 a1 a2).1 t h1];exact e2 _ (y9 zb) t h1
   ·rw[show t=p by omega];exact(v3 a1 a2).2
theorem Ms{m:Bool × Nat}(hm:m∈aw){w:Nat}{G:List (List Nat)}(h:RT (aa m) w G):∀k,(∃H,RR k (iG m G k).1 H/\∀r∈(iG m G k).2,∀t,t<k->cf r t=0)/\∀f,bY m G f↔bY m ((iG m G k).1++(iG m G k).2) f
 | 0=>⟨⟨λ_=>0,⟨(λ_ _ h=>nomatch h),(λ_ h=>nomatch h),(λ_ _ _ h=>nomatch h),(λ_ h=>nomatch h)⟩,λr _ t ht=>nomatch ht⟩,λf=>.rfl⟩
 | k+1=>by
  obtain⟨⟨H,h1,h2⟩,h3⟩:=Ms hm h k
  have D:=yZ hm h k
  rw[CS]
  exact⟨XH hm D h1 h2,λf=>(h3 f).trans (XG hm D f)⟩
theorem ke{m:Bool × Nat}(hm:m∈aw){G:List (List Nat)}(h:RT (aa m) (af G) G):(∃H,RR (af G) (bO m G) H)/\RT (aa m) (af G) (bO m G)/\(bO m G).length<=G.length/\∀f,bY m G f↔bY m (bO m G) f:=by
 obtain⟨⟨H,h1,h2⟩,h3⟩:=Ms hm h (af G)
 have D:=yZ hm h (af G)
 refine⟨⟨H,h1⟩,D.a,by have:=D.l;show(iG m G (af G)).1.length<=_;omega,λf=>(h3 f).trans ⟨Sp.trans ?_,Sp.trans ?_⟩⟩
 ·rintro f ⟨r,hr,rfl⟩
  rcases cB.mp hr with hr | hr
  ·exact bY.of hr
  ·have:cf r=λ_=>0:=funext λt=>by
    rcases HU t (af G)with h4 | h4
    ·exact h2 r hr t h4
    ·exact vS (by rw[(D.b r hr).1];exact h4)
   rw[this];exact .zero
 ·rintro f ⟨r,hr,rfl⟩
  exact bY.of (eH _ hr)
theorem oN{N:Nat}{p q:Nat->Nat->Nat}(r:Rg N p q){f:Nat->Nat}{j0:Nat}(hf:f j0<N):∀{n:Nat},j0<n->(∀j,j<n->j≠j0->f j=0)->sm p n f=f j0
 | 0,h,_=>nomatch h
 | n+1,h,hz=>by
  rw[sm]
  by_cases e:j0=n
  ·subst e
   rw[jc r λj hj=>hz j (by omega) (by omega),r.z hf]
  ·rw[oN r hf (by omega) λj hj=>hz j (by omega),hz n (by omega) (by omega),r.z' hf]
theorem bY.sum{m:Bool × Nat}(hm:m∈aw){w:Nat}{R:List (List Nat)}(hR:RT (aa m) w R){f:Nat->Nat}(s:bY m R f):∃c:Nat->Nat,(∀i,c i<aa m)/\∀k,f k=sm (gp m) R.length λi=>gm m (c i) (cf (R.getD i []) k):=by
 have r:=rg hm
 have m0:=cw m hm
 have l1:=lo1 hm
 induction s with
 | mem a =>
  obtain⟨x,hx,rfl⟩:=a
  obtain⟨i,hi,rfl⟩:=jm hx
  have ei:R[i]=R.getD i []:=by rw[aV,aR hi];rfl
  refine⟨λj=>if j=i then 1 else 0,λj=>by dsimp only;split<;>omega,λk=>?_⟩
  refine((oN r (f:=λa=>gm m (if a=i then 1 else 0) (cf (R.getD a []) k)) (j0:=i) (cI hm _ _) hi λj hj hn=>?_).trans ?_).symm
  ·rw[if_neg hn,fq m _ m0]
  ·rw[if_pos rfl,ei]
   exact rQ (dy hm (hR _ (fX hi [])).2 k)
 | zero=>exact⟨λ_=>0,λ_=>r.pos,λk=>(jc r λj _=>fq m _ m0).symm⟩
 | add _ _ a b =>
  obtain⟨c,hc,a⟩:=a
  obtain⟨d,hd,b⟩:=b
  refine⟨λi=>gp m (c i) (d i),λi=>r.lp (hc i) (hd i),λk=>?_⟩
  dsimp only
  rw[a k,b k,<- lC r]
  refine dN λj _=>?_
  rw[r.mc (gp m _ _),r.dl,r.mc _ (cf _ k),r.mc _ (cf _ k)]
 | mul e he _ a =>
  obtain⟨c,hc,a⟩:=a
  refine⟨λi=>gm m e (c i),λi=>cI hm _ _,λk=>?_⟩
  dsimp only
  rw[a k,<- oK r]
  refine dN λj _=>?_
  rw[fU m0]
theorem bY.ann{m:Bool × Nat}(hm:m∈aw){R:List (List Nat)}{n:Nat}{y:Nat->Nat}(h:∀x∈R,sm (gp m) n (λj=>gm m (cf x j) (y j))=0){f:Nat->Nat}(s:bY m R f):sm (gp m) n (λj=>gm m (f j) (y j))=0:=by
 have r:=rg hm
 have m0:=cw m hm
 induction s with
 | mem a=>obtain⟨x,hx,rfl⟩:=a;exact h x hx
 | zero=>exact jc r λj _=>fq m _ m0
 | @add f g _ _ a b =>
  rw[dN (g:=λj=>gp m (gm m (f j) (y j)) (gm m (g j) (y j))) λj _=>by dsimp only;rw[r.mc (gp m _ _),r.dl,r.mc (y j),r.mc (y j)],lC r,a,b,r.z r.pos]
 | @mul f e he _ a =>
  rw[dN (g:=λj=>gm m e (gm m (f j) (y j))) λj _=>fU m0 _ _ _,oK r,a,r.qz]
theorem RR.C7{m:Bool × Nat}(hm:m∈aw){w:Nat}{R:List (List Nat)}{H:Nat->Nat}(hR:RT (aa m) w R)(I:RR w R H){i:Nat}(hi:i<R.length):(R.getD i []).findIdx (· != 0)=H i/\∃x∈R.getD i [],x≠0:=by
 have a:=(hR _ (fX hi [])).1
 have l:=I.l i hi
 have u:=I.u i i hi hi
 rw[if_pos rfl]at u
 have eu:(R.getD i [])[H i]'(by omega)=1:=by
  unfold cf at u
  rw[aV (l:=R.getD i []),aR (by omega)]at u
  exact u
 refine⟨?_,_,eQ (show H i<(R.getD i []).length by omega),by rw[eu];decide⟩
 rw[List.findIdx_eq (by omega)]
 refine⟨by rw[eu];rfl,λj hj=>?_⟩
 have z:=I.z i hi j hj
 unfold cf at z
 rw[aV (l:=R.getD i []),aR (by omega)]at z
 simpa using z
theorem oO{a b:List Nat}{w:Nat}(ha:a.length=w)(hb:b.length=w)(h:∀k,k<w->cf a k=cf b k):a=b:=by
 refine HP (ha.trans hb.symm) λk h1 h2=>?_
 have:=h k (by omega)
 unfold cf at this
 rw[aV,aV,aR h1,aR h2]at this
 exact this
theorem v9(f:Nat->Nat){w k:Nat}(h:k<w):cf ((au w).map f) k=f k:=by
 unfold cf
 rw[aV,cJ,ky h];rfl
theorem rU(m:Bool × Nat){xs ys:List Nat}(h:xs.length=ys.length):gd m xs ys=sm (gp m) xs.length λj=>gm m (cf xs j) (cf ys j):=by
 unfold gd
 rw[Xa,pH,h,s8]
 refine dN λj hj=>?_
 unfold cf
 rw[aV,xp,aR (by omega),aR (by omega),aV,aR (by omega),aV,aR (by omega)]
 rfl
noncomputable def oQ(m:Bool × Nat)(xs:List Nat)(T:List (List Nat))(w:Nat):List Nat:=(au w).map λk=>gd m xs (T.map λr=>r.getD k 0)
theorem XI{T:List (List Nat)}(k i:Nat):cf (T.map λr=>r.getD k 0) i=cf (T.getD i []) k:=by
 by_cases h:i<T.length
 ·exact za (λr:List Nat=>r.getD k 0) h [] 0
 ·rw[vS (by rw[bQ];omega),aV,ie (by omega)];rfl
theorem Mt(m:Bool × Nat)(xs:List Nat)(T:List (List Nat))(w:Nat):(oQ m xs T w).length=w:=by unfold oQ;rw[bQ,cK]
theorem zc(m:Bool × Nat){xs:List Nat}{T:List (List Nat)}{w k:Nat}(h:xs.length=T.length)(hk:k<w):cf (oQ m xs T w) k=sm (gp m) T.length λi=>gm m (cf xs i) (cf (T.getD i []) k):=by
 unfold oQ
 rw[v9 _ hk,rU m (by rw[bQ,h]),h]
 exact dN λj _=>by rw[XI]
theorem XJ{m:Bool × Nat}(hm:m∈aw){xs ys:List Nat}(h:xs.length=ys.length):gd m xs ys<aa m:=by
 rw[rU m h];exact vT (rg hm) λj _=>cI hm _ _
theorem XM{m:Bool × Nat}(hm:m∈aw){xs:List Nat}{T:List (List Nat)}(w:Nat)(h:xs.length=T.length):AllLt (aa m) (oQ m xs T w):=λx hx=>by
 obtain⟨k,_,rfl⟩:=cC.mp hx
 exact XJ hm (by rw[bQ,h])
noncomputable def cx(r:List Nat):Nat:=r.findIdx (· != 0)
theorem zd{α:Type}(a b:α->Nat){j:Nat}:∀(l:List α) (x:List Nat),(∀z∈l,a z≠j)->cf (l.foldl (λx z=>x.set (a z) (b z)) x) j=cf x j
 | [],_,_=>rfl
 | z::l,x,h=>by
  rw[pj,zd a b l _ λy hy=>h y (dJ _ hy)]
  unfold cf
  rw[aV,o7 (h z eP),<- aV]
theorem Mu{α:Type}(a b:α->Nat):∀(l:List α) (x:List Nat),l.Pairwise (λy z=>a y≠a z)->∀z∈l,a z<x.length->cf (l.foldl (λx z=>x.set (a z) (b z)) x) (a z)=b z
 | [],_,_,_,h,_=>nomatch h
 | y::l,x,hp,z,hz,hl=>by
  rw[pj]
  rw[List.pairwise_cons]at hp
  rcases bR.mp hz with rfl | hz
  ·rw[zd a b l _ λy hy=>dP (hp.1 y hy)]
   unfold cf
   rw[aV,zP hl];rfl
  ·exact Mu a b l _ hp.2 z hz (by rw[mY];exact hl)
theorem Mv{α:Type}(a b:α->Nat):∀(l:List α) (x:List Nat),(l.foldl (λx z=>x.set (a z) (b z)) x).length=x.length
 | [],_=>rfl
 | z::l,x=>by rw[pj,Mv a b l,mY]
end L3
namespace L3
open PySem L2 Mf
noncomputable def eA(T:List (List Nat))(w:Nat):List Nat:=(au w).filter λj=>!(T.map cx).contains j
noncomputable def eY(m:Bool × Nat)(T:List (List Nat))(w f:Nat):List Nat:=(((T.map cx).zip T).foldl (λx z=>x.set z.1 (aI m 0 (z.2.getD f 0))) ((aK w 0).set f 1))
noncomputable def gH(m:Bool × Nat)(T:List (List Nat))(w:Nat):List (List Nat):=(eA T w).map (eY m T w)
theorem RR.heads{m:Bool × Nat}(hm:m∈aw){w:Nat}{R:List (List Nat)}{H:Nat->Nat}(hR:RT (aa m) w R)(I:RR w R H):R.map cx=(au R.length).map H:=by
 refine HP (by rw[bQ,bQ,cK]) λi h1 h2=>?_
 rw[bQ]at h1
 rw[xt,xt,HV,<- (I.C7 hm hR h1).1,aV,aR h1];rfl
theorem RR.mem{m:Bool × Nat}(hm:m∈aw){w:Nat}{R:List (List Nat)}{H:Nat->Nat}(hR:RT (aa m) w R)(I:RR w R H)(j:Nat):j∈R.map cx↔∃i,i<R.length/\H i=j:=by
 rw[I.heads hm hR,cC]
 exact⟨λ⟨i,a,b⟩=>⟨i,bP.mp a,b⟩,λ⟨i,a,b⟩=>⟨i,bP.mpr a,b⟩⟩
theorem RR.free{m:Bool × Nat}(hm:m∈aw){w:Nat}{R:List (List Nat)}{H:Nat->Nat}(hR:RT (aa m) w R)(I:RR w R H)(j:Nat):j∈eA R w↔j<w/\∀i,i<R.length->H i≠j:=by
 unfold eA
 rw[lY,bP,Bool.not_eq_true',<- Bool.not_eq_true,Aq,I.mem hm hR]
 exact and_congr_right λ_=>⟨λh i a b=>h ⟨i,a,b⟩,λh ⟨i,a,b⟩=>h i a b⟩
theorem RR.Mw{m:Bool × Nat}(hm:m∈aw){w:Nat}{R:List (List Nat)}{H:Nat->Nat}(hR:RT (aa m) w R)(I:RR w R H):(eA R w).length+R.length=w:=by
 have nd:(R.map cx).Nodup:=by
  rw[I.heads hm hR]
  unfold List.Nodup
  rw[As]
  intro i j hi hj v7
  rw[bQ,cK]at hi hj
  rw[xt,xt,HV,HV]
  have:=I.i i j v7 hj
  omega
 have pe:((au w).filter λj=>(R.map cx).contains j).Perm (R.map cx):=by
  refine(List.perm_ext_iff_of_nodup (PD _ Au) nd).mpr λj=>?_
  rw[lY,Aq,bP]
  refine⟨λh=>h.2,λh=>⟨?_,h⟩⟩
  obtain⟨i,hi,rfl⟩:=(I.mem hm hR j).mp h
  exact I.l i hi
 have l1:=pe.length_eq
 rw[bQ]at l1
 have l2:=HW (λj=>(R.map cx).contains j) (l:=au w)
 rw[cK,Av,Av,l1]at l2
 unfold eA
 have e:((au w).filter λa=>decide ¬(R.map cx).contains a=true)=(au w).filter λj=>!(R.map cx).contains j:=List.filter_congr λx _=>by
  cases(R.map cx).contains x<;>rfl
 rw[e]at l2
 omega
theorem ze{m:Bool × Nat}(hm:m∈aw){w f:Nat}{R:List (List Nat)}{H:Nat->Nat}(hR:RT (aa m) w R)(I:RR w R H)(hf:f∈eA R w):(eY m R w f).length=w/\AllLt (aa m) (eY m R w f)/\cf (eY m R w f) f=1/\(∀i,i<R.length->cf (eY m R w f) (H i)=aI m 0 (cf (R.getD i []) f))/\∀j,j≠f->(∀i,i<R.length->H i≠j)->cf (eY m R w f) j=0:=by
 obtain⟨f1,f2⟩:=(I.free hm hR f).mp hf
 have l1:=lo1 hm
 have zl:((R.map cx).zip R).length=R.length:=by rw[HR,bQ,s8]
 have zg:∀i (h:i<R.length),((R.map cx).zip R)[i]'(by omega)=(H i,R.getD i []):=λi h=>by
  rw[List.getElem_zip,xt]
  have e:R.getD i []=R[i]:=by rw[aV,aR h];rfl
  have:=(I.C7 hm hR h).1
  rw[e]at this ⊢
  exact Prod.ext this rfl
 have zm:∀z∈(R.map cx).zip R,∃i,i<R.length/\z=(H i,R.getD i []):=λz hz=>by
  obtain⟨i,hi,rfl⟩:=jm hz
  exact⟨i,by omega,zg i (by omega)⟩
 have mz:∀i,i<R.length->(H i,R.getD i [])∈(R.map cx).zip R:=λi h=>by
  rw[<-zg i h];exact eQ _
 have bd:∀z∈(R.map cx).zip R,aI m 0 (z.2.getD f 0)<aa m:=λz hz=>by
  obtain⟨i,hi,rfl⟩:=zm z hz
  exact(gF hm (by omega) (dy hm (hR _ (fX hi [])).2 f)).2.1
 refine⟨?_,?_,?_,λi hi=>?_,λj hj XN=>?_⟩
 ·unfold eY
  rw[Mv (λz:Nat × List Nat=>z.1) (λz=>aI m 0 (z.2.getD f 0)),mY,fA]
 ·have key:∀(l:List (Nat × List Nat)) (x:List Nat),(∀z∈l,aI m 0 (z.2.getD f 0)<aa m)->AllLt (aa m) x->AllLt (aa m) (l.foldl (λx z=>x.set z.1 (aI m 0 (z.2.getD f 0))) x):=by
   intro l
   induction l with
   | nil=>exact λx _ h=>h
   | cons z l ih =>
    intro x hz h
    rw[pj]
    refine ih _ (λy hy=>hz y (dJ _ hy)) λy hy=>?_
    rcases HL hy with h1 | h1
    ·exact h y h1
    ·rw[h1];exact hz z eP
  refine key _ _ bd λx hx=>?_
  rcases HL hx with h1 | h1
  ·rw[(xj.mp h1).2];omega
  ·omega
 ·unfold eY
  rw[zd (λz:Nat × List Nat=>z.1) (λz=>aI m 0 (z.2.getD f 0)) _ _ λz hz=>?_]
  ·unfold cf
   rw[aV,zP (by rw[fA];exact f1)];rfl
  ·obtain⟨i,hi,rfl⟩:=zm z hz
   exact f2 i hi
 ·have hp:((R.map cx).zip R).Pairwise (λy z:Nat × List Nat=>y.1≠z.1):=by
   rw[As]
   intro i j hi hj v7
   rw[zg i (by omega),zg j (by omega)]
   have:=I.i i j v7 (by omega)
   show H i≠H j
   omega
  exact Mu (λz:Nat × List Nat=>z.1) (λz=>aI m 0 (z.2.getD f 0)) _ _ hp _ (mz i hi) (by rw[mY,fA];exact I.l i hi)
 ·unfold eY
  rw[zd (λz:Nat × List Nat=>z.1) (λz=>aI m 0 (z.2.getD f 0)) _ _ λz hz=>?_]
  ·unfold cf
   rw[aV,o7 (dP hj),w9]
   split<;>rfl
  ·obtain⟨i,hi,rfl⟩:=zm z hz
   exact XN i hi
theorem XO{N:Nat}{p q:Nat->Nat->Nat}(r:Rg N p q){f:Nat->Nat}{a b n:Nat}(ha:a<n)(hb:b<n)(hn:a≠b)(fa:f a<N)(fb:f b<N)(hz:∀j,j<n->j≠a->j≠b->f j=0):sm p n f=p (f a) (f b):=by
 have h1:=oN r (f:=λj=>if j=a then f a else 0) (j0:=a) (n:=n) (by rw[if_pos rfl];exact fa) ha λj _ h=>if_neg h
 have h2:=oN r (f:=λj=>if j=b then f b else 0) (j0:=b) (n:=n) (by rw[if_pos rfl];exact fb) hb λj _ h=>if_neg h
 rw[if_pos rfl]at h1 h2
 rw[<-h1,<- h2,<- lC r]
 refine dN λj hj=>?_
 by_cases ja:j=a
 ·rw[if_pos ja,if_neg (by omega),r.z' fa,ja]
 ·by_cases jb:j=b
  ·rw[if_neg ja,if_pos jb,r.z fb,jb]
  ·rw[if_neg ja,if_neg jb,hz j hj ja jb,r.z r.pos]
noncomputable def dt(m:Bool × Nat)(w:Nat)(x y:Nat->Nat):Nat:=sm (gp m) w λj=>gm m (x j) (y j)
theorem XQ{m:Bool × Nat}(hm:m∈aw)(w:Nat)(x y z:Nat->Nat):dt m w x (λk=>gp m (y k) (z k))=gp m (dt m w x y) (dt m w x z):=by
 have r:=rg hm
 unfold dt
 rw[<-lC r]
 exact dN λj _=>r.dl _ _ _
theorem XR{m:Bool × Nat}(hm:m∈aw)(w c:Nat)(x y:Nat->Nat):dt m w x (λk=>gm m c (y k))=gm m c (dt m w x y):=by
 have r:=rg hm
 have m0:=cw m hm
 unfold dt
 rw[<-oK r]
 exact dN λj _=>by rw[<-fU m0,fo m (x j),fU m0]
theorem Mx{m:Bool × Nat}(hm:m∈aw)(w:Nat)(x:Nat->Nat)(c:Nat->Nat)(F:Nat->Nat->Nat):∀n,dt m w x (λk=>sm (gp m) n λi=>gm m (c i) (F i k))=sm (gp m) n λi=>gm m (c i) (dt m w x (F i))
 | 0=>jc (rg hm) λj _=>(rg hm).qz _
 | n+1=>by
  rw[sm,<- Mx hm w x c F n,<- XR hm,<- XQ hm];rfl
theorem Mz{m:Bool × Nat}(hm:m∈aw){w f:Nat}{R:List (List Nat)}{H:Nat->Nat}(hR:RT (aa m) w R)(I:RR w R H)(hf:f∈eA R w){i:Nat}(hi:i<R.length):dt m w (cf (R.getD i [])) (cf (eY m R w f))=0:=by
 have r:=rg hm
 obtain⟨f1,f2⟩:=(I.free hm hR f).mp hf
 obtain⟨k1,k2,k3,k4,k5⟩:=ze hm hR I hf
 have il:=dy hm (hR _ (fX hi [])).2
 have g:=gF hm (a:=0) r.pos (il f)
 unfold dt
 rw[XO r (f:=λj=>gm m (cf (R.getD i []) j) (cf (eY m R w f) j)) (a:=H i) (b:=f) (I.l i hi) f1 (f2 i hi) (cI hm _ _) (cI hm _ _) λj hj ja jb=>?_]
 ·rw[k3,k4 i hi,I.u i i hi hi,if_pos rfl,rQ g.2.1,lj (il f)]
  exact g.2.2
 ·by_cases c:∃i',i'<R.length/\H i'=j
  ·obtain⟨i',h1,rfl⟩:=c
   rw[I.u i i' hi h1,if_neg (λz:i=i'=>ja (by rw[z])),fq m _ (cw m hm)]
  ·rw[k5 j jb λi' h1 h2=>c ⟨i',h1,h2⟩,r.qz]
theorem bY.dt{m:Bool × Nat}(hm:m∈aw){R:List (List Nat)}{n:Nat}{y:Nat->Nat}(h:∀i,i<R.length->dt m n (cf (R.getD i [])) y=0){f:Nat->Nat}(s:bY m R f):dt m n f y=0:=by
 refine s.ann hm λx hx=>?_
 obtain⟨i,hi,rfl⟩:=jm hx
 have:=h i hi
 rw[aV,aR hi]at this
 exact this
theorem C8{N n:Nat}{M:List (List Nat)}(h:RT N n M)(h0:M≠[]):af M=n:=by
 cases M with
 | nil=>exact absurd rfl h0
 | cons g M=>exact(h g eP).1
theorem XS{m:Bool × Nat}(hm:m∈aw){n:Nat}{M:List (List Nat)}(h:RT (aa m) n M)(hl:M.length<n):∃(x:Nat->Nat) (f:Nat),f<n/\(∀k,x k<aa m)/\x f=1/\∀i,i<M.length->dt m n (cf (M.getD i [])) x=0:=by
 by_cases h0:M=[]
 ·subst h0
  exact⟨λ_=>1,0,hl,λ_=>lo1 hm,rfl,λi hi=>nomatch hi⟩
 ·have hw:=C8 h h0
  obtain⟨⟨H,I⟩,iR,il,sp⟩:=ke hm (G:=M) (by rw[hw];exact h)
  rw[hw]at I iR
  have fl:=I.Mw hm iR
  have f0:0<(eA (bO m M) n).length:=by omega
  have hf:=fX f0 0
  obtain⟨k1,k2,k3,k4,k5⟩:=ze hm iR I hf
  refine⟨cf (eY m (bO m M) n ((eA (bO m M) n).getD 0 0)),_,((I.free hm iR _).mp hf).1,dy hm k2,k3,λi hi=>?_⟩
  exact bY.dt hm (λi' gW=>Mz hm iR I hf gW) ((sp _).mp (bY.of (fX hi [])))
theorem RR.rV{m:Bool × Nat}(hm:m∈aw){w v:Nat}{S R:List (List Nat)}{H:Nat->Nat}(hS:RT (aa m) w S)(I:RR w S H)(hR:RT (aa m) v R)(h:∀i,i<S.length->bY m R (cf (S.getD i []))):S.length<=R.length:=by
 have r:=rg hm
 refine Hw λhl=>?_
 have hc:∀i,∃c:Nat->Nat,i<S.length->(∀j,c j<aa m)/\∀k,cf (S.getD i []) k=sm (gp m) R.length λj=>gm m (c j) (cf (R.getD j []) k):=λi=>by
  by_cases hi:i<S.length
  ·obtain⟨c,a,b⟩:=(h i hi).sum hm hR
   exact⟨c,λ_=>⟨a,b⟩⟩
  ·exact⟨λ_=>0,λz=>absurd z hi⟩
 obtain⟨C,hC⟩:=Classical.axiomOfChoice hc
 have cl:∀i,i<S.length->∀j,C i j<aa m:=λi hi=>(hC i hi).1
 obtain⟨x,f,f1,x1,x2,x3⟩:=XS hm (n:=S.length) (M:=(au R.length).map λj=>(au S.length).map λi=>C i j) (λy hy=>by
  obtain⟨j,_,rfl⟩:=cC.mp hy
  refine⟨by rw[bQ,cK],λz hz=>?_⟩
  obtain⟨i,hi,rfl⟩:=cC.mp hz
  exact cl i (bP.mp hi) j) (by rw[bQ,cK];exact hl)
 rw[bQ,cK]at x3
 have x4:∀j,j<R.length->sm (gp m) S.length (λi=>gm m (C i j) (x i))=0:=λj hj=>by
  rw[<-x3 j hj]
  refine dN λi hi=>?_
  rw[za (λj=>(au S.length).map λi=>C i j) (by rw[cK];exact hj) 0 [],v9 _ hi,aV,ky hj];rfl
 have x5:∀k,sm (gp m) S.length (λi=>gm m (x i) (cf (S.getD i []) k))=0:=λk=>by
  rw[dN (g:=λi=>sm (gp m) R.length λj=>gm m (gm m (C i j) (x i)) (cf (R.getD j []) k)) λi hi=>?_,L5 r,jc r λj hj=>?_]
  ·rw[dN (g:=λi=>gm m (cf (R.getD j []) k) (gm m (C i j) (x i))) λi hi=>fo m _ _,oK r,x4 j hj,r.qz]
  ·rw[(hC i hi).2 k,<- oK r]
   exact dN λj _=>by rw[<-fU (cw m hm),fo m (x i)]
 have:=x5 (H f)
 rw[oN r (f:=λi=>gm m (x i) (cf (S.getD i []) (H f))) (cI hm _ _) f1 λj hj hn=>by rw[I.u j f hj f1,if_neg hn,r.qz],I.u f f f1 f1,if_pos rfl,x2,rQ (lo1 hm)]at this
 omega
theorem XT{m:Bool × Nat}(hm:m∈aw){v:Nat}{G R:List (List Nat)}(hG:RT (aa m) (af G) G)(hR:RT (aa m) v R)(h:∀i,i<G.length->bY m R (cf (G.getD i []))):(bO m G).length<=R.length:=by
 obtain⟨⟨H,I⟩,iR,il,sp⟩:=ke hm hG
 refine I.rV hm iR hR λi hi=>?_
 refine Sp.trans (λf hf=>?_) ((sp _).mpr (bY.of (fX hi [])))
 obtain⟨x,hx,rfl⟩:=hf
 obtain⟨i,hi,rfl⟩:=jm hx
 have:=h i hi
 rw[aV,aR hi]at this
 exact this
theorem XU{T:List (List Nat)}{i:Nat}(h:i<T.length):T.getD i []=T[i]:=by rw[aV,aR h];rfl
theorem bY.red{m:Bool × Nat}(hm:m∈aw){G:List (List Nat)}(hG:RT (aa m) (af G) G){f:Nat->Nat}(h:bY m G f):bY m (bO m G) f:=((ke hm hG).2.2.2 f).mp h
end L3
namespace L3
open PySem L2 PySem.Spec PyProof.Rows
section
variable{X:Cx}{F H:Hp}{e b:Expr}{pos pos' p p2 p3 apos br:Pos}{ti te:aB}{x y:Str}{i j:Nat}
end
section
variable{X:Cx}
end
section
variable{X:Cx}{es:List Expr}{tr:bX}{pos:Pos}
end
end L3
namespace L3
open PySem L2 Mf
end L3
namespace L3
open PySem L2 Mf
end L3
namespace L3
open PySem L2 Mf
end L3
namespace L2
open PySem PySem.Spec PyProof.Rows
section
variable{X:Cx}
end
end L2
namespace L3
open PySem L2 PySem.Spec PyProof.Rows
section
variable{X:Cx}
end
end L3
namespace L2
open PySem PySem.Spec PyProof.Rows
section
variable{X:Cx}{a:Expr}{ta:TE}{p p2 pos wa:Pos}
end
end L2
namespace L3
open PySem L2 PySem.Spec PyProof.Rows
section
variable{X:Cx}{a:Expr}{t:aB}{p p2 pos wa:Pos}
end
end L3
namespace L3
open PySem L2 PySem.Spec PyProof.Rows
section
variable{F H:Hp}
end
section
variable{X:Cx}{e:Expr}{t:aB}{p2 pos:Pos}
end
end L3
namespace L3
open PySem L2 PySem.Spec PyProof.Rows
section
variable{F H:Hp}
end
section
variable{P:Program}{w:World}{K:PySem.W.Frag}{mg:Str->Option Value}{base:Heap}
end
section
variable{X:Cx}{CX:dm}{n i:Nat}{f:Addr}{fd:FuncData}{ps:List Str}{sp:bx}{E:XK}{fn x:Str}{e:Expr}{te:aB}{p p2 pos pos' wa:Pos}
end
end L3
namespace L2
section
variable{α:Type}{P:List α->Prop}
theorem XW(h:P []):∀us:List α,us.length=0->P us:=by
 intro us hl;rcases us with _ | ⟨a,t⟩
 ·exact h
 ·cases hl
theorem fu(h:∀a,P [a]):∀us:List α,us.length=1->P us:=by
 intro us hl;rcases us with _ | ⟨a,t⟩
 ·cases hl
 ·exact XW (P:=λt=>P (a::t)) (h a) t (xu hl)
theorem gI(h:∀a b,P [a,b]):∀us:List α,us.length=2->P us:=by
 intro us hl;rcases us with _ | ⟨a,t⟩
 ·cases hl
 ·exact fu (P:=λt=>P (a::t)) (h a) t (xu hl)
theorem lM(h:∀a b c,P [a,b,c]):∀us:List α,us.length=3->P us:=by
 intro us hl;rcases us with _ | ⟨a,t⟩
 ·cases hl
 ·exact gI (P:=λt=>P (a::t)) (h a) t (xu hl)
theorem rW(h:∀a b c d,P [a,b,c,d]):∀us:List α,us.length=4->P us:=by
 intro us hl;rcases us with _ | ⟨a,t⟩
 ·cases hl
 ·exact lM (P:=λt=>P (a::t)) (h a) t (xu hl)
theorem XX(h:∀a b c d e,P [a,b,c,d,e]):∀us:List α,us.length=5->P us:=by
 intro us hl;rcases us with _ | ⟨a,t⟩
 ·cases hl
 ·exact rW (P:=λt=>P (a::t)) (h a) t (xu hl)
end
end L2
namespace L3
open PySem L2 PySem.Spec PyProof.Rows
section
variable{B:Bs}{F H:Hp}{σ:L2.St}{δ:Dl}{ts:List (D × V)}
end
section
variable{X:Cx}{elt iter tg:Expr}{pos:Pos}{scope:Scope}{cl:List (Str × Addr)}{ti:g6}{te:aB}{g:fL}
end
end L3
namespace L2
open PySem PySem.Spec PyProof.Rows
section
variable{X:Cx}
end
end L2
namespace L3
open PySem L2 PySem.Spec PyProof.Rows
section
variable{X:Cx}
end
end L3
namespace L3
open PySem L2 Mf
theorem C9{m:Bool × Nat}(hm:m∈aw){a b:Nat}(ha:a<aa m)(hb:b<aa m):gm m a b=0↔a=0\/b=0:=by
 constructor
 ·intro h
  by_cases a0:a=0
  ·exact .inl a0
  ·by_cases b0:b=0
   ·exact .inr b0
   ·exact absurd h (WY hm (by omega) ha (by omega) hb)
 ·rintro (rfl | rfl)
  ·exact fq m _ (cw m hm)
  ·exact fV m _ (cw m hm)
theorem MA{m:Bool × Nat}(hm:m∈aw)(x:Nat->Nat)(hx:∀j,x j<aa m):∀(n:Nat) (c:Nat->Nat),(∀j,c j<aa m)->(∀i j,i<n->j<n->x i=x j->i=j)->(∀i,i<n->sm (gp m) n (λj=>gm m (c j) (px m (x j) i))=0)->∀j,j<n->c j=0
 | 0,_,_,_,_,j,hj=>absurd hj (by omega)
 | n+1,c,hc,hd,h,j,hj=>by
  have r:=rg hm
  have h0:=cw m hm
  have dX:=lo1 hm
  have dn:∀j,aI m (x j) (x n)<aa m/\gp m (aI m (x j) (x n)) (x n)=x j:=λj=>(gF hm (hx j) (hx n)).2
  have key:∀i,i<n->sm (gp m) n (λj=>gm m (gm m (c j) (aI m (x j) (x n))) (px m (x j) i))=0:=λi hi=>by
   have h1:=h (i+1) (by omega)
   have hz:=h i (by omega)
   have e:∀j,gm m (c j) (px m (x j) (i+1))=gp m (gm m (gm m (c j) (aI m (x j) (x n))) (px m (x j) i)) (gm m (x n) (gm m (c j) (px m (x j) i))):=λj=>by
    show gm m (c j) (gm m (px m (x j) i) (x j))=_
    have e1:gm m (px m (x j) i) (x j)=gm m (px m (x j) i) (gp m (aI m (x j) (x n)) (x n)):=by rw[(dn j).2]
    rw[e1,yT h0,yT h0]
    congr 1
    ·rw[fU h0,fo m (px m (x j) i)]
    ·rw[fo m (px m (x j) i),<- fU h0,fo m (c j),fU h0]
   rw[dN λj _=>e j,lC r,oK r,hz,r.qz]at h1
   have ln:sm (gp m) n (λj=>gm m (gm m (c j) (aI m (x j) (x n))) (px m (x j) i))<aa m:=vT r λ_ _=>cI hm _ _
   rw[sm,rT,fV m _ h0,fq m _ h0,oI ln,oI ln]at h1
   exact h1
  have ih:=MA hm x hx n (λj=>gm m (c j) (aI m (x j) (x n))) (λ_=>cI hm _ _) (λi j hi hj=>hd i j (by omega) (by omega)) key
  have cz:∀j,j<n->c j=0:=λj hj=>by
   rcases(C9 hm (hc j) (dn j).1).mp (ih j hj)with z | z
   ·exact z
   ·have:=(dn j).2
    rw[z,i9 (hx n)]at this
    exact absurd (hd n j (by omega) (by omega) this) (by omega)
  by_cases c0:j<n
  ·exact cz j c0
  ·have ej:j=n:=by omega
   subst ej
   have:=h 0 (by omega)
   rw[sm,jc r λi hi=>by rw[cz i hi,fq m _ h0]]at this
   rw[show px m (x j) 0=1 from rfl,lj (hc j),i9 (hc j)]at this
   exact this
theorem XY(l:List Nat):aE l=aC (l.map λ(n:Nat)=>(n:Int)):=by rw[dF];unfold aC;rw[cV];rfl
noncomputable def dO(m:Bool × Nat)(b:Nat)(ps:List Nat)(n:Nat):List (List Nat):=(au n).map λ(i:Nat)=>ps.map λ(p:Nat)=>eS m (((b:Int)+(i:Int))*(p:Int))
theorem zf{m:Bool × Nat}(hm:m∈aw)(b:Nat)(ps:List Nat)(n:Nat):RT (aa m) ps.length (dO m b ps n)/\(dO m b ps n).length=n:=by
 refine⟨λr hr=>?_,by unfold dO;rw[bQ,cK]⟩
 obtain⟨i,_,rfl⟩:=cC.mp hr
 refine⟨by rw[bQ],λx hx=>?_⟩
 obtain⟨p,_,rfl⟩:=cC.mp hx
 exact CM hm _
theorem XZ{m:Bool × Nat}{b:Nat}{ps:List Nat}{n a:Nat}(ha:a<n):(dO m b ps n).getD a []=ps.map λ(p:Nat)=>eS m (((b:Int)+(a:Int))*(p:Int)):=by
 unfold dO
 rw[aV,cJ,ky ha];rfl
theorem X0{m:Bool × Nat}(hm:m∈aw){a b:Nat}(ha:a+1<aa m)(hb:b+1<aa m)(h:eS m (a:Int)=eS m (b:Int)):a=b:=by
 have h1:=(ly hm (a:Int)).2.2.1
 have h2:=(ly hm (b:Int)).2.2.1
 rw[h,h2,Am (by omega) (by omega),Am (by omega) (by omega)]at h1
 omega
end L3
namespace L3
open PySem L2 Mf
noncomputable def X1(m:Bool × Nat)(C:Nat->Nat->Nat)(ps:List Nat)(c:Nat->Nat)(k:Nat):Nat:=sm (gp m) ps.length λt=>gm m (c t) (C (ps.getD t 0) k)
noncomputable def MB(m:Bool × Nat)(C:Nat->Nat->Nat)(ps:List Nat):Prop:=∀c:Nat->Nat,(∀t,c t<aa m)->(∀k,X1 m C ps c k=0)->∀t,t<ps.length->c t=0
section
variable{m:Bool × Nat}{C:Nat->Nat->Nat}{w:Nat}
end
end L3
namespace L3
open PySem L2 Mf
noncomputable def Dc(w:Nat)(S:List Nat):Prop:=S.Pairwise (· < ·)/\∀x∈S,x<w
section
variable{m:Bool × Nat}{C:Nat->Nat->Nat}{w:Nat}
end
end L3
namespace L3
open PySem L2 Mf
noncomputable def wb(T:List (List Nat))(j k:Nat):Nat:=cf (T.getD k []) j
section
variable{m:Bool × Nat}{C:Nat->Nat->Nat}
end
end L3
namespace L3
open PySem L2 PySem.Spec PyProof.Rows
section
variable{B:Bs}{F H:Hp}{σ:L2.St}{δ:Dl}{ts:List (D × V)}
end
section
variable{X:Cx}{a:Expr}{ta:aB}{pos p2:Pos}{tk:Nat}
end
end L3
namespace L3
open PySem L2 PySem.Spec PyProof.Rows
section
variable{X:Cx}{a b:Expr}{ta tb:aB}{elts:List Expr}{x1:Nat}{jx p pos:Pos}
end
end L3
namespace L3
open PySem L2 Mf
section
variable{m:Bool × Nat}
structure De(m:Bool × Nat)(R W:Nat)(x y:Nat->Nat)(T:List (List Nat)):Prop where
 rt:RT (aa m) W T
 l:T.length=R
 xl:∀j,x j<aa m
 xd:∀i j,i<W->j<W->x i=x j->i=j
 yl:∀j,y j<aa m
 y0:∀j,j<W->y j≠0
 at_:∀i,i<R->∃k,k<R/\∀j,j<W->wb T j k=gm m (y j) (px m (x j) i)
theorem De.ind(hm:m∈aw){R W:Nat}{x y:Nat->Nat}{T:List (List Nat)}(h:De m R W x y T){S:List Nat}(hS:Dc W S)(hR:S.length<=R):MB m (wb T) S:=by
 intro c hc hz t ht
 have gS:∀t,t<S.length->S.getD t 0<W:=λt ht=>hS.2 _ (fX ht 0)
 have:=MA hm (λt=>x (S.getD t 0)) (λ_=>h.xl _) S.length (λt=>gm m (c t) (y (S.getD t 0))) (λ_=>cI hm _ _) (λi j hi hj e=>by
  have e':=h.xd _ _ (gS i hi) (gS j hj) e
  rcases Nat.lt_trichotomy i j with q | q | q
  ·have:=As.mp hS.1 i j hi hj q
   rw[aV,aV,aR hi,aR hj]at e'
   have e2:S[i]=S[j]:=e'
   omega
  ·exact q
  ·have:=As.mp hS.1 j i hj hi q
   rw[aV,aV,aR hi,aR hj]at e'
   have e2:S[i]=S[j]:=e'
   omega) (λi hi=>by
  obtain⟨k,_,hk⟩:=h.at_ i (by omega)
  refine Eq.trans (dN λt ht=>?_) (hz k)
  show gm m (gm m (c t) (y (S.getD t 0))) (px m (x (S.getD t 0)) i)=gm m (c t) (wb T (S.getD t 0) k)
  rw[hk _ (gS t ht),fU (cw m hm)]) t ht
 rcases(C9 hm (hc t) (h.yl _)).mp this with z | z
 ·exact z
 ·exact absurd z (h.y0 _ (gS t ht))
end
end L3
namespace L2
open PySem PySem.Spec PyProof.Rows
section
variable{X:Cx}
theorem X2:ua X "list.count" (λx xs H Q=>∃(p:Addr) (ns:List Int) (k:Int),x=.ref p/\xs=[.int k]/\bz X.K H p (ns.map V.int)/\Q (.int (ns.count k:Nat)) H):=by
 intro pins s σ H x xs v us Q I rx r h
 obtain⟨p,ns,k,rfl,rfl,hS,q⟩:=h
 cases rx
 obtain⟨u,rfl,ru⟩:=r.one
 obtain⟨t,rfl⟩:=ru
 obtain⟨its,rv,pl,hz⟩:=I.list hS
 exact count_list_ints pl.isList (Sb rv) ⟨.int _,H,I.tok _,⟨_,rfl⟩,q⟩
end
end L2
namespace L3
open PySem L2 PySem.Spec PyProof.Rows
section
variable{X:Cx}{o e:Expr}{t tb:aB}{apos br:Pos}
noncomputable def rX(t tb:aB):aB:=λδ Q=>t δ λd ai=>∃(o:Bool) (ns:List Int),d=.lst o (aC ns)/\tb ai λb aJ=>∃k,b=.int k/\Q (.int (ns.count k:Nat)) aJ
theorem X3(ho:PE X o (lB t))(he:PE X e (lB tb))(ir:attributeBase o "count" X.env (eval o X.env)=eval o X.env:=by rfl)
  (nB:((backTo br (starEach [e] X.env)).all (λx=>!x.1)&&(backToKw br (keywordEach [] X.env)).all (λx=>x.1.isSome)
   && decide ([e].length+([]:List Keyword).length+(if([]:List Keyword).isEmpty then 0 else 1)<30))=true:=by rfl)
  (iu:(apos.endLine==br.line)=true:=by rfl) (hs:starEach [e] X.env=(false,eval e X.env)::starEach [] X.env:=by rfl) (nC:(backTo br (starEach [] X.env)).any (·.1)=false:=by rfl) :
  PE X (.Call (.Attribute o "count" apos) [e] [] br) (lE (rX t tb)) :=
 cS (Bg PySem.F.plainAttrs_list PySem.F.slot_list_count PySem.F.type_list_count X2 ho (cn he dU hs) ir nB iu hs nC) λσ H Q zq=>by
 obtain⟨B,F,δ,ts,Qd,c,q,k⟩:=zq
 exact⟨B,F,δ,ts,_,c,q,λd ai v F1 H1 q1 f1 h1 c1 s1=>by
  obtain⟨o,ns,rfl,q1⟩:=q1
  obtain⟨p,ws,rfl,h,t⟩:=kT s1 c1.ext rfl
  rw[Cq t]at h
  exact⟨.inl ⟨rfl,_,jJ h⟩,B,F1,ai,ts,_,c1,q1,λb aJ w F2 H2 q2 f2 h2 c2 s2=>by
   obtain⟨n,rfl,q3⟩:=q2
   cases s2
   exact⟨p,ns,n,rfl,rfl,jJ (h.elim (λz=>.inl (h2 _ _ z)) λ⟨o,z⟩=>.inr ⟨o,h2 _ _ z⟩),k _ aJ _ F2 H2 q3 (f1.trans f2) (h1.trans h2) (c2.pushS (.int .nil) rfl)⟩⟩⟩
end
section
variable{X:Cx}{i:Nat}{x:Str}{p pos apos br VB wa:Pos}{a b:List Stmt}{t u:b9}{k:Int}{j}
end
end L3
namespace L3
open PySem L2 Mf
section
variable{N:Nat}{p q:Nat->Nat->Nat}
theorem Rg.dr(r:Rg N p q)(a b c:Nat):q (p a b) c=p (q a c) (q b c):=by rw[r.mc,r.dl,r.mc c,r.mc c]
variable{ng:Nat->Nat}{c:Nat}
end
section
variable{m:Bool × Nat}
theorem wc(hm:m∈aw){s:Nat}(hs:s<aa m):aI m 0 s<aa m/\gp m (aI m 0 s) s=0:=by
 have:=gF hm (a:=0) (b:=s) (by omega) hs
 exact⟨this.2.1,this.2.2⟩
end
end L3
namespace L2
open PySem PySem.Spec PyProof.Rows
section
variable{prog:Program}{w:World}{A:Around}{E:Value->Shared->Prop}{s:Shared}
end
section
variable{X:Cx}{e:Expr}{ta:TA}{p p2 pos wa:Pos}
end
end L2
namespace L3
open PySem L2 PySem.Spec PyProof.Rows
section
variable{X:Cx}{e:Expr}{tr:bX}{p p2 pos wa:Pos}
end
end L3
namespace L3
open PySem L2 Mf
section
variable{m:Bool × Nat}
theorem X4{N:Nat}{p q:Nat->Nat->Nat}(r:Rg N p q){f:Nat->Nat}(hf:∀j,f j<N){n a:Nat}(ha:a<n):sm p n f=p (f a) (sm p n λj=>if j=a then 0 else f j):=by
 rw[dN (g:=λj=>p (if j=a then f a else 0) (if j=a then 0 else f j)) λj _=>?_,lC r,oN r (f:=λj=>if j=a then f a else 0) (j0:=a) (by simp[hf]) ha λj _ hj=>if_neg hj]
 ·simp
 ·by_cases c:j=a
  ·subst c;simp[r.z' (hf j)]
  ·simp[c,r.z (hf j)]
theorem MC{N:Nat}{p q:Nat->Nat->Nat}(r:Rg N p q){n:Nat}:∀{ps:List Nat} {f:Nat->Nat},(∀j,f j<N)->ps.Nodup->(∀a∈ps,a<n)->(∀j,j<n->j ∉ ps->f j=0)->sm p n f=sm p ps.length λk=>f (ps.getD k 0)
 | [],f,_,_,_,hz=>jc r λj hj=>hz j hj gj
 | a::ps,f,hf,nd,hp,hz=>by
  obtain⟨n1,n2⟩:=iK.mp nd
  have C3:∀j,(if j=a then 0 else f j)<N:=λj=>by
   by_cases c:j=a
   ·rw[if_pos c];exact r.pos
   ·rw[if_neg c];exact hf j
  rw[X4 r hf (hp a eP),MC r (ps:=ps) C3 n2 (λb hb=>hp b (dJ _ hb)) λj hj hn=>?_,fw,W9 r _ λj _=>hf _]
  ·show _=p (f a) (sm p ps.length λk=>f (ps.getD k 0))
   congr 1
   refine dN λj hj=>?_
   have:=fX hj 0
   exact if_neg λ(z:ps.getD j 0=a)=>n1 (z ▸ this)
  ·by_cases c:j=a
   ·exact if_pos c
   ·rw[if_neg c]
    exact hz j hj λh=>by
     rcases bR.mp h with h | h
     ·exact c h
     ·exact hn h
theorem X5(hm:m∈aw){a b:Nat}(ha:a<aa m)(hb:b<aa m)(h:a≠b):aI m a b≠0:=λz=>by
 have g:=(gF hm ha hb).2.2
 rw[z,i9 hb]at g
 exact h g.symm
theorem X6(hm:m∈aw){a x:Nat}(ha:a<aa m)(hx:x<aa m):aI m a (aI m a x)=x:=by
 have g:=gF hm ha hx
 have k:=gF hm ha g.2.1
 refine(rg hm).W8 k.2.1 hx g.2.1 (k.2.2.trans ?_)
 rw[vP]
 exact g.2.2.symm
section
variable{b e L o:Nat}{y:List (Option Nat)}{w c:List Nat}{bb:Nat->Nat}
end
end
end L3
namespace L3
open PySem L2 Mf
section
variable{m:Bool × Nat}
theorem Df:∀{l l':List Nat},l.Nodup->(∀a∈l,a∈l')->l.length<=l'.length
 | [],_,_,_=>mW _
 | a::l,l',nd,h=>by
  obtain⟨n1,n2⟩:=iK.mp nd
  have ha:=h a eP
  have:=Df (l:=l) (l':=l'.erase a) n2 λb hb=>(List.mem_erase_of_ne (λz:b=a=>n1 (z ▸ hb))).mpr (h b (dJ _ hb))
  rw[List.length_erase_of_mem ha]at this
  have:=List.length_pos_of_mem ha
  rw[fw]
  omega
end
end L3
namespace L3
open PySem L2 Mf
section
variable{m:Bool × Nat}
end
end L3
namespace L3
open PySem L2 Mf
section
variable{m:Bool × Nat}
end
end L3
namespace L3
open PySem L2 Mf
section
variable{m:Bool × Nat}
theorem X7(hm:m∈aw){r u v ps:List Nat}{n:Nat}(hu:AllLt (aa m) u)(hv:AllLt (aa m) v)(lr:r.length=n)(lu:u.length=n)(lv:v.length=n)(nd:ps.Nodup)(hp:∀p∈ps,p<n)(hs:∀j,j<n->j ∉ ps->cf u j=cf v j) :
  gd m r u=gp m (sm (gp m) ps.length λt=>gm m (cf r (ps.getD t 0)) (aI m (cf u (ps.getD t 0)) (cf v (ps.getD t 0)))) (gd m r v):=by
 have g:=rg hm
 have h0:=cw m hm
 have dn:∀j,gp m (aI m (cf u j) (cf v j)) (cf v j)=cf u j:=λj=>(gF hm (dy hm hu j) (dy hm hv j)).2.2
 rw[rU m (lr.trans lu.symm),rU m (lr.trans lv.symm),lr,
  dN (g:=λk=>gp m (gm m (cf r k) (aI m (cf u k) (cf v k))) (gm m (cf r k) (cf v k))) λk _=>by rw[<-yT h0,dn k],lC g,
  MC g (ps:=ps) (f:=λk=>gm m (cf r k) (aI m (cf u k) (cf v k))) (λ_=>cI hm _ _) nd hp λj hj hn=>by rw[hs j hj hn,rT,fV m _ h0]]
end
end L3
namespace L3
open PySem L2 PySem.Spec PyProof.Rows
section
variable{X:Cx}{e:Expr}{t:aB}
end
end L3
namespace L3
open PySem L2 Mf
section
variable{m:Bool × Nat}
theorem Dg(hm:m∈aw){T:List (List Nat)}(hT:RT (aa m) (af T) T):RT (aa m) (af T) (gH m (bO m T) (af T))/\(gH m (bO m T) (af T)).length<=af T:=by
 obtain⟨⟨Hd,I⟩,iR,_,_⟩:=ke hm hT
 refine⟨λr hr=>?_,?_⟩
 ·obtain⟨f,hf,rfl⟩:=cC.mp hr
  obtain⟨k1,k2,_⟩:=ze hm iR I hf
  exact⟨k1,k2⟩
 ·unfold gH eA
  rw[bQ]
  exact dH (PF ..) (by rw[cK];exact bI _)
theorem X8(hm:m∈aw){T:List (List Nat)}(hT:RT (aa m) (af T) T):∀r∈bO m T,∃x∈r,x≠0:=λr bU=>by
 obtain⟨⟨Hd,I⟩,iR,_,_⟩:=ke hm hT
 obtain⟨j,hj,rfl⟩:=jm bU
 have:=(I.C7 hm iR hj).2
 rw[XU hj]at this
 exact this
theorem X9(hm:m∈aw){T:List (List Nat)}{xs:List Nat}(hT:RT (aa m) (af T) T)(hx:xs.length=(gH m (bO m T) (af T)).length):∀r∈T,gd m r (oQ m xs (gH m (bO m T) (af T)) (af T))=0:=λr hr=>by
 have h0:=cw m hm
 obtain⟨⟨Hd,I⟩,iR,_,_⟩:=ke hm hT
 have s:bY m (bO m T) (cf r):=bY.red hm hT (bY.of hr)
 rw[rU m ((hT r hr).1.trans (Mt ..).symm),(hT r hr).1]
 rw[dN (g:=λj=>gm m (cf r j) (sm (gp m) (gH m (bO m T) (af T)).length λi=>gm m (cf xs i) (cf ((gH m (bO m T) (af T)).getD i []) j))) λj hj=>by rw[zc m hx hj]]
 have e:=Mx hm (af T) (cf r) (cf xs) (λi=>cf ((gH m (bO m T) (af T)).getD i [])) (gH m (bO m T) (af T)).length
 unfold dt at e
 rw[e]
 refine jc (rg hm) λi hi=>?_
 have z:=fX hi []
 generalize (gH m (bO m T) (af T)).getD i []=K at z
 obtain⟨f,hf,rfl⟩:=cC.mp z
 have:=bY.dt hm (R:=bO m T) (n:=af T) (y:=cf (eY m (bO m T) (af T) f)) (λi hi=>Mz hm iR I hf hi) s
 unfold dt at this
 rw[this,fV m _ h0]
end
end L3
namespace L3
open PySem L2 Mf
section
variable{m:Bool × Nat}
end
end L3
namespace L2
open PySem PySem.Spec PyProof.Rows
section
variable{X:Cx}{CX:dm}{k:Nat}{f C:Addr}{fd:FuncData}{ps:List Str}{sp:Sp}{E:XK}{x m:Str}{p pos apos:Pos}{e:Expr}{es:List Expr}{t:TA}
noncomputable def Ya(sp:Sp)(E:XK)(t:TA):TE:=λσ H Q=>t σ H λvs H1=>sp vs H1 Q E
theorem Yb{pl:Sem Bool}(M:rJ X.K C m f)(F:aQ X.prog X.w X.K X.mg X.base CX k f fd ps sp)(hr:bM k X.A)(hb:Binds X.K fd ps [])(hx:iV CX X E)(hg:Gl X x)(hm:X.mg x=some (.ref C))(ha:PA X (e::es) t)
  (cW:(x==("__debug__":Str))=false:=by decide) (cq:starEach (e::es) X.env=(false,eval e X.env)::starEach es X.env:=by rfl) (bD:(backTo pos (starEach es X.env)).any (·.1)=false:=by rfl)
  (ht:eval (.Call (.Attribute (.Name x p) m apos) (e::es) [] pos) X.env=(do
   let ov<-eval (.Name x p) X.env
   standAt apos.atName
   let (f,first)<-holding [ov] (getMethod ov m pl)
   callWith pos f first (backTo pos (starEach (e::es) X.env)) (backToKw pos (keywordEach [] X.env))):=by rfl) :
  PE X (.Call (.Attribute (.Name x p) m apos) (e::es) [] pos) (Ya sp E t):=by
 intro pins s σ H Q I h
 exact Lo (pl:=pl) I M hg hm ha h (λus s1 vs H1 I1 r q=>pS (dD:=[]) F hr hb .nil hx I1 r (by rw[e7];exact q)) cW cq bD ht
end
end L2
namespace L3
open PySem L2 PySem.Spec PyProof.Rows
end L3
namespace L3
open PySem L2 PySem.Spec PyProof.Rows
noncomputable def MD(tl:List Addr)(C:Addr)(iE:List D->List Str->List D->Prop):L2.Sp:=λvs H Q _=>∃F H0 x dx bN ds ns xs,vs=.ref x::bN/\Tb tl H/\ae F H0/\H0 x=none/\ae H0 H/\H x=some (.ins C dx [])/\R F H0 ds bN []/\iE ds ns xs /\
 ∀H' ws A,bH x H H'->H' x=some (.ins C dx (ns.zip ws))->ns.length=ws.length->R F H' xs ws A->A.Nodup->(∀a∈A,H a=none)->Q .ak H'
noncomputable def rY(C:Addr)(iE:List D->List Str->List D->Prop)(ta:bX):aB:=λδ Q=>ta δ λds ag=>ds.all D.pl=true/\∃ns xs,iE ds ns xs/\Q (.obj C ns (xs.map D.sh)) ag
theorem aj.Yc{B:Bs}{F H H':Hp}{σ:L2.St}{δ:Dl}{ts:List (D × V)}{C dx x:Addr}{ns:List Str}{xs:List D}{ws:List V}{A:List Addr}(c:aj B F H σ δ ts)(hs:ae H H')(hx:H' x=some (.ins C dx (ns.zip ws)))(hl:ns.length=ws.length)
  (r1:R F H' xs ws A) (fr:∀a∈A,H a=none):ae F (L3.bc F H' A)/\aj B (L3.bc F H' A) H' σ δ ((.obj C ns (xs.map D.sh),.ref x)::ts):=by
 have c1:=c.grow hs
 have r2:=r1.bc c1.ext A (λ_ h=>h)
 have fs:ae F (L3.bc F H' A):=g5 c1.ext
 obtain⟨A',C',r',s',nd,rL⟩:=c.own
 have out:∀a,(∃ws,H a=some (.lst ws))/\F a=none->L3.bc F H' A a=none:=λa zz=>by
  obtain⟨⟨ws,h⟩,hf⟩:=zz
  rw[nK (λz=>by rw[fr a z]at h;cases h)];exact hf
 have g1:=r'.grow fs hs λa ha=>out a (r'.lists a ha)
 have g2:=s'.keep fs (eV.same hs) fJ.nil (λa ha=>out a (s'.lists a ha)) (by simp)
 refine⟨fs,nJ c1.ext,c1.b1,c1.b2.trans fs,λa ws h=>?_,A',C',?_,g2,nd,rL⟩
 ·by_cases z:a∈A
  ·exact .inr (c.b1.free (fr a z))
  ·rw[nK z]at h;exact c.b3 a ws h
 ·exact R.obj hx hl r2 g1
section
variable{X:Cx}{CX:dm}{n:Nat}{f C:Addr}{fd:FuncData}{ps:List Str}{iE:List D->List Str->List D->Prop}{E:XK}{x:Str}{p pos:Pos}{e:Expr}{es:List Expr}{t:bX}{tl:List Addr}
theorem Yd(hT:Tb tl X.iP)(M:L2.Mk X.K C f)(F:aQ X.prog X.w X.K X.mg X.base CX n f fd ps (MD tl C iE))(hr:bM (n+1) X.A)(hg:Gl X x)(hm:X.mg x=some (.ref C))(hb:Binds X.K fd ps [])(hx:iV CX X E)
  (ha:PA X (e::es) (lA t)) (cW:(x==("__debug__":Str))=false:=by decide) (he:starEach (e::es) X.env=(false,eval e X.env)::starEach es X.env:=by rfl) (bD:(backTo pos (starEach es X.env)).any (·.1)=false:=by rfl) :
  PE X (.Call (.Name x p) (e::es) [] pos) (lE (rY C iE t)):=by
 intro pins s σ H Q I zz
 obtain⟨B,F',δ,ts,Qd,c,q,k⟩:=zz
 have tb:=Cu I hT
 refine IG M F hr hg hm hb .nil hx ha cW he bD pins s σ H Q I ⟨B,F',δ,ts,_,c,q,λds ai vs F1 H1 q1 f1 h1 c1 s1=>?_⟩
 intro x dx cM dA jY
 obtain⟨hp,ns,xs,hI,hq⟩:=q1
 have sm:ae H1 (upd (upd H1 dx (.own x)) x (.ins C dx [])):=.of λb o e=>by rw[aS (dk e cM),aS (dk e dA)];exact e
 refine⟨F1,H1,x,dx,vs,ds,ns,xs,by rw[e7],vH (vH tb h1) sm,c1.ext,cM,sm,bC,s1.r hp,hI,λH' ws A vI de hl r nd fr=>⟨rfl,?_⟩⟩
 have s2:ae H1 H':=⟨λb o e n=>vI.get b o (dk e cM) (sm.get b o e n) n,λb ps e=>by
  obtain⟨m1,e1⟩:=sm.tb b ps e
  obtain⟨m2,e2⟩:=vI.tb b _ e1
  exact⟨m1++m2,by rw[e2,o6]⟩⟩
 obtain⟨fs,c2⟩:=c1.Yc s2 de hl r λa ha=>sm.free (fr a ha)
 exact k _ ai _ _ H' hq (f1.trans fs) (h1.trans s2) c2
end
section
variable{X:Cx}{e:Expr}{te:aB}{x:Str}{p pos:Pos}{i:Nat}
end
theorem bH.of0{x:Addr}{H0 H H':Hp}(h0:H0 x=none)(s:ae H0 H)(sx:bH x H H'):ae H0 H' :=
 ⟨λb o e n=>sx.get b o (λz=>by rw[z,h0]at e;cases e) (s.get b o e n) n,λb ps e=>by
  obtain⟨m1,e1⟩:=s.tb b ps e
  obtain⟨m2,e2⟩:=sx.tb b _ e1
  exact⟨m1++m2,by rw[e2,o6]⟩⟩
theorem we{F H:Hp}{v:V}{A:List Addr}{xs:List D}(r:R F H [.lst true xs] [v] A):∃p,v=.ref p:=by
 cases r
 exact⟨_,rfl⟩
theorem ME{F H F' H':Hp}:∀{l:List Int} {ws:List V} {A:List Addr},R F H (aC l) ws A->R F' H' (aC l) ws A
 | [],_,_,r=>by cases r;exact .nil
 | i::l,_,_,r=>by
  cases r with
  | int r=>exact .int (ME r)
theorem MF{F H H':Hp}:∀{G:List (List Nat)} {ws:List V} {A:List Addr},R F H (aF true G) ws A->(∀a∈A,H' a=H a)->R F H' (aF true G) ws A
 | [],_,_,r,_=>by cases r;exact .nil
 | g::G,_,_,r,h=>by
  cases r with
  | own e f x y=>exact .own (by rw[h _ eP];exact e) f (ME (l:=g.map λ(n:Nat)=>(n:Int)) x) (MF y λa ha=>h a (dJ _ (dg _ ha)))
theorem Ye{F H H':Hp}{G:List (List Nat)}{v:V}{A:List Addr}(r:R F H [.lst true (aF true G)] [v] A)(h:∀a∈A,H' a=H a):R F H' [.lst true (aF true G)] [v] A:=by
 cases r with
 | own e f x y =>
  cases y
  exact .own (by rw[h _ eP];exact e) f (MF x λa ha=>h a (dJ _ (eH _ ha))) .nil
noncomputable abbrev oR:List Str:=["field","length","check_rows","word_rows","message_places","size"]
structure Yf(K:PySem.W.Frag)(C:Addr):Prop where
 cls:cR K C
 field:bj K C "field"
 length:bj K C "length"
 Yg:bj K C "check_rows"
 Yh:bj K C "word_rows"
 MG:bj K C "message_places"
 size:bj K C "size"
end L3
namespace L3
open PySem L2 Mf
section
variable{m:Bool × Nat}
theorem Dh(hm:m∈aw){x:Nat}(hx:x<aa m):aI m 0 (aI m 0 x)=x:=X6 hm (by have:=lo1 hm;omega) hx
end
end L3
namespace L2
open PySem PySem.Spec PyProof.Rows
structure zh(K:PySem.W.Frag)(x qual:Str)(st:Stmt)(f:Addr)(fd:FuncData):Prop where
 ex:∃(oc:Value) (od:Option Addr) (dV kV doc pm:Value) (an:Option Addr) (aA ct:Value) (fG:Array (Option Value)),
  fd=PySem.W.fnOf x qual (gv st) (dY st) (aM st) dV kV doc pm an aA ct/\K.lookup f=some ⟨oc,od,.func fd,fG⟩/\PySem.W.codeIn K aA qual=true
 kp:PySem.W.keepIn K (.ref f)=true
section
variable{P:Program}{w:World}{K:PySem.W.Frag}{mg:Str->Option Value}{base:Heap}
theorem zh.ok{x qual:Str}{st:Stmt}{f:Addr}{fd:FuncData}{N ps:List Str}{k:Nat}{sp:Sp}(F:zh K x qual st f fd)(S:bq N ps (aM st))(len:∀vs H Q E,sp vs H Q E->vs.length=ps.length)
  (fg:∀(aA:Value) (A:Around) (outer:List Env) (s:Shared) (H:Hp) (vs:List V) (Q:VK) (E:XK),bM k (A.deeper (envOfC qual (aM st) s.heap.objs.size f aA))->sp vs H Q E ->
   ∃t,PSs (gu aX P w K mg base N qual (aM st) f aA A outer s H E).eI (dY st) t/\t { nx:=λ_ H'=>Q .ak H',rt:=Q } (start N vs) H):aQ P w K mg base aX (k+1) f fd ps sp:=by
 obtain⟨oc,od,dV,kV,doc,pm,an,aA,ct,fG,rfl,lk,bS⟩:=F.ex
 refine yd lk bS S len λA outer s H vs Q E hr fH=>?_
 obtain⟨t,h,q⟩:=fg aA A outer s H vs Q E hr fH
 exact⟨t,h.eI,q⟩
theorem Yi{x qual:Str}{st:Stmt}{f:Addr}{oc:Value}{od an:Option Addr}{fG:Array (Option Value)}{dV kV doc pm aA ct:Value}(l:K.lookup f=some ⟨oc,od,.func (PySem.W.fnOf x qual (gv st) (dY st) (aM st) dV kV doc pm an aA ct),fG⟩)
  (c:PySem.W.codeIn K aA qual=true) (k:PySem.W.keepIn K (.ref f)=true):zh K x qual st f (PySem.W.fnOf x qual (gv st) (dY st) (aM st) dV kV doc pm an aA ct):=⟨⟨oc,od,dV,kV,doc,pm,an,aA,ct,fG,rfl,l,c⟩,k⟩
theorem Yj{fd:FuncData}{ps:List Str}{T:Addr}{o:Obj}{items:Array Value}{n:Nat}(hd:fd.defaults=.ref T)(ho:K.lookup T=some o)(hs:o.data=.seq items n)
  (h:∀us:List Value,us.length=ps.length->∃k,bindArgs fd ⟨us,[]⟩=seqItems? fd.defaults >>= k/\k (some items)=pure (ps.zip us)):Binds K fd ps []:=λs us KX hl=>by
 rw[e7]at hl ⊢
 obtain⟨k,h1,h2⟩:=h us hl
 exact .of_defaults hd (KX _ _ ho) hs h1 h2
end
end L2
namespace L3
open PySem L2 Mf
inductive Kd
 | Yk (b:Nat) | rep | Di (e f:Nat)
structure wj(pre:List (Str × V)):Prop where
 put:∀(n:Str) (v:V) (l:List (Str × V)),n∈oR->bf n v (pre++l)=pre++bf n v l
 look:∀(n:Str) (l:List (Str × V)),n∈oR->(pre++l).lookup n=l.lookup n
 len:pre.length<=2
theorem wj.two(e f:V):wj [("extra",e),("first",f)]:=by
 have h1:∀n∈oR,("extra":Str)≠n/\("first":Str)≠n:=by decide
 refine⟨λn v l hn=>?_,λn l hn=>?_,bI 2⟩
 ·obtain⟨a,b⟩:=h1 n hn
  show bf n v (("extra",e)::("first",f)::l)=_
  rw[bf,if_neg a,bf,if_neg b];rfl
 ·obtain⟨a,b⟩:=h1 n hn
  show jP n (("extra",e)::("first",f)::l)=_
  rw[eD,beq_false_of_ne a.symm,eD,beq_false_of_ne b.symm]
theorem wj.lt{pre l:List (Str × V)}(h:wj pre)(hl:l.length<=6):(pre++l).length<1000:=by
 have:=h.len
 rw[jj];omega
section
variable{m:Bool × Nat}{G:List (List Nat)}
noncomputable def aY(m:Bool × Nat)(G:List (List Nat)):List (List Nat):=gH m (bO m G) (af G)
noncomputable def bg(m:Bool × Nat)(G:List (List Nat)):List Nat:=eA (bO m G) (af G)
noncomputable def mR(cb cp:Addr)(o:Bool)(m:Bool × Nat)(G:List (List Nat)):List D:=[fD cb cp m,.int (af G:Nat),.lst o (aF o G),.lst o (aF o (aY m G)),.lst o (aE (bg m G)),.int ((bg m G).length:Nat)]
noncomputable def zi(cb cp cc cr cs:Addr)(m:Bool × Nat)(G:List (List Nat)):Kd->D
 | .Yk b=>.obj cc ["field","length","check_rows","word_rows","message_places","size","bound"] (mR cb cp false m G++[.int (b:Nat)])
 | .rep=>.obj cr oR (mR cb cp false m G)
 | .Di e f=>.obj cs ["extra","first","field","length","check_rows","word_rows","message_places","size"] ([.int (e:Nat),.int (f:Nat)]++mR cb cp false m G)
theorem Yl(cb cp:Addr)(o:Bool)(m:Bool × Nat)(G:List (List Nat)):(mR cb cp o m G).map D.sh=mR cb cp false m G:=by
 unfold mR
 simp only[bV,iM,LV,dZ,ft,yx,<- dF,mE]
theorem Dj(cb cp cc cr cs:Addr)(m:Bool × Nat)(G:List (List Nat))(k:Kd):(zi cb cp cc cr cs m G k).sh=zi cb cp cc cr cs m G k:=by cases k<;>rfl
theorem Ym(cb cp cc cr cs:Addr)(m:Bool × Nat)(G:List (List Nat))(k:Kd):(zi cb cp cc cr cs m G k).pl=true:=by cases k<;>rfl
structure cU(m:Bool × Nat)(G:List (List Nat)):Prop where
 hm:m∈aw
 rt:RT (aa m) (af G) G
 len:G.length<=64
 Dk:af G<=64
 sz:0<(bg m G).length
theorem cU.red(h:cU m G):(∃H,RR (af G) (bO m G) H)/\RT (aa m) (af G) (bO m G):=⟨(ke h.hm h.rt).1,(ke h.hm h.rt).2.1⟩
theorem kg(m:Bool × Nat)(G:List (List Nat)):(aY m G).length=(bg m G).length:=by unfold aY bg gH;rw[bQ]
theorem Yn{j:Nat}(hj:j<(bg m G).length):(aY m G).getD j []=eY m (bO m G) (af G) ((bg m G).getD j 0):=za (eY m (bO m G) (af G)) hj 0 []
theorem MH{j:Nat}(hj:j<(bg m G).length):(bg m G).getD j 0∈eA (bO m G) (af G):=by
 rw[aV,aR hj];exact eQ hj
theorem MI(m:Bool × Nat)(G:List (List Nat)):(bg m G).Nodup:=PD _ Au
theorem Dm{j:Nat}(hj:j∈bg m G):j<af G:=bP.mp (lY.mp hj).1
theorem cU.rows(h:cU m G):RT (aa m) (af G) (aY m G):=(Dg h.hm h.rt).1
theorem cU.rV(h:cU m G):(bg m G).length<=af G:=by rw[<-kg];exact(Dg h.hm h.rt).2
noncomputable def cZ(m:Bool × Nat)(G:List (List Nat))(l:List Nat):List Nat:=oQ m l (aY m G) (af G)
theorem fY(m:Bool × Nat)(G:List (List Nat))(l:List Nat):(cZ m G l).length=af G:=Mt ..
theorem cU.Yo(h:cU m G){l:List Nat}(hl:l.length=(bg m G).length):AllLt (aa m) (cZ m G l):=XM h.hm _ (by rw[kg];exact hl)
theorem cU.word(h:cU m G){l:List Nat}(hl:l.length=(bg m G).length):∀r∈G,gd m r (cZ m G l)=0:=X9 h.hm h.rt (by rw[hl,<- kg];rfl)
theorem cU.at(h:cU m G){l:List Nat}(hl:l.length=(bg m G).length)(al:AllLt (aa m) l){j:Nat}(hj:j<(bg m G).length):cf (cZ m G l) ((bg m G).getD j 0)=cf l j:=by
 have hm:=h.hm
 have g:=rg hm
 obtain⟨⟨H,I⟩,hR⟩:=h.red
 have fr:=λ{k:Nat} (hk:k<(bg m G).length)=>(I.free hm hR _).mp (MH hk)
 unfold cZ
 rw[zc m (by rw[kg];exact hl) (fr hj).1,kg]
 have k1:∀i,i<(bg m G).length->cf ((aY m G).getD i []) ((bg m G).getD j 0)=if i=j then 1 else 0:=λi hi=>by
  rw[Yn hi]
  obtain⟨_,_,a,_,b⟩:=ze hm hR I (MH hi)
  by_cases c:i=j
  ·rw[if_pos c,<- c];exact a
  ·rw[if_neg c]
   refine b _ (λz=>c ?_) (fr hj).2
   rw[aV,aV,aR hi,aR hj]at z
   exact((List.getElem_inj (MI m G)).mp z).symm
 rw[oN g (f:=λi=>gm m (cf l i) (cf ((aY m G).getD i []) ((bg m G).getD j 0))) (j0:=j) (cI hm _ _) hj λi hi c=>by rw[k1 i hi,if_neg c,fo m _ 0,fq m _ (cw m hm)],k1 j hj,if_pos rfl,lj (dy hm al j)]
end
end L3
namespace L3
open PySem L2 PySem.Spec PyProof.Rows
section
variable{X:Cx}{scope:Scope}{tg iter elt:Expr}{ifs:List Expr}{pos:Pos}{cl:List (Str × Addr)}{ti:g6}{g:fL}{tt:eo}{te:aB}
theorem Yp{i:Nat}{x:Str}{pos' apos:Pos}(hN:X.N.Nodup)(mI:X.N[i]?=some x)(hx:L2.Loc X.env.scope x)(aq:List (Str × Nat))(bJ:List Str)(hc:X.calm=true)(hi:PI X tg iter (lI ti))
  (hg:∀C s H fp,PG (cY X scope (aq.map (·.1)++bJ) cl C s H fp) tg (lG aq.length g))
  (ht:∀C s H fp,kK (cY X scope (aq.map (·.1)++bJ) cl C s H fp) ifs (lT tt)) (he:∀C s H fp,PE (cY X scope (aq.map (·.1)++bJ) cl C s H fp) elt (lE te))
  (lF:closureFor scope X.env=pure cl) (lH:kL X cl) (lJ:∀C:Addr,kM (cellsFrom (C+1) scope.names cl) (relabel scope X.env).names) (lK:∀C:Addr,kJ X scope (cellsFrom (C+1) scope.names cl) aq)
  (gQ:scope.kind=.function) (lL:∀y∈scope.names,y.2=.local->scope.names.lookup y.1=some .local)
  (oo:swapsWith (.ListComp elt [⟨tg,iter,ifs,0⟩] scope pos) (some (.Name x pos')) apos.line X.env=pure true:=by rfl) (hf:X.fn x=true\/X.env.scope.names.lookup x=some .local:=by first | exact .inl rfl | exact .inr rfl)
  (hs:∀x,foldedSetIterable iter X.env x=pure x:=by intro _;rfl):PS X (.Assign [.Name x pos'] (.ListComp elt [⟨tg,iter,ifs,0⟩] scope pos) apos) (λEn σ H=>lE (nV ti aq bJ.length g tt te) σ H λv H'=>En.nx (σ.set i (some v)) H') :=
 iZ (XC hN mI hx hf aq bJ hc hi hg ht he lF lH lJ lK gQ lL oo hs) λEn σ H ⟨B,F,δ,ts,Qd,c,q,k⟩=>⟨B,F,δ,ts,_,c,q,λsh xs ai J F1 H1 hq f1 h1 c1 nW uH=>by
  obtain⟨p,f,hx,dz,hlen,hQ⟩:=hq
  exact Ka c1 nW uH p f hx dz hlen hQ λd ag v F' H' hd hf hs c'=>k d ag v F' H' hd (f1.trans hf) (h1.trans hs) c'⟩
end
theorem aj.self{F H:Hp}{σ:L2.St}{δ:Dl}{o:Option V}(e:ae F H)(r:RS F H δ σ []):aj ⟨H,F⟩ F H (o::σ) (none::δ) []:=⟨e,ae.refl _,ae.refl _,λ_ _ q=>.inl q,[],[],.nil,.ak r,by simp,by simp⟩
end L3
namespace L2
open PySem
theorem bL{N P:List Str}{sc:Scope}(a:sc.kind=.function:=by rfl)(b:sc.isCoroutine=false:=by rfl)(c:sc.isGenerator=false:=by rfl)(d:N.Nodup:=by decide +kernel)(e:N.take P.length=P:=by rfl)(f:∀x∈P,sc.names.lookup x=some .local\/sc.names.lookup x=some .cell:=by decide +kernel)(g:∀y∈sc.names,y.2≠.free:=by decide +kernel):bq N P sc:=⟨a,b,c,d,e,f,g⟩
end L2
namespace L2
open PySem
end L2
namespace L3
open PySem L2 Mf
section
variable{m:Bool × Nat}
structure Wd(m:Bool × Nat)(T:List (List Nat))(w:List Nat):Prop where
 ln:w.length=af T
 lt:AllLt (aa m) w
 z:∀r∈T,gd m r w=0
noncomputable def kh(n:Nat)(u v:List Nat):List Nat:=(au n).filter λj=>decide (cf u j≠cf v j)
theorem Dn{n:Nat}{u v:List Nat}{j:Nat}:j∈kh n u v↔j<n/\cf u j≠cf v j:=by unfold kh;rw[lY,bP,decide_eq_true_iff]
theorem MJ(n:Nat)(u v:List Nat):(kh n u v).Nodup:=Au.filter _
noncomputable def rZ(m:Bool × Nat)(T:List (List Nat))(d:Nat):Prop:=∀u v,Wd m T u->Wd m T v->u≠v->d<=(kh (af T) u v).length
theorem Yq(hm:m∈aw){T:List (List Nat)}{d:Nat}(hT:RT (aa m) (af T) T)(hD:∀S,Dc (af T) S->S.length<d->MB m (wb T) S):rZ m T d:=λu v hu hv hn=>by
 have g:=rg hm
 have h0:=cw m hm
 refine Hw λfh=>hn ?_
 have mem:=λj=>Dn (n:=af T) (u:=u) (v:=v) (j:=j)
 have nd:=MJ (af T) u v
 have ic:Dc (af T) (kh (af T) u v):=⟨List.pairwise_lt_range.filter _,λx hx=>((mem x).mp hx).1⟩
 generalize kh (af T) u v=ps at mem nd ic fh
 have I:=hD ps ic fh (λt=>aI m (cf u (ps.getD t 0)) (cf v (ps.getD t 0))) (λt=>(gF hm (dy hm hu.lt _) (dy hm hv.lt _)).2.1) λk=>by
  by_cases hk:k<T.length
  ·have hr:=fX hk []
   have s:=X7 hm hu.lt hv.lt (hT _ hr).1 hu.ln hv.ln nd (λp hp=>((mem p).mp hp).1) λj hj hn=>PH λz=>hn ((mem j).mpr ⟨hj,z⟩)
   rw[hu.z _ hr,hv.z _ hr,oI (vT g λ_ _=>cI hm _ _)]at s
   exact Eq.trans (dN λt _=>fo m _ _) s.symm
  ·refine jc g λt _=>?_
   show gm m _ (cf (T.getD k []) _)=0
   rw[aV,ie (by omega)]
   exact fV m _ h0
 refine oO hu.ln hv.ln λj hj=>PH λz=>?_
 obtain⟨t,ht,e⟩:=jm ((mem j).mpr ⟨hj,z⟩)
 have e2:ps.getD t 0=j:=by rw[aV,aR ht];exact e
 have:=I t ht
 rw[e2]at this
 exact X5 hm (dy hm hu.lt _) (dy hm hv.lt _) z this
theorem ki(n j:Nat):cf (aK n 0) j=0:=by
 unfold cf
 rw[aV,w9]
 split<;>rfl
theorem Dq(hm:m∈aw){T:List (List Nat)}(hT:RT (aa m) (af T) T):Wd m T (aK (af T) 0):=by
 have dX:=lo1 hm
 refine⟨fA ..,λa ha=>by rw[(xj.mp ha).2];omega,λr hr=>?_⟩
 rw[rU m (by rw[(hT r hr).1,fA])]
 exact jc (rg hm) λj _=>by rw[ki];exact fV m _ (cw m hm)
theorem MK(hm:m∈aw){a b x:Nat}(ha:a<aa m)(hb:b<aa m)(hx:x<aa m)(h:gp m a x=gp m b x):a=b:=by
 have g:=rg hm
 obtain⟨y,hy⟩:∃y,gp m x y=0:=⟨_,by rw[vP];exact(wc hm hx).2⟩
 have e:=congrArg (λz=>gp m z y) h
 rw[g.pa,g.pa,hy,oI ha,oI hb]at e
 exact e
theorem ML(hm:m∈aw){f n e:Nat}(hn:n+1<=aa m):De m e n (λj=>eS m (j:Int)) (λj=>eS m ((f:Int)*(j:Int))) (dO m f (au n) e) where
 rt:=by have:=(zf hm f (au n) e).1;rw[cK]at this;exact this
 l:=(zf hm f (au n) e).2
 xl:=λj=>CM hm _
 xd:=λi j hi hj h=>X0 hm (by omega) (by omega) h
 yl:=λj=>CM hm _
 y0:=λj _=>by have:=(ly hm ((f:Int)*(j:Int))).1;omega
 at_:=λi hi=>⟨i,hi,λj hj=>by
  unfold wb
  rw[XZ hi,L4 hm,CN hm]
  show cf ((au n).map λ(p:Nat)=>eS m (((f:Int)+(i:Int))*(p:Int))) j=_
  rw[v9 _ hj,HX,Int.mul_comm (j:Int)]⟩
theorem Yr(hm:m∈aw){f n e:Nat}(hn:n+1<=aa m)(hw:af (dO m f (au n) e)=n):rZ m (dO m f (au n) e) (e+1) :=
 Yq hm (by rw[hw];exact(ML hm hn).rt) λS hS hl=>(ML hm hn).ind hm (by rw[hw]at hS;exact hS) (by omega)
variable{G:List (List Nat)}
theorem cU.wd(h:cU m G){l:List Nat}(hl:l.length=(bg m G).length):Wd m G (cZ m G l):=⟨fY ..,h.Yo hl,h.word hl⟩
theorem cU.MM(h:cU m G){d:Nat}(hd:rZ m G d):d+(bg m G).length<=af G+1:=by
 have hm:=h.hm
 have dX:=lo1 hm
 have hz:=h.sz
 have l1:(1::aK ((bg m G).length-1) 0).length=(bg m G).length:=by rw[fw,fA];omega
 have a1:AllLt (aa m) (1::aK ((bg m G).length-1) 0):=λa ha=>by
  rcases bR.mp ha with q | q
  ·omega
  ·rw[(xj.mp q).2];omega
 have w:=h.wd l1
 have at_:=λ{j:Nat} (hj:j<(bg m G).length)=>h.at l1 a1 hj
 have:=hd _ _ w (Dq hm h.rt) λz=>by
  have e:=at_ hz
  rw[z,ki]at e
  exact absurd e (by show ¬ (0=1);decide)
 have k:=Df (l:=kh (af G) (cZ m G (1::aK ((bg m G).length-1) 0)) (aK (af G) 0)++(bg m G).drop 1) (l':=au (af G)) ?_ ?_
 ·rw[jj,pf,cK]at k
  omega
 ·refine List.nodup_append.mpr ⟨MJ ..,(MI m G).sublist (List.drop_sublist ..),λa ha b hb z=>?_⟩
  subst z
  obtain⟨k,hk,e⟩:=jm hb
  rw[pf]at hk
  rw[List.getElem_drop]at e
  have ek:=at_ (show 1+k<(bg m G).length by omega)
  rw[show(bg m G).getD (1+k) 0=a by rw[aV,aR (by omega)];exact e]at ek
  refine(Dn.mp ha).2 ?_
  rw[ek,ki]
  unfold cf
  rw[sX,List.getD_cons_succ]
  exact ki _ _
 ·intro a ha
  rcases cB.mp ha with q | q
  ·exact bP.mpr (Dn.mp q).1
  ·exact bP.mpr (Dm (xk q))
theorem Ys{a b:List Nat}{f:Nat->Nat->Nat}{k:Nat}(ha:k<a.length)(hb:k<b.length):cf (eR f a b) k=f (cf a k) (cf b k):=by
 unfold cf
 rw[aV,xp,aV,aV,aR ha,aR hb];rfl
end
end L3
namespace L2
open PySem PySem.Spec PyProof.Rows
noncomputable def Yt:V->V->Hp->VK->Prop:=λo i H Q=>∃p xs k v,o=.ref p/\i=.int k/\H p=some (.lst xs)/\0<=k/\xs[k.toNat]?=some v/\Q v H
theorem Yu{X:Cx}:Iq X Yt:=by
 intro pins s σ H o i ov iv Q I ro ri h
 obtain⟨p,xs,k,z,rfl,rfl,hp,h0,he,q⟩:=h
 cases ro
 obtain⟨t,rfl⟩:=ri
 obtain⟨its,r,pl,hz⟩:=I.list (bz.of hp)
 obtain⟨w,ew,dW⟩:=r.get he
 have hn:=nt
 have hl:=r.length
 have hk:=(ji.mp he).1
 exact wpAny_getItem_list pl.isList h0 (by omega) (by simpa using ew) ⟨z,H,I,dW,q⟩
end L2
namespace L3
open PySem L2 PySem.Spec PyProof.Rows
section
variable{X:Cx}{i:Nat}{x:Str}{p pos jx:Pos}{b e:Expr}{ti te:aB}
noncomputable def se(i:Nat)(ti:aB)(n:Int):b9:=λEn δ=>(∃xs,δ[i]?=some (some (.lst true xs)))/\ti δ λkd ai=>match kd with
 | .int k=>∃xs z,ai[i]?=some (some (.lst true xs))/\0<=k/\xs[k.toNat]?=some (.int z)/\En.nx (ai.set i (some (.lst true (xs.set k.toNat (.int (z+n))))))
 | _=>False
theorem Yv{n:Int}(hN:X.N[i]?=some x)(hv:ju X.env.scope x)(hi:PE X b (lB ti))(he:PE X e (tC (.int n)))(hd:(x==("__debug__":Str))=false:=by decide)(bS:(x==("__classdict__":Str))=false:=by decide)
  (ha:∀ov iv new,augStore b ov iv new=(do holding [new,ov,iv] (setItem ov iv new);release [new,ov,iv] [];pure .next):=by intros;rfl) :
  PS X (.AugAssign (.Subscript (.Name x p) b jx) .Add e pos) (lS X (se i ti n)) :=
 iZ (QP (mh hN hv hd bS) hi Yu he QR IW ha) λEn σ H zz=>by
  obtain⟨B,F,δ,Dd,c,⟨⟨ys,ey⟩,q⟩,k1,k2,k3,k4⟩:=zz
  obtain⟨p0,uw,g1,g2,g3⟩:=c.ownAt ey
  refine⟨.ref p0,g1,B,F,δ,[],_,c,q,λkd ai kv F1 H1 hk f1 h1 c1 s1=>?_⟩
  have st:=s1
  split at hk
  ·rename_i k
   obtain⟨xs,z,ex,h0,ez,hn⟩:=hk
   cases st
   obtain⟨v,ev,sv⟩:=c1.look ex
   rw[g1]at ev;cases ev
   obtain⟨p1,ws,e1,e2,sw⟩:=fM sv c1.ext
   cases e1
   obtain⟨w,ew,s2⟩:=sw.get ez
   cases s2
   have hk:=(ji.mp ew).1
   refine⟨p0,ws,k,.int z,rfl,rfl,e2,h0,ew,z,n,rfl,rfl,p0,ws,k,k.toNat,rfl,rfl,e2,?_,k1 _ _ F1 _ hn (aj.JZ (c1.pushS (d:=.int (z+n)) (.int .nil) rfl) ex g1 e2 k.toNat)⟩
   unfold gR
   rw[if_pos h0,if_pos (by omega)]
  ·exact hk.elim
noncomputable def si(i:Nat)(t:aB):b9:=λEn δ=>(∃xs,δ[i]?=some (some (.lst true xs)))/\t δ λd ag=>∃zs xs,d=.lst true zs/\ag[i]?=some (some (.lst true xs))/\xs.length+zs.length<=sizeLine/\En.nx (ag.set i (some (.lst true (xs++zs))))
theorem Yw{t:aB}{apos br:Pos}(hN:X.N[i]?=some x)(hv:ju X.env.scope x)(he:PE X e (lE t))(hd:(x==("__debug__":Str))=false:=by decide)(bS:(x==("__classdict__":Str))=false:=by decide)
  (ir:attributeBase (.Name x p) "extend" X.env (eval (.Name x p) X.env)=eval (.Name x p) X.env:=by rfl)
  (nB:((backTo br (starEach [e] X.env)).all (λx=>!x.1)&&(backToKw br (keywordEach [] X.env)).all (λx=>x.1.isSome)
   && decide ([e].length+([]:List Keyword).length+(if([]:List Keyword).isEmpty then 0 else 1)<30))=true:=by rfl)
  (iu:(apos.endLine==br.line)=true:=by rfl) (hs:starEach [e] X.env=(false,eval e X.env)::starEach [] X.env:=by rfl) (nC:(backTo br (starEach [] X.env)).any (·.1)=false:=by rfl)
  (oo:swapsWith (.Call (.Attribute (.Name x p) "extend" apos) [e] [] br) none pos.line X.env=pure false:=by rfl) :
  PS X (.Expr (.Call (.Attribute (.Name x p) "extend" apos) [e] [] br) pos) (lS X (si i t)) :=
 iZ (tR (Bg PySem.F.plainAttrs_list PySem.F.slot_list_extend PySem.F.type_list_extend SH (mh hN hv hd bS) (cn he dU hs) ir nB iu hs nC) oo) λEn σ H zz=>by
  obtain⟨B,F,δ,Dd,c,⟨⟨ys,ey⟩,q⟩,k1,k2,k3,k4⟩:=zz
  obtain⟨p0,uw,g1,g2,g3⟩:=c.ownAt ey
  refine⟨.ref p0,g1,.inl ⟨rfl,_,bz.of g2⟩,B,F,δ,[],_,c,q,λd ag v F' H' hd sf sh c'=>?_⟩
  obtain⟨zs,xs,rfl,ex,hl,hn⟩:=hd
  obtain⟨p1,ws,r1,r2,r3⟩:=c'.ownAt ex
  rw[g1]at r1;cases r1
  obtain⟨p2,us,rfl,e2,t2⟩:=fM c'.top c'.ext
  refine⟨p0,p2,ws,us,rfl,rfl,r2,e2,by rw[<-r3,<- t2.length];exact hl,k1 _ _ F' _ hn ?_⟩
  exact aj.mut (ps:=[(.lst true zs,.ref p2)]) c' ex g1 λeJ A1 A2 h r1 Dr nd=>by
   rw[r2]at h;cases h
   have Dr:R F' H' [.lst true zs] [.ref p2] A2:=Dr
   cases Dr with
   | @own _ n6 _ Az _ _ Bz hH hF hx hr =>
    cases hr
    rw[e2]at hH;cases hH
    rw[e7]at nd ⊢
    have sl:(A1++Az).Sublist (A1++p2::Az):=(HS p2 Az).append_left A1
    exact⟨A1++Az,r1.append hx,nd.sublist sl,λa ha=>sl.subset ha⟩
end
end L3
namespace L3
noncomputable def ch:Nat->Nat->Int
 | _,0=>1
 | 0,_+1=>0
 | n+1,k+1=>ch n k+ch n (k+1)
theorem sj(n:Nat):ch n 0=1:=by cases n<;>rfl
theorem oS(n k:Nat):ch (n+1) (k+1)=ch n k+ch n (k+1):=rfl
theorem Ds:∀(n k:Nat),n<k->ch n k=0
 | 0,k+1,_=>rfl
 | n+1,k+1,h=>by rw[oS,Ds n k (by omega),Ds n (k+1) (by omega)];rfl
theorem wk:∀n:Nat,ch n n=1
 | 0=>rfl
 | n+1=>by rw[oS,wk n,Ds n (n+1) (by omega)];rfl
theorem zj:∀n k:Nat,ch n (k+1)*((k:Int)+1)=ch n k*((n:Int)-k)
 | 0,0=>by simp[ch]
 | 0,k+1=>by simp[ch]
 | n+1,0=>by
  have:=zj n 0
  rw[oS,sj,sj]
  rw[sj]at this
  simp at this ⊢
  omega
 | n+1,k+1=>by
  have h1:=zj n k
  have h2:=zj n (k+1)
  rw[oS n (k+1),oS n k]
  have e1:(ch n (k+1)+ch n (k+1+1))*(((k+1:Nat):Int)+1)=ch n (k+1)*((k:Int)+1)+ch n (k+1)+ch n (k+1+1)*(((k+1:Nat):Int)+1):=by
   rw[HX,show(((k+1:Nat):Int)+1)=(k:Int)+1+1 by omega,Int.mul_add (ch n (k+1)) ((k:Int)+1) 1,w4]
  rw[e1,h1,h2]
  have e2:ch n (k+1)*((n:Int)-((k+1:Nat):Int))=ch n (k+1)*((n:Int)-k)-ch n (k+1):=by
   rw[show((n:Int)-((k+1:Nat):Int))=((n:Int)-k)-1 by omega,HY,w4]
  have e3:(((n+1:Nat):Int)-((k+1:Nat):Int))=(n:Int)-k:=by omega
  rw[e2,e3,HX]
  omega
theorem MN:∀n:Nat,ch n 1=n
 | 0=>rfl
 | n+1=>by rw[oS,sj,MN n];omega
theorem Dt:∀n:Nat,ch (n+1) n=(n:Int)+1
 | 0=>rfl
 | n+1=>by rw[oS,Dt n,wk];omega
end L3
namespace L3
open PySem L2 Mf
section
variable{m:Bool × Nat}
noncomputable def eB(m:Bool × Nat)(w:List Nat)(a:Nat)(r:List Nat):List Nat:=eR (λx y=>aI m x (gm m a y)) w r
noncomputable def hW(m:Bool × Nat)(ws:List (List Nat))(r:List Nat)(n:Nat):List (List Nat):=((au n).map λa=>ws.map λw=>eB m w a r).flatten
noncomputable def cy(m:Bool × Nat)(n:Nat)(R:List (List Nat)):List (List Nat):=R.foldl (λws r=>hW m ws r (aa m)) [aK n 0]
noncomputable def cg(w:List Nat):Nat:=w.length-w.count 0
noncomputable def iH(n:Nat)(ws:List (List Nat)):List Nat:=(au (n+1)).map λj=>ws.countP λw=>cg w==j
theorem zk:∀w:List Nat,w.count 0=(au w.length).countP λp=>cf w p==0
 | []=>rfl
 | a::w=>by
  rw[fw,HG,xv,Aw,HZ,zk w]
  rfl
theorem wm{n a:Nat}(h:a<n){P:Nat->Bool}(hP:∀x,x<n->(P x=true↔x=a)):(au n).countP P=1:=by
 rw[xw (q:=λx=>x==a) λx hx=>by rw[hP x (bP.mp hx),beq_iff_eq]]
 exact Au.count (a:=a) |>.trans (if_pos (bP.mpr h))
theorem Yx{n:Nat}{P:Nat->Bool}(hP:∀x,x<n->P x=true):(au n).countP P=n :=
 (List.countP_eq_length.mpr λx hx=>hP x (bP.mp hx)).trans cK
theorem Du{n:Nat}{P:Nat->Bool}(hP:∀x,x<n->P x=false):(au n).countP P=0 :=
 List.countP_eq_zero.mpr λx hx=>by rw[hP x (bP.mp hx)];decide
theorem MP{n:Nat}:∀{W:List (List Nat)},(∀w∈W,w.length=n)->(W.map λw=>w.count 0).sum=((au n).map λp=>W.countP λw=>cf w p==0).sum
 | [],_=>by rw[iM,List.sum_nil];exact((show ∀l:List Nat,(l.map λ_=>0).sum=0 from λl=>by induction l with | nil=>rfl | cons a l ih=>rw[bV,kA,ih]) (au n)).symm
 | w::W,h=>by
  have ad:∀(l:List Nat) (f g:Nat->Nat),(l.map λp=>f p+g p).sum=(l.map f).sum+(l.map g).sum:=λl f g=>by
   induction l with
   | nil=>rfl
   | cons a l ih=>rw[bV,bV,bV,kA,kA,kA,ih];omega
  have cp:∀(l:List Nat) (P:Nat->Bool),(l.map λp=>if P p=true then 1 else 0).sum=l.countP P:=λl P=>by
   induction l with
   | nil=>rfl
   | cons a l ih=>rw[bV,kA,ih,xv];omega
  rw[bV,kA,MP λv hv=>h v (dJ _ hv),zk,h w (eP ..),<- cp]
  rw[<-ad]
  refine congrArg List.sum (gk λp _=>?_)
  rw[xv];omega
theorem MQ{n:Nat}(hn:3<=n):∀{W:List (List Nat)},(∀w∈W,w.length=n/\(w.count 0=n\/w.count 0<=1))->(W.map λw=>w.count 0).sum=n*W.countP (λw=>cg w==0)+W.countP (λw=>cg w==n-1)/\W.length=W.countP (λw=>cg w==0)+W.countP (λw=>cg w==n-1)+W.countP (λw=>cg w==n)/\∀j,j≠0->j≠n-1->j≠n->W.countP (λw=>cg w==j)=0
 | [],_=>⟨by simp,rfl,λ_ _ _ _=>rfl⟩
 | w::W,h=>by
  obtain⟨a,b,c⟩:=MQ hn λv hv=>h v (dJ _ hv)
  obtain⟨l,z⟩:=h w (eP ..)
  have e:∀j,(cg w==j)=decide (n-w.count 0=j):=λj=>by unfold cg;rw[l];rfl
  simp only[bV,kA,xv,fw,e,decide_eq_true_eq]
  have z3:w.count 0=n\/w.count 0=1\/w.count 0=0:=by omega
  refine⟨?_,?_,λj j1 j2 j3=>by rw[c j j1 j2 j3,if_neg (by omega)]⟩
  ·rw[a,Nat.mul_add]
   rcases z3 with q | q | q
   ·rw[q,if_pos (by omega),if_neg (by omega)];omega
   ·rw[q,if_neg (by omega),if_pos (by omega)];omega
   ·rw[q,if_neg (by omega),if_neg (by omega)];omega
  ·rw[b]
   rcases z3 with q | q | q
   ·rw[q,if_pos (by omega),if_neg (by omega),if_neg (by omega)];omega
   ·rw[q,if_neg (by omega),if_pos (by omega),if_neg (by omega)];omega
   ·rw[q,if_neg (by omega),if_neg (by omega),if_pos (by omega)];omega
theorem je(hm:m∈aw){a:Nat}(ha:a<aa m):aI m 0 a<aa m:=(wc hm ha).1
theorem MR(hm:m∈aw){x a y:Nat}(hx:x<aa m)(ha:a<aa m)(hy:y<aa m):aI m x (gm m a y)=gp m x (gm m (aI m 0 a) y):=by
 have g:=rg hm
 have h0:=cw m hm
 obtain⟨_,b,c⟩:=gF hm hx (cI hm a y)
 refine MK hm b (LW hm hx (cI hm _ _)) (cI hm a y) (c.trans ?_)
 rw[g.pa,<- g.dr,(wc hm ha).2,fq m _ h0,oI hx]
variable{G:List (List Nat)}
theorem wo(h:cU m G){r1 r2:List Nat}(e:aY m G=[r1,r2]){c1 c2 p:Nat}(hp:p<af G):cf (cZ m G [c1,c2]) p=gp m (gm m c1 (cf r1 p)) (gm m c2 (cf r2 p)):=by
 unfold cZ
 rw[zc m (by rw[e];rfl) hp,e]
 show gp m (gp m 0 (gm m c1 (cf r1 p))) (gm m c2 (cf r2 p))=_
 rw[i9 (cI h.hm _ _)]
theorem MS(h:cU m G){r1:List Nat}(e:aY m G=[r1]){c1 p:Nat}(hp:p<af G):cf (cZ m G [c1]) p=gm m c1 (cf r1 p):=by
 unfold cZ
 rw[zc m (by rw[e];rfl) hp,e]
 show gp m 0 (gm m c1 (cf r1 p))=_
 rw[i9 (cI h.hm _ _)]
theorem MT{w r:List Nat}{n a p:Nat}(hw:w.length=n)(hr:r.length=n)(hp:p<n):cf (eB m w a r) p=aI m (cf w p) (gm m a (cf r p)):=Ys (by omega) (by omega)
theorem Dv{w r:List Nat}{n:Nat}(hw:w.length=n)(hr:r.length=n)(a:Nat):(eB m w a r).length=n:=by unfold eB;rw[pH,hw,hr,s8]
theorem MU(h:cU m G){r:List Nat}(hr:r∈aY m G){a p:Nat}(ha:a<aa m)(hp:p<af G):cf (eB m (aK (af G) 0) a r) p=gm m (aI m 0 a) (cf r p):=by
 have hm:=h.hm
 have dX:=lo1 hm
 have r1:=h.rows r hr
 rw[MT (fA ..) r1.1 hp,ki,MR hm (by omega) ha (dy hm r1.2 p),i9 (cI hm _ _)]
theorem Yy(h:cU m G){r1:List Nat}(e:aY m G=[r1]):cy m (af G) (aY m G)=(au (aa m)).map λa=>cZ m G [aI m 0 a]:=by
 have hr:r1∈aY m G:=by rw[e];exact eP ..
 rw[e]
 show((au (aa m)).map λa=>[eB m (aK (af G) 0) a r1]).flatten=_
 rw[show((au (aa m)).map λa=>[eB m (aK (af G) 0) a r1])=((au (aa m)).map λa=>eB m (aK (af G) 0) a r1).map λw=>[w] by rw[cV];rfl,show ∀l:List (List Nat),(l.map λw=>[w]).flatten=l from λl=>by induction l with | nil=>rfl | cons a l ih=>rw[bV,l6,ih];rfl]
 refine gk λa ha=>?_
 have ha:=bP.mp ha
 exact oO (Dv (fA ..) (h.rows r1 hr).1 a) (fY ..) λp hp=>by rw[MU h hr ha hp,MS h e hp]
theorem zo(h:cU m G){r1 r2:List Nat}(e:aY m G=[r1,r2]):cy m (af G) (aY m G)=((au (aa m)).map λb=>(au (aa m)).map λa=>cZ m G [aI m 0 a,aI m 0 b]).flatten:=by
 have hm:=h.hm
 have h1:r1∈aY m G:=by rw[e];exact eP ..
 have h2:r2∈aY m G:=by rw[e];exact dJ _ (eP ..)
 rw[e]
 show((au (aa m)).map λb=>(hW m [aK (af G) 0] r1 (aa m)).map λw=>eB m w b r2).flatten=_
 refine congrArg _ (gk λb hb=>?_)
 have hb:=bP.mp hb
 rw[show hW m [aK (af G) 0] r1 (aa m)=(au (aa m)).map λa=>eB m (aK (af G) 0) a r1 by
  show((au (aa m)).map λa=>[eB m (aK (af G) 0) a r1]).flatten=_
  rw[show((au (aa m)).map λa=>[eB m (aK (af G) 0) a r1])=((au (aa m)).map λa=>eB m (aK (af G) 0) a r1).map λw=>[w] by rw[cV];rfl]
  exact(show ∀l:List (List Nat),(l.map λw=>[w]).flatten=l from λl=>by induction l with | nil=>rfl | cons a l ih=>rw[bV,l6,ih];rfl) _,cV]
 refine gk λa ha=>?_
 have ha:=bP.mp ha
 have l1:=Dv (m:=m) (fA (n:=af G) (a:=0)) (h.rows r1 h1).1 a
 show eB m (eB m (aK (af G) 0) a r1) b r2=_
 refine oO (Dv l1 (h.rows r2 h2).1 b) (fY ..) λp hp=>?_
 rw[MT l1 (h.rows r2 h2).1 hp,MU h h1 ha hp,MR hm (cI hm _ _) hb (dy hm (h.rows r2 h2).2 p),wo h e hp]
theorem MV{w:List Nat}{n d:Nat}(hw:w.length=n)(h:d<=(kh n w (aK n 0)).length):w.count 0+d<=n:=by
 have e:=HW (λp=>cf w p==0) (l:=au n)
 rw[cK]at e
 rw[zk,hw]
 have:(kh n w (aK n 0)).length=(au n).countP λp=>¬ (cf w p==0)=true:=by
  unfold kh
  rw[<-Av]
  refine xw λp _=>?_
  rw[ki]
  simp
 omega
theorem Yz{w:List Nat}{p p':Nat}(hp:p<w.length)(uK:p'<w.length)(ne:p≠p')(e:cf w p=0)(e':cf w p'=0):2<=w.count 0:=by
 rw[zk,Av]
 refine Df (l:=[p,p']) (by simp[ne]) λa ha=>lY.mpr ⟨?_,?_⟩
 ·simp only[bR,gj,or_false]at ha
  exact bP.mpr (by omega)
 ·simp only[bR,gj,or_false]at ha
  rcases ha with rfl | rfl<;>simp[e,e']
theorem sk(hm:m∈aw){a:Nat}(ha:a<aa m):aI m 0 a=0↔a=0:=by
 have dX:=lo1 hm
 constructor
 ·intro h
  have:=Dh hm ha
  rw[h,rT]at this
  exact this.symm
 ·intro h;rw[h,rT]
theorem MW(l:List Nat)(P:Nat->Bool):(l.map λp=>if P p=true then 1 else 0).sum=l.countP P:=by
 induction l with
 | nil=>rfl
 | cons a l ih=>rw[bV,kA,ih,xv];omega
theorem Dw(n q:Nat):((au n).map λ_=>q).sum=n*q:=by
 induction n with
 | zero=>rw[xn];rfl
 | succ n ih=>rw[Ap,jo,List.sum_append,ih,An,tw];rfl
theorem Dx{w:List Nat}{n:Nat}(hw:w.length=n):w.count 0=n↔w=aK n 0:=by
 rw[<-hw]
 refine⟨λh=>PJ.mpr ⟨rfl,λb hb=>(List.count_eq_length.mp h b hb).symm⟩,λh=>?_⟩
 rw[h,List.count_replicate_self,fA]
theorem YA{l:List (List Nat)}(h:l.length=2):∃a b,l=[a,b]:=by
 cases l with
 | nil=>cases h
 | cons a l =>
  cases l with
  | nil=>cases h
  | cons b l =>
   cases l with
   | nil=>exact⟨a,b,rfl⟩
   | cons c l=>simp at h
theorem YB{l:List (List Nat)}(h:l.length=1):∃a,l=[a]:=by
 cases l with
 | nil=>cases h
 | cons a l =>
  cases l with
  | nil=>exact⟨a,rfl⟩
  | cons b l=>simp at h
theorem YC(h:cU m G)(h2:2<=af G)(hd:rZ m G (af G))(h1:(bg m G).length=1):(cy m (af G) (aY m G)).countP (λw=>cg w==0)=1/\(cy m (af G) (aY m G)).countP (λw=>cg w==af G)+1=aa m/\∀j,j≠0->j≠af G->(cy m (af G) (aY m G)).countP (λw=>cg w==j)=0:=by
 have hm:=h.hm
 have dX:=lo1 hm
 have h0:=cw m hm
 obtain⟨r1,e⟩:=YB ((kg m G).trans h1)
 have wg:∀a,a<aa m->cg (cZ m G [aI m 0 a])=if a=0 then 0 else af G:=λa ha=>by
  have hn:=je hm ha
  have al:AllLt (aa m) [aI m 0 a]:=λx hx=>by rw[jl.mp hx];exact hn
  unfold cg
  rw[fY]
  by_cases z:a=0
  ·rw[if_pos z,(Dx (fY m G [aI m 0 a])).mpr (oO (fY ..) (fA ..) λp hp=>by rw[MS h e hp,(sk hm ha).mpr z,fq m _ h0,ki]),Nat.sub_self]
  ·rw[if_neg z]
   have:=MV (fY m G _) (hd _ _ (h.wd (l:=[aI m 0 a]) h1.symm) (Dq hm h.rt) λk=>z ((sk hm ha).mp ?_))
   ·omega
   ·have e0:=h.at (l:=[aI m 0 a]) h1.symm al (j:=0) (by omega)
    rw[k,ki]at e0
    exact e0.symm
 have cj:∀j,(cy m (af G) (aY m G)).countP (λw=>cg w==j)=(au (aa m)).countP λa=>(if a=0 then 0 else af G)==j:=λj=>by
  rw[Yy h e,Aw]
  exact xw λa ha=>by
   show(cg (cZ m G [aI m 0 a])==j)=true↔_
   rw[wg a (bP.mp ha)]
 have c0:(au (aa m)).countP (λa=>(if a=0 then 0 else af G)==0)=1:=wm (a:=0) (by omega) λx _=>by
  rw[beq_iff_eq]
  by_cases z:x=0
  ·rw[if_pos z];exact⟨λ_=>z,λ_=>rfl⟩
  ·rw[if_neg z];exact⟨λk=>by omega,λk=>absurd k z⟩
 refine⟨(cj 0).trans c0,?_,λj j0 jn=>(cj j).trans (Du λx _=>beq_false_of_ne ?_)⟩
 ·have:=HW (λa=>(if a=0 then 0 else af G)==0) (l:=au (aa m))
  rw[cK,c0,xw (p:=λa=>¬ ((if a=0 then 0 else af G)==0)=true) (q:=λa=>(if a=0 then 0 else af G)==af G) λx _=>by
   by_cases z:x=0
   ·rw[if_pos z];simp;omega
   ·rw[if_neg z];simp;omega,<- cj]at this
  omega
 ·split<;>omega
theorem YD(h:cU m G)(h3:3<=af G)(hd:rZ m G (af G-1))(h2:(bg m G).length=2):(cy m (af G) (aY m G)).countP (λw=>cg w==0)=1/\(cy m (af G) (aY m G)).countP (λw=>cg w==af G-1)+af G=af G*aa m/\(cy m (af G) (aY m G)).countP (λw=>cg w==af G)+(cy m (af G) (aY m G)).countP (λw=>cg w==af G-1)+1=aa m*aa m/\∀j,j≠0->j≠af G-1->j≠af G->(cy m (af G) (aY m G)).countP (λw=>cg w==j)=0:=by
 have hm:=h.hm
 have dX:=lo1 hm
 have g:=rg hm
 have h0:=cw m hm
 obtain⟨r1,r2,e⟩:∃r1 r2,aY m G=[r1,r2]:=by
  have:=kg m G
  rw[h2]at this
  exact YA this
 have two:∀c1 c2,([c1,c2]:List Nat).length=(bg m G).length:=λ_ _=>h2.symm
 have al:∀{c1 c2},c1<aa m->c2<aa m->AllLt (aa m) [c1,c2]:=λa b x hx=>by
  simp only[bR,gj,or_false]at hx
  rcases hx with rfl | rfl
  ·exact a
  ·exact b
 have YE:∀{c1 c2},c1<aa m->c2<aa m->cf (cZ m G [c1,c2]) ((bg m G).getD 0 0)=c1:=λa b=>h.at (two _ _) (al a b) (by omega)
 have Dy:∀{c1 c2},c1<aa m->c2<aa m->cf (cZ m G [c1,c2]) ((bg m G).getD 1 0)=c2:=λa b=>h.at (two _ _) (al a b) (by omega)
 have z0:∀{c1 c2},c1<aa m->c2<aa m->(cZ m G [c1,c2]=aK (af G) 0↔c1=0/\c2=0):=λ{c1 c2} a b=>by
  constructor
  ·intro z
   have e0:=YE a b
   have e1:=Dy a b
   rw[z,ki]at e0 e1
   exact⟨e0.symm,e1.symm⟩
  ·rintro⟨rfl,rfl⟩
   exact oO (fY ..) (fA ..) λp hp=>by rw[wo h e hp,fq m _ h0,fq m _ h0,ki,i9 (by omega)]
 have rV:∀{c1 c2},c1<aa m->c2<aa m->¬ (c1=0/\c2=0)->(cZ m G [c1,c2]).count 0<=1:=λa b ne=>by
  have:=MV (fY m G _) (hd _ _ (h.wd (two _ _)) (Dq hm h.rt) λz=>ne ((z0 a b).mp z))
  omega
 have gw:∀{c1 c2},c1<aa m->c2<aa m->((cg (cZ m G [c1,c2])==0)=true↔c1=0/\c2=0):=λ{c1 c2} a b=>by
  rw[beq_iff_eq,<- z0 a b,<- Dx (fY m G [c1,c2])]
  unfold cg
  rw[fY]
  have:=PK (a:=0) (l:=cZ m G [c1,c2])
  rw[fY]at this
  omega
 have c0:(cy m (af G) (aY m G)).countP (λw=>cg w==0)=1:=by
  rw[zo h e,PL,cV,show(au (aa m)).map (Ia (λw=>cg w==0) ∘ λb=>(au (aa m)).map λa=>cZ m G [aI m 0 a,aI m 0 b])=(au (aa m)).map λb=>if(b==0)=true then 1 else 0 from gk λb hb=>?_,MW]
  ·exact wm (a:=0) (by omega) λx _=>beq_iff_eq
  ·have hb:=bP.mp hb
   show((au (aa m)).map λa=>cZ m G [aI m 0 a,aI m 0 b]).countP _=_
   rw[Aw]
   by_cases z:b=0
   ·rw[if_pos (beq_iff_eq.mpr z)]
    refine wm (a:=0) (by omega) λx hx=>(gw (je hm hx) (je hm hb)).trans ?_
    rw[sk hm hx,sk hm hb]
    exact⟨λk=>k.1,λk=>⟨k,z⟩⟩
   ·rw[if_neg (λk=>z (beq_iff_eq.mp k))]
    refine Du λx hx=>Bool.eq_false_iff.mpr λk=>z ?_
    exact(sk hm hb).mp ((gw (je hm hx) (je hm hb)).mp k).2
 have pl:∀p,p<af G->(cy m (af G) (aY m G)).countP (λw=>cf w p==0)=aa m:=λp hp=>by
  have hx:cf r1 p<aa m:=dy hm (h.rows r1 (by rw[e];exact eP ..)).2 p
  have hy:cf r2 p<aa m:=dy hm (h.rows r2 (by rw[e];exact dJ _ (eP ..))).2 p
  rw[zo h e,PL,cV]
  have cP:∀b,(Ia (λw=>cf w p==0) ∘ λb=>(au (aa m)).map λa=>cZ m G [aI m 0 a,aI m 0 b]) b=(au (aa m)).countP λa=>gp m (gm m (aI m 0 a) (cf r1 p)) (gm m (aI m 0 b) (cf r2 p))==0:=λb=>by
   show((au (aa m)).map λa=>cZ m G [aI m 0 a,aI m 0 b]).countP _=_
   rw[Aw]
   refine xw λa _=>?_
   show(cf (cZ m G [aI m 0 a,aI m 0 b]) p==0)=true↔_
   rw[wo h e hp]
  by_cases x0:cf r1 p=0
  ·have y0:cf r2 p≠0:=λy0=>by
    have l0:=Dm (fX (l:=bg m G) (i:=0) (by omega) 0)
    have l1:=Dm (fX (l:=bg m G) (i:=1) (by omega) 0)
    have f1:=rV (c1:=1) (c2:=0) dX (by omega) (by omega)
    by_cases pe:p=(bg m G).getD 1 0
    ·have:=Dy (c1:=0) (c2:=1) (by omega) dX
     rw[<-pe,wo h e hp,y0,fq m _ h0,fV m _ h0,i9 (by omega)]at this
     exact absurd this (by decide)
    ·have:=Yz (w:=cZ m G [1,0]) (p:=p) (p':=(bg m G).getD 1 0) (by rw[fY];exact hp) (by rw[fY];exact l1) pe (by rw[wo h e hp,x0,y0,fV m _ h0,fV m _ h0,i9 (by omega)]) (Dy dX (by omega))
     omega
   rw[show(au (aa m)).map _=(au (aa m)).map λb=>(if(b==0)=true then 1 else 0)*aa m from gk λb hb=>?_]
   ·have:∀l:List Nat,(l.map λb=>(if(b==0)=true then 1 else 0)*aa m).sum=(l.map λb=>if(b==0)=true then 1 else 0).sum*aa m:=λl=>by
     induction l with
     | nil=>rw[iM,iM,List.sum_nil,xn]
     | cons a l ih=>rw[bV,kA,ih,bV,kA,An]
    rw[this,MW,wm (a:=0) (by omega) λx _=>beq_iff_eq,tw]
   ·have hb:=bP.mp hb
    rw[cP b,x0]
    have k:∀a,(gp m (gm m (aI m 0 a) 0) (gm m (aI m 0 b) (cf r2 p))==0)=(b==0):=λa=>by
     rw[fV m _ h0,i9 (cI hm _ _),pB,beq_iff_eq,beq_iff_eq,C9 hm (je hm hb) hy,sk hm hb]
     exact⟨λz=>z.resolve_right y0,.inl⟩
    by_cases z:b=0
    ·rw[if_pos (beq_iff_eq.mpr z),tw]
     exact Yx λa _=>(k a).trans (beq_iff_eq.mpr z)
    ·rw[if_neg (λk=>z (beq_iff_eq.mp k)),xn]
     exact Du λa _=>(k a).trans (beq_false_of_ne z)
  ·rw[show(au (aa m)).map _=(au (aa m)).map λ_=>1 from gk λb hb=>?_,Dw,Nat.mul_one]
   rw[cP b]
   obtain⟨v,v1,v2⟩:=L7 hm dX hx x0
   generalize ht:gm m (aI m 0 b) (cf r2 p)=tt
   have tl:tt<aa m:=by rw[<-ht];exact cI hm _ _
   refine wm (a:=aI m 0 (gm m (aI m 0 tt) v)) (je hm (cI hm _ _)) λa ha=>?_
   rw[beq_iff_eq]
   constructor
   ·intro z
    have e1:gm m (aI m 0 a) (cf r1 p)=aI m 0 tt:=MK hm (cI hm _ _) (je hm tl) tl (z.trans (wc hm tl).2.symm)
    rw[<-e1,fU h0,fo m (cf r1 p) v,v2,lj (je hm ha),Dh hm ha]
   ·rintro rfl
    rw[Dh hm (cI hm _ _),fU h0,v2,lj (je hm tl),(wc hm tl).2]
 have all:∀w∈cy m (af G) (aY m G),w.length=af G/\(w.count 0=af G\/w.count 0<=1):=λw hw=>by
  rw[zo h e]at hw
  obtain⟨l,hl,hw⟩:=Ae.mp hw
  obtain⟨b,hb,rfl⟩:=cC.mp hl
  obtain⟨a,ha,rfl⟩:=cC.mp hw
  have ha:=je hm (bP.mp ha)
  have hb:=je hm (bP.mp hb)
  refine⟨fY ..,?_⟩
  by_cases z:aI m 0 a=0/\aI m 0 b=0
  ·exact .inl ((Dx (fY ..)).mpr ((z0 ha hb).mpr z))
  ·exact .inr (rV ha hb z)
 obtain⟨t1,t2,t3⟩:=MQ h3 all
 rw[MP λw hw=>(all w hw).1,gk (g:=λ_=>aa m) λp hp=>pl p (bP.mp hp),Dw,c0]at t1
 have lw:(cy m (af G) (aY m G)).length=aa m*aa m:=by
  rw[zo h e,List.length_flatten,cV,gk (g:=λ_=>aa m) λb _=>by show((au (aa m)).map _).length=_;rw[bQ,cK],Dw]
 rw[lw,c0]at t2
 exact⟨c0,by omega,by omega,t3⟩
end
end L3
namespace HK63
open PySem.W (Frag codeHdIn nsIn findIn isFn plainGet hasDictIn plainOver makesIn keepIn specialIn fnOf codeIn mg_of mg_none_of CodeHd)
open PySem L2 L3 Mf
seal L2.PSs L2.PS L2.PE L2.PT L2.PA L2.PI L2.PG L2.PO L2.PW
local macro_rules | `(tactic| walk_at "l3") => do
  let l ← (("qp qq qt qu dT kP mx my dC nM nR nQ nO qm qo mD qX oj qZ q0 qg qh qi qj qk ql nN uT og oh ii nX qH nY qI qJ qK qL qM qN iI fO qO qP qQ qR nZ mB qU qV gN q8 qW qv qA qB qC qD qE q9 rh nV j5 eK iB g7 pE ph xx xy nS jE i3 oi rn rp rq vw rC ou rz i6 vz vx vy bV iM s9 pk fw tE aK tF tG jq jr tH exists_eq_left' exists_eq_left D.bl.injEq D.int.injEq D.lst.injEq D.fz.injEq D.str.injEq D.tup.injEq xB and_true true_and dh pF kz kr uV uW uX uY uZ u0 gZ jZ mE u7 u9 va vb vd dZ kO u3 u4 u5 u6 eU nI xC xD sU l8 xE xF sW vh vi vj vm vn vo vp kZ mF oq i5 rk ve rj rl vg mG rm if_true xG if_false reduceIte vq decide_eq_true_eq ka rD oy qw rH oH rA oE oF oG rK vR oJ rS ft vU lD vW oM rX rY se si sL LV CL WO WQ CO vQ".splitOn " ").toArray.map fun (s : String) => Lean.mkIdent s.toName).mapM fun i => `(Lean.Parser.Tactic.simpLemma| $i:term)
  `(tactic| (try dsimp only [$l,*]) <;> (try simp only [$l,*]))
noncomputable def top (i:Nat):Stmt:=PySem.Challenge.pw_mendfield_k63_whole_root_counts.main.body.getD i (.Pass ⟨0,0,0,0⟩)
noncomputable abbrev Dz:Stmt:=top 73
theorem DA:bq ["_law_cell_here","_law_some","_law_primes"] ["_law_cell_here"] (aM Dz):=bL
noncomputable abbrev DB:Stmt:=top 74
theorem YF:bq ["_law_told_here"] ["_law_told_here"] (aM DB):=bL
noncomputable abbrev DC:Stmt:=top 16
theorem YG:bq ["table"] ["table"] (aM DC):=bL
noncomputable abbrev DD:Stmt:=top 17
theorem MX:bq ["rows","place","number","row"] ["rows","place"] (aM DD):=bL
noncomputable abbrev DE:Stmt:=gU (top 48) 6
theorem MY:bq ["self","a","row","by_a"] ["self","a","row"] (aM DE):=bL
noncomputable abbrev DF:Stmt:=gU (top 49) 6
theorem MZ:bq ["self","a","row","prime"] ["self","a","row"] (aM DF):=bL
noncomputable abbrev DG:Stmt:=gU (top 48) 7
theorem M4:bq ["self","row","a","other","by_a"] ["self","row","a","other"] (aM DG):=bL
noncomputable abbrev DH:Stmt:=gU (top 49) 7
theorem M5:bq ["self","row","a","other","prime"] ["self","row","a","other"] (aM DH):=bL
noncomputable abbrev DI:Stmt:=top 18
theorem YH:bq ["field","rows","lead_row","place"] ["field","rows","lead_row","place"] (aM DI):=bL
noncomputable abbrev DJ:Stmt:=gU (top 47) 8
theorem YI:bq ["self","n"] ["self","n"] (aM DJ):=bL
noncomputable abbrev DK:Stmt:=gU (top 47) 5
theorem YJ:bq ["self","a","b"] ["self","a","b"] (aM DK):=bL
noncomputable abbrev DL:Stmt:=top 19
theorem mS:bq ["field","table","done","left","place","number","lead_row"] ["field","table"] (aM DL):=bL
noncomputable abbrev DM:Stmt:=top 24
theorem YK:bq ["table"] ["table"] (aM DM):=bL
noncomputable abbrev DN:Stmt:=top 20
theorem YL:bq ["rows"] ["rows"] (aM DN):=bL
noncomputable abbrev DO:Stmt:=top 21
theorem M6:bq ["rows","width","taken"] ["rows","width"] (aM DO):=bL
noncomputable abbrev DP:Stmt:=gU (top 48) 2
theorem at2:bq ["self","a","b"] ["self","a","b"] (aM DP):=bL
noncomputable abbrev DQ:Stmt:=gU (top 49) 2
theorem YM:bq ["self","a","b"] ["self","a","b"] (aM DQ):=bL
noncomputable abbrev DR:Stmt:=top 22
theorem sq:bq ["field","rows","width","taken","found","free","x","lead","row"] ["field","rows","width"] (aM DR):=bL
noncomputable abbrev DS:Stmt:=gU (top 27) 0
theorem M7:bq ["self","field","checks","rows"] ["self","field","checks"] (aM DS):=bL
noncomputable abbrev DT:Stmt:=top 68
theorem YN:bq ["many","length","extra","first"] ["many","length","extra","first"] (aM DT):=bL
noncomputable abbrev lN:Stmt:=gU (top 69) 0
theorem M8:bq ["self","field","length","extra","first","checks"] ["self","field","length","extra","first"] (aM lN):=bL
noncomputable abbrev DU:Stmt:=gU (top 27) 2
theorem YO:bq ["self"] ["self"] (aM DU):=bL
noncomputable abbrev DV:Stmt:=top 34
theorem oU:bq ["code","field","words","row","larger","a"] ["code"] (aM DV):=bL
noncomputable abbrev DW:Stmt:=top 33
theorem zr:bq ["code","total","place"] ["code"] (aM DW):=bL
noncomputable abbrev DX:Stmt:=top 35
theorem DY:bq ["code","counts","word"] ["code"] (aM DX):=bL
noncomputable abbrev DZ:Stmt:=top 71
theorem YQ:bq ["_law_script","_law_k"] ["_law_script","_law_k"] (aM DZ):=bL
noncomputable abbrev D0:Stmt:=top 41
theorem zt:bq ["a","product","found","power"] ["a","product"] (aM D0):=bL
noncomputable abbrev D1:Stmt:=top 42
theorem wq:bq ["many","product","step","found"] ["many","product"] (aM D1):=bL
noncomputable abbrev D2:Stmt:=top 43
theorem D3:bq ["powers","logs","n","a"] ["powers"] (aM D2):=bL
noncomputable abbrev D4:Stmt:=gU (top 47) 0
theorem YR:bq ["self","many","product"] ["self","many","product"] (aM D4):=bL
noncomputable abbrev D6:Stmt:=top 46
theorem YS:bq ["prime"] ["prime"] (aM D6):=bL
noncomputable abbrev lQ:Stmt:=gU (top 49) 0
theorem YT:bq ["self","prime"] ["self","prime"] (aM lQ):=bL
noncomputable abbrev D7:Stmt:=top 44
theorem zu:bq ["powers","logs","many","rows","a"] ["powers","logs"] (aM D7):=bL
noncomputable abbrev D8:Stmt:=top 38
theorem sr:bq ["a","b","quotient","rest","shift"] ["a","b"] (aM D8):=bL
noncomputable abbrev D9:Stmt:=top 39
theorem Ea:bq ["a","half","b"] ["a"] (aM D9):=bL
noncomputable abbrev Eb:Stmt:=top 45
theorem YU:bq ["bits"] ["bits"] (aM Eb):=bL
noncomputable abbrev Ec:Stmt:=top 37
theorem zw:bq ["a","b","product","k"] ["a","b"] (aM Ec):=bL
noncomputable abbrev lU:Stmt:=gU (top 48) 0
theorem M9:bq ["self","bits","many"] ["self","bits"] (aM lU):=bL
noncomputable abbrev Ee:Stmt:=top 77
theorem YV:bq ["_law_told_here"] ["_law_told_here"] (aM Ee):=bL
noncomputable abbrev Ef:Stmt:=top 78
theorem zx:bq ["_law_n","_law_k","_law_ways","_law_i"] ["_law_n","_law_k"] (aM Ef):=bL
noncomputable abbrev Eg:Stmt:=top 79
theorem zy:bq ["_law_base","_law_n","_law_total","_law_turn"] ["_law_base","_law_n"] (aM Eg):=bL
noncomputable abbrev Eh:Stmt:=top 80
theorem su:bq ["_law_many_here","_law_length","_law_extra","_law_w","_law_total","_law_sign","_law_j"] ["_law_many_here","_law_length","_law_extra","_law_w"] (aM Eh):=bL
noncomputable abbrev Ei:Stmt:=top 72
theorem YW:bq ["_law_x"] ["_law_x"] (aM Ei):=bL
noncomputable abbrev lV:Stmt:=top 81
theorem jN:bq ["_law_script","_law_told_here","_law_many_here","_law_length","_law_size","_law_extra","_law_code","_law_found"] ["_law_script"] (aM lV):=bL
set_option genInjectivity false in
set_option genSizeOf false in
structure iw where
 Ej:Addr
 Ek:FuncData
 El:Addr
 Em:FuncData
 Eo:Addr
 Ep:FuncData
 Er:Addr
 Es:FuncData
 Et:Addr
 Eu:FuncData
 Ew:Addr
 Ey:FuncData
 Ez:Addr
 EA:FuncData
 EB:Addr
 EC:FuncData
 ED:Addr
 EE:FuncData
 wt:Addr
 EF:FuncData
 zA:Addr
 EG:FuncData
 EH:Addr
 EI:FuncData
 EJ:Addr
 EK:FuncData
 EL:Addr
 EM:FuncData
 EN:Addr
 EO:FuncData
 ER:Addr
 ES:FuncData
 ET:Addr
 EU:FuncData
 EV:Addr
 EW:FuncData
 EX:Addr
 EY:FuncData
 EZ:Addr
 E1:FuncData
 E2:Addr
 E3:FuncData
 E4:Addr
 E5:FuncData
 E6:Addr
 E7:FuncData
 E8:Addr
 E9:FuncData
 Fb:Addr
 Fc:FuncData
 Fd:Addr
 Fe:FuncData
 Ff:Addr
 Fg:FuncData
 Fh:Addr
 Fj:FuncData
 Fl:Addr
 Fm:FuncData
 Fo:Addr
 Fp:FuncData
 Fq:Addr
 Fs:FuncData
 Ft:Addr
 zB:FuncData
 Fu:Addr
 Fv:FuncData
 Fw:Addr
 Fx:FuncData
 Fy:Addr
 Fz:FuncData
 FA:Addr
 FC:FuncData
 FD:Addr
 FE:FuncData
 FF:Addr
 zC:FuncData
 FG:Addr
 FH:FuncData
 FI:Addr
 FJ:FuncData
 FK:Addr
 FL:FuncData
 FN:Addr
 FP:FuncData
 FQ:Addr
 FR:FuncData
 FT:Addr
 FU:FuncData
 Na:Addr
 jf:Addr
 Nb:Addr
 jg:Addr
 aU:Addr
 fZ:Addr
 kj:Addr
 jO:Addr
 aW:Addr
 bu:Addr
 zD:Tok
structure Txt(K:Frag)(mg:Str->Option Value)(t:iw):Prop where
 Nc:aH K "_law_told" "_law_told" Dz t.Ej t.Ek
 YX:mg "_law_told"=some (.ref t.Ej)
 YY:Binds K t.Ek ["_law_cell_here"] []
 Nd:aH K "_law_many" "_law_many" DB t.El t.Em
 YZ:mg "_law_many"=some (.ref t.El)
 Y0:Binds K t.Em ["_law_told_here"] []
 FV:aH K "width_of" "width_of" DC t.Eo t.Ep
 Nf:mg "width_of"=some (.ref t.Eo)
 Ng:Binds K t.Ep ["table"] []
 Nh:aH K "first_with" "first_with" DD t.Er t.Es
 Y1:mg "first_with"=some (.ref t.Er)
 Y2:Binds K t.Es ["rows","place"] []
 Y3:aH K "scaled" "BitField.scaled" DE t.Et t.Eu
 Y4:Binds K t.Eu ["self","a","row"] []
 Y5:aH K "scaled" "PrimeField.scaled" DF t.Ew t.Ey
 Y6:Binds K t.Ey ["self","a","row"] []
 Y7:aH K "lessened" "BitField.lessened" DG t.Ez t.EA
 Y8:Binds K t.EA ["self","row","a","other"] []
 Y9:aH K "lessened" "PrimeField.lessened" DH t.EB t.EC
 Za:Binds K t.EC ["self","row","a","other"] []
 FW:aH K "cleared" "cleared" DI t.ED t.EE
 Ni:mg "cleared"=some (.ref t.ED)
 Nj:Binds K t.EE ["field","rows","lead_row","place"] []
 Zb:aH K "step_power" "Field.step_power" DJ t.wt t.EF
 wu:Binds K t.EF ["self","n"] []
 Zc:aH K "over" "Field.over" DK t.zA t.EG
 Nk:Binds K t.EG ["self","a","b"] []
 Nl:aH K "reduced" "reduced" DL t.EH t.EI
 Zd:mg "reduced"=some (.ref t.EH)
 Ze:Binds K t.EI ["field","table"] []
 FX:aH K "copied" "copied" DM t.EJ t.EK
 Nm:mg "copied"=some (.ref t.EJ)
 Nn:Binds K t.EK ["table"] []
 FY:aH K "leads" "leads" DN t.EL t.EM
 Np:mg "leads"=some (.ref t.EL)
 Nq:Binds K t.EM ["rows"] []
 FZ:aH K "free_places" "free_places" DO t.EN t.EO
 Nr:mg "free_places"=some (.ref t.EN)
 Nt:Binds K t.EO ["rows","width"] []
 Zf:aH K "minus" "BitField.minus" DP t.ER t.ES
 Zg:Binds K t.ES ["self","a","b"] []
 Zh:aH K "minus" "PrimeField.minus" DQ t.ET t.EU
 Zi:Binds K t.EU ["self","a","b"] []
 Nu:aH K "kernel_of_reduced" "kernel_of_reduced" DR t.EV t.EW
 Zj:mg "kernel_of_reduced"=some (.ref t.EV)
 Zk:Binds K t.EW ["field","rows","width"] []
 Zl:aH K "__init__" "Code.__init__" DS t.EX t.EY
 Zm:Binds K t.EY ["self","field","checks"] []
 Nv:aH K "makes_root_code" "makes_root_code" DT t.EZ t.E1
 Zn:mg "makes_root_code"=some (.ref t.EZ)
 Zo:Binds K t.E1 ["many","length","extra","first"] []
 Zp:zh K "__init__" "RootCode.__init__" lN t.E2 t.E3
 Zq:Binds K t.E3 ["self","field","length","extra","first"] []
 Zr:aH K "rows" "Code.rows" DU t.E4 t.E5
 Zs:Binds K t.E5 ["self"] []
 Nw:aH K "all_words" "all_words" DV t.E6 t.E7
 Zt:mg "all_words"=some (.ref t.E6)
 Zu:Binds K t.E7 ["code"] []
 Nx:aH K "how_many_words" "how_many_words" DW t.E8 t.E9
 Zv:mg "how_many_words"=some (.ref t.E8)
 Zw:Binds K t.E9 ["code"] []
 Ny:aH K "census" "census" DX t.Fb t.Fc
 Zx:mg "census"=some (.ref t.Fb)
 Zy:Binds K t.Fc ["code"] []
 oV:aH K "_law_cell" "_law_cell" DZ t.Fd t.Fe
 sA:mg "_law_cell"=some (.ref t.Fd)
 sC:Binds K t.Fe ["_law_script","_law_k"] []
 Ga:aH K "powers_of" "powers_of" D0 t.Ff t.Fg
 Nz:mg "powers_of"=some (.ref t.Ff)
 NA:Binds K t.Fg ["a","product"] []
 NB:aH K "step_powers" "step_powers" D1 t.Fh t.Fj
 Zz:mg "step_powers"=some (.ref t.Fh)
 ZA:Binds K t.Fj ["many","product"] []
 NC:aH K "logs_of" "logs_of" D2 t.Fl t.Fm
 ZC:mg "logs_of"=some (.ref t.Fl)
 ZD:Binds K t.Fm ["powers"] []
 ZE:aH K "__init__" "Field.__init__" D4 t.Fo t.Fp
 ND:Binds K t.Fp ["self","many","product"] []
 NF:aH K "makes_prime_field" "makes_prime_field" D6 t.Fq t.Fs
 ZF:mg "makes_prime_field"=some (.ref t.Fq)
 ZG:Binds K t.Fs ["prime"] []
 ZH:aH K "__init__" "PrimeField.__init__" lQ t.Ft t.zB
 ZI:Binds K t.zB ["self","prime"] []
 NG:aH K "product_rows" "product_rows" D7 t.Fu t.Fv
 ZJ:mg "product_rows"=some (.ref t.Fu)
 ZK:Binds K t.Fv ["powers","logs"] []
 Gb:aH K "bits_divided" "bits_divided" D8 t.Fw t.Fx
 NH:mg "bits_divided"=some (.ref t.Fw)
 NI:Binds K t.Fx ["a","b"] []
 NJ:aH K "stands_alone" "stands_alone" D9 t.Fy t.Fz
 ZL:mg "stands_alone"=some (.ref t.Fy)
 ZM:Binds K t.Fz ["a"] []
 NK:aH K "makes_bit_field" "makes_bit_field" Eb t.FA t.FC
 ZN:mg "makes_bit_field"=some (.ref t.FA)
 ZO:Binds K t.FC ["bits"] []
 NL:aH K "bits_times" "bits_times" Ec t.FD t.FE
 ZP:mg "bits_times"=some (.ref t.FD)
 ZQ:Binds K t.FE ["a","b"] []
 ZR:aH K "__init__" "BitField.__init__" lU t.FF t.zC
 ZS:Binds K t.zC ["self","bits"] []
 NM:aH K "_law_field" "_law_field" Ee t.FG t.FH
 ZT:mg "_law_field"=some (.ref t.FG)
 ZU:Binds K t.FH ["_law_told_here"] []
 Gd:aH K "_law_choose" "_law_choose" Ef t.FI t.FJ
 NN:mg "_law_choose"=some (.ref t.FI)
 NO:Binds K t.FJ ["_law_n","_law_k"] []
 NP:aH K "_law_raised" "_law_raised" Eg t.FK t.FL
 ZV:mg "_law_raised"=some (.ref t.FK)
 ZW:Binds K t.FL ["_law_base","_law_n"] []
 NQ:aH K "_law_counted" "_law_counted" Eh t.FN t.FP
 ZX:mg "_law_counted"=some (.ref t.FN)
 ZY:Binds K t.FP ["_law_many_here","_law_length","_law_extra","_law_w"] []
 NR:aH K "_law_whole" "_law_whole" Ei t.FQ t.FR
 ZZ:mg "_law_whole"=some (.ref t.FQ)
 Z0:Binds K t.FR ["_law_x"] []
 Z1:aH K "law" "law" lV t.FT t.FU
 cT8:mg "law"=some (.ref t.FT)
 cT9:Binds K t.FU ["_law_script"] []
 Z2:t.zB.code=.ref t.Na
 Z3:codeHdIn K t.Na t.jf=true
 Z4:t.zC.code=.ref t.Nb
 Z5:codeHdIn K t.Nb t.jg=true
 eZ:cR K t.aU
 Ge:Mk K t.aU t.FF
 Gf:bj K t.aU "bits"
 sD:bj K t.aU "logs"
 sE:bj K t.aU "many"
 sF:bj K t.aU "powers"
 wz:bj K t.aU "products"
 Gg:bj K t.aU "step"
 Gh:bj K t.aU "wide"
 Z6:Meth K t.aU "lessened" t.Ez
 Z7:Meth K t.aU "minus" t.ER
 Gi:Meth K t.aU "over" t.zA
 Z8:Meth K t.aU "scaled" t.Et
 wA:Meth K t.aU "step_power" t.wt
 gb:cR K t.aW
 Gj:Mk K t.aW t.Ft
 wB:bj K t.aW "logs"
 sG:bj K t.aW "many"
 wC:bj K t.aW "powers"
 sH:bj K t.aW "prime"
 Gk:bj K t.aW "step"
 Gm:bj K t.aW "wide"
 Z9:Meth K t.aW "lessened" t.EB
 γ:Meth K t.aW "minus" t.ET
 Gp:Meth K t.aW "over" t.zA
 ε:Meth K t.aW "scaled" t.Ew
 wD:Meth K t.aW "step_power" t.wt
 lW:cR K t.bu
 Gq:Mk K t.bu t.E2
 Gr:bj K t.bu "check_rows"
 Gs:bj K t.bu "extra"
 sI:bj K t.bu "field"
 Gu:bj K t.bu "first"
 sJ:bj K t.bu "length"
 Gv:bj K t.bu "message_places"
 sM:bj K t.bu "size"
 sN:bj K t.bu "word_rows"
 wF:Meth K t.bu "rows" t.E4
 ζ:rJ K t.kj "__init__" t.EX
 NS:rJ K t.jO "__init__" t.Fo
 NT:mg "all"=none
 η:mg "bool"=none
 Gw:mg "enumerate"=none
 NU:mg "int"=none
 Gx:mg "isinstance"=none
 sO:mg "len"=none
 NV:mg "list"=none
 NW:mg "min"=none
 gJ:mg "range"=none
 Gy:mg "zip"=none
 θ:mg "MOST_WORDS"=some (.int 4096 t.zD)
 Gz:mg "BitField"=some (.ref t.aU)
 GA:mg "ByNought"=some (.ref t.fZ)
 GB:mg "Code"=some (.ref t.kj)
 zE:mg "Field"=some (.ref t.jO)
 GC:mg "PrimeField"=some (.ref t.aW)
 GD:mg "RootCode"=some (.ref t.bu)
 NX:Cg K mg "ByNought" t.fZ
 aF6:T6 K t.fZ
section
variable{P:Program}{w:World}{K:Frag}{mg:Str->Option Value}{base:Heap}{t:iw}
theorem GF(T:Txt K mg t)(m:Bool × Nat){Q:D->Prop}(q:Q (.int (aa m))):∃C ns xs v,fD t.aU t.aW m=.obj C ns xs/\cR K C/\bj K C "many"/\(ns.zip xs).lookup ("many":Str)=some v/\Q v:=by
 obtain⟨k,n⟩:=m
 cases k with
 | true=>exact⟨_,_,_,_,rfl,T.eZ,T.sE,rfl,q⟩
 | false=>exact⟨_,_,_,_,rfl,T.gb,T.sG,rfl,q⟩
noncomputable abbrev gg(t:iw)(m:Bool × Nat)(G:List (List Nat))(k:Kd):D:=zi t.aU t.aW t.bu t.bu t.bu m G k
theorem zF(T:Txt K mg t)(m:Bool × Nat)(G:List (List Nat))(k:Kd){a:Str}{v:D}(n1:bj K t.bu a)(n2:bj K t.bu a)(n3:bj K t.bu a)(ha:a∈oR)(h:(oR.zip (mR t.aU t.aW false m G)).lookup a=some v){Q:D->Prop}(q:Q v):∃C ns xs v,gg t m G k=.obj C ns xs/\cR K C/\bj K C a/\(ns.zip xs).lookup a=some v/\Q v:=by
 have ha:a="field"\/a="length"\/a="check_rows"\/a="word_rows"\/a="message_places"\/a="size":=by simpa only[bR,gj,or_false]using ha
 rcases ha with rfl | rfl | rfl | rfl | rfl | rfl<;>cases k
 all_goals first | exact⟨_,_,_,v,rfl,T.lW,n1,h,q⟩ | exact⟨_,_,_,v,rfl,T.lW,n2,h,q⟩ | exact⟨_,_,_,v,rfl,T.lW,n3,h,q⟩
theorem NY(T:Txt K mg t)(m:Bool × Nat)(G:List (List Nat))(k:Kd){Q:D->Prop}(q:Q (fD t.aU t.aW m)):∃C ns xs v,gg t m G k=.obj C ns xs/\cR K C/\bj K C "field"/\(ns.zip xs).lookup ("field":Str)=some v/\Q v:=zF T m G k T.sI T.sI T.sI (by decide) rfl q
theorem GG(T:Txt K mg t)(m:Bool × Nat)(G:List (List Nat))(k:Kd){Q:D->Prop}(q:Q (.int (af G:Nat))):∃C ns xs v,gg t m G k=.obj C ns xs/\cR K C/\bj K C "length"/\(ns.zip xs).lookup ("length":Str)=some v/\Q v:=zF T m G k T.sJ T.sJ T.sJ (by decide) rfl q
theorem ι(T:Txt K mg t)(m:Bool × Nat)(G:List (List Nat))(k:Kd){Q:D->Prop}(q:Q (.lst false (aF false (aY m G)))):∃C ns xs v,gg t m G k=.obj C ns xs/\cR K C/\bj K C "word_rows"/\(ns.zip xs).lookup ("word_rows":Str)=some v/\Q v:=zF T m G k T.sN T.sN T.sN (by decide) rfl q
theorem μ(T:Txt K mg t)(m:Bool × Nat)(G:List (List Nat))(k:Kd){Q:D->Prop}(q:Q (.int ((bg m G).length:Nat))):∃C ns xs v,gg t m G k=.obj C ns xs/\cR K C/\bj K C "size"/\(ns.zip xs).lookup ("size":Str)=some v/\Q v:=zF T m G k T.sM T.sM T.sM (by decide) rfl q
theorem ν(T:Txt K mg t){m:Bool × Nat}{G:List (List Nat)}{k:Kd}{me:Str}{n:Nat}{f:Addr}{fd:FuncData}{ps:List Str}{sp:bx}(h1:Meth K t.bu me f)(h2:Meth K t.bu me f)(h3:Meth K t.bu me f)(F:aQ P w K mg base aX n f fd ps (bB sp))(b:Binds K fd ps [])(nm:me ∉ (["extra","first","field","length","check_rows","word_rows","message_places","size","bound"]:List Str)){ds:List D}{Q:D->Prop}(q:sp (gg t m G k::ds) Q):∃C ns zs sp,gg t m G k=.obj C ns zs/\jL P w K mg base n me C sp/\me ∉ ns/\sp (.obj C ns zs::ds) Q:=by
 simp only[bR,gj,or_false,not_or]at nm
 cases k
 ·exact⟨_,_,_,sp,rfl,⟨T.lW,_,_,_,h1,F,b⟩,by simp[nm],q⟩
 ·exact⟨_,_,_,sp,rfl,⟨T.lW,_,_,_,h2,F,b⟩,by simp[nm],q⟩
 ·exact⟨_,_,_,sp,rfl,⟨T.lW,_,_,_,h3,F,b⟩,by simp[nm],q⟩
noncomputable abbrev ξ:bx:=λds Q=>∃c:Int,ds=[.int c]/\∀m,m∈aw->3<=aa m->Q (i8 m)
theorem ο(T:Txt K mg t):aQ P w K mg base aX 1 t.Ej t.Ek ["_law_cell_here"] (bB (ξ )):=by
 refine cm T.Nc DA ?_ ?_
 ·intro ds Q h
  obtain⟨c,rfl,q⟩:=h<;>rfl
 ·intro aA A outer s H E hr
  refine⟨_,(aO (bo (i:=1) DA.nd rfl (av rfl) (KN (ns:=[7,11,13,19,25,31,37,41,47,55,59,61,67,73,87,91,97,103,109,115,117]) (by decide +kernel)))
   (aO (bo (i:=2) DA.nd rfl (av rfl) (KN (ns:=[3,5,7,11,13,17,19,23,29,31,37,41,43,47,53,59,61]) (by decide +kernel)))
   (aO (fk (et (kW (hE hr)) (ah (aL gC (bv 0) (ah ay))) (ah ay) (dB _)) (aT (bA (BR (fi qf (fi (eE (cT (bv 1) (ah (aL gC (ah (aL uN (bv 0) (ah ay))) (ah ay))) (λ_ _=>rfl))) eW))))) fj)
   (aT (bA (BR (fi qf (fi (eE (cT (bv 2) (ah (aL gC (ah (aL uN (bv 0) (ah ay))) (ah ay))) (λ_ _=>rfl))) eW)))))))),λds Q h=>?_⟩
  obtain⟨c,rfl,q⟩:=h
  refine aN λU hU=>?_
  walk_at"l3"
  refine⟨by decide,hU _ ?_⟩
  clear hU U
  refine aN λU hU=>?_
  walk_at"l3"
  refine⟨by decide,hU _ ?_⟩
  clear hU U
  refine aN λU hU=>?_
  walk_at"l3"
  refine⟨by decide,?_⟩
  have n1:=iN (c/2) (show(21:Int)≠0 by decide)
  have n2:=jR (c/2) (show(0:Int)<21 by decide)
  have n3:=iN (c/2) (show(17:Int)≠0 by decide)
  have n4:=jR (c/2) (show(0:Int)<17 by decide)
  have get:∀(Z:List Int) (k:Int),0<=k->k<(Z.length:Int)->Z.getD k.toNat 0∈Z:=λZ k h1 h2=>fX (by omega) 0
  have st:∀(b:Bool) (a:Int),0<=a/\(b,a.toNat)∈aw/\3<=aa (b,a.toNat)->Q (.tup [.bl b,.int a]):=λb a ⟨h1,h2,h3⟩=>by
   have:=q _ h2 h3
   unfold i8 at this
   rw[pG h1]at this
   exact this
  split
  ·refine⟨uM (by decide) (by decide),by decide,_,j9 n1 (by simpa using n2),rfl,by decide,st true _ ?_⟩
   exact(show ∀a∈([7,11,13,19,25,31,37,41,47,55,59,61,67,73,87,91,97,103,109,115,117]:List Int),0<=a/\(true,a.toNat)∈aw/\3<=aa (true,a.toNat) by decide) _ (get _ _ n1 (by simpa using n2))
  ·refine hU _ ?_
   walk_at"l3"
   refine⟨uM (by decide) (by decide),by decide,_,j9 n3 (by simpa using n4),rfl,by decide,st false _ ?_⟩
   exact(show ∀a∈([3,5,7,11,13,17,19,23,29,31,37,41,43,47,53,59,61]:List Int),0<=a/\(false,a.toNat)∈aw/\3<=aa (false,a.toNat) by decide) _ (get _ _ n3 (by simpa using n4))
noncomputable abbrev π:bx:=λds Q=>∃m:Bool × Nat,ds=[i8 m]/\bl m.2<=1000/\1<=bl m.2/\Q (.int (aa m:Nat))
theorem ρ(T:Txt K mg t):aQ P w K mg base aX 1 t.El t.Em ["_law_told_here"] (bB (π )):=by
 refine cm T.Nd YF ?_ ?_
 ·intro ds Q h
  obtain⟨m,rfl,h1,h2,q⟩:=h<;>rfl
 ·intro aA A outer s H E hr
  refine⟨_,(aO (fk (uC (cT (bv 0) (ah ay) (λ_ _=>rfl))) (aT (bA (aL uO (ah ay) (ah (aL dE (ah (om (cT (bv 0) (ah ay) (λ_ _=>rfl)))) (ah ay)))))) fj)
   (aT (bA (eE (cT (bv 0) (ah ay) (λ_ _=>rfl)))))),λds Q h=>?_⟩
  obtain⟨m,rfl,h1,h2,q⟩:=h
  unfold i8 at *
  refine aN λU hU=>?_
  walk_at"l3"
  obtain⟨b,n⟩:=m
  cases b with
  | true =>
   refine⟨_,rfl,true,rfl,?_⟩
   rw[if_pos rfl]
   refine⟨_,rfl,?_⟩
   have o1:bl (1:Int).natAbs=1:=by decide
   have e:(1:Int)*2 ^ (((bl ((n:Int)).natAbs:Nat):Int)-1).toNat=((aa (true,n):Nat):Int):=by
    have ix:1<=bl n:=h2
    rw[js,show(((bl n:Nat):Int)-1)=((bl n-1:Nat):Int) by omega,show(1:Int)=((1:Nat):Int) from rfl,pY,AA];rfl
   refine⟨?_,by rw[e];exact q⟩
   rw[js]
   have iX:bl n<=1000:=h1
   have ix:1<=bl n:=h2
   exact⟨by omega,by omega⟩
  | false =>
   refine⟨_,rfl,false,rfl,?_⟩
   rw[if_neg (by decide)]
   refine hU _ ?_
   walk_at"l3"
   exact⟨_,rfl,rfl,q⟩
noncomputable abbrev τ:bx:=λds Q=>∃T:List (List Nat),ds=[.lst false (aF false T)]/\T.length<=1000/\(∀r∈T,r.length<=1000)/\Q (.int (af T:Nat))
theorem NZ(T:Txt K mg t):aQ P w K mg base aX 1 t.Eo t.Ep ["table"] (bB (τ )):=by
 refine cm T.FV YG ?_ ?_
 ·intro ds Q h
  obtain⟨G,rfl,hG,hr,q⟩:=h<;>rfl
 ·intro aA A outer s H E hr
  refine⟨_,(aT (bA (UL (et (uQ (hE hr)) (bv 0) (ah (gz eW)) (dB _)) (kX (uU) (by rfl) T.sO p5 (ao (cT (bv 0) (ah ay) (λ_ _=>rfl)) aP)) ay))),λds Q h=>?_⟩
  obtain⟨G,rfl,hG,hr,q⟩:=h
  walk_at"l3"
  refine⟨by decide,⟨Xf 4 _ _ _,rfl⟩,?_⟩
  rw[show(D.lst true ([]:List D))=D.lst true (aF true []) from rfl,Xg]
  cases G with
  | nil=>rw[if_neg (by simp)];exact q
  | cons r G =>
   rw[if_pos (by simp)]
   refine⟨.lst false (aE r),CQ false (T:=r::G) (i:=0) (Nat.succ_pos _),?_⟩
   show Q (D.int ((aE r).length:Nat))
   rw[ka];exact q
noncomputable abbrev υ:bx:=λds Q=>∃(T:List (List Nat)) (j:Nat),ds=[.lst false (aF false T),.int j]/\T.length<=1000/\(∀r∈T,j<r.length)/\Q (match iF T j with | some i=>.int (i:Nat) | none=>.ak)
theorem χ(T:Txt K mg t):aQ P w K mg base aX 1 t.Er t.Es ["rows","place"] (bB (υ )):=by
 refine cm T.Nh MX ?_ ?_
 ·intro ds Q h
  obtain⟨G,j,rfl,hG,hr,q⟩:=h<;>rfl
 ·intro aA A outer s H E hr
  refine⟨_,(aO (gA fc rfl (Cp rfl T.Gw (ao (bv 0) aP)) (rB (i1:=2) (i2:=3) rfl MX.nd rfl (av rfl) rfl (av rfl))
    (aT (fk (et (uQ (hE hr)) (cT (bv 3) (bv 1) (λ_ _=>rfl)) (ah ay) (dB _)) (aT (bA (em 2))) fj)))
   (aT (bA J1))),λds Q h=>?_⟩
  obtain⟨G,j,rfl,hG,hr,q⟩:=h
  refine aN λU hU=>?_
  walk_at"l3"
  refine iz.mk (λi δ=>∃o1 o2,δ=[some (D.lst false (aF false G)),some (D.int j),o1,o2]/\∀k,k<i->(G.getD k []).getD j 0=0) ⟨_,_,rfl,λk hk=>absurd hk (Nat.not_lt_zero k)⟩ ?_ ?_
  ·rintro i d δ hd ⟨o1,o2,rfl,hz⟩
   obtain⟨hi,rfl⟩:=Xh hd
   have hj:=hr _ (eQ hi)
   have eg:G.getD i []=G[i]:=by rw[aV,aR hi];rfl
   walk_at"l3"
   refine⟨.int (G[i].getD j 0:Nat),by rw[yU (by omega) (by omega),jQ],rfl,?_⟩
   rw[mG]
   by_cases h0:G[i].getD j 0=0
   ·rw[if_neg (by rw[h0];decide)]
    refine⟨_,_,⟨rfl,rfl⟩,λk hk=>?_⟩
    by_cases e:k=i
    ·rw[e,eg];exact h0
    ·exact hz k (by omega)
   ·rw[if_pos (by rw[decide_eq_false (by omega)];rfl)]
    have ef:iF G j=some i:=by
     unfold iF
     rw[PB]
     refine⟨hi,by simpa using h0,λk hk=>?_⟩
     have:=hz k hk
     rw[aV (l:=G),aR (by omega)]at this
     simpa using this
    rw[ef]at q
    exact q
  ·rintro δ ⟨o1,o2,rfl,hz⟩
   refine hU _ ?_
   walk_at"l3"
   have ef:iF G j=none:=by
    unfold iF
    rw[PC]
    intro r bU
    obtain⟨i,hi,rfl⟩:=jm bU
    have:=hz i (by rw[vA,lD];exact hi)
    rw[aV (l:=G),aR hi]at this
    simpa using this
   rw[ef]at q
   exact q
noncomputable abbrev N0(K:Frag):bx:=λds Q=>∃(C:Addr) (p a:Nat) (xs:List Nat),ds=[yO C p,.int a,.lst false (aE xs)]/\cR K C/\bj K C "products"/\p∈jM/\a<aa (true,p)/\(∀y∈xs,y<aa (true,p))/\xs.length<=1000/\Q (.lst true (aE (xs.map (gm (true,p) a))))
theorem ω(T:Txt K mg t):aQ P w K mg base aX 1 t.Et t.Eu ["self","a","row"] (bB (N0 K)):=by
 refine cm T.Y3 MY ?_ ?_
 ·intro ds Q h
  obtain⟨C,p,a,xs,rfl,hC,hn,hp,ha,hy,hl,q⟩:=h<;>rfl
 ·intro aA A outer s H E hr
  refine⟨_,(aO (bo (i:=3) MY.nd rfl (bw rfl) (eE (cT (eN (K:=K) (bv 0)) (bv 1) (λ_ _=>rfl))))
   (aT (bA (gG [("by_a",3)] ["x"] rfl (nU (bv 2)) (λ_ _ _ _=>(du (i:=1) (show(["by_a","x"]:List Str).Nodup by decide +kernel) rfl (av (lookup_relabel_local rfl)) (by decide) (bw (lookup_relabel_local rfl)))) (λ_ _ _ _=>g8) (λ_ _ _ _=>(eE (cT (bv 0) (bv 1) (λ_ _=>rfl)))) rfl ⟨rfl,trivial⟩ (λ_=>by repeat' (first | exact trivial | refine⟨.inl rfl,?_⟩ | refine⟨.inr (.inl rfl),?_⟩ | refine⟨.inr (.inr ⟨_,rfl⟩),?_⟩)) (λ_=>⟨⟨rfl,.inl rfl,.inl rfl,_,rfl,rfl⟩,trivial⟩) rfl (by decide +kernel))))),λds Q h=>?_⟩
  obtain⟨C,p,a,xs,rfl,hC,hn,hp,ha,hy,hl,q⟩:=h
  refine aN λU hU=>?_
  walk_at"l3"
  refine⟨C,_,_,_,rfl,hC,hn,rfl,_,LS hp ha,?_⟩
  refine⟨by rw[gZ,mF];rfl,hU _ ?_⟩
  clear hU U
  walk_at"l3"
  refine i7 xs (λ(i:Nat)=>D.int (i:Int)) (λx=>D.int ((gm (true,p) a x:Nat):Int)) (yx xs) ow (λx hx=>?_) (.inr λ_ _=>rfl) (by rw[sL];omega) ?_
  ·walk_at"l3"
   exact⟨_,LR hp ha (hy x hx),rfl,rfl⟩
  ·rw[dF,cV]at q
   exact q
noncomputable abbrev N1(K:Frag):bx:=λds Q=>∃(C:Addr) (p a:Nat) (xs:List Nat),ds=[vO C p,.int a,.lst false (aE xs)]/\cR K C/\bj K C "prime"/\0<p/\a<64/\(∀y∈xs,y<64)/\xs.length<=1000/\Q (.lst true (aE (xs.map (gm (false,p) a))))
theorem Γ(T:Txt K mg t):aQ P w K mg base aX 1 t.Ew t.Ey ["self","a","row"] (bB (N1 K)):=by
 refine cm T.Y5 MZ ?_ ?_
 ·intro ds Q h
  obtain⟨C,p,a,xs,rfl,hC,hn,hp,ha,hy,hl,q⟩:=h<;>rfl
 ·intro aA A outer s H E hr
  refine⟨_,(aO (bo (i:=3) MZ.nd rfl (bw rfl) (eE (eN (K:=K) (bv 0))))
   (aT (bA (gG [("prime",3),("a",1)] ["x"] rfl (nU (bv 2)) (λ_ _ _ _=>(du (i:=2) (show(["prime","a","x"]:List Str).Nodup by decide +kernel) rfl (av (lookup_relabel_local rfl)) (by decide) (bw (lookup_relabel_local rfl)))) (λ_ _ _ _=>g8) (λ_ _ _ _=>(aL gC (ah (aL g9 (bv 1) (bv 2))) (bv 0))) rfl ⟨rfl,⟨rfl,trivial⟩⟩ (λ_=>by repeat' (first | exact trivial | refine⟨.inl rfl,?_⟩ | refine⟨.inr (.inl rfl),?_⟩ | refine⟨.inr (.inr ⟨_,rfl⟩),?_⟩)) (λ_=>⟨⟨rfl,.inl rfl,.inl rfl,_,rfl,rfl⟩,⟨⟨rfl,.inl rfl,.inl rfl,_,rfl,rfl⟩,trivial⟩⟩) rfl (by decide +kernel))))),λds Q h=>?_⟩
  obtain⟨C,p,a,xs,rfl,hC,hn,hp,ha,hy,hl,q⟩:=h
  refine aN λU hU=>?_
  walk_at"l3"
  refine⟨C,_,_,.int p,rfl,hC,hn,rfl,rfl,hU _ ?_⟩
  clear hU U
  walk_at"l3"
  refine i7 xs (λ(i:Nat)=>D.int (i:Int)) (λx=>D.int ((gm (false,p) a x:Nat):Int)) (yx xs) ow (λx hx=>?_) (.inr λ_ _=>rfl) (by rw[sL];omega) ?_
  ·have h2:=hy x hx
   walk_at"l3"
   refine⟨gO.ok (.inr ⟨by omega,by omega⟩),by omega,?_⟩
   show _=((a*x%p:Nat):Int)
   rw[xo,tI]
  ·rw[dF,cV]at q
   exact q
theorem Δ(T:Txt K mg t){m:Bool × Nat}(hm:m∈aw):∃C ns zs sp,fD t.aU t.aW m=.obj C ns zs/\jL P w K mg base 1 "scaled" C sp/\("scaled":Str) ∉ ns/\∀(xs:List Nat) (a:Nat) (Q:D->Prop),a<aa m->(∀y∈xs,y<aa m)->xs.length<=1000->Q (.lst true (aE (xs.map (gm m a))))->sp [.obj C ns zs,.int a,.lst false (aE xs)] Q:=by
 have hF:=dw hm
 obtain⟨k,n⟩:=m
 cases k with
 | true=>exact⟨_,_,_,N0 K,rfl,⟨T.eZ,_,_,_,T.Z8,ω T,T.Y4⟩,by decide,λxs a Q ha hy hl q=>⟨_,n,a,xs,rfl,T.eZ,T.wz,CK hm,ha,hy,hl,q⟩⟩
 | false =>
  have wG:n<=64:=hF.hi
  have l2:2<=n:=hF.lo
  exact⟨_,_,_,N1 K,rfl,⟨T.gb,_,_,_,T.ε,Γ T,T.Y6⟩,by decide,λxs a Q ha hy hl q=>⟨_,n,a,xs,rfl,T.gb,T.sH,by omega,cA (show a<n from ha) wG,λy h=>cA (show y<n from hy y h) wG,hl,q⟩⟩
noncomputable abbrev N2(K:Frag):bx:=λds Q=>∃(C:Addr) (p a:Nat) (xs ys:List Nat),ds=[yO C p,.lst false (aE xs),.int a,.lst false (aE ys)]/\cR K C/\bj K C "products"/\p∈jM/\a<aa (true,p)/\(∀y∈ys,y<aa (true,p))/\xs.length<=1000/\Q (.lst true (aE (eR (λx y=>aI (true,p) x (gm (true,p) a y)) xs ys)))
theorem Θ(T:Txt K mg t):aQ P w K mg base aX 1 t.Ez t.EA ["self","row","a","other"] (bB (N2 K)):=by
 refine cm T.Y7 M4 ?_ ?_
 ·intro ds Q h
  obtain⟨C,p,a,xs,ys,rfl,hC,hn,hp,ha,hy,hl,q⟩:=h<;>rfl
 ·intro aA A outer s H E hr
  refine⟨_,(aO (bo (i:=4) M4.nd rfl (bw rfl) (eE (cT (eN (K:=K) (bv 0)) (bv 2) (λ_ _=>rfl))))
   (aT (bA (gG [("by_a",4)] ["x","y"] rfl (Co rfl T.Gy (ao (bv 1) (ao (bv 3) aP))) (λ_ _ _ _=>(rB (i1:=1) (i2:=2) rfl (show(["by_a","x","y"]:List Str).Nodup by decide +kernel) rfl (av (lookup_relabel_local rfl)) rfl (av (lookup_relabel_local rfl)) (by decide) (by decide) (bw (lookup_relabel_local rfl)) (bw (lookup_relabel_local rfl)))) (λ_ _ _ _=>g8) (λ_ _ _ _=>(aL Ki (bv 1) (cT (bv 0) (bv 2) (λ_ _=>rfl)))) rfl ⟨rfl,trivial⟩ (λ_=>by repeat' (first | exact trivial | refine⟨.inl rfl,?_⟩ | refine⟨.inr (.inl rfl),?_⟩ | refine⟨.inr (.inr ⟨_,rfl⟩),?_⟩)) (λ_=>⟨⟨rfl,.inl rfl,.inl rfl,_,rfl,rfl⟩,trivial⟩) rfl (by decide +kernel))))),λds Q h=>?_⟩
  obtain⟨C,p,a,xs,ys,rfl,hC,hn,hp,ha,hy,hl,q⟩:=h
  refine aN λU hU=>?_
  walk_at"l3"
  refine⟨C,_,_,_,rfl,hC,hn,rfl,_,LS hp ha,?_⟩
  refine⟨by rw[gZ,mF];rfl,hU _ ?_⟩
  clear hU U
  walk_at"l3"
  refine⟨_,_,rfl,rfl,L1 (λx y=>aI (true,p) x (gm (true,p) a y)) (λx hx y GH=>?_) (by omega) q⟩
  walk_at"l3"
  refine⟨_,LR hp ha (hy y GH),?_⟩
  show lZ (x:Int) ((gm (true,p) a y:Nat):Int)=_
  rw[uj];rfl
noncomputable abbrev N3(K:Frag):bx:=λds Q=>∃(C:Addr) (p a:Nat) (xs ys:List Nat),ds=[vO C p,.lst false (aE xs),.int a,.lst false (aE ys)]/\cR K C/\bj K C "prime"/\0<p/\a<64/\(∀y∈ys,y<64)/\xs.length<=1000/\Q (.lst true (aE (eR (λx y=>aI (false,p) x (gm (false,p) a y)) xs ys)))
theorem Λ(T:Txt K mg t):aQ P w K mg base aX 1 t.EB t.EC ["self","row","a","other"] (bB (N3 K)):=by
 refine cm T.Y9 M5 ?_ ?_
 ·intro ds Q h
  obtain⟨C,p,a,xs,ys,rfl,hC,hn,hp,ha,hy,hl,q⟩:=h<;>rfl
 ·intro aA A outer s H E hr
  refine⟨_,(aO (bo (i:=4) M5.nd rfl (bw rfl) (eE (eN (K:=K) (bv 0))))
   (aT (bA (gG [("prime",4),("a",2)] ["x","y"] rfl (Co rfl T.Gy (ao (bv 1) (ao (bv 3) aP))) (λ_ _ _ _=>(rB (i1:=2) (i2:=3) rfl (show(["prime","a","x","y"]:List Str).Nodup by decide +kernel) rfl (av (lookup_relabel_local rfl)) rfl (av (lookup_relabel_local rfl)) (by decide) (by decide) (bw (lookup_relabel_local rfl)) (bw (lookup_relabel_local rfl)))) (λ_ _ _ _=>g8) (λ_ _ _ _=>(aL gC (ah (aL dE (bv 2) (ah (aL g9 (bv 1) (bv 3))))) (bv 0))) rfl ⟨rfl,⟨rfl,trivial⟩⟩ (λ_=>by repeat' (first | exact trivial | refine⟨.inl rfl,?_⟩ | refine⟨.inr (.inl rfl),?_⟩ | refine⟨.inr (.inr ⟨_,rfl⟩),?_⟩)) (λ_=>⟨⟨rfl,.inl rfl,.inl rfl,_,rfl,rfl⟩,⟨⟨rfl,.inl rfl,.inl rfl,_,rfl,rfl⟩,trivial⟩⟩) rfl (by decide +kernel))))),λds Q h=>?_⟩
  obtain⟨C,p,a,xs,ys,rfl,hC,hn,hp,ha,hy,hl,q⟩:=h
  refine aN λU hU=>?_
  walk_at"l3"
  refine⟨C,_,_,.int p,rfl,hC,hn,rfl,rfl,hU _ ?_⟩
  clear hU U
  walk_at"l3"
  refine⟨_,_,rfl,rfl,L1 (λx y=>aI (false,p) x (gm (false,p) a y)) (λx hx y GH=>?_) (by omega) q⟩
  have h2:=hy y GH
  walk_at"l3"
  refine⟨gO.ok (.inr ⟨by omega,by omega⟩),by omega,?_⟩
  have e:((x:Int)-((a*y%p:Nat):Int))%(p:Int)=((x:Int)-(a:Int)*y)%p:=by
   rw[xo,tI,Int.sub_emod,Int.emod_emod,<- Int.sub_emod]
  show _=(((((x:Int)-((a*y%p:Nat):Int))%(p:Int)).toNat:Nat):Int)
  rw[e,pG (iN _ (by omega))]
theorem N4(T:Txt K mg t){m:Bool × Nat}(hm:m∈aw):∃C ns zs sp,fD t.aU t.aW m=.obj C ns zs/\jL P w K mg base 1 "lessened" C sp/\("lessened":Str) ∉ ns/\∀(xs ys:List Nat) (a:Nat) (Q:D->Prop),a<aa m->(∀y∈ys,y<aa m)->xs.length<=1000->Q (.lst true (aE (eR (λx y=>aI m x (gm m a y)) xs ys)))->sp [.obj C ns zs,.lst false (aE xs),.int a,.lst false (aE ys)] Q:=by
 have hF:=dw hm
 obtain⟨k,n⟩:=m
 cases k with
 | true=>exact⟨_,_,_,N2 K,rfl,⟨T.eZ,_,_,_,T.Z6,Θ T,T.Y8⟩,by decide,λxs ys a Q ha hy hl q=>⟨_,n,a,xs,ys,rfl,T.eZ,T.wz,CK hm,ha,hy,hl,q⟩⟩
 | false =>
  have wG:n<=64:=hF.hi
  have l2:2<=n:=hF.lo
  exact⟨_,_,_,N3 K,rfl,⟨T.gb,_,_,_,T.Z9,Λ T,T.Za⟩,by decide,λxs ys a Q ha hy hl q=>⟨_,n,a,xs,ys,rfl,T.gb,T.sH,by omega,cA (show a<n from ha) wG,λy h=>cA (show y<n from hy y h) wG,hl,q⟩⟩
noncomputable abbrev Ξ(cb cp:Addr):bx:=λds Q=>∃(m:Bool × Nat) (T:List (List Nat)) (l:List Nat) (j:Nat),ds=[fD cb cp m,.lst false (aF false T),.lst false (aE l),.int j]/\m∈aw/\T.length<=1000/\AllLt (aa m) l/\(∀r∈T,j<r.length/\r.length<=1000/\AllLt (aa m) r)/\Q (.lst true (aF true (T.map λr=>eR (λx y=>aI m x (gm m (r.getD j 0) y)) r l)))
theorem N5(T:Txt K mg t):aQ P w K mg base aX 2 t.ED t.EE ["field","rows","lead_row","place"] (bB (Ξ t.aU t.aW)):=by
 refine cm T.FW YH ?_ ?_
 ·intro ds Q h
  obtain⟨m,G,l,j,rfl,hm,hG,hl,hr,q⟩:=h<;>rfl
 ·intro aA A outer s H E hr
  refine⟨_,(aT (bA (gG [("lead_row",2),("field",0),("place",3)] ["row"] rfl (nU (bv 1)) (λ_ _ _ _=>(du (i:=3) (show(["lead_row","field","place","row"]:List Str).Nodup by decide +kernel) rfl (av (lookup_relabel_local rfl)) (by decide) (bw (lookup_relabel_local rfl)))) (λ_ _ _ _=>g8) (λ_ _ _ _=>(rR (P:=P) (w:=w) (K:=K) (mg:=mg) (base:=base) (n:=1) (bv 1) (hr.mono (by decide)) (ao (bv 3) (ao (cT (bv 3) (bv 2) (λ_ _=>rfl)) (ao (bv 0) aP))))) rfl ⟨rfl,⟨rfl,⟨rfl,trivial⟩⟩⟩ (λ_=>by repeat' (first | exact trivial | refine⟨.inl rfl,?_⟩ | refine⟨.inr (.inl rfl),?_⟩ | refine⟨.inr (.inr ⟨_,rfl⟩),?_⟩)) (λ_=>⟨⟨rfl,.inl rfl,.inl rfl,_,rfl,rfl⟩,⟨⟨rfl,.inl rfl,.inl rfl,_,rfl,rfl⟩,⟨⟨rfl,.inl rfl,.inl rfl,_,rfl,rfl⟩,trivial⟩⟩⟩) rfl (by decide +kernel)))),λds Q h=>?_⟩
  obtain⟨m,G,l,j,rfl,hm,hG,hl,hr,q⟩:=h
  walk_at"l3"
  refine i7 G (λr=>D.lst false (aE r)) (λr=>D.lst true (aE (eR (λx y=>aI m x (gm m (r.getD j 0) y)) r l))) (by rw[ft];rfl) (λa b h=>yW a b h) (λr bU=>?_) (.inr λr _=>mQ _) (by rw[sL];omega) ?_
  ·obtain⟨h1,h2,h3⟩:=hr r bU
   obtain⟨C,ns,zs,sp,e1,e2,e3,e4⟩:=N4 (P:=P) (w:=w) (base:=base) T hm
   walk_at"l3"
   refine⟨C,ns,zs,sp,e1,e2,e3,.int (r.getD j 0:Nat),by rw[yU (by omega) (by omega),jQ],e4 _ _ _ _ (h3.getD (by have:=(dw hm).lo;omega) j) hl h2 ⟨rfl,rfl⟩⟩
  ·rw[aF,cV]at q
   exact q
noncomputable abbrev wH(K:Frag):bx:=λds Q=>∃(C:Addr) (ns:List Str) (xs:List D) (n:Int) (many:Nat) (l:List Int) (r:Int),ds=[.obj C ns xs,.int n]/\cR K C/\bj K C "powers"/\bj K C "many"/\(ns.zip xs).lookup ("powers":Str)=some (.lst false (aC l))/\(ns.zip xs).lookup ("many":Str)=some (.int many)/\2<=many/\l[(n%((many:Int)-1)).toNat]?=some r/\Q (.int r)
theorem wI(T:Txt K mg t):aQ P w K mg base aX 1 t.wt t.EF ["self","n"] (bB (wH K)):=by
 refine cm T.Zb YI ?_ ?_
 ·intro ds Q h
  obtain⟨C,ns,xs,n,many,l,r,rfl,hC,h1,h2,h3,h4,h5,h6,q⟩:=h<;>rfl
 ·intro aA A outer s H E hr
  refine⟨_,(aT (bA (eE (cT (eN (K:=K) (bv 0)) (ah (aL gC (bv 1) (ah (aL dE (eN (K:=K) (bv 0)) (ah ay))))) (λ_ _=>rfl))))),λds Q h=>?_⟩
  obtain⟨C,ns,xs,n,many,l,r,rfl,hC,h1,h2,h3,h4,h5,h6,q⟩:=h
  walk_at"l3"
  refine⟨C,ns,xs,_,rfl,hC,h1,h3,C,ns,xs,_,rfl,hC,h2,h4,?_⟩
  refine⟨by omega,_,mm (d:=.int r) (iN _ (by omega)) ?_,rfl,q⟩
  unfold aC
  rw[cJ,h6];rfl
theorem Φ(T:Txt K mg t){m:Bool × Nat}(hm:m∈aw){n:Int}{Q:D->Prop}(q:Q (.int (eS m n:Nat))):WR P w K mg base 1 t.aU t.aW m "step_power" [.int n] Q:=by
 have hF:=dw hm
 have hl:=WX hm n
 obtain⟨k,b⟩:=m
 cases k with
 | true=>exact⟨_,_,_,wH K,rfl,⟨T.eZ,_,_,_,T.wA,wI T,T.wu⟩,by decide,_,_,_,_,aa (true,b),fl (true,b),_,rfl,T.eZ,T.sF,T.sE,rfl,rfl,hF.lo,hl,q⟩
 | false=>exact⟨_,_,_,wH K,rfl,⟨T.gb,_,_,_,T.wD,wI T,T.wu⟩,by decide,_,_,_,_,aa (false,b),fl (false,b),_,rfl,T.gb,T.wC,T.sG,rfl,rfl,hF.lo,hl,q⟩
noncomputable abbrev N6(t:iw)(P:Program)(w:World)(K:Frag)(mg:Str->Option Value)(base:Heap):mH:=λds Q Ex=>∃(m:Bool × Nat) (a b:Nat),ds=[fD t.aU t.aW m,.int a,.int b]/\m∈aw/\a<aa m/\b<aa m/\(b=0->Ex t.fZ)/\(b≠0->∀r:Nat,r<aa m->gm m r b=a->Q (.int (r:Nat)))
theorem N7(T:Txt K mg t):aQ P w K mg base (kN P w) 2 t.zA t.EG ["self","a","b"] (vt (N6 t P w K mg base)):=by
 refine KO T.Zc YJ ?_ ?_
 ·intro ds Q Ex h
  obtain⟨m,a,b,rfl,hm,ha,hb,qx,q⟩:=h<;>rfl
 ·intro aA A outer s H E hr
  refine⟨_,(aO (fk (et (kW (hE hr)) (bv 2) (ah ay) (dB _)) (aT (KU T.NX rfl (by rfl) (ao (ah J2) aP))) fj)
   (aO (fk (et (kW (hE hr)) (bv 1) (ah ay) (dB _)) (aT (bA ay)) fj)
   (aT (bA (rR (P:=P) (w:=w) (K:=K) (mg:=mg) (base:=base) (n:=1) (bv 0) (hr.mono (by decide)) (ao (ah (aL dE (cT (eN (K:=K) (bv 0)) (bv 1) (λ_ _=>rfl)) (cT (eN (K:=K) (bv 0)) (bv 2) (λ_ _=>rfl)))) aP)))))),λds Q Ex h=>?_⟩
  obtain⟨m,a,b,rfl,hm,ha,hb,qx,q⟩:=h
  refine aN λU hU=>?_
  walk_at"l3"
  split
  ·rename_i h0
   exact⟨by decide,qx (by omega)⟩
  ·rename_i h0
   have b0:b≠0:=by omega
   refine hU _ ?_
   clear hU U
   refine aN λU hU=>?_
   walk_at"l3"
   split
   ·rename_i h1
    have a0:a=0:=by omega
    subst a0
    exact q b0 0 ha (fq m b (cw m hm))
   ·rename_i h1
    have a0:a≠0:=by omega
    refine hU _ ?_
    clear hU U
    have hF:=dw hm
    obtain⟨r,e,zb,Ψ⟩:=LU hm (show 1<=a by omega) ha (show 1<=b by omega) hb
    have qr:=q b0 r zb Ψ
    obtain⟨k,n⟩:=m
    cases k with
    | true =>
     walk_at"l3"
     have ll:(dv (fl (true,n))).length=aa (true,n):=(vL _ _).trans hF.len
     have n0:=iN (lg (true,n) a-lg (true,n) b) (show(aa (true,n):Int)-1≠0 by have:=hF.lo;omega)
     have n1:=jR (lg (true,n) a-lg (true,n) b) (show(0:Int)<(aa (true,n):Int)-1 by have:=hF.lo;omega)
     refine⟨_,_,_,wH K,rfl,⟨T.eZ,_,_,_,T.wA,wI T,T.wu⟩,by decide,_,_,_,_,rfl,T.eZ,T.sD,rfl,_,j9 (by omega) (by rw[ll];omega),_,_,_,_,rfl,T.eZ,T.sD,rfl,_,j9 (by omega) (by rw[ll];omega),?_⟩
     refine⟨_,_,_,_,aa (true,n),fl (true,n),r,rfl,T.eZ,T.sF,T.sE,rfl,rfl,hF.lo,?_,qr⟩
     have hk:((lg (true,n) a-lg (true,n) b)%((aa (true,n):Int)-1)).toNat<(fl (true,n)).length:=by have:=hF.len;omega
     show(fl (true,n))[((lg (true,n) a-lg (true,n) b)%((aa (true,n):Int)-1)).toNat]?=some (r:Int)
     rw[<-e]
     unfold pw
     rw[aV,aR hk];rfl
    | false =>
     walk_at"l3"
     have ll:(dv (fl (false,n))).length=aa (false,n):=(vL _ _).trans hF.len
     have n0:=iN (lg (false,n) a-lg (false,n) b) (show(aa (false,n):Int)-1≠0 by have:=hF.lo;omega)
     have n1:=jR (lg (false,n) a-lg (false,n) b) (show(0:Int)<(aa (false,n):Int)-1 by have:=hF.lo;omega)
     refine⟨_,_,_,wH K,rfl,⟨T.gb,_,_,_,T.wD,wI T,T.wu⟩,by decide,_,_,_,_,rfl,T.gb,T.wB,rfl,_,j9 (by omega) (by rw[ll];omega),_,_,_,_,rfl,T.gb,T.wB,rfl,_,j9 (by omega) (by rw[ll];omega),?_⟩
     refine⟨_,_,_,_,aa (false,n),fl (false,n),r,rfl,T.gb,T.wC,T.sG,rfl,rfl,hF.lo,?_,qr⟩
     have hk:((lg (false,n) a-lg (false,n) b)%((aa (false,n):Int)-1)).toNat<(fl (false,n)).length:=by have:=hF.len;omega
     show(fl (false,n))[((lg (false,n) a-lg (false,n) b)%((aa (false,n):Int)-1)).toNat]?=some (r:Int)
     rw[<-e]
     unfold pw
     rw[aV,aR hk];rfl
theorem Ω(T:Txt K mg t)(m:Bool × Nat):yR P w K mg base 2 "over" (if m.1 then t.aU else t.aW) (N6 t P w K mg base):=by
 obtain⟨k,n⟩:=m
 cases k with
 | true=>exact⟨T.eZ,_,_,_,T.Gi,N7 T,T.Nk⟩
 | false=>exact⟨T.gb,_,_,_,T.Gp,N7 T,T.Nk⟩
noncomputable abbrev aE3(t:iw)(P:Program)(w:World)(K:Frag)(mg:Str->Option Value)(base:Heap):bx:=λds Q=>∃(m:Bool × Nat) (G:List (List Nat)),ds=[fD t.aU t.aW m,.lst false (aF false G)]/\m∈aw/\G.length<=900/\RT (aa m) (af G) G/\af G<=900/\Q (.lst true (aF true (bO m G)))
theorem aE4(T:Txt K mg t):aQ P w K mg base aX 3 t.EH t.EI ["field","table"] (bB (aE3 t P w K mg base)):=by
 refine cm T.Nl mS ?_ ?_
 ·intro ds Q h
  obtain⟨m,G,rfl,hm,hG,hR,hw,q⟩:=h<;>rfl
 ·intro aA A outer s H E hr
  refine⟨_,(aO (bo (i:=2) mS.nd rfl (av rfl) (gz eW))
   (aO (bo (i:=3) mS.nd rfl (av rfl) (eE (bv 1)))
   (aO (gA fc rfl (jF rfl T.gJ (ao (ah (cH ((NZ T).mono (by decide)) hr rfl T.Nf T.FV.kp T.Ng bE (ao (bv 1) aP))) aP)) (du (i:=4) mS.nd rfl (av rfl))
    (J4 3 (aO (bo (i:=5) mS.nd rfl (av rfl) (cH ((χ T).mono (by decide)) hr rfl T.Y1 T.Nh.kp T.Y2 bE (ao (bv 3) (ao (bv 4) aP))))
    (aT (fk (et U8 (bv 5) (ah J1) (dB _)) (aO (bo (i:=6) mS.nd rfl (av rfl) (rR (P:=P) (w:=w) (K:=K) (mg:=mg) (base:=base) (n:=1) (bv 0) (hr.mono (by decide)) (ao (ah (WL (P:=P) (w:=w) (K:=K) (mg:=mg) (base:=base) (n:=2) (bv 0) (hr.mono (by decide)) (ao (ah ay) (ao (cT (cT (bv 3) (bv 5) (λ_ _=>rfl)) (bv 4) (λ_ _=>rfl)) aP)))) (ao (cT (bv 3) (bv 5) (λ_ _=>rfl)) aP))))
     (aO (bo (i:=3) mS.nd rfl (av rfl) (cH ((N5 T).mono (by decide)) hr rfl T.Ni T.FW.kp T.Nj bE (ao (bv 0) (ao (ah (aL gB (ah (K4 (bv 3) KC (KD (bv 5)))) (ah (K4 (bv 3) (KD (ah (aL gB (bv 5) (ah ay)))) KC)))) (ao (bv 6) (ao (bv 4) aP))))))
     (aT (bo (i:=2) mS.nd rfl (av rfl) (W6 (cH ((N5 T).mono (by decide)) hr rfl T.Ni T.FW.kp T.Nj bE (ao (bv 0) (ao (bv 2) (ao (bv 6) (ao (bv 4) aP))))) (gz (fi (em 6) eW))))))) fj)))))
   (aT (bA (em 2)))))),λds Q h=>?_⟩
  obtain⟨m,G,rfl,hm,hG,hR,hw,q⟩:=h
  have dX:=(dw hm).lo
  refine aN λU hU=>?_
  walk_at"l3"
  refine⟨by decide,hU _ ?_⟩
  clear hU U
  refine aN λU hU=>?_
  walk_at"l3"
  refine hU _ ?_
  clear hU U
  refine aN λU hU=>?_
  walk_at"l3"
  refine⟨G,rfl,by omega,λr bU=>?_,?_⟩
  ·rw[(hR r bU).1];omega
  refine⟨_,rfl,⟨by omega,by omega⟩,?_⟩
  refine ot (λk δ=>∃(o:Bool) (o1 o2 o3:Option D),δ=[some (fD t.aU t.aW m),some (D.lst false (aF false G)),some (D.lst true (aF true (iG m G k).1)),some (D.lst o (aF o (iG m G k).2)),o1,o2,o3]) ⟨false,none,none,none,rfl⟩ ?_ ?_
  ·rintro k δ hk ⟨o,o1,o2,o3,rfl⟩
   have I:=yZ hm hR k
   rw[CS]
   generalize iG m G k=s at I ⊢
   simp only[gN,nS,jr,jq,tG,tF,tH,exists_eq_left',dZ,ft]
   clear hU
   have il:=I.l
   refine aN λU hU=>?_
   walk_at"l3"
   refine⟨s.2,k,rfl,by omega,λr bU=>by rw[(I.b r bU).1];omega,?_⟩
   cases e:iF s.2 k with
   | none =>
    rw[show fW m s k=s by unfold fW;rw[e]]at hU
    refine hU _ ?_
    walk_at"l3"
    exact⟨false,_,_,_,⟨rfl,rfl⟩,rfl,rfl,rfl⟩
   | some i =>
    obtain⟨hi,h1,h2⟩:=yY e
    have er:fW m s k=(eX m s.1 (cX m s.2 i k) k++[cX m s.2 i k],eX m (s.2.take i++s.2.drop (i+1)) (cX m s.2 i k) k):=by unfold fW;rw[e]
    rw[er]at hU
    refine hU _ ?_
    clear hU
    walk_at"l3"
    obtain⟨C,ns,xs,sp,e1,e2,e3,e4⟩:=Δ (P:=P) (w:=w) (base:=base) T hm
    refine aN λU hU=>?_
    walk_at"l3"
    obtain⟨lw,lr⟩:=I.b _ (eQ hi)
    have bk:=lr.getD (show 0<aa m by omega) k
    refine⟨C,ns,xs,sp,e1,e2,e3,_,_,_,_,yS _ _ m,Ω T m,WN m _ (by decide),.lst false (aE s.2[i]),CQ false hi,?_⟩
    dsimp only
    refine⟨.int (s.2[i].getD k 0:Nat),by rw[yU (by omega) (by omega),jQ],m,1,s.2[i].getD k 0,by rw[yS];rfl,hm,dX,bk,λz=>absurd z h1,λ_ f hf hfo=>⟨rfl,.lst false (aE s.2[i]),CQ false hi,?_⟩⟩
    have ef:vX m (s.2[i].getD k 0)=f:=Ma hm hf hfo
    rw[CP]
    refine e4 _ _ _ hf lr (by omega) ⟨by rw[mQ,l8],hU _ ?_⟩
    have el:s.2[i].map (gm m f)=cX m s.2 i k:=by unfold cX;rw[h2,ef]
    rw[el]
    have ll:(cX m s.2 i k).length=af G:=by rw[<-el,bQ];exact lw
    have la:AllLt (aa m) (cX m s.2 i k):=λx hx=>by
     rw[<-el]at hx
     obtain⟨y,_,rfl⟩:=cC.mp hx
     exact cI hm _ _
    generalize cX m s.2 i k=ld at ll la ⊢
    clear hU
    refine aN λU hU=>?_
    walk_at"l3"
    have GI:∀r∈s.2.take i++s.2.drop (i+1),r.length=af G/\AllLt (aa m) r:=λr bU=>by
     rcases cB.mp bU with h | h
     ·exact I.b r (Ag h)
     ·exact I.b r (xk h)
    have N8:∀X:List (List Nat),(D.lst true (aF true X)).fr=true:=λX=>by rw[eU,vV];rfl
    rw[VF,show((i:Int)+1)=((i+1:Nat):Int) by omega,VG,yX,ft]
    refine⟨by rw[o9,pf];omega,m,_,ld,k,rfl,hm,by rw[jj,o9,pf];omega,la,λr bU=>⟨by rw[(GI r bU).1];exact hk,by rw[(GI r bU).1];omega,(GI r bU).2⟩,N8 _,hU _ ?_⟩
    clear hU
    walk_at"l3"
    refine⟨m,s.1,ld,k,rfl,hm,by omega,la,λr bU=>⟨by rw[(I.a r bU).1];exact hk,by rw[(I.a r bU).1];omega,(I.a r bU).2⟩,N8 _,by decide,_,_,rfl,rfl,?_,true,_,_,_,yX true _ [ld],⟨rfl,rfl⟩,rfl,rfl,rfl⟩
    rw[lD,bQ]
    show s.1.length+1<=_
    omega
  ·rintro δ ⟨o,o1,o2,o3,rfl⟩
   refine hU _ ?_
   walk_at"l3"
   exact q
noncomputable abbrev aE8:bx:=λds Q=>∃T:List (List Nat),ds=[.lst false (aF false T)]/\T.length<=1000/\Q (.lst true (aF true T))
theorem N9(T:Txt K mg t):aQ P w K mg base aX 1 t.EJ t.EK ["table"] (bB (aE8 )):=by
 refine cm T.FX YK ?_ ?_
 ·intro ds Q h
  obtain⟨G,rfl,hG,q⟩:=h<;>rfl
 ·intro aA A outer s H E hr
  refine⟨_,(aT (bA (gG [] ["row"] rfl (nU (bv 0)) (λ_ _ _ _=>(du (i:=0) (show(["row"]:List Str).Nodup by decide +kernel) rfl (av (lookup_relabel_local rfl)) (by decide) (bw (lookup_relabel_local rfl)))) (λ_ _ _ _=>g8) (λ_ _ _ _=>(Kv (Vd) (by rfl) T.NV JE (ao (bv 0) aP))) rfl trivial (λ_=>by repeat' (first | exact trivial | refine⟨.inl rfl,?_⟩ | refine⟨.inr (.inl rfl),?_⟩ | refine⟨.inr (.inr ⟨_,rfl⟩),?_⟩)) (λ_=>trivial) rfl (by decide +kernel)))),λds Q h=>?_⟩
  obtain⟨G,rfl,hG,q⟩:=h
  walk_at"l3"
  refine i7 G (λr=>D.lst false (aE r)) (λr=>D.lst true (aE r)) (by rw[ft];rfl) (λa b h=>yW a b h) (λr bU=>?_) (.inr λr _=>mQ r) (by rw[sL];omega) q
  walk_at"l3"
noncomputable abbrev bK7:bx:=λds Q=>∃T:List (List Nat),ds=[.lst false (aF false T)]/\T.length<=1000/\(∀r∈T,r.length<=1000/\∃x∈r,x≠0)/\Q (.lst true (aE (T.map cx)))
theorem Oa(T:Txt K mg t):aQ P w K mg base aX 1 t.EL t.EM ["rows"] (bB (bK7 )):=by
 refine cm T.FY YL ?_ ?_
 ·intro ds Q h
  obtain⟨G,rfl,hG,hr,q⟩:=h<;>rfl
 ·intro aA A outer s H E hr
  refine⟨_,(aT (bA (gG [] ["row"] rfl (nU (bv 0)) (λ_ _ _ _=>(du (i:=0) (show(["row"]:List Str).Nodup by decide +kernel) rfl (av (lookup_relabel_local rfl)) (by decide) (bw (lookup_relabel_local rfl)))) (λ_ _ _ _=>g8) (by exact λ_ _ _ _=>(eE (cT (ah (gG [] ["place","x"] rfl (Cp rfl T.Gw (ao (bv 0) aP)) (λ_ _ _ _=>(rB (i1:=0) (i2:=1) rfl (show(["place","x"]:List Str).Nodup by decide +kernel) rfl (av (lookup_relabel_local rfl)) rfl (av (lookup_relabel_local rfl)) (by decide) (by decide) (bw (lookup_relabel_local rfl)) (bw (lookup_relabel_local rfl)))) (λ_ _ _ _=>(Kh (et (uQ (hE hr)) (bv 1) (ah ay) (dB _)))) (λ_ _ _ _=>(eE (bv 0))) rfl trivial (λ_=>by repeat' (first | exact trivial | refine⟨.inl rfl,?_⟩ | refine⟨.inr (.inl rfl),?_⟩ | refine⟨.inr (.inr ⟨_,rfl⟩),?_⟩)) (λ_=>trivial) rfl (by decide +kernel))) (ah ay) (λ_ _=>rfl)))) rfl trivial (λ_=>by repeat' (first | exact trivial | refine⟨.inl rfl,?_⟩ | refine⟨.inr (.inl rfl),?_⟩ | refine⟨.inr (.inr ⟨_,rfl⟩),?_⟩)) (λ_=>trivial) rfl (by decide +kernel)))),λds Q h=>?_⟩
  obtain⟨G,rfl,hG,hr,q⟩:=h
  walk_at"l3"
  refine i7 G (λr=>D.lst false (aE r)) (λr=>D.int (cx r:Nat)) (by rw[ft];rfl) (λa b h=>yW a b h) (λr bU=>?_) (.inr λr _=>rfl) (by rw[sL];omega) ?_
  ·obtain⟨h1,x,hx,h3⟩:=hr r bU
   walk_at"l3"
   refine L9 (au r.length) (λ(i:Nat)=>D.tup [.int (i:Int),.int ((r.getD i 0:Nat):Int)]) (λ(i:Nat)=>D.int (i:Int)) (λi=>r.getD i 0 != 0) (Xi r) (λa b h=>by injection h with h;simp at h;omega) (λi hi=>?_) (.inr λ_ _ _=>rfl) (by rw[cK,sL];omega) ?_
   ·walk_at"l3"
    refine⟨?_,λ_=>trivial⟩
    by_cases h0:r.getD i 0=0
    ·rw[h0];rfl
    ·rw[decide_eq_false (by omega),bne_iff_ne.mpr h0];rfl
   ·refine⟨.int (cx r:Nat),L3.K2 (k:=0) ?_,rfl,rfl⟩
    rw[cJ,Xj ⟨x,hx,h3⟩];rfl
  ·rw[dF,cV]at q
   exact q
noncomputable abbrev aw8:bx:=λds Q=>∃(T:List (List Nat)) (w:Nat),ds=[.lst false (aF false T),.int w]/\T.length<=1000/\w<=1000/\(∀r∈T,r.length<=1000/\∃x∈r,x≠0)/\Q (.lst true (aE (eA T w)))
theorem Ob(T:Txt K mg t):aQ P w K mg base aX 2 t.EN t.EO ["rows","width"] (bB (aw8 )):=by
 refine cm T.FZ M6 ?_ ?_
 ·intro ds Q h
  obtain⟨G,w,rfl,hG,hw,hr,q⟩:=h<;>rfl
 ·intro aA A outer s H E hr
  refine⟨_,(aO (bo (i:=2) M6.nd rfl (bw rfl) (cH ((Oa T).mono (by decide)) hr rfl T.Np T.FY.kp T.Nq bE (ao (bv 0) aP)))
   (aT (bA (gG [("taken",2)] ["place"] rfl (jF rfl T.gJ (ao (bv 1) aP)) (λ_ _ _ _=>(du (i:=1) (show(["taken","place"]:List Str).Nodup by decide +kernel) rfl (av (lookup_relabel_local rfl)) (by decide) (bw (lookup_relabel_local rfl)))) (λ_ _ _ _=>(Kh (et Xd (bv 1) (bv 0) (by with_unfolding_all rfl)))) (λ_ _ _ _=>(eE (bv 1))) rfl ⟨rfl,trivial⟩ (λ_=>by repeat' (first | exact trivial | refine⟨.inl rfl,?_⟩ | refine⟨.inr (.inl rfl),?_⟩ | refine⟨.inr (.inr ⟨_,rfl⟩),?_⟩)) (λ_=>⟨⟨rfl,.inl rfl,.inl rfl,_,rfl,rfl⟩,trivial⟩) rfl (by decide +kernel))))),λds Q h=>?_⟩
  obtain⟨G,w,rfl,hG,hw,hr,q⟩:=h
  refine aN λU hU=>?_
  walk_at"l3"
  refine⟨G,rfl,hG,hr,?_⟩
  refine hU _ ?_
  clear hU U
  walk_at"l3"
  refine⟨⟨by omega,by omega⟩,L9 (au w) (λ(i:Nat)=>D.int (i:Int)) (λ(i:Nat)=>D.int (i:Int)) (λj=>!(G.map cx).contains j) (yV _ rfl) ow (λj hj=>?_) (.inr λ_ _ _=>rfl) (by rw[cK,sL];omega) ?_⟩
  ·walk_at"l3"
   exact⟨_,rfl,by rw[Xl],λ_=>trivial⟩
  ·rw[dF]at q
   exact q
noncomputable abbrev Oc:bx:=λds Q=>∃(d:D) (a b:Nat),ds=[d,.int a,.int b]/\Q (.int (a ^^^ b:Nat))
theorem at8(T:Txt K mg t):aQ P w K mg base aX 1 t.ER t.ES ["self","a","b"] (bB (Oc )):=by
 refine cm T.Zf at2 ?_ ?_
 ·intro ds Q h
  obtain⟨d,a,b,rfl,q⟩:=h<;>rfl
 ·intro aA A outer s H E hr
  refine⟨_,(aT (bA (aL Ki (bv 1) (bv 2)))),λds Q h=>?_⟩
  obtain⟨d,a,b,rfl,q⟩:=h
  walk_at"l3"
  rw[uj];exact q
noncomputable abbrev Od(K:Frag):bx:=λds Q=>∃(C:Addr) (p:Nat) (a b:Int),ds=[vO C p,.int a,.int b]/\cR K C/\bj K C "prime"/\0<p/\Q (.int ((a-b)%p))
theorem aq1(T:Txt K mg t):aQ P w K mg base aX 1 t.ET t.EU ["self","a","b"] (bB (Od K)):=by
 refine cm T.Zh YM ?_ ?_
 ·intro ds Q h
  obtain⟨C,p,a,b,rfl,hC,hn,hp,q⟩:=h<;>rfl
 ·intro aA A outer s H E hr
  refine⟨_,(aT (bA (aL gC (ah (aL dE (bv 1) (bv 2))) (eN (K:=K) (bv 0))))),λds Q h=>?_⟩
  obtain⟨C,p,a,b,rfl,hC,hn,hp,q⟩:=h
  walk_at"l3"
  refine⟨C,_,_,.int p,rfl,hC,hn,rfl,?_⟩
  exact⟨by omega,q⟩
theorem b17(T:Txt K mg t){m:Bool × Nat}(h0:0<m.2):∃C ns xs sp,fD t.aU t.aW m=.obj C ns xs/\jL P w K mg base 1 "minus" C sp/\("minus":Str) ∉ ns/\∀(a b:Nat) (Q:D->Prop),Q (.int (gl m a b))->sp [.obj C ns xs,.int a,.int b] Q:=by
 obtain⟨k,n⟩:=m
 cases k with
 | true=>exact⟨_,_,_,Oc,rfl,⟨T.eZ,_,_,_,T.Z7,at8 T,T.Zg⟩,by decide,λa b Q q=>⟨_,a,b,rfl,q⟩⟩
 | false=>exact⟨_,_,_,Od K,rfl,⟨T.gb,_,_,_,T.γ,aq1 T,T.Zi⟩,by decide,λa b Q q=>⟨_,n,a,b,rfl,T.gb,T.sH,h0,q⟩⟩
noncomputable abbrev ao2(cb cp:Addr):bx:=λds Q=>∃(m:Bool × Nat) (T:List (List Nat)) (w:Nat),ds=[fD cb cp m,.lst false (aF false T),.int w]/\m∈aw/\T.length<=1000/\w<=1000/\RT (aa m) w T/\(∀r∈T,∃x∈r,x≠0)/\Q (.lst true (aF true (gH m T w)))
theorem ao3(T:Txt K mg t):aQ P w K mg base aX 3 t.EV t.EW ["field","rows","width"] (bB (ao2 t.aU t.aW)):=by
 refine cm T.Nu sq ?_ ?_
 ·intro ds Q h
  obtain⟨m,G,wi,rfl,hm,hG,hw,hR,hr,q⟩:=h<;>rfl
 ·intro aA A outer s H E hr
  refine⟨_,(aO (bo (i:=3) sq.nd rfl (av rfl) (cH ((Oa T).mono (by decide)) hr rfl T.Np T.FY.kp T.Nq bE (ao (bv 1) aP)))
   (aO (bo (i:=4) sq.nd rfl (av rfl) (gz eW))
   (J4 3 (aO (gA fc rfl (BU (cH ((Ob T).mono (by decide)) hr rfl T.Nr T.FZ.kp T.Nt bE (ao (bv 1) (ao (bv 2) aP)))) (du (i:=5) sq.nd rfl (av rfl))
    (aO (bo (i:=6) sq.nd rfl (av rfl) (aL g9 (ah (gz (fi ay eW))) (bv 2)))
    (aO (Cc (i:=6) rfl (by first | exact av rfl | exact bw (av rfl)) ay (bv 5))
    (aO (gA fc rfl (Co rfl T.Gy (ao (bv 3) (ao (bv 1) aP))) (rB (i1:=7) (i2:=8) rfl sq.nd rfl (av rfl) rfl (av rfl))
     (aT (Cc (i:=6) rfl (by first | exact av rfl | exact bw (av rfl)) (rR (P:=P) (w:=w) (K:=K) (mg:=mg) (base:=base) (n:=1) (bv 0) (hr.mono (by decide)) (ao (ah ay) (ao (cT (bv 8) (bv 5) (λ_ _=>rfl)) aP))) (bv 7))))
    (aT (Cb (i:=4) rfl (by first | exact av rfl | exact bw (av rfl)) (em 6)))))))
   (aT (bA (em 4))))))),λds Q h=>?_⟩
  obtain⟨m,G,wi,rfl,hm,hG,hw,hR,hr,q⟩:=h
  have m0:=cw m hm
  have dX:=(dw hm).lo
  refine aN λU hU=>?_
  walk_at"l3"
  refine⟨G,rfl,hG,λr bU=>⟨by rw[(hR r bU).1];exact hw,hr r bU⟩,hU _ ?_⟩
  clear hU U
  refine aN λU hU=>?_
  walk_at"l3"
  refine⟨by decide,hU _ ?_⟩
  clear hU U
  refine⟨_,rfl,?_⟩
  rw[CP]
  simp only[jr,jq]
  refine aN λU hU=>?_
  walk_at"l3"
  refine⟨G,wi,rfl,hG,hw,λr bU=>⟨by rw[(hR r bU).1];exact hw,hr r bU⟩,?_⟩
  refine⟨_,rfl,?_⟩
  have hfp:∀j∈eA G wi,j<wi:=λj hj=>bP.mp (lY.mp hj).1
  have lfp:(eA G wi).length<=wi:=by
   have:=PF (λj=>!(G.map cx).contains j) (au wi)
   rw[cK]at this
   exact this
  rw[oy]
  refine iz.mk (λi δ=>∃o1 o2 o3 o4,δ=[some (fD t.aU t.aW m),some (D.lst false (aF false G)),some (D.int wi),some (D.lst false (aE (G.map cx))),some (D.lst true (aF true (((eA G wi).take i).map (eY m G wi)))),o1,o2,o3,o4]) ⟨_,_,_,_,rfl⟩ ?_ ?_
  ·rintro i d δ hd ⟨o1,o2,o3,o4,rfl⟩
   rw[dF,cJ]at hd
   obtain⟨f,hf,rfl⟩:=Af.mp hd
   have hfw:=hfp f (pd hf)
   clear hd
   refine aN λU hU=>?_
   walk_at"l3"
   have er:aC (aK wi 0)=aE (aK wi 0):=by
    rw[dF,xH];unfold aC;rw[xH];rfl
   rw[jQ,er]
   refine⟨by decide,⟨by omega,by omega,by omega⟩,hU _ ?_⟩
   clear hU
   refine aN λU hU=>?_
   walk_at"l3"
   refine⟨_,f,rfl,?_,?_⟩
   ·rw[LY (by omega) (by rw[ka,fA];omega)];rfl
   rw[show(aE (aK wi 0)).set f (D.int 1)=aE ((aK wi 0).set f 1) from LZ _ _ 1]
   refine hU _ ?_
   clear hU
   refine aN λU hU=>?_
   walk_at"l3"
   refine⟨_,_,rfl,rfl,?_⟩
   refine iz.mk (λk δ=>∃o3 o4,δ=[some (fD t.aU t.aW m),some (D.lst false (aF false G)),some (D.int wi),some (D.lst false (aE (G.map cx))),some (D.lst true (aF true (((eA G wi).take i).map (eY m G wi)))),some (D.int f),some (D.lst true (aE ((((G.map cx).zip G).take k).foldl (λx z=>x.set z.1 (aI m 0 (z.2.getD f 0))) ((aK wi 0).set f 1)))),o3,o4]) ⟨_,_,rfl⟩ ?_ ?_
   ·rintro k d δ hd ⟨o3,o4,rfl⟩
    obtain⟨hk,rfl⟩:=Xm hd
    clear hd
    obtain⟨lw,la⟩:=hR _ (eQ hk)
    have xl:=Mc (λz:Nat × List Nat=>z.1) (λz=>aI m 0 (z.2.getD f 0)) (((G.map cx).zip G).take k) ((aK wi 0).set f 1)
    rw[mY,fA]at xl
    obtain⟨C,ns,xs,sp,e1,e2,e3,e4⟩:=b17 (P:=P) (w:=w) (base:=base) T m0
    have hld:cx G[k]<wi:=by
     rw[<-lw]
     obtain⟨x,hx,h0⟩:=hr _ (eQ hk)
     exact Pz ⟨x,hx,by simpa using h0⟩
    have ga:=gF hm (a:=0) (b:=G[k].getD f 0) (by omega) (la.getD (by omega) f)
    walk_at"l3"
    refine⟨C,ns,xs,sp,e1,e2,e3,.int (G[k].getD f 0:Nat),by rw[yU (by omega) (by omega),jQ],e4 0 (G[k].getD f 0) _ ⟨rfl,_,cx G[k],rfl,?_,_,_,?_,rfl,rfl⟩⟩
    ·rw[LY (by omega) (by rw[ka,xl];omega)];rfl
    ·rw[ga.1,LZ,sZ,Ao]
     have ez:((G.map cx).zip G)[k]?=some (cx G[k],G[k]):=by
      rw[List.zip,xp,cJ,aR hk];rfl
     rw[ez];rfl
   ·rintro δ ⟨o3,o4,rfl⟩
    refine hU _ ?_
    walk_at"l3"
    refine⟨⟨_,rfl⟩,by rw[bQ,o9];omega,_,_,_,_,?_,rfl,rfl,rfl,rfl⟩
    rw[show((G.map cx).zip G).take (eL (aE (G.map cx)) (aF false G)).length=(G.map cx).zip G from Ad (by unfold eL;rw[HR,pH,ka,lD];exact bI _),sZ,hf,jo]
    exact yX true _ [eY m G wi f]
  ·rintro δ ⟨o1,o2,o3,o4,rfl⟩
   refine hU _ ?_
   walk_at"l3"
   rw[Ab]
   exact q
noncomputable abbrev aB2(t:iw)(K:Frag):L2.Sp:=λvs H Q _=>∃(F H0:Hp) (x dx C:Addr) (vf vc:V) (m:Bool × Nat) (G:List (List Nat)) (pre:List (Str × V)),vs=[.ref x,vf,vc]/\L3.ae F H0/\H0 x=none/\L3.ae H0 H/\H x=some (.ins C dx (pre++[]))/\wj pre/\Yf K C /\
 R F H0 [fD t.aU t.aW m] [vf] []/\R F H0 [.lst false (aF false G)] [vc] []/\m∈aw/\RT (aa m) (af G) G/\G.length<=64/\af G<=64 /\
 ∀H' p1 p2 p3 A1 A2 A3,bH x H H'->H' x=some (.ins C dx (pre++oR.zip [vf,.int (af G:Nat),.ref p1,.ref p2,.ref p3,.int ((eA (bO m G) (af G)).length:Nat)]))->R (λ_=>none) H' [.lst true (aF true G)] [.ref p1] A1->R (λ_=>none) H' [.lst true (aF true (gH m (bO m G) (af G)))] [.ref p2] A2->R (λ_=>none) H' [.lst true (aE (eA (bO m G) (af G)))] [.ref p3] A3->(A1++(A2++A3)).Nodup->(∀a∈A1++(A2++A3),H a=none)->Q .ak H'
theorem aB3(T:Txt K mg t):aQ P w K mg base aX 4 t.EX t.EY ["self","field","checks"] (aB2 t K):=by
 refine T.Zl.ok M7 (λvs H Q E h=>?_) λaA A outer s H vs Q E hr h=>?_
 ·obtain⟨F,H0,x,dx,C,vf,vc,m,G,pre,rfl,_⟩:=h;rfl
 obtain⟨F,H0,x,dx,C,vf,vc,m,G,pre,rfl,e0,j6,s0,hx,hp,hC,rf,rc,hm,hG,hGl,hGw,q⟩:=h
 refine⟨_,dS (AO (i:=3) M7.nd rfl (av rfl) (iW ((aE4 T).mono (by decide)) hr rfl T.Zd T.Nl.kp T.Ze .nil bE (cn (pv 1) (cn (pv 2) dU))))
  (dS (fF (pv 0) (pv 1) rfl)
  (dS (fF (pv 0) (iW ((NZ T).mono (by decide)) hr rfl T.Nf T.FV.kp T.Ng .nil bE (cn (pv 2) dU)) rfl)
  (dS (fF (pv 0) (iW ((N9 T).mono (by decide)) hr rfl T.Nm T.FX.kp T.Nn .nil bE (cn (pv 2) dU)) rfl)
  (dS (fF (pv 0) (iW ((ao3 T).mono (by decide)) hr rfl T.Zj T.Nu.kp T.Zk .nil bE (cn (pv 1) (cn (pv 3) (cn (nv (pv 0) rfl) dU)))) rfl)
  (dS (fF (pv 0) (iW ((Ob T).mono (by decide)) hr rfl T.Nr T.FZ.kp T.Nt .nil bE (cn (pv 3) (cn (nv (pv 0) rfl) dU))) rfl)
  (kD (fF (pv 0) (A8 IZ rfl T.sO p5 (cn (nv (pv 0) rfl) dU)) rfl))))))),?_⟩
 have hn:=X8 hm hG
 have hk:=Dg hm hG
 obtain⟨_,iR,iL,_⟩:=ke hm hG
 have fR:∀X:List (List Nat),[D.lst true (aF true X)].all D.fr=true:=λX=>by rw[dh,eU,vV];rfl
 have fN:∀X:List Nat,[D.lst true (aE X)].all D.fr=true:=λX=>by rw[dh,mQ];rfl
 refine⟨_,rfl,_,rfl,F,[fD t.aU t.aW m,.lst false (aF false G)],λd=>d=.lst true (aF true (bO m G)),e0.trans s0,R.cons (A:=[]) (rf.shared (L3.ae.refl _) s0) (rc.shared (L3.ae.refl _) s0),⟨m,G,rfl,hm,by omega,hG,by omega,rfl⟩,λd v F1 H1 A1 hd ia Oe he1 h31 r1 nd1 fr1=>?_⟩
 subst hd
 obtain⟨p0,rfl⟩:=we r1
 have cM:=ia.get _ _ hx rfl
 have z1:bH x H H1:=ia.x
 have r1:=r1.p9 (fR _) Oe
 have zG:∀X:List (List Nat),[D.lst true (aF true X)].map D.sh=[D.lst false (aF false X)]:=λX=>by rw[bV,dZ,ft];rfl
 have ak:∀{F' H':Hp} {d:D} {v:V} {A':List Addr},R F' H' [d] [v] A'->[d].all D.fr=true->R (λ_=>none) H' [d] [v] A':=λr h=>r.p9 h (L3.ae.of λb o e=>by cases e)
 have mv:∀{F' H' GJ:Hp} {ds:List D} {vs:List V} {A':List Addr} {fs fs':List (Str × V)},R F' H' ds vs A'->L3.ae H' GJ->GJ x=some (.ins C dx fs)->ds.all D.fr=true->R F' (upd GJ x (.ins C dx fs')) ds vs A':=λr h de hd=>(r.grow (L3.ae.refl _) h λa ha=>(r.lists a ha).2).rO de hd
 refine⟨vf,rfl,.ref x,rfl,x,C,dx,_,rfl,cM,hC.cls,hC.field,hp.lt (by decide),?_⟩
 have r2:=mv r1 (L3.ae.refl _) cM (fR _) (fs':=bf "field" vf (pre++[]))
 have z2:=z1.trans (bH.upd (C:=x) (dx:=dx) cM rfl (o':=.ins C dx (bf "field" vf (pre++[]))))
 have dA:upd H1 x (.ins C dx (bf "field" vf (pre++[]))) x=some (.ins C dx (pre++([("field",vf)]:List (Str × V)))):=by rw[bC,hp.put _ _ _ (by decide)];rfl
 generalize upd H1 x (.ins C dx (bf "field" vf (pre++[])))=H2 at r2 z2 dA ⊢
 have t2:=bH.of0 j6 s0 z2
 refine⟨_,rfl,F,[.lst false (aF false G)],λd=>d=.int (af G:Nat),e0.trans t2,rc.shared (L3.ae.refl _) t2,⟨G,rfl,by omega,λr bU=>by rw[(hG r bU).1];omega,rfl⟩,λd v F3 H3 A3 hd iJ zH he3 h33 r3 nd3 AU=>?_⟩
 subst hd
 cases r3
 have eG:=iJ.get _ _ dA rfl
 refine⟨.ref x,rfl,x,C,dx,_,rfl,eG,hC.cls,hC.length,hp.lt (by show 1<=6;decide),?_⟩
 have r4:=mv r2 iJ eG (fR _) (fs':=bf "length" (.int (af G:Nat)) (pre++([("field",vf)]:List (Str × V))))
 have z4:=(z2.trans (iJ.x (x:=x))).trans (bH.upd (C:=x) (dx:=dx) eG rfl (o':=.ins C dx (bf "length" (.int (af G:Nat)) (pre++([("field",vf)]:List (Str × V))))))
 have ib:upd H3 x (.ins C dx (bf "length" (.int (af G:Nat)) (pre++([("field",vf)]:List (Str × V))))) x=some (.ins C dx (pre++([("field",vf),("length",.int (af G:Nat))]:List (Str × V)))):=by rw[bC,hp.put _ _ _ (by decide)];rfl
 generalize upd H3 x (.ins C dx (bf "length" (.int (af G:Nat)) (pre++([("field",vf)]:List (Str × V)))))=H4 at r4 z4 ib ⊢
 have t4:=bH.of0 j6 s0 z4
 refine⟨_,rfl,F,[.lst false (aF false G)],λd=>d=.lst true (aF true G),e0.trans t4,rc.shared (L3.ae.refl _) t4,⟨G,rfl,by omega,rfl⟩,λd v F5 H5 A5 hd jh hf5 he5 h35 r5 nd5 tX=>?_⟩
 subst hd
 obtain⟨p1,rfl⟩:=we r5
 have gK:=jh.get _ _ ib rfl
 refine⟨.ref x,rfl,x,C,dx,_,rfl,gK,hC.cls,hC.Yg,hp.lt (by show 2<=6;decide),?_⟩
 have r6:=mv r4 jh gK (fR _) (fs':=bf "check_rows" (.ref p1) (pre++([("field",vf),("length",.int (af G:Nat))]:List (Str × V))))
 have k6:=mv (ak r5 (fR _)) (L3.ae.refl _) gK (fR _) (fs':=bf "check_rows" (.ref p1) (pre++([("field",vf),("length",.int (af G:Nat))]:List (Str × V))))
 have z6:=(z4.trans (jh.x (x:=x))).trans (bH.upd (C:=x) (dx:=dx) gK rfl (o':=.ins C dx (bf "check_rows" (.ref p1) (pre++([("field",vf),("length",.int (af G:Nat))]:List (Str × V))))))
 have mT:upd H5 x (.ins C dx (bf "check_rows" (.ref p1) (pre++([("field",vf),("length",.int (af G:Nat))]:List (Str × V))))) x=some (.ins C dx (pre++([("field",vf),("length",.int (af G:Nat)),("check_rows",.ref p1)]:List (Str × V)))):=by rw[bC,hp.put _ _ _ (by decide)];rfl
 generalize upd H5 x (.ins C dx (bf "check_rows" (.ref p1) (pre++([("field",vf),("length",.int (af G:Nat))]:List (Str × V)))))=H6 at r6 k6 z6 mT ⊢
 have n5:∀a∈A5,H a=none:=λa ha=>z4.free (by rw[ib];simp) (tX a ha)
 have t6:=bH.of0 j6 s0 z6
 have e6:=e0.trans t6
 refine⟨_,rfl,_,rfl,.ref x,rfl,x,C,dx,_,.int (af G:Nat),rfl,mT,hC.cls,hC.length,(hp.look _ _ (by decide)).trans rfl,L3.bc F H6 A1,[fD t.aU t.aW m,.lst false (aF false (bO m G)),.int (af G:Nat)],λd=>d=.lst true (aF true (gH m (bO m G) (af G))),nJ e6,R.cons (A:=[]) (rf.shared (g5 e6) t6) (R.cons (A:=[]) (zG _ ▸ r6.bc e6 A1 λ_ h=>h) (.int .nil)),⟨m,bO m G,af G,rfl,hm,by omega,by omega,iR,hn,rfl⟩,λd v F7 H7 A7 hd lX hf7 he7 h37 r7 nd7 Of=>?_⟩
 subst hd
 obtain⟨p2,rfl⟩:=we r7
 have kl:=lX.get _ _ mT rfl
 refine⟨.ref x,rfl,x,C,dx,_,rfl,kl,hC.cls,hC.Yh,hp.lt (by show 3<=6;decide),?_⟩
 have r8:=mv r6 lX kl (fR _) (fs':=bf "word_rows" (.ref p2) (pre++([("field",vf),("length",.int (af G:Nat)),("check_rows",.ref p1)]:List (Str × V))))
 have k8:=mv k6 lX kl (fR _) (fs':=bf "word_rows" (.ref p2) (pre++([("field",vf),("length",.int (af G:Nat)),("check_rows",.ref p1)]:List (Str × V))))
 have w8:=mv (ak r7 (fR _)) (L3.ae.refl _) kl (fR _) (fs':=bf "word_rows" (.ref p2) (pre++([("field",vf),("length",.int (af G:Nat)),("check_rows",.ref p1)]:List (Str × V))))
 have z8:=(z6.trans (lX.x (x:=x))).trans (bH.upd (C:=x) (dx:=dx) kl rfl (o':=.ins C dx (bf "word_rows" (.ref p2) (pre++([("field",vf),("length",.int (af G:Nat)),("check_rows",.ref p1)]:List (Str × V))))))
 have zI:upd H7 x (.ins C dx (bf "word_rows" (.ref p2) (pre++([("field",vf),("length",.int (af G:Nat)),("check_rows",.ref p1)]:List (Str × V))))) x=some (.ins C dx (pre++([("field",vf),("length",.int (af G:Nat)),("check_rows",.ref p1),("word_rows",.ref p2)]:List (Str × V)))):=by rw[bC,hp.put _ _ _ (by decide)];rfl
 generalize upd H7 x (.ins C dx (bf "word_rows" (.ref p2) (pre++([("field",vf),("length",.int (af G:Nat)),("check_rows",.ref p1)]:List (Str × V)))))=H8 at r8 k8 w8 z8 zI ⊢
 have n7:∀a∈A7,H a=none:=λa ha=>z6.free (by rw[mT];simp) (Of a ha)
 have d57:∀a∈A5,a ∉ A7:=λa ha hb=>by
  obtain⟨⟨ws,e⟩,_⟩:=k6.lists a ha
  rw[Of a hb]at e;cases e
 have t8:=bH.of0 j6 s0 z8
 have e8:=e0.trans t8
 refine⟨_,rfl,.ref x,rfl,x,C,dx,_,.int (af G:Nat),rfl,zI,hC.cls,hC.length,(hp.look _ _ (by decide)).trans rfl,L3.bc F H8 A1,[.lst false (aF false (bO m G)),.int (af G:Nat)],λd=>d=.lst true (aE (eA (bO m G) (af G))),nJ e8,R.cons (A:=[]) (zG _ ▸ r8.bc e8 A1 λ_ h=>h) (.int .nil),⟨bO m G,af G,rfl,by omega,by omega,λr bU=>⟨by rw[(iR r bU).1];omega,hn r bU⟩,rfl⟩,λd v F9 H9 A9 hd zJ hf9 he9 h39 r9 nd9 GK=>?_⟩
 subst hd
 obtain⟨p3,rfl⟩:=we r9
 have wJ:=zJ.get _ _ zI rfl
 refine⟨.ref x,rfl,x,C,dx,_,rfl,wJ,hC.cls,hC.MG,hp.lt (by show 4<=6;decide),?_⟩
 have Og:=mv k8 zJ wJ (fR _) (fs':=bf "message_places" (.ref p3) (pre++([("field",vf),("length",.int (af G:Nat)),("check_rows",.ref p1),("word_rows",.ref p2)]:List (Str × V))))
 have Oh:=mv w8 zJ wJ (fR _) (fs':=bf "message_places" (.ref p3) (pre++([("field",vf),("length",.int (af G:Nat)),("check_rows",.ref p1),("word_rows",.ref p2)]:List (Str × V))))
 have GL:=mv (ak r9 (fN _)) (L3.ae.refl _) wJ (fN _) (fs':=bf "message_places" (.ref p3) (pre++([("field",vf),("length",.int (af G:Nat)),("check_rows",.ref p1),("word_rows",.ref p2)]:List (Str × V))))
 have Oi:=(z8.trans (zJ.x (x:=x))).trans (bH.upd (C:=x) (dx:=dx) wJ rfl (o':=.ins C dx (bf "message_places" (.ref p3) (pre++([("field",vf),("length",.int (af G:Nat)),("check_rows",.ref p1),("word_rows",.ref p2)]:List (Str × V))))))
 have oW:upd H9 x (.ins C dx (bf "message_places" (.ref p3) (pre++([("field",vf),("length",.int (af G:Nat)),("check_rows",.ref p1),("word_rows",.ref p2)]:List (Str × V))))) x=some (.ins C dx (pre++([("field",vf),("length",.int (af G:Nat)),("check_rows",.ref p1),("word_rows",.ref p2),("message_places",.ref p3)]:List (Str × V)))):=by rw[bC,hp.put _ _ _ (by decide)];rfl
 generalize upd H9 x (.ins C dx (bf "message_places" (.ref p3) (pre++([("field",vf),("length",.int (af G:Nat)),("check_rows",.ref p1),("word_rows",.ref p2)]:List (Str × V)))))=H10 at Og Oh GL Oi oW ⊢
 have n9:∀a∈A9,H a=none:=λa ha=>z8.free (by rw[zI];simp) (GK a ha)
 have d59:∀a∈A5,a ∉ A9:=λa ha hb=>by
  obtain⟨⟨ws,e⟩,_⟩:=k8.lists a ha
  rw[GK a hb]at e;cases e
 have d79:∀a∈A7,a ∉ A9:=λa ha hb=>by
  obtain⟨⟨ws,e⟩,_⟩:=w8.lists a ha
  rw[GK a hb]at e;cases e
 obtain⟨ws,lw,ew⟩:∃ws,ws.length=(eA (bO m G) (af G)).length/\H10 p3=some (.lst ws):=by
  cases GL with
  | own h _ r _=>exact⟨_,by rw[<-r.length,ka],h⟩
 refine⟨.ref x,rfl,x,C,dx,_,.ref p3,rfl,oW,hC.cls,hC.MG,(hp.look _ _ (by decide)).trans rfl,p3,ws,rfl,.inl (bz.of ew),.ref x,rfl,x,C,dx,_,rfl,oW,hC.cls,hC.size,hp.lt (by show 5<=6;decide),?_⟩
 rw[lw]
 refine q _ p1 p2 p3 A5 A7 A9 (Oi.trans (bH.upd (C:=x) (dx:=dx) oW rfl)) (by rw[bC,hp.put _ _ _ (by decide)];rfl) (mv Og (L3.ae.refl _) oW (fR _)) (mv Oh (L3.ae.refl _) oW (fR _)) (mv GL (L3.ae.refl _) oW (fN _)) ?_ ?_
 ·exact fK.mpr ⟨nd5,fK.mpr ⟨nd7,nd9,d79⟩,λa ha hb=>(cB.mp hb).elim (d57 a ha) (d59 a ha)⟩
 ·intro a ha
  rcases cB.mp ha with ha | ha
  ·exact n5 a ha
  ·exact(cB.mp ha).elim (n7 a) (n9 a)
noncomputable abbrev ar8:bx:=λds Q=>∃(M n e f:Nat),ds=[.int M,.int n,.int e,.int f]/\2<=n/\n+1<=M/\1<=e/\e+1<=n/\f+2<=M/\Q (.bl true)
theorem ar9(T:Txt K mg t):aQ P w K mg base aX 1 t.EZ t.E1 ["many","length","extra","first"] (bB (ar8 )):=by
 refine cm T.Nv YN ?_ ?_
 ·intro ds Q h
  obtain⟨M,n,e,f,rfl,h1,h2,h3,h4,h5,q⟩:=h<;>rfl
 ·intro aA A outer s H E hr
  refine⟨_,(aT (bA (uD (ah (uS i4 i4 (ah ay) (bv 1) (ah (aL dE (bv 0) (ah ay))))) (uD (ah (uS i4 i4 (ah ay) (bv 2) (ah (aL dE (bv 1) (ah ay))))) (xQ (uS i4 i4 (ah ay) (bv 3) (ah (aL dE (bv 0) (ah ay))))))))),λds Q h=>?_⟩
  obtain⟨M,n,e,f,rfl,h1,h2,h3,h4,h5,q⟩:=h
  walk_at"l3"
  rw[if_pos (by omega),if_pos (by omega),if_pos (by omega),if_pos (by omega),if_pos (by omega),decide_eq_true (by omega)]
  exact q
noncomputable abbrev bi0(t:iw):List D->List Str->List D->Prop:=λds ns xs=>∃(m:Bool × Nat) (n e f:Nat),ds=[fD t.aU t.aW m,.int n,.int e,.int f]/\m∈aw/\2<=n/\n+1<=aa m/\1<=e/\e+1<=n/\f+2<=aa m/\ns=(["extra","first","field","length","check_rows","word_rows","message_places","size"]:List Str)/\xs=[.int e,.int f]++mR t.aU t.aW true m (dO m f (au n) e)
theorem au8(T:Txt K mg t)(hB:Bm mg base):aQ P w K mg base aX 5 t.E2 t.E3 ["self","field","length","extra","first"] (MD [t.jf,t.jg] t.bu (bi0 t)):=by
 refine T.Zp.ok M8 (λvs H Q E h=>?_) λaA A outer s H vs Q E hr h=>?_
 ·obtain⟨F,H0,x,dx,bN,ds,ns,xs,rfl,_,_,_,_,_,r,⟨m,n,e,f,rfl,_⟩,_⟩:=h
  have:=r.length
  simp at this
  simp[this]
 obtain⟨F,H0,x,dx,bN,ds,ns,xs,rfl,tb,e0,j6,s0,hx,r,⟨m,n,e,f,rfl,hm,h1,h2,h3,h4,h5,rfl,rfl⟩,q⟩:=h
 have wK:=(dw hm).hi
 obtain⟨vf,vs1,B1,B2,rfl,hB',rf,r2⟩:=R.cF r
 obtain⟨rfl,rfl⟩:=xi.mp hB'.symm
 obtain rfl:vs1=[.int n,.int e,.int f]:=by
  cases r2 with
  | int r=>cases r with
   | int r=>cases r with
    | int r=>cases r;rfl
 refine⟨_,dS (xT (BQ (uC (ah (cH ((ar9 T).mono (by decide)) hr rfl T.Zn T.Nv.kp T.Zo bE (ao (eN (K:=K) (bv 1)) (ao (bv 2) (ao (bv 3) (ao (bv 4) aP)))))))) (kD xU) xS)
  (dS (fF (pv 0) (pv 3) rfl)
  (dS (fF (pv 0) (pv 4) rfl)
  (dS (Yp (i:=5) M8.nd rfl (av rfl) [("field",1),("first",4),("length",2)] ["i"] rfl (jF rfl T.gJ (ao (bv 3) aP)) (λ_ _ _ _=>(du (i:=3) (show(["field","first","length","i"]:List Str).Nodup by decide +kernel) rfl (bw rfl) (by decide) (av rfl))) (λ_ _ _ _=>g8) (by exact λ_ _ _ _=>(gG [("field",0),("first",1),("i",3)] ["j"] rfl (jF rfl T.gJ (ao (bv 2) aP)) (λ_ _ _ _=>(du (i:=3) (show(["field","first","i","j"]:List Str).Nodup by decide +kernel) rfl (av (lookup_relabel_local rfl)) (by decide) (bw (lookup_relabel_local rfl)))) (λ_ _ _ _=>g8) (λ_ _ _ _=>(rR (P:=P) (w:=w) (K:=K) (mg:=mg) (base:=base) (n:=1) (bv 0) (hr.mono (by decide)) (ao (ah (aL g9 (ah (aL gB (bv 1) (bv 2))) (bv 3))) aP))) rfl ⟨rfl,⟨rfl,⟨rfl,trivial⟩⟩⟩ (λ_=>by repeat' (first | exact trivial | refine⟨.inl rfl,?_⟩ | refine⟨.inr (.inl rfl),?_⟩ | refine⟨.inr (.inr ⟨_,rfl⟩),?_⟩)) (λ_=>⟨⟨rfl,.inl rfl,.inl rfl,_,rfl,rfl⟩,⟨⟨rfl,.inl rfl,.inl rfl,_,rfl,rfl⟩,⟨⟨rfl,.inl rfl,.inl rfl,_,rfl,rfl⟩,trivial⟩⟩⟩) rfl (by decide +kernel))) rfl ⟨rfl,⟨rfl,⟨rfl,trivial⟩⟩⟩ (λ_=>by repeat' (first | exact trivial | refine⟨.inl rfl,?_⟩ | refine⟨.inr (.inl rfl),?_⟩ | refine⟨.inr (.inr ⟨_,rfl⟩),?_⟩)) (λ_=>⟨⟨rfl,.inl rfl,.inl rfl,_,rfl,rfl⟩,⟨⟨rfl,.inl rfl,.inl rfl,_,rfl,rfl⟩,⟨⟨rfl,.inl rfl,.inl rfl,_,rfl,rfl⟩,trivial⟩⟩⟩) rfl (by decide +kernel))
  (kD (tR (Yb (E:=E0) T.ζ ((aB3 T).mono (by decide)) hr T.Zm bE rfl T.GB (cn (pv 0) (cn (pv 1) (cn (pv 5) dU))))))))),?_⟩
 refine⟨⟨H,F⟩,F,[none,some (fD t.aU t.aW m),some (.int n),some (.int e),some (.int f),none],[],λb _=>b=false,aj.self (e0.trans s0) (.dq (A:=[]) (C:=[]) (rf.shared (L3.ae.refl _) s0) (.dq (A:=[]) (C:=[]) (.int .nil) (.dq (A:=[]) (C:=[]) (.int .nil) (.dq (A:=[]) (C:=[]) (.int .nil) (.ak .nil))))),?_,λb ag F1 H1 hb Oe ia c1=>?_⟩
 ·walk_at"l3"
  exact GF T m ⟨aa m,n,e,f,rfl,h1,h2,h3,h4,h5,rfl,true,rfl,rfl⟩
 subst hb
 refine jA ?_
 have s1:=s0.trans ia
 have cM:=ia.get _ _ hx rfl
 refine⟨.int e,rfl,.ref x,rfl,x,t.bu,dx,_,rfl,cM,T.lW,T.Gs,by decide,?_⟩
 have dA:upd H1 x (.ins t.bu dx (bf "extra" (.int e) [])) x=some (.ins t.bu dx [("extra",.int e)]):=by rw[bC];rfl
 have z2:=(ia.x (x:=x)).trans (bH.upd (C:=x) (dx:=dx) cM rfl (o':=.ins t.bu dx (bf "extra" (.int e) [])))
 generalize upd H1 x (.ins t.bu dx (bf "extra" (.int e) []))=H2 at z2 dA ⊢
 refine⟨.int f,rfl,.ref x,rfl,x,t.bu,dx,_,rfl,dA,T.lW,T.Gu,by show 1<1000;decide,?_⟩
 have eG:upd H2 x (.ins t.bu dx (bf "first" (.int f) [("extra",.int e)])) x=some (.ins t.bu dx [("extra",.int e),("first",.int f)]):=by rw[bC];rfl
 have z3:=z2.trans (bH.upd (C:=x) (dx:=dx) dA rfl (o':=.ins t.bu dx (bf "first" (.int f) [("extra",.int e)])))
 generalize upd H2 x (.ins t.bu dx (bf "first" (.int f) [("extra",.int e)]))=H3 at z3 eG ⊢
 have s3:=bH.of0 j6 s0 z3
 obtain⟨g1,g2⟩:=zf hm f (au n) e
 rw[cK]at g1
 have g3:af (dO m f (au n) e)=n:=C8 g1 λz=>by
  rw[z]at g2
  exact absurd g2 (by show ¬ 0=e;omega)
 refine⟨⟨H3,F⟩,F,[none,some (fD t.aU t.aW m),some (.int n),some (.int e),some (.int f),none],[],λd _=>d=.lst true (aF true (dO m f (au n) e)),aj.self (e0.trans s3) (.dq (A:=[]) (C:=[]) (rf.shared (L3.ae.refl _) s3) (.dq (A:=[]) (C:=[]) (.int .nil) (.dq (A:=[]) (C:=[]) (.int .nil) (.dq (A:=[]) (C:=[]) (.int .nil) (.ak .nil))))),?_,λd ag v F4 H4 hd hf4 wL c4=>?_⟩
 ·walk_at"l3"
  refine⟨⟨by omega,by omega⟩,i7 (au e) (λ(i:Nat)=>D.int (i:Int)) (λ(i:Nat)=>D.lst true (aE ((au n).map λ(p:Nat)=>eS m (((f:Int)+(i:Int))*(p:Int))))) (yV _ (by omega)) ow (λi hi=>?_) (.inr λ_ _=>mQ _) (by rw[cK,sL];omega) ?_⟩
  ·have hi:=bP.mp hi
   walk_at"l3"
   refine⟨⟨by omega,by omega⟩,i7 (au n) (λ(i:Nat)=>D.int (i:Int)) (λ(p:Nat)=>D.int ((eS m (((f:Int)+(i:Int))*(p:Int)):Nat):Int)) (yV _ (by omega)) ow (λp uK=>?_) (.inr λ_ _=>rfl) (by rw[cK,sL];omega) ?_⟩
   ·have:=bP.mp uK
    walk_at"l3"
    obtain⟨C,ns,xs,sp,e1,e2,e3,e4⟩:=Φ (P:=P) (w:=w) (base:=base) T hm (n:=((f:Int)+(i:Int))*(p:Int)) (Q:=λr=>r=D.int ((eS m (((f:Int)+(i:Int))*(p:Int)):Nat):Int)) rfl
    exact⟨C,ns,xs,sp,e1,e2,e3,gO.ok (.inl ⟨by omega,by omega⟩),e4⟩
   ·rw[dF,cV];rfl
  ·unfold dO aF
   rw[cV];rfl
 subst hd
 obtain⟨A4,C4,r4,_,Oj,GN⟩:=c4.own
 have r4:R F4 H4 [.lst true (aF true (dO m f (au n) e))] [v] A4:=r4
 obtain⟨pc,rfl⟩:=we r4
 have ib:=wL.get _ _ eG rfl
 have fR:∀X:List (List Nat),[D.lst true (aF true X)].all D.fr=true:=λX=>by rw[dh,eU,vV];rfl
 have zG:∀X:List (List Nat),[D.lst true (aF true X)].map D.sh=[D.lst false (aF false X)]:=λX=>by rw[bV,dZ,ft];rfl
 have r4:=r4.p9 (fR _) hf4
 have GN:∀a∈A4,H3 a=none:=λa ha=>GN a (eH _ ha)
 have Oj:=(fK.mp Oj).1
 have Ol:=s3.trans wL
 have xA:x ∉ A4:=λz=>by rw[GN x z]at eG;cases eG
 have s5:L3.ae H0 (L3.bc H0 H4 A4):=g5 Ol
 have e5:=e0.trans s5
 have r5:R F (L3.bc H0 H4 A4) [.lst true (aF true (dO m f (au n) e))] [.ref pc] A4:=Ye r4 λa ha=>by unfold L3.bc;rw[if_pos ha]
 refine⟨.ref x,rfl,vf,rfl,.ref pc,rfl,L3.bc F (L3.bc H0 H4 A4) A4,L3.bc H0 H4 A4,x,dx,t.bu,vf,.ref pc,m,dO m f (au n) e,[("extra",.int e),("first",.int f)],rfl,nJ e5,by rw[nK xA];exact j6,nJ Ol,ib,.two _ _,⟨T.lW,T.sI,T.sJ,T.Gr,T.sN,T.Gv,T.sM⟩,rf.shared (g5 e5) s5,zG _ ▸ r5.bc e5 A4 λ_ h=>h,hm,by rw[g3];exact g1,by omega,by omega,λH' p1 p2 p3 B1 B2 B3 sx de k1 k2 k3 nd fr=>?_⟩
 have z:=(z3.trans (wL.x (x:=x))).trans sx
 have so:=bH.of0 j6 s0 z
 have ee:=e0.trans s3
 refine q H' [.int e,.int f,vf,.int (af (dO m f (au n) e):Nat),.ref p1,.ref p2,.ref p3,.int ((bg m (dO m f (au n) e)).length:Nat)] (B1++(B2++(B3++[]))) z de rfl ?_ ?_ ?_
 ·have up:∀{ds:List D} {vs:List V} {B:List Addr},R (λ_=>none) H' ds vs B->(∀a∈B,H4 a=none)->R F H' ds vs B:=λr h=>r.keep (L3.ae.of λb o e=>by cases e) (eV.same (L3.ae.refl _)) fJ.nil (λa ha=>ee.free (wL.free (h a ha))) (by simp)
  exact .int (.int (R.cons (A:=[]) (rf.shared (L3.ae.refl _) so) (.int (R.cons (up k1 λa ha=>fr a (eH _ ha)) (R.cons (up k2 λa ha=>fr a (dg _ (eH _ ha))) (R.cons (up k3 λa ha=>fr a (dg _ (dg _ ha))) (.int .nil)))))))
 ·rw[e7];exact nd
 ·rw[e7]
  intro a ha
  exact z3.free (by rw[eG];simp) (wL.free (fr a ha))
noncomputable abbrev aB4(t:iw):bx:=λds Q=>∃(m:Bool × Nat) (G:List (List Nat)) (k:Kd),ds=[gg t m G k]/\cU m G/\Q (.lst true (aF true (aY m G)))
theorem aB5(T:Txt K mg t):aQ P w K mg base aX 2 t.E4 t.E5 ["self"] (bB (aB4 t)):=by
 refine cm T.Zr YO ?_ ?_
 ·intro ds Q h
  obtain⟨m,G,k,rfl,hc,q⟩:=h<;>rfl
 ·intro aA A outer s H E hr
  refine⟨_,(aT (bA (cH ((N9 T).mono (by decide)) hr rfl T.Nm T.FX.kp T.Nn bE (ao (eN (K:=K) (bv 0)) aP)))),λds Q h=>?_⟩
  obtain⟨m,G,k,rfl,hc,q⟩:=h
  have hw:=hc.Dk
  have hf:=hc.rV
  walk_at"l3"
  refine ι T m G k ⟨_,by rw[dZ,ft],by rw[kg];omega,by rw[eU,vV,kr,l8],q⟩
theorem Om(m:Bool × Nat)(ws:List (List Nat))(r:List Nat)(n:Nat):hW m ws r (n+1)=hW m ws r n++ws.map λw=>eB m w n r:=by
 unfold hW
 rw[Ap,jo,List.flatten_append]
 exact congrArg _ (e7 _)
theorem GO(m:Bool × Nat)(ws:List (List Nat))(r:List Nat):∀n,(hW m ws r n).length=n*ws.length
 | 0=>by rw[xn];rfl
 | n+1=>by rw[Om,jj,GO m ws r n,bQ,An,tw]
theorem Oo(m:Bool × Nat)(n:Nat)(R:List (List Nat)):(cy m n R).length=aa m ^ R.length:=by
 have:∀(R ws:List (List Nat)),(R.foldl (λws r=>hW m ws r (aa m)) ws).length=aa m ^ R.length*ws.length:=λR=>by
  induction R with
  | nil=>intro ws;rw[tE,Hz,tw];rfl
  | cons r R ih=>intro ws;rw[pj,ih,GO,fw,m3,m6]
 unfold cy
 rw[this,Pk,Nat.mul_one]
theorem b09(m:Bool × Nat)(n:Nat)(R:List (List Nat)):∀w∈cy m n R,w.length<=n:=by
 have:∀(R ws:List (List Nat)),(∀w∈ws,w.length<=n)->∀w∈R.foldl (λws r=>hW m ws r (aa m)) ws,w.length<=n:=λR=>by
  induction R with
  | nil=>exact λws h=>h
  | cons r R ih =>
   refine λws h=>ih _ λw hw=>?_
   unfold hW at hw
   obtain⟨l,hl,hw⟩:=Ae.mp hw
   obtain⟨a,_,rfl⟩:=cC.mp hl
   obtain⟨v,hv,rfl⟩:=cC.mp hw
   unfold eB
   rw[pH]
   have:=h v hv
   omega
 exact this R _ λw hw=>by rw[jl.mp hw,fA];exact bI _
theorem bX1(m:Bool × Nat){n:Nat}{R:List (List Nat)}(hR:RT (aa m) n R):∀w∈cy m n R,w.length=n:=by
 have:∀(R ws:List (List Nat)),(∀r∈R,r.length=n)->(∀w∈ws,w.length=n)->∀w∈R.foldl (λws r=>hW m ws r (aa m)) ws,w.length=n:=λR=>by
  induction R with
  | nil=>exact λws _ h=>h
  | cons r R ih =>
   refine λws hr h=>ih _ (λr' h'=>hr r' (dJ _ h')) λw hw=>?_
   unfold hW at hw
   obtain⟨l,hl,hw⟩:=Ae.mp hw
   obtain⟨a,_,rfl⟩:=cC.mp hl
   obtain⟨v,hv,rfl⟩:=cC.mp hw
   unfold eB
   rw[pH,h v hv,hr r (eP ..),s8]
 exact this R _ (λr hr=>(hR r hr).1) λw hw=>by rw[jl.mp hw,fA]
noncomputable abbrev aB6(t:iw)(P:Program)(w:World)(K:Frag)(mg:Str->Option Value)(base:Heap):bx:=λds Q=>∃(m:Bool × Nat) (G:List (List Nat)) (k:Kd),ds=[gg t m G k]/\cU m G/\(bg m G).length<=2/\Q (.lst true (aF true (cy m (af G) (aY m G))))
theorem aB7(T:Txt K mg t):aQ P w K mg base aX 3 t.E6 t.E7 ["code"] (bB (aB6 t P w K mg base)):=by
 refine cm T.Nw oU ?_ ?_
 ·intro ds Q h
  obtain⟨m,G,k,rfl,hc,hl,q⟩:=h<;>rfl
 ·intro aA A outer s H E hr
  refine⟨_,(aO (bo (i:=1) oU.nd rfl (bw rfl) (eE (eN (K:=K) (bv 0))))
   (aO (bo (i:=2) oU.nd rfl (av rfl) (gz (fi (aL g9 (ah (gz (fi ay eW))) (eN (K:=K) (bv 0))) eW)))
   (aO (gA fc rfl (BU (WK (P:=P) (w:=w) (K:=K) (mg:=mg) (base:=base) (n:=2) (bv 0) (hr.mono (by decide)))) (du (i:=3) oU.nd rfl (bw rfl))
    (aO (bo (i:=4) oU.nd rfl (av rfl) (gz eW))
    (aO (gA fc rfl (jF rfl T.gJ (ao (eN (K:=K) (bv 1)) aP)) (du (i:=5) oU.nd rfl (bw rfl))
     (aT (Yw (i:=4) rfl (by first | exact av rfl | exact bw (av rfl)) (gG [("a",5),("row",3),("field",1)] ["word"] rfl (nU (bv 2)) (λ_ _ _ _=>(du (i:=3) (show(["a","row","field","word"]:List Str).Nodup by decide +kernel) rfl (av (lookup_relabel_local rfl)) (by decide) (bw (lookup_relabel_local rfl)))) (λ_ _ _ _=>g8) (λ_ _ _ _=>(rR (P:=P) (w:=w) (K:=K) (mg:=mg) (base:=base) (n:=1) (bv 2) (hr.mono (by decide)) (ao (bv 3) (ao (bv 0) (ao (bv 1) aP))))) rfl ⟨rfl,⟨rfl,⟨rfl,trivial⟩⟩⟩ (λ_=>by repeat' (first | exact trivial | refine⟨.inl rfl,?_⟩ | refine⟨.inr (.inl rfl),?_⟩ | refine⟨.inr (.inr ⟨_,rfl⟩),?_⟩)) (λ_=>⟨⟨rfl,.inl rfl,.inl rfl,_,rfl,rfl⟩,⟨⟨rfl,.inl rfl,.inl rfl,_,rfl,rfl⟩,⟨⟨rfl,.inl rfl,.inl rfl,_,rfl,rfl⟩,trivial⟩⟩⟩) rfl (by decide +kernel)))))
    (aT (bo (i:=2) oU.nd rfl (av rfl) (em 4))))))
   (aT (bA (em 2)))))),λds Q h=>?_⟩
  obtain⟨m,G,k,rfl,hc,hl,q⟩:=h
  have hm:=hc.hm
  have wK:=(dw hm).hi
  have hw:=hc.Dk
  refine aN λU hU=>?_
  walk_at"l3"
  refine NY T m G k ⟨CL _ _ _,hU _ ?_⟩
  clear hU U
  refine aN λU hU=>?_
  walk_at"l3"
  refine⟨by decide,GG T m G k ?_⟩
  dsimp only
  refine⟨⟨by omega,by omega,by show 1*_<=_;omega,rfl⟩,by decide,hU _ ?_⟩
  clear hU U
  have hR:=hc.rows
  have lR:(aY m G).length<=2:=by rw[kg];exact hl
  rw[rj,jQ,show aK (af G) (D.int 0)=aE (aK (af G) 0) by rw[dF,xH];rfl]
  refine aN λU hU=>?_
  walk_at"l3"
  refine ν T T.wF T.wF T.wF (aB5 T) T.Zs (by decide) ⟨m,G,k,rfl,hc,_,rfl,?_⟩
  refine iz.mk (λi δ=>∃o3 o4 o5,δ=[some (gg t m G k),some (fD t.aU t.aW m),some (D.lst true (aF true (cy m (af G) ((aY m G).take i)))),o3,o4,o5]) ⟨_,_,_,rfl⟩ ?_ ?_
  ·rintro i d δ hd ⟨o3,o4,o5,rfl⟩
   obtain⟨hi,rfl⟩:∃hi:i<(aY m G).length,d=.lst false (aE (aY m G)[i]):=by
    rw[ft]at hd
    unfold aF at hd
    rw[cJ]at hd
    by_cases hi:i<(aY m G).length
    ·rw[aR hi]at hd;exact⟨hi,(cN hd).symm⟩
    ·rw[ie (by omega)]at hd;cases hd
   clear hd hU
   have ri:=hR _ (eQ hi)
   have lw:=Oo m (af G) ((aY m G).take i)
   have lt:((aY m G).take i).length=i:=by rw[o9];omega
   rw[lt]at lw
   have li:(cy m (af G) ((aY m G).take i)).length<=64:=by
    rw[lw]
    rcases(show i=0\/i=1 by omega)with rfl | rfl
    ·rw[Hz];decide
    ·rw[Hx];exact wK
   have ww:=b09 m (af G) ((aY m G).take i)
   rw[show cy m (af G) ((aY m G).take (i+1))=hW m (cy m (af G) ((aY m G).take i)) (aY m G)[i] (aa m) by
    unfold cy
    rw[sZ,aR hi,Ao];rfl]
   generalize cy m (af G) ((aY m G).take i)=ws at li ww ⊢
   simp only[gN,jr,jq]
   refine aN λU hU=>?_
   walk_at"l3"
   refine⟨by decide,hU _ ?_⟩
   clear hU
   refine aN λU hU=>?_
   walk_at"l3"
   refine GF T m ⟨_,rfl,⟨by omega,by omega⟩,?_⟩
   refine ot (λj δ=>∃o5,δ=[some (gg t m G k),some (fD t.aU t.aW m),some (D.lst true (aF true ws)),some (D.lst false (aE (aY m G)[i])),some (D.lst true (aF true (hW m ws (aY m G)[i] j))),o5]) ⟨_,rfl⟩ ?_ ?_
   ·rintro a δ ha ⟨o5,rfl⟩
    simp only[gN,jr,jq]
    clear hU
    walk_at"l3"
    refine⟨⟨_,rfl⟩,?_⟩
    refine i7 ws (λw=>D.lst false (aE w)) (λw=>D.lst true (aE (eB m w a (aY m G)[i]))) (by rw[ft];rfl) (λa b h=>yW a b h) (λv GP=>?_) (.inr λ_ _=>mQ _) (by rw[sL];omega) ?_
    ·walk_at"l3"
     obtain⟨C,ns,zs,sp,e1,e2,e3,e4⟩:=N4 (P:=P) (w:=w) (base:=base) T hm
     have:=ww v GP
     exact⟨C,ns,zs,sp,e1,e2,e3,e4 v _ a _ ha ri.2 (by omega) rfl⟩
    have al:=GO m ws (aY m G)[i] a
    have am:a*ws.length<=64*64:=Nat.mul_le_mul (by omega) li
    refine⟨_,_,rfl,rfl,by rw[lD,bQ];omega,some (D.int a),?_⟩
    rw[Om,<- yX,show aF true (ws.map λw=>eB m w a (aY m G)[i])=ws.map λw=>D.lst true (aE (eB m w a (aY m G)[i])) by unfold aF;rw[cV];rfl]
    rfl
   ·rintro δ ⟨o5,rfl⟩
    refine hU _ ?_
    clear hU
    walk_at"l3"
    exact⟨_,_,_,rfl,rfl,rfl⟩
  ·rintro δ ⟨o3,o4,o5,rfl⟩
   refine hU _ ?_
   walk_at"l3"
   rw[Ab]
   exact q
noncomputable abbrev at9(t:iw):bx:=λds Q=>∃(m:Bool × Nat) (G:List (List Nat)) (k:Kd),ds=[gg t m G k]/\m∈aw/\(bg m G).length<=64/\Q (.int ((aa m ^ (bg m G).length:Nat):Int))
theorem au0(T:Txt K mg t):aQ P w K mg base aX 1 t.E8 t.E9 ["code"] (bB (at9 t)):=by
 refine cm T.Nx zr ?_ ?_
 ·intro ds Q h
  obtain⟨m,G,k,rfl,hm,hl,q⟩:=h<;>rfl
 ·intro aA A outer s H E hr
  refine⟨_,(aO (bo (i:=1) zr.nd rfl (av rfl) ay)
   (aO (gA fc rfl (jF rfl T.gJ (ao (eN (K:=K) (bv 0)) aP)) (du (i:=2) zr.nd rfl (av rfl))
    (aT (uF (i:=1) zr.nd rfl (av rfl) (eN (K:=K) (eN (K:=K) (bv 0))) U5)))
   (aT (bA (em 1))))),λds Q h=>?_⟩
  obtain⟨m,G,k,rfl,hm,hl,q⟩:=h
  have wK:=(dw hm).hi
  refine aN λU hU=>?_
  walk_at"l3"
  refine hU _ ?_
  clear hU U
  refine aN λU hU=>?_
  walk_at"l3"
  refine μ T m G k ⟨_,rfl,⟨by omega,by omega⟩,?_⟩
  refine ot (λi δ=>∃o,δ=[some (gg t m G k),some (.int ((aa m ^ i:Nat):Int)),o]) ⟨none,rfl⟩ ?_ ?_
  ·rintro i δ hi ⟨o,rfl⟩
   simp only[gN,jr,jq]
   walk_at"l3"
   refine NY T m G k (GF T m ?_)
   dsimp only
   exact⟨gO.ok (.inr ⟨by omega,by omega⟩),_,by rw[m3,tI],rfl⟩
  ·rintro δ ⟨o,rfl⟩
   refine hU _ ?_
   walk_at"l3"
   exact q
theorem sP(n:Nat)(ws:List (List Nat)):(iH n ws).length=n+1:=by unfold iH;rw[bQ,cK]
theorem zK{n j:Nat}(ws:List (List Nat))(h:j<=n):cf (iH n ws) j=ws.countP λw=>cg w==j:=v9 _ (by omega)
theorem bK6{n:Nat}(ws:List (List Nat)){w:List Nat}(h:cg w<=n):iH n (ws++[w])=(iH n ws).set (cg w) (cf (iH n ws) (cg w)+1):=by
 refine oO (w:=n+1) (sP ..) (by rw[mY,sP]) λj hj=>?_
 rw[zK _ (by omega),List.countP_append]
 unfold cf
 rw[aV,List.getElem?_set]
 by_cases c:cg w=j
 ·rw[if_pos c,if_pos (by rw[sP];omega),pE,List.countP_cons_of_pos (by rw[c];exact beq_self_eq_true j),List.countP_nil]
  rw[c]
  exact congrArg (·+1) (zK ws (show j<=n by omega)).symm
 ·rw[if_neg c,List.countP_cons_of_neg (by rw[beq_false_of_ne c];decide),List.countP_nil,<- aV]
  exact(zK ws (show j<=n by omega)).symm
theorem bH1(w:List Nat):(w.map λ(n:Nat)=>(n:Int)).count 0=w.count 0:=by
 induction w with
 | nil=>rfl
 | cons a w ih =>
  rw[bV,HZ,HZ,ih]
  congr 1
  by_cases z:a=0
  ·rw[z];rfl
  ·rw[beq_false_of_ne z,beq_false_of_ne (show(a:Int)≠0 by omega)]
noncomputable abbrev aE9(t:iw)(P:Program)(w:World)(K:Frag)(mg:Str->Option Value)(base:Heap):bx:=λds Q=>∃(m:Bool × Nat) (G:List (List Nat)) (k:Kd),ds=[gg t m G k]/\cU m G/\(bg m G).length<=2/\aa m ^ (bg m G).length<=4096/\Q (.lst true (aE (iH (af G) (cy m (af G) (aY m G)))))
theorem aF0(T:Txt K mg t):aQ P w K mg base aX 4 t.Fb t.Fc ["code"] (bB (aE9 t P w K mg base)):=by
 refine cm T.Ny DY ?_ ?_
 ·intro ds Q h
  obtain⟨m,G,k,rfl,hc,hl,h4,q⟩:=h<;>rfl
 ·intro aA A outer s H E hr
  refine⟨_,(aO (fk (et Kk (ah (cH ((au0 T).mono (by decide)) hr rfl T.Zv T.Nx.kp T.Zw bE (ao (bv 0) aP))) (ah (UG (by rfl) T.θ)) (dB _)) (aT UM) fj)
   (aO (bo (i:=1) DY.nd rfl (av rfl) (aL g9 (ah (gz (fi ay eW))) (ah (aL gB (eN (K:=K) (bv 0)) (ah ay)))))
   (aO (gA fc rfl (BU (cH ((aB7 T).mono (by decide)) hr rfl T.Zt T.Nw.kp T.Zu bE (ao (bv 0) aP))) (du (i:=2) DY.nd rfl (av rfl))
    (aT (Yv (i:=1) rfl (by first | exact av rfl | exact bw (av rfl)) (ah (aL dE (eN (K:=K) (bv 0)) (ah (X3 (bv 2) (ah ay))))) pM)))
   (aT (bA (em 1)))))),λds Q h=>?_⟩
  obtain⟨m,G,k,rfl,hc,hl,h4,q⟩:=h
  have hm:=hc.hm
  have wK:=(dw hm).hi
  have hw:=hc.Dk
  refine aN λU hU=>?_
  walk_at"l3"
  rw[Dj]
  refine⟨m,G,k,rfl,hm,by omega,by rw[Ym];rfl,?_⟩
  dsimp only
  rw[if_neg (by omega)]
  refine hU _ ?_
  clear hU U
  refine aN λU hU=>?_
  walk_at"l3"
  refine⟨by decide,GG T m G k ?_⟩
  dsimp only
  refine⟨⟨by omega,by omega,by show 1*_<=_;omega⟩,?_⟩
  rw[show aC (aK ((af G:Int)+1).toNat 0)=aE (iH (af G) []) by
   rw[show iH (af G) []=aK (af G+1) 0 from PJ.mpr ⟨sP ..,λb hb=>by
    obtain⟨_,_,rfl⟩:=cC.mp hb
    rfl⟩,dF,show((af G:Int)+1).toNat=af G+1 by omega]
   unfold aC
   rw[xH,xH];rfl]
  refine hU _ ?_
  clear hU U
  have wl:∀w∈cy m (af G) (aY m G),w.length=af G:=bX1 m hc.rows
  refine aN λU hU=>?_
  walk_at"l3"
  rw[Dj]
  refine⟨m,G,k,rfl,hc,hl,by rw[eU,vV,kr,l8],_,rfl,?_⟩
  have al:=Oo m (af G) (aY m G)
  rw[kg]at al
  generalize cy m (af G) (aY m G)=W at wl al q ⊢
  refine iz.mk (λi δ=>∃o,δ=[some (gg t m G k),some (D.lst true (aE (iH (af G) (W.take i)))),o]) ⟨_,rfl⟩ ?_ ?_
  ·rintro i d δ hd ⟨o,rfl⟩
   obtain⟨hi,rfl⟩:∃hi:i<W.length,d=.lst false (aE W[i]):=by
    rw[ft]at hd
    unfold aF at hd
    rw[cJ]at hd
    by_cases hi:i<W.length
    ·rw[aR hi]at hd;exact⟨hi,(cN hd).symm⟩
    ·rw[ie (by omega)]at hd;cases hd
   clear hd hU
   have lw:=wl _ (eQ hi)
   have cl:W[i].count 0<=W[i].length:=PK
   have GP:cg W[i]<=af G:=by unfold cg;omega
   simp only[gN,jr,jq]
   walk_at"l3"
   refine⟨⟨_,rfl⟩,GG T m G k ⟨_,_,⟨rfl,XY W[i]⟩,?_⟩⟩
   dsimp only
   rw[bH1,show((af G:Int)-((W[i].count 0:Nat):Int)).toNat=cg W[i] by unfold cg;omega]
   have ln:=sP (af G) (W.take i)
   refine⟨_,((cf (iH (af G) (W.take i)) (cg W[i]):Nat):Int),rfl,by omega,?_,_,?_,rfl⟩
   ·rw[dF,cJ,aR (by omega)]
    unfold cf
    rw[aV,aR (by omega)];rfl
   ·rw[sZ,aR hi,show(some W[i]).toList=[W[i]] from rfl,bK6 _ GP,dF,dF,HQ];rfl
  ·rintro δ ⟨o,rfl⟩
   refine hU _ ?_
   walk_at"l3"
   rw[Ad (bI _)]
   exact q
noncomputable abbrev aB8:bx:=λds Q=>∃(ns:List Int) (k:Int),ds=[.fz (aC ns),.int k]/\0<=k/\Q (.int (ns.getD k.toNat 0))
theorem sQ(T:Txt K mg t):aQ P w K mg base aX 1 t.Fd t.Fe ["_law_script","_law_k"] (bB (aB8 )):=by
 refine cm T.oV YQ ?_ ?_
 ·intro ds Q h
  obtain⟨ns,k,rfl,hk,q⟩:=h<;>rfl
 ·intro aA A outer s H E hr
  refine⟨_,(aO (fk (et B0 (bv 1) (ah (kX (uU) (by rfl) T.sO p5 (ao (bv 0) aP))) (dB _)) (aT (bA (eE (cT (bv 0) (bv 1) (λ_ _=>rfl))))) fj)
   (aT (bA ay))),λds Q h=>?_⟩
  obtain⟨ns,k,rfl,hk,q⟩:=h
  refine aN λU hU=>?_
  walk_at"l3"
  split
  ·rename_i h
   exact⟨_,j9 hk h,rfl,q⟩
  ·rename_i h
   refine hU _ ?_
   walk_at"l3"
   rw[aV,ie (by omega)]at q
   exact q
noncomputable abbrev aB9(L:Obj->Obj->Addr->Addr->rG->Prop):bx:=λds Q=>∃(a:Nat) (of oc:Obj) (c k:Addr) (g:Nat->Nat->Nat) (l:List Int),ds=[.int a,.bt (.lam of oc c k)]/\L of oc c k (vK g)/\a<64/\CG g a=some l/\Q (.lst true (aC l))
theorem Oq(T:Txt K mg t):aQ P w K mg base aX 5 t.Ff t.Fg ["a","product"] (bB (aB9 (vD P w K mg base 4))):=by
 refine cm T.Ga zt ?_ ?_
 ·intro ds Q h
  obtain⟨a,of,oc,c,k,g,l,rfl,hL,ha,hp,q⟩:=h<;>rfl
 ·intro aA A outer s H E hr
  refine⟨_,(aO (bo (i:=2) zt.nd rfl (av rfl) (gz (fi ay eW)))
   (aO (bo (i:=3) zt.nd rfl (av rfl) (Lg (n:=4) (i:=1) rfl (by first | exact av rfl | exact bw (av rfl)) (hr.mono (by decide)) (ao (ah ay) (ao (bv 0) aP))))
   (aO (BS fc (et (uQ (hE hr)) (bv 3) (ah ay) (dB _))
    (aO (Cb (i:=2) rfl (by first | exact av rfl | exact bw (av rfl)) (eE (bv 3)))
    (aT (bo (i:=3) zt.nd rfl (av rfl) (Lg (n:=4) (i:=1) rfl (by first | exact av rfl | exact bw (av rfl)) (hr.mono (by decide)) (ao (bv 3) (ao (bv 0) aP)))))))
   (aT (bA (em 2)))))),λds Q h=>?_⟩
  obtain⟨a,of,oc,c,k,g,l,rfl,hL,ha,hp,q⟩:=h
  refine aN λU hU=>?_
  walk_at"l3"
  refine⟨by decide,hU _ ?_⟩
  clear hU U
  refine aN λU hU=>?_
  walk_at"l3"
  refine⟨of,oc,c,k,vK g,rfl,hL,1,a,⟨rfl,rfl⟩,1,a,rfl,rfl,by decide,ha,hU _ ?_⟩
  clear hU U
  refine aN λU hU=>?_
  walk_at"l3"
  refine⟨λm δ=>∃(p:Nat) (acc:List Int),δ=[some (.int a),some (.bt (.lam of oc c k)),some (.lst true (aC acc)),some (.int p)]/\acc.length+m<=70/\yI g a m p acc=some l,⟨64,_,[1],rfl,by decide,hp⟩,?_⟩
  rintro m δ ⟨p,acc,rfl,hn,hg⟩
  walk_at"l3"
  cases m with
  | zero=>cases hg
  | succ m =>
   unfold yI at hg
   split at hg
   ·rename_i h1
    subst h1
    cases hg
    rw[if_neg (by simp)]
    refine hU _ ?_
    walk_at"l3"
    exact q
   ·rename_i h1
    rw[if_pos (by simp;omega)]
    split at hg
    ·rename_i h2
     clear hU
     refine aN λU hU=>?_
     walk_at"l3"
     refine⟨⟨_,rfl⟩,by omega,hU _ ?_⟩
     clear hU
     walk_at"l3"
     exact⟨of,oc,c,k,vK g,rfl,hL,p,a,⟨rfl,rfl⟩,p,a,rfl,rfl,h2,ha,m,by omega,g p a,acc++[(p:Int)],⟨by rw[<-rk];rfl,rfl⟩,by simp;omega,hg⟩
    ·cases hg
noncomputable abbrev aw9(L:Obj->Obj->Addr->Addr->rG->Prop):bx:=λds Q=>∃(n:Nat) (of oc:Obj) (c k:Addr) (g:Nat->Nat->Nat) (l:List Int),ds=[.int n,.bt (.lam of oc c k)]/\L of oc c k (vK g)/\vJ g n=some l/\Q (.lst true (aC l))
theorem ax0(T:Txt K mg t):aQ P w K mg base aX 6 t.Fh t.Fj ["many","product"] (bB (aw9 (vD P w K mg base 4))):=by
 refine cm T.NB wq ?_ ?_
 ·intro ds Q h
  obtain⟨n,of,oc,c,k,g,l,rfl,hL,hp,q⟩:=h<;>rfl
 ·intro aA A outer s H E hr
  refine⟨_,(aO (bo (i:=2) wq.nd rfl (av rfl) ay)
   (aO (bo (i:=3) wq.nd rfl (av rfl) (cH ((Oq T).mono (by decide)) hr rfl T.Nz T.Ga.kp T.NA bE (ao (bv 2) (ao (bv 1) aP))))
   (aO (BS fc (et B0 (ah (kX (uU) (by rfl) T.sO p5 (ao (bv 3) aP))) (ah (aL dE (bv 0) (ah ay))) (dB _))
    (aO (uF (i:=2) wq.nd rfl (av rfl) (ah ay) U3)
    (aT (bo (i:=3) wq.nd rfl (av rfl) (cH ((Oq T).mono (by decide)) hr rfl T.Nz T.Ga.kp T.NA bE (ao (bv 2) (ao (bv 1) aP)))))))
   (aT (bA (em 3)))))),λds Q h=>?_⟩
  obtain⟨n,of,oc,c,k,g,l,rfl,hL,hp,q⟩:=h
  unfold vJ at hp
  split at hp
  ·rename_i l0 h0
   refine aN λU hU=>?_
   walk_at"l3"
   refine hU _ ?_
   clear hU U
   refine aN λU hU=>?_
   walk_at"l3"
   refine⟨1,of,oc,c,k,g,l0,rfl,hL,by decide,h0,hU _ ?_⟩
   clear hU U
   refine aN λU hU=>?_
   walk_at"l3"
   refine⟨λm δ=>∃(st:Nat) (l1:List Int),δ=[some (.int n),some (.bt (.lam of oc c k)),some (.int st),some (.lst true (aC l1))]/\st+m<=63/\yJ g n m st l1=some l,⟨62,1,l0,rfl,by decide,hp⟩,?_⟩
   rintro m δ ⟨st,l1,rfl,hn,hg⟩
   walk_at"l3"
   cases m with
   | zero=>cases hg
   | succ m =>
    unfold yJ at hg
    split at hg
    ·rename_i h1
     rw[if_pos (by omega)]
     split at hg
     ·rename_i l2 h2
      clear hU
      refine aN λU hU=>?_
      walk_at"l3"
      refine hU _ ?_
      clear hU
      walk_at"l3"
      exact⟨st+1,of,oc,c,k,g,l2,rfl,hL,by omega,h2,m,by omega,st+1,l2,⟨rfl,rfl⟩,by omega,hg⟩
     ·cases hg
    ·rename_i h1
     rw[if_neg (by omega)]
     cases hg
     refine hU _ ?_
     walk_at"l3"
     exact q
  ·cases hp
noncomputable abbrev aE5:bx:=λds Q=>∃(l:List Int),ds=[.lst false (aC l)]/\l.length<=64/\(∀x∈l,0<=x/\x.toNat<=l.length)/\Q (.lst true (aC (dv l)))
theorem aE6(T:Txt K mg t):aQ P w K mg base aX 1 t.Fl t.Fm ["powers"] (bB (aE5 )):=by
 refine cm T.NC D3 ?_ ?_
 ·intro ds Q h
  obtain⟨l,rfl,hl,hx,q⟩:=h<;>rfl
 ·intro aA A outer s H E hr
  refine⟨_,(aO (bo (i:=1) D3.nd rfl (av rfl) (aL g9 (ah (gz (fi ay eW))) (ah (aL gB (ah (kX (uU) (by rfl) T.sO p5 (ao (bv 0) aP))) (ah ay)))))
   (aO (gA fc rfl (Cp rfl T.Gw (ao (bv 0) aP)) (rB (i1:=2) (i2:=3) rfl D3.nd rfl (av rfl) rfl (av rfl))
    (aT (Cc (i:=1) rfl (by first | exact av rfl | exact bw (av rfl)) (eE (bv 2)) (bv 3))))
   (aT (bA (em 1))))),λds Q h=>?_⟩
  obtain⟨l,rfl,hl,hx,q⟩:=h
  refine aN λU hU=>?_
  walk_at"l3"
  refine⟨by decide,⟨by omega,by omega,by omega⟩,hU _ ?_⟩
  clear hU U
  refine aN λU hU=>?_
  walk_at"l3"
  refine iz.mk (λi δ=>∃o1 o2,δ=[some (.lst false (aC l)),some (.lst true (aC (lh l i))),o1,o2]) ⟨none,none,?_⟩ ?_ ?_
  ·rw[show((l.length:Int)+1).toNat=l.length+1 by omega];rfl
  ·rintro i d δ hd ⟨o1,o2,rfl⟩
   obtain⟨hi,rfl⟩:∃h:i<l.length,d=.tup [.int i,.int l[i]]:=by
    unfold fP aC at hd
    rw[Aj,cJ]at hd
    by_cases hi:i<l.length
    ·rw[aR hi]at hd
     simp at hd
     exact⟨hi,hd.symm⟩
    ·rw[ie (by omega)]at hd;simp at hd
   have cM:=hx l[i] (eQ _)
   walk_at"l3"
   refine⟨_,(l[i]).toNat,rfl,?_,_,_,?_,rfl,rfl⟩
   ·unfold gR
    rw[kZ,vL,if_pos cM.1,if_pos (by omega)]
   ·unfold aC
    rw[<-HQ]
    congr 1
    show _=(lh l i).set (l.getD i 0).toNat (i:Int)
    rw[aV,aR hi];rfl
  ·rintro δ ⟨o1,o2,rfl⟩
   refine hU _ ?_
   simp only[qp,qq,qt,qu,dT,kP,mx,my,dC,nM,nR,nQ,nO,qm,qo,mD,qX,oj,qZ,q0,qg,qh,qi,qj,qk,ql,nN,uT,og,oh,ii,nX,qH,nY,qI,qJ,qK,qL,qM,qN,iI,fO,qO,qP,qQ,qR,nZ,mB,qU,qV,gN,q8,qW,qv,qA,qB,qC,qD,qE,q9,rh,nV,j5,eK,iB,g7,pE,ph,xx,xy,nS,jE,i3,oi,rn,rp,rq,vw,rC,ou,rz,i6,vz,vx,vy,bV,iM,s9,pk,fw,tE,aK,tF,tG,jq,jr,tH,exists_eq_left',exists_eq_left,D.bl.injEq,D.int.injEq,D.lst.injEq,D.fz.injEq,D.str.injEq,D.tup.injEq,xB,and_true,true_and,dh,pF,kz,kr,uV,uW,uX,uY,uZ,u0,gZ,jZ,mE,u7,u9,va,vb,vd,dZ,kO,u3,u4,u5,u6,eU,nI,xC,xD,sU,l8,xE,xF,sW,vh,vi,vj,vm,vn,vo,vp,kZ,mF,oq,i5,rk,ve,rj,rl,vg,mG,rm,if_true,xG,if_false,reduceIte,vq,decide_eq_true_eq,ka,rD,oy,qw,rH,oH,rA,oE,oF,oG,rK,vR,oJ,rS,ft,vU,lD,vW,oM,rX,rY,se,si,vA]
   exact q
noncomputable abbrev ay4(P:Program)(w:World)(K:Frag)(mg:Str->Option Value)(base:Heap)(fs:Addr):Sp:=λvs H Q _=>∃(x dx f C:Addr) (b:Str) (n0:Int) (many:Nat) (of oc:Obj) (c k:Addr) (g:Nat->Nat->Nat) (l:List Int) (st:Int),
 vs=[.ref x,.int many,.ref f]/\H x=some (.ins C dx [(b,.int n0)])/\(∀n∈(["many","wide","powers","logs","step","step_power"]:List Str),b≠n)/\Wo K C fs/\iY H f of oc c k/\vD P w K mg base 4 of oc c k (vK g)/\LA g many l st /\
 ∀H' p1 p2,bH x H H'->H' x=some (.ins C dx ((fS b).zip (yL n0 many p1 p2 st)))->LI H' p1 l->LI H' p2 (dv l)->p1≠p2->H p1=none->H p2=none->Q .ak H'
theorem Ot(T:Txt K mg t):aQ P w K mg base aX 7 t.Fo t.Fp ["self","many","product"] (ay4 P w K mg base t.wt):=by
 refine T.ZE.ok YR (λvs H Q E h=>?_) λaA A outer s H vs Q E hr h=>?_
 ·obtain⟨x,dx,f,C,b,n0,many,of,oc,c,k,g,l,st,rfl,_⟩:=h;rfl
 obtain⟨x,dx,f,C,b,n0,many,of,oc,c,k,g,l,st,rfl,hx,hb,hC,cv3,hL,hF,q⟩:=h
 refine⟨_,dS (fF (pv 0) (pv 1) rfl) (dS (fF (pv 0) (by4 AY (Bt (pv 1)) pM) rfl)
  (dS (fF (pv 0) (iW ((ax0 T).mono (by decide)) hr rfl T.Zz T.NB.kp T.ZA .nil bE (cn (pv 1) (cn (pv 2) dU))) rfl)
  (dS (fF (pv 0) (iW ((aE6 T).mono (by decide)) hr rfl T.ZC T.NC.kp T.ZD .nil bE (cn (nv (pv 0) rfl) dU)) rfl)
  (kD (fF (pv 0) (R4 (pv 0) hC.cls hC.sp ((wI T).mono (by decide)) hr T.wu .nil bE (cn pM dU)) rfl))))),?_⟩
 have nb:∀n∈(["many","wide","powers","logs","step","step_power"]:List Str),b≠n:=hb
 refine⟨.int many,rfl,.ref x,rfl,x,C,dx,_,rfl,hx,hC.cls,hC.many,kq (bI 1) (by decide),?_⟩
 rw[rN (by simpa using nb "many" (by simp))]
 generalize e1:upd H x (HO.ins C dx ([(b,V.int n0)]++[(("many":Str),V.int many)]))=H1
 have cM:H1 x=some (.ins C dx [(b,V.int n0),(("many":Str),V.int many)]):=by rw[<-e1,bC];rfl
 have s1:bH x H H1:=by rw[<-e1];exact bH.upd (C:=C) (dx:=dx) hx rfl
 have l1:iY H1 f of oc c k:=by rw[<-e1];exact cv3.rO hx
 have n1:∀p,H1 p=none->H p=none:=λp h=>vM hx (by rw[e1];exact h)
 refine⟨_,rfl,rfl,_,rfl,rfl,_,_,rfl,rfl,.ref x,rfl,x,C,dx,_,rfl,cM,hC.cls,hC.wide,kq (bI 2) (by decide),?_⟩
 rw[rN (by simp;exact⟨nb "wide" (by simp),by decide⟩),js]
 generalize e2:upd H1 x (HO.ins C dx ([(b,V.int n0),(("many":Str),V.int many)]++[(("wide":Str),V.int ((bl many:Nat)-1))]))=H2
 have dA:H2 x=some (.ins C dx [(b,V.int n0),(("many":Str),V.int many),(("wide":Str),V.int ((bl many:Nat)-1))]):=by rw[<-e2,bC];rfl
 have s2:bH x H H2:=by rw[<-e2];exact s1.trans (bH.upd (C:=C) (dx:=dx) cM rfl)
 have l2:iY H2 f of oc c k:=by rw[<-e2];exact l1.rO cM
 have n2:∀p,H2 p=none->H p=none:=λp h=>n1 p (vM cM (by rw[e2];exact h))
 refine⟨_,rfl,_,rfl,H2,[.int many,.bt (.lam of oc c k)],λd=>d=.lst true (aC l),ae.refl _,.int (.bt l2 .nil),⟨many,of,oc,c,k,g,l,rfl,hL,hF.step,rfl⟩,λd v F' H3 A' hd hs hf he h3 r nd fr=>?_⟩
 subst hd
 obtain⟨p1,rfl,hp1,wM⟩:=Lz r fr
 have eG:=hs.get _ _ dA
 have s3:=s2.trans (hs.x (x:=x))
 refine⟨.ref x,rfl,x,C,dx,_,rfl,eG,hC.cls,hC.CH,kq (bI 3) (by decide),?_⟩
 rw[rN (by simp;exact⟨nb "powers" (by simp),by decide,by decide⟩)]
 generalize e4:upd H3 x (HO.ins C dx ([(b,V.int n0),(("many":Str),V.int many),(("wide":Str),V.int ((bl many:Nat)-1))]++[(("powers":Str),V.ref p1)]))=H4
 have ib:H4 x=some (.ins C dx [(b,V.int n0),(("many":Str),V.int many),(("wide":Str),V.int ((bl many:Nat)-1)),(("powers":Str),V.ref p1)]):=by rw[<-e4,bC];rfl
 have s4:bH x H H4:=by rw[<-e4];exact s3.trans (bH.upd (C:=C) (dx:=dx) eG rfl)
 have p4:LI H4 p1 l:=by rw[<-e4];exact hp1.upd eG (λws z=>by cases z)
 have n4:∀p,H4 p=none->H p=none:=λp h=>n2 p (hs.free (vM eG (by rw[e4];exact h)))
 refine⟨.ref x,rfl,x,C,dx,_,.ref p1,rfl,ib,hC.cls,hC.CH,by rw[yM (nb "powers" (by simp))];rfl,H4,[.lst false (aC l)],λd=>d=.lst true (aC (dv l)),ae.refl _,.shr p4 (jK l) .nil,⟨l,rfl,by have:=hF.len;have:=hF.hi;omega,hF.ins,rfl⟩,λd v F' H5 A' hd jh hf he h3 r nd fr=>?_⟩
 subst hd
 obtain⟨p2,rfl,hp2,oX⟩:=Lz r fr
 have gK:=jh.get _ _ ib
 have s5:=s4.trans (jh.x (x:=x))
 have cv6:p1≠p2:=λz=>by rw[<-z]at oX;unfold LI at p4;rw[oX]at p4;cases p4
 refine⟨.ref x,rfl,x,C,dx,_,rfl,gK,hC.cls,hC.Wq,kq (bI 4) (by decide),?_⟩
 rw[rN (by simp;exact⟨nb "logs" (by simp),by decide,by decide,by decide⟩)]
 generalize e6:upd H5 x (HO.ins C dx ([(b,V.int n0),(("many":Str),V.int many),(("wide":Str),V.int ((bl many:Nat)-1)),(("powers":Str),V.ref p1)]++[(("logs":Str),V.ref p2)]))=H6
 have mT:H6 x=some (.ins C dx (([b,"many","wide","powers","logs"]:List Str).zip [V.int n0,V.int many,V.int ((bl many:Nat)-1),V.ref p1,V.ref p2])):=by rw[<-e6,bC];rfl
 have s6:bH x H H6:=by rw[<-e6];exact s5.trans (bH.upd (C:=C) (dx:=dx) gK rfl)
 have p6:LI H6 p1 l:=by rw[<-e6];exact(p4.same jh).upd gK (λws z=>by cases z)
 have q6:LI H6 p2 (dv l):=by rw[<-e6];exact hp2.upd gK (λws z=>by cases z)
 refine⟨.ref x,rfl,x,dx,_,rfl,mT,by show jP ("step_power":Str) ((b,V.int n0)::_)=none;rw[yM (nb "step_power" (by simp))];rfl,H6,[.obj C [b,"many","wide","powers","logs"] [.int n0,.int many,.int ((bl many:Nat)-1),.lst false (aC l),.lst false (aC (dv l))],.int 1],λd=>d=.int st,ae.refl _,
  .obj mT rfl (.int (.int (.int (.shr p6 (jK l) (.shr q6 (jK _) .nil))))) (.int .nil),⟨C,_,_,1,many,l,st,rfl,hC.cls,hC.CH,hC.many,by show jP ("powers":Str) ((b,D.int n0)::_)=_;rw[yM (nb "powers" (by simp))];rfl,by show jP ("many":Str) ((b,D.int n0)::_)=_;rw[yM (nb "many" (by simp))];rfl,hF.lo,hF.st,rfl⟩,λd v F' H7 A' hd lX hf he h3 r nd fr=>?_⟩
 subst hd
 cases r
 have kl:=lX.get _ _ mT
 refine⟨.ref x,rfl,x,C,dx,_,rfl,kl,hC.cls,hC.step,kq (bI 5) (by decide),?_⟩
 rw[rN (by simp;exact⟨nb "step" (by simp),by decide,by decide,by decide,by decide⟩)]
 refine q _ p1 p2 ((s6.trans (lX.x (x:=x))).trans (bH.upd (C:=C) (dx:=dx) kl rfl)) (by rw[bC];rfl) ((p6.same lX).upd kl (λws z=>by cases z)) ((q6.same lX).upd kl (λws z=>by cases z)) cv6 (n2 p1 wM) (n4 p2 oX)
noncomputable abbrev ao4:bx:=λds Q=>∃a:Int,ds=[.int a]/\Q (.bl (decide (2<=a)&&decide (a<=61)&&(au (a.toNat-2)).all λi=>a%(2+(i:Int)) != 0))
theorem ao5(T:Txt K mg t):aQ P w K mg base aX 1 t.Fq t.Fs ["prime"] (bB (ao4 )):=by
 refine cm T.NF YS ?_ ?_
 ·intro ds Q h
  obtain⟨a,rfl,q⟩:=h<;>rfl
 ·intro aA A outer s H E hr
  refine⟨_,(aT (bA (uD (ah (uS i4 i4 (ah ay) (bv 0) (ah ay))) (xQ (kX (Ky rfl) (by rfl) T.NT JB (ao (ah (gG [("prime",0)] ["d"] rfl (yp rfl T.gJ (ao (ah ay) (ao (bv 0) aP))) (λ_ _ _ _=>(du (i:=1) (show(["prime","d"]:List Str).Nodup by decide +kernel) rfl (av (lookup_relabel_local rfl)) (by decide) (bw (lookup_relabel_local rfl)))) (λ_ _ _ _=>g8) (λ_ _ _ _=>(BP (uQ (hE hr)) (ah (aL gC (bv 0) (bv 1))) (ah ay) (dB _))) rfl ⟨rfl,trivial⟩ (λ_=>by repeat' (first | exact trivial | refine⟨.inl rfl,?_⟩ | refine⟨.inr (.inl rfl),?_⟩ | refine⟨.inr (.inr ⟨_,rfl⟩),?_⟩)) (λ_=>⟨⟨rfl,.inl rfl,.inl rfl,_,rfl,rfl⟩,trivial⟩) rfl (by decide +kernel))) aP)))))),λds Q h=>?_⟩
  obtain⟨a,rfl,q⟩:=h
  walk_at"l3"
  split
  ·rename_i h1
   split
   ·rename_i h2
    refine⟨2,a,⟨rfl,rfl⟩,⟨by decide,by decide,by omega,by omega⟩,?_⟩
    have e0:(a-2).toNat=a.toNat-2:=by omega
    rw[e0]
    refine i7 (au (a.toNat-2)) (λ(k:Nat)=>D.int (2+(k:Int))) (λ(k:Nat)=>D.bl (a%(2+(k:Int)) != 0)) (by rw[uG]) (λx y h=>by injection h with h;omega) (λk hk=>?_) (.inr λ_ _=>rfl) (by rw[cK,sL];omega) ?_
    ·walk_at"l3"
     refine⟨by omega,?_⟩
     by_cases z:a%(2+(k:Int))=0<;>simp[z]
    ·refine⟨(au (a.toNat-2)).map λ(k:Nat)=>a%(2+(k:Int)) != 0,?_,?_⟩
     ·unfold yt;rw[cV];rfl
     ·have e:(decide (2<=a)&&decide (a<=61)&&(au (a.toNat-2)).all λi=>a%(2+(i:Int)) != 0)=((au (a.toNat-2)).map λ(k:Nat)=>a%(2+(k:Int)) != 0).all id:=by
       simp[h1,h2,m8]
      rw[<-e];exact q
   ·rename_i h2
    have e:(decide (2<=a)&&decide (a<=61)&&(au (a.toNat-2)).all λi=>a%(2+(i:Int)) != 0)=false:=by simp[h2]
    rw[e]at q;exact q
  ·rename_i h1
   have e:(decide (2<=a)&&decide (a<=61)&&(au (a.toNat-2)).all λi=>a%(2+(i:Int)) != 0)=false:=by simp[h1]
   rw[e]at q;exact q
noncomputable abbrev ax1:List D->List Str->List D->Prop:=λds ns xs=>∃p:Nat,ds=[.int p]/\p∈yK/\ns=fS "prime"/\xs=[.int p,.int p,.int ((bl p:Nat)-1),.lst true (aC (fl (false,p))),.lst true (aC (dv (fl (false,p)))),.int (fst (false,p))]
theorem as1(T:Txt K mg t)(hB:Bm mg base):aQ P w K mg base aX 8 t.Ft t.zB ["self","prime"] (CF [t.jf,t.jg] t.aW ax1):=by
 refine Lx T.ZH T.Z2 YT (λvs H Q E h=>?_) λA outer s H vs Q E hr h=>?_
 ·obtain⟨x,dx,bN,ds,ns,xs,rfl,_,_,r,⟨p,rfl,_⟩,_⟩:=h
  have:=r.length
  simp at this
  simp[this]
 obtain⟨x,dx,bN,ds,ns,xs,rfl,tb,hx,r,⟨p,rfl,hp,rfl,rfl⟩,q⟩:=h
 obtain rfl:bN=[.int p]:=by
  cases r with
  | int r=>cases r;rfl
 have hm:(false,p)∈aw:=dg _ (Al hp)
 have hF:=dw hm
 refine⟨_,dS (xT (AK (AJ (iW ((ao5 T).mono (by decide)) hr rfl T.ZF T.NF.kp T.ZG .nil bE (cn (pv 1) dU)))) (kD xU) xS)
  (dS (fF (pv 0) (pv 1) rfl)
  (kD (tR (Lp (E:=E0) (i:=1) T.NS ((Ot T).mono (by decide)) hr T.ND rfl T.zE rfl rfl rfl rfl (cn (pv 0) (cn (pv 1) (cn (Lh rfl rfl T.Z3 hB) dU))))))),?_⟩
 refine⟨_,rfl,H,[.int p],λd=>d=.bl true,ae.refl _,.int .nil,⟨p,rfl,by rw[Ws p hp]⟩,λd v F' H1 A1 hd ia hf he h3 r nd fr=>?_⟩
 subst hd
 cases r
 refine⟨true,rfl,?_⟩
 refine jA ?_
 have cM:=ia.get _ _ hx
 refine⟨.int p,rfl,.ref x,rfl,x,t.aW,dx,_,rfl,cM,T.gb,T.sH,by decide,?_⟩
 generalize e2:upd H1 x (HO.ins t.aW dx (bf "prime" (.int p) []))=H2
 have dA:H2 x=some (.ins t.aW dx [(("prime":Str),.int p)]):=by rw[<-e2,bC];rfl
 have s2:bH x H H2:=by rw[<-e2];exact(ia.x (x:=x)).trans (bH.upd (C:=x) (dx:=dx) cM rfl)
 have n2:∀p,H2 p=none->H p=none:=λp h=>ia.free (vM cM (by rw[e2];exact h))
 obtain⟨ps,hP⟩:=tb t.jf (by simp)
 obtain⟨more,GQ⟩:=s2.tb _ ps hP
 refine⟨.ref x,rfl,.int p,rfl,⟨_,GQ⟩,λf k qn pm hV H3 nf zH hk kf iJ hl3=>?_⟩
 refine⟨f,_,_,.int p,zH,rfl,rfl,λoc u gL hu nc mL=>?_⟩
 obtain⟨tm,rfl⟩:∃tm,u=sS p tm:=hu
 have eG:=iJ.get _ _ dA
 refine⟨x,dx,f,t.aW,"prime",p,p,_,oc,_,k,gm (false,p),fl (false,p),fst (false,p),rfl,vN eG (λz=>by rw[z,nf]at dA;cases dA) nc,by decide,⟨T.gb,T.sG,T.Gm,T.wC,T.wB,T.Gk,T.wD⟩,LC mL nc hk kf,?_,hF,λH' p1 p2 sx de GR ub ne wM oX=>?_⟩
 ·refine Lv (n:=3) ⟨rfl,rfl,rfl,by decide,rfl,rfl,by decide,by decide,rfl⟩ gL (λu1 u2=>rfl) λq f A outer s H E hr=>?_
  refine⟨_,aL gC (ah (aL g9 (bv 0) (bv 1))) (bv 2),λi j Qd h=>?_⟩
  obtain⟨a,b,rfl,rfl,ha,hb,hq⟩:=h
  walk_at"l3"
  have hp0:2<=p:=hF.lo
  refine⟨gO.ok (.inr ⟨by omega,by omega⟩),by omega,?_⟩
  have e:((gm (false,p) a b:Nat):Int)=(a:Int)*b%p:=by
   show((a*b%p:Nat):Int)=_
   rw[xo,tI]
  rw[<-e];exact hq
 ·have gf:H' f=some (.ext (iy _ oc _ f)):=sx.get f _ (λz=>by rw[z]at nf;rw[nf]at dA;cases dA) (by rw[aS mL.symm,bC]) rfl
  have gc:=sx.get _ _ (dk eG nc).symm bC rfl
  refine⟨gf,gc,?_⟩
  refine q _ (yL p p p1 p2 (fst (false,p))) [p1,p2] (s2.trans (LB iJ nf nc sx)) ?_ rfl ?_ (by simp[ne]) (λa ha=>?_)
  ·rw[fQ (λz=>by rw[z,gf]at de;cases de) (λz=>by rw[z,gc]at de;cases de)];exact de
  ·exact .int (.int (.int (.own (GR.rem gf gc) rfl (jK _) (.own (ub.rem gf gc) rfl (jK _) (.int .nil)))))
  ·simp at ha
   rcases ha with rfl | rfl
   ·exact n2 _ (yN iJ wM)
   ·exact n2 _ (yN iJ oX)
noncomputable abbrev av9:bx:=λds Q=>∃(l g:List Int),ds=[.lst false (aC l),.lst false (aC g)]/\1<=l.length/\l.length<=63/\g.length=l.length+1/\(∀x∈g,0<=x)/\Q (.lst true (mP l g))
theorem aw0(T:Txt K mg t):aQ P w K mg base aX 1 t.Fu t.Fv ["powers","logs"] (bB (av9 )):=by
 refine cm T.NG zu ?_ ?_
 ·intro ds Q h
  obtain⟨l,g,rfl,h1,h2,h3,h4,q⟩:=h<;>rfl
 ·intro aA A outer s H E hr
  refine⟨_,(aO (bo (i:=2) zu.nd rfl (bw rfl) (aL gB (ah (kX (uU) (by rfl) T.sO p5 (ao (bv 0) aP))) (ah ay)))
   (aO (bo (i:=3) zu.nd rfl (av rfl) (gz (fi (aL g9 (ah (gz (fi ay eW))) (bv 2)) eW)))
   (aO (gA fc rfl (yp rfl T.gJ (ao (ah ay) (ao (bv 2) aP))) (du (i:=4) zu.nd rfl (bw rfl))
    (aT (Cb (i:=3) rfl (by first | exact av rfl | exact bw (av rfl)) (aL gB (ah (gz (fi ay eW))) (ah (gG [("powers",0),("many",2),("logs",1),("a",4)] ["b"] rfl (yp rfl T.gJ (ao (ah ay) (ao (bv 2) aP))) (λ_ _ _ _=>(du (i:=4) (show(["powers","many","logs","a","b"]:List Str).Nodup by decide +kernel) rfl (av (lookup_relabel_local rfl)) (by decide) (bw (lookup_relabel_local rfl)))) (λ_ _ _ _=>g8) (λ_ _ _ _=>(eE (cT (bv 0) (ah (aL gC (ah (aL gB (cT (bv 2) (bv 3) (λ_ _=>rfl)) (cT (bv 2) (bv 4) (λ_ _=>rfl)))) (ah (aL dE (bv 1) (ah ay))))) (λ_ _=>rfl)))) rfl ⟨rfl,⟨rfl,⟨rfl,⟨rfl,trivial⟩⟩⟩⟩ (λ_=>by repeat' (first | exact trivial | refine⟨.inl rfl,?_⟩ | refine⟨.inr (.inl rfl),?_⟩ | refine⟨.inr (.inr ⟨_,rfl⟩),?_⟩)) (λ_=>⟨⟨rfl,.inl rfl,.inl rfl,_,rfl,rfl⟩,⟨⟨rfl,.inl rfl,.inl rfl,_,rfl,rfl⟩,⟨⟨rfl,.inl rfl,.inl rfl,_,rfl,rfl⟩,⟨⟨rfl,.inl rfl,.inl rfl,_,rfl,rfl⟩,trivial⟩⟩⟩⟩) rfl (by decide +kernel)))))))
   (aT (bA (em 3)))))),λds Q h=>?_⟩
  obtain⟨l,g,rfl,h1,h2,h3,h4,q⟩:=h
  refine aN λU hU=>?_
  walk_at"l3"
  refine hU _ ?_
  clear hU U
  refine aN λU hU=>?_
  walk_at"l3"
  refine⟨by decide,⟨by omega,by omega,by omega⟩,by decide,hU _ ?_⟩
  clear hU U
  refine aN λU hU=>?_
  walk_at"l3"
  refine⟨1,(l.length:Int)+1,⟨rfl,rfl⟩,⟨by decide,by decide,by omega,by omega⟩,?_⟩
  have en:((l.length:Int)+1-1).toNat=l.length:=by omega
  rw[en]
  refine iz.mk (λi δ=>∃o,δ=[some (.lst false (aC l)),some (.lst false (aC g)),some (.int ((l.length:Int)+1)),some (.lst true (rM l g (i+1))),o]) ⟨none,?_⟩ ?_ ?_
  ·rw[show((l.length:Int)+1).toNat=l.length+1 by omega];rfl
  ·rintro i d δ hd ⟨o,rfl⟩
   obtain⟨hi,rfl⟩:i<l.length/\d=.int (1+(i:Int)):=by
    rw[cJ]at hd
    by_cases hi:i<l.length
    ·rw[ky hi]at hd
     exact⟨hi,(cN hd).symm⟩
    ·rw[ie (by simpa using hi)]at hd;cases hd
   walk_at"l3"
   refine⟨⟨_,rfl⟩,by decide,1,(l.length:Int)+1,⟨rfl,rfl⟩,⟨by decide,by decide,by omega,by omega⟩,?_⟩
   rw[en]
   refine i7 (au l.length) (λ(k:Nat)=>D.int (1+(k:Int))) (λ(k:Nat)=>D.int (l.getD ((g.getD (i+1) 0+g.getD (k+1) 0)%(l.length:Int)).toNat 0)) (by rw[uG]) (λx y h=>by injection h with h;omega) (λk hk=>?_) (.inr λ_ _=>rfl) (by rw[cK,sL];omega) ?_
   ·have Mh:=bP.mp hk
    walk_at"l3"
    have e1:(1+(i:Int)).toNat=i+1:=by omega
    have e2:(1+(k:Int)).toNat=k+1:=by omega
    have e3:(l.length:Int)+1-1=l.length:=by omega
    have n0:=iN (g.getD (i+1) 0+g.getD (k+1) 0) (show(l.length:Int)≠0 by omega)
    have n1:=jR (g.getD (i+1) 0+g.getD (k+1) 0) (show(0:Int)<l.length by omega)
    refine⟨_,j9 (by omega) (by omega),_,j9 (by omega) (by omega),?_⟩
    rw[e1,e2,e3]
    exact⟨by omega,_,j9 n0 n1,rfl,rfl⟩
   ·walk_at"l3"
    refine⟨⟨by simp;omega,by rw[m8,dj];intro x _;rfl⟩,by simp[rM];omega,_,?_,rfl⟩
    unfold rM
    rw[Ap (n:=i+1),jo]
    congr 1
    show _=[D.lst true (aC (mO l g (i+1)))]
    unfold mO
    rw[if_neg (by omega)]
    unfold aC
    rw[bV,cV];rfl
  ·rintro δ ⟨o,rfl⟩
   refine hU _ ?_
   simp only[qp,qq,qt,qu,dT,kP,mx,my,dC,nM,nR,nQ,nO,qm,qo,mD,qX,oj,qZ,q0,qg,qh,qi,qj,qk,ql,nN,uT,og,oh,ii,nX,qH,nY,qI,qJ,qK,qL,qM,qN,iI,fO,qO,qP,qQ,qR,nZ,mB,qU,qV,gN,q8,qW,qv,qA,qB,qC,qD,qE,q9,rh,nV,j5,eK,iB,g7,pE,ph,xx,xy,nS,jE,i3,oi,rn,rp,rq,vw,rC,ou,rz,i6,vz,vx,vy,bV,iM,s9,pk,fw,tE,aK,tF,tG,jq,jr,tH,exists_eq_left',exists_eq_left,D.bl.injEq,D.int.injEq,D.lst.injEq,D.fz.injEq,D.str.injEq,D.tup.injEq,xB,and_true,true_and,dh,pF,kz,kr,uV,uW,uX,uY,uZ,u0,gZ,jZ,mE,u7,u9,va,vb,vd,dZ,kO,u3,u4,u5,u6,eU,nI,xC,xD,sU,l8,xE,xF,sW,vh,vi,vj,vm,vn,vo,vp,kZ,mF,oq,i5,rk,ve,rj,rl,vg,mG,rm,if_true,xG,if_false,reduceIte,vq,decide_eq_true_eq,ka,rD,oy,qw,rH,oH,rA,oE,oF,oG,rK,vR,oJ,rS,ft,vU,lD,vW,oM,rX,rY,se,si,bQ,cK]
   exact q
noncomputable abbrev aw1(t:iw):mH:=λds Q Ex=>∃a b:Nat,ds=[.int a,.int b]/\bl a<=1000000/\bl b<=1000000/\(b=0->Ex t.fZ)/\(b≠0->∀q r:Nat,a=cl q b ^^^ r->bl r<bl b->Q (.tup [.int q,.int r]))
theorem Ou(T:Txt K mg t):aQ P w K mg base (kN P w) 1 t.Fw t.Fx ["a","b"] (vt (aw1 t )):=by
 refine KO T.Gb sr ?_ ?_
 ·intro ds Q Ex h
  obtain⟨a,b,rfl,ha,hb,qx,q⟩:=h<;>rfl
 ·intro aA A outer s H E hr
  refine⟨_,(aO (fk (et (kW (hE hr)) (bv 1) (ah ay) (dB _)) (aT (KU T.NX rfl (by rfl) (ao (ah J2) aP))) fj)
   (aO (bo (i:=2) sr.nd rfl (av rfl) ay)
   (aO (bo (i:=3) sr.nd rfl (av rfl) (em 0))
   (aO (Vp (BS fc (et U6 (ah (om (bv 3))) (ah (om (bv 1))) (dB _))
    (aO (bo (i:=4) sr.nd rfl (av rfl) (aL dE (ah (om (bv 3))) (ah (om (bv 1)))))
    (aO (uF (i:=2) sr.nd rfl (av rfl) (ah (aL uO (ah ay) (bv 4))) BZ)
    (aT (uF (i:=3) sr.nd rfl (av rfl) (ah (aL uO (bv 1) (bv 4))) BZ))))))
   (aT (bA (BR (fi (em 2) (fi (em 3) eW))))))))),λds Q Ex h=>?_⟩
  obtain⟨a,b,rfl,ha,hb,qx,q⟩:=h
  refine aN λU hU=>?_
  walk_at"l3"
  split
  ·rename_i h0
   exact⟨by decide,qx (by omega)⟩
  ·rename_i h0
   have b0:b≠0:=by omega
   refine hU _ ?_
   clear hU U
   refine aN λU hU=>?_
   walk_at"l3"
   refine hU _ ?_
   clear hU U
   refine aN λU hU=>?_
   walk_at"l3"
   refine hU _ ?_
   clear hU U
   refine aN λU hU=>?_
   walk_at"l3"
   refine⟨λm δ=>∃(x r:Nat) (o sh:Option D),δ=[o,some (.int b),some (.int (x:Nat)),some (.int (r:Nat)),sh]/\a=cl x b ^^^ r/\bl r<=bl a/\m=bl r,
    ⟨bl a,0,a,_,none,rfl,by rw[mq,m5],bI _,rfl⟩,?_⟩
   rintro m δ ⟨x,r,o,sh,rfl,inv,hra,rfl⟩
   simp only[qp,qq,qt,qu,dT,kP,mx,my,dC,nM,nR,nQ,nO,qm,qo,mD,qX,oj,qZ,q0,qg,qh,qi,qj,qk,ql,nN,uT,og,oh,ii,nX,qH,nY,qI,qJ,qK,qL,qM,qN,iI,fO,qO,qP,qQ,qR,nZ,mB,qU,qV,gN,q8,qW,qv,qA,qB,qC,qD,qE,q9,rh,nV,j5,eK,iB,g7,pE,ph,xx,xy,nS,jE,i3,oi,rn,rp,rq,vw,rC,ou,rz,i6,vz,vx,vy,bV,iM,s9,pk,fw,tE,aK,tF,tG,jq,jr,tH,exists_eq_left',exists_eq_left,D.bl.injEq,D.int.injEq,D.lst.injEq,D.fz.injEq,D.str.injEq,D.tup.injEq,xB,and_true,true_and,dh,pF,kz,kr,uV,uW,uX,uY,uZ,u0,gZ,jZ,mE,u7,u9,va,vb,vd,dZ,kO,u3,u4,u5,u6,eU,nI,xC,xD,sU,l8,xE,xF,sW,vh,vi,vj,vm,vn,vo,vp,kZ,mF,oq,i5,rk,ve,rj,rl,vg,mG,rm,if_true,xG,if_false,reduceIte,vq,decide_eq_true_eq,ka,rD,oy,qw,rH,oH,rA,oE,oF,oG,rK,vR,oJ,rS,ft,vU,lD,vW,oM,rX,rY,se,si,js]
   split
   ·rename_i hc
    have hle:bl b<=bl r:=by omega
    have less:=Jw b0 hle
    have es:(((bl r:Nat):Int)-((bl b:Nat):Int))=((bl r-bl b:Nat):Int):=by omega
    clear hU
    refine aN λU hU=>?_
    walk_at"l3"
    simp only[js,es]
    refine hU _ ?_
    clear hU
    refine aN λU hU=>?_
    walk_at"l3"
    have o1:bl (1:Int).natAbs=1:=by decide
    refine⟨⟨by omega,by omega⟩,hU _ ?_⟩
    clear hU
    simp only[qp,qq,qt,qu,dT,kP,mx,my,dC,nM,nR,nQ,nO,qm,qo,mD,qX,oj,qZ,q0,qg,qh,qi,qj,qk,ql,nN,uT,og,oh,ii,nX,qH,nY,qI,qJ,qK,qL,qM,qN,iI,fO,qO,qP,qQ,qR,nZ,mB,qU,qV,gN,q8,qW,qv,qA,qB,qC,qD,qE,q9,rh,nV,j5,eK,iB,g7,pE,ph,xx,xy,nS,jE,i3,oi,rn,rp,rq,vw,rC,ou,rz,i6,vz,vx,vy,bV,iM,s9,pk,fw,tE,aK,tF,tG,jq,jr,tH,exists_eq_left',exists_eq_left,D.bl.injEq,D.int.injEq,D.lst.injEq,D.fz.injEq,D.str.injEq,D.tup.injEq,xB,and_true,true_and,dh,pF,kz,kr,uV,uW,uX,uY,uZ,u0,gZ,jZ,mE,u7,u9,va,vb,vd,dZ,kO,u3,u4,u5,u6,eU,nI,xC,xD,sU,l8,xE,xF,sW,vh,vi,vj,vm,vn,vo,vp,kZ,mF,oq,i5,rk,ve,rj,rl,vg,mG,rm,if_true,xG,if_false,reduceIte,vq,decide_eq_true_eq,ka,rD,oy,qw,rH,oH,rA,oE,oF,oG,rK,vR,oJ,rS,ft,vU,lD,vW,oM,rX,rY,se,si,js]
    refine⟨⟨by omega,by rw[js];omega⟩,_,less,x ^^^ 2 ^ (bl r-bl b),r ^^^ b <<< (bl r-bl b),o,_,⟨rfl,?_,?_,rfl⟩,S8 inv,by omega,rfl⟩
    ·rw[show(1:Int)=((1:Nat):Int) from rfl,pY,uj,AA]
    ·rw[pY,uj]
   ·rename_i hc
    refine hU _ ?_
    walk_at"l3"
    refine⟨by decide,q b0 x r inv (by omega)⟩
noncomputable abbrev aw2:bx:=λds Q=>∃a:Nat,ds=[.int a]/\bl a<=60/\Q (.bl (al a))
theorem aw3(T:Txt K mg t):aQ P w K mg base aX 2 t.Fy t.Fz ["a"] (bB (aw2 )):=by
 refine cm T.NJ Ea ?_ ?_
 ·intro ds Q h
  obtain⟨a,rfl,ha,q⟩:=h<;>rfl
 ·intro aA A outer s H E hr
  refine⟨_,(aO (fk (et B0 (bv 0) (ah ay) (dB _)) (aT (bA qf)) fj)
   (aO (bo (i:=1) Ea.nd rfl (av rfl) (aL uN (ah (aL dE (ah (om (bv 0))) (ah ay))) (ah ay)))
   (aO (gA fc rfl (yp rfl T.gJ (ao (ah ay) (ao (ah (aL uO (ah ay) (ah (aL gB (bv 1) (ah ay))))) aP))) (du (i:=2) Ea.nd rfl (av rfl))
    (aT (fk (et (kW (hE hr)) (cT (ah (cH (Cj ((Ou T).mono (by decide))) hr rfl T.NH T.Gb.kp T.NI Ci (ao (bv 0) (ao (bv 2) aP)))) (ah ay) (λ_ _=>rfl)) (ah ay) (dB _)) (aT (bA qf)) fj)))
   (aT (bA qf))))),λds Q h=>?_⟩
  obtain⟨a,rfl,ha,q⟩:=h
  refine aN λU hU=>?_
  walk_at"l3"
  split
  ·rename_i h2
   rw[Tn (by omega)]at q;exact q
  ·rename_i h2
   have h2:2<=a:=by omega
   have hp:=jB (show a≠0 by omega)
   refine hU _ ?_
   clear hU U
   refine aN λU hU=>?_
   walk_at"l3"
   simp only[js]
   refine⟨uM (by omega) (by omega),hU _ ?_⟩
   clear hU U
   have eh:((((bl a:Nat):Int)-1)/2+1)=(((bl a-1)/2+1:Nat):Int):=by omega
   have e1:(1:Int)*2 ^ ((((bl a:Nat):Int)-1)/2+1).toNat=((2 ^ ((bl a-1)/2+1):Nat):Int):=by
    rw[eh,show(1:Int)=((1:Nat):Int) from rfl,pY,AA]
   have big:2 ^ ((bl a-1)/2+1)<=2 ^ 40:=xb (by decide) (by omega)
   have o1:bl (1:Int).natAbs=1:=by decide
   refine aN λU hU=>?_
   walk_at"l3"
   rw[e1]
   have cW3:((2 ^ ((bl a-1)/2+1):Nat):Int)<=2 ^ 40:=by exact_mod_cast big
   have nn:(0:Int)<=((2 ^ ((bl a-1)/2+1):Nat):Int):=Ht _
   refine⟨⟨by omega,by omega⟩,_,_,⟨rfl,rfl⟩,⟨by decide,by decide,by omega,by omega⟩,?_⟩
   have en:(((2 ^ ((bl a-1)/2+1):Nat):Int)-2).toNat=2 ^ ((bl a-1)/2+1)-2:=by omega
   rw[en]
   refine iz.mk (λi δ=>(∃o1 o2,δ=[some (.int a),o1,o2])/\∀j,j<i->md a (2+j)≠0) ⟨⟨_,_,rfl⟩,λj hj=>absurd hj (by omega)⟩ ?_ ?_
   ·rintro i d δ hd ⟨⟨o1,o2,rfl⟩,inv⟩
    obtain⟨hi,rfl⟩:i<2 ^ ((bl a-1)/2+1)-2/\d=.int (2+(i:Int)):=by
     rw[cJ]at hd
     by_cases hi:i<2 ^ ((bl a-1)/2+1)-2
     ·rw[ky hi]at hd
      exact⟨hi,(cN hd).symm⟩
     ·rw[ie (by simpa using hi)]at hd;cases hd
    have bi:bl (2+i)<=60:=by
     have:=(Tq h2 (show 2+i<2 ^ ((bl a-1)/2+1) by omega)).2
     omega
    walk_at"l3"
    refine⟨a,2+i,by rw[show((2+i:Nat):Int)=2+(i:Int) by omega],by omega,by omega,by omega,λ_ x r e l=>?_⟩
    have em:md a (2+i)=r:=um e l
    refine⟨.int r,rfl,rfl,?_⟩
    rw[mG]
    split
    ·rename_i hz
     have r0:r=0:=by have:=of_decide_eq_true hz;omega
     rw[Tp hi (em.trans r0)]at q
     exact q
    ·rename_i hz
     refine⟨⟨_,_,rfl,rfl⟩,λj hj=>?_⟩
     by_cases ej:j=i
     ·rw[ej,em]
      intro r0
      exact hz (decide_eq_true (by omega))
     ·exact inv j (by omega)
   ·rintro δ ⟨⟨o1,o2,rfl⟩,inv⟩
    rw[bQ,cK]at inv
    rw[To h2 inv]at q
    refine hU _ ?_
    walk_at"l3"
    exact q
noncomputable abbrev as2:bx:=λds Q=>∃a:Int,ds=[.int a]/\Q (.bl (decide (4<=a)&&decide (a<=127)&&al a.toNat))
theorem as3(T:Txt K mg t):aQ P w K mg base aX 3 t.FA t.FC ["bits"] (bB (as2 )):=by
 refine cm T.NK YU ?_ ?_
 ·intro ds Q h
  obtain⟨a,rfl,q⟩:=h<;>rfl
 ·intro aA A outer s H E hr
  refine⟨_,(aT (bA (uD (ah (uS i4 i4 (ah ay) (bv 0) (ah ay))) (xQ (cH ((aw3 T).mono (by decide)) hr rfl T.ZL T.NJ.kp T.ZM bE (ao (bv 0) aP)))))),λds Q h=>?_⟩
  obtain⟨a,rfl,q⟩:=h
  walk_at"l3"
  split
  ·rename_i h1
   split
   ·rename_i h2
    refine⟨a.toNat,by rw[pG (by omega)],?_,?_⟩
    ·have:bl a.toNat<=bl 127:=Br (by omega)
     exact dH this (by decide)
    ·have e:(decide (4<=a)&&decide (a<=127)&&al a.toNat)=al a.toNat:=by simp[h1,h2]
     rw[e]at q;exact q
   ·rename_i h2
    have e:(decide (4<=a)&&decide (a<=127)&&al a.toNat)=false:=by simp[h2]
    rw[e]at q;exact q
  ·rename_i h1
   have e:(decide (4<=a)&&decide (a<=127)&&al a.toNat)=false:=by simp[h1]
   rw[e]at q;exact q
noncomputable abbrev ay5:bx:=λds Q=>∃a b:Nat,ds=[.int a,.int b]/\bl a<=1000/\bl b<=1000/\Q (.int (cl a b:Nat))
theorem ay6(T:Txt K mg t):aQ P w K mg base aX 1 t.FD t.FE ["a","b"] (bB (ay5 )):=by
 refine cm T.NL zw ?_ ?_
 ·intro ds Q h
  obtain⟨a,b,rfl,ha,hb,q⟩:=h<;>rfl
 ·intro aA A outer s H E hr
  refine⟨_,(aO (bo (i:=2) zw.nd rfl (av rfl) ay)
   (aO (gA fc rfl (jF rfl T.gJ (ao (ah (om (bv 1))) aP)) (du (i:=3) zw.nd rfl (av rfl))
    (aT (fk (et (kW (hE hr)) (ah (aL U0 (ah (aL UZ (bv 1) (bv 3))) (ah ay))) (ah ay) (dB _)) (aT (uF (i:=2) zw.nd rfl (av rfl) (ah (aL uO (bv 0) (bv 3))) BZ)) fj)))
   (aT (bA (em 2))))),λds Q h=>?_⟩
  obtain⟨a,b,rfl,ha,hb,q⟩:=h
  refine aN λU hU=>?_
  walk_at"l3"
  refine hU _ ?_
  clear hU U
  refine aN λU hU=>?_
  walk_at"l3"
  simp only[js]
  refine⟨⟨by omega,by omega⟩,ot (λi δ=>∃o,δ=[some (.int a),some (.int b),some (.int (Mf.P a b i:Nat)),o]) ⟨none,rfl⟩ ?_ ?_⟩
  ·rintro i δ hi ⟨o,rfl⟩
   walk_at"l3"
   refine⟨by omega,?_⟩
   have Ov:(mV ((b:Int)/2 ^ ((i:Int)).toNat) 1=1)↔b.testBit i=true:=by
    have h:=Tx b i
    rw[HK]at h
    rw[<-h,dI]
   split
   ·rename_i hc
    have h:=Tz (a:=a) (Ov.mp hc)
    rw[HK]at h
    exact⟨⟨by omega,by rw[js];omega⟩,_,h,rfl⟩
   ·rename_i hc
    exact⟨_,by rw[TB (λz=>hc (Ov.mpr z))],rfl⟩
  ·rintro δ ⟨o,rfl⟩
   refine hU _ ?_
   walk_at"l3"
   exact q
noncomputable abbrev aC0:List D->List Str->List D->Prop:=λds ns xs=>∃p:Nat,ds=[.int p]/\p∈jM/\ns=fS "bits"++[("products":Str)]/\xs=[.int p,.int (aa (true,p)),.int ((bl (aa (true,p)):Nat)-1),.lst true (aC (fl (true,p))),.lst true (aC (dv (fl (true,p)))),.int (fst (true,p)),.lst true (mP (fl (true,p)) (dv (fl (true,p))))]
theorem au9(T:Txt K mg t)(hB:Bm mg base):aQ P w K mg base aX 8 t.FF t.zC ["self","bits"] (CF [t.jf,t.jg] t.aU aC0):=by
 refine Lx T.ZR T.Z4 M9 (λvs H Q E h=>?_) λA outer s H vs Q E hr h=>?_
 ·obtain⟨x,dx,bN,ds,ns,xs,rfl,_,_,r,⟨p,rfl,_⟩,_⟩:=h
  have:=r.length
  simp at this
  simp[this]
 obtain⟨x,dx,bN,ds,ns,xs,rfl,tb,hx,r,⟨p,rfl,hp,rfl,rfl⟩,q⟩:=h
 obtain rfl:bN=[.int p]:=by
  cases r with
  | int r=>cases r;rfl
 have hm:(true,p)∈aw:=eH _ (Al hp)
 have hF:=dw hm
 refine⟨_,dS (xT (AK (AJ (iW ((as3 T).mono (by decide)) hr rfl T.ZN T.NK.kp T.ZO .nil bE (cn (pv 1) dU)))) (kD xU) xS)
  (dS (fF (pv 0) (pv 1) rfl)
  (dS (AO (i:=2) M9.nd rfl (av rfl) (by4 JI pM (by4 AY (Bt (pv 1)) pM)))
  (dS (tR (Lp (E:=E0) (i:=1) T.NS ((Ot T).mono (by decide)) hr T.ND rfl T.zE rfl rfl rfl rfl (cn (pv 0) (cn (pv 2) (cn (Lh rfl rfl T.Z5 hB) dU)))))
  (kD (fF (pv 0) (iW ((aw0 T).mono (by decide)) hr rfl T.ZJ T.NG.kp T.ZK .nil bE (cn (nv (pv 0) rfl) (cn (nv (pv 0) rfl) dU))) rfl))))),?_⟩
 refine⟨_,rfl,H,[.int p],λd=>d=.bl true,ae.refl _,.int .nil,⟨p,rfl,by rw[Wt p hp]⟩,λd v F' H1 A1 hd ia hf he h3 r nd fr=>?_⟩
 subst hd
 cases r
 refine⟨true,rfl,?_⟩
 refine jA ?_
 have cM:=ia.get _ _ hx
 refine⟨.int p,rfl,.ref x,rfl,x,t.aU,dx,_,rfl,cM,T.eZ,T.Gf,by decide,?_⟩
 generalize e2:upd H1 x (HO.ins t.aU dx (bf "bits" (.int p) []))=H2
 have dA:H2 x=some (.ins t.aU dx [(("bits":Str),.int p)]):=by rw[<-e2,bC];rfl
 have s2:bH x H H2:=by rw[<-e2];exact(ia.x (x:=x)).trans (bH.upd (C:=x) (dx:=dx) cM rfl)
 have n2:∀p,H2 p=none->H p=none:=λp h=>ia.free (vM cM (by rw[e2];exact h))
 obtain⟨ps,hP⟩:=tb t.jg (by simp)
 obtain⟨more,GQ⟩:=s2.tb _ ps hP
 have bp:bl p<=7:=Wu p hp
 have Ow:1<=bl p:=Wv p hp
 refine⟨.int p,rfl,rfl,p,rfl,rfl,_,_,rfl,rfl,_,_,rfl,rfl,?_,?_⟩
 ·have o1:bl (1:Int).natAbs=1:=by decide
  rw[js]
  exact⟨by omega,by omega⟩
 have em:(1:Int)*2 ^ (((bl ((p:Int)).natAbs:Nat):Int)-1).toNat=((aa (true,p):Nat):Int):=by
  rw[js,show(((bl p:Nat):Int)-1)=((bl p-1:Nat):Int) by omega,show(1:Int)=((1:Nat):Int) from rfl,pY,AA];rfl
 show xW 2 (.int ((1:Int)*2 ^ (((bl ((p:Int)).natAbs:Nat):Int)-1).toNat)) _ _ _
 rw[em]
 refine⟨.ref x,rfl,.int (aa (true,p)),rfl,⟨_,GQ⟩,λf k qn pm hV H3 nf zH hk kf iJ hl3=>?_⟩
 refine⟨f,_,_,.int p,zH,rfl,rfl,λoc u gL hu nc mL=>?_⟩
 obtain⟨tm,rfl⟩:∃tm,u=sS p tm:=hu
 have eG:=iJ.get _ _ dA
 refine⟨x,dx,f,t.aU,"bits",p,aa (true,p),_,oc,_,k,gm (true,p),fl (true,p),fst (true,p),rfl,vN eG (λz=>by rw[z,nf]at dA;cases dA) nc,by decide,⟨T.eZ,T.sE,T.Gh,T.sF,T.sD,T.Gg,T.wA⟩,LC mL nc hk kf,?_,hF,λH' p1 p2 sx de GR ub ne wM oX=>?_⟩
 ·refine Lv (n:=3) ⟨rfl,rfl,rfl,by decide,rfl,rfl,by decide,by decide,rfl⟩ gL (λu1 u2=>rfl) λq f A outer s H E hr=>?_
  refine⟨_,eE (cT (ah (cH (Cj ((Ou T).mono (by decide))) hr rfl T.NH T.Gb.kp T.NI Ci (ao (ah (cH ((ay6 T).mono (by decide)) hr rfl T.ZP T.NL.kp T.ZQ bE (ao (bv 0) (ao (bv 1) aP)))) (ao (bv 2) aP)))) (ah ay) (λ_ _=>rfl)),λi j Qd h=>?_⟩
  obtain⟨a,b,rfl,rfl,ha,hb,hq⟩:=h
  walk_at"l3"
  have b1:bl a<=6:=by
   have:bl a<=bl 63:=Br (by omega)
   exact dH this (by decide)
  have b2:bl b<=6:=by
   have:bl b<=bl 63:=Br (by omega)
   exact dH this (by decide)
  have p0:p≠0:=by
   intro z
   rw[z]at Ow
   exact absurd Ow (by decide)
  refine⟨a,b,rfl,by omega,by omega,cl a b,p,rfl,dH (Ww a b) (by omega),by omega,λz=>p0 z,λ_ x r e l=>⟨by simp[D.pl],.int r,rfl,rfl,r,rfl,?_⟩⟩
  have er:gm (true,p) a b=r:=um e l
  rw[<-er];exact hq
 ·have gf:H' f=some (.ext (iy _ oc _ f)):=sx.get f _ (λz=>by rw[z]at nf;rw[nf]at dA;cases dA) (by rw[aS mL.symm,bC]) rfl
  have gc:=sx.get _ _ (dk eG nc).symm bC rfl
  refine⟨gf,gc,?_⟩
  have s4:=s2.trans (LB iJ nf nc sx)
  have f1:=n2 _ (yN iJ wM)
  have f2:=n2 _ (yN iJ oX)
  have l1:=GR.rem gf gc
  have l2:=ub.rem gf gc
  have ib:rem H' f (s.heap.objs.size+1) x=some (.ins t.aU dx ((fS "bits").zip (yL p (aa (true,p)) p1 p2 (fst (true,p))))):=by
   rw[fQ (λz=>by rw[z,gf]at de;cases de) (λz=>by rw[z,gc]at de;cases de)];exact de
  generalize rem H' f (s.heap.objs.size+1)=H4 at s4 l1 l2 ib
  refine⟨.ref x,rfl,x,t.aU,dx,_,.ref p1,rfl,ib,T.eZ,T.sF,rfl,.ref x,rfl,x,t.aU,dx,_,.ref p2,rfl,ib,T.eZ,T.sD,rfl,H4,[.lst false (aC (fl (true,p))),.lst false (aC (dv (fl (true,p))))],λd=>d=.lst true (mP (fl (true,p)) (dv (fl (true,p)))),ae.refl _,.shr l1 (jK _) (.shr l2 (jK _) .nil),
   ⟨_,_,rfl,by have:=hF.len;have:=hF.lo;omega,by have:=hF.len;have:=hF.hi;omega,vL _ _,LG _ _,rfl⟩,λd v F' H5 A' hd jh hf he h3 r nd fr=>?_⟩
  subst hd
  obtain⟨p3,rfl⟩:∃p3,v=.ref p3:=by cases r;exact⟨_,rfl⟩
  have gK:=jh.get _ _ ib
  have nA:∀{a ws},H4 a=some (.lst ws)->a ∉ A':=λ{a ws} e z=>by rw[fr a z]at e;cases e
  refine⟨.ref x,rfl,x,t.aU,dx,_,rfl,gK,T.eZ,T.wz,kq (bI 6) (by decide),?_⟩
  refine q _ (yL p (aa (true,p)) p1 p2 (fst (true,p))++[.ref p3]) (p1::p2::A') ((s4.trans (jh.x (x:=x))).trans (bH.upd (C:=x) (dx:=dx) gK rfl)) (by rw[bC];rfl) rfl ?_ ?_ ?_
  ·exact .int (.int (.int (.own ((l1.same jh).upd gK (λws z=>by cases z)) rfl (jK _) (.own ((l2.same jh).upd gK (λws z=>by cases z)) rfl (jK _) (.int ((r.p9 (by simp[eU,LF]) (ae.of λb o e=>by cases e)).rO gK (by simp[eU,LF])))))))
  ·exact iK.mpr ⟨by simp[ne];exact nA l1,iK.mpr ⟨nA l2,nd⟩⟩
  ·intro a ha
   rcases bR.mp ha with rfl | ha
   ·exact f1
   ·rcases bR.mp ha with rfl | ha
    ·exact f2
    ·exact s4.free (by rw[ib];simp) (fr a ha)
noncomputable abbrev ay7(cb cp:Addr):bx:=λds Q=>∃m:Bool × Nat,ds=[i8 m]/\m∈aw/\Q (fD cb cp m)
theorem ay8(T:Txt K mg t)(hB:Bm mg base):aQ P w K mg base aX 10 t.FG t.FH ["_law_told_here"] (vC [t.jf,t.jg] (bB (ay7 t.aU t.aW))):=by
 refine Lw T.NM YV ?_ ?_
 ·intro ds Q h
  obtain⟨m,rfl,hm,q⟩:=h<;>rfl
 ·intro aA A outer s H E hT hr
  refine⟨_,(aO (fk (uC (cT (bv 0) (ah ay) (λ_ _=>rfl))) (aT (bA (Ly hT T.Ge ((au9 T hB).mono (by decide)) hr rfl T.Gz T.ZS bE (ao (cT (bv 0) (ah ay) (λ_ _=>rfl)) aP)))) fj)
   (aT (bA (Ly hT T.Gj ((as1 T hB).mono (by decide)) hr rfl T.GC T.ZI bE (ao (cT (bv 0) (ah ay) (λ_ _=>rfl)) aP))))),λds Q h=>?_⟩
  obtain⟨m,rfl,hm,q⟩:=h
  unfold i8 at *
  refine aN λU hU=>?_
  walk_at"l3"
  obtain⟨b,n⟩:=m
  cases b with
  | true =>
   refine⟨_,rfl,true,rfl,?_⟩
   rw[if_pos rfl]
   refine⟨_,rfl,_,_,⟨n,rfl,CK hm,rfl,rfl⟩,?_⟩
   rw[WC];exact q
  | false =>
   refine⟨_,rfl,false,rfl,?_⟩
   rw[if_neg (by decide)]
   refine hU _ ?_
   walk_at"l3"
   refine⟨_,rfl,_,_,⟨n,rfl,WE hm,rfl,rfl⟩,?_⟩
   rw[WD];exact q
noncomputable abbrev ax2:bx:=λds Q=>∃(n k:Nat),ds=[.int n,.int k]/\k<=n/\n<=24/\Q (.int (ch n k))
theorem Ox(T:Txt K mg t):aQ P w K mg base aX 1 t.FI t.FJ ["_law_n","_law_k"] (bB (ax2 )):=by
 refine cm T.Gd zx ?_ ?_
 ·intro ds Q h
  obtain⟨n,k,rfl,h1,h2,q⟩:=h<;>rfl
 ·intro aA A outer s H E hr
  refine⟨_,(aO (bo (i:=2) zx.nd rfl (av rfl) ay)
   (aO (gA fc rfl (jF rfl T.gJ (ao (bv 1) aP)) (du (i:=3) zx.nd rfl (av rfl))
    (aT (bo (i:=2) zx.nd rfl (av rfl) (aL uN (ah (aL g9 (bv 2) (ah (aL dE (bv 0) (bv 3))))) (ah (aL gB (bv 3) (ah ay)))))))
   (aT (bA (em 2))))),λds Q h=>?_⟩
  obtain⟨n,k,rfl,h1,h2,q⟩:=h
  refine aN λU hU=>?_
  walk_at"l3"
  refine hU _ ?_
  clear hU U
  refine aN λU hU=>?_
  walk_at"l3"
  refine⟨⟨by omega,by omega⟩,ot (λi δ=>∃o,δ=[some (.int n),some (.int k),some (.int (ch n i)),o]) ⟨none,by rw[sj]⟩ ?_ ?_⟩
  ·rintro i δ hi ⟨o,rfl⟩
   walk_at"l3"
   have e:ch n i*((n:Int)-i)/((i:Int)+1)=ch n (i+1):=by
    rw[<-zj,Int.mul_ediv_cancel _ (by omega)]
   refine⟨gO.ok (.inr ⟨by omega,by omega⟩),uM (by omega) (by omega),?_⟩
   exact⟨_,e,rfl⟩
  ·rintro δ ⟨o,rfl⟩
   refine hU _ ?_
   walk_at"l3"
   exact q
noncomputable abbrev ax3:bx:=λds Q=>∃(x:Int) (n:Nat),ds=[.int x,.int n]/\0<=x/\x<2 ^ 60/\n<=100000/\Q (.int (x ^ n))
theorem ax4(T:Txt K mg t):aQ P w K mg base aX 1 t.FK t.FL ["_law_base","_law_n"] (bB (ax3 )):=by
 refine cm T.NP zy ?_ ?_
 ·intro ds Q h
  obtain⟨x,n,rfl,h0,h1,h2,q⟩:=h<;>rfl
 ·intro aA A outer s H E hr
  refine⟨_,(aO (bo (i:=2) zy.nd rfl (av rfl) ay)
   (aO (gA fc rfl (jF rfl T.gJ (ao (bv 1) aP)) (du (i:=3) zy.nd rfl (av rfl))
    (aT (bo (i:=2) zy.nd rfl (av rfl) (aL g9 (bv 2) (bv 0)))))
   (aT (bA (em 2))))),λds Q h=>?_⟩
  obtain⟨x,n,rfl,h0,h1,h2,q⟩:=h
  refine aN λU hU=>?_
  walk_at"l3"
  refine hU _ ?_
  clear hU U
  refine aN λU hU=>?_
  walk_at"l3"
  refine⟨⟨by omega,by omega⟩,ot (λk δ=>∃o,δ=[some (.int x),some (.int n),some (.int (x ^ k)),o]) ⟨none,by rw[Int.pow_zero]⟩ ?_ ?_⟩
  ·rintro k δ hk ⟨o,rfl⟩
   walk_at"l3"
   refine⟨gO.ok (.inr ⟨by omega,by omega⟩),?_⟩
   exact⟨_,(Int.pow_succ ..).symm,rfl⟩
  ·rintro δ ⟨o,rfl⟩
   refine hU _ ?_
   walk_at"l3"
   exact q
noncomputable abbrev aw4:bx:=λds Q=>∃(M n e w:Nat),ds=[.int M,.int n,.int e,.int w]/\2<=M/\M<=64/\n<=24/\e<n/\n<=e+2/\w<=n/\Q (.int (if w<=e then(if w=0 then 1 else 0)else if w=e+1 then ch n w*((M:Int)-1)else ch n w*((M:Int) ^ 2-1-(w:Int)*((M:Int)-1))))
theorem aw5(T:Txt K mg t):aQ P w K mg base aX 2 t.FN t.FP ["_law_many_here","_law_length","_law_extra","_law_w"] (bB (aw4 )):=by
 refine cm T.NQ su ?_ ?_
 ·intro ds Q h
  obtain⟨M,n,e,w,rfl,hM,cy0,hn,he,jY,hw,q⟩:=h<;>rfl
 ·intro aA A outer s H E hr
  refine⟨_,(aO (fk (et i4 (bv 3) (bv 2) (dB _)) (aT (bA (Kv W2 (by rfl) T.NU JC (ao (ah (BP (kW (hE hr)) (bv 3) (ah ay) (dB _))) aP)))) fj)
   (aO (bo (i:=4) su.nd rfl (av rfl) ay)
   (aO (bo (i:=5) su.nd rfl (av rfl) ay)
   (aO (gA fc rfl (jF rfl T.gJ (ao (ah (aL dE (bv 3) (bv 2))) aP)) (du (i:=6) su.nd rfl (av rfl))
    (aO (bo (i:=4) su.nd rfl (av rfl) (aL gB (bv 4) (ah (aL g9 (ah (aL g9 (bv 5) (ah (cH ((Ox T).mono (by decide)) hr rfl T.NN T.Gd.kp T.NO bE (ao (bv 3) (ao (bv 6) aP)))))) (ah (aL dE (ah (cH ((ax4 T).mono (by decide)) hr rfl T.ZV T.NP.kp T.ZW bE (ao (bv 0) (ao (ah (aL dE (ah (aL dE (bv 3) (bv 2))) (bv 6))) aP)))) (ah ay)))))))
    (aT (bo (i:=5) su.nd rfl (av rfl) (aL dE (ah ay) (bv 5))))))
   (aT (bA (aL g9 (ah (cH ((Ox T).mono (by decide)) hr rfl T.NN T.Gd.kp T.NO bE (ao (bv 1) (ao (bv 3) aP)))) (bv 4)))))))),λds Q h=>?_⟩
  obtain⟨M,n,e,w,rfl,hM,cy0,hn,he,jY,hw,q⟩:=h
  refine aN λU hU=>?_
  walk_at"l3"
  by_cases c:w<=e
  ·rw[if_pos (by omega)]
   rw[if_pos c]at q
   rw[show(if(w:Int)=0 then(1:Int)else 0)=if w=0 then 1 else 0 by split<;>split<;>omega]
   exact q
  rw[if_neg (by omega)]
  rw[if_neg c]at q
  refine hU _ ?_
  clear hU U
  refine aN λU hU=>?_
  walk_at"l3"
  refine hU _ ?_
  clear hU U
  refine aN λU hU=>?_
  walk_at"l3"
  refine hU _ ?_
  clear hU U
  refine aN λU hU=>?_
  walk_at"l3"
  refine⟨⟨by omega,by omega⟩,?_⟩
  rw[show((w:Int)-(e:Int))=((w-e:Nat):Int) by omega]
  have pz:(M:Int) ^ 0=1:=Int.pow_zero ..
  refine ot (λk δ=>∃o,δ=[some (D.int M),some (D.int n),some (D.int e),some (D.int w),some (D.int (if k=0 then 0 else if k=1 then(M:Int) ^ (w-e)-1 else(M:Int) ^ (w-e)-1-(w:Int)*((M:Int) ^ (w-e-1)-1))),some (D.int (if k=1 then -1 else 1)),o]) ⟨none,rfl⟩ ?_ ?_
  ·rintro k δ hk ⟨o,rfl⟩
   simp only[gN,jr,jq]
   clear hU
   refine aN λU hU=>?_
   walk_at"l3"
   refine⟨w,k,rfl,by omega,by omega,?_⟩
   dsimp only
   rcases(show k=0\/k=1 by omega)with rfl | rfl
   ·rw[sj]
    refine⟨gO.ok (.inl ⟨by decide,by decide⟩),M,w-e,by rw[show((w:Int)-(e:Int)-((0:Nat):Int))=((w-e:Nat):Int) by omega],by omega,by omega,by omega,?_⟩
    dsimp only
    refine⟨gO.ok (.inl ⟨by decide,by decide⟩),hU _ ?_⟩
    walk_at"l3"
    exact⟨_,by simp,by simp,rfl⟩
   ·rw[MN]
    refine⟨gO.ok (.inl ⟨by decide,by decide⟩),M,w-e-1,by rw[show((w:Int)-(e:Int)-((1:Nat):Int))=((w-e-1:Nat):Int) by omega],by omega,by omega,by omega,?_⟩
    dsimp only
    refine⟨gO.ok (.inl ⟨by simp;omega,by simp;omega⟩),hU _ ?_⟩
    walk_at"l3"
    exact⟨_,by simp[Int.neg_mul,Int.sub_eq_add_neg],by decide,rfl⟩
  ·rintro δ ⟨o,rfl⟩
   refine hU _ ?_
   walk_at"l3"
   refine⟨n,w,rfl,by omega,by omega,?_⟩
   dsimp only
   have cb:ch n w=1\/ch n w=(n:Int):=by
    rcases(show w=n\/n=w+1 by omega)with rfl | rfl
    ·exact .inl (wk _)
    ·exact .inr ((Dt w).trans (by omega))
   refine⟨gO.ok (.inl ⟨by omega,by omega⟩),?_⟩
   by_cases c2:w=e+1
   ·rw[if_pos c2]at q
    rw[if_neg (by omega),if_pos (by omega),show w-e=1 by omega,Ib]
    exact q
   ·rw[if_neg c2]at q
    rw[if_neg (by omega),if_neg (by omega),show w-e=2 by omega,show 2-1=1 from rfl,Ib]
    exact q
noncomputable abbrev ay9:bx:=λds Q=>∃i:Int,ds=[.int i]/\Q (.bl true)
theorem az0(T:Txt K mg t):aQ P w K mg base aX 1 t.FQ t.FR ["_law_x"] (bB (ay9 )):=by
 refine cm T.NR YW ?_ ?_
 ·intro ds Q h
  obtain⟨i,rfl,q⟩:=h<;>rfl
 ·intro aA A outer s H E hr
  refine⟨_,(aT (bA (uD (ah (B9 (by rfl) T.Gx (by rfl) T.NU JC (bv 0))) (xQ (UK (ah (B9 (by rfl) T.Gx (by rfl) T.η Ts (bv 0)))))))),λds Q h=>?_⟩
  obtain⟨i,rfl,q⟩:=h
  walk_at"l3"
  exact q
theorem ci1{m:Bool × Nat}(hm:m∈aw){G:List (List Nat)}(hR:RT (aa m) (af G) G)(h:G.length<af G)(hw:af G<=64):cU m G/\af G<=(bg m G).length+G.length:=by
 obtain⟨⟨H,I⟩,iR,_⟩:=ke hm hR
 have f:=I.Mw hm iR
 have r:=XT hm hR hR λi hi=>by
  rw[aV,aR hi]
  exact bY.of (eQ hi)
 unfold bg
 exact⟨⟨hm,hR,by omega,hw,by unfold bg;omega⟩,by omega⟩
noncomputable def vv(M n e w:Nat):Int:=if w<=e then(if w=0 then 1 else 0)else if w=e+1 then ch n w*((M:Int)-1)else ch n w*((M:Int) ^ 2-1-(w:Int)*((M:Int)-1))
theorem bW4{m:Bool × Nat}(hm:m∈aw){G:List (List Nat)}{e:Nat}(hc:cU m G)(hd:rZ m G (e+1))(hG:G.length=e)(hs:af G<=(bg m G).length+e)(h1:e<af G)(h2:af G<=e+2)(h3:af G=e+2->3<=af G)(w2:2<=af G){w:Nat}(hw:w<=af G):((cf (iH (af G) (cy m (af G) (aY m G))) w:Nat):Int)=vv (aa m) (af G) e w:=by
 have dX:=lo1 hm
 have sg:=hc.MM hd
 have iq:(bg m G).length=af G-e:=by omega
 rw[zK _ hw]
 unfold vv
 rcases(show af G=e+1\/af G=e+2 by omega)with q | q
 ·obtain⟨a,b,c⟩:=YC hc w2 (by rw[q];exact hd) (by omega)
  by_cases z:w<=e
  ·rw[if_pos z]
   by_cases z0:w=0
   ·rw[if_pos z0,z0,a];rfl
   ·rw[if_neg z0,c w z0 (by omega)];rfl
  ·rw[if_neg z,if_pos (by omega),show w=af G by omega,wk]
   omega
 ·obtain⟨a,b,c,d⟩:=YD hc (h3 q) (by rw[q];exact hd) (by omega)
  by_cases z:w<=e
  ·rw[if_pos z]
   by_cases z0:w=0
   ·rw[if_pos z0,z0,a];rfl
   ·rw[if_neg z0,d w z0 (by omega) (by omega)];rfl
  ·rw[if_neg z]
   have b':((Ia (λw=>cg w==af G-1) (cy m (af G) (aY m G)):Nat):Int)+(af G:Int)=(af G:Int)*(aa m:Int):=by rw[<-tI];omega
   by_cases z1:w=e+1
   ·rw[if_pos z1,show w=af G-1 by omega]
    obtain⟨k,hk⟩:∃k,af G=k+1:=⟨af G-1,by omega⟩
    rw[hk]at b' ⊢
    rw[Nat.add_sub_cancel,show((k+1:Nat):Int)=(k:Int)+1 from rfl]at b'
    rw[Nat.add_sub_cancel,Dt,HY,w4]
    omega
   ·rw[if_neg z1,show w=af G by omega,wk,Int.one_mul,Int.pow_succ,Ib,HY,w4]
    have c':(aa m:Int)*(aa m:Int)=((aa m*aa m:Nat):Int):=by rw[tI]
    omega
theorem b94(T:Txt K mg t)(hB:Bm mg base):aQ P w K mg base aX 11 t.FT t.FU ["_law_script"] (vC [t.jf,t.jg] (bB (KH ))):=by
 refine Lw T.Z1 jN ?_ ?_
 ·intro ds Q h
  obtain⟨ns,rfl,hl,q⟩:=h<;>rfl
 ·intro aA A outer s H E hT hr
  refine⟨_,(aO (bo (i:=1) jN.nd rfl (av rfl) (cH ((ο T).mono (by decide)) hr rfl T.YX T.Nc.kp T.YY bE (ao (ah (cH ((sQ T).mono (by decide)) hr rfl T.sA T.oV.kp T.sC bE (ao (bv 0) (ao (ah ay) aP)))) aP)))
   (aO (bo (i:=2) jN.nd rfl (bw rfl) (cH ((ρ T).mono (by decide)) hr rfl T.YZ T.Nd.kp T.Y0 bE (ao (bv 1) aP)))
   (aO (bo (i:=3) jN.nd rfl (bw rfl) (aL gB (ah ay) (ah (aL gC (ah (cH ((sQ T).mono (by decide)) hr rfl T.sA T.oV.kp T.sC bE (ao (bv 0) (ao (ah ay) aP)))) (ah (kX (Kw rfl) (by rfl) T.NW JA (ao (ah ay) (ao (ah (aL dE (bv 2) (ah ay))) aP))))))))
   (aO (bo (i:=4) jN.nd rfl (av rfl) ay)
   (aO (fk (PW.pt (UI (et i4 (bv 2) (ah ay) (dB _)) (Qj (et Kk (bv 3) (ah ay) (dB _))))) (aT (bo (i:=4) jN.nd rfl (av rfl) (aL gB (ah ay) (ah (aL gC (ah (cH ((sQ T).mono (by decide)) hr rfl T.sA T.oV.kp T.sC bE (ao (bv 0) (ao (ah ay) aP)))) (ah ay)))))) fj)
   (aO (fk (et (kW (hE hr)) (ah (aL gC (ah (aL uN (ah (cH ((sQ T).mono (by decide)) hr rfl T.sA T.oV.kp T.sC bE (ao (bv 0) (ao (ah ay) aP)))) (ah ay))) (ah ay))) (ah ay) (dB _)) (aO (bo (i:=3) jN.nd rfl (bw rfl) (aL gB (ah ay) (ah (aL gC (ah (cH ((sQ T).mono (by decide)) hr rfl T.sA T.oV.kp T.sC bE (ao (bv 0) (ao (ah ay) aP)))) (ah (kX (Kw rfl) (by rfl) T.NW JA (ao (ah ay) (ao (ah (aL dE (bv 2) (ah ay))) aP))))))))
    (aT (bo (i:=4) jN.nd rfl (av rfl) ay))) fj)
   (aO (bo (i:=5) jN.nd rfl (bw rfl) (aL dE (bv 3) (bv 4)))
   (aO (bo (i:=6) jN.nd rfl (av rfl) (Yd hT T.Gq ((au8 T hB).mono (by decide)) hr rfl T.GD T.Zq bE (ao (ah (Wj hT ((ay8 T hB).mono (by decide)) hr rfl T.ZT T.NM.kp T.ZU bE (ao (bv 1) aP))) (ao (bv 3) (ao (bv 5) (ao (ah (aL gC (ah (cH ((sQ T).mono (by decide)) hr rfl T.sA T.oV.kp T.sC bE (ao (bv 0) (ao (ah ay) aP)))) (ah (aL dE (bv 2) (ah ay))))) aP))))))
   (aO (bo (i:=7) jN.nd rfl (av rfl) (cH ((aF0 T).mono (by decide)) hr rfl T.Zx T.Ny.kp T.Zy bE (ao (bv 6) aP)))
   (aO (fk (PW.pt (UJ (BQ (uC (ah (B9 (by rfl) T.Gx (by rfl) T.NV JE (bv 7))))) (Qk (BQ (uC (ah (kX (Ky rfl) (by rfl) T.NT JB (ao (ah (gG [] ["_law_x"] rfl (nU (bv 7)) (λ_ _ _ _=>(du (i:=0) (show(["_law_x"]:List Str).Nodup by decide +kernel) rfl (av (lookup_relabel_local rfl)) (by decide) (bw (lookup_relabel_local rfl)))) (λ_ _ _ _=>g8) (λ_ _ _ _=>(cH ((az0 T).mono (by decide)) hr rfl T.ZZ T.NR.kp T.Z0 bE (ao (bv 0) aP))) rfl trivial (λ_=>by repeat' (first | exact trivial | refine⟨.inl rfl,?_⟩ | refine⟨.inr (.inl rfl),?_⟩ | refine⟨.inr (.inr ⟨_,rfl⟩),?_⟩)) (λ_=>trivial) rfl (by decide +kernel))) aP)))))))) (aT (bA qf)) fj)
   (aT (bA (BP (kW (hE hr)) (bv 7) (ah (gG [("_law_many_here",2),("_law_length",3),("_law_extra",5)] ["_law_w"] rfl (jF rfl T.gJ (ao (ah (aL gB (bv 3) (ah ay))) aP)) (λ_ _ _ _=>(du (i:=3) (show(["_law_many_here","_law_length","_law_extra","_law_w"]:List Str).Nodup by decide +kernel) rfl (av (lookup_relabel_local rfl)) (by decide) (bw (lookup_relabel_local rfl)))) (λ_ _ _ _=>g8) (λ_ _ _ _=>(cH ((aw5 T).mono (by decide)) hr rfl T.ZX T.NQ.kp T.ZY bE (ao (bv 0) (ao (bv 1) (ao (bv 2) (ao (bv 3) aP)))))) rfl ⟨rfl,⟨rfl,⟨rfl,trivial⟩⟩⟩ (λ_=>by repeat' (first | exact trivial | refine⟨.inl rfl,?_⟩ | refine⟨.inr (.inl rfl),?_⟩ | refine⟨.inr (.inr ⟨_,rfl⟩),?_⟩)) (λ_=>⟨⟨rfl,.inl rfl,.inl rfl,_,rfl,rfl⟩,⟨⟨rfl,.inl rfl,.inl rfl,_,rfl,rfl⟩,⟨⟨rfl,.inl rfl,.inl rfl,_,rfl,rfl⟩,trivial⟩⟩⟩) rfl (by decide +kernel))) (dB _)))))))))))))),λds Q h=>?_⟩
  obtain⟨ns,rfl,hl,q⟩:=h
  refine aN λU hU=>?_
  walk_at"l3"
  refine⟨ns,0,rfl,by decide,_,rfl,λm hm h3=>⟨rfl,hU _ ?_⟩⟩
  clear hU U
  have hF:=dw hm
  have wK:=hF.hi
  have hbl:=WM m hm
  refine aN λU hU=>?_
  walk_at"l3"
  refine⟨m,rfl,by omega,by omega,hU _ ?_⟩
  clear hU U
  refine aN λU hU=>?_
  walk_at"l3"
  refine⟨ns,1,rfl,by decide,?_⟩
  dsimp only
  obtain⟨M,eM,M0,M1,M3⟩:∃M:Int,(if(aa m:Int)-2<5 then(aa m:Int)-2 else 5)=M/\0<M/\M<=(aa m:Int)-2/\M<=5:=⟨_,rfl,by split<;>omega,by split<;>omega,by split<;>omega⟩
  rw[eM]
  refine⟨M0,?_⟩
  obtain⟨n,en,mj,hn6,GS⟩:∃k:Nat,2+ns.getD (gn 1) 0%M=k/\2<=k/\k<=6/\k+1<=aa m:=by
   have n0:=iN (ns.getD (gn 1) 0) (show M≠0 by omega)
   have n1:=jR (ns.getD (gn 1) 0) M0
   exact⟨(2+ns.getD (gn 1) 0%M).toNat,by omega,by omega,by omega,by omega⟩
  rw[en]
  refine hU _ ?_
  clear hU U en eM M0 M1 M3 M
  refine aN λU hU=>?_
  walk_at"l3"
  refine hU _ ?_
  clear hU U
  refine aN λU hU=>?_
  walk_at"l3"
  have fin:∀s:Nat,1<=s->s<=2->(s=2->3<=n/\aa m<=16)->U [some (D.fz (aC ns)),some (i8 m),some (D.int (aa m)),some (D.int n),some (D.int s),none,none,none]:=by
   intro s s1 s2 s3
   refine hU _ ?_
   clear hU U
   refine aN λU hU=>?_
   walk_at"l3"
   have fin2:∀n s:Nat,1<=s->s<=2->2<=n->n<=24->n+1<=aa m->(s=2->3<=n/\aa m<=16)->U [some (D.fz (aC ns)),some (i8 m),some (D.int (aa m)),some (D.int n),some (D.int s),none,none,none]:=by
    clear s1 s2 s3 s mj hn6 GS n
    intro n s s1 s2 mj Oy GS s3
    refine hU _ ?_
    clear hU U
    refine aN λU hU=>?_
    walk_at"l3"
    rw[show((n:Int)-(s:Int))=((n-s:Nat):Int) by omega]
    refine hU _ ?_
    clear hU U
    obtain⟨e,he⟩:∃e,n-s=e:=⟨_,rfl⟩
    rw[he]
    refine aN λU hU=>?_
    walk_at"l3"
    refine⟨m,rfl,hm,ns,3,rfl,by decide,?_⟩
    dsimp only
    obtain⟨f,ef,hf⟩:∃f:Nat,ns.getD (gn 3) 0%((aa m:Int)-1)=f/\f+2<=aa m:=by
     have n0:=iN (ns.getD (gn 3) 0) (show(aa m:Int)-1≠0 by omega)
     have n1:=jR (ns.getD (gn 3) 0) (show 0<(aa m:Int)-1 by omega)
     exact⟨(ns.getD (gn 3) 0%((aa m:Int)-1)).toNat,by omega,by omega⟩
    rw[ef]
    refine⟨by omega,CL _ _ _,_,_,⟨m,n,e,f,rfl,hm,by omega,by omega,by omega,by omega,by omega,rfl,rfl⟩,?_⟩
    rw[jo,Yl]
    obtain⟨g1,g2⟩:=zf hm f (au n) e
    rw[cK]at g1
    have g3:af (dO m f (au n) e)=n:=C8 g1 λz=>by
     rw[z]at g2
     exact absurd g2 (by show ¬ 0=e;omega)
    have g4:RT (aa m) (af (dO m f (au n) e)) (dO m f (au n) e):=by rw[g3];exact g1
    obtain⟨cG,sz⟩:=ci1 hm g4 (by omega) (by omega)
    have aG:=Yr hm (f:=f) (e:=e) (n:=n) (by omega) g3
    show U [some (D.fz (aC ns)),some (i8 m),some (D.int (aa m)),some (D.int n),some (D.int s),some (D.int e),some (gg t m (dO m f (au n) e) (.Di e f)),none]
    generalize dO m f (au n) e=G at *
    subst g3
    have vk:=λ{w:Nat} (hw:w<=af G)=>bW4 hm cG aG g2 (by omega) (by omega) (by omega) (by omega) (by omega) hw
    have sg:=cG.MM aG
    have fC:(bg m G).length<=2:=by omega
    have hq:aa m ^ (bg m G).length<=4096:=by
     rcases(show(bg m G).length=1\/(bg m G).length=2 by have:=cG.sz;omega)with q1 | q1
     ·rw[q1,Hx];omega
     ·have:=(s3 (by omega)).2
      rw[q1,Nat.pow_two]
      exact dH (Nat.mul_le_mul this this) (by decide)
    refine hU _ ?_
    clear hU U
    refine aN λU hU=>?_
    walk_at"l3"
    rw[Dj]
    refine⟨m,G,.Di e f,rfl,cG,fC,hq,by rw[mQ,l8],hU _ ?_⟩
    clear hU U
    have cl:=sP (af G) (cy m (af G) (aY m G))
    generalize iH (af G) (cy m (af G) (aY m G))=C at vk cl ⊢
    refine aN λU hU=>?_
    walk_at"l3"
    refine i7 C (λ(i:Nat)=>D.int (i:Int)) (λ_=>D.bl true) (yx _) ow (λi hi=>?_) (.inr λ_ _=>rfl) (by rw[sL];omega) ?_
    ·walk_at"l3"
     exact⟨_,rfl,rfl⟩
    refine⟨C.map λ_=>true,by unfold yt;rw[cV];rfl,?_⟩
    rw[show(C.map λ_=>true).all id=true by simp,if_neg (by decide)]
    refine hU _ ?_
    clear hU U
    walk_at"l3"
    refine⟨⟨by omega,by omega⟩,i7 (au (af G+1)) (λ(i:Nat)=>D.int (i:Int)) (λw=>D.int (vv (aa m) (af G) e w)) (yV _ (by omega)) ow (λw hw=>?_) (.inr λ_ _=>rfl) (by rw[cK,sL];omega) ?_⟩
    ·have hw:=bP.mp hw
     walk_at"l3"
     exact⟨aa m,af G,e,w,rfl,by omega,by omega,by omega,by omega,by omega,by omega,rfl⟩
    rw[show(au (af G+1)).map (λw=>D.int (vv (aa m) (af G) e w))=aE C by
     rw[<-oO (w:=af G+1) (a:=(au (af G+1)).map (cf C)) (by rw[bQ,cK]) cl λk hk=>v9 _ hk,dF,cV]
     refine gk λw hw=>?_
     show _=D.int ((cf C w:Nat):Int)
     rw[vk (by have:=bP.mp hw;omega)]]
    refine⟨CO 5 true C,?_⟩
    rw[(vQ true true C C).trans (decide_eq_true rfl)]
    exact q
   refine⟨ns,2,rfl,by decide,?_⟩
   dsimp only
   refine⟨uM (by decide) (by decide),by decide,?_⟩
   split
   ·clear hU
    refine aN λU hU=>?_
    walk_at"l3"
    refine⟨ns,1,rfl,by decide,?_⟩
    dsimp only
    obtain⟨M,eM,M0,M1,M3⟩:∃M:Int,(if(aa m:Int)-2<23 then(aa m:Int)-2 else 23)=M/\0<M/\M<=(aa m:Int)-2/\M<=23:=⟨_,rfl,by split<;>omega,by split<;>omega,by split<;>omega⟩
    rw[eM]
    refine⟨M0,?_⟩
    obtain⟨n',en,cy7,Oy,cy8⟩:∃k:Nat,2+ns.getD (gn 1) 0%M=k/\2<=k/\k<=24/\k+1<=aa m:=by
     have n0:=iN (ns.getD (gn 1) 0) (show M≠0 by omega)
     have n1:=jR (ns.getD (gn 1) 0) M0
     exact⟨(2+ns.getD (gn 1) 0%M).toNat,by omega,by omega,by omega,by omega⟩
    rw[en]
    refine hU _ ?_
    walk_at"l3"
    exact fin2 n' 1 (by decide) (by decide) cy7 Oy cy8 (by omega)
   ·exact fin2 n s s1 s2 mj (by omega) GS s3
  clear hU
  split
  ·split
   ·refine⟨ns,2,rfl,by decide,?_⟩
    dsimp only
    refine⟨by decide,?_⟩
    have:=Int.emod_two_eq (ns.getD (gn 2) 0)
    have:=fin (1+ns.getD (gn 2) 0%2).toNat (by omega) (by omega) (by omega)
    rw[pG (by omega)]at this
    exact this
   ·exact fin 1 (by decide) (by decide) (by omega)
  ·exact fin 1 (by decide) (by decide) (by omega)
end
set_option maxHeartbeats 0 in
theorem all_mk{l:PySem.W.OpenLaw}{w:World}{K:Frag}{h:Heap}{mg:Str->Option Value}{fa:Addr}{ts:List Addr}(X:K.In h)(G:h.Ns mainGlobals mg)(hfa:mg "law"=some (.ref fa))
  {cz0 Oz:Option Addr} {cz1:Array (Option Value)} {cz2 OA OB OC GU OD:Value} {wN:Addr}
  {GV:Addr} {cz3 cz4:Value} {cz5:Option Addr} {cz6:Array (Option Value)} {cz7:Nat}
  {cz8 cz9:Option Addr} {cA0:Array (Option Value)} {cA1 cA2 cA3 cA4 cA5:Value} {wO:Addr}
  {wQ jf:Addr} {as4:Option Addr} {as5:Array (Option Value)} {OE:Array Value} {as6:Value}
  {cA9 cB0:Option Addr} {cB1:Array (Option Value)} {cB2 cB3 cB4 cB5 cB6:Value} {wR:Addr}
  {wU jg:Addr} {av0:Option Addr} {av1:Array (Option Value)} {OF:Array Value} {av2:Value}
  {cC0 OG:Option Addr} {cC1:Array (Option Value)} {cC2 OH OI OJ GW OK:Value} {GX:Addr}
  {f0 f1 f2 f3 f4 f5 f6 f7 f8 f9 sR GY kS GZ G0 zL zM G1 wV G2 wW G3 G4 uJ G5 G6 G7 G8 wX G9 Ha Hb Hc He Hf Hg Hh Hi Hj Hk:Addr} {fd0 fd1 fd2 fd3 fd4 fd5 fd6 fd7 fd8 fd9 cD3 cD4 cD5 cD6 cD7 cD8 cD9 cE0 cE1 cE2 cE3 cE4 cE5 cE6 cE7 cE8 cE9 cF0 cF1 cF2 cF3 cF4 cF5 cF6 cF7 cF8 cF9 cG0 cG1 cG2:FuncData}
  {aU fZ kj jO aW bu:Addr}
  {zD:Tok}
  (Gz:nsIn K mainGlobals "BitField"=some (some (.ref aU)))
  (GA:nsIn K mainGlobals "ByNought"=some (some (.ref fZ)))
  (GB:nsIn K mainGlobals "Code"=some (some (.ref kj)))
  (zE:nsIn K mainGlobals "Field"=some (some (.ref jO)))
  (GC:nsIn K mainGlobals "PrimeField"=some (some (.ref aW)))
  (GD:nsIn K mainGlobals "RootCode"=some (some (.ref bu)))
  (a0:nsIn K mainGlobals "_law_told"=some (some (.ref f0)))
  (a1:nsIn K mainGlobals "_law_many"=some (some (.ref f1)))
  (a2:nsIn K mainGlobals "width_of"=some (some (.ref f2)))
  (a3:nsIn K mainGlobals "first_with"=some (some (.ref f3)))
  (a4:findIn K (.ref aU) "scaled"=some (some (.ref f4)))
  (mf4:isFn K (.ref f4)=true)
  (a5:findIn K (.ref aW) "scaled"=some (some (.ref f5)))
  (mf5:isFn K (.ref f5)=true)
  (a6:findIn K (.ref aU) "lessened"=some (some (.ref f6)))
  (mf6:isFn K (.ref f6)=true)
  (a7:findIn K (.ref aW) "lessened"=some (some (.ref f7)))
  (mf7:isFn K (.ref f7)=true)
  (a8:nsIn K mainGlobals "cleared"=some (some (.ref f8)))
  (a9:findIn K (.ref jO) "step_power"=some (some (.ref f9)))
  (OL:isFn K (.ref f9)=true)
  (a10:findIn K (.ref jO) "over"=some (some (.ref sR)))
  (OM:isFn K (.ref sR)=true)
  (a11:nsIn K mainGlobals "reduced"=some (some (.ref GY)))
  (a12:nsIn K mainGlobals "copied"=some (some (.ref kS)))
  (a13:nsIn K mainGlobals "leads"=some (some (.ref GZ)))
  (a14:nsIn K mainGlobals "free_places"=some (some (.ref G0)))
  (a15:findIn K (.ref aU) "minus"=some (some (.ref zL)))
  (cH2:isFn K (.ref zL)=true)
  (a16:findIn K (.ref aW) "minus"=some (some (.ref zM)))
  (cH4:isFn K (.ref zM)=true)
  (a17:nsIn K mainGlobals "kernel_of_reduced"=some (some (.ref G1)))
  (a18:findIn K (.ref kj) "__init__"=some (some (.ref wV)))
  (cW7:isFn K (.ref wV)=true)
  (a19:nsIn K mainGlobals "makes_root_code"=some (some (.ref G2)))
  (a20:findIn K (.ref bu) "__init__"=some (some (.ref wN)))
  (cH8:isFn K (.ref wN)=true)
  (a21:findIn K (.ref kj) "rows"=some (some (.ref wW)))
  (cH9:isFn K (.ref wW)=true)
  (a22:nsIn K mainGlobals "all_words"=some (some (.ref G3)))
  (a23:nsIn K mainGlobals "how_many_words"=some (some (.ref G4)))
  (a24:nsIn K mainGlobals "census"=some (some (.ref uJ)))
  (a25:nsIn K mainGlobals "_law_cell"=some (some (.ref G5)))
  (a26:nsIn K mainGlobals "powers_of"=some (some (.ref G6)))
  (a27:nsIn K mainGlobals "step_powers"=some (some (.ref G7)))
  (a28:nsIn K mainGlobals "logs_of"=some (some (.ref G8)))
  (a29:findIn K (.ref jO) "__init__"=some (some (.ref wX)))
  (cX0:isFn K (.ref wX)=true)
  (a30:nsIn K mainGlobals "makes_prime_field"=some (some (.ref G9)))
  (a31:findIn K (.ref aW) "__init__"=some (some (.ref wO)))
  (cI9:isFn K (.ref wO)=true)
  (a32:nsIn K mainGlobals "product_rows"=some (some (.ref Ha)))
  (a33:nsIn K mainGlobals "bits_divided"=some (some (.ref Hb)))
  (a34:nsIn K mainGlobals "stands_alone"=some (some (.ref Hc)))
  (a35:nsIn K mainGlobals "makes_bit_field"=some (some (.ref He)))
  (a36:nsIn K mainGlobals "bits_times"=some (some (.ref Hf)))
  (a37:findIn K (.ref aU) "__init__"=some (some (.ref wR)))
  (cJ6:isFn K (.ref wR)=true)
  (a38:nsIn K mainGlobals "_law_field"=some (some (.ref Hg)))
  (a39:nsIn K mainGlobals "_law_choose"=some (some (.ref Hh)))
  (a40:nsIn K mainGlobals "_law_raised"=some (some (.ref Hi)))
  (a41:nsIn K mainGlobals "_law_counted"=some (some (.ref Hj)))
  (a42:nsIn K mainGlobals "_law_whole"=some (some (.ref Hk)))
  (ON:nsIn K mainGlobals "law"=some (some (.ref GX)))
  (aD4:plainGet K aU Str.empty=true)
  (aD5:hasDictIn K aU=true)
  (aD6:plainOver K aU=true)
  (aD7:findIn K (.ref aU) "__setattr__"=some (some (.builtin "object.__setattr__")))
  (Ge:makesIn K aU=true)
  (aD8:keepIn K (.ref aU)=true)
  (Gf:findIn K (.ref aU) "bits"=some none)
  (sD:findIn K (.ref aU) "logs"=some none)
  (sE:findIn K (.ref aU) "many"=some none)
  (sF:findIn K (.ref aU) "powers"=some none)
  (wz:findIn K (.ref aU) "products"=some none)
  (Gg:findIn K (.ref aU) "step"=some none)
  (Gh:findIn K (.ref aU) "wide"=some none)
  (Gi:findIn K (.ref aU) "over"=some (some (.ref sR)))
  (wA:findIn K (.ref aU) "step_power"=some (some (.ref f9)))
  (az1:plainGet K aW Str.empty=true)
  (az2:hasDictIn K aW=true)
  (az3:plainOver K aW=true)
  (az4:findIn K (.ref aW) "__setattr__"=some (some (.builtin "object.__setattr__")))
  (Gj:makesIn K aW=true)
  (az5:keepIn K (.ref aW)=true)
  (wB:findIn K (.ref aW) "logs"=some none)
  (sG:findIn K (.ref aW) "many"=some none)
  (wC:findIn K (.ref aW) "powers"=some none)
  (sH:findIn K (.ref aW) "prime"=some none)
  (Gk:findIn K (.ref aW) "step"=some none)
  (Gm:findIn K (.ref aW) "wide"=some none)
  (Gp:findIn K (.ref aW) "over"=some (some (.ref sR)))
  (wD:findIn K (.ref aW) "step_power"=some (some (.ref f9)))
  (cL2:plainGet K bu Str.empty=true)
  (cL3:hasDictIn K bu=true)
  (cL4:plainOver K bu=true)
  (cL5:findIn K (.ref bu) "__setattr__"=some (some (.builtin "object.__setattr__")))
  (Gq:makesIn K bu=true)
  (cL6:keepIn K (.ref bu)=true)
  (Gr:findIn K (.ref bu) "check_rows"=some none)
  (Gs:findIn K (.ref bu) "extra"=some none)
  (sI:findIn K (.ref bu) "field"=some none)
  (Gu:findIn K (.ref bu) "first"=some none)
  (sJ:findIn K (.ref bu) "length"=some none)
  (Gv:findIn K (.ref bu) "message_places"=some none)
  (sM:findIn K (.ref bu) "size"=some none)
  (sN:findIn K (.ref bu) "word_rows"=some none)
  (wF:findIn K (.ref bu) "rows"=some (some (.ref wW)))
  (cL7:specialIn K (.ref kj) "__getattribute__"=some (some (.builtin "type.__getattribute__")))
  (cL8:PySem.W.readsIn K kj (.type "type")=true)
  (cL9:PySem.W.findCls K (.ref kj) (.type "type") "__init__"=some (.val (.ref wV)))
  (az6:specialIn K (.ref jO) "__getattribute__"=some (some (.builtin "type.__getattribute__")))
  (az7:PySem.W.readsIn K jO (.type "type")=true)
  (az8:PySem.W.findCls K (.ref jO) (.type "type") "__init__"=some (.val (.ref wX)))
  (cM3:nsIn K mainGlobals "all"=some none)
  (cM4:nsIn K mainGlobals "bool"=some none)
  (cM5:nsIn K mainGlobals "enumerate"=some none)
  (cM6:nsIn K mainGlobals "int"=some none)
  (cM7:nsIn K mainGlobals "isinstance"=some none)
  (cM8:nsIn K mainGlobals "len"=some none)
  (cM9:nsIn K mainGlobals "list"=some none)
  (cN0:nsIn K mainGlobals "min"=some none)
  (cN1:nsIn K mainGlobals "range"=some none)
  (cN2:nsIn K mainGlobals "zip"=some none)
  (cN3:nsIn K mainGlobals "MOST_WORDS"=some (some (.int 4096 zD)))
  (aF5:PySem.W.typeIn K (.ref fZ)=some (.type "type"))
  (aC1:findIn K (.ref fZ) "__getattribute__"=some (some (.builtin "BaseException.__getattribute__")))
  (aC2:findIn K (.ref fZ) "__getattr__"=some none)
  (aC3:findIn K (.ref fZ) "__class__"=some (some (.builtin "object.__class__")))
  (aC4:specialIn K (.builtin "object.__class__") "__get__"=some (some (.builtin "getset_descriptor.__get__")))
  (aC5:PySem.W.takesIn K (.builtin "object.__class__")=some true)
  (aC6:PySem.W.mroIn K fZ (.type "object")=some true)
  (aC7:PySem.W.mroIn K fZ (.type "BaseException")=some true)
  (F0:aH K "_law_told" "_law_told" Dz f0 fd0)
  (F1:aH K "_law_many" "_law_many" DB f1 fd1)
  (F2:aH K "width_of" "width_of" DC f2 fd2)
  (F3:aH K "first_with" "first_with" DD f3 fd3)
  (F4:aH K "scaled" "BitField.scaled" DE f4 fd4)
  (F5:aH K "scaled" "PrimeField.scaled" DF f5 fd5)
  (F6:aH K "lessened" "BitField.lessened" DG f6 fd6)
  (F7:aH K "lessened" "PrimeField.lessened" DH f7 fd7)
  (F8:aH K "cleared" "cleared" DI f8 fd8)
  (F9:aH K "step_power" "Field.step_power" DJ f9 fd9)
  (zN:aH K "over" "Field.over" DK sR cD3)
  (OO:aH K "reduced" "reduced" DL GY cD4)
  (OP:aH K "copied" "copied" DM kS cD5)
  (OQ:aH K "leads" "leads" DN GZ cD6)
  (OR:aH K "free_places" "free_places" DO G0 cD7)
  (Hl:aH K "minus" "BitField.minus" DP zL cD8)
  (Hm:aH K "minus" "PrimeField.minus" DQ zM cD9)
  (OS:aH K "kernel_of_reduced" "kernel_of_reduced" DR G1 cE0)
  (Ho:aH K "__init__" "Code.__init__" DS wV cE1)
  (OT:aH K "makes_root_code" "makes_root_code" DT G2 cE2)
  (Hq:aH K "rows" "Code.rows" DU wW cE3)
  (OU:aH K "all_words" "all_words" DV G3 cE4)
  (OV:aH K "how_many_words" "how_many_words" DW G4 cE5)
  (OW:aH K "census" "census" DX uJ cE6)
  (OX:aH K "_law_cell" "_law_cell" DZ G5 cE7)
  (OY:aH K "powers_of" "powers_of" D0 G6 cE8)
  (OZ:aH K "step_powers" "step_powers" D1 G7 cE9)
  (O0:aH K "logs_of" "logs_of" D2 G8 cF0)
  (Hr:aH K "__init__" "Field.__init__" D4 wX cF1)
  (O1:aH K "makes_prime_field" "makes_prime_field" D6 G9 cF2)
  (O2:aH K "product_rows" "product_rows" D7 Ha cF3)
  (O3:aH K "bits_divided" "bits_divided" D8 Hb cF4)
  (O4:aH K "stands_alone" "stands_alone" D9 Hc cF5)
  (O5:aH K "makes_bit_field" "makes_bit_field" Eb He cF6)
  (O6:aH K "bits_times" "bits_times" Ec Hf cF7)
  (O7:aH K "_law_field" "_law_field" Ee Hg cF8)
  (O8:aH K "_law_choose" "_law_choose" Ef Hh cF9)
  (O9:aH K "_law_raised" "_law_raised" Eg Hi cG0)
  (Pa:aH K "_law_counted" "_law_counted" Eh Hj cG1)
  (Pb:aH K "_law_whole" "_law_whole" Ei Hk cG2)
  (l20:K.lookup wN=some ⟨cz2,cz0,.func (fnOf "__init__" "RootCode.__init__" (gv lN) (dY lN) (aM lN) (.ref GV) OA OB OC Oz GU OD),cz1⟩)
  (cO2:K.lookup GV=some ⟨cz3,cz5,.seq #[cz4] cz7,cz6⟩)
  (c20:codeIn K GU "RootCode.__init__"=true)
  (k20:keepIn K (.ref wN)=true)
  (l31:K.lookup wO=some ⟨cA1,cz8,.func (fnOf "__init__" "PrimeField.__init__" (gv lQ) (dY lQ) (aM lQ) .none cA2 cA3 cA4 cz9 (.ref wQ) cA5),cA0⟩)
  (c31:codeIn K (.ref wQ) "PrimeField.__init__"=true)
  (k31:keepIn K (.ref wO)=true)
  (aF1:K.lookup wQ=some ⟨as6,as4,.fields OE,as5⟩)
  (aF2:OE[11]?=some (.ref jf))
  (as7:codeHdIn K wQ jf=true)
  (l37:K.lookup wR=some ⟨cB2,cA9,.func (fnOf "__init__" "BitField.__init__" (gv lU) (dY lU) (aM lU) .none cB3 cB4 cB5 cB0 (.ref wU) cB6),cB1⟩)
  (c37:codeIn K (.ref wU) "BitField.__init__"=true)
  (k37:keepIn K (.ref wR)=true)
  (aF3:K.lookup wU=some ⟨av2,av0,.fields OF,av1⟩)
  (aF4:OF[11]?=some (.ref jg))
  (av3:codeHdIn K wU jg=true)
  (l43:K.lookup GX=some ⟨cC2,cC0,.func (fnOf "law" "law" (gv lV) (dY lV) (aM lV) .none OH OI OJ OG GW OK),cC1⟩)
  (c43:codeIn K GW "law"=true)
  (k43:keepIn K (.ref GX)=true)
  (aD9:(PySem.W.clsIn K fZ).isSome=true)
  (aE0:PySem.W.excIn K fZ [.type "ValueError",.type "Exception",.type "BaseException",.type "object"] "ValueError.__new__"=true)
  (nl:K.all (λp=>Cd p.2)=true)
  (sub:∀P∈[jf,jg],P∈ts) :
  ∃fd:FuncData,(∀(s:Shared) (v:Value),BindsTo s fd ⟨[v],[]⟩ [("_law_script",v)])/\∀base:Heap,K.In base->base.Ns mainGlobals mg->Bm mg base->aQ l.prog w K mg base aX 11 fa fd ["_law_script"] (yA ts K):=by
 have e:=hfa.symm.trans (mg_of X G ON)
 cases e
 have F20:=Yi (st:=lN) l20 c20 k20
 have b20:=Yj (ps:=["self","field","length","extra","first"]) (fd:=fnOf "__init__" "RootCode.__init__" (gv lN) (dY lN) (aM lN) (.ref GV) OA OB OC Oz GU OD) rfl cO2 rfl (XX (λ_ _ _ _ _=>⟨_,rfl,rfl⟩))
 have Pc:=yg (st:=lQ) l31 c31 k31
 have b31:=Pc.binds (ps:=["self","prime"]) λ_ _ _ _ _ _=>gI (λ_ _=>rfl)
 have Pd:=yg (st:=lU) l37 c37 k37
 have b37:=Pd.binds (ps:=["self","bits"]) λ_ _ _ _ _ _=>gI (λ_ _=>rfl)
 have Pe:=yg (st:=lV) l43 c43 k43
 have b43:=Pe.binds (ps:=["_law_script"]) λ_ _ _ _ _ _=>fu (λ_=>rfl)
 have T:Txt K mg ⟨f0,_,f1,_,f2,_,f3,_,f4,_,f5,_,f6,_,f7,_,f8,_,f9,_,sR,_,GY,_,kS,_,GZ,_,G0,_,zL,_,zM,_,G1,_,wV,_,G2,_,wN,_,wW,_,G3,_,G4,_,uJ,_,G5,_,G6,_,G7,_,G8,_,wX,_,G9,_,wO,_,Ha,_,Hb,_,Hc,_,He,_,Hf,_,wR,_,Hg,_,Hh,_,Hi,_,Hj,_,Hk,_,fa,_,wQ,jf,wU,jg,aU,fZ,kj,jO,aW,bu,zD⟩:=⟨F0,mg_of X G a0,F0.binds λ_ _ _ _ _ _=>fu λ_=>rfl,F1,mg_of X G a1,F1.binds λ_ _ _ _ _ _=>fu λ_=>rfl,F2,mg_of X G a2,F2.binds λ_ _ _ _ _ _=>fu λ_=>rfl,F3,mg_of X G a3,F3.binds λ_ _ _ _ _ _=>gI λ_ _=>rfl,F4,F4.binds λ_ _ _ _ _ _=>lM λ_ _ _=>rfl,F5,F5.binds λ_ _ _ _ _ _=>lM λ_ _ _=>rfl,F6,F6.binds λ_ _ _ _ _ _=>rW λ_ _ _ _=>rfl,F7,F7.binds λ_ _ _ _ _ _=>rW λ_ _ _ _=>rfl,F8,mg_of X G a8,F8.binds λ_ _ _ _ _ _=>rW λ_ _ _ _=>rfl,F9,F9.binds λ_ _ _ _ _ _=>gI λ_ _=>rfl,zN,zN.binds λ_ _ _ _ _ _=>lM λ_ _ _=>rfl,OO,mg_of X G a11,OO.binds λ_ _ _ _ _ _=>gI λ_ _=>rfl,OP,mg_of X G a12,OP.binds λ_ _ _ _ _ _=>fu λ_=>rfl,OQ,mg_of X G a13,OQ.binds λ_ _ _ _ _ _=>fu λ_=>rfl,OR,mg_of X G a14,OR.binds λ_ _ _ _ _ _=>gI λ_ _=>rfl,Hl,Hl.binds λ_ _ _ _ _ _=>lM λ_ _ _=>rfl,Hm,Hm.binds λ_ _ _ _ _ _=>lM λ_ _ _=>rfl,OS,mg_of X G a17,OS.binds λ_ _ _ _ _ _=>lM λ_ _ _=>rfl,Ho,Ho.binds λ_ _ _ _ _ _=>lM λ_ _ _=>rfl,OT,mg_of X G a19,OT.binds λ_ _ _ _ _ _=>rW λ_ _ _ _=>rfl,F20,b20,Hq,Hq.binds λ_ _ _ _ _ _=>fu λ_=>rfl,OU,mg_of X G a22,OU.binds λ_ _ _ _ _ _=>fu λ_=>rfl,OV,mg_of X G a23,OV.binds λ_ _ _ _ _ _=>fu λ_=>rfl,OW,mg_of X G a24,OW.binds λ_ _ _ _ _ _=>fu λ_=>rfl,OX,mg_of X G a25,OX.binds λ_ _ _ _ _ _=>gI λ_ _=>rfl,OY,mg_of X G a26,OY.binds λ_ _ _ _ _ _=>gI λ_ _=>rfl,OZ,mg_of X G a27,OZ.binds λ_ _ _ _ _ _=>gI λ_ _=>rfl,O0,mg_of X G a28,O0.binds λ_ _ _ _ _ _=>fu λ_=>rfl,Hr,Hr.binds λ_ _ _ _ _ _=>lM λ_ _ _=>rfl,O1,mg_of X G a30,O1.binds λ_ _ _ _ _ _=>fu λ_=>rfl,Pc,b31,O2,mg_of X G a32,O2.binds λ_ _ _ _ _ _=>gI λ_ _=>rfl,O3,mg_of X G a33,O3.binds λ_ _ _ _ _ _=>gI λ_ _=>rfl,O4,mg_of X G a34,O4.binds λ_ _ _ _ _ _=>fu λ_=>rfl,O5,mg_of X G a35,O5.binds λ_ _ _ _ _ _=>fu λ_=>rfl,O6,mg_of X G a36,O6.binds λ_ _ _ _ _ _=>gI λ_ _=>rfl,Pd,b37,O7,mg_of X G a38,O7.binds λ_ _ _ _ _ _=>fu λ_=>rfl,O8,mg_of X G a39,O8.binds λ_ _ _ _ _ _=>gI λ_ _=>rfl,O9,mg_of X G a40,O9.binds λ_ _ _ _ _ _=>gI λ_ _=>rfl,Pa,mg_of X G a41,Pa.binds λ_ _ _ _ _ _=>rW λ_ _ _ _=>rfl,Pb,mg_of X G a42,Pb.binds λ_ _ _ _ _ _=>fu λ_=>rfl,Pe,mg_of X G ON,b43,rfl,as7,rfl,av3,⟨aD4,aD5,aD6,aD7⟩,⟨Ge,a37,cJ6,aD8⟩,Gf,sD,sE,sF,wz,Gg,Gh,⟨a6,mf6,F6.kp⟩,⟨a15,cH2,Hl.kp⟩,⟨Gi,OM,zN.kp⟩,⟨a4,mf4,F4.kp⟩,⟨wA,OL,F9.kp⟩,⟨az1,az2,az3,az4⟩,⟨Gj,a31,cI9,az5⟩,wB,sG,wC,sH,Gk,Gm,⟨a7,mf7,F7.kp⟩,⟨a16,cH4,Hm.kp⟩,⟨Gp,OM,zN.kp⟩,⟨a5,mf5,F5.kp⟩,⟨wD,OL,F9.kp⟩,⟨cL2,cL3,cL4,cL5⟩,⟨Gq,a20,cH8,cL6⟩,Gr,Gs,sI,Gu,sJ,Gv,sM,sN,⟨wF,cH9,Hq.kp⟩,⟨cL7,cL8,cL9,Ho.kp⟩,⟨az6,az7,az8,Hr.kp⟩,mg_none_of X G cM3,mg_none_of X G cM4,mg_none_of X G cM5,mg_none_of X G cM6,mg_none_of X G cM7,mg_none_of X G cM8,mg_none_of X G cM9,mg_none_of X G cN0,mg_none_of X G cN1,mg_none_of X G cN2,mg_of X G cN3,mg_of X G Gz,mg_of X G GA,mg_of X G GB,mg_of X G zE,mg_of X G GC,mg_of X G GD,Vw (mg_of X G GA) aE0,⟨aD9,aC1,aC2,aC3,aC4,aC5,aC6,aC7⟩⟩
 exact⟨fnOf "law" "law" (gv lV) (dY lV) (aM lV) .none OH OI OJ OG GW OK,λs v=>.of_eq rfl,λbase _ _ hB=>(b94 T hB).imp λvs H Q E h=>let z:=VQ nl h;⟨λP hP=>z.1 P (sub P hP),z.2⟩⟩
theorem as8{K:Frag}{h:Heap}{c f k P:Addr}{od an:Option Addr}{sl:Array (Option Value)}{oc kV dc pm ct kt:Value}{ko:Option Addr}{ks:Array (Option Value)}{kf:Array Value}(X:K.In h)(a:nsIn K mainGlobals "PrimeField"=some (some (.ref c)))(b:findIn K (.ref c) "__init__"=some (some (.ref f)))
  (l:K.lookup f=some ⟨oc,od,.func (fnOf "__init__" "PrimeField.__init__" (gv lQ) (dY lQ) (aM lQ) .none kV dc pm an (.ref k) ct),sl⟩) (lk:K.lookup k=some ⟨kt,ko,.fields kf,ks⟩) (lp:kf[11]?=some (.ref P)) (n:K.lookup P=none) (e:codeHdIn K k P=true):K.lookup P=none/\∃c,CodeHd h c P:=⟨n,k,PySem.W.codeHd_of_K X e⟩
theorem av4{K:Frag}{h:Heap}{c f k P:Addr}{od an:Option Addr}{sl:Array (Option Value)}{oc kV dc pm ct kt:Value}{ko:Option Addr}{ks:Array (Option Value)}{kf:Array Value}(X:K.In h)(a:nsIn K mainGlobals "BitField"=some (some (.ref c)))(b:findIn K (.ref c) "__init__"=some (some (.ref f)))
  (l:K.lookup f=some ⟨oc,od,.func (fnOf "__init__" "BitField.__init__" (gv lU) (dY lU) (aM lU) .none kV dc pm an (.ref k) ct),sl⟩) (lk:K.lookup k=some ⟨kt,ko,.fields kf,ks⟩) (lp:kf[11]?=some (.ref P)) (n:K.lookup P=none) (e:codeHdIn K k P=true):K.lookup P=none/\∃c,CodeHd h c P:=⟨n,k,PySem.W.codeHd_of_K X e⟩
theorem walk{l:PySem.W.OpenLaw}{q:Program}{loose:List Str}{XP:(Str->Option Value)->Heap->Prop}{YP:World->Heap->Prop}{d:DefRec}{K:Params->Frag}{ts:List Addr}(hn:l.most=some 63)(ue:d.params.defaults=[])
  (hY:∀(w:World) (h:Heap),YP w h->(K w.params).In h/\∀P∈ts,h.get? P=some (PySem.W.tabObj #[]))
  (hC:∀(w:World) (h:Heap),(K w.params).In h->∀P∈ts,(K w.params).lookup P=none/\∃c,CodeHd h c P)
  (F:∀(w:World) (mg:Str->Option Value) (fa:Addr) (h:Heap),(K w.params).In h->h.Ns mainGlobals mg->mg d.name=some (.ref fa) ->
   ∃fd:FuncData,(∀(s:Shared) (u:Value),BindsTo s fd ⟨[u],[]⟩ [("_law_script",u)])/\∀base:Heap,(K w.params).In base->base.Ns mainGlobals mg->Bm mg base->aQ l.prog w (K w.params) mg base aX 11 fa fd ["_law_script"] (yA ts (K w.params))) :
  PySem.W.WalkO q loose XP YP l.row.toRowW d [] (λf vs=>PySem.call f vs) :=
 L2.VP (n:=63) (k:=11) (x:="_law_script") (CX:=λ_=>aX) (sp:=λw=>yA ts (K w.params)) hn (by decide) ue ⟨rfl,by decide,by decide⟩ hY hC F (λ_ _ a ns hl hO hS=>⟨a,ns,rfl,hO,hS,hl,λ_=>rfl⟩) λ_ _ _ _ _ z=>z
end HK63
namespace PySem.W.Fast
theorem tw3845013702856886272:True:=⟨⟩
theorem tw18078007499450112032:True:=⟨⟩
theorem tw16216001011936256032:True:=⟨⟩
theorem tw17910153482907171904:True:=⟨⟩
theorem tw7996843733243804736:True:=⟨⟩
theorem tw15988450398312981568:True:=⟨⟩
theorem tw7715779209680975936:True:=⟨⟩
theorem tw12545026324747009152:True:=⟨⟩
theorem tw16719138686390362272:True:=⟨⟩
theorem tw12069449942144623808:True:=⟨⟩
theorem tw6913610655820864704:True:=⟨⟩
theorem tw7542365020362947840:True:=⟨⟩
theorem tw13873023340990960928:True:=⟨⟩
theorem tw15456051926220493088:True:=⟨⟩
theorem tw13307036326701289792:True:=⟨⟩
theorem tw10182348234091783520:True:=⟨⟩
theorem tw6527821546575398304:True:=⟨⟩
theorem tw1364613750415430048:True:=⟨⟩
theorem tw4796748632844655008:True:=⟨⟩
theorem tw4042815521791505824:True:=⟨⟩
theorem tw17181573104092297664:True:=⟨⟩
theorem tw1937486441913174464:True:=⟨⟩
theorem tw1055439016187907552:True:=⟨⟩
theorem tw6948361621498199552:True:=⟨⟩
theorem tw6510498850568361472:True:=⟨⟩
theorem tw2559419790596916736:True:=⟨⟩
theorem tw16969825501683122720:True:=⟨⟩
theorem tw26581141373916704:True:=⟨⟩
theorem tw12764149737652429344:True:=⟨⟩
theorem tw16505765139015335488:True:=⟨⟩
theorem tw10643480044686910016:True:=⟨⟩
theorem tw12444855717757365856:True:=⟨⟩
theorem tw10671812971354700384:True:=⟨⟩
theorem tw354191159382303328:True:=⟨⟩
theorem tw16294896872018582176:True:=⟨⟩
theorem tw17690173239906934432:True:=⟨⟩
theorem tw2234732707233746592:True:=⟨⟩
theorem tw4953109994356855520:True:=⟨⟩
theorem tw16199944621856482016:True:=⟨⟩
theorem tw4642692193930959616:True:=⟨⟩
theorem tw11419998495202933504:True:=⟨⟩
theorem tw8938100914534265664:True:=⟨⟩
theorem tw12162887188969499456:True:=⟨⟩
theorem tw12039391816941212544:True:=⟨⟩
theorem tw11119493384553812864:True:=⟨⟩
theorem tw9953260786226166688:True:=⟨⟩
theorem tw2323867758356321345:True:=⟨⟩
theorem tw16211600831082394753:True:=⟨⟩
theorem tw2438452745907801249:True:=⟨⟩
theorem tw16348842636843095265:True:=⟨⟩
theorem tw15928691767922288865:True:=⟨⟩
theorem tw5629154286417185025:True:=⟨⟩
theorem tw3859635156604474625:True:=⟨⟩
theorem tw9658586633900253473:True:=⟨⟩
theorem tw4411331374748747073:True:=⟨⟩
theorem tw17391652842334200161:True:=⟨⟩
theorem tw18247687969081533793:True:=⟨⟩
theorem tw3966673335864542561:True:=⟨⟩
theorem tw8338977216788810081:True:=⟨⟩
theorem tw5190189363548784097:True:=⟨⟩
theorem tw11422891424564288001:True:=⟨⟩
theorem tw13352367665325780481:True:=⟨⟩
theorem tw16474863588542932513:True:=⟨⟩
theorem tw8920138416250957377:True:=⟨⟩
theorem tw7569002247978220129:True:=⟨⟩
theorem tw7256645196733050593:True:=⟨⟩
theorem tw9446023511575009025:True:=⟨⟩
theorem tw4568866969443876609:True:=⟨⟩
theorem tw17914451560409583361:True:=⟨⟩
theorem tw17793661124914835201:True:=⟨⟩
theorem tw16194154394623262529:True:=⟨⟩
theorem tw7365554307865742177:True:=⟨⟩
theorem tw6000796181573387105:True:=⟨⟩
theorem tw283890658208334721:True:=⟨⟩
theorem tw3291423450863752097:True:=⟨⟩
theorem tw6462880696343103425:True:=⟨⟩
theorem tw10215669495269855169:True:=⟨⟩
theorem tw17657315007821028289:True:=⟨⟩
theorem tw7917068115148802017:True:=⟨⟩
theorem tw2117992909378174945:True:=⟨⟩
theorem tw6538285639122604001:True:=⟨⟩
theorem tw13775424944832365570:True:=⟨⟩
theorem tw9250399754401891330:True:=⟨⟩
theorem tw13136149901120686082:True:=⟨⟩
theorem tw14153709100338691138:True:=⟨⟩
theorem tw17868340193042814050:True:=⟨⟩
theorem tw8892604453470496866:True:=⟨⟩
theorem tw2632515592197548162:True:=⟨⟩
theorem tw9603748955926819970:True:=⟨⟩
theorem tw16971636271945995426:True:=⟨⟩
theorem tw1778239119365396642:True:=⟨⟩
theorem tw834223399571410114:True:=⟨⟩
theorem tw6604937352311966946:True:=⟨⟩
theorem tw13966898689561018594:True:=⟨⟩
theorem tw356733722993610978:True:=⟨⟩
theorem tw4354948110118119682:True:=⟨⟩
theorem tw18110360092520507650:True:=⟨⟩
theorem tw4534308055732713730:True:=⟨⟩
theorem tw1668803899142569282:True:=⟨⟩
theorem tw9250420641782432098:True:=⟨⟩
theorem tw13930202723010696578:True:=⟨⟩
theorem tw4818240562946372994:True:=⟨⟩
theorem tw4241865207549303202:True:=⟨⟩
theorem tw8925672314772692418:True:=⟨⟩
theorem tw401248000532085186:True:=⟨⟩
theorem tw14002587690635512290:True:=⟨⟩
theorem tw15310446634831544834:True:=⟨⟩
theorem tw8816733470086479394:True:=⟨⟩
theorem tw9376823258932632130:True:=⟨⟩
theorem tw2982798452835594850:True:=⟨⟩
theorem tw8824745204859681410:True:=⟨⟩
theorem tw6701937994935612130:True:=⟨⟩
theorem tw15971333887053609698:True:=⟨⟩
theorem tw6069382823805361986:True:=⟨⟩
theorem tw8081170143302848354:True:=⟨⟩
theorem tw2530283863680617346:True:=⟨⟩
theorem tw6212917808618466242:True:=⟨⟩
theorem tw18091267646027404323:True:=⟨⟩
theorem tw9093271795747238947:True:=⟨⟩
theorem tw17532521079573604419:True:=⟨⟩
theorem tw7216645549790940259:True:=⟨⟩
theorem tw9304459115217870019:True:=⟨⟩
theorem tw9728622460090418403:True:=⟨⟩
theorem tw11836821238897412323:True:=⟨⟩
theorem tw10490235333675274467:True:=⟨⟩
theorem tw12246980215699984611:True:=⟨⟩
theorem tw15941154465971339555:True:=⟨⟩
theorem tw12831598112990923075:True:=⟨⟩
theorem tw1032155727039315267:True:=⟨⟩
theorem tw11896436314481701251:True:=⟨⟩
theorem tw13350251696425210307:True:=⟨⟩
theorem tw6465897543323782627:True:=⟨⟩
theorem tw8620084702477267491:True:=⟨⟩
theorem tw12493999460562982435:True:=⟨⟩
theorem tw9409849581918085667:True:=⟨⟩
theorem tw823218897474584099:True:=⟨⟩
theorem tw13787103898701337155:True:=⟨⟩
theorem tw14476758075776016963:True:=⟨⟩
theorem tw28845960774338115:True:=⟨⟩
theorem tw15086372358609614435:True:=⟨⟩
theorem tw7538553298301850243:True:=⟨⟩
theorem tw315157225697610403:True:=⟨⟩
theorem tw10254714744003105443:True:=⟨⟩
theorem tw3352662692348949187:True:=⟨⟩
theorem tw15249900005627110083:True:=⟨⟩
theorem tw9193632218308255459:True:=⟨⟩
theorem tw15940958723552651011:True:=⟨⟩
theorem tw9822851781518895907:True:=⟨⟩
theorem tw3144344215080777507:True:=⟨⟩
theorem tw12866436878807275331:True:=⟨⟩
theorem tw4008106326978732867:True:=⟨⟩
theorem tw9281323534969903971:True:=⟨⟩
theorem tw4406841366037838723:True:=⟨⟩
theorem tw653802264686354307:True:=⟨⟩
theorem tw5236652088861434916:True:=⟨⟩
theorem tw6692672085499982916:True:=⟨⟩
theorem tw5445200904310373476:True:=⟨⟩
theorem tw2045946957694742852:True:=⟨⟩
theorem tw15687233372848703812:True:=⟨⟩
theorem tw11424644752606724548:True:=⟨⟩
theorem tw837223656591137284:True:=⟨⟩
theorem tw2941586232534670852:True:=⟨⟩
theorem tw16924428278157368996:True:=⟨⟩
theorem tw5032585302645061380:True:=⟨⟩
theorem tw13537156159618077508:True:=⟨⟩
theorem tw3124617882181380004:True:=⟨⟩
theorem tw12055288330133146596:True:=⟨⟩
theorem tw8714368862069396485:True:=⟨⟩
theorem tw15346843373047486469:True:=⟨⟩
theorem tw4420575857072588805:True:=⟨⟩
theorem tw5239074032021490693:True:=⟨⟩
theorem tw7842164225249582117:True:=⟨⟩
theorem tw13813962289894768677:True:=⟨⟩
theorem tw7157283500371894373:True:=⟨⟩
theorem tw11555897851130036421:True:=⟨⟩
theorem tw15397816520368513221:True:=⟨⟩
theorem tw1904717322247778565:True:=⟨⟩
theorem tw7976659002148543749:True:=⟨⟩
theorem tw16853314212383499589:True:=⟨⟩
theorem tw14845854147744535909:True:=⟨⟩
theorem tw12743169563617575269:True:=⟨⟩
theorem tw18219851998671715717:True:=⟨⟩
theorem tw10795629420487570853:True:=⟨⟩
theorem tw6163574635589908933:True:=⟨⟩
theorem tw456327085202128325:True:=⟨⟩
theorem tw12400670158609737189:True:=⟨⟩
theorem tw1787380100897185381:True:=⟨⟩
theorem tw12778011719836023397:True:=⟨⟩
theorem tw3769709628687050341:True:=⟨⟩
theorem tw96621090291214949:True:=⟨⟩
theorem tw7853708075290849893:True:=⟨⟩
theorem tw11023365010810083045:True:=⟨⟩
theorem tw2332859990857019109:True:=⟨⟩
theorem tw17693114338629179141:True:=⟨⟩
theorem tw6324390667417334597:True:=⟨⟩
theorem tw5548357937747734405:True:=⟨⟩
theorem tw10067059487483596773:True:=⟨⟩
theorem tw4782045255557891078:True:=⟨⟩
theorem tw16818034450048951366:True:=⟨⟩
theorem tw17177290993022212262:True:=⟨⟩
theorem tw10234619959673283750:True:=⟨⟩
theorem tw8751306324990917798:True:=⟨⟩
theorem tw2554361727758862566:True:=⟨⟩
theorem tw6293029599928823014:True:=⟨⟩
theorem tw6774362910496463110:True:=⟨⟩
theorem tw10584081340676793606:True:=⟨⟩
theorem tw14780048784496785670:True:=⟨⟩
theorem tw18389976452372743558:True:=⟨⟩
theorem tw3204774737624580550:True:=⟨⟩
theorem tw12560447570208876998:True:=⟨⟩
theorem tw11942940413556003366:True:=⟨⟩
theorem tw2597118426086504006:True:=⟨⟩
theorem tw3819411539607570054:True:=⟨⟩
theorem tw3623656095670098566:True:=⟨⟩
theorem tw2434826993049314982:True:=⟨⟩
theorem tw16579266928387359430:True:=⟨⟩
theorem tw2226448606489906918:True:=⟨⟩
theorem tw358993358075432678:True:=⟨⟩
theorem tw4531164348553297670:True:=⟨⟩
theorem tw1873956334278650822:True:=⟨⟩
theorem tw3371467685431737286:True:=⟨⟩
theorem tw9088104552746732551:True:=⟨⟩
theorem tw3990324136766686279:True:=⟨⟩
theorem tw7497060058551441607:True:=⟨⟩
theorem tw6002671324803954919:True:=⟨⟩
theorem tw2670476980884851943:True:=⟨⟩
theorem tw17602879639369559335:True:=⟨⟩
theorem tw10522803840760759591:True:=⟨⟩
theorem tw510113659066339623:True:=⟨⟩
theorem tw16005323399866997031:True:=⟨⟩
theorem tw3340633775525531975:True:=⟨⟩
theorem tw5095690633380926791:True:=⟨⟩
theorem tw3685748476456621383:True:=⟨⟩
theorem tw17911972588266084679:True:=⟨⟩
theorem tw9299839017056596455:True:=⟨⟩
theorem tw6393294725361357351:True:=⟨⟩
theorem tw97170366822770343:True:=⟨⟩
theorem tw9067536327766505127:True:=⟨⟩
theorem tw16670095151182424807:True:=⟨⟩
theorem tw15170626072793660167:True:=⟨⟩
theorem tw5635396446543587111:True:=⟨⟩
theorem tw7186246610160389927:True:=⟨⟩
theorem tw3675388010952296263:True:=⟨⟩
theorem tw1632718838853933895:True:=⟨⟩
theorem tw17523530005815607143:True:=⟨⟩
theorem tw859914565530702759:True:=⟨⟩
theorem tw14062467339881185191:True:=⟨⟩
theorem tw8422524285345555464:True:=⟨⟩
theorem tw16708333882670993448:True:=⟨⟩
theorem tw5407540520310542440:True:=⟨⟩
theorem tw8953070934288476296:True:=⟨⟩
theorem tw12317443317970162824:True:=⟨⟩
theorem tw14161626242625763464:True:=⟨⟩
theorem tw13549527750298613928:True:=⟨⟩
theorem tw2597821278795033768:True:=⟨⟩
theorem tw2375500713206621384:True:=⟨⟩
theorem tw6592761878500950216:True:=⟨⟩
theorem tw13102205254153201928:True:=⟨⟩
theorem tw7021650346364041480:True:=⟨⟩
theorem tw7554941689904465192:True:=⟨⟩
theorem tw3270555965466364200:True:=⟨⟩
theorem tw17781774947883811144:True:=⟨⟩
theorem tw14002701063967512936:True:=⟨⟩
theorem tw17220361504579857800:True:=⟨⟩
theorem tw2704028104655679912:True:=⟨⟩
theorem tw2871096761025389992:True:=⟨⟩
theorem tw16101902654876797384:True:=⟨⟩
theorem tw16801118288066172360:True:=⟨⟩
theorem tw6782366109093736936:True:=⟨⟩
theorem tw12575487498771340776:True:=⟨⟩
theorem tw12703101651242569224:True:=⟨⟩
theorem tw11041599518857606728:True:=⟨⟩
theorem tw11106747542472102536:True:=⟨⟩
theorem tw10295778491493473992:True:=⟨⟩
theorem tw754551069265683144:True:=⟨⟩
theorem tw5825101289333237480:True:=⟨⟩
theorem tw235302353648688904:True:=⟨⟩
theorem tw15973351067332020008:True:=⟨⟩
theorem tw10193996306036044616:True:=⟨⟩
theorem tw236993434045189992:True:=⟨⟩
theorem tw13528976648939541448:True:=⟨⟩
theorem tw10394904893075375080:True:=⟨⟩
theorem tw9575205154047201289:True:=⟨⟩
theorem tw9572706880213295113:True:=⟨⟩
theorem tw14793912209997651017:True:=⟨⟩
theorem tw14168384298374057065:True:=⟨⟩
theorem tw15934846853944315049:True:=⟨⟩
theorem tw4852559994788057257:True:=⟨⟩
theorem tw3893993643586556073:True:=⟨⟩
theorem tw12943735655634900137:True:=⟨⟩
theorem tw9752728254193397929:True:=⟨⟩
theorem tw15824519108797829385:True:=⟨⟩
theorem tw15797095113070295305:True:=⟨⟩
theorem tw1392317972849442089:True:=⟨⟩
theorem tw4632391621388923209:True:=⟨⟩
theorem tw11353526102820162921:True:=⟨⟩
theorem tw15314027484142305673:True:=⟨⟩
theorem tw8261225532125062537:True:=⟨⟩
theorem tw3949576380298826153:True:=⟨⟩
theorem tw15728566468110163401:True:=⟨⟩
theorem tw6766489670360106505:True:=⟨⟩
theorem tw8710177209424116233:True:=⟨⟩
theorem tw10505972612864391849:True:=⟨⟩
theorem tw16916229791297724105:True:=⟨⟩
theorem tw13313847178573838057:True:=⟨⟩
theorem tw16596027452101027593:True:=⟨⟩
theorem tw6533483505627911977:True:=⟨⟩
theorem tw8464687681456960297:True:=⟨⟩
theorem tw10220350610685506377:True:=⟨⟩
theorem tw10678346076207960905:True:=⟨⟩
theorem tw11541459327362674537:True:=⟨⟩
theorem tw2059165568694838121:True:=⟨⟩
theorem tw2460040864141010793:True:=⟨⟩
theorem tw17043461936087526313:True:=⟨⟩
theorem tw11804970467613948873:True:=⟨⟩
theorem tw13039563216910868457:True:=⟨⟩
theorem tw5801920716091428874:True:=⟨⟩
theorem tw16240903184020848650:True:=⟨⟩
theorem tw6081336506073276458:True:=⟨⟩
theorem tw2558797281935555626:True:=⟨⟩
theorem tw10610466824556435530:True:=⟨⟩
theorem tw4179463278703872106:True:=⟨⟩
theorem tw12026024224317360234:True:=⟨⟩
theorem tw2522671964231455850:True:=⟨⟩
theorem tw1762769174701525162:True:=⟨⟩
theorem tw11238038028472046762:True:=⟨⟩
theorem tw15160351547318425770:True:=⟨⟩
theorem tw14703270168415805674:True:=⟨⟩
theorem tw10206997298983520490:True:=⟨⟩
theorem tw12322522678775739626:True:=⟨⟩
theorem tw12707974652803778826:True:=⟨⟩
theorem tw11954832102085822762:True:=⟨⟩
theorem tw12618461314051779882:True:=⟨⟩
theorem tw7478928386961584554:True:=⟨⟩
theorem tw1515330098947687882:True:=⟨⟩
theorem tw9151836507715052074:True:=⟨⟩
theorem tw8172158083961918154:True:=⟨⟩
theorem tw2688027866267639498:True:=⟨⟩
theorem tw2825131340636117770:True:=⟨⟩
theorem tw15345449803750680490:True:=⟨⟩
theorem tw6745737259644250026:True:=⟨⟩
theorem tw8891115312190073802:True:=⟨⟩
theorem tw15198455614342094826:True:=⟨⟩
theorem tw775017569884186635:True:=⟨⟩
theorem tw17608983974003016747:True:=⟨⟩
theorem tw17535287640555558955:True:=⟨⟩
theorem tw11089183754618464331:True:=⟨⟩
theorem tw13812599547101355:True:=⟨⟩
theorem tw11104557446709021867:True:=⟨⟩
theorem tw11036710357180758187:True:=⟨⟩
theorem tw9202520982097581227:True:=⟨⟩
theorem tw1022276801590069451:True:=⟨⟩
theorem tw11399094382093068523:True:=⟨⟩
theorem tw3188173656991332587:True:=⟨⟩
theorem tw7309288664638299403:True:=⟨⟩
theorem tw6946547303683964171:True:=⟨⟩
theorem tw9266457180587103531:True:=⟨⟩
theorem tw8448748624509812011:True:=⟨⟩
theorem tw11311424357243583851:True:=⟨⟩
theorem tw9138544092638342571:True:=⟨⟩
theorem tw5930598832699975179:True:=⟨⟩
theorem tw756377672428015115:True:=⟨⟩
theorem tw10039513683492678187:True:=⟨⟩
theorem tw16741514950550731307:True:=⟨⟩
theorem tw13891023015986844267:True:=⟨⟩
theorem tw13128593945733743243:True:=⟨⟩
theorem tw16455047474378292939:True:=⟨⟩
theorem tw6467060899366128331:True:=⟨⟩
theorem tw1981751673113384683:True:=⟨⟩
theorem tw9509541702630050571:True:=⟨⟩
theorem tw6411043811451404107:True:=⟨⟩
theorem tw4297464853861493643:True:=⟨⟩
theorem tw9980585986466973611:True:=⟨⟩
theorem tw10805086096857009067:True:=⟨⟩
theorem tw9966353656460624811:True:=⟨⟩
theorem tw7096241684880961483:True:=⟨⟩
theorem tw883325791043931083:True:=⟨⟩
theorem tw12760947119091362828:True:=⟨⟩
theorem tw7831441732088933388:True:=⟨⟩
theorem tw10393879240519814220:True:=⟨⟩
theorem tw8164006993751338188:True:=⟨⟩
theorem tw4200304594728742124:True:=⟨⟩
theorem tw1852335604966675820:True:=⟨⟩
theorem tw6731806795814877612:True:=⟨⟩
theorem tw15787899569389996588:True:=⟨⟩
theorem tw7855064664503063116:True:=⟨⟩
theorem tw5062717578058016332:True:=⟨⟩
theorem tw14641835839977954924:True:=⟨⟩
theorem tw7340084683259688556:True:=⟨⟩
theorem tw14931843965677059692:True:=⟨⟩
theorem tw18096640982468878956:True:=⟨⟩
theorem tw9367373159782448748:True:=⟨⟩
theorem tw7000781934785532556:True:=⟨⟩
theorem tw10611189643110322892:True:=⟨⟩
theorem tw6574487376038279948:True:=⟨⟩
theorem tw478135333916172044:True:=⟨⟩
theorem tw17864038854845668140:True:=⟨⟩
theorem tw17410684014971337580:True:=⟨⟩
theorem tw2480614825811211148:True:=⟨⟩
theorem tw15195702921606910892:True:=⟨⟩
theorem tw7607455371079121836:True:=⟨⟩
theorem tw563183386624399308:True:=⟨⟩
theorem tw17402909229106789324:True:=⟨⟩
theorem tw9934865557591983084:True:=⟨⟩
theorem tw11455207255969337324:True:=⟨⟩
theorem tw6121753616133927916:True:=⟨⟩
theorem tw1213893813245176812:True:=⟨⟩
theorem tw2789278023076896813:True:=⟨⟩
theorem tw15237472621668284589:True:=⟨⟩
theorem tw13786942443645525165:True:=⟨⟩
theorem tw5675539662227498189:True:=⟨⟩
theorem tw16092715535227388141:True:=⟨⟩
theorem tw1696970680265867501:True:=⟨⟩
theorem tw10584126929069737229:True:=⟨⟩
theorem tw2257387289446162701:True:=⟨⟩
theorem tw11657680802524925357:True:=⟨⟩
theorem tw11717524099525753293:True:=⟨⟩
theorem tw10077857593532726765:True:=⟨⟩
theorem tw16214009949794176525:True:=⟨⟩
theorem tw10212825992532235789:True:=⟨⟩
theorem tw13250244329754125933:True:=⟨⟩
theorem tw11484698109886996141:True:=⟨⟩
theorem tw17066469168484311725:True:=⟨⟩
theorem tw3521015212932819661:True:=⟨⟩
theorem tw17732501395915878125:True:=⟨⟩
theorem tw12998909549706542989:True:=⟨⟩
theorem tw1579757753972692909:True:=⟨⟩
theorem tw6430331771840706509:True:=⟨⟩
theorem tw8748630895393227757:True:=⟨⟩
theorem tw11916714047085236302:True:=⟨⟩
theorem tw8710218974373773454:True:=⟨⟩
theorem tw2524692417779408014:True:=⟨⟩
theorem tw5282981975123370126:True:=⟨⟩
theorem tw4368974725932031214:True:=⟨⟩
theorem tw15765519749893501198:True:=⟨⟩
theorem tw7981208337817655598:True:=⟨⟩
theorem tw16662777570515499342:True:=⟨⟩
theorem tw13498184096874580302:True:=⟨⟩
theorem tw9442107440617871694:True:=⟨⟩
theorem tw5408056688943621486:True:=⟨⟩
theorem tw1253365460732772750:True:=⟨⟩
theorem tw11217525532038708622:True:=⟨⟩
theorem tw12741694732189674926:True:=⟨⟩
theorem tw9732338919141342638:True:=⟨⟩
theorem tw11376635863294265838:True:=⟨⟩
theorem tw3198886064201175598:True:=⟨⟩
theorem tw9835146765420746286:True:=⟨⟩
theorem tw16206198696610308718:True:=⟨⟩
theorem tw13619316746257096302:True:=⟨⟩
theorem tw17995470694560360046:True:=⟨⟩
theorem tw15317681798038692526:True:=⟨⟩
theorem tw12737018881801857774:True:=⟨⟩
theorem tw252628000995050254:True:=⟨⟩
theorem tw3913982623583646510:True:=⟨⟩
theorem tw6033129429617690414:True:=⟨⟩
theorem tw4302014489360454478:True:=⟨⟩
theorem tw16394263206942543726:True:=⟨⟩
theorem tw10895661542050929518:True:=⟨⟩
theorem tw10566967310143139758:True:=⟨⟩
theorem tw2369613258282749870:True:=⟨⟩
theorem tw915097799411120143:True:=⟨⟩
theorem tw14386567631706831887:True:=⟨⟩
theorem tw17172671358210168847:True:=⟨⟩
theorem tw16589480607997791343:True:=⟨⟩
theorem tw4124550697520754831:True:=⟨⟩
theorem tw767110571738360015:True:=⟨⟩
theorem tw13280976755304898799:True:=⟨⟩
theorem tw4169643267275961583:True:=⟨⟩
theorem tw10572743951777658095:True:=⟨⟩
theorem tw14873338494163297551:True:=⟨⟩
theorem tw13833996000723862959:True:=⟨⟩
theorem tw8144472034604969391:True:=⟨⟩
theorem tw3198659492091899343:True:=⟨⟩
theorem tw4695951156094340655:True:=⟨⟩
theorem tw8398487680638980687:True:=⟨⟩
theorem tw13670520422974398031:True:=⟨⟩
theorem tw8479326782805320335:True:=⟨⟩
theorem tw1301522550757899919:True:=⟨⟩
theorem tw9398882544050399887:True:=⟨⟩
theorem tw3639146640988271247:True:=⟨⟩
theorem tw5729515021674321583:True:=⟨⟩
theorem tw18359765301942232783:True:=⟨⟩
theorem tw2686796976247307983:True:=⟨⟩
theorem tw10361229304313573103:True:=⟨⟩
theorem tw17353820685807190831:True:=⟨⟩
theorem tw13271738782280520495:True:=⟨⟩
theorem tw2017644001780938543:True:=⟨⟩
theorem tw11868792866787548975:True:=⟨⟩
theorem tw6127453430438670191:True:=⟨⟩
theorem tw13635689940456588175:True:=⟨⟩
theorem tw13226967864398353327:True:=⟨⟩
theorem tw10897925606159818671:True:=⟨⟩
theorem tw1683500469348599791:True:=⟨⟩
theorem tw14370225896230985711:True:=⟨⟩
theorem tw2840763665942306799:True:=⟨⟩
theorem tw19755763692522544:True:=⟨⟩
theorem tw3681659080588785712:True:=⟨⟩
theorem tw8858371340789893200:True:=⟨⟩
theorem tw3504616464865384528:True:=⟨⟩
theorem tw7351830713208677488:True:=⟨⟩
theorem tw3240437757513410736:True:=⟨⟩
theorem tw4743024574387124400:True:=⟨⟩
theorem tw13528348919703842032:True:=⟨⟩
theorem tw9298475092754698512:True:=⟨⟩
theorem tw4642045057127037200:True:=⟨⟩
theorem tw12161629544937859408:True:=⟨⟩
theorem tw1972809195577421136:True:=⟨⟩
theorem tw4746912314591551856:True:=⟨⟩
theorem tw11733382355351323056:True:=⟨⟩
theorem tw16556163529497538992:True:=⟨⟩
theorem tw16917626561713835472:True:=⟨⟩
theorem tw4797678832557133264:True:=⟨⟩
theorem tw15640022138953357776:True:=⟨⟩
theorem tw16672550049228467696:True:=⟨⟩
theorem tw1281517026906350096:True:=⟨⟩
theorem tw3987605029453480560:True:=⟨⟩
theorem tw5490288264424818352:True:=⟨⟩
theorem tw3636834712625154896:True:=⟨⟩
theorem tw15931976596226617168:True:=⟨⟩
theorem tw15236441506966220624:True:=⟨⟩
theorem tw2630502946898897776:True:=⟨⟩
theorem tw5858409480590085008:True:=⟨⟩
theorem tw9728872912406695856:True:=⟨⟩
theorem tw17445273739954769904:True:=⟨⟩
theorem tw17063316829827870737:True:=⟨⟩
theorem tw14719366437769796689:True:=⟨⟩
theorem tw14737604809320391793:True:=⟨⟩
theorem tw14806636962088452273:True:=⟨⟩
theorem tw129082635756921009:True:=⟨⟩
theorem tw6610787065992684785:True:=⟨⟩
theorem tw7231301698533815569:True:=⟨⟩
theorem tw7003177658789074225:True:=⟨⟩
theorem tw11491935969051671889:True:=⟨⟩
theorem tw144053372053523825:True:=⟨⟩
theorem tw17071767140583544209:True:=⟨⟩
theorem tw12944296325295024529:True:=⟨⟩
theorem tw16332946852681847249:True:=⟨⟩
theorem tw15365113258622538225:True:=⟨⟩
theorem tw5366120984292519473:True:=⟨⟩
theorem tw8196472003213387409:True:=⟨⟩
theorem tw2952230785352254129:True:=⟨⟩
theorem tw737282127761817297:True:=⟨⟩
theorem tw8942508182850903793:True:=⟨⟩
theorem tw444516865267562225:True:=⟨⟩
theorem tw2798725848670875409:True:=⟨⟩
theorem tw15942807306766681905:True:=⟨⟩
theorem tw12786622003835665297:True:=⟨⟩
theorem tw3160306275744983985:True:=⟨⟩
theorem tw11175883225090825201:True:=⟨⟩
theorem tw128500744119693297:True:=⟨⟩
theorem tw2611234770557022226:True:=⟨⟩
theorem tw6019787875224948786:True:=⟨⟩
theorem tw4732104304675848274:True:=⟨⟩
theorem tw4636188098118697234:True:=⟨⟩
theorem tw11153025273323865362:True:=⟨⟩
theorem tw4532996409046986002:True:=⟨⟩
theorem tw11165282720912185810:True:=⟨⟩
theorem tw4124467889403119090:True:=⟨⟩
theorem tw7381250341240058482:True:=⟨⟩
theorem tw6394792288046858866:True:=⟨⟩
theorem tw12842140341770446450:True:=⟨⟩
theorem tw3351686691175611026:True:=⟨⟩
theorem tw11764864469608518290:True:=⟨⟩
theorem tw9540745507974048434:True:=⟨⟩
theorem tw13318488170699096786:True:=⟨⟩
theorem tw3823293689462944530:True:=⟨⟩
theorem tw5110470502411660146:True:=⟨⟩
theorem tw1126636442582501234:True:=⟨⟩
theorem tw18321727325595305874:True:=⟨⟩
theorem tw478206523706184594:True:=⟨⟩
theorem tw168466020815003538:True:=⟨⟩
theorem tw9055405120908512178:True:=⟨⟩
theorem tw15437271818232040402:True:=⟨⟩
theorem tw14868661837216403410:True:=⟨⟩
theorem tw11020801983369237490:True:=⟨⟩
theorem tw5506579813265668115:True:=⟨⟩
theorem tw10601017368478295091:True:=⟨⟩
theorem tw5803790459713667123:True:=⟨⟩
theorem tw12255587375177238611:True:=⟨⟩
theorem tw16811589126830494835:True:=⟨⟩
theorem tw10296091073379414163:True:=⟨⟩
theorem tw10658844114724846771:True:=⟨⟩
theorem tw6052501452830349523:True:=⟨⟩
theorem tw2330315191589828883:True:=⟨⟩
theorem tw755284619191751987:True:=⟨⟩
theorem tw5613239330555521427:True:=⟨⟩
theorem tw5139278605374952915:True:=⟨⟩
theorem tw7488823166526395859:True:=⟨⟩
theorem tw56295873732701651:True:=⟨⟩
theorem tw8252045457295268339:True:=⟨⟩
theorem tw9157360389549141555:True:=⟨⟩
theorem tw13496846219984800339:True:=⟨⟩
theorem tw8942408450524102259:True:=⟨⟩
theorem tw2342633732855075507:True:=⟨⟩
theorem tw8325909067468900051:True:=⟨⟩
theorem tw13666510908547919667:True:=⟨⟩
theorem tw15044751061422576467:True:=⟨⟩
theorem tw4110564430684360659:True:=⟨⟩
theorem tw9991720463245494227:True:=⟨⟩
theorem tw6929281219702644691:True:=⟨⟩
theorem tw15090082861244006387:True:=⟨⟩
theorem tw14771989183862596595:True:=⟨⟩
theorem tw15715003784667034611:True:=⟨⟩
theorem tw10266951426429925396:True:=⟨⟩
theorem tw5004131913802221620:True:=⟨⟩
theorem tw15249349778695014452:True:=⟨⟩
theorem tw3311148907677900852:True:=⟨⟩
theorem tw11143518043175286836:True:=⟨⟩
theorem tw6569180068117806132:True:=⟨⟩
theorem tw204157737330251860:True:=⟨⟩
theorem tw1899844824372781140:True:=⟨⟩
theorem tw12300779449005423700:True:=⟨⟩
theorem tw17117854910163923060:True:=⟨⟩
theorem tw8618362696070614132:True:=⟨⟩
theorem tw1055682216122688660:True:=⟨⟩
theorem tw3521936257373910164:True:=⟨⟩
theorem tw9390029153093746900:True:=⟨⟩
theorem tw6883779343297991892:True:=⟨⟩
theorem tw8491364399346129140:True:=⟨⟩
theorem tw6133196475868176628:True:=⟨⟩
theorem tw10410816283117987092:True:=⟨⟩
theorem tw11436239644817401108:True:=⟨⟩
theorem tw6931619808715648276:True:=⟨⟩
theorem tw10732585439010011412:True:=⟨⟩
theorem tw967894872668876116:True:=⟨⟩
theorem tw14415745924219509268:True:=⟨⟩
theorem tw17904958150294542868:True:=⟨⟩
theorem tw13038778214692383284:True:=⟨⟩
theorem tw3273776278020313684:True:=⟨⟩
theorem tw17143575143353833044:True:=⟨⟩
theorem tw12835477007921006196:True:=⟨⟩
theorem tw11664350878701722292:True:=⟨⟩
theorem tw18051437708688834228:True:=⟨⟩
theorem tw14543527888977256116:True:=⟨⟩
theorem tw9751528053931110068:True:=⟨⟩
theorem tw10441294241863725748:True:=⟨⟩
theorem tw6845701763025792820:True:=⟨⟩
theorem tw11566559469308651412:True:=⟨⟩
theorem tw589870307472581556:True:=⟨⟩
theorem tw18121942565774456820:True:=⟨⟩
theorem tw1861829224002732117:True:=⟨⟩
theorem tw12812140113704943733:True:=⟨⟩
theorem tw16371453977661377653:True:=⟨⟩
theorem tw459104888520907925:True:=⟨⟩
theorem tw2630747084099995797:True:=⟨⟩
theorem tw12971500689168530613:True:=⟨⟩
theorem tw14082162866880913589:True:=⟨⟩
theorem tw13852921355695086837:True:=⟨⟩
theorem tw2909601316759076085:True:=⟨⟩
theorem tw16059605160171248917:True:=⟨⟩
theorem tw9929071772464299285:True:=⟨⟩
theorem tw13827962229128124693:True:=⟨⟩
theorem tw5940763225398897941:True:=⟨⟩
theorem tw1326148870207974709:True:=⟨⟩
theorem tw15677095788239932725:True:=⟨⟩
theorem tw14484311141905592629:True:=⟨⟩
theorem tw16784210581897281909:True:=⟨⟩
theorem tw14182913146477855125:True:=⟨⟩
theorem tw2024553149506094485:True:=⟨⟩
theorem tw3954710893280462293:True:=⟨⟩
theorem tw8035961234198902229:True:=⟨⟩
theorem tw3951200948846722645:True:=⟨⟩
theorem tw7539068457531094677:True:=⟨⟩
theorem tw7601608870543802037:True:=⟨⟩
theorem tw3537192795800682229:True:=⟨⟩
theorem tw8751711756347675413:True:=⟨⟩
theorem tw6363610690035481397:True:=⟨⟩
theorem tw5641897631337811765:True:=⟨⟩
theorem tw7080313908828896053:True:=⟨⟩
theorem tw12628423527213189973:True:=⟨⟩
theorem tw5867033065722134389:True:=⟨⟩
theorem tw3810776224784738197:True:=⟨⟩
theorem tw9303363524077522869:True:=⟨⟩
theorem tw16259110362172039093:True:=⟨⟩
theorem tw4294313192974917557:True:=⟨⟩
theorem tw16713280941412344757:True:=⟨⟩
theorem tw3796645847397531573:True:=⟨⟩
theorem tw3760251270426827733:True:=⟨⟩
theorem tw3180166019555565525:True:=⟨⟩
theorem tw4901148784369547221:True:=⟨⟩
theorem tw6658829260050743253:True:=⟨⟩
theorem tw16532428371625739253:True:=⟨⟩
theorem tw18338801206569676789:True:=⟨⟩
theorem tw15895164333135197173:True:=⟨⟩
theorem tw9680523353050615894:True:=⟨⟩
theorem tw1924693924216616022:True:=⟨⟩
theorem tw13092353203127579862:True:=⟨⟩
theorem tw7071173936069688534:True:=⟨⟩
theorem tw3267071082766637302:True:=⟨⟩
theorem tw17761870076796324086:True:=⟨⟩
theorem tw5403085985066125590:True:=⟨⟩
theorem tw3170493071899909398:True:=⟨⟩
theorem tw5648893913870728470:True:=⟨⟩
theorem tw17253436565940712758:True:=⟨⟩
theorem tw5827495331710111126:True:=⟨⟩
theorem tw17189551586952109462:True:=⟨⟩
theorem tw139756477111166358:True:=⟨⟩
theorem tw3721701327334926774:True:=⟨⟩
theorem tw16902259239535461846:True:=⟨⟩
theorem tw12788208523871798774:True:=⟨⟩
theorem tw13272032417617674838:True:=⟨⟩
theorem tw14800335621648621142:True:=⟨⟩
theorem tw4312444104599584374:True:=⟨⟩
theorem tw15920140547211382454:True:=⟨⟩
theorem tw10405870573619184374:True:=⟨⟩
theorem tw8392627521091409686:True:=⟨⟩
theorem tw14661308294038660886:True:=⟨⟩
theorem tw16107725664568007542:True:=⟨⟩
theorem tw7005284278895514486:True:=⟨⟩
theorem tw14096295539203329942:True:=⟨⟩
theorem tw6704097679067526070:True:=⟨⟩
theorem tw6620591614630089654:True:=⟨⟩
theorem tw8917209998453673942:True:=⟨⟩
theorem tw5275054385304230870:True:=⟨⟩
theorem tw9374559224603322358:True:=⟨⟩
theorem tw5351042583425374231:True:=⟨⟩
theorem tw440395163683118103:True:=⟨⟩
theorem tw11532629943583712343:True:=⟨⟩
theorem tw17770806120740429943:True:=⟨⟩
theorem tw7599517478875646071:True:=⟨⟩
theorem tw9752690006141265047:True:=⟨⟩
theorem tw10654963749333250231:True:=⟨⟩
theorem tw11335687312036213943:True:=⟨⟩
theorem tw7449512072718348503:True:=⟨⟩
theorem tw8103875428876542231:True:=⟨⟩
theorem tw14873946614579473719:True:=⟨⟩
theorem tw4283039727126028663:True:=⟨⟩
theorem tw193723334387672439:True:=⟨⟩
theorem tw3886599733003437431:True:=⟨⟩
theorem tw8474343123850907031:True:=⟨⟩
theorem tw14563249058723987895:True:=⟨⟩
theorem tw3550679420091920823:True:=⟨⟩
theorem tw11645127475931251159:True:=⟨⟩
theorem tw2317164178645494263:True:=⟨⟩
theorem tw11423845117295640087:True:=⟨⟩
theorem tw18300437095271267895:True:=⟨⟩
theorem tw7215686056785589879:True:=⟨⟩
theorem tw15417057449467811479:True:=⟨⟩
theorem tw6677990284187382423:True:=⟨⟩
theorem tw16265575542538158743:True:=⟨⟩
theorem tw8832476761446391479:True:=⟨⟩
theorem tw4632500455843934903:True:=⟨⟩
theorem tw974567066068174519:True:=⟨⟩
theorem tw8919771917599569623:True:=⟨⟩
theorem tw14559315835274030807:True:=⟨⟩
theorem tw14704590483165202167:True:=⟨⟩
theorem tw7270734485967702903:True:=⟨⟩
theorem tw11872436689260500855:True:=⟨⟩
theorem tw8773456570862834647:True:=⟨⟩
theorem tw15490347963821270040:True:=⟨⟩
theorem tw10384852854461817880:True:=⟨⟩
theorem tw7902945577850470488:True:=⟨⟩
theorem tw5366799479081761944:True:=⟨⟩
theorem tw13667485737550266584:True:=⟨⟩
theorem tw13858879352369703128:True:=⟨⟩
theorem tw8970097216674192632:True:=⟨⟩
theorem tw9235046481343426840:True:=⟨⟩
theorem tw8520183469192294680:True:=⟨⟩
theorem tw789032640175075640:True:=⟨⟩
theorem tw2504657319714799960:True:=⟨⟩
theorem tw14919159357136206168:True:=⟨⟩
theorem tw15891195598602438072:True:=⟨⟩
theorem tw18301769837475704248:True:=⟨⟩
theorem tw951204479487722936:True:=⟨⟩
theorem tw17626297275389894104:True:=⟨⟩
theorem tw13539274190208818648:True:=⟨⟩
theorem tw1805202171503953400:True:=⟨⟩
theorem tw16129460765046034968:True:=⟨⟩
theorem tw4132083865890722456:True:=⟨⟩
theorem tw16012236645878061720:True:=⟨⟩
theorem tw13562293178985295608:True:=⟨⟩
theorem tw13048648676810526520:True:=⟨⟩
theorem tw11322752597522726712:True:=⟨⟩
theorem tw13357905119212800920:True:=⟨⟩
theorem tw2960091222984448920:True:=⟨⟩
theorem tw7768534113165709240:True:=⟨⟩
theorem tw2129281359368747065:True:=⟨⟩
theorem tw1407258931266471001:True:=⟨⟩
theorem tw7121433283458779257:True:=⟨⟩
theorem tw10613191831599047833:True:=⟨⟩
theorem tw5962237556205616281:True:=⟨⟩
theorem tw6974314848341196985:True:=⟨⟩
theorem tw4060115551245487353:True:=⟨⟩
theorem tw12801398729347739993:True:=⟨⟩
theorem tw11734245573897747801:True:=⟨⟩
theorem tw418200190818921881:True:=⟨⟩
theorem tw12822632891185093049:True:=⟨⟩
theorem tw3482569216536624601:True:=⟨⟩
theorem tw13283418516145624537:True:=⟨⟩
theorem tw9348755722190288345:True:=⟨⟩
theorem tw2368744869473390073:True:=⟨⟩
theorem tw18095813919591379449:True:=⟨⟩
theorem tw5075247375812703769:True:=⟨⟩
theorem tw4032816384144662105:True:=⟨⟩
theorem tw8312527959246474937:True:=⟨⟩
theorem tw776817446995584729:True:=⟨⟩
theorem tw16405616926124863193:True:=⟨⟩
theorem tw16378473295721893625:True:=⟨⟩
theorem tw5180496399587063545:True:=⟨⟩
theorem tw17879336933482611481:True:=⟨⟩
theorem tw4492557866525055833:True:=⟨⟩
theorem tw2595249834644858745:True:=⟨⟩
theorem tw16430720979804493721:True:=⟨⟩
theorem tw13360446500336809881:True:=⟨⟩
theorem tw17138850071969758169:True:=⟨⟩
theorem tw9010020826760655865:True:=⟨⟩
theorem tw6958471807068873754:True:=⟨⟩
theorem tw6215991495928634394:True:=⟨⟩
theorem tw2122995124441648186:True:=⟨⟩
theorem tw8262641009239657562:True:=⟨⟩
theorem tw17279978779158299738:True:=⟨⟩
theorem tw5146245627209940186:True:=⟨⟩
theorem tw13854594719166955802:True:=⟨⟩
theorem tw9089929646149543226:True:=⟨⟩
theorem tw6034603028084189562:True:=⟨⟩
theorem tw2548196498362732986:True:=⟨⟩
theorem tw7768512182089218554:True:=⟨⟩
theorem tw7374536957683704378:True:=⟨⟩
theorem tw4532481550548467290:True:=⟨⟩
theorem tw6242963542859826874:True:=⟨⟩
theorem tw1670633750640578266:True:=⟨⟩
theorem tw10364512467819650778:True:=⟨⟩
theorem tw7248364346967543546:True:=⟨⟩
theorem tw11280170012739195642:True:=⟨⟩
theorem tw2683608521179153178:True:=⟨⟩
theorem tw16093809241006159674:True:=⟨⟩
theorem tw17117465872720256826:True:=⟨⟩
theorem tw13468958748925357946:True:=⟨⟩
theorem tw16963486941509905306:True:=⟨⟩
theorem tw6913301870191368122:True:=⟨⟩
theorem tw16578668078141681658:True:=⟨⟩
theorem tw17060989842576834554:True:=⟨⟩
theorem tw10637883622177309723:True:=⟨⟩
theorem tw2737757454529095739:True:=⟨⟩
theorem tw17724634825374637147:True:=⟨⟩
theorem tw13654701421733968987:True:=⟨⟩
theorem tw9203126097433418939:True:=⟨⟩
theorem tw3465415489968204123:True:=⟨⟩
theorem tw4000698333068792283:True:=⟨⟩
theorem tw11459529718830318171:True:=⟨⟩
theorem tw6012671986690351707:True:=⟨⟩
theorem tw14099012119556166299:True:=⟨⟩
theorem tw3150614392411653883:True:=⟨⟩
theorem tw2382932732045698875:True:=⟨⟩
theorem tw4978018358049168187:True:=⟨⟩
theorem tw12246115763711995707:True:=⟨⟩
theorem tw10457431602336858971:True:=⟨⟩
theorem tw5125600632513582939:True:=⟨⟩
theorem tw3001741572169541499:True:=⟨⟩
theorem tw9073582601166625691:True:=⟨⟩
theorem tw3594668071971515291:True:=⟨⟩
theorem tw96356227059759067:True:=⟨⟩
theorem tw2083468253672672284:True:=⟨⟩
theorem tw1486117278751951964:True:=⟨⟩
theorem tw15164749658734057596:True:=⟨⟩
theorem tw14033532281600026780:True:=⟨⟩
theorem tw17790338723736399004:True:=⟨⟩
theorem tw13569143899729043644:True:=⟨⟩
theorem tw17175310183411724508:True:=⟨⟩
theorem tw9223238458458696956:True:=⟨⟩
theorem tw6718843785169265948:True:=⟨⟩
theorem tw4274402855861020956:True:=⟨⟩
theorem tw13895556528953756060:True:=⟨⟩
theorem tw3439919688220927452:True:=⟨⟩
theorem tw17793997033024817660:True:=⟨⟩
theorem tw12309786861149002300:True:=⟨⟩
theorem tw7288632050538692188:True:=⟨⟩
theorem tw13363253934207770236:True:=⟨⟩
theorem tw16942977793271050972:True:=⟨⟩
theorem tw752441756204470044:True:=⟨⟩
theorem tw14890633890313376668:True:=⟨⟩
theorem tw17899563168903776156:True:=⟨⟩
theorem tw2198188925047706556:True:=⟨⟩
theorem tw18206044473832424444:True:=⟨⟩
theorem tw10052671421941507101:True:=⟨⟩
theorem tw502310078285453373:True:=⟨⟩
theorem tw5132753828428237981:True:=⟨⟩
theorem tw15112821909476851901:True:=⟨⟩
theorem tw10615584186148181181:True:=⟨⟩
theorem tw1634744857204662589:True:=⟨⟩
theorem tw15220303862043296061:True:=⟨⟩
theorem tw11859491202316991837:True:=⟨⟩
theorem tw6274877851240539517:True:=⟨⟩
theorem tw10571372885378659773:True:=⟨⟩
theorem tw452458035693615613:True:=⟨⟩
theorem tw1081739390898946589:True:=⟨⟩
theorem tw14071138985797606045:True:=⟨⟩
theorem tw6079805856182766269:True:=⟨⟩
theorem tw7362135180156937917:True:=⟨⟩
theorem tw14798752938737697597:True:=⟨⟩
theorem tw5133199501205039933:True:=⟨⟩
theorem tw16083391915434634077:True:=⟨⟩
theorem tw5701706317919224733:True:=⟨⟩
theorem tw13332247510552027101:True:=⟨⟩
theorem tw15657251055213185054:True:=⟨⟩
theorem tw3670798952588229662:True:=⟨⟩
theorem tw5575931147659584574:True:=⟨⟩
theorem tw3817667104617277566:True:=⟨⟩
theorem tw4752156618323320958:True:=⟨⟩
theorem tw11960467412395059326:True:=⟨⟩
theorem tw13207216650640511134:True:=⟨⟩
theorem tw16143194447938213022:True:=⟨⟩
theorem tw16472723287170565310:True:=⟨⟩
theorem tw1117490002693288126:True:=⟨⟩
theorem tw522221721292048638:True:=⟨⟩
theorem tw2543951186513606942:True:=⟨⟩
theorem tw2305427269090263390:True:=⟨⟩
theorem tw6685725583284392286:True:=⟨⟩
theorem tw17446530686982179198:True:=⟨⟩
theorem tw5332838779962168766:True:=⟨⟩
theorem tw8880000993988887038:True:=⟨⟩
theorem tw8666890671306244670:True:=⟨⟩
theorem tw2010116301238525534:True:=⟨⟩
theorem tw12300131160700272254:True:=⟨⟩
theorem tw8255910240223168158:True:=⟨⟩
theorem tw3819073461297941150:True:=⟨⟩
theorem tw10999472477155660446:True:=⟨⟩
theorem tw4542562176194851486:True:=⟨⟩
theorem tw4489061311618035422:True:=⟨⟩
theorem tw3206826316250204894:True:=⟨⟩
theorem tw687035046715581278:True:=⟨⟩
theorem tw2042402935924106110:True:=⟨⟩
theorem tw5424508248868726654:True:=⟨⟩
theorem tw7055678138950929310:True:=⟨⟩
theorem tw3050825851558054814:True:=⟨⟩
theorem tw233303399635356606:True:=⟨⟩
theorem tw16847211148686392254:True:=⟨⟩
theorem tw14920697978495771614:True:=⟨⟩
theorem tw14386864488333657054:True:=⟨⟩
theorem tw18092055174221426686:True:=⟨⟩
theorem tw7967676782685363263:True:=⟨⟩
theorem tw5298125730448162879:True:=⟨⟩
theorem tw17713290786644129855:True:=⟨⟩
theorem tw7436080121992299615:True:=⟨⟩
theorem tw102211973161835615:True:=⟨⟩
theorem tw12804649100443779199:True:=⟨⟩
theorem tw12994177236690586751:True:=⟨⟩
theorem tw2536831242925761663:True:=⟨⟩
theorem tw10906703694281200831:True:=⟨⟩
theorem tw11517325717845146911:True:=⟨⟩
theorem tw1233172745028032895:True:=⟨⟩
theorem tw1065066682378643839:True:=⟨⟩
theorem tw17059139295364183423:True:=⟨⟩
theorem tw621951838279533983:True:=⟨⟩
theorem tw12345384786930174463:True:=⟨⟩
theorem tw13658402778907844127:True:=⟨⟩
theorem tw3175749621634466367:True:=⟨⟩
theorem tw14793057262862743103:True:=⟨⟩
theorem tw9204132489884677919:True:=⟨⟩
theorem tw9234666670661188383:True:=⟨⟩
theorem tw8564130223569852223:True:=⟨⟩
theorem tw7031293888474012479:True:=⟨⟩
theorem tw316957040413091679:True:=⟨⟩
theorem tw3010133022022240127:True:=⟨⟩
theorem tw2163092963017573279:True:=⟨⟩
theorem tw7427779833257792415:True:=⟨⟩
theorem tw15484541666556390674:True:=⟨⟩
end PySem.W.Fast
open PySem PySem.W PyProof.Rows
set_option maxRecDepth 100000 in
set_option maxHeartbeats 0 in
theorem PySem.Challenge.cw_mendfield_k63_whole_root_counts_holds : PySem.Challenge.rw_mendfield_k63_whole_root_counts.Holds := by
 w_on;o_law;k_head;(case hw=>w_witness2)
 k_fill
 refine HK63.walk (l:=PySem.Challenge.rw_mendfield_k63_whole_root_counts) rfl rfl (λw h Y=>⟨PySem.W.km_in_of Y,PySem.W.km_tabs_of Y⟩) ?C ?F
 case C =>
  intro w h hX
  repeat' (first | exact List.forall_mem_nil _ | refine List.forall_mem_cons.mpr ⟨?_,?_⟩)
  all_goals first | (refine' HK63.as8 hX ?a ?b ?l ?lk ?lp ?n ?e;(case a=>k_is);(case b=>k_is);(case l=>k_is);(case lk=>k_is);(case lp=>first | rfl | with_unfolding_all rfl);(case n=>kernel_rfl);(case e=>kernel_rfl)) | (refine' HK63.av4 hX ?a ?b ?l ?lk ?lp ?n ?e;(case a=>k_is);(case b=>k_is);(case l=>k_is);(case lk=>k_is);(case lp=>first | rfl | with_unfolding_all rfl);(case n=>kernel_rfl);(case e=>kernel_rfl))
 case F =>
  intro w mg fa h KX G uf
  apply HK63.all_mk KX G uf
  iterate 133 (k_is)
  iterate 40 (apply L2.yg<;>k_is)
  iterate 8 (k_is)
  (first | rfl | with_unfolding_all rfl)
  (kernel_rfl)
  iterate 4 (k_is)
  (first | rfl | with_unfolding_all rfl)
  (kernel_rfl)
  iterate 3 (k_is)
  (first | k_is | rfl | decide)
  (k_exc)
  (first | k_is | rfl | decide)
  (decide)
