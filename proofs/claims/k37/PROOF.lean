import PyProof.Rows.All
import Wide.All
import OpenK.AllK
import Wide.FinOn
import Lean
import PyProof.EqAt
import PyProof.EqKinds
import PyProof.TupleCall
import PyProof.NeKinds
import PyProof.Rows.Range3
import PyProof.FitsBits
import PyProof.StationsW
import PyProof.NsDelKeeps
import PyProof.Rows.CatchOwn
import KE.KTryMore
import PyProof.ExcArgsOwn
import PyProof.ExcAttrAll.ValueError
import OpenK.KOwn
import PyProof.ZipIter
import PyProof.WalksEnum
import PyProof.EnumMake
import KE.KIntText
import PyProof.Conv_int
import PyProof.StrWalks
import PyProof.StrLawsFirst
import KE.KLam
import KE.KNestM
import KE.KRevIter
import PyProof.ListRange
import PyProof.Rows.SortWalk
import PyProof.Rows.SetFrom
import PyProof.FactsAll.set
import PyProof.Rows.SeqMore
import PyProof.FString
import PySem.Challenge.RW_mendfield_k37_code_by_checks
open Array renaming append_assoc→sQ,length_toList→wZ,getElem?_eq_some_iff→Lm,toList_append→VJ,size_append→VZ
open Bool renaming and_eq_true→dP,or_true→iz,false_ne_true→iP,true_and→lJ,and_true→mP,false_eq_true→qv,false_and→sT,eq_iff_iff→s8,or_false→xf,eq_false_iff→AK,not_false→A6,not_true→A8,true_or→Ba,false_or→Bb
open Classical renaming byContradiction→xi
open False renaming elim→eW
open ForInStep renaming yield→Er
open Int renaming emod_nonneg→fm,emod_lt_of_pos→fE,toNat_natCast→gY,natAbs_natCast→iV,toNat→jD,natCast_emod→tu,toNat_of_nonneg→xq,natCast_mul→xu,emod_eq_of_lt→EG,natCast_nonneg→Lf,zero_add→LC,natCast_add→LF,fdiv_eq_ediv_of_nonneg→Vw
open List renaming length_map→aS,getD_eq_getElem?_getD→aW,getElem?_eq_getElem→bc,replicate→bg,range→bh,mem_append→bA,mem_map→bI,map_map→b8,mem_cons→cq,mem_append_right→cI,append_assoc→cJ,map_cons→cN,getElem?_map→cU,all_eq_true→cX,mem_append_left→df,all_cons→dh,map_append→dy,mem_singleton→dG,size_toArray→dO,length_take→eC,mem_range→eJ,length_append→eM,getElem_mem→eN,zipWith→eX,append_nil→fj,length_range→fk,mem_cons_of_mem→gB,lookup_cons→gC,length_set→gZ,length_cons→ix,getElem?_eq_none→iy,nodup_cons→iQ,length_drop→iS,set_cons_zero→iT,set_cons_succ→iU,mem_cons_self→jB,not_mem_nil→jC,map_nil→jY,cons_append→jZ,getElem?_eq_some_iff→kE,cons.inj→kG,getElem?_set_ne→lF,getElem_of_mem→lK,all_map→lL,lookup→mI,perm_append_comm→mM,getElem?_range→mO,map_congr_left→mQ,getElem?_set_self→oA,append_inj→oH,getElem?_append_right→qo,replicate_succ→qq,nil_append→qt,set_set→qw,take_add_one→qy,mem_of_mem_drop→qA,mem_or_eq_of_mem_set→qB,mem_of_getElem?→sV,flatten_cons→sX,foldl_cons→sY,all_nil→tf,length_zipWith→tw,getElem?_cons_zero→tD,getElem?_cons_succ→tE,mem_filter→wY,getElem?_append_left→w9,length_replicate→xb,take_length→xj,mem_of_mem_take→xk,map→xm,filterMap_cons→Aw,of_mem_zip→AD,any_eq_true→AJ,append_eq_nil_iff→AL,take_of_length_le→AM,map_set→AO,getElem_map→AR,pairwise_append→AU,take_append_drop→AV,length_nil→AY,cons.injEq→AZ,length→Ei,getElem?_replicate→Ej,map_zipWith→EB,getElem?_mapIdx→EC,mem_map_of_mem→EF,contains_iff_mem→EI,pairwise_cons→EK,Pairwise.nil→Li,Sublist.refl→Lo,eq_nil_iff_forall_not_mem→Lp,mem_replicate→Lr,mem_of_find?_eq_some→Lw,map_drop→Lx,map_take→Ly,ext_getElem?→Lz,getElem?_drop→LA,drop_eq_nil_of_le→LB,length_zip→LH,any_map→LJ,findIdx_lt_length_of_exists→LK,find?_eq_none→LL,range_succ→LM,getElem?_zipWith→LN,getElem_range→LP,pairwise_singleton→LQ,drop_eq_getElem_cons→LR,mem_set→LU,sum_cons→LV,mem_filterMap→Vv,getElem?_take_of_lt→Vx,length_singleton→Vy,set_eq_of_length_le→VF,filter_eq_self→VG,range_succ_eq_map→VH,getElem?_take→VI,zip_cons_cons→VL,sublist_cons_self→VM,findIdx_getElem→VN,findIdx?_eq_some_iff_getElem→VO,findIdx?_eq_none_iff→VP,pairwise_iff_getElem→VQ,Pairwise.filter→VR,countP_eq_length_filter→VS,set_eq_take_append_cons_drop→VT,pairwise_lt_range→VU,find?_eq_some_iff_append→VV,length_filter_le→VW,map_replicate→VX,flatMap_append→VY,length_pos_iff→V0
open Nat renaming le_refl→bD,lt_of_lt_of_le→cH,ne_of_lt→eB,le_trans→eK,lt_irrefl→gA,zero_le→jX,shiftLeft_eq→kF,xor_zero→lH,mul_comm→mJ,testBit_xor→mK,lt_of_le_of_lt→mL,pow_succ→oF,zero_xor→oG,xor_assoc→qu,mul_assoc→sZ,le_of_eq→w5,two_pow_pos→xg,pow_le_pow_right→xh,not_lt→xn,mul_mod→xo,mod_lt→xp,le_of_lt→Av,lt_succ_self→AB,eq_of_testBit_eq→AG,testBit_zero→AH,xor_self→AI,mod_eq_of_lt→AN,le_of_succ_le→AQ,succ.inj→AS,testBit_lt_two_pow→Em,testBit_succ→Eo,strongRecOn→Ep,min_self→Ey,sub_self→EA,one_mul→ED,mod_add_mod→EE,add_mul→EH,one_shiftLeft→EL,ne_of_gt→Le,add_comm→Lh,xor_comm→Lj,testBit_and→Lk,add_assoc→Lu,mod_mod→LD,zero_add→LG,lt_or_ge→LO,succ_pos→LS,testBit_eq_decide_div_mod_eq→Vz,shiftLeft_xor_distrib→VA,mul_lt_mul_right→VB,testBit_shiftLeft→VC,shiftRight_eq_div_pow→VD
open Ne renaming symm→dN
open Option renaming some.inj→dq,getD_none→sW,getD_some→s9,some.injEq→xt,isSome_iff_exists→AE,map_some→AW,map_none→AX,map_eq_some_iff→Ez,toList_some→Lq,bind_some→VE
open Or renaming inl→ay,inr→bV
open PyProof renaming Rows.callWith_type1→Az
open PySem renaming Heap.lt_size→bH,Value.ref→cA,Heap.get?_push_of_some→fC,PassesOwn.never→fM,Heap.get?_push_size→gX,Builtin.bitAnd→oB,Builtin.bitXor→oE,Value.none→qm,Heap.get?_update_other→qp,Str.ofString→qC,Value.int→wX,Heap.size_push→w4,Str.empty→AA,Obj.mapSeq→AF,Value.bool→Eh,Heap.get?_update_self→Ek,SeqAt.EqAt→El,Obj.data_mapFields→Es,Value.builtin→Et,Value.type.inj→Eu,Builtin.Str.strSliceIndices→Ew,NameKind.cell→EJ,Builtin.List.listTooLong→Lg,Obj.isFreed_of_fields→Ll,Heap.MadeExcOf→Ln,Calls.Name_function_global→Vu
open Sum renaming inl→sO,inr→sP
open True renaming intro→sU
set_option Elab.async false
set_option linter.all false
set_option maxRecDepth 100000
local macro_rules | `(tactic| omega)=>`(tactic| lia)
namespace L2
open PySem PySem.Spec PyProof.Rows
noncomputable abbrev Key:=Sum Int Str
noncomputable def LW:Key->Value->Bool
 | .inl k,v=>Value.isInt k v
 | .inr x,v=>Value.isStrOf x v
noncomputable def V1(w:World):Key->Int
 | .inl k=>hashInt k
 | .inr x=>hashStr w x
theorem mR:∀{k:Key} {v:Value},LW k v=true->(∃i t,k=sO i/\v=wX i t)\/(∃x t,k=sP x/\v=Value.str x t)
 | .inl i,v,h=>by
  obtain⟨t,e⟩:=Value.isInt_shape (k:=i) (v:=v) h
  exact .inl ⟨i,t,rfl,e⟩
 | .inr x,v,h=>by
  obtain⟨t,e⟩:=Value.isStrOf_shape (x:=x) (v:=v) h
  exact .inr ⟨x,t,rfl,e⟩
theorem V2(a b:Int):decide ((sO a:Key)=sO b)=(a==b):=by
 by_cases e:a=b
 ·subst e;simp
 ·have h:¬ (sO a:Key)=sO b:=λq=>e (Sum.inl.inj q)
  rw[decide_eq_false h]
  exact(beq_eq_false_iff_ne.mpr e).symm
theorem V3(a b:Str):decide ((sP a:Key)=sP b)=decide (a=b):=by
 by_cases e:a=b
 ·subst e;simp
 ·have h:¬ (sP a:Key)=sP b:=λq=>e (Sum.inr.inj q)
  rw[decide_eq_false h,decide_eq_false e]
theorem V4(a:Int)(b:Str):decide ((sO a:Key)=sP b)=false:=decide_eq_false (λq=>nomatch q)
theorem V5(a:Str)(b:Int):decide ((sP a:Key)=sO b)=false:=decide_eq_false (λq=>nomatch q)
noncomputable def LX(prog:Program)(w:World):PySem.KeyKind prog w Key where
 is:=LW
 hash:=V1 w
 inj:=λv a b ha hb=>by
  rcases mR ha with⟨i,t,rfl,rfl⟩ | ⟨x,t,rfl,rfl⟩
  ·rcases mR hb with⟨j,u,rfl,e⟩ | ⟨y,u,rfl,e⟩
   ·injection e with e1 _;rw[e1]
   ·exact nomatch e
  ·rcases mR hb with⟨j,u,rfl,e⟩ | ⟨y,u,rfl,e⟩
   ·exact nomatch e
   ·injection e with e1 _;rw[e1]
 byValue:=λk v h=>by
  rcases mR h with⟨i,t,rfl,rfl⟩ | ⟨x,t,rfl,rfl⟩<;>rfl
 pyHash:=λhv h=>by
  rcases mR hv with⟨i,t,rfl,rfl⟩ | ⟨x,t,rfl,rfl⟩
  ·exact wpAny_pyHash_int h
  ·exact wpAny_pyHash_str h
 eqBool:=λhu hv h=>by
  rcases mR hu with⟨i,t,rfl,rfl⟩ | ⟨x,t,rfl,rfl⟩
  ·rcases mR hv with⟨j,u,rfl,rfl⟩ | ⟨y,u,rfl,rfl⟩
   ·rw[V2]at h;exact wpAny_eqBool_int h
   ·rw[V4]at h;exact SeqAt.EqAt.int_str i t y u _ _ _ _ h
  ·rcases mR hv with⟨j,u,rfl,rfl⟩ | ⟨y,u,rfl,rfl⟩
   ·rw[V5]at h;exact SeqAt.EqAt.str_int x t j u _ _ _ _ h
   ·rw[V3]at h;exact wpAny_eqBool_str h
 «strs»:=λk x t v h=>by
  rcases mR h with⟨i,u,rfl,e⟩ | ⟨y,u,rfl,e⟩
  ·exact nomatch e
  ·injection e with e1 _
   subst e1
   cases v<;>rfl
end L2
namespace L2
open PySem PySem.Spec PyProof.Rows
inductive V where
 | aq | bl (b:Bool) | int (i:Int) | str (x:Str) | Bc (b:Array UInt8) | qD (b:UInt64) | ref (a:Addr) | ty (n:String)
 deriving DecidableEq
noncomputable def RelV:V->Value->Prop
 | .aq,u=>u=qm
 | .bl b,u=>u=Eh b
 | .int i,u=>∃t,u=wX i t
 | .str x,u=>∃t,u=Value.str x t
 | .Bc b,u=>∃t,u=Value.bytes b t
 | .qD b,u=>∃t,u=Value.float b t
 | .ref a,u=>u=cA a
 | .ty n,u=>u=Value.type n
noncomputable abbrev Vals:List V->List Value->Prop:=Paired RelV
theorem Vals.length{xs:List V}{us:List Value}(r:Vals xs us):xs.length=us.length:=Paired.length r
theorem Vals.get:∀{xs:List V} {us:List Value} {i:Nat} {x:V},Vals xs us->xs[i]?=some x->∃u,us[i]?=some u/\RelV x u
 | _,_,_,_,.nil,e=>by simp at e
 | _,_,0,_,.cons r _,e=>by simp at e;subst e;exact⟨_,rfl,r⟩
 | _,_,i+1,x,.cons _ t,e=>by
  obtain⟨u,h1,h2⟩:=Vals.get (i:=i) (x:=x) t (by simpa using e)
  exact⟨u,by simpa using h1,h2⟩
theorem Vals.set{x:V}{u:Value}(r:RelV x u):∀{xs:List V} {us:List Value} (i:Nat),Vals xs us->Vals (xs.set i x) (us.set i u)
 | _,_,_,.nil=>.nil
 | _,_,0,.cons _ t=>.cons r t
 | _,_,i+1,.cons q t=>.cons q (Vals.set r i t)
theorem Vals.append:∀{xs ys:List V} {us ws:List Value},Vals xs us->Vals ys ws->Vals (xs++ys) (us++ws)
 | _,_,_,_,.nil,s=>s
 | _,_,_,_,.cons r t,s=>.cons r (Vals.append t s)
theorem Vals.take:∀{xs:List V} {us:List Value} (n:Nat),Vals xs us->Vals (xs.take n) (us.take n)
 | _,_,0,_=>.nil
 | _,_,_+1,.nil=>.nil
 | _,_,n+1,.cons r t=>.cons r (Vals.take n t)
theorem Vals.drop:∀{xs:List V} {us:List Value} (n:Nat),Vals xs us->Vals (xs.drop n) (us.drop n)
 | _,_,0,r=>r
 | _,_,_+1,.nil=>.nil
 | _,_,n+1,.cons _ t=>Vals.drop n t
noncomputable def lM:Option V->Option Value->Prop
 | some v,some u=>RelV v u
 | none,none=>True
 | _,_=>False
noncomputable def KV{κ:Type}:List (κ × V)->List (κ × Value)->Prop:=Paired λ(p:κ × V) (q:κ × Value)=>p.1=q.1/\RelV p.2 q.2
noncomputable def kV:Key->V
 | .inl i=>.int i
 | .inr x=>.str x
inductive HO where
 | lst (xs:List V)
 | tup (xs:List V)
 | dK (dA:List (Key × V)) | dT (dA:List (List Key × V))
 | set (S:Int->Bool) (n:Nat)
 | ins (C dx:Addr) (fs:List (Str × V))
 | own (x:Addr)
 | xd (fs:List (Str × V))
 | met (f x:Addr)
 | xv (lo hi:Int)
 | bC (o:Obj) (u:HO)
 | dr (ps:Array Value)
 | ext (φ:Heap->Prop)
noncomputable abbrev Hp:=Addr->Option HO
noncomputable def upd(H:Hp)(a:Addr)(o:HO):Hp:=λb=>if b=a then some o else H b
theorem br{H:Hp}{a:Addr}{o:HO}:upd H a o a=some o:=by unfold upd;rw[if_pos rfl]
theorem aL{H:Hp}{a b:Addr}{o:HO}(h:b≠a):upd H a o b=H b:=by unfold upd;rw[if_neg h]
theorem dH{H:Hp}{a b:Addr}{o:HO}(h:H a=some o)(h':H b=none):a≠b:=by
 intro e;subst e;rw[h]at h';cases h'
section
variable(P:Program)(w:World)
noncomputable def dQ(H:Hp)(h:Heap)(a:Addr):HO->Prop
 | .lst xs=>xs.length<=sizeLine/\∃(its:List Value) (n:Nat),Vals xs its/\h.get? a=some { cls:=.type "list",data:=.seq its.toArray n }
 | .tup xs=>xs.length<=sizeLine/\∃its:List Value,Vals xs its/\IsTup h a its.toArray
 | .dK dA=>dA.length<=sizeLine/\(a==sysModules)=false/\∃vs,KV dA vs/\h.DictOf (LX P w) a vs
 | .dT dA=>dA.length<=sizeLine/\(a==sysModules)=false/\∃xs:List (List Key × Addr × Value),
   Paired (λ(p:List Key × V) (q:List Key × Addr × Value)=>p.1=q.1/\H q.2.1=some (.tup (p.1.map kV))/\RelV p.2 q.2.2) dA xs /\
   ∃o es ep,h.get? a=some o/\o.ExactDict/\o.data=.dict es ep/\es.toList=xs.map (entryOfKey (tupleKind (LX P w)))/\(xs.map (·.1)).Nodup
 | .set S n=>h.SetOf (intKind P w) a S n
 | .ins C dx fs=>H dx=some (.own a)/\fs.length<=1000/\dx≠a/\h.get? a=some (PySem.W.instObj C dx) /\
   ∃mA,h.Ns1 dx mA/\(∀f,lM (fs.lookup f) (mA f))/\PySem.Within mA (fs.map (·.1))
 | .own _=>∃o,h.get? a=some o
 | .xd fs=>∃mA,h.Ns1 a mA/\∀f,lM (fs.lookup f) (mA f)
 | .xv lo hi=>∃t u v,h.get? a=some { cls:=.type "range",data:=.fields #[.int lo t,.int hi u,.int 1 v] }
 | .bC o u=>h.get? a=some o/\dQ H h a u
 | .dr ps=>h.get? a=some { cls:=.none,data:=.fields ps }/\TriplesOk ps.toList/\∀pos cv,codeAmong pos ps.toList=some cv->∃c φ,cv=.ref c/\H c=some (.ext φ)/\∀h',φ h'->∃q,h'.CodeRec (.ref c) q
 | .met f x=>h.get? a=some (PySem.W.methodObj (.ref f) (.ref x))
 | .ext φ=>φ h/\(∃o,h.get? a=some o)/\∀h1 h2:Heap,φ h1->(∀b o,(b=a\/H b=some (.own a))->h1.get? b=some o->h2.get? b=some o)->φ h2
noncomputable def cK(H:Hp)(h:Heap):Prop:=∀a o,H a=some o->dQ P w H h a o
end
section
variable{P:Program}{w:World}{H H':Hp}{h h':Heap}{a:Addr}{o:HO}
theorem dQ.lt(x:dQ P w H h a o):a<h.objs.size:=by
 cases o with
 | lst xs=>obtain⟨_,_,_,_,e⟩:=x;exact bH e
 | tup xs=>obtain⟨_,_,_,p⟩:=x;exact p.lt
 | dK dA=>obtain⟨_,_,_,_,o,_,_,e,_⟩:=x;exact bH e
 | dT dA=>obtain⟨_,_,_,_,o,_,_,e,_⟩:=x;exact bH e
 | set S n=>obtain⟨o,_,_,_,e,_⟩:=x;exact bH e
 | ins C dx fs=>obtain⟨_,_,_,e,_⟩:=x;exact bH e
 | own y=>obtain⟨_,e⟩:=x;exact bH e
 | xd fs=>obtain⟨_,⟨_,_,_,e,_⟩,_⟩:=x;exact bH e
 | xv lo hi=>obtain⟨_,_,_,e⟩:=x;exact bH e
 | bC ob u=>obtain⟨e,_⟩:=x;exact bH e
 | dr ps=>exact bH (show h.get? a=some _ from x.1)
 | met f y=>exact bH (show h.get? a=some _ from x)
 | ext φ=>obtain⟨_,⟨_,e⟩,_⟩:=x;exact bH e
theorem Paired.EM{α β:Type}{F G:α->β->Prop}:∀{l₁:List α} {l₂:List β},Paired F l₁ l₂->(∀a b,F a b->G a b)->Paired G l₁ l₂
 | _,_,.nil,_=>.nil
 | _,_,.cons r t,f=>.cons (f _ _ r) (Paired.EM t f)
theorem dQ.iW(x:dQ P w H h a o)(k:∀b u,(b=a\/H b=some (.own a))->h.get? b=some u->h'.get? b=some u)
  (ho:∀b,H b=some (.own a)->H' b=some (.own a)) (ht:∀b xs,H b=some (.tup xs)->H' b=some (.tup xs)) (hx:∀b φ,H b=some (.ext φ)->H' b=some (.ext φ)):dQ P w H' h' a o:=by
 induction o with
 | lst xs=>obtain⟨z,its,n,r,e⟩:=x;exact⟨z,its,n,r,k _ _ (.inl rfl) e⟩
 | tup xs=>obtain⟨z,its,r,ob,e,c⟩:=x;exact⟨z,its,r,ob,k _ _ (.inl rfl) e,c⟩
 | dK dA=>obtain⟨z,y,vs,r,ob,es,ep,e,c⟩:=x;exact⟨z,y,vs,r,ob,es,ep,k _ _ (.inl rfl) e,c⟩
 | dT dA =>
  obtain⟨z,y,xs,r,ob,es,ep,e,c⟩:=x
  exact⟨z,y,xs,Paired.EM r λp q z=>⟨z.1,ht _ _ z.2.1,z.2.2⟩,ob,es,ep,k _ _ (.inl rfl) e,c⟩
 | set S n=>obtain⟨ob,es,ep,t,e,c⟩:=x;exact⟨ob,es,ep,t,k _ _ (.inl rfl) e,c⟩
 | ins C dx fs =>
  obtain⟨d,z,ne,e,mA,⟨od,es,ep,e2,c⟩,r⟩:=x
  exact⟨ho _ d,z,ne,k _ _ (.inl rfl) e,mA,⟨od,es,ep,k _ _ (.inr d) e2,c⟩,r⟩
 | own y=>obtain⟨ob,e⟩:=x;exact⟨ob,k _ _ (.inl rfl) e⟩
 | xd fs=>obtain⟨mA,⟨od,es,ep,e,c⟩,r⟩:=x;exact⟨mA,⟨od,es,ep,k _ _ (.inl rfl) e,c⟩,r⟩
 | xv lo hi=>obtain⟨t,u,v,e⟩:=x;exact⟨t,u,v,k _ _ (.inl rfl) e⟩
 | bC ob u ih=>obtain⟨e,q⟩:=x;exact⟨k _ _ (.inl rfl) e,ih q⟩
 | dr ps =>
  obtain⟨e,t,c⟩:=x
  refine⟨k a _ (.inl rfl) e,t,λpos cv q=>?_⟩
  obtain⟨d,φ,e1,e2,e3⟩:=c pos cv q
  exact⟨d,φ,e1,hx _ _ e2,e3⟩
 | met f y =>
  have e:h.get? a=some (PySem.W.methodObj (.ref f) (.ref y)):=x
  show h'.get? a=some (PySem.W.methodObj (.ref f) (.ref y))
  exact k a _ (.inl rfl) e
 | ext φ=>obtain⟨p,⟨o,e⟩,st⟩:=x;exact⟨st _ _ p λb o hb q=>k _ _ hb q,⟨o,k _ _ (.inl rfl) e⟩,λh1 h2 p1 kk=>st h1 h2 p1 λb o hb q=>kk b o (hb.imp id (ho b)) q⟩
theorem cK.lt(x:cK P w H h)(e:H a=some o):a<h.objs.size:=(x a o e).lt
theorem cK.fresh(x:cK P w H h)(e:h.objs.size<=a):H a=none:=by
 cases q:H a with
 | none=>rfl
 | some u=>exact absurd (cH (x.lt q) e) (gA _)
theorem cK.kept(x:cK P w H h)(k:∀b u,h.get? b=some u->h'.get? b=some u):cK P w H h':=λa o e =>
 (x a o e).iW (λb u _ q=>k b u q) (λ_ q=>q) (λ_ _ q=>q) λ_ _ q=>q
theorem cK.laid(x:cK P w H h)(k:∀b u,h.get? b=some u->h'.get? b=some u)(hp:h.objs.size<=a)(new:dQ P w (upd H a o) h' a o):cK P w (upd H a o) h':=λb u e=>by
 have hn:=x.fresh hp
 by_cases hb:b=a
 ·subst hb;rw[br]at e;cases e;exact new
 ·rw[aL hb]at e
  exact(x b u e).iW (λc v _ q=>k c v q) (λc q=>by rw[aL (dH q hn)];exact q) (λc xs q=>by rw[aL (dH q hn)];exact q) λc xs q=>by rw[aL (dH q hn)];exact q
end
noncomputable def Rd(H:Hp)(a:Addr)(u:HO):Prop:=H a=some u\/∃o,H a=some (.bC o u)
theorem Rd.ok{P:Program}{w:World}{H:Hp}{h:Heap}{a:Addr}{u:HO}(r:Rd H a u)(x:cK P w H h):dQ P w H h a u:=by
 rcases r with r | ⟨o,r⟩
 ·exact x a u r
 ·obtain⟨_,q⟩:=x a _ r
  exact q
noncomputable def Bd:Option HO->Prop
 | some (.lst _)=>True
 | some (.dK _)=>True
 | some (.dT _)=>True
 | some (.set _ _)=>True
 | some (.ins _ _ _)=>True
 | _=>False
section
variable{P:Program}{w:World}{H:Hp}{h h':Heap}{x e:Addr}{o':HO}
theorem cK.write(ok:cK P w H h)(mu:Bd (H x))(he:e=x\/H e=some (.own x))(k:∀b u,b≠e->h.get? b=some u->h'.get? b=some u)(tF:∃u,h'.get? e=some u)
  (new:dQ P w (upd H x o') h' x o'):cK P w (upd H x o') h':=λb u q=>by
 have LY:∀c y,H c=some (.own y)->c≠x:=λc y r z=>by subst z;rw[r]at mu;exact mu
 have V6:∀c xs,H c=some (.tup xs)->c≠x:=λc xs r z=>by subst z;rw[r]at mu;exact mu
 by_cases hb:b=x
 ·subst hb;rw[br]at q;cases q;exact new
 ·rw[aL hb]at q
  by_cases qE:b=e
  ·have q':H b=some (.own x):=by
    rcases he with z | z
    ·exact absurd (qE.trans z) hb
    ·rw[qE];exact z
   rw[q]at q';cases q'
   obtain⟨v,hv⟩:=tF
   exact⟨v,by rw[qE];exact hv⟩
  ·refine(ok b u q).iW (λc v hc r=>k c v ?_ r) (λc r=>by rw[aL (LY c b r)];exact r) (λc xs r=>by rw[aL (V6 c xs r)];exact r) λc φ r=>by rw[aL (λz=>by rw[z]at r;rw[r]at mu;exact mu)];exact r
   rcases hc with rfl | hc
   ·exact qE
   ·rintro rfl
    rcases he with z | z
    ·exact LY c b hc z
    ·rw[hc]at z;cases z;exact hb rfl
end
structure Un(fs ex:List Addr)(H H':Hp)(h h':Heap):Prop where
 keep:∀b o,h.get? b=some o->H b=none->b ∉ fs->b ∉ ex->h'.get? b=some o
 slot:∀b o,h.get? b=some o->H b=none->b∈fs->b ∉ ex->∃sl,h'.get? b=some { o with slots:=sl }
 free:∀b o,h.get? b=some o->H b=none->b ∉ ex->H' b=none
 there:∀b o,h.get? b=some o->b ∉ ex->∃o',h'.get? b=some o'
 iA:∀b xs,H b=some (.tup xs)->H' b=some (.tup xs)
 g8:∀b o u,H b=some (.bC o u)->H' b=some (.bC o u)
 gD:∀b ps,H b=some (.dr ps)->∃more,H' b=some (.dr (ps++more))
section
variable{fs fs' ex ex':List Addr}{H H1 H2:Hp}{h h1 h2 h':Heap}{a x e:Addr}{o:HO}
theorem Un.any(u:Un fs ex H H1 h h1){b:Addr}{ob:Obj}(q:h.get? b=some ob)(n:H b=none)(hx:b ∉ ex):∃sl,h1.get? b=some { ob with slots:=sl }:=by
 by_cases hb:b∈fs
 ·exact u.slot b ob q n hb hx
 ·exact⟨ob.slots,u.keep b ob q n hb hx⟩
theorem Un.kept(k:∀b u,h.get? b=some u->h'.get? b=some u):Un fs ex H H h h' :=
 ⟨λb ob q _ _ _=>k b ob q,λb ob q _ _ _=>⟨ob.slots,k b ob q⟩,λ_ _ _ n _=>n,λb ob q _=>⟨ob,k b ob q⟩,λ_ _ q=>q,λ_ _ _ q=>q,λ_ ps q=>⟨#[],by rw[q];simp⟩⟩
theorem Un.refl:Un fs ex H H h h:=Un.kept λ_ _ q=>q
theorem Un.laid(k:∀b u,h.get? b=some u->h'.get? b=some u)(hp:h.objs.size<=a)(hn:H a=none):Un fs ex H (upd H a o) h h' where
 keep:=λb u q _ _ _=>k b u q
 slot:=λb u q _ _ _=>⟨u.slots,k b u q⟩
 free:=λb u q n _=>by rw[aL (eB (cH (bH q) hp))];exact n
 there:=λb u q _=>⟨u,k b u q⟩
 iA:=λb xs q=>by rw[aL (dH q hn)];exact q
 g8:=λb u xs q=>by rw[aL (dH q hn)];exact q
 gD:=λb ps q=>⟨#[],by rw[aL (dH q hn),q];simp⟩
theorem Un.write(mu:Bd (H x))(he:e=x\/H e=some (.own x))(k:∀b u,b≠e->h.get? b=some u->h'.get? b=some u)(tF:∃u,h'.get? e=some u):Un fs ex H (upd H x o) h h':=by
 have hx:∀b,H b=none->b≠x:=λb n z=>by subst z;rw[n]at mu;exact mu
 have hb:∀b,H b=none->b≠e:=λb n z=>by
  subst z
  rcases he with r | r
  ·exact hx b n r
  ·rw[n]at r;cases r
 have hm:∀b u,H b=some u->¬ Bd (some u)->b≠x:=λb u q nm z=>by subst z;rw[q]at mu;exact nm mu
 refine⟨λb u q n _ _=>k b u (hb b n) q,λb u q n _ _=>⟨u.slots,k b u (hb b n) q⟩,λb u q n _=>by rw[aL (hx b n)];exact n,λb u q _=>?_,
  λb xs q=>by rw[aL (hm b _ q λz=>z)];exact q,λb u xs q=>by rw[aL (hm b _ q λz=>z)];exact q,λb ps q=>⟨#[],by rw[aL (hm b _ q λz=>z),q];simp⟩⟩
 by_cases qE:b=e
 ·subst qE;exact tF
 ·exact⟨u,k b u qE q⟩
end
noncomputable def Be(h:Heap)(H:Hp):List Addr:=(bh h.objs.size).filter λa=>(H a).isSome
noncomputable def lN(h:Heap)(H:Hp):Heap:=PySem.W.hideAll h (Be h H)
theorem V7(h:Heap)(H:Hp):(lN h H).objs.size=h.objs.size:=PySem.W.hideAll_size _ _
theorem V8{h:Heap}{H:Hp}{b:Addr}{o:Obj}(e:h.get? b=some o)(n:H b=none):(lN h H).get? b=some o :=
 PySem.W.hideAll_get _ e λhm=>by
  have q:(H b).isSome=true:=(wY.mp hm).2
  rw[n]at q;simp at q
theorem V9{h:Heap}{H:Hp}{b:Addr}{o:Obj}(e:(lN h H).get? b=some o):h.get? b=some o/\H b=none:=by
 have e':h.get? b=some o:=PySem.W.of_hideAll (Be h H) e
 refine⟨e',?_⟩
 cases q:H b with
 | none=>rfl
 | some x =>
  have hm:b∈Be h H:=wY.mpr ⟨eJ.mpr (bH e'),by simp[q]⟩
  have z:(lN h H).get? b=none:=PySem.W.hideAll_none (Be h H) hm
  rw[z]at e;cases e
end L2
namespace L2
open PySem PySem.Spec PyProof.Rows
structure Mod(K:PySem.W.Frag)(mg:Str->Option Value)(base:Heap):Prop where
 lQ:K.In base
 glob:base.Ns mainGlobals mg
 blt:∃mb,base.Ns builtinsNs mb/\∀x:Str,x≠"__name__"->mb x=bootBuiltins x
 nolimit:base.NoLimit
structure Cx where
 prog:Program
 w:World
 K:PySem.W.Frag
 mg:Str->Option Value
 base:Heap
 A:Around
 N:List Str
 cw:Shared
 j3:Hp
 env:Env
 outer:List Env
 stack:List Env
 ex:List Addr
 fn:Str->Bool
 calm:Bool
 pn:List (Addr × Obj)
 xe:Value->Shared->Prop
noncomputable def dB(l:List Env):List Addr:=l.filterMap (·.frame)
noncomputable abbrev Cx.fs(X:Cx):List Addr:=dB X.outer
noncomputable def iB(sc:Scope)(x:Str):Prop:=sc.names.lookup x=some .local\/sc.names.lookup x=some .cell\/sc.names.lookup x=some .free
noncomputable def Loc(sc:Scope)(x:Str):Prop:=sc.names.lookup x=some .local\/sc.names.lookup x=some .cell
noncomputable def Wa(env:Env)(h:Heap)(m:Str->Option Value)(x:Str)(u:Value):Prop :=
 (env.kindOf x=some .local/\m x=some u)\/((env.kindOf x=some .cell\/env.kindOf x=some .free)/\∃c,env.cells.lookup x=some c/\h.IsCell c (some u))
structure Cx.Ok(X:Cx):Prop where
 mod:Mod X.K X.mg X.base
 kind:X.env.scope.kind=.function
 glob:X.env.globals=mainGlobals
 blt:X.env.builtins=builtinsNs
 above:X.cw.heap.objs.size<=X.env.locals
 inj:∀x y c,X.env.cells.lookup x=some c->X.env.cells.lookup y=some c->x=y
 has:∀x,(X.env.kindOf x=some .cell\/X.env.kindOf x=some .free)->∃c,X.env.cells.lookup x=some c
 mS:∀x c,X.fn x=true->X.env.cells.lookup x=some c->X.cw.heap.objs.size<=c
 hd:X.calm=true->X.A.handled=none
 frames:X.A.frames=some X.stack
 qF:X.stack=X.outer\/(X.stack=X.env::X.outer/\X.env.frame=some X.env.locals)
 qG:∀b∈X.ex,b≠X.env.locals/\∀x c,X.env.cells.lookup x=some c->c≠b
 bs:∀b o,X.base.get? b=some o->X.cw.heap.get? b=some o/\X.j3 b=none
 iX:X.base.objs.size<=X.cw.heap.objs.size
 oI:∀b o,X.base.get? b=some o->b ∉ X.ex
 oJ:∀b∈X.ex,b ∉ X.fs
 fY:X.cw.heap.FunFrames X.base X.outer
 iY:∀b∈X.fs,X.j3 b=none
structure Inv(X:Cx)(pins:List (Addr × Obj))(σ:List (Option V))(H:Hp)(s:Shared):Prop where
 ok:X.Ok
 os:s.os=X.cw.os
 bare:AllBare s.gens
 base:Un X.fs X.ex X.j3 H X.cw.heap s.heap
 loc:∃m,s.heap.Ns X.env.locals m/\∀(i:Nat) (x:Str) (v:V),X.N[i]?=some x->σ[i]?=some (some v)->iB X.env.scope x->∃u,RelV v u/\Wa X.env s.heap m x u
 cell:∀x c,X.env.cells.lookup x=some c->∃v,s.heap.IsCell c v
 free:H X.env.locals=none
 fO:∀x c,X.env.cells.lookup x=some c->H c=none
 pin:∀p∈X.pn++pins,s.heap.get? p.1=some p.2/\H p.1=none/\p.1≠X.env.locals/\p.1 ∉ X.fs/\∀v,p.2.data≠.cell v
 aE:cK X.prog X.w H s.heap
 len:σ.length=X.N.length
section
variable{X:Cx}{pins:List (Addr × Obj)}{σ:List (Option V)}{H H':Hp}{s:Shared}{h':Heap}
theorem Cx.Ok.Wb(ok:X.Ok){b:Addr}{o:Obj}(e:X.base.get? b=some o):b ∉ X.fs:=λhb=>by
 have:=(ok.fY.mem hb).1
 rw[e]at this;cases this
theorem Inv.bs(I:Inv X pins σ H s):∀b o,X.base.get? b=some o->s.heap.get? b=some o/\H b=none:=λb o e =>
 ⟨I.base.keep b o (I.ok.bs b o e).1 (I.ok.bs b o e).2 (I.ok.Wb e) (I.ok.oI b o e),I.base.free b o (I.ok.bs b o e).1 (I.ok.bs b o e).2 (I.ok.oI b o e)⟩
theorem Inv.bk(I:Inv X pins σ H s):∀b o,X.base.get? b=some o->s.heap.get? b=some o:=λb o e=>(I.bs b o e).1
theorem Inv.mod(I:Inv X pins σ H s):Mod X.K X.mg X.base:=I.ok.mod
theorem Inv.cB(I:Inv X pins σ H s):X.K.In s.heap:=I.ok.mod.lQ.keeps I.bk
theorem Inv.lt(I:Inv X pins σ H s):X.env.locals<s.heap.objs.size:=let⟨_,hn,_⟩:=I.loc;hn.lt
theorem Inv.sz(I:Inv X pins σ H s):X.cw.heap.objs.size<=s.heap.objs.size:=eK I.ok.above (Av I.lt)
theorem Inv.LZ(I:Inv X pins σ H s){a:Addr}(h:s.heap.objs.size<=a):a ∉ X.fs:=λhb=>by
 obtain⟨_,o,ho,_⟩:=I.ok.fY.mem hb
 exact absurd (cH (bH ho) (eK I.sz h)) (gA _)
theorem Inv.j4(I:Inv X pins σ H s):∀x c,X.env.cells.lookup x=some c->c≠X.env.locals:=λx c e z=>by
 obtain⟨v,o,ho,hd⟩:=I.cell x c e
 obtain⟨m,⟨o',es,ep,kH,xw,_⟩,_⟩:=I.loc
 rw[z,kH]at ho;cases ho;rw[xw]at hd;cases hd
theorem Inv.fY(I:Inv X pins σ H s):s.heap.FunFrames X.base X.outer:=by
 have all:∀(l:List Env),(∀b∈dB l,b∈X.fs)->X.cw.heap.FunFrames X.base l->s.heap.FunFrames X.base l:=by
  intro l
  induction l with
  | nil=>intro _ _;trivial
  | cons env r ih =>
   intro hs hl
   obtain⟨hk,⟨L,o,hf,hn,ho,hd⟩,hr⟩:=hl
   have hL:L∈X.fs:=hs L (by unfold dB;rw[Aw,hf];exact jB)
   obtain⟨sl,e⟩:=I.base.slot L o ho (I.ok.iY L hL) hL λz=>I.ok.oJ L z hL
   exact⟨hk,⟨L,_,hf,hn,e,hd⟩,ih (λb hb=>hs b (by unfold dB;rw[Aw,hf];exact gB _ hb)) hr⟩
 exact all X.outer (λ_ hb=>hb) I.ok.fY
theorem Inv.stack(I:Inv X pins σ H s):s.heap.FunFrames X.base X.stack:=by
 rcases I.ok.qF with e | ⟨e,hf⟩
 ·rw[e];exact I.fY
 ·rw[e]
  obtain⟨m,hn,_⟩:=I.loc
  refine .cons (by rw[I.ok.kind];decide) hf hn ?_ I.fY
  exact Heap.get?_none_of_le (eK I.ok.iX I.ok.above)
theorem Inv.xx(I:Inv X pins σ H s):∀b∈dB X.stack,b∈X.env.locals::X.fs:=λb hb=>by
 rcases I.ok.qF with e | ⟨e,hf⟩
 ·rw[e]at hb;exact gB _ hb
 ·rw[e]at hb
  unfold dB at hb
  rw[Aw,hf]at hb
  exact hb
theorem Inv.Bf(I:Inv X pins σ H s):∀b∈dB X.stack,H b=none:=λb hb=>by
 rcases cq.mp (I.xx b hb)with e | hb
 ·rw[e];exact I.free
 ·obtain⟨_,o,ho,_⟩:=I.ok.fY.mem hb
  exact I.base.free b o ho (I.ok.iY b hb) λz=>I.ok.oJ b z hb
theorem Inv.step{g':Array GenState}{t':Nat}{d':Drawn}{ch:List Addr}(I:Inv X pins σ H s)
  (lR:∀b∈ch,(b∈X.ex\/X.cw.heap.objs.size<=b)/\b≠X.env.locals/\(∀x c,X.env.cells.lookup x=some c->c≠b)/\∀p∈X.pn++pins,p.1≠b)
  (keep:∀b o,b≠X.env.locals->b ∉ X.fs->b ∉ ch->s.heap.get? b=some o->H b=none->h'.get? b=some o)
  (slot:∀b o,b≠X.env.locals->b∈X.fs->b ∉ ch->s.heap.get? b=some o->H b=none->∃sl,h'.get? b=some { o with slots:=sl }) (free:∀b o,b ∉ ch->s.heap.get? b=some o->H b=none->H' b=none)
  (there:∀b o,b ∉ ch->s.heap.get? b=some o->∃o',h'.get? b=some o')
  (iA:∀b xs,H b=some (.tup xs)->H' b=some (.tup xs)) (g8:∀b o u,H b=some (.bC o u)->H' b=some (.bC o u)) (gD:∀b ps,H b=some (.dr ps)->∃more,H' b=some (.dr (ps++more)))
  (ns:∀m,s.heap.Ns X.env.locals m->h'.Ns X.env.locals m) (aE:cK X.prog X.w H' h') (hg:AllBare g') :
  Inv X pins σ H' { s with heap:=h',gens:=g',drawn:=d',toks:=t' }:=by
 have tG:∀b o,X.cw.heap.get? b=some o->b≠X.env.locals:=λb o e=>eB (cH (bH e) I.ok.above)
 have tH:∀b o,X.cw.heap.get? b=some o->b ∉ X.ex->b ∉ ch:=λb o e hx hb=>by
  rcases(lR b hb).1 with z | z
  ·exact hx z
  ·exact absurd (cH (bH e) z) (gA _)
 have cellK:∀x c,X.env.cells.lookup x=some c->∀v,s.heap.IsCell c v->h'.IsCell c v:=λx c e v ⟨o,ho,hd⟩=>by
  have xy:c ∉ ch:=λz=>(lR c z).2.2.1 x c e rfl
  by_cases hc:c∈X.fs
  ·obtain⟨sl,q⟩:=slot c o (I.j4 x c e) hc xy ho (I.fO x c e)
   exact⟨_,q,hd⟩
  ·exact⟨o,keep c o (I.j4 x c e) hc xy ho (I.fO x c e),hd⟩
 refine⟨I.ok,I.os,hg,⟨λb o e n hb hx=>?_,λb o e n hb hx=>?_,λb o e n hx=>?_,λb o e hx=>?_,λb xs e=>iA b xs (I.base.iA b xs e),λb o xs e=>g8 b o xs (I.base.g8 b o xs e),λb ps e=>?_⟩,?_,λx c e=>?_,?_,λx c e=>?_,λp hp=>?_,aE,I.len⟩
 ·exact keep b o (tG b o e) hb (tH b o e hx) (I.base.keep b o e n hb hx) (I.base.free b o e n hx)
 ·obtain⟨sl,e1⟩:=I.base.slot b o e n hb hx
  obtain⟨xA,e2⟩:=slot b _ (tG b o e) hb (tH b o e hx) e1 (I.base.free b o e n hx)
  exact⟨xA,e2⟩
 ·obtain⟨o',e1⟩:=I.base.there b o e hx
  exact free b o' (tH b o e hx) e1 (I.base.free b o e n hx)
 ·obtain⟨o',e1⟩:=I.base.there b o e hx
  exact there b o' (tH b o e hx) e1
 ·obtain⟨m1,e1⟩:=I.base.gD b ps e
  obtain⟨m2,e2⟩:=gD b _ e1
  exact⟨m1++m2,by rw[e2,sQ]⟩
 ·obtain⟨m,hn,hl⟩:=I.loc
  refine⟨m,ns m hn,λi x v e1 e2 e3=>?_⟩
  obtain⟨u,r,l⟩:=hl i x v e1 e2 e3
  refine⟨u,r,?_⟩
  rcases l with l | ⟨k,c,e,z⟩
  ·exact .inl l
  ·exact .inr ⟨k,c,e,cellK x c e _ z⟩
 ·obtain⟨v,z⟩:=I.cell x c e
  exact⟨v,cellK x c e v z⟩
 ·obtain⟨m,⟨o,_,_,ho,_⟩,_⟩:=I.loc
  exact free _ o (λz=>(lR _ z).2.1 rfl) ho I.free
 ·obtain⟨v,o,ho,hd⟩:=I.cell x c e
  exact free c o (λz=>(lR c z).2.2.1 x c e rfl) ho (I.fO x c e)
 ·obtain⟨e,n,ne,nf,d⟩:=I.pin p hp
  have xy:p.1 ∉ ch:=λz=>(lR p.1 z).2.2.2 p hp rfl
  exact⟨keep p.1 p.2 ne nf xy e n,free p.1 p.2 xy e n,ne,nf,d⟩
theorem Inv.un{t':Nat}(I:Inv X pins σ H s)(u:Un X.fs [] H H' s.heap h')(aE:cK X.prog X.w H' h'):Inv X pins σ H' { s with heap:=h',toks:=t' }:=by
 obtain⟨m,⟨o,es,ep,ho,r⟩,_⟩:=id I.loc
 obtain⟨sl,hL⟩:=u.any ho I.free (by simp)
 exact I.step (g':=s.gens) (d':=s.drawn) (ch:=[]) (λ_ z=>nomatch z) (λb o _ hb _ e n=>u.keep b o e n hb (by simp)) (λb o _ hb _ e n=>u.slot b o e n hb (by simp)) (λb o _ e n=>u.free b o e n (by simp)) (λb o _ e=>u.there b o e (by simp)) u.iA u.g8 u.gD (λm' hm=>by
  obtain⟨o',EN,EO,kH,r'⟩:=hm
  rw[ho]at kH;cases kH
  exact⟨_,EN,EO,hL,r'⟩) aE I.bare
theorem Inv.call{g':Array GenState}{t':Nat}{d':Drawn}{ch:List Addr}(I:Inv X pins σ H s)(u:Un (dB X.stack) ch H H' s.heap h')(aE:cK X.prog X.w H' h')(hg:AllBare g')
  (lR:∀b∈ch,(b∈X.ex\/X.cw.heap.objs.size<=b)/\b≠X.env.locals/\(∀x c,X.env.cells.lookup x=some c->c≠b)/\∀p∈X.pn++pins,p.1≠b) :
  Inv X pins σ H' { s with heap:=h',gens:=g',drawn:=d',toks:=t' }:=by
 obtain⟨m,⟨o,es,ep,ho,r⟩,_⟩:=id I.loc
 obtain⟨sl,hL⟩:=u.any ho I.free λz=>(lR _ z).2.1 rfl
 exact I.step (ch:=ch) lR (λb o hL hb hc e n=>u.keep b o e n (λz=>(cq.mp (I.xx b z)).elim hL hb) hc) (λb o _ _ hc e n=>u.any e n hc) (λb o hc e n=>u.free b o e n hc) (λb o hc e=>u.there b o e hc) u.iA u.g8 u.gD (λm' hm=>by
  obtain⟨o',EN,EO,kH,r'⟩:=hm
  rw[ho]at kH;cases kH
  exact⟨_,EN,EO,hL,r'⟩) aE hg
theorem Inv.turned{t':Nat}{it:Addr}(I:Inv X pins σ H s)(k:∀b o,b≠it->s.heap.get? b=some o->h'.get? b=some o)(hn:H it=none)(hL:it≠X.env.locals)
  (h1:it∈X.ex\/X.cw.heap.objs.size<=it) (h2:∀x c,X.env.cells.lookup x=some c->c≠it) (h3:∀p∈X.pn++pins,p.1≠it):Inv X pins σ H { s with heap:=h',toks:=t' }:=by
 have oK:∀b u,H b=some u->b≠it:=λb u e z=>by rw[z,hn]at e;cases e
 refine I.step (g':=s.gens) (d':=s.drawn) (ch:=[it]) (λb hb=>?_) (λb o _ _ hc e _=>k b o (λz=>hc (by simp[z])) e) (λb o _ _ hc e _=>⟨o.slots,k b o (λz=>hc (by simp[z])) e⟩) (λ_ _ _ _ n=>n)
  (λb o hc e=>⟨o,k b o (λz=>hc (by simp[z])) e⟩) (λ_ _ e=>e) (λ_ _ _ e=>e) (λb ps e=>⟨#[],by rw[e];simp⟩) (λm hm=>?_) (λb u e=>?_) I.bare
 ·have e:b=it:=by simpa using hb
  subst e
  exact⟨h1,hL,h2,h3⟩
 ·obtain⟨o,es,ep,ho,r⟩:=hm
  exact⟨o,es,ep,k _ o (dN hL) ho,r⟩
 ·refine(I.aE b u e).iW (λc v hc q=>k c v ?_ q) (λ_ q=>q) (λ_ _ q=>q) λ_ _ q=>q
  rcases hc with z | z
  ·rw[z];exact oK b u e
  ·exact oK c _ z
theorem Inv.tok(I:Inv X pins σ H s)(t:Nat):Inv X pins σ H { s with toks:=t }:=I.un (h':=s.heap) (t':=t) Un.refl I.aE
theorem Inv.kept{t':Nat}(I:Inv X pins σ H s)(k:∀b u,s.heap.get? b=some u->h'.get? b=some u):Inv X pins σ H { s with heap:=h',toks:=t' }:=I.un (Un.kept k) (I.aE.kept k)
theorem Inv.laid{a:Addr}{o:HO}{t':Nat}(I:Inv X pins σ H s)(k:∀b u,s.heap.get? b=some u->h'.get? b=some u)(hp:s.heap.objs.size<=a)(new:dQ X.prog X.w (upd H a o) h' a o) :
  Inv X pins σ (upd H a o) { s with heap:=h',toks:=t' }:=I.un (Un.laid k hp (I.aE.fresh hp)) (I.aE.laid k hp new)
theorem Inv.write{x e:Addr}{o:HO}{t':Nat}(I:Inv X pins σ H s)(mu:Bd (H x))(he:e=x\/H e=some (.own x))(k:∀b u,b≠e->s.heap.get? b=some u->h'.get? b=some u)(tF:∃u,h'.get? e=some u)
  (new:dQ X.prog X.w (upd H x o) h' x o):Inv X pins σ (upd H x o) { s with heap:=h',toks:=t' }:=I.un (Un.write mu he k tF) (I.aE.write mu he k tF new)
theorem Inv.weak{ax:List (Option V)}(I:Inv X pins σ H s)(hl:ax.length=σ.length)(w:∀(i:Nat) v,ax[i]?=some (some v)->σ[i]?=some (some v)):Inv X pins ax H s :=
 ⟨I.ok,I.os,I.bare,I.base,let⟨m,hn,tI⟩:=I.loc;⟨m,hn,λi x v e1 e2 e3=>tI i x v e1 (w i v e2) e3⟩,I.cell,I.free,I.fO,I.pin,I.aE,hl.trans I.len⟩
theorem Inv.L4{tJ:List (Addr × Obj)}(I:Inv X pins σ H s)(h:∀p∈tJ,s.heap.get? p.1=some p.2/\H p.1=none/\p.1≠X.env.locals/\p.1 ∉ X.fs/\∀v,p.2.data≠.cell v):Inv X tJ σ H s :=
 ⟨I.ok,I.os,I.bare,I.base,I.loc,I.cell,I.free,I.fO,λp hp=>(bA.mp hp).elim (λz=>I.pin p (df _ z)) (h p),I.aE,I.len⟩
theorem ER{N:List Str}(hN:N.Nodup){i j:Nat}{x:Str}(a:N[i]?=some x)(b:N[j]?=some x):i=j:=by
 obtain⟨h1,e1⟩:=kE.mp a
 obtain⟨h2,e2⟩:=kE.mp b
 exact(List.getElem_inj hN).mp (e1.trans e2.symm)
theorem Wc{M:Model}{A:Around}{E:Value->Shared->Prop}{i:Nat}{x:Str}{v:V}{u:Value}{Q:Unit->Shared->Prop}(I:Inv X pins σ H s)(hN:X.N.Nodup)(hi:X.N[i]?=some x)(hx:Loc X.env.scope x)(r:RelV v u)
  (h:∀s',Inv X pins (σ.set i (some v)) H s'->(∃a,Heap.SameBut a s.heap s'.heap/\(a=X.env.locals\/X.env.cells.lookup x=some a))->Q () s') (hf:X.fn x=true\/X.env.scope.names.lookup x=some .local:=by first | exact .inl rfl | exact .inr rfl | assumption):wpAny M A (storeName X.env x u) Q E s:=by
 obtain⟨m,hn,hl⟩:=id I.loc
 have Wd:(X.env.scope.kind==.class||(X.env.scope.kind==.module&&X.env.locals != X.env.globals))=false:=by rw[I.ok.kind];rfl
 have L5:i<σ.length:=by rw[I.len];exact(kE.mp hi).1
 have j4:=I.j4
 have tracked:∀{a:Addr} {h':Heap},(∃o,s.heap.get? a=some o/\H a=none)->Heap.SameBut a s.heap h'->cK X.prog X.w H h':=λ{a h'} ha hs b ob e=>by
  obtain⟨_,_,L6⟩:=ha
  refine(I.aE b ob e).iW (λc w' hc q=>(hs.2 c ?_).trans q) (λ_ q=>q) (λ_ _ q=>q) λ_ _ q=>q
  rintro rfl
  rcases hc with rfl | hc
  ·rw[L6]at e;cases e
  ·rw[L6]at hc;cases hc
 rcases hx with hk | hk
 ·refine wpAny_storeName_local hk hn (λh' ES hs=>?_) Wd
  obtain⟨oL,_,_,L7,_⟩:=id hn
  refine h _ ⟨I.ok,I.os,I.bare,⟨λb o e n hb hx=>?_,λb o e n hb hx=>?_,I.base.free,λb o e hx=>?_,I.base.iA,I.base.g8,I.base.gD⟩,⟨_,ES,λj y v' e1 e2 e3=>?_⟩,λy c e=>?_,I.free,I.fO,λp hp=>?_,tracked ⟨oL,L7,I.free⟩ hs,by simpa using I.len⟩ ⟨_,hs,.inl rfl⟩
  ·exact(hs.2 b (eB (cH (bH e) I.ok.above))).trans (I.base.keep b o e n hb hx)
  ·obtain⟨sl,e1⟩:=I.base.slot b o e n hb hx
   exact⟨sl,(hs.2 b (eB (cH (bH e) I.ok.above))).trans e1⟩
  ·obtain⟨o',e1⟩:=I.base.there b o e hx
   exact⟨o',(hs.2 b (eB (cH (bH e) I.ok.above))).trans e1⟩
  ·by_cases hj:j=i
   ·subst hj
    rw[hi]at e1;cases e1
    rw[oA L5]at e2
    cases e2
    exact⟨u,r,.inl ⟨hk,by simp⟩⟩
   ·rw[lF (dN hj)]at e2
    obtain⟨u',r',q⟩:=hl j y v' e1 e2 e3
    refine⟨u',r',?_⟩
    rcases q with⟨k,e⟩ | ⟨k,c,e,z⟩
    ·refine .inl ⟨k,?_⟩
     have:y≠x:=λe=>hj (ER hN e1 (e ▸ hi))
     simp[this,e]
    ·exact .inr ⟨k,c,e,z.sameBut hs (j4 y c e)⟩
  ·obtain⟨w',z⟩:=I.cell y c e
   exact⟨w',z.sameBut hs (j4 y c e)⟩
  ·obtain⟨e,n,ne,nf,d⟩:=I.pin p hp
   exact⟨(hs.2 p.1 ne).trans e,n,ne,nf,d⟩
 ·have xB:X.fn x=true:=by
   rcases hf with z | z
   ·exact z
   ·rw[z]at hk;cases hk
  obtain⟨c,hc⟩:=I.ok.has x (.inl hk)
  obtain⟨w',z⟩:=I.cell x c hc
  refine wpAny_storeName_cell I.ok.kind hk hc z (λh' xC hs=>?_)
  obtain⟨oc,iZ,We⟩:=id z
  refine h { s with heap:=h' } ⟨I.ok,I.os,I.bare,⟨λb o e n hb hx=>?_,λb o e n hb hx=>?_,I.base.free,λb o e hx=>?_,I.base.iA,I.base.g8,I.base.gD⟩,⟨m,hn.sameBut hs (dN (j4 x c hc)),λj y v' e1 e2 e3=>?_⟩,λy c' e=>?_,I.free,I.fO,λp hp=>?_,tracked ⟨oc,iZ,I.fO x c hc⟩ hs,by simpa using I.len⟩ ⟨c,hs,.inr hc⟩
  ·exact(hs.2 b (eB (cH (bH e) (I.ok.mS x c xB hc)))).trans (I.base.keep b o e n hb hx)
  ·obtain⟨sl,e1⟩:=I.base.slot b o e n hb hx
   exact⟨sl,(hs.2 b (eB (cH (bH e) (I.ok.mS x c xB hc)))).trans e1⟩
  ·obtain⟨o',e1⟩:=I.base.there b o e hx
   exact⟨o',(hs.2 b (eB (cH (bH e) (I.ok.mS x c xB hc)))).trans e1⟩
  ·by_cases hj:j=i
   ·subst hj
    rw[hi]at e1;cases e1
    rw[oA L5]at e2
    cases e2
    exact⟨u,r,.inr ⟨.inl hk,c,hc,xC⟩⟩
   ·rw[lF (dN hj)]at e2
    obtain⟨u',r',q⟩:=hl j y v' e1 e2 e3
    refine⟨u',r',?_⟩
    rcases q with q | ⟨k,c',e,z'⟩
    ·exact .inl q
    ·refine .inr ⟨k,c',e,z'.sameBut hs ?_⟩
     rintro rfl
     exact hj (ER hN e1 (I.ok.inj _ _ _ e hc ▸ hi))
  ·by_cases L8:c'=c
   ·subst L8;exact⟨_,xC⟩
   ·obtain⟨w2,z2⟩:=I.cell y c' e
    exact⟨w2,z2.sameBut hs L8⟩
  ·obtain⟨e,n,ne,nf,d⟩:=I.pin p hp
   refine⟨(hs.2 p.1 ?_).trans e,n,ne,nf,d⟩
   intro q
   rw[q,iZ]at e
   have q':oc=p.2:=dq e
   exact d w' (by rw[<-q'];exact We)
theorem Bg{M:Model}{A:Around}{E:Value->Shared->Prop}{i:Nat}{x:Str}{v:V}{u:Value}{Q:Unit->Shared->Prop}(I:Inv X pins σ H s)(hN:X.N.Nodup)(hi:X.N[i]?=some x)(hx:Loc X.env.scope x)(r:RelV v u)
  (h:∀s',Inv X pins (σ.set i (some v)) H s'->Q () s') (hf:X.fn x=true\/X.env.scope.names.lookup x=some .local:=by first | exact .inl rfl | exact .inr rfl | assumption):wpAny M A (storeName X.env x u) Q E s :=
 Wc I hN hi hx r (λs' I' _=>h s' I') hf
theorem Inv.L9{s':Shared}{ch:List Addr}(I:Inv X pins σ H s)(ho:s'.os=s.os)(u:Un (dB X.stack) ch H H' s.heap s'.heap)(aE:cK X.prog X.w H' s'.heap)(hg:AllBare s'.gens)
  (lR:∀b∈ch,(b∈X.ex\/X.cw.heap.objs.size<=b)/\b≠X.env.locals/\(∀x c,X.env.cells.lookup x=some c->c≠b)/\∀p∈X.pn++pins,p.1≠b):Inv X pins σ H' s':=by
 obtain⟨h',g',d',t',o'⟩:=s'
 have e:o'=s.os:=ho
 subst e
 exact I.call (g':=g') (t':=t') (d':=d') u aE hg lR
end
noncomputable abbrev XK:=Value->Option Addr->Hp->Prop
noncomputable abbrev St:=List (Option V)
noncomputable abbrev VK:=V->Hp->Prop
noncomputable abbrev TE:=St->Hp->VK->Prop
noncomputable abbrev TT:=St->Hp->(Bool->Hp->Prop)->Prop
noncomputable abbrev TA:=St->Hp->(List V->Hp->Prop)->Prop
structure Ends where
 nx:St->Hp->Prop
 rt:VK
 bk:St->Hp->Prop:=λ_ _=>False
 ct:St->Hp->Prop:=λ_ _=>False
noncomputable abbrev TS:=Ends->St->Hp->Prop
noncomputable def EP(X:Cx)(pins:List (Addr × Obj))(σ:St)(Q:VK)(u:Value)(s':Shared):Prop:=∃v H',Inv X pins σ H' s'/\RelV v u/\Q v H'
noncomputable def TP(X:Cx)(pins:List (Addr × Obj))(σ:St)(Q:Bool->Hp->Prop)(b:Bool)(s':Shared):Prop:=∃H',Inv X pins σ H' s'/\Q b H'
noncomputable def AP(X:Cx)(pins:List (Addr × Obj))(σ:St)(Q:List V->Hp->Prop)(us:List Value)(s':Shared):Prop:=∃vs H',Inv X pins σ H' s'/\Vals vs us/\Q vs H'
noncomputable def SP(X:Cx)(pins:List (Addr × Obj))(D:Ends)(f:Flow)(s':Shared):Prop :=
 match f with
 | .next=>∃ax H',Inv X pins ax H' s'/\D.nx ax H'
 | .brk=>∃ax H',Inv X pins ax H' s'/\D.bk ax H'
 | .cont=>∃ax H',Inv X pins ax H' s'/\D.ct ax H'
 | .ret u=>∃v ax H',Inv X pins ax H' s'/\RelV v u/\D.rt v H'
noncomputable def PE(X:Cx)(e:Expr)(t:TE):Prop :=
 ∀(pins:List (Addr × Obj)) (s:Shared) (σ:St) (H:Hp) (Q:VK),Inv X pins σ H s->t σ H Q->wpAny (model X.prog X.w) X.A (eval e X.env) (EP X pins σ Q) X.xe s
noncomputable def PT(X:Cx)(e:Expr)(t:TT):Prop :=
 ∀(pins:List (Addr × Obj)) (s:Shared) (σ:St) (H:Hp) (Q:Bool->Hp->Prop),Inv X pins σ H s->t σ H Q->wpAny (model X.prog X.w) X.A (isTrue e X.env (eval e X.env)) (TP X pins σ Q) X.xe s
noncomputable def PW(X:Cx)(e:Expr)(t:TT):Prop :=
 ∀(whole:Sem Value) (pins:List (Addr × Obj)) (s:Shared) (σ:St) (H:Hp) (Q:Bool->Hp->Prop),Inv X pins σ H s->t σ H Q->wpAny (model X.prog X.w) X.A (isTrue e X.env whole) (TP X pins σ Q) X.xe s
theorem PW.pt{X:Cx}{e:Expr}{t:TT}(h:PW X e t):PT X e t:=h _
noncomputable def PA(X:Cx)(es:List Expr)(t:TA):Prop :=
 ∀(pos:Pos) (pins:List (Addr × Obj)) (s:Shared) (σ:St) (H:Hp) (Q:List V->Hp->Prop),Inv X pins σ H s->t σ H Q->wpAny (model X.prog X.w) X.A (spliced (backTo pos (starEach es X.env))) (AP X pins σ Q) X.xe s
noncomputable def PS(X:Cx)(st:Stmt)(t:TS):Prop :=
 ∀(pins:List (Addr × Obj)) (s:Shared) (σ:St) (H:Hp) (D:Ends),Inv X pins σ H s->t D σ H->wpAny (model X.prog X.w) X.A (exec st X.env) (SP X pins D) X.xe s
noncomputable def PSs(X:Cx)(st:List Stmt)(t:TS):Prop :=
 ∀(pins:List (Addr × Obj)) (s:Shared) (σ:St) (H:Hp) (D:Ends),Inv X pins σ H s->t D σ H->wpAny (model X.prog X.w) X.A (execs st X.env) (SP X pins D) X.xe s
theorem aO{α:Type}{t:Sem α}{Q Q':α->Shared->Prop}{M:Model}{A:Around}{E:Value->Shared->Prop}{s:Shared}(h:wpAny M A t Q E s)(hQ:∀a s,Q a s->Q' a s):wpAny M A t Q' E s:=wpAny_mono h hQ λ_ _ x=>x
end L2
namespace L2
open PySem PySem.Spec PyProof.Rows
section
variable{X:Cx}
noncomputable def Ma(i:Nat):TE:=λσ H Q=>∃v,σ[i]?=some (some v)/\Q v H
noncomputable def tC(v:V):TE:=λ_ H Q=>Q v H
theorem j5{i:Nat}{x:Str}{pos:Pos}(hN:X.N[i]?=some x)(hv:iB X.env.scope x)(hd:(x==("__debug__":Str))=false:=by decide)(b9:(x==("__classdict__":Str))=false:=by decide):PE X (.Name x pos) (Ma i):=by
 intro pins s σ H Q I h
 obtain⟨v,e,h⟩:=h
 obtain⟨m,hn,hl⟩:=I.loc
 obtain⟨u,r,l⟩:=hl i x v hN e hv
 have fin:EP X pins σ Q u s:=⟨v,H,I,r,h⟩
 rcases l with⟨hk,hm⟩ | ⟨hk,c,hc,Bh⟩
 ·exact wpAny_Name (wpAny_loadName_local I.ok.kind hk hn hm fin) hd
 ·rcases hk with hk | hk
  ·exact wpAny_Name (wpAny_loadName_cell I.ok.kind hk hc Bh fin) hd
  ·exact wpAny_Name (wpAny_loadName_free I.ok.kind hk hc Bh fin b9) hd
theorem tK{i j pos}:PE X (.Constant (.int i) j pos) (tC (.int i)):=λ_ _ _ H _ I h=>wpAny_Constant_int ⟨.int i,H,I.tok _,⟨_,rfl⟩,h⟩
theorem Wf{b j pos}:PE X (.Constant (.bool b) j pos) (tC (.bl b)):=λ_ _ _ H _ I h=>Constant_bool ⟨.bl b,H,I,rfl,h⟩
theorem Wg{j pos}:PE X (.Constant .none j pos) (tC .aq):=λ_ _ _ H _ I h=>Constant_none ⟨.aq,H,I,rfl,h⟩
theorem Mb{x j pos}:PE X (.Constant (.str x) j pos) (tC (.str x)):=λ_ _ _ H _ I h=>Calls.Constant_str ⟨.str x,H,I.tok _,⟨_,rfl⟩,h⟩
noncomputable def Gl(X:Cx)(x:Str):Prop:=X.env.kindOf x=some .globalImplicit
theorem qH{E:Value->Shared->Prop}{pins:List (Addr × Obj)}{s:Shared}{σ:St}{H:Hp}{x:Str}{u:Value}{pos:Pos}{Q:Value->Shared->Prop}(I:Inv X pins σ H s)(hg:Gl X x)(hm:X.mg x=some u)(h:Q u s)
  (hd:(x==("__debug__":Str))=false:=by decide):wpAny (model X.prog X.w) X.A (eval (.Name x pos) X.env) Q E s :=
 Vu I.ok.kind hg (Calls.loadGlobal_global (by rw[I.ok.glob];exact I.mod.glob.keeps I.bk) hm h) hd
theorem qI{E:Value->Shared->Prop}{pins:List (Addr × Obj)}{s:Shared}{σ:St}{H:Hp}{x:Str}{u:Value}{pos:Pos}{Q:Value->Shared->Prop}(I:Inv X pins σ H s)(hg:Gl X x)(hm:X.mg x=none)(hv:bootBuiltins x=some u)(h:Q u s)
  (hn:x≠"__name__":=by decide) (hd:(x==("__debug__":Str))=false:=by decide):wpAny (model X.prog X.w) X.A (eval (.Name x pos) X.env) Q E s:=by
 obtain⟨mb,h1,h2⟩:=I.mod.blt
 exact Vu I.ok.kind hg (Calls.loadGlobal_builtin (by rw[I.ok.glob];exact I.mod.glob.keeps I.bk) hm (by rw[I.ok.blt];exact h1.keeps I.bk) ((h2 x hn).trans hv) h) hd
theorem Wh{x:Str}{v:V}{u:Value}{pos:Pos}(hg:Gl X x)(hm:X.mg x=some u)(r:RelV v u)(hd:(x==("__debug__":Str))=false:=by decide):PE X (.Name x pos) (tC v) :=
 λ_ _ _ H _ I h=>qH I hg hm ⟨v,H,I,r,h⟩ hd
theorem Wi{x:Str}{v:V}{u:Value}{pos:Pos}(hg:Gl X x)(hm:X.mg x=none)(hv:bootBuiltins x=some u)(r:RelV v u)(hn:x≠"__name__":=by decide)(hd:(x==("__debug__":Str))=false:=by decide):PE X (.Name x pos) (tC v) :=
 λ_ _ _ H _ I h=>qI I hg hm hv ⟨v,H,I,r,h⟩ hn hd
variable{a b:Expr}{ta tb:TE}{pos:Pos}
noncomputable def tB(t:TE):TT:=λσ H Q=>t σ H λx H1=>∃c,x=.bl c/\Q c H1
theorem Bi{e:Expr}{t:TE}(h:PE X e t)(he:∀whole,isTrue e X.env whole=(do let v<-whole;standAt e.pos;holding [v] (truthy v)):=by intro _;rfl):PT X e (tB t):=by
 intro pins s σ H Q I hw
 refine isTrue_plain (aO (h pins s σ H _ I hw) λv s1 ⟨x,H1,I1,r1,q1⟩=>?_) (he _)
 obtain⟨d,rfl,q⟩:=q1
 cases r1
 exact wpAny_truthy_bool ⟨H1,I1,q⟩
variable{tA Mc:TT}{rest:List Expr}
noncomputable def Wj(t u:TT):TT:=λσ H Q=>t σ H λc H1=>if c=true then Q true H1 else u σ H1 Q
noncomputable def Wk(t:TT):TT:=λσ H Q=>t σ H λc H1=>Q (!c) H1
theorem Bj(ha:PT X a tA):PW X (.BoolOp .Or [a] pos) tA:=by
 intro wh pins s σ H Q I h
 refine isTrue_or (aO (ha pins s σ H Q I h) λc s1 e=>?_)
 cases c with
 | false=>exact isTrue_or_nil e
 | true=>exact e
theorem Wl(ha:PT X a tA)(hb:PW X (.BoolOp .Or (b::rest) pos) Mc):PW X (.BoolOp .Or (a::b::rest) pos) (Wj tA Mc):=by
 intro wh pins s σ H Q I h
 refine isTrue_or (aO (ha pins s σ H _ I h) λc s1 ⟨H1,I1,q1⟩=>?_)
 cases c with
 | true=>exact⟨H1,I1,q1⟩
 | false=>exact hb wh pins s1 σ H1 Q I1 q1
theorem Bk(ha:PT X a tA):PT X (.UnaryOp .Not a pos) (Wk tA):=by
 intro pins s σ H Q I h
 exact isTrue_not (ha pins s σ H (λc H1=>Q (!c) H1) I h)
noncomputable def Wm(ta tb:TE):TE:=λσ H Q=>ta σ H λx H1=>∃c,x=.bl c/\if c=true then tb σ H1 Q else Q (.bl false) H1
noncomputable def Wn(ta:TE):TE:=λσ H Q=>ta σ H λx H1=>∃c,x=.bl c/\Q (.bl (!c)) H1
theorem Bl{op}{t:TE}(h:PE X a t):PE X (.BoolOp op [a] pos) t:=λpins s σ H Q I hw=>BoolOp_one (h pins s σ H Q I hw)
theorem Wo(ha:PE X a ta)(hb:PE X (.BoolOp .And (b::rest) pos) tb):PE X (.BoolOp .And (a::b::rest) pos) (Wm ta tb):=by
 intro pins s σ H Q I h
 refine BoolOp_and (aO (ha pins s σ H _ I h) λv s1 ⟨x,H1,I1,r1,q1⟩=>?_)
 obtain⟨c,rfl,q1⟩:=q1
 cases r1
 refine wpAny_truthy_bool ?_
 cases c with
 | true=>exact hb pins s1 σ H1 Q I1 q1
 | false=>exact⟨.bl false,H1,I1,rfl,q1⟩
theorem Wq(ha:PE X a ta):PE X (.UnaryOp .Not a pos) (Wn ta):=by
 intro pins s σ H Q I h
 refine UnaryOp_ (aO (ha pins s σ H _ I h) λv s1 ⟨x,H1,I1,r1,q1⟩=>?_)
 obtain⟨c,rfl,q1⟩:=q1
 cases r1
 exact not_of (wpAny_truthy_bool ⟨.bl (!c),H1,I1,rfl,q1⟩)
noncomputable def Wr(t:TT)(ta tb:TE):TE:=λσ H Q=>t σ H λc H1=>if c=true then ta σ H1 Q else tb σ H1 Q
theorem Ws{c:Expr}(hc:PT X c tA)(ha:PE X a ta)(hb:PE X b tb):PE X (.IfExp c a b pos) (Wr tA ta tb):=by
 intro pins s σ H Q I h
 refine wpAny_IfExp (aO (hc pins s σ H _ I h) λd s1 ⟨H1,I1,q1⟩=>?_)
 cases d with
 | true=>exact ha pins s1 σ H1 Q I1 q1
 | false=>exact hb pins s1 σ H1 Q I1 q1
end
end L2
namespace L2
open PySem PySem.Spec PyProof.Rows
noncomputable def bw(K:PySem.W.Frag)(H:Hp)(a:Addr)(xs:List V):Prop :=
 Rd H a (.lst xs) \/
  ∃(o:Obj) (its:Array Value) (n:Nat),K.lookup a=some o/\o.cls=.type "list"/\o.dict=none/\o.data=.seq its n/\its.size<=sizeLine/\Vals xs its.toList
noncomputable def g9(K:PySem.W.Frag)(H:Hp)(a:Addr)(xs:List V):Prop :=
 Rd H a (.tup xs) \/
  ∃(o:Obj) (its:Array Value) (n:Nat),K.lookup a=some o/\o.cls=.type "tuple"/\o.data=.seq its n/\its.size<=sizeLine/\Vals xs its.toList
noncomputable def Wt:Value->Option V
 | .none=>some .aq
 | .bool b=>some (.bl b)
 | .int i _=>some (.int i)
 | .str x _=>some (.str x)
 | .bytes b _=>some (.Bc b)
 | .float b _=>some (.qD b)
 | .ref a=>some (.ref a)
 | .type n=>some (.ty n)
 | _=>none
theorem RelV.abs{x:V}{u:Value}(r:RelV x u):Wt u=some x:=by
 cases x with
 | aq=>cases r;rfl
 | bl _=>cases r;rfl
 | int _=>obtain⟨t,rfl⟩:=r;rfl
 | str _=>obtain⟨t,rfl⟩:=r;rfl
 | Bc _=>obtain⟨t,rfl⟩:=r;rfl
 | qD _=>obtain⟨t,rfl⟩:=r;rfl
 | ref _=>cases r;rfl
 | ty _=>cases r;rfl
theorem RelV.inj{x y:V}{u:Value}(r:RelV x u)(q:RelV y u):x=y:=dq (r.abs.symm.trans q.abs)
theorem Vals.inj:∀{xs ys:List V} {us:List Value},Vals xs us->Vals ys us->xs=ys
 | _,_,_,.nil,.nil=>rfl
 | _,_,_,.cons r t,.cons r' t'=>by rw[r.inj r',Vals.inj t t']
section
variable{X:Cx}{pins:List (Addr × Obj)}{σ:St}{H:Hp}{s:Shared}{a:Addr}{xs ys:List V}
theorem bw.of{K:PySem.W.Frag}(h:H a=some (.lst xs)):bw K H a xs:=.inl (.inl h)
theorem g9.of{K:PySem.W.Frag}(h:H a=some (.tup xs)):g9 K H a xs:=.inl (.inl h)
theorem Inv.list(I:Inv X pins σ H s)(h:bw X.K H a xs):∃its:List Value,Vals xs its/\PlainL s.heap a its.toArray/\xs.length<=sizeLine:=by
 rcases h with h | ⟨o,its,n,hk,hc,hd,hs,hz,r⟩
 ·obtain⟨z,its,n,r,e⟩:=h.ok I.aE
  exact⟨its,r,⟨_,n,e,rfl,rfl,rfl⟩,z⟩
 ·refine⟨its.toList,r,⟨o,n,I.cB a o hk,hc,hd,by simpa using hs⟩,?_⟩
  have e:=r.length
  simp only[wZ]at e
  omega
theorem Inv.tuple(I:Inv X pins σ H s)(h:g9 X.K H a xs):∃its:List Value,Vals xs its/\IsTup s.heap a its.toArray/\xs.length<=sizeLine:=by
 rcases h with h | ⟨o,its,n,hk,hc,hs,hz,r⟩
 ·obtain⟨z,its,r,p⟩:=h.ok I.aE
  exact⟨its,r,p,z⟩
 ·refine⟨its.toList,r,⟨o,I.cB a o hk,hc,n,by simpa using hs⟩,?_⟩
  have e:=r.length
  simp only[wZ]at e
  omega
theorem Inv.Bo(I:Inv X pins σ H s)(h:bw X.K H a xs)(h':bw X.K H a ys):xs=ys:=by
 obtain⟨its,r,⟨o,n,e,_,_,d⟩,_⟩:=I.list h
 obtain⟨its',r',⟨o',n',e',_,_,d'⟩,_⟩:=I.list h'
 rw[e]at e';cases e'
 rw[d]at d'
 injection d' with d1 _
 have:its=its':=by simpa using congrArg Array.toList d1
 subst this
 exact r.inj r'
end
noncomputable abbrev Cx.j6(X:Cx)(E:Value->Shared->Prop):Cx:={ X with xe:=E }
noncomputable abbrev Cx.fZ(X:Cx):Cx:=X.j6 λ_ _=>False
theorem Cx.Ok.j6{X:Cx}(ok:X.Ok)(E:Value->Shared->Prop):(X.j6 E).Ok :=
 ⟨ok.mod,ok.kind,ok.glob,ok.blt,ok.above,ok.inj,ok.has,ok.mS,ok.hd,ok.frames,ok.qF,ok.qG,ok.bs,ok.iX,ok.oI,ok.oJ,ok.fY,ok.iY⟩
theorem Cx.Ok.lU{X:Cx}{E:Value->Shared->Prop}(ok:(X.j6 E).Ok):X.Ok :=
 ⟨ok.mod,ok.kind,ok.glob,ok.blt,ok.above,ok.inj,ok.has,ok.mS,ok.hd,ok.frames,ok.qF,ok.qG,ok.bs,ok.iX,ok.oI,ok.oJ,ok.fY,ok.iY⟩
section
variable{X:Cx}{pins:List (Addr × Obj)}{σ:St}{H:Hp}{s:Shared}{E:Value->Shared->Prop}
theorem Inv.j6(I:Inv X pins σ H s)(E:Value->Shared->Prop):Inv (X.j6 E) pins σ H s:=⟨I.ok.j6 E,I.os,I.bare,I.base,I.loc,I.cell,I.free,I.fO,I.pin,I.aE,I.len⟩
theorem Inv.lU(I:Inv (X.j6 E) pins σ H s):Inv X pins σ H s:=⟨I.ok.lU,I.os,I.bare,I.base,I.loc,I.cell,I.free,I.fO,I.pin,I.aE,I.len⟩
theorem SP.lU{D:Ends}{f:Flow}{s':Shared}(h:SP (X.j6 E) pins D f s'):SP X pins D f s':=by
 cases f with
 | next=>obtain⟨ax,H',I,q⟩:=h;exact⟨ax,H',I.lU,q⟩
 | brk=>obtain⟨ax,H',I,q⟩:=h;exact⟨ax,H',I.lU,q⟩
 | cont=>obtain⟨ax,H',I,q⟩:=h;exact⟨ax,H',I.lU,q⟩
 | ret u=>obtain⟨v,ax,H',I,r,q⟩:=h;exact⟨v,ax,H',I.lU,r,q⟩
theorem PE.fZ{e:Expr}{t:TE}(h:PE X.fZ e t):PE X e t:=λpins s σ H Q I hw =>
 wpAny_mono (h pins s σ H Q (I.j6 _) hw) (λ_ _ ⟨v,H',I',r,q⟩=>⟨v,H',I'.lU,r,q⟩) λ_ _ z=>eW z
theorem PSs.fZ{st:List Stmt}{t:TS}(h:PSs X.fZ st t):PSs X st t:=λpins s σ H D I hw =>
 wpAny_mono (h pins s σ H D (I.j6 _) hw) (λ_ _ q=>q.lU) λ_ _ z=>eW z
end
section
variable{X:Cx}{st:Stmt}{rest:List Stmt}{t u:TS}{e:Expr}{te:TE}{pos:Pos}
noncomputable def Wu:TS:=λD σ H=>D.nx σ H
noncomputable def Wv(t u:TS):TS:=λD σ H=>t { D with nx:=u D } σ H
theorem tL:PSs X [] Wu:=λ_ _ σ H _ I h=>wpAny_execs_nil ⟨σ,H,I,h⟩
theorem fP(h1:PS X st t)(h2:PSs X rest u):PSs X (st::rest) (Wv t u):=by
 intro pins s σ H D I h
 refine wpAny_execs_cons (aO (h1 pins s σ H { D with nx:=u D } I h) λf s1 q=>?_)
 cases f with
 | next =>
  obtain⟨ax,H',I',q⟩:=q
  exact h2 pins s1 ax H' D I' q
 | ret v=>exact q
 | brk=>exact q
 | cont=>exact q
theorem kI(h1:PS X st t):PSs X [st] t:=by
 intro pins s σ H D I h
 refine wpAny_execs_cons (aO (h1 pins s σ H D I h) λf s1 q=>?_)
 cases f with
 | next=>exact wpAny_execs_nil q
 | ret v=>exact q
 | brk=>exact q
 | cont=>exact q
theorem Inv.quiet{pins:List (Addr × Obj)}{σ:St}{H:Hp}{s:Shared}(I:Inv X pins σ H s):interactive X.env=false:=by simp[interactive,I.ok.kind]
noncomputable def Ww(te:TE):TS:=λD σ H=>te σ H λ_ H1=>D.nx σ H1
theorem Bp(he:PE X e te)(hs:swapsWith e none pos.line X.env=pure false:=by rfl):PS X (.Expr e pos) (Ww te):=by
 intro pins s σ H D I h
 exact wpAny_Expr_any (aO (he pins s σ H _ I h) λv s1 ⟨x,H1,I1,r1,q1⟩=>⟨σ,H1,I1,q1⟩) I.quiet hs
noncomputable def Wx(te:TE):TS:=λD σ H=>te σ H D.rt
theorem Md(he:PE X e te):PS X (.Return (some e) pos) (Wx te):=by
 intro pins s σ H D I h
 exact wpAny_Return_some (aO (he pins s σ H _ I h) λv s1 ⟨x,H1,I1,r1,q1⟩=>⟨x,σ,H1,I1,r1,q1⟩)
noncomputable def Wy(c:TT)(t u:TS):TS:=λD σ H=>c σ H λb H1=>if b=true then t D σ H1 else u D σ H1
theorem xD{c:Expr}{a b:List Stmt}{tc:TT}(hc:PT X c tc)(ha:PSs X a t)(hb:PSs X b u):PS X (.If c a b pos) (Wy tc t u):=by
 intro pins s σ H D I h
 refine wpAny_If (aO (hc pins s σ H _ I h) λd s1 ⟨H1,I1,q1⟩=>?_)
 cases d with
 | true=>exact ha pins s1 σ H1 D I1 q1
 | false=>exact hb pins s1 σ H1 D I1 q1
noncomputable def Me:TS:=λ_ _ _=>False
theorem Bq:PS X st Me:=λ_ _ _ _ _ _ h=>h.elim
theorem Wz{oM:List Stmt}:PSs X oM Me:=λ_ _ _ _ _ _ h=>h.elim
end
noncomputable abbrev TG:=V->St->Hp->(St->Hp->Prop)->Prop
noncomputable abbrev qJ:=List V->St->Hp->(St->Hp->Prop)->Prop
noncomputable def PG(X:Cx)(target:Expr)(t:TG):Prop :=
 ∀(pins:List (Addr × Obj)) (s:Shared) (σ:St) (H:Hp) (v:V) (u:Value) (Q:St->Hp->Prop),Inv X pins σ H s->RelV v u->t v σ H Q ->
  wpAny (model X.prog X.w) X.A (assign target X.env u) (λ_ s'=>∃ax H',Inv X pins ax H' s'/\Q ax H') X.xe s
noncomputable def Br(X:Cx)(ts:List Expr)(t:qJ):Prop :=
 ∀(pins:List (Addr × Obj)) (s:Shared) (σ:St) (H:Hp) (vs:List V) (us:List Value) (Q:St->Hp->Prop),Inv X pins σ H s->Vals vs us->t vs σ H Q ->
  wpAny (model X.prog X.w) X.A (assignInOrder ((assignEach ts X.env).map (·.2)) us) (λ_ s'=>∃ax H',Inv X pins ax H' s'/\Q ax H') X.xe s
noncomputable abbrev ET:=V->V->V->Hp->(Hp->Prop)->Prop
noncomputable def Mg(X:Cx)(t:ET):Prop :=
 ∀(pins:List (Addr × Obj)) (s:Shared) (σ:St) (H:Hp) (o i v:V) (ov iv u:Value) (Q:Hp->Prop),Inv X pins σ H s->RelV o ov->RelV i iv->RelV v u->t o i v H Q ->
  wpAny (model X.prog X.w) X.A (setItem ov iv u) (λ_ s'=>∃H',Inv X pins σ H' s'/\Q H') X.xe s
noncomputable abbrev EU:=V->V->Hp->VK->Prop
noncomputable def WA(X:Cx)(op:Operator)(t:EU):Prop :=
 ∀(pins:List (Addr × Obj)) (s:Shared) (σ:St) (H:Hp) (x y:V) (v u:Value) (Q:VK),Inv X pins σ H s->RelV x v->RelV y u->t x y H Q ->
  wpAny (model X.prog X.w) X.A (inplaceOp op v u) (EP X pins σ Q) X.xe s
section
variable{X:Cx}{pos:Pos}
noncomputable def Bt(i:Nat):TG:=λv σ H Q=>Q (σ.set i (some v)) H
theorem xE{i:Nat}{x:Str}(hN:X.N.Nodup)(hi:X.N[i]?=some x)(hx:Loc X.env.scope x)(hf:X.fn x=true\/X.env.scope.names.lookup x=some .local:=by first | exact .inl rfl | exact .inr rfl | assumption):PG X (.Name x pos) (Bt i):=by
 intro pins s σ H v u Q I r h
 exact wpAny_assign_Name (Bg I hN hi hx r (λs' I'=>⟨_,H,I',h⟩) hf)
noncomputable def WB:qJ:=λvs σ H Q=>vs=[]/\Q σ H
noncomputable def WC(t:TG)(u:qJ):qJ:=λvs σ H Q=>∃v r,vs=v::r/\t v σ H λax H'=>u r ax H' Q
theorem WD:Br X [] WB:=by
 intro pins s σ H vs us Q I r h
 obtain⟨e,h⟩:=h
 subst e
 cases r
 exact assignInOrder_nil ⟨σ,H,I,h⟩
theorem Mh{e:Expr}{es:List Expr}{t:TG}{u:qJ}(h1:PG X e t)(h2:Br X es u)
  (hs:(assignEach (e::es) X.env).map (·.2)=assign e X.env::(assignEach es X.env).map (·.2):=by rfl):Br X (e::es) (WC t u):=by
 intro pins s σ H vs us Q I r h
 obtain⟨v,vr,e1,h⟩:=h
 subst e1
 cases r with
 | cons r rr =>
  rw[hs]
  refine assignInOrder_cons (aO (h1 pins s σ H _ _ _ I r h) λ_ s1 ⟨gJ,H1,I1,q1⟩=>?_)
  exact h2 pins s1 gJ H1 _ _ Q I1 rr q1
noncomputable def WE(K:PySem.W.Frag)(n:Nat)(t:qJ):TG:=λv σ H Q=>∃a xs,v=.ref a/\g9 K H a xs/\xs.length=n/\t xs σ H Q
theorem WG{es:List Expr}{k:Nat}{t:qJ}{n:Nat}(hc:X.calm=true)(h:Br X es t)
  (hn:(assignEach es X.env).length=n:=by rfl) (bZ:(assignEach es X.env).findIdx? (·.1)=none:=by rfl):PG X (.Tuple es k pos) (WE X.K n t):=by
 intro pins s σ H v u Q I r hw
 obtain⟨a,xs,e1,hq,hl,hw⟩:=hw
 subst e1
 cases r
 obtain⟨its,rv,ht,hz⟩:=I.tuple hq
 refine assign_Tuple_tuple (I.ok.hd hc) ht (by simp[hn,<- hl,rv.length]) bZ λh' hx=>?_
 have I1:Inv X pins σ H { s with heap:=h' }:=I.kept (t':=s.toks) λb o e=>hx b o (eB (bH e)) e
 exact h pins _ σ H xs _ Q I1 (by simpa using rv) hw
noncomputable def WH(to ti:TE)(t:ET):TG:=λv σ H Q=>to σ H λo H1=>ti σ H1 λi H2=>t o i v H2 λH3=>Q σ H3
theorem xF{o i:Expr}{to ti:TE}{t:ET}(ho:PE X o to)(hi:PE X i ti)(hs:Mg X t)
  (ha:∀v,assign (.Subscript o i pos) X.env v=(do
   let ov<-holding [v] (eval o X.env)
   let iv<-holding [v,ov] (eval i X.env)
   standAt pos
   holding [v,ov,iv] (setItem ov iv v)
   release [v,ov,iv] []):=by intro _;rfl):PG X (.Subscript o i pos) (WH to ti t):=by
 intro pins s σ H v u Q I r h
 rw[ha]
 refine wpAny_bind (wpAny_holding (aO (ho pins s σ H _ I h) λov s1 ⟨x,H1,I1,r1,q1⟩=>?_))
 refine wpAny_bind (wpAny_holding (aO (hi pins s1 σ H1 _ I1 q1) λiv s2 ⟨y,H2,I2,r2,q2⟩=>?_))
 refine wpAny_bind (wpAny_standAt (wpAny_bind (wpAny_holding (aO (hs pins s2 σ H2 x y v ov iv u _ I2 r1 r2 r q2) λ_ s3 ⟨H3,I3,q3⟩=>?_))))
 exact wpAny_release ⟨σ,H3,I3,q3⟩
noncomputable def EV(te:TE)(g:TG):TS:=λD σ H=>te σ H λx H1=>g x σ H1 D.nx
theorem xG{tg e:Expr}{te:TE}{g:TG}(he:PE X e te)(hg:PG X tg g)(hs:swapsWithSole [tg] e pos.line X.env=pure false:=by rfl)(hw:swappedStores [tg] e X.env=pure none:=by rfl)
  (h1:(assignEach [tg] X.env).map (·.2)=[assign tg X.env]:=by rfl):PS X (.Assign [tg] e pos) (EV te g):=by
 intro pins s σ H D I h
 refine wpAny_Assign_stores (aO (he pins s σ H _ I h) λv s1 ⟨x,H1,I1,r1,q1⟩=>?_) hs hw
 rw[h1]
 exact aO (hg pins s1 σ H1 x v _ I1 r1 q1) λ_ s2 q=>q
theorem Bu{i:Nat}{x:Str}{e:Expr}{te:TE}{pos':Pos}(hN:X.N.Nodup)(hi:X.N[i]?=some x)(hx:Loc X.env.scope x)(he:PE X e te)(hs:swapsWith e (some (.Name x pos')) pos.line X.env=pure false:=by rfl)(hf:X.fn x=true\/X.env.scope.names.lookup x=some .local:=by first | exact .inl rfl | exact .inr rfl | assumption) :
  PS X (.Assign [.Name x pos'] e pos) (EV te (Bt i)):=by
 intro pins s σ H D I h
 refine wpAny_Assign_Name (aO (he pins s σ H _ I h) λv s1 ⟨y,H1,I1,r1,q1⟩=>?_) hs
 exact Bg I1 hN hi hx r1 (λs2 I2=>⟨_,H1,I2,q1⟩) hf
noncomputable def WI(i:Nat)(te:TE)(ti:EU):TS:=λD σ H=>∃x,σ[i]?=some (some x)/\te σ H λy H1=>ti x y H1 λz H2=>D.nx (σ.set i (some z)) H2
theorem WJ{i:Nat}{x:Str}{e:Expr}{te:TE}{op:Operator}{ti:EU}{pos':Pos}(hN:X.N.Nodup)(hi:X.N[i]?=some x)(hx:Loc X.env.scope x)(he:PE X e te)(ho:WA X op ti)(hf:X.fn x=true\/X.env.scope.names.lookup x=some .local:=by first | exact .inl rfl | exact .inr rfl | assumption) :
  PS X (.AugAssign (.Name x pos') op e pos) (WI i te ti):=by
 intro pins s σ H D I h
 obtain⟨v,e1,h⟩:=h
 obtain⟨m,hn,hl⟩:=I.loc
 have WK:iB X.env.scope x:=by rcases hx with k | k;exact .inl k;exact .inr (.inl k)
 obtain⟨u,r,l⟩:=hl i x v hi e1 WK
 refine wpAny_AugAssign_Name ?_
 have go:wpAny (model X.prog X.w) X.A (eval e X.env) (λw jE=>wpAny (model X.prog X.w) X.A (inplaceOp op u w) (λr WL=>wpAny (model X.prog X.w) X.A (storeName X.env x r) (λ_=>SP X pins D .next) X.xe WL) X.xe jE) X.xe s:=by
  refine aO (he pins s σ H _ I h) λw s1 ⟨y,H1,I1,r1,q1⟩=>?_
  refine aO (ho pins s1 σ H1 v y u w _ I1 r r1 q1) λz s2 ⟨zv,H2,I2,r2,q2⟩=>?_
  exact Bg I2 hN hi hx r2 (λs3 I3=>⟨_,H2,I3,q2⟩) hf
 rcases l with⟨hk,hm⟩ | ⟨hk,c,hc,Bh⟩
 ·exact wpAny_loadName_local I.ok.kind hk hn hm go
 ·rcases hk with hk | hk
  ·exact wpAny_loadName_cell I.ok.kind hk hc Bh go
  ·rcases hx with k | k
   ·have:X.env.scope.names.lookup x=some .free:=hk
    rw[k]at this;cases this
   ·have:X.env.scope.names.lookup x=some .free:=hk
    rw[k]at this;cases this
end
section
variable{X:Cx}{pos:Pos}
noncomputable def WM(c:TT)(tb:TS):TS:=λD σ H=>∃W:Nat->St->Hp->Prop,(∃m,W m σ H)/\∀m σ H,W m σ H ->
 c σ H λb H1=>if b=true then ∃N:St->Hp->Prop,(∀ax H',N ax H'->∃m',m'<m/\W m' ax H')/\tb { D with nx:=N,ct:=N,bk:=D.nx } σ H1 else D.nx σ H1
theorem WN{c:Expr}{body:List Stmt}{tc:TT}{tb:TS}(hp:PassesOwn (model X.prog X.w) X.A X.env X.xe)(hc:PT X c tc)(hb:PSs X body tb):PS X (.While c body [] pos) (WM tc tb):=by
 intro pins s σ H D I h
 obtain⟨W,⟨m0,w0⟩,turn⟩:=h
 refine wpAny_While (codeAny_whileLoop (λn s'=>∃ax H',Inv X pins ax H' s'/\W n ax H') ?_ m0 ⟨σ,H,I,w0⟩)
 rintro n s1 ⟨gJ,H1,I1,w1⟩
 refine wpAny_passesOwn hp (aO (hc pins s1 gJ H1 _ I1 (turn n gJ H1 w1)) λb s2 ⟨H2,I2,q2⟩=>?_)
 cases b with
 | true =>
  obtain⟨N,hN,q2⟩:=q2
  rw[if_pos rfl]
  refine wpAny_passesOwn hp (aO (hb pins s2 gJ H2 _ I2 q2) λf s3 q3=>?_)
  cases f with
  | next =>
   obtain⟨kJ,H3,I3,n3⟩:=q3
   obtain⟨m',hm,w3⟩:=hN kJ H3 n3
   exact⟨m',hm,kJ,H3,I3,w3⟩
  | cont =>
   obtain⟨kJ,H3,I3,n3⟩:=q3
   obtain⟨m',hm,w3⟩:=hN kJ H3 n3
   exact⟨m',hm,kJ,H3,I3,w3⟩
  | brk=>exact q3
  | ret v=>exact q3
 | false =>
  rw[if_neg iP]
  exact wpAny_execs_nil ⟨gJ,H2,I2,q2⟩
end
structure It where
 go:Nat->Hp->Prop
 j7:Nat->Hp->V->Hp->Prop
 stop:Nat->Hp->Prop
noncomputable def i5(X:Cx)(pins:List (Addr × Obj))(H:Hp)(b:Addr):Prop :=
 H b=none/\b≠X.env.locals/\b ∉ X.fs/\(b∈X.ex\/X.cw.heap.objs.size<=b)/\(∀x c,X.env.cells.lookup x=some c->c≠b)/\∀p∈X.pn++pins,p.1≠b
theorem Inv.Bv{X:Cx}{pins:List (Addr × Obj)}{σ:St}{H H':Hp}{s:Shared}{b:Addr}(I:Inv X pins σ H s)(hb:s.heap.objs.size<=b)(hn:H' b=none):i5 X pins H' b:=by
 refine⟨hn,Le (cH I.lt hb),I.LZ hb,.inr (eK I.sz hb),λx c e z=>?_,λp hp z=>?_⟩
 ·obtain⟨v,q⟩:=I.cell x c e
  exact absurd (cH q.lt (by rw[z];exact hb)) (gA _)
 ·exact absurd (cH (bH (I.pin p hp).1) (by rw[z];exact hb)) (gA _)
structure Turn(P:Program)(w:World)(K:PySem.W.Frag)(tg:Expr)(J:It)(fp:List Addr)(it:Addr)(tn:Nat->Heap->Prop):Prop where
 mem:it∈fp
 obj:∀i h,tn i h->∀b∈fp,∃o,h.get? b=some o/\∀v,o.data≠.cell v
 keep:∀i h h',tn i h->(∀b∈fp,∀o,h.get? b=some o->h'.get? b=some o)->tn i h'
 item:∀(X:Cx),X.prog=P->X.w=w->X.K=K->X.calm=true->∀(i:Nat) (pins:List (Addr × Obj)) (s:Shared) (σ:St) (H:Hp) (E:Value->Shared->Prop),Inv X pins σ H s->(∀b∈fp,i5 X pins H b)->tn i s.heap->J.go i H ->
  wpAny (model P w) X.A (pyNext (.ref it)) (λr s1=>∃u,r=some u /\
   wpAny (model P w) X.A (letOwnedTupleGo tg (.ref it) u) (λ_ s2=>∃x H',Inv X pins σ H' s2/\RelV x u/\J.j7 i H x H'/\tn (i+1) s2.heap/\∀b∈fp,H' b=none) E s1) E s
 done:∀(X:Cx),X.prog=P->X.w=w->X.K=K->X.calm=true->∀(i:Nat) (pins:List (Addr × Obj)) (s:Shared) (σ:St) (H:Hp) (E:Value->Shared->Prop),Inv X pins σ H s->(∀b∈fp,i5 X pins H b)->tn i s.heap->J.stop i H ->
  wpAny (model P w) X.A (pyNext (.ref it)) (λr s1=>r=none/\Inv X pins σ H s1) E s
 self:∀(A:Around) (i:Nat) (s:Shared) (Q:Value->Shared->Prop) (E:Value->Shared->Prop),tn i s.heap->Q (.ref it) s->wpAny (model P w) A (pyIter (.ref it)) Q E s
noncomputable abbrev TI:=St->Hp->(It->Hp->Prop)->Prop
noncomputable def Mi(X:Cx)(pins:List (Addr × Obj))(σ:St)(tg:Expr)(R:It->Hp->Prop)(EW:Value)(s2:Shared):Prop :=
 ∃(it:Addr) (fp:List Addr) (tn:Nat->Heap->Prop) (J:It) (H':Hp),EW=.ref it/\Inv X pins σ H' s2/\Turn X.prog X.w X.K tg J fp it tn/\tn 0 s2.heap/\(∀b∈fp,i5 X pins H' b)/\R J H'
noncomputable def PI(X:Cx)(tg iter:Expr)(wi:TI):Prop :=
 ∀(pins:List (Addr × Obj)) (s:Shared) (σ:St) (H:Hp) (R:It->Hp->Prop),Inv X pins σ H s->wi σ H R ->
  wpAny (model X.prog X.w) X.A (eval iter X.env) (λv s1=>wpAny (model X.prog X.w) X.A (pyIter v) (Mi X pins σ tg R) X.xe s1) X.xe s
theorem Mj{M:Model}{A:Around}{E:Value->Shared->Prop}{s:Shared}{tg:Expr}{it:Addr}{u:Value}{o:Obj}{n:String}{vs:Array Value}{Q:Unit->Shared->Prop}(ho:s.heap.get? it=some o)(hc:o.cls=.type n)(hd:o.data=.fields vs)
  (hn:["enumerate","zip","dict_itemiterator","dict_reverseitemiterator","odict_iterator","itertools.zip_longest","itertools.pairwise"].contains n=false) (hQ:Q () s):wpAny M A (letOwnedTupleGo tg (.ref it) u) Q E s:=by
 unfold letOwnedTupleGo
 cases tg<;>first
  | exact wpAny_pure hQ
  | (cases u<;>first
    | exact wpAny_pure hQ
    | (refine wpAny_bind (wpAny_load ho ?_)
       rw[hc,hd]
       show wpAny M A (if(["enumerate","zip","dict_itemiterator","dict_reverseitemiterator","odict_iterator","itertools.zip_longest","itertools.pairwise"].contains n&&vs[0]?==some (rawInt _))=true then _ else _) Q E s
       rw[if_neg (by intro h;rw[hn,sT]at h;cases h)]
       exact wpAny_pure hQ))
noncomputable def EX(K:PySem.W.Frag)(a:Addr):It :=
 ⟨λi H=>∃xs x,bw K H a xs/\xs[i]?=some x,λi H x H'=>H'=H/\∀xs,bw K H a xs->xs[i]?=some x,λi H=>∃xs,bw K H a xs/\xs.length<=i⟩
noncomputable def xH(lo:Int)(n:Nat):It:=⟨λi _=>i<n,λi H x H'=>H'=H/\x=.int (lo+i),λi _=>n<=i⟩
theorem WO{P:Program}{w:World}{K:PySem.W.Frag}{tg:Expr}(a it:Addr):Turn P w K tg (EX K a) [it] it (λi h=>h.IsListIter it a i) where
 mem:=by simp
 obj:=λi h st b hb=>by
  have e:b=it:=by simpa using hb
  subst e
  obtain⟨o,e,c,d⟩:=st
  exact⟨o,e,λv z=>by rw[d]at z;cases z⟩
 keep:=λi h h' st k=>st.at λo e=>k it (by simp) o e
 item:=by
  intro X hP hw hK hc i pins s σ H E I hf st hg
  subst hP hw hK
  obtain⟨xs,x,hq,hx⟩:=hg
  obtain⟨its,rv,p,hz⟩:=I.list hq
  obtain⟨u,hu,ru⟩:=rv.get hx
  obtain⟨f0,f1,f2,f3,f4,f5⟩:=hf it (by simp)
  refine wpAny_pyNext_list_item st p.isList (x:=u) (by simpa using hu) λh' oN sb=>?_
  have I1:Inv X pins σ H { s with heap:=h' }:=I.turned (t':=s.toks) (λb o hb e=>(sb.2 b hb).trans e) f0 f1 f3 f4 f5
  obtain⟨o,e,c,d⟩:=id oN
  exact⟨u,rfl,Mj (s:={ s with heap:=h' }) e c d (by decide) ⟨x,H,I1,ru,⟨rfl,λys hy=>by rw[I.Bo hy hq];exact hx⟩,oN,λb hb=>(hf b hb).1⟩⟩
 done:=by
  intro X hP hw hK hc i pins s σ H E I hf st hg
  subst hP hw hK
  obtain⟨xs,hq,hx⟩:=hg
  obtain⟨its,rv,p,hz⟩:=I.list hq
  obtain⟨f0,f1,f2,f3,f4,f5⟩:=hf it (by simp)
  have hl:=rv.length
  exact wpAny_pyNext_list_end (I.ok.hd hc) st p.isList (by simp;omega) λh' eb=>⟨rfl,I.turned (t':=s.toks) (λb o hb e=>eb b o hb e) f0 f1 f3 f4 f5⟩
 self:=λ_ _ _ _ _ st h=>wpAny_pyIter_listiter st h
theorem WQ{P:Program}{w:World}{K:PySem.W.Frag}{tg:Expr}(it:Addr)(lo:Int)(n:Nat):Turn P w K tg (xH lo n) [it] it (λi h=>IsRangeIter h it (lo+(i:Nat)*1) ((n:Int)-(i:Nat)) 1) where
 mem:=by simp
 obj:=λi h st b hb=>by
  have e:b=it:=by simpa using hb
  subst e
  exact⟨_,st,λv z=>by
   have z':Data.fields _=Data.cell v:=z
   cases z'⟩
 keep:=λi h h' st k=>k it (by simp) _ st
 item:=by
  intro X hP hw hK hc i pins s σ H E I hf st hg
  subst hP hw hK
  obtain⟨f0,f1,f2,f3,f4,f5⟩:=hf it (by simp)
  have W:=Walks.range (prog:=X.prog) (w:=X.w) (I.ok.hd hc) it lo 1 n
  refine W.item i s _ _ hg st λv h' tk hv oN kk=>?_
  obtain⟨t,rfl⟩:=hv
  have I1:Inv X pins σ H { s with heap:=h',toks:=tk }:=I.turned (λb o hb e=>kk b o (by simpa using hb) e) f0 f1 f3 f4 f5
  refine⟨_,rfl,Mj (s:={ s with heap:=h',toks:=tk }) (n:="range_iterator") oN rfl rfl (by decide) ⟨.int (lo+i),H,I1,⟨t,?_⟩,⟨rfl,rfl⟩,oN,λb hb=>(hf b hb).1⟩⟩
  rw[Int.mul_one]
 done:=by
  intro X hP hw hK hc i pins s σ H E I hf st hg
  subst hP hw hK
  obtain⟨f0,f1,f2,f3,f4,f5⟩:=hf it (by simp)
  exact wpAny_pyNext_range_end (I.ok.hd hc) st (by have:n<=i:=hg;omega) λh' eb=>⟨rfl,I.turned (t':=s.toks) (λb o hb e=>eb b o hb e) f0 f1 f3 f4 f5⟩
 self:=λ_ _ _ _ _ st h=>wpAny_pyIter_rangeiter st h
end L2
namespace L2
open PySem PySem.Spec PyProof.Rows
section
variable{X:Cx}{tg:Expr}
noncomputable def WR(K:PySem.W.Frag)(tl:TE):TI:=λσ H R=>tl σ H λx H1=>∃a,x=.ref a/\(∃xs,bw K H1 a xs)/\R (EX K a) H1
theorem EY{l:Expr}{tl:TE}(hl:PE X l tl):PI X tg l (WR X.K tl):=by
 intro pins s σ H R I h
 refine aO (hl pins s σ H _ I h) λv s1 ⟨x,H1,I1,r1,q1⟩=>?_
 obtain⟨a,e,⟨xs,hq⟩,q⟩:=q1
 subst e
 cases r1
 obtain⟨its,rv,p,hz⟩:=I1.list hq
 refine wpAny_pyIter_list p.isList ?_
 refine⟨s1.heap.objs.size,[s1.heap.objs.size],_,_,H1,rfl,I1.kept (t':=s1.toks) λb o e=>fC _ e,WO a _,⟨_,gX _ rfl,rfl,rfl⟩,λb hb=>?_,q⟩
 have e:b=s1.heap.objs.size:=by simpa using hb
 subst e
 exact I1.Bv (bD _) (I1.aE.fresh (bD _))
theorem Ml{pins:List (Addr × Obj)}{σ:St}{H:Hp}{s:Shared}{R:It->Hp->Prop}{E:Value->Shared->Prop}{lo hi:Int}{t u v:Tok}{tk:Nat}(I:Inv X pins σ H s)(h1:-(2 ^ 62)<=lo)(h2:lo<2 ^ 62)(h3:-(2 ^ 62)<=hi)(h4:hi<2 ^ 62)
  (q:R (xH lo (hi-lo).toNat) H):wpAny (model X.prog X.w) X.A (pyIter (.ref s.heap.objs.size)) (Mi X pins σ tg R) E { s with heap:=s.heap.push { cls:=.type "range",data:=.fields #[.int lo t,.int hi u,.int 1 v] },toks:=tk }:=by
 refine wpAny_pyIter_range (IsRange.new ..) (small_one h1 h2 h3 h4) ?_
 have I1:Inv X pins σ H { s with heap:=s.heap.push { cls:=.type "range",data:=.fields #[.int lo t,.int hi u,.int 1 v] },toks:=tk }:=I.kept λb o e=>fC _ e
 refine⟨(s.heap.push { cls:=.type "range",data:=.fields #[.int lo t,.int hi u,.int 1 v] }).objs.size,[(s.heap.push { cls:=.type "range",data:=.fields #[.int lo t,.int hi u,.int 1 v] }).objs.size],_,_,H,rfl,
  I1.kept (t':=tk) λb o e=>fC _ e,WQ _ lo (hi-lo).toNat,?_,λb hb=>?_,q⟩
 ·have e1:lo+((0:Nat):Int)*1=lo:=by simp
  have e2:(((hi-lo).toNat:Nat):Int)-((0:Nat):Int)=Builtin.Range.rangeSize lo hi 1:=by rw[rangeSize_one];split<;>omega
  show IsRangeIter _ _ (lo+((0:Nat):Int)*1) ((((hi-lo).toNat:Nat):Int)-((0:Nat):Int)) 1
  rw[e1,e2]
  exact gX _ rfl
 ·have e:b=(s.heap.push { cls:=.type "range",data:=.fields #[.int lo t,.int hi u,.int 1 v] }).objs.size:=by simpa using hb
  subst e
  exact I1.Bv (bD _) (I1.aE.fresh (bD _))
noncomputable def WS(ta:TA):TI:=λσ H R=>ta σ H λvs H1=>∃j:Int,vs=[.int j]/\-(2 ^ 62)<=j/\j<2 ^ 62/\R (xH 0 j.toNat) H1
noncomputable def WT(ta:TA):TI:=λσ H R=>ta σ H λvs H1=>∃i j:Int,vs=[.int i,.int j]/\(-(2 ^ 62)<=i/\i<2 ^ 62/\-(2 ^ 62)<=j/\j<2 ^ 62)/\R (xH i (j-i).toNat) H1
theorem WU{a:Expr}{ta:TA}{p pos:Pos}(hg:Gl X "range")(hm:X.mg "range"=none)(ha:PA X [a] ta)(hs:starEach [a] X.env=[(false,eval a X.env)]:=by rfl):PI X tg (.Call (.Name "range" p) [a] [] pos) (WS ta):=by
 intro pins s σ H R I h
 refine Call_ (qI I hg hm boot_range (Az (aO (ha pos pins s σ H _ I h) λus s1 ⟨vs,H1,I1,r1,q1⟩=>?_) hs rfl))
 obtain⟨j,e,q1,q2,q⟩:=q1
 subst e
 cases r1 with
 | cons r rr =>
  cases rr
  obtain⟨t,rfl⟩:=r
  exact call_range_1 (Ml I1 (by omega) (by omega) q1 q2 (by simpa using q))
theorem WV{a b:Expr}{ta:TA}{p pos:Pos}(hg:Gl X "range")(hm:X.mg "range"=none)(ha:PA X [a,b] ta)(hs:starEach [a,b] X.env=[(false,eval a X.env),(false,eval b X.env)]:=by rfl)(eD:starEach [b] X.env=[(false,eval b X.env)]:=by rfl) :
  PI X tg (.Call (.Name "range" p) [a,b] [] pos) (WT ta):=by
 intro pins s σ H R I h
 refine Call_ (qI I hg hm boot_range (Az (aO (ha pos pins s σ H _ I h) λus s1 ⟨vs,H1,I1,r1,q1⟩=>?_) (by rw[hs,eD]) (by rw[eD];rfl)))
 obtain⟨i,j,e,⟨q1,q2,q3,q4⟩,q⟩:=q1
 subst e
 cases r1 with
 | cons r rr =>
  cases rr with
  | cons r' rr =>
   cases rr
   obtain⟨t,rfl⟩:=r
   obtain⟨t',rfl⟩:=r'
   exact call_range_2 (Ml I1 q1 q2 q3 q4 q)
noncomputable def WW(wi:TI)(g:TG)(tb:TS):TS:=λD σ H=>wi σ H λJ H1=>∃W:Nat->Nat->St->Hp->Prop,(∃m,W 0 m σ H1)/\∀i m σ H,W i m σ H ->
 (J.stop i H/\D.nx σ H)\/(J.go i H/\∃N:St->Hp->Prop,(∀ax H',N ax H'->∃m',m'<m/\W (i+1) m' ax H')/\∀x H',J.j7 i H x H'->g x σ H' λi6 H2=>tb { D with nx:=N,ct:=N,bk:=D.nx } i6 H2)
noncomputable def xI(fp:List Addr)(h:Heap):List (Addr × Obj):=fp.filterMap λb=>(h.get? b).map λo=>(b,o)
theorem Bw{fp:List Addr}{h:Heap}{b:Addr}{o:Obj}(hb:b∈fp)(e:h.get? b=some o):(b,o)∈xI fp h:=Vv.mpr ⟨b,hb,by rw[e];rfl⟩
theorem WX{fp:List Addr}{h:Heap}{p:Addr × Obj}(hp:p∈xI fp h):p.1∈fp/\h.get? p.1=some p.2:=by
 obtain⟨b,hb,e⟩:=Vv.mp hp
 cases q:h.get? b with
 | none=>rw[q]at e;cases e
 | some o =>
  rw[q]at e
  have e':(b,o)=p:=dq e
  subst e'
  exact⟨hb,q⟩
theorem Inv.pinned{pins:List (Addr × Obj)}{σ:St}{H:Hp}{s:Shared}{fp:List Addr}(I:Inv X pins σ H s)(hf:∀b∈fp,i5 X pins H b)(ho:∀b∈fp,∃o,s.heap.get? b=some o/\∀v,o.data≠.cell v):Inv X (pins++xI fp s.heap) σ H s :=
 I.L4 λp hp=>(bA.mp hp).elim (λz=>I.pin p (cI _ z)) λz=>by
  obtain⟨hb,e⟩:=WX z
  obtain⟨f0,f1,f2,_⟩:=hf p.1 hb
  obtain⟨o,e',d⟩:=ho p.1 hb
  rw[e]at e';cases e'
  exact⟨e,f0,f1,f2,d⟩
theorem Inv.xJ{pins pl:List (Addr × Obj)}{σ:St}{H:Hp}{s:Shared}(I:Inv X (pins++pl) σ H s):Inv X pins σ H s:=I.L4 λp hp=>I.pin p (cI _ (df _ hp))
theorem Mm{iter:Expr}{body:List Stmt}{wi:TI}{g:TG}{tb:TS}{pos:Pos}(hp:PassesOwn (model X.prog X.w) X.A X.env X.xe)(hc:X.calm=true)(hi:PI X tg iter wi)(hg:PG X tg g)(hb:PSs X body tb)
  (hs:∀x,foldedSetIterable iter X.env x=pure x:=by intro _;rfl):PS X (.For tg iter body [] pos) (WW wi g tb):=by
 intro pins s σ H D I h
 refine wpAny_For (aO (hi pins s σ H _ I h) λv s1 h1=>aO h1 λEW s2 h2=>?_) hs
 obtain⟨it,fp,tn,J,H2,e,I2,T,xK,f2,W,⟨m0,w0⟩,turn⟩:=h2
 subst e
 have EZ:∀{H':Hp},(∀b∈fp,H' b=none)->∀b∈fp,i5 X pins H' b:=λhn b hb=>⟨hn b hb,(f2 b hb).2⟩
 refine codeAny_forLoop_any (λn s'=>∃i ax H',Inv X pins ax H' s'/\tn i s'.heap/\(∀b∈fp,H' b=none)/\W i n ax H') ?_ m0 ⟨0,σ,H2,I2,xK,λb hb=>(f2 b hb).1,w0⟩
 rintro n s3 ⟨i,kJ,H3,I3,Mn,E1,w3⟩
 rcases turn i n kJ H3 w3 with⟨stop,qn⟩ | ⟨go,N,hN,step⟩
 ·refine wpAny_passesOwn hp (aO (T.done X rfl rfl rfl hc i pins s3 kJ H3 X.xe I3 (EZ E1) Mn stop) λr s4 ⟨hr,I4⟩=>?_)
  subst hr
  exact wpAny_execs_nil ⟨kJ,H3,I4,qn⟩
 ·refine wpAny_passesOwn hp (aO (T.item X rfl rfl rfl hc i pins s3 kJ H3 X.xe I3 (EZ E1) Mn go) λr s4 ⟨u,hr,h4⟩=>?_)
  subst hr
  refine wpAny_passesOwn hp (aO h4 λ_ s5 ⟨x,H5,I5,r5,y5,qK,xM⟩=>?_)
  have E2:=I5.pinned (EZ xM) (T.obj _ _ qK)
  refine wpAny_passesOwn hp (aO (hg _ s5 kJ H5 x u _ E2 r5 (step x H5 y5)) λ_ s6 ⟨Bz,H6,I6,q6⟩=>?_)
  refine wpAny_passesOwn hp (aO (hb _ s6 Bz H6 _ I6 q6) λf s7 q7=>?_)
  have again:∀{kK:St} {H7:Hp},Inv X (pins++xI fp s5.heap) kK H7 s7->N kK H7->∃m,m<n/\∃i ax H',Inv X pins ax H' s7/\tn i s7.heap/\(∀b∈fp,H' b=none)/\W i m ax H':=λ{kK H7} I7 n7=>by
   obtain⟨m',hm,w7⟩:=hN kK H7 n7
   refine⟨m',hm,i+1,kK,H7,I7.xJ,T.keep _ _ _ qK λb hb o e=>(I7.pin (b,o) (cI _ (cI _ (Bw hb e)))).1,λb hb=>?_,w7⟩
   obtain⟨o,e,d⟩:=T.obj _ _ qK b hb
   exact(I7.pin (b,o) (cI _ (cI _ (Bw hb e)))).2.1
  cases f with
  | next=>obtain⟨kK,H7,I7,n7⟩:=q7;exact again I7 n7
  | cont=>obtain⟨kK,H7,I7,n7⟩:=q7;exact again I7 n7
  | brk=>obtain⟨kK,H7,I7,q7⟩:=q7;exact⟨kK,H7,I7.xJ,q7⟩
  | ret v=>obtain⟨x7,kK,H7,I7,r7,q7⟩:=q7;exact⟨x7,kK,H7,I7.xJ,r7,q7⟩
end
end L2
namespace L2
open PySem PySem.Spec PyProof.Rows
noncomputable abbrev R2:=V->V->Hp->VK->Prop
noncomputable def cC(X:Cx)(f:Value->Value->Sem Value)(r:R2):Prop :=
 ∀(pins:List (Addr × Obj)) (s:Shared) (σ:St) (H:Hp) (x y:V) (v u:Value) (Q:VK),Inv X pins σ H s->RelV x v->RelV y u->r x y H Q ->
  wpAny (model X.prog X.w) X.A (f v u) (EP X pins σ Q) X.xe s
noncomputable def E3(X:Cx)(f:Value->Sem Value)(r:V->Hp->VK->Prop):Prop :=
 ∀(pins:List (Addr × Obj)) (s:Shared) (σ:St) (H:Hp) (x:V) (v:Value) (Q:VK),Inv X pins σ H s->RelV x v->r x H Q ->
  wpAny (model X.prog X.w) X.A (f v) (EP X pins σ Q) X.xe s
noncomputable def gE(X:Cx)(f:Value)(r:List V->Hp->VK->Prop):Prop :=
 ∀(pins:List (Addr × Obj)) (s:Shared) (σ:St) (H:Hp) (xs:List V) (us:List Value) (Q:VK),Inv X pins σ H s->Vals xs us->r xs H Q ->
  wpAny (model X.prog X.w) X.A (call f us) (EP X pins σ Q) X.xe s
noncomputable def xN(r:R2)(ta tb:TE):TE:=λσ H Q=>ta σ H λx H1=>tb σ H1 λy H2=>r x y H2 Q
noncomputable def WY(r:V->Hp->VK->Prop)(ta:TE):TE:=λσ H Q=>ta σ H λx H1=>r x H1 Q
noncomputable def rI(C:Int->Int->Prop)(g:Int->Int->V):R2:=λx y H Q=>∃i j,x=.int i/\y=.int j/\C i j/\Q (g i j) H
noncomputable def jF(g:Int->Int->V):R2:=λx y H Q=>∃i j,x=.int i/\y=.int j/\Q (g i j) H
noncomputable def rU(g:Int->V):V->Hp->VK->Prop:=λx H Q=>∃i,x=.int i/\Q (g i) H
section
variable{X:Cx}{a b c:Expr}{ta tb tc:TE}{pos:Pos}
theorem E4(ha:PE X a ta)(hb:PE X b tb){pins:List (Addr × Obj)}{s:Shared}{σ:St}{H:Hp}{R:V->V->Hp->Prop}(I:Inv X pins σ H s)
  (h:ta σ H λx H1=>tb σ H1 λy H2=>R x y H2) {Q:Value->Shared->Prop} {f:Value->Value->Sem Value}
  (hf:∀v u s2 x y H2,Inv X pins σ H2 s2->RelV x v->RelV y u->R x y H2->wpAny (model X.prog X.w) X.A (f v u) Q X.xe s2) :
  wpAny (model X.prog X.w) X.A (eval a X.env) (λv bz=>wpAny (model X.prog X.w) X.A (eval b X.env) (λu jE=>wpAny (model X.prog X.w) X.A (f v u) Q X.xe jE) X.xe bz) X.xe s:=by
 refine aO (ha pins s σ H _ I h) λv s1 ⟨x,H1,I1,r1,q1⟩=>?_
 refine aO (hb pins s1 σ H1 _ I1 q1) λu s2 ⟨y,H2,I2,r2,q2⟩=>?_
 exact hf v u s2 x y H2 I2 r1 r2 q2
theorem xO{op:Operator}{r:R2}(ho:cC X (binaryOp op) r)(ha:PE X a ta)(hb:PE X b tb):PE X (.BinOp a op b pos) (xN r ta tb):=by
 intro pins s σ H Q I h
 exact wpAny_BinOp (E4 ha hb I h λv u s2 x y H2 I2 rx ry q=>ho pins s2 σ H2 x y v u Q I2 rx ry q)
theorem WZ{op:UnaryOp}{r:V->Hp->VK->Prop}(ho:E3 X (unaryOp op) r)(ha:PE X a ta):PE X (.UnaryOp op a pos) (WY r ta):=by
 intro pins s σ H Q I h
 exact UnaryOp_ (aO (ha pins s σ H _ I h) λv s1 ⟨x,H1,I1,r1,q1⟩=>ho pins s1 σ H1 x v Q I1 r1 q1)
theorem tM{f:Value->Value->Sem Value}{C:Int->Int->Prop}{g:Int->Int->Int}
  (rule:∀(i j:Int) (t u:Tok) (s:Shared) (Q:Value->Shared->Prop) (E:Value->Shared->Prop),C i j->Q (.int (g i j) s.toks) { s with toks:=s.toks+1 }->wpAny (model X.prog X.w) X.A (f (.int i t) (.int j u)) Q E s) :
  cC X f (rI C λi j=>.int (g i j)):=by
 intro pins s σ H x y v u Q I rx ry h
 obtain⟨i,j,rfl,rfl,hc,q⟩:=h
 obtain⟨t,rfl⟩:=rx
 obtain⟨t',rfl⟩:=ry
 exact rule i j t t' s _ _ hc ⟨.int (g i j),H,I.tok _,⟨_,rfl⟩,q⟩
theorem tN{f:Value->Value->Sem Value}{g:Int->Int->Int}
  (rule:∀(i j:Int) (t u:Tok) (s:Shared) (Q:Value->Shared->Prop) (E:Value->Shared->Prop),Q (.int (g i j) s.toks) { s with toks:=s.toks+1 }->wpAny (model X.prog X.w) X.A (f (.int i t) (.int j u)) Q E s) :
  cC X f (jF λi j=>.int (g i j)):=by
 intro pins s σ H x y v u Q I rx ry h
 obtain⟨i,j,rfl,rfl,q⟩:=h
 obtain⟨t,rfl⟩:=rx
 obtain⟨t',rfl⟩:=ry
 exact rule i j t t' s _ _ ⟨.int (g i j),H,I.tok _,⟨_,rfl⟩,q⟩
theorem BA{f:Value->Value->Sem Value}{g:Int->Int->Bool}
  (rule:∀(i j:Int) (t u:Tok) (s:Shared) (Q:Value->Shared->Prop) (E:Value->Shared->Prop),Q (.bool (g i j)) s->wpAny (model X.prog X.w) X.A (f (.int i t) (.int j u)) Q E s) :
  cC X f (jF λi j=>.bl (g i j)):=by
 intro pins s σ H x y v u Q I rx ry h
 obtain⟨i,j,rfl,rfl,q⟩:=h
 obtain⟨t,rfl⟩:=rx
 obtain⟨t',rfl⟩:=ry
 exact rule i j t t' s _ _ ⟨.bl (g i j),H,I,rfl,q⟩
noncomputable def Mo(i j:Int):Prop:=0<=j/\j<=1000000/\i.natAbs<2 ^ 64
noncomputable def jG(i j:Int):Prop:=(-(2 ^ 64)<i/\i<2 ^ 64)\/(-(2 ^ 64)<j/\j<2 ^ 64)
theorem jG.ok{i j:Int}(h:jG i j):IntMulOk i j:=by
 rcases h with⟨h1,h2⟩ | ⟨h1,h2⟩
 ·exact .of_left (intBits_le_64 h1 h2)
 ·exact .of_right (intBits_le_64 h1 h2)
theorem W0(k:Nat):(0:Int)<=2 ^ k:=by
 rw[two_pow_cast]
 exact Lf _
theorem W2:cC X (binaryOp .Add) (jF λi j=>.int (i+j)):=tN λ_ _ _ _ _ _ _ q=>add_int q
theorem E5:cC X (binaryOp .Sub) (jF λi j=>.int (i-j)):=tN λ_ _ _ _ _ _ _ q=>sub_int q
theorem W3:cC X (binaryOp .Mod) (rI (λ_ j=>0<j) λi j=>.int (i%j)):=tM λi j _ _ _ _ _ hc q=>by
 have h1:(0:Int)<j:=hc
 exact mod_int' (by omega) (by rw[Int.fmod_eq_emod_of_nonneg i (by omega)];exact q)
theorem W4:cC X (binaryOp .Pow) (rI Mo λi j=>.int (i ^ j.toNat)):=tM λ_ _ _ _ _ _ _ hc q=>pow_int_small hc.1 hc.2.1 hc.2.2 q
theorem W5:cC X (binaryOp .RShift) (rI (λ_ j=>0<=j) λi j=>.int (i/2 ^ j.toNat)):=tM λi j _ _ _ _ _ hc q =>
 rshift_int hc (by rw[Vw i (W0 _)];exact q)
theorem W6:cC X (binaryOp .BitAnd) (jF λi j=>.int (oB i j)):=tN λ_ _ _ _ _ _ _ q=>and_int q
theorem W7:cC X (binaryOp .BitXor) (jF λi j=>.int (oE i j)):=tN λ_ _ _ _ _ _ _ q=>xor_int q
theorem W8:cC X (inplaceOp .Add) (jF λi j=>.int (i+j)):=tN λ_ _ _ _ _ _ _ q=>iadd_int q
theorem W9:cC X (inplaceOp .BitXor) (jF λi j=>.int (oE i j)):=tN λ_ _ _ _ _ _ _ q=>ixor_int q
theorem Xa{f:Value->Sem Value}{g:Int->Int}
  (rule:∀(i:Int) (t:Tok) (s:Shared) (Q:Value->Shared->Prop) (E:Value->Shared->Prop),Q (.int (g i) s.toks) { s with toks:=s.toks+1 }->wpAny (model X.prog X.w) X.A (f (.int i t)) Q E s) :
  E3 X f (rU λi=>.int (g i)):=by
 intro pins s σ H x v Q I rx h
 obtain⟨i,rfl,q⟩:=h
 obtain⟨t,rfl⟩:=rx
 exact rule i t s _ _ ⟨.int (g i),H,I.tok _,⟨_,rfl⟩,q⟩
theorem Xb:E3 X (unaryOp .USub) (rU λi=>.int (-i)):=Xa λ_ _ _ _ _ q=>neg_int q
end
section
variable{X:Cx}{a b c:Expr}{ta tb tc:TE}{pos:Pos}
theorem Xc{pins:List (Addr × Obj)}{σ:St}{H:Hp}{s:Shared}{Q:VK}{k k':Bool}(I:Inv X pins σ H s)(q:Q (.bl k) H)(e:k=k'):EP X pins σ Q (.bool k') s:=by
 subst e
 exact⟨.bl k,H,I,rfl,q⟩
theorem Xd:cC X (compareOp .Lt) (jF λi j=>.bl (decide (i<j))):=BA λ_ _ _ _ _ _ _ q=>lt_int q
theorem Xe:cC X (compareOp .LtE) (jF λi j=>.bl (decide (i<=j))):=BA λ_ _ _ _ _ _ _ q=>le_int q
theorem Xf:cC X (compareOp .Gt) (jF λi j=>.bl (decide (j<i))):=BA λ_ _ _ _ _ _ _ q=>gt_int q
theorem Xg:cC X (compareOp .GtE) (jF λi j=>.bl (decide (j<=i))):=BA λ_ _ _ _ _ _ _ q=>ge_int q
theorem Xh:cC X (compareOp .IsNot) (λx y H Q=>y=.aq/\Q (.bl (!decide (x=.aq))) H):=by
 intro pins s σ H x y v u Q I rx ry h
 obtain⟨rfl,q⟩:=h
 cases ry
 refine isnot_none_gen (Xc I q ?_)
 cases x<;>first
  | (cases rx;rfl)
  | (obtain⟨t,rfl⟩:=rx;rfl)
theorem cC.or{f:Value->Value->Sem Value}{r r':R2}(h:cC X f r)(h':cC X f r'):cC X f (λx y H Q=>r x y H Q\/r' x y H Q):=by
 intro pins s σ H x y v u Q I rx ry q
 rcases q with q | q
 ·exact h pins s σ H x y v u Q I rx ry q
 ·exact h' pins s σ H x y v u Q I rx ry q
theorem bE(b:Expr){op:CmpOp}(h:op≠.In:=by decide)(h2:op≠.NotIn:=by decide):behindInMarks op b=false:=by
 have e1:(op==CmpOp.In)=false:=by cases op<;>first | rfl | exact absurd rfl h
 have e2:(op==CmpOp.NotIn)=false:=by cases op<;>first | rfl | exact absurd rfl h2
 cases b<;>simp[behindInMarks,e1,e2]
theorem Xi{op:CmpOp}{r:R2}(ho:cC X (compareOp op) r)(ha:PE X a ta)(hb:PE X b tb)(hm:behindInMarks op b=false):PE X (.Compare a [op] [b] pos) (xN r ta tb):=by
 intro pins s σ H Q I h
 exact wpAny_Compare1 (E4 ha hb I h λv u s2 x y H2 I2 rx ry q=>ho pins s2 σ H2 x y v u Q I2 rx ry q) hm
noncomputable def Mp(t:TE):TT:=λσ H Q=>t σ H λx H'=>∃k,x=.bl k/\Q k H'
theorem Xj{op:CmpOp}{r:R2}(ho:cC X (compareOp op) r)(ha:PE X a ta)(hb:PE X b tb)(hm:behindInMarks op b=false):PT X (.Compare a [op] [b] pos) (Mp (xN r ta tb)):=by
 intro pins s σ H Q I h
 refine wpAny_isTrue_Compare1 (aO (ha pins s σ H _ I h) λv s1 ⟨x,H1,I1,r1,q1⟩=>aO (hb pins s1 σ H1 _ I1 q1) λu s2 ⟨y,H2,I2,r2,q2⟩ =>
  aO (ho pins s2 σ H2 x y v u _ I2 r1 r2 q2) λc s3 ⟨z,H3,I3,r3,k,e,q3⟩=>?_) hm
 subst e
 cases r3
 exact wpAny_truthy_bool ⟨H3,I3,q3⟩
noncomputable def Mq(r r':R2)(ta tb tc:TE):TE:=λσ H Q=>ta σ H λx H1=>tb σ H1 λy H2=>r x y H2 λz H3=>∃k,z=.bl k /\
 (if k=true then tc σ H3 λw' H4=>r' y w' H4 Q else Q (.bl false) H3)
theorem Xk{op qL:CmpOp}{r r':R2}(ho:cC X (compareOp op) r)(kH:cC X (compareOp qL) r')(ha:PE X a ta)(hb:PE X b tb)(hc:PE X c tc)
  (hm:lastMarks [op,qL] [b,c]=false:=by with_unfolding_all rfl):PE X (.Compare a [op,qL] [b,c] pos) (Mq r r' ta tb tc):=by
 intro pins s σ H Q I h
 refine Compare_chain (aO (ha pins s σ H _ I h) λv s1 ⟨x,H1,I1,r1,q1⟩=>chain_link (aO (hb pins s1 σ H1 _ I1 q1) λu s2 ⟨y,H2,I2,r2,q2⟩ =>
  aO (ho pins s2 σ H2 x y v u _ I2 r1 r2 q2) λd s3 ⟨z,H3,I3,r3,k,e,q3⟩=>?_)) hm
 subst e
 cases r3
 refine wpAny_truthy_bool ?_
 cases k with
 | false=>exact ite_ff ⟨.bl false,H3,I3,rfl,q3⟩
 | true=>exact ite_tt (chain_last (aO (hc pins s3 σ H3 _ I3 q3) λw' s4 ⟨z',H4,I4,r4,q4⟩=>kH pins s4 σ H4 y z' u w' Q I4 r2 r4 q4))
theorem tO:(sizeLine:Nat)<2 ^ 63:=by rw[sizeLine_eq];decide
theorem Xl:cC X (binaryOp .Add) (λx y H Q=>∃i j,x=.str i/\y=.str j/\i.length+j.length<=sizeLine/\Q (.str (i++j)) H):=by
 intro pins s σ H x y v u Q I rx ry h
 obtain⟨i,j,rfl,rfl,hz,q⟩:=h
 obtain⟨t,rfl⟩:=rx
 obtain⟨t',rfl⟩:=ry
 exact add_str (λt' tk=>⟨.str (i++j),H,I.tok _,⟨_,rfl⟩,q⟩) hz
theorem BB{x:V}{us:List Value}(r:Vals [x] us):∃u,us=[u]/\RelV x u:=by
 cases r with
 | cons r1 r2=>cases r2;exact⟨_,rfl,r1⟩
theorem Xm{x y:V}{us:List Value}(r:Vals [x,y] us):∃u w',us=[u,w']/\RelV x u/\RelV y w':=by
 cases r with
 | cons r1 r2 =>
  cases r2 with
  | cons r3 r4=>cases r4;exact⟨_,_,rfl,r1,r3⟩
theorem Xn(hc:X.calm=true):gE X (.builtin "min") (λxs H Q=>∃i j,xs=[.int i,.int j]/\Q (.int (if j<i then j else i)) H):=by
 intro pins s σ H xs us Q I r h
 obtain⟨i,j,rfl,q⟩:=h
 obtain⟨u,w',rfl,⟨t,rfl⟩,⟨t',rfl⟩⟩:=Xm r
 refine min_two_ints (I.ok.hd hc) λh' tk k=>⟨_,H,I.kept k,?_,q⟩
 by_cases hj:j<i
 ·rw[if_pos hj,if_pos hj];exact⟨_,rfl⟩
 ·rw[if_neg hj,if_neg hj];exact⟨_,rfl⟩
theorem Xo:gE X (.type "str") (λxs H Q=>∃i,xs=[.int i]/\i.natAbs.log2<1920/\Q (.str (toString i)) H):=by
 intro pins s σ H xs us Q I r h
 obtain⟨i,rfl,hz,q⟩:=h
 obtain⟨u,rfl,t,rfl⟩:=BB r
 exact PySem.P.str_of_int hz ⟨.str _,H,I.tok _,⟨_,rfl⟩,q⟩
end
end L2
namespace L2
open PySem PySem.Spec PyProof.Rows
structure qM(h:Heap)(x dx C:Addr)(mA:Str->Option Value):Prop where
 obj:h.get? x=some (PySem.W.instObj C dx)
 ns:h.Ns1 dx mA
 ne:dx≠x
theorem Xp{h:Heap}{dx:Addr}{mA:Str->Option Value}(n:h.Ns1 dx mA):∃od,h.get? dx=some od/\∀name,PySem.W.lookIn name od=some (mA name):=by
 obtain⟨o,es,ep,ho,hd,hk,_,hm⟩:=n
 refine⟨o,ho,λname=>?_⟩
 have e:=hm name
 unfold nsFind findBy at e
 rw[<-Array.find?_toList]at e
 unfold PySem.W.lookIn
 rw[hd]
 dsimp only
 split
 ·rename_i y q
  rw[q]at e
  exact congrArg some e
 ·rename_i q
  rw[q]at e
  have a:es.toList.any (·.refKey)=false:=by
   rw[List.any_eq_false]
   intro y hy
   obtain⟨z,t,Xq⟩:=hk y (Array.mem_toList_iff.mp hy)
   simp[DictEntry.refKey,Xq]
  have a':¬ es.toList.any (·.refKey)=true:=by rw[a];exact iP
  rw[if_neg a']
  exact congrArg some e
theorem qM.look{h:Heap}{x dx C:Addr}{mA:Str->Option Value}(I:qM h x dx C mA):∃od,PySem.W.InstAt h x (PySem.W.instObj C dx) C (some od)/\∀name,PySem.W.lookIn name od=some (mA name) :=
 let⟨od,ho,hl⟩:=Xp I.ns
 ⟨od,⟨I.obj,rfl,rfl,ho⟩,hl⟩
section
variable{prog:Program}{w:World}{A:Around}{E:Value->Shared->Prop}{s:Shared}{K:PySem.W.Frag}{x dx C f:Addr}{mA:Str->Option Value}{name:Str}{v:Value}
theorem Xr{expr:Bool}{Q:Value->Shared->Prop}(X:K.In s.heap)(I:qM s.heap x dx C mA)(hg:PySem.W.plainGet K C name=true)(hh:PySem.W.hasDictIn K C=true)
  (ha:PySem.W.findIn K (.ref C) name=some none) (hv:mA name=some v) (Xs:PySem.W.handedIn v=true) (h:Q v { s with toks:=s.toks+1 }) :
  wpAny (model prog w) A (getAttr (.ref x) name expr) Q E s:=by
 obtain⟨od,J,hl⟩:=I.look
 exact PySem.W.get_value X J (PySem.W.plainGet_of hg).1 (PySem.W.findObj_own hh ha rfl (by rw[hl,hv])) Xs h
theorem Xt{pl:Sem Bool}{Q:Value × List Value->Shared->Prop}(X:K.In s.heap)(I:qM s.heap x dx C mA)(hg:PySem.W.plainGet K C name=true)
  (hf:PySem.W.findIn K (.ref C) name=some (some (.ref f))) (ht:PySem.W.isFn K (.ref f)=true) (hv:mA name=none) (h:Q (.ref f,[.ref x]) s) :
  wpAny (model prog w) A (getMethod (.ref x) name pl) Q E s:=by
 obtain⟨od,J,hl⟩:=I.look
 exact PySem.W.method_fn X J (PySem.W.plainGet_of hg).1 (PySem.W.plainGet_of hg).2 hf (beq_iff_eq.mp ht) (by show(PySem.W.lookIn name od).map (·.isSome)=some false;rw[hl,hv];rfl) h
theorem Xu{ns:List Str}{Q:Unit->Shared->Prop}(X:K.In s.heap)(I:qM s.heap x dx C mA)
  (hs:PySem.W.findIn K (.ref C) "__setattr__"=some (some (.builtin "object.__setattr__"))) (hp:PySem.W.plainOver K C=true) (ht:PySem.W.takerIn K C name=some none) (hh:PySem.W.hasDictIn K C=true)
  (hw:PySem.Within mA ns) (lV:ns.length<=sizeLine)
  (h:∀h',qM h' x dx C (λy=>if y=name then some v else mA y)->Heap.SameBut dx s.heap h'->Q () { s with heap:=h',toks:=s.toks+2 }) :
  wpAny (model prog w) A (setAttr (.ref x) name v) Q E s:=by
 obtain⟨od,J,hl⟩:=I.look
 refine PySem.W.set_plain X J hs (PySem.W.osa_open (s:={ s with toks:=s.toks+1 }) (r:=none) X J hp ht λb=>?_)
 obtain⟨cd,hc,xw⟩:=PySem.W.any_some hh
 have hx:s.heap.get? x=some ⟨.ref C,some dx,.plain,#[]⟩:=I.obj
 refine wpAny_bind (wpAny_pure (wpAny_bind (wpAny_bind (wpAny_loadPart hx (wpAny_bind (PySem.W.Looks.here (s:={ s with toks:=s.toks+1 }) (PySem.W.looks_clsIn X hc) ?_))))))
 rw[xw]
 refine wpAny_pure (a:=some dx) (wpAny_bind (wpAny_pure (wpAny_bind ?_)))
 refine wpAny_nsSet1 (s:={ s with toks:=s.toks+1 }) I.ns λh' BC eD=>?_
 obtain⟨oD,esD,epD,Xv,Xw,mT⟩:=BC.count (PySem.Within.cons name v hw)
 refine wpAny_bind (wpAny_lookBehind Xv (by rw[Xw];exact pastItsLine_dict (eK mT (by rw[ix];omega))) ?_)
 exact wpAny_pure (h _ ⟨(eD.2 _ (dN I.ne)).trans I.obj,BC,I.ne⟩ eD)
theorem Mr{R:Result->Shared->Prop}{vs:List Value}{kw:List (Str × Value)}(X:K.In s.heap)(hm:PySem.W.makesIn K C=true)
  (hi:PySem.W.findIn K (.ref C) "__init__"=some (some (.ref f))) (hf:PySem.W.typeIn K (.ref f)=some (.type "function"))
  (h:codeAny (model prog w) (A.under (.builtin "type.__call__" ⟨.ref C::vs,kw⟩)) (.call (.ref f) ⟨.ref (s.heap.objs.size+1)::vs,kw⟩) (PySem.W.InitBack (s.heap.objs.size+1) R)
   { s with heap:=(s.heap.push PySem.W.emptyDict).push (PySem.W.instObj C s.heap.objs.size) }) :
  codeAny (model prog w) A (.call (.ref C) ⟨vs,kw⟩) R s:=by
 obtain⟨hh,g,d,t,os⟩:=s
 exact PySem.W.make_core (PySem.W.makes_of X hm) (PySem.W.looks_findIn X hi) (λself=>PySem.W.bind_fn X self hf) (.inl rfl) h
end
noncomputable def bK(f:Str)(v:V):List (Str × V)->List (Str × V)
 | []=>[(f,v)]
 | (g,x)::r=>if g=f then(g,v)::r else(g,x)::bK f v r
theorem Ms(f g:Str)(v:V):∀fs:List (Str × V),(bK f v fs).lookup g=if g=f then some v else fs.lookup g
 | []=>by
  show mI g [(f,v)]=_
  by_cases h:g=f
  ·have hb:(g==f)=true:=beq_iff_eq.mpr h
   simp only[mI,hb,if_pos h]
  ·have hb:(g==f)=false:=beq_eq_false_iff_ne.mpr h
   simp only[mI,hb,if_neg h]
 | (k,x)::r=>by
  have ih:=Ms f g v r
  rw[show bK f v ((k,x)::r)=(if k=f then(k,v)::r else(k,x)::bK f v r) from rfl]
  by_cases hk:k=f
  ·rw[if_pos hk]
   by_cases h:g=k
   ·have hb:(g==k)=true:=beq_iff_eq.mpr h
    simp only[mI,hb,if_pos (h.trans hk)]
   ·have hb:(g==k)=false:=beq_eq_false_iff_ne.mpr h
    simp only[mI,hb,if_neg (λe:g=f=>h (e.trans hk.symm))]
  ·rw[if_neg hk]
   by_cases h:g=k
   ·have hb:(g==k)=true:=beq_iff_eq.mpr h
    simp only[mI,hb,if_neg (λe:g=f=>hk (h.symm.trans e))]
   ·have hb:(g==k)=false:=beq_eq_false_iff_ne.mpr h
    simp only[mI,hb]
    exact ih
theorem E6(f:Str)(v:V):∀fs:List (Str × V),f∈(bK f v fs).map (·.1)/\∀g,g∈fs.map (·.1)->g∈(bK f v fs).map (·.1)
 | []=>⟨by simp[bK],λg h=>by simp at h⟩
 | (k,x)::r=>by
  obtain⟨i1,i2⟩:=E6 f v r
  rw[show bK f v ((k,x)::r)=(if k=f then(k,v)::r else(k,x)::bK f v r) from rfl]
  by_cases hk:k=f
  ·rw[if_pos hk]
   subst hk
   exact⟨by simp,λg h=>by simpa using h⟩
  ·rw[if_neg hk]
   refine⟨?_,λg h=>?_⟩
   ·rw[cN]
    exact gB _ i1
   ·rw[cN]at h ⊢
    rcases cq.mp h with e | e
    ·exact cq.mpr (.inl e)
    ·exact gB _ (i2 g e)
theorem Mt(f:Str)(v:V):∀fs:List (Str × V),(bK f v fs).length<=fs.length+1
 | []=>by simp[bK]
 | (k,x)::r=>by
  have ih:=Mt f v r
  rw[show bK f v ((k,x)::r)=(if k=f then(k,v)::r else(k,x)::bK f v r) from rfl]
  by_cases hk:k=f
  ·rw[if_pos hk,ix,ix];omega
  ·rw[if_neg hk,ix,ix];omega
theorem lM.some_of{v:V}{o:Option Value}(r:lM (some v) o):∃u,o=some u/\RelV v u:=by
 cases o with
 | none=>exact(show False from r).elim
 | some u=>exact⟨u,rfl,r⟩
theorem lM.none_of{o:Option Value}(r:lM none o):o=none:=by
 cases o with
 | none=>rfl
 | some u=>exact(show False from r).elim
theorem Xx{v:V}{u:Value}(r:RelV v u):PySem.W.handedIn u=true:=by
 cases v with
 | aq=>cases(show u=qm from r);rfl
 | bl b=>cases(show u=Eh b from r);rfl
 | int i=>obtain⟨t,e⟩:=(show ∃t,u=wX i t from r);cases e;rfl
 | str x=>obtain⟨t,e⟩:=(show ∃t,u=Value.str x t from r);cases e;rfl
 | Bc b=>obtain⟨t,e⟩:=(show ∃t,u=Value.bytes b t from r);cases e;rfl
 | qD b=>obtain⟨t,e⟩:=(show ∃t,u=Value.float b t from r);cases e;rfl
 | ref a=>cases(show u=cA a from r);rfl
 | ty n=>cases(show u=Value.type n from r);rfl
section
variable{P:Program}{w:World}{H H':Hp}{h h':Heap}{a C dx:Addr}{fs fs':List (Str × V)}
theorem BD(aE:cK P w H h)(e:H a=some (.ins C dx fs)):∃mA,qM h a dx C mA/\(∀f,lM (fs.lookup f) (mA f))/\PySem.Within mA (fs.map (·.1))/\fs.length<=1000/\H dx=some (.own a):=by
 obtain⟨d,z,ne,ob,mA,n,r,q⟩:=(show dQ P w H h a (.ins C dx fs) from aE a _ e)
 exact⟨mA,⟨ob,n,ne⟩,r,q,z,d⟩
end
structure cY(K:PySem.W.Frag)(C:Addr):Prop where
 pg:PySem.W.plainGet K C AA=true
 hd:PySem.W.hasDictIn K C=true
 po:PySem.W.plainOver K C=true
 sa:PySem.W.findIn K (.ref C) "__setattr__"=some (some (.builtin "object.__setattr__"))
theorem cY.get{K:PySem.W.Frag}{C:Addr}(c:cY K C)(f:Str):PySem.W.plainGet K C f=true:=c.pg
noncomputable def bt(K:PySem.W.Frag)(C:Addr)(f:Str):Prop:=PySem.W.findIn K (.ref C) f=some none
theorem bt.Xy{K:PySem.W.Frag}{C:Addr}{f:Str}(n:bt K C f):PySem.W.takerIn K C f=some none:=by
 unfold PySem.W.takerIn
 rw[show PySem.W.findIn K (.ref C) f=some none from n]
 rfl
structure Meth(K:PySem.W.Frag)(C:Addr)(m:Str)(f:Addr):Prop where
 at_:PySem.W.findIn K (.ref C) m=some (some (.ref f))
 fn:PySem.W.isFn K (.ref f)=true
 kp:PySem.W.keepIn K (.ref f)=true
section
variable{X:Cx}{pins:List (Addr × Obj)}{σ:St}{H:Hp}{s:Shared}{a C dx:Addr}{fs:List (Str × V)}{f:Str}{v:V}{A:Around}{E:Value->Shared->Prop}
theorem Xz{b:Bool}{Q:Value->Shared->Prop}(I:Inv X pins σ H s)(e:H a=some (.ins C dx fs))(c:cY X.K C)(n:bt X.K C f)(l:fs.lookup f=some v)
  (h:∀u s',Inv X pins σ H s'->RelV v u->Q u s'):wpAny (model X.prog X.w) A (getAttr (.ref a) f b) Q E s:=by
 obtain⟨mA,O,r,_,_,_⟩:=BD I.aE e
 obtain⟨u,hu,ru⟩:=lM.some_of (v:=v) (o:=mA f) (by rw[<-l];exact r f)
 exact Xr I.cB O (c.get f) c.hd n hu (Xx ru) (h u _ (I.tok _) ru)
theorem BE{m:Str}{g:Addr}{pl:Sem Bool}{Q:Value × List Value->Shared->Prop}(I:Inv X pins σ H s)(e:H a=some (.ins C dx fs))(c:cY X.K C)(k:Meth X.K C m g)(l:fs.lookup m=none)
  (h:Q (.ref g,[.ref a]) s):wpAny (model X.prog X.w) A (getMethod (.ref a) m pl) Q E s:=by
 obtain⟨mA,O,r,_,_,_⟩:=BD I.aE e
 have hn:mA m=none:=lM.none_of (by rw[<-l];exact r m)
 exact Xt I.cB O (c.get m) k.at_ k.fn hn h
theorem XA{y:V}{u:Value}{Q:Unit->Shared->Prop}(I:Inv X pins σ H s)(e:H a=some (.ins C dx fs))(c:cY X.K C)(n:bt X.K C f)(hl:fs.length<1000)(ry:RelV y u)
  (h:∀s',Inv X pins σ (upd H a (.ins C dx (bK f y fs))) s'->Q () s'):wpAny (model X.prog X.w) A (setAttr (.ref a) f u) Q E s:=by
 obtain⟨mA,O,r,wi,_,ho⟩:=BD I.aE e
 have hz:(fs.map (·.1)).length<=sizeLine:=by rw[aS,sizeLine_eq];omega
 refine Xu I.cB O c.sa c.po n.Xy c.hd wi hz λh' O' sb=>h _ ?_
 have hd:∃o,h'.get? dx=some o:=let⟨o,_,_,e',_⟩:=O'.ns;⟨o,e'⟩
 refine I.write (x:=a) (e:=dx) (by rw[e];exact sU) (.inr ho) (λb q hb z=>(sb.2 b hb).trans z) hd ?_
 refine⟨by rw[aL O.ne];exact ho,?_,O.ne,O'.obj,_,O'.ns,λg=>?_,λg hg=>?_⟩
 ·have:=Mt f y fs;omega
 ·show lM ((bK f y fs).lookup g) (if g=f then some u else mA g)
  rw[Ms]
  by_cases q:g=f
  ·rw[if_pos q,if_pos q];exact ry
  ·rw[if_neg q,if_neg q];exact r g
 ·by_cases q:g=f
  ·rw[q];exact(E6 f y fs).1
  ·refine(E6 f y fs).2 g (wi g λz=>hg ?_)
   show(if g=f then some u else mA g)=none
   rw[if_neg q];exact z
theorem Inv.made(I:Inv X pins σ H s):Inv X pins σ (upd (upd H s.heap.objs.size (.own (s.heap.objs.size+1))) (s.heap.objs.size+1) (.ins C s.heap.objs.size []))
  { s with heap:=(s.heap.push PySem.W.emptyDict).push (PySem.W.instObj C s.heap.objs.size) }:=by
 have e1:(s.heap.push PySem.W.emptyDict).get? s.heap.objs.size=some PySem.W.emptyDict:=gX s.heap rfl
 have e2:((s.heap.push PySem.W.emptyDict).push (PySem.W.instObj C s.heap.objs.size)).get? (s.heap.objs.size+1)=some (PySem.W.instObj C s.heap.objs.size):=by
  have:=gX (s.heap.push PySem.W.emptyDict) (o:=PySem.W.instObj C s.heap.objs.size) rfl
  rwa [w4]at this
 have e3:(s.heap.push PySem.W.emptyDict).Ns s.heap.objs.size (λ_=>none):=⟨PySem.W.emptyDict,#[],_,e1,rfl,(λe he=>absurd he (by simp)),λ_=>rfl⟩
 have I1:=I.laid (a:=s.heap.objs.size) (o:=.own (s.heap.objs.size+1)) (h':=s.heap.push PySem.W.emptyDict) (t':=s.toks) (λb u q=>fC _ q) (bD _) ⟨_,e1⟩
 refine I1.laid (a:=s.heap.objs.size+1) (o:=.ins C s.heap.objs.size []) (t':=s.toks) (λb u q=>fC _ q) (w5 (w4 _ _)) ?_
 have ne:s.heap.objs.size≠s.heap.objs.size+1:=eB (AB _)
 refine⟨by rw[aL ne,br],jX _,ne,e2,λ_=>none,(Heap.Ns1.of_empty e3).at λo q=>fC _ q,λ_=>sU,λy hy=>absurd rfl hy⟩
theorem XB{prog:Program}{w:World}{env:Env}{e:Expr}{f:Str}{pos:Pos}{s:Shared}{Q:Value->Shared->Prop}(hb:attributeBase e f env (eval e env)=eval e env)
  (h:wpAny (model prog w) A (eval e env) (λo bz=>wpAny (model prog w) A (getAttr o f true) Q E bz) E s):wpAny (model prog w) A (eval (.Attribute e f pos) env) Q E s :=
 Attribute_any_ h (by rw[arm_eval_Attribute,hb])
end
noncomputable def XC(K:PySem.W.Frag)(ta:TE)(f:Str):TE:=λσ H Q=>ta σ H λx H1=>∃a C dx fs v,x=.ref a/\H1 a=some (.ins C dx fs)/\cY K C/\bt K C f/\fs.lookup f=some v/\Q v H1
noncomputable def XD(K:PySem.W.Frag)(ta tv:TE)(f:Str):TS:=λD σ H=>tv σ H λy H1=>ta σ H1 λx H2=>∃a C dx fs,x=.ref a/\H2 a=some (.ins C dx fs)/\cY K C/\bt K C f/\fs.length<1000 /\
 D.nx σ (upd H2 a (.ins C dx (bK f y fs)))
section
variable{X:Cx}{o e value:Expr}{f:Str}{pos pos' qN:Pos}{ta tv:TE}
theorem qO(he:PE X e ta)(hb:attributeBase e f X.env (eval e X.env)=eval e X.env):PE X (.Attribute e f pos) (XC X.K ta f):=by
 intro pins s σ H Q I h
 refine XB hb (aO (he pins s σ H _ I h) λu s1 ⟨x,H1,I1,rx,a,C,dx,fs,v,ex,ea,c,n,l,q⟩=>?_)
 subst ex
 obtain rfl:u=cA a:=rx
 exact Xz I1 ea c n l λu' s2 I2 ru=>⟨v,H1,I2,ru,q⟩
theorem iC(ha:PE X o ta)(hv:PE X value tv)(hs:swapsWith value (some (.Attribute o f pos')) pos.line X.env=pure false):PS X (.Assign [.Attribute o f pos'] value pos) (XD X.K ta tv f):=by
 intro pins s σ H D I h
 refine plainObj_wpAny_Assign_Attribute (aO (hv pins s σ H _ I h) λu s1 ⟨y,H1,I1,ry,q⟩=>aO (ha pins s1 σ H1 _ I1 q) λov s2 ⟨x,H2,I2,rx,a,C,dx,fs,ex,ea,c,n,l,q2⟩=>?_) hs
 subst ex
 obtain rfl:ov=cA a:=rx
 exact XA I2 ea c n l ry λs3 I3=>⟨σ,_,I3,q2⟩
end
section
variable{X:Cx}{pins:List (Addr × Obj)}{σ:St}{H:Hp}{s:Shared}{A:Around}{E:Value->Shared->Prop}{Q:Value->Shared->Prop}{c:Value}{b:Bool}
inductive hJ(K:PySem.W.Frag)(H:Hp):V->Value->Prop where
 | aq:hJ K H .aq (.type "NoneType")
 | bl (x:Bool):hJ K H (.bl x) (.type "bool")
 | int (i:Int):hJ K H (.int i) (.type "int")
 | str (x:Str):hJ K H (.str x) (.type "str")
 | qD (x:UInt64):hJ K H (.qD x) (.type "float")
 | lst {a:Addr} {xs:List V} (e:H a=some (.lst xs)):hJ K H (.ref a) (.type "list")
 | bC {a:Addr} {o:Obj} {xs:List V} (e:H a=some (.bC o (.lst xs))):hJ K H (.ref a) (.type "list")
 | tup {a:Addr} {xs:List V} (e:H a=some (.tup xs)):hJ K H (.ref a) (.type "tuple")
 | dK {a:Addr} {dA:List (Key × V)} (e:H a=some (.dK dA)):hJ K H (.ref a) (.type "dict")
 | dT {a:Addr} {dA:List (List Key × V)} (e:H a=some (.dT dA)):hJ K H (.ref a) (.type "dict")
 | ins {a C dx:Addr} {fs:List (Str × V)} (e:H a=some (.ins C dx fs)) (cl:cY K C) (ha:PySem.W.findIn K (.ref C) "__class__"=some (some (.builtin "object.__class__")))
   (hn:PySem.W.specialIn K (.builtin "object.__class__") "__get__"=some (some (.builtin "getset_descriptor.__get__"))) (Mu:PySem.W.takesIn K (.builtin "object.__class__")=some true)
   (hm:PySem.W.mroIn K C (.type "object")=some true):hJ K H (.ref a) (.ref C)
theorem Mv{x:V}{u t:Value}(I:Inv X pins σ H s)(rx:RelV x u)(ty:hJ X.K H x t)(e:PySem.W.kitOne X.K t c=some b)(h:∀tk,Q (.bool b) { s with toks:=tk }) :
  wpAny (model X.prog X.w) A (call (.builtin "isinstance") [u,c]) Q E s:=by
 cases ty with
 | aq=>cases(show u=qm from rx);exact PySem.W.kia_one PySem.W.kitx_none I.cB sU e (λz=>nomatch z) h
 | bl y=>cases(show u=Eh y from rx);exact PySem.W.kia_one PySem.W.kitx_bool I.cB sU e (λz=>nomatch z) h
 | int i=>obtain⟨t,q⟩:=(show ∃t,u=wX i t from rx);cases q;exact PySem.W.kia_one PySem.W.kitx_int I.cB sU e (λz=>nomatch z) h
 | str y=>obtain⟨t,q⟩:=(show ∃t,u=Value.str y t from rx);cases q;exact PySem.W.kia_one PySem.W.kitx_str I.cB sU e (λz=>nomatch z) h
 | qD y=>obtain⟨t,q⟩:=(show ∃t,u=Value.float y t from rx);cases q;exact PySem.W.kia_one PySem.W.kitx_float I.cB sU e (λz=>nomatch z) h
 | @lst a xs ea =>
  cases(show u=cA a from rx)
  obtain⟨_,_,n,_,h1⟩:=(show dQ X.prog X.w H s.heap a (.lst xs) from I.aE a _ ea)
  exact PySem.W.kia_one PySem.W.kitx_list I.cB ⟨_,h1,rfl⟩ e (λz=>nomatch z) h
 | @bC a ob xs ea =>
  cases(show u=cA a from rx)
  obtain⟨_,_,_,n,_,h1⟩:=(show dQ X.prog X.w H s.heap a (.bC ob (.lst xs)) from I.aE a _ ea)
  exact PySem.W.kia_one PySem.W.kitx_list I.cB ⟨_,h1,rfl⟩ e (λz=>nomatch z) h
 | @tup a xs ea =>
  cases(show u=cA a from rx)
  obtain⟨_,_,_,p⟩:=(show dQ X.prog X.w H s.heap a (.tup xs) from I.aE a _ ea)
  obtain⟨o,h1,h2,_⟩:=p
  exact PySem.W.kia_one PySem.W.kitx_tuple I.cB ⟨o,h1,h2⟩ e (λz=>nomatch z) h
 | @dK a dA ea =>
  cases(show u=cA a from rx)
  obtain⟨_,_,vs,_,p⟩:=(show dQ X.prog X.w H s.heap a (.dK dA) from I.aE a _ ea)
  obtain⟨o,es,ep,h1,h2,_⟩:=p
  exact PySem.W.kia_one PySem.W.kitx_dict I.cB ⟨o,h1,h2.1⟩ e (λz=>nomatch z) h
 | @dT a dA ea =>
  cases(show u=cA a from rx)
  obtain⟨_,_,xs,_,o,es,ep,h1,h2,_⟩:=(show dQ X.prog X.w H s.heap a (.dT dA) from I.aE a _ ea)
  exact PySem.W.kia_one PySem.W.kitx_dict I.cB ⟨o,h1,h2.1⟩ e (λz=>nomatch z) h
 | @ins a C dx fs ea cl ha hn Mu hm =>
  cases(show u=cA a from rx)
  obtain⟨mA,O,_⟩:=BD I.aE ea
  obtain⟨od,J,_⟩:=O.look
  exact PySem.W.kia_one (PySem.W.kitx_own (cl.get _) cl.hd ha hn Mu hm) I.cB J e (λz=>nomatch z) h
end
end L2
namespace L2
open PySem PySem.Spec PyProof.Rows
structure bL(k:Nat)(A:Around):Prop where
 hd:A.handled=none
 dp:A.depth+3*k+5<recursionLimit
 un:A.units+16*k+200<cLine
theorem bL.mono{j k:Nat}{A:Around}(r:bL k A)(h:j<=k):bL j A:=⟨r.hd,by have:=r.dp;omega,by have:=r.un;omega⟩
theorem bL.deeper{k:Nat}{A:Around}(r:bL (k+1) A)(env:Env):bL k (A.deeper env) :=
 ⟨r.hd,by have:=r.dp;show A.depth+1+3*k+5<_;omega,by have:=r.un;show A.units+3+16*k+200<_;omega⟩
theorem XE{A:Around}{C:Addr}{us:List Value}{kw:List (Str × Value)}:(A.under (.builtin "type.__call__" ⟨.ref C::us,kw⟩)).depth=A.depth+1:=by
 first | rfl | simp[Around.under,Code.weight,Code.isCreation,Code.isGuard,Code.isCaller,Code.frames,Code.isFrame,guardIds]
theorem XF{A:Around}{C:Addr}{us:List Value}{kw:List (Str × Value)}:(A.under (.builtin "type.__call__" ⟨.ref C::us,kw⟩)).units=A.units+1:=by
 first | rfl | simp[Around.under,Code.cUnits,Code.frames,Code.isFrame]
theorem bL.make{k:Nat}{A:Around}(r:bL (k+1) A)(C:Addr)(us:List Value)(kw:List (Str × Value)):bL k (A.under (.builtin "type.__call__" ⟨.ref C::us,kw⟩)) :=
 ⟨r.hd,by have:=r.dp;rw[XE];omega,by have:=r.un;rw[XF];omega⟩
theorem bL.depth{k:Nat}{A:Around}(r:bL k A):A.depth<recursionLimit:=by have:=r.dp;omega
noncomputable def XG:TA:=λ_ H Q=>Q [] H
noncomputable def XH(ta:TE)(tr:TA):TA:=λσ H Q=>ta σ H λx H1=>tr σ H1 λxs H2=>Q (x::xs) H2
section
variable{X:Cx}{e:Expr}{es:List Expr}{te:TE}{t:TA}{pos:Pos}
theorem fo:PA X [] XG:=λ_ _ _ _ H Q I h=>Calls.spliced_nil ⟨[],H,I,.nil,h⟩
theorem cE(ha:PE X e te)(hr:PA X es t)(hs:starEach (e::es) X.env=(false,eval e X.env)::starEach es X.env:=by rfl):PA X (e::es) (XH te t):=by
 intro pos pins s σ H Q I h
 rw[hs]
 show wpAny _ _ (spliced ((false,eval e X.env)::backTo pos (starEach es X.env))) _ _ s
 refine Calls.spliced_cons (aO (ha pins s σ H _ I h) λu s1 ⟨x,H1,I1,r1,q1⟩=>?_)
 exact aO (hr pos pins s1 σ H1 _ I1 q1) λus s2 ⟨xs,H2,I2,r2,q2⟩=>⟨x::xs,H2,I2,.cons r1 r2,q2⟩
noncomputable def XI(t:TA):TE:=λσ H Q=>t σ H λxs H1=>xs.length<=sizeLine/\∀p,H1 p=none->Q (.ref p) (upd H1 p (.tup xs))
noncomputable def XJ(t:TA):TE:=λσ H Q=>t σ H λxs H1=>xs.length<=sizeLine/\∀p,H1 p=none->Q (.ref p) (upd H1 p (.lst xs))
theorem XM{x1}(h:PA X es t):PE X (.Tuple es x1 pos) (XI t):=by
 intro pins s σ H Q I hq
 refine wpAny_Tuple_spliced (aO (h pos pins s σ H _ I hq) λus s1 ⟨xs,H1,I1,r,z,q⟩=>⟨by rw[<-r.length];exact z,?_⟩)
 have hf:H1 s1.heap.objs.size=none:=I1.aE.fresh (bD _)
 refine⟨.ref s1.heap.objs.size,upd H1 s1.heap.objs.size (.tup xs),I1.laid (t':=s1.toks) (λb u e=>fC _ e) (bD _) ?_,rfl,q _ hf⟩
 exact⟨z,us,r,⟨_,gX _ rfl,rfl,_,rfl⟩⟩
theorem Mw(h:PA X es t):PE X (.List es pos) (XJ t):=by
 intro pins s σ H Q I hq
 refine wpAny_List_spliced (aO (h pos pins s σ H _ I hq) λus s1 ⟨xs,H1,I1,r,z,q⟩=>⟨by rw[<-r.length];exact z,?_⟩)
 have hf:H1 s1.heap.objs.size=none:=I1.aE.fresh (bD _)
 refine⟨.ref s1.heap.objs.size,upd H1 s1.heap.objs.size (.lst xs),I1.laid (t':=s1.toks) (λb u e=>fC _ e) (bD _) ?_,rfl,q _ hf⟩
 exact⟨z,us,0,r,gX _ rfl⟩
end
noncomputable abbrev Sp:=List V->Hp->VK->XK->Prop
noncomputable abbrev dR:=List Env->Hp->Shared->XK->Value->Shared->Prop
structure i7(P:Program)(w:World)(K:PySem.W.Frag)(mg:Str->Option Value)(base:Heap)(A:Around)(outer:List Env)(s:Shared)(H:Hp):Prop where
 frames:A.frames=some outer
 mod:Mod K mg base
 bs:∀b o,base.get? b=some o->s.heap.get? b=some o/\H b=none
 iX:base.objs.size<=s.heap.objs.size
 fY:s.heap.FunFrames base outer
 iY:∀b∈dB outer,H b=none
 aE:cK P w H s.heap
 bare:AllBare s.gens
noncomputable def CE(outer:List Env)(P:Program)(w:World)(H:Hp)(s:Shared)(Q:VK)(u:Value)(s':Shared):Prop :=
 ∃v H',s'.os=s.os/\AllBare s'.gens/\Un (dB outer) [] H H' s.heap s'.heap/\cK P w H' s'.heap/\RelV v u/\Q v H'
noncomputable def CR(CX:dR)(outer:List Env)(P:Program)(w:World)(H:Hp)(s:Shared)(Q:VK)(E:XK)(r:Result)(s':Shared):Prop :=
 match r with
 | .ok (.ret u)=>CE outer P w H s Q u s'
 | .ok _=>False
 | .error e=>CX outer H s E e s'
structure aM(P:Program)(w:World)(K:PySem.W.Frag)(mg:Str->Option Value)(base:Heap)(CX:dR)(k:Nat)(f:Addr)(fd:FuncData)(ps:List Str)(sp:Sp):Prop where
 len:∀vs H Q E,sp vs H Q E->vs.length=ps.length
 run:∀(A:Around) (outer:List Env) (s:Shared) (H:Hp) (args:Args) (us:List Value) (vs:List V) (Q:VK) (E:XK),bL k A->i7 P w K mg base A outer s H->BindsTo s fd args (ps.zip us)->Vals vs us->sp vs H Q E ->
  codeAny (model P w) A (.call (.ref f) args) (CR CX outer P w H s Q E) s
theorem aM.mono{P:Program}{w:World}{K:PySem.W.Frag}{mg:Str->Option Value}{base:Heap}{CX:dR}{j k:Nat}{f:Addr}{fd:FuncData}{ps:List Str}{sp:Sp}(F:aM P w K mg base CX j f fd ps sp)(h:j<=k) :
  aM P w K mg base CX k f fd ps sp:=⟨F.len,λA outer s H args us vs Q E hr=>F.run A outer s H args us vs Q E (hr.mono h)⟩
theorem aM.imp{P:Program}{w:World}{K:PySem.W.Frag}{mg:Str->Option Value}{base:Heap}{CX:dR}{k:Nat}{f:Addr}{fd:FuncData}{ps:List Str}{sp Mx:Sp}(F:aM P w K mg base CX k f fd ps sp)
  (h:∀vs H Q E,Mx vs H Q E->sp vs H Q E):aM P w K mg base CX k f fd ps Mx :=
 ⟨λvs H Q E q=>F.len vs H Q E (h _ _ _ _ q),λA outer s H args us vs Q E hr he hb hv hs=>F.run A outer s H args us vs Q E hr he hb hv (h _ _ _ _ hs)⟩
theorem i7.make{P:Program}{w:World}{K:PySem.W.Frag}{mg:Str->Option Value}{base:Heap}{A:Around}{outer:List Env}{s:Shared}{H:Hp}(e:i7 P w K mg base A outer s H)(C:Addr)(us:List Value)(kw:List (Str × Value)) :
  i7 P w K mg base (A.under (.builtin "type.__call__" ⟨.ref C::us,kw⟩)) outer s H:=⟨by first | exact e.frames | (simpa[Around.under,Code.envs,Code.isFrame,pushEnvs]using e.frames),e.mod,e.bs,e.iX,e.fY,e.iY,e.aE,e.bare⟩
section
variable{X:Cx}{pins:List (Addr × Obj)}{σ:St}{H:Hp}{s s':Shared}
theorem Inv.tP(I:Inv X pins σ H s):i7 X.prog X.w X.K X.mg X.base X.A X.stack s H :=
 ⟨I.ok.frames,I.ok.mod,I.bs,eK I.ok.iX I.sz,I.stack,I.Bf,I.aE,I.bare⟩
theorem Inv.after{Q:VK}{u:Value}(I:Inv X pins σ H s)(h:CE X.stack X.prog X.w H s Q u s'):EP X pins σ Q u s':=by
 obtain⟨v,H',os,bare,un,aE,r,q⟩:=h
 obtain⟨hh,g,d,t,XN⟩:=s'
 obtain rfl:XN=s.os:=os
 exact⟨v,H',I.call (h':=hh) (g':=g) (d':=d) (t':=t) (ch:=[]) un aE bare (λb z=>absurd z (by simp)),r,q⟩
end
noncomputable def XO(sp:Sp)(eY:List V)(E:XK)(t:TA):TE:=λσ H Q=>t σ H λvs H1=>sp (vs++eY) H1 Q E
noncomputable def XQ(C:Addr)(m:Str)(sp:Sp)(eY:List V)(E:XK)(ta:TE)(t:TA):TE:=λσ H Q=>ta σ H λx H1=>∃a dx fs,x=.ref a/\H1 a=some (.ins C dx fs)/\fs.lookup m=none /\
 t σ H1 λvs H2=>sp (x::(vs++eY)) H2 Q E
noncomputable def XR(C:Addr)(sp:Sp)(eY:List V)(E:XK)(t:TA):TE:=λσ H Q=>t σ H λvs H1=>∀x dx,H1 x=none->H1 dx=none->dx≠x ->
 sp (.ref x::(vs++eY)) (upd (upd H1 dx (.own x)) x (.ins C dx [])) (λv H2=>v=.aq/\Q (.ref x) H2) E
noncomputable def Binds(K:PySem.W.Frag)(fd:FuncData)(ps:List Str)(ds:List Value):Prop :=
 ∀(s:Shared) (us:List Value),K.In s.heap->(us++ds).length=ps.length->BindsTo s fd ⟨us,[]⟩ (ps.zip (us++ds))
theorem Binds.all{K:PySem.W.Frag}{fd:FuncData}{ps:List Str}(h:∀us:List Value,us.length=ps.length->bindArgs fd ⟨us,[]⟩=pure (ps.zip us)):Binds K fd ps []:=λs us _ hl=>by
 rw[fj]at hl ⊢
 exact .of_eq (h us hl)
noncomputable def i8(CX:dR)(X:Cx)(E:XK):Prop:=∀(pins:List (Addr × Obj)) (σ:St) (H:Hp) (s:Shared) (e:Value) (s':Shared),Inv X pins σ H s->CX X.stack H s E e s'->X.xe e s'
section
variable{X:Cx}{CX:dR}{k:Nat}{f C:Addr}{fd:FuncData}{ps:List Str}{sp:Sp}{eY:List V}{ds:List Value}{E:XK}{x m:Str}{p pos apos:Pos}{e o:Expr}{es:List Expr}{ta:TE}{t:TA}
theorem tQ{pins:List (Addr × Obj)}{σ:St}{H:Hp}{s:Shared}{Q:VK}{us:List Value}{vs:List V}(F:aM X.prog X.w X.K X.mg X.base CX k f fd ps sp)(hr:bL k X.A)(hb:Binds X.K fd ps ds)(hd:Vals eY ds)(hx:i8 CX X E)
  (I:Inv X pins σ H s) (r:Vals vs us) (h:sp (vs++eY) H Q E):wpAny (model X.prog X.w) X.A (call (.ref f) us) (EP X pins σ Q) X.xe s:=by
 have r2:Vals (vs++eY) (us++ds):=r.append hd
 have hl:(us++ds).length=ps.length:=by rw[<-r2.length];exact F.len _ _ _ _ h
 refine wpAny_call (codeAny_mono (F.run X.A X.stack s H ⟨us,[]⟩ (us++ds) (vs++eY) Q E hr I.tP (hb s us I.cB hl) r2 h) λr s' hq=>?_)
 cases r with
 | error e=>exact hx pins σ H s e s' I hq
 | ok fl =>
  cases fl with
  | ret u=>exact I.after hq
  | next=>exact eW hq
  | brk=>exact eW hq
  | cont=>exact eW hq
theorem iD(F:aM X.prog X.w X.K X.mg X.base CX k f fd ps sp)(hr:bL k X.A)(hg:Gl X x)(hm:X.mg x=some (.ref f))(hk:PySem.W.keepIn X.K (.ref f)=true)(hb:Binds X.K fd ps ds)(hd:Vals eY ds)(hx:i8 CX X E)
  (ha:PA X (e::es) t) (cF:(x==("__debug__":Str))=false:=by decide) (he:starEach (e::es) X.env=(false,eval e X.env)::starEach es X.env:=by rfl) (bj:(backTo pos (starEach es X.env)).any (·.1)=false:=by rfl) :
  PE X (.Call (.Name x p) (e::es) [] pos) (XO sp eY E t):=by
 intro pins s σ H Q I h
 refine wpAny_Call_Name_kw (qH I hg hm ?_ cF)
 refine PySem.W.callWith_K (h₀:=X.base) I.ok.mod.lQ hk (aO (ha pos pins s σ H _ I h) λus s1 ⟨vs,H1,I1,r,q⟩=>⟨I1.cB,?_⟩) he bj
 exact tQ F hr hb hd hx I1 r q
theorem XS{pl:Sem Bool}(he:PE X o ta)(c:cY X.K C)(hm:Meth X.K C m f)(F:aM X.prog X.w X.K X.mg X.base CX k f fd ps sp)(hr:bL k X.A)(hb:Binds X.K fd ps ds)(hd:Vals eY ds)(hx:i8 CX X E)(ha:PA X (e::es) t)
  (bZ:starEach (e::es) X.env=(false,eval e X.env)::starEach es X.env:=by rfl) (bj:(backTo pos (starEach es X.env)).any (·.1)=false:=by rfl)
  (ht:eval (.Call (.Attribute o m apos) (e::es) [] pos) X.env=(do
   let ov<-eval o X.env
   standAt apos.atName
   let (f,first)<-holding [ov] (getMethod ov m pl)
   callWith pos f first (backTo pos (starEach (e::es) X.env)) (backToKw pos (keywordEach [] X.env))):=by rfl) :
  PE X (.Call (.Attribute o m apos) (e::es) [] pos) (XQ C m sp eY E ta t):=by
 intro pins s σ H Q I h
 refine PySem.W.methodCall_KW (pl:=pl) (aO (he pins s σ H _ I h) λu s1 ⟨x,H1,I1,rx,a,dx,fs,ex,ea,l,q⟩=>?_) ht
 subst ex
 obtain rfl:u=cA a:=rx
 refine BE I1 ea c hm l ?_
 refine PySem.W.callWith_K (first:=[.ref a]) (h₀:=X.base) I.ok.mod.lQ hm.kp (aO (ha pos pins s1 σ H1 _ I1 q) λus s2 ⟨vs,H2,I2,r,q2⟩=>⟨I2.cB,?_⟩) bZ bj
 exact tQ (us:=.ref a::us) (vs:=.ref a::vs) F hr hb hd hx I2 (.cons rfl r) q2
structure Mk(K:PySem.W.Frag)(C f:Addr):Prop where
 makes:PySem.W.makesIn K C=true
 init:PySem.W.findIn K (.ref C) "__init__"=some (some (.ref f))
 fn:PySem.W.isFn K (.ref f)=true
 kp:PySem.W.keepIn K (.ref C)=true
theorem XT{pins:List (Addr × Obj)}{σ:St}{H:Hp}{s:Shared}{Q:VK}{us:List Value}{vs:List V}(M:Mk X.K C f)(F:aM X.prog X.w X.K X.mg X.base CX k f fd ps sp)(hr:bL (k+1) X.A)(hb:Binds X.K fd ps ds)(hd:Vals eY ds)
  (hx:i8 CX X E) (I:Inv X pins σ H s) (r:Vals vs us)
  (h:∀x dx,H x=none->H dx=none->dx≠x->sp (.ref x::(vs++eY)) (upd (upd H dx (.own x)) x (.ins C dx [])) (λv H2=>v=.aq/\Q (.ref x) H2) E) :
  wpAny (model X.prog X.w) X.A (call (.ref C) us) (EP X pins σ Q) X.xe s:=by
 have hq:=h (s.heap.objs.size+1) s.heap.objs.size (I.aE.fresh (Nat.le_succ _)) (I.aE.fresh (bD _)) (eB (AB _))
 have I2:=Inv.made (C:=C) I
 have r2:Vals (V.ref (s.heap.objs.size+1)::(vs++eY)) (cA (s.heap.objs.size+1)::(us++ds)):=.cons rfl (r.append hd)
 have hl:(cA (s.heap.objs.size+1)::us++ds).length=ps.length:=by
  have e:=r2.length
  rw[F.len _ _ _ _ hq]at e
  exact e.symm
 refine wpAny_call (Mr (f:=f) I.cB M.makes M.init (beq_iff_eq.mp M.fn) (codeAny_mono (F.run _ X.stack _ _ ⟨cA (s.heap.objs.size+1)::us,[]⟩ (cA (s.heap.objs.size+1)::(us++ds)) _ _ E (hr.make C us [])
  (I2.tP.make C us []) (hb _ (cA (s.heap.objs.size+1)::us) I2.cB hl) r2 hq) λr s' iE=>?_))
 cases r with
 | error e=>exact hx pins σ _ _ e s' I2 iE
 | ok fl =>
  cases fl with
  | ret u =>
   obtain⟨v,H',I3,rv,ev,q3⟩:=I2.after iE
   subst ev
   exact⟨rv,⟨V.ref (s.heap.objs.size+1),H',I3,rfl,q3⟩⟩
  | next=>exact eW iE
  | brk=>exact eW iE
  | cont=>exact eW iE
theorem Mz(M:Mk X.K C f)(F:aM X.prog X.w X.K X.mg X.base CX k f fd ps sp)(hr:bL (k+1) X.A)(hg:Gl X x)(hm:X.mg x=some (.ref C))(hb:Binds X.K fd ps ds)(hd:Vals eY ds)(hx:i8 CX X E)
  (ha:PA X (e::es) t) (cF:(x==("__debug__":Str))=false:=by decide) (he:starEach (e::es) X.env=(false,eval e X.env)::starEach es X.env:=by rfl) (bj:(backTo pos (starEach es X.env)).any (·.1)=false:=by rfl) :
  PE X (.Call (.Name x p) (e::es) [] pos) (XR C sp eY E t):=by
 intro pins s σ H Q I h
 refine wpAny_Call_Name_kw (qH I hg hm ?_ cF)
 refine PySem.W.callWith_K (h₀:=X.base) I.ok.mod.lQ M.kp (aO (ha pos pins s σ H _ I h) λus s1 ⟨vs,H1,I1,r,q⟩=>⟨I1.cB,?_⟩) he bj
 exact XT M F hr hb hd hx I1 r q
end
section
variable{X:Cx}{CX:dR}{k:Nat}{f C:Addr}{fd:FuncData}{ps ks:List Str}{sp:Sp}{E:XK}{x m:Str}{p pos apos dF0:Pos}{e o:Expr}{es:List Expr}{kws:List Keyword}{te ta:TE}{t tk:TA}{nm:Option Str}
variable{g:List Value->List Value->List Value}{gV:List V->List V->List V}
end
structure bf(N P:List Str)(sc:Scope):Prop where
 kind:sc.kind=.function
 co:sc.isCoroutine=false
 gen:sc.isGenerator=false
 nd:N.Nodup
 pre:N.take P.length=P
 par:∀x∈P,sc.names.lookup x=some .local\/sc.names.lookup x=some .cell
 XU:∀y∈sc.names,y.2≠.free
theorem MA{kindOf:Str->Option NameKind}{x:Str}:∀{binds:List (Str × Value)} {m:Str->Option Value},(∀v,(x,v) ∉ binds)->bindL kindOf binds m x=m x
 | [],_,_=>rfl
 | (n,v)::r,m,h=>by
  unfold bindL
  rw[MA λw hw=>h w (gB _ hw)]
  split
  ·have:x≠n:=by rintro rfl;exact h v jB
   simp[this]
  ·rfl
theorem MB{kindOf:Str->Option NameKind}{x:Str}:∀{binds:List (Str × Value)} {m:Str->Option Value},(∀v,(x,v) ∉ binds)->bindC kindOf binds m x=m x
 | [],_,_=>rfl
 | (n,v)::r,m,h=>by
  unfold bindC
  rw[MB λw hw=>h w (gB _ hw)]
  split
  ·rfl
  ·have:x≠n:=by rintro rfl;exact h v jB
   simp[this]
theorem MC{kindOf:Str->Option NameKind}{x:Str}{v:Value}:∀{P:List Str} {vs:List Value} {i:Nat} {m:Str->Option Value},P.Nodup->P[i]?=some x->vs[i]?=some v->kindOf x=some .local ->
  bindL kindOf (P.zip vs) m x=some v
 | [],_,_,_,_,h,_,_=>by simp at h
 | _::_,[],_,_,_,_,h,_=>by simp at h
 | p::P,w::vs,0,m,nd,h1,h2,hk=>by
  simp at h1 h2;subst h1;subst h2
  show bindL kindOf ((p,w)::P.zip vs) m p=_
  unfold bindL
  rw[MA λv hv=>(iQ.mp nd).1 (AD hv).1,if_pos hk]
  simp
 | p::P,w::vs,i+1,m,nd,h1,h2,hk=>by
  show bindL kindOf ((p,w)::P.zip vs) m x=_
  unfold bindL
  exact MC (i:=i) (iQ.mp nd).2 (by simpa using h1) (by simpa using h2) hk
theorem MD{kindOf:Str->Option NameKind}{x:Str}{v:Value}:∀{P:List Str} {vs:List Value} {i:Nat} {m:Str->Option Value},P.Nodup->P[i]?=some x->vs[i]?=some v->kindOf x≠some .local ->
  bindC kindOf (P.zip vs) m x=some v
 | [],_,_,_,_,h,_,_=>by simp at h
 | _::_,[],_,_,_,_,h,_=>by simp at h
 | p::P,w::vs,0,m,nd,h1,h2,hk=>by
  simp at h1 h2;subst h1;subst h2
  show bindC kindOf ((p,w)::P.zip vs) m p=_
  unfold bindC
  rw[MB λv hv=>(iQ.mp nd).1 (AD hv).1,if_neg hk]
  simp
 | p::P,w::vs,i+1,m,nd,h1,h2,hk=>by
  show bindC kindOf ((p,w)::P.zip vs) m x=_
  unfold bindC
  exact MD (i:=i) (iQ.mp nd).2 (by simpa using h1) (by simpa using h2) hk
noncomputable def start(N:List Str)(vs:List V):St:=vs.map some++bg (N.length-vs.length) none
noncomputable def hV(CX:dR)(P:Program)(w:World)(K:PySem.W.Frag)(mg:Str->Option Value)(base:Heap)(N:List Str)(qual:Str)(scope:Scope)(f:Addr)(cd:Value)(A:Around)(outer:List Env)(s:Shared)(H:Hp)(E:XK):Cx where
 prog:=P
 w:=w
 K:=K
 mg:=mg
 base:=base
 A:=A.deeper (envOfC qual scope s.heap.objs.size f cd)
 N:=N
 cw:=s
 j3:=H
 env:=envOfC qual scope s.heap.objs.size f cd
 outer:=outer
 stack:=envOfC qual scope s.heap.objs.size f cd::outer
 ex:=[]
 calm:=true
 fn:=λ_=>true
 pn:=[]
 xe:=λe s'=>wpAny (model P w) (A.deeper (envOfC qual scope s.heap.objs.size f cd)) (leaving (envOfC qual scope s.heap.objs.size f cd) e) (λ_ qP=>CX outer H s E e qP) (λe' qP=>CX outer H s E e' qP) s'
theorem ME{sc:Scope}{n:Nat}{x:Str}(h:sc.names.lookup x=some .cell):∃c,(cellsFrom n sc.names []).lookup x=some c:=by
 have q:=PySem.W.cellsFrom_some sc.names n [] (.inl h)
 exact AE.mp q
theorem XW{CX:dR}{P:Program}{w:World}{K:PySem.W.Frag}{mg:Str->Option Value}{base:Heap}{N ps:List Str}{qual:Str}{scope:Scope}{f:Addr}{cd:Value}{A:Around}{outer:List Env}{s s1:Shared}{H:Hp}{E:XK}{us:List Value}{vs:List V}
  (S:bf N ps scope) (hd:A.handled=none) (e0:i7 P w K mg base A outer s H) (hl:vs.length=ps.length) (r:Vals vs us)
  (x:InCallC s s.heap.objs.size (bindL (envOfC qual scope s.heap.objs.size f cd).kindOf (ps.zip us) λ_=>none) (cellsFrom (s.heap.objs.size+1) scope.names []) (bindC (envOfC qual scope s.heap.objs.size f cd).kindOf (ps.zip us) λ_=>none) s1) :
  Inv (hV CX P w K mg base N qual scope f cd A outer s H E) [] (start N vs) H s1:=by
 have bj:ps.length<=N.length:=by have:=congrArg Ei S.pre;rw[eC]at this;omega
 obtain⟨h1,tk,rfl,hk⟩:=x.done
 have xP:∀b:Addr,b ∉ (hV CX P w K mg base N qual scope f cd A outer s H E).ex:=λb z=>absurd (show b∈([]:List Addr) from z) (by simp)
 refine⟨⟨e0.mod,S.kind,rfl,rfl,bD _,λy z c h1 h2=>?_,λy hy=>?_,λy c _ h=>?_,λ_=>hd,Around.frames_deeper e0.frames,.inr ⟨rfl,rfl⟩,λb z=>absurd z (xP b),e0.bs,e0.iX,λb _ _=>xP b,λb z=>absurd z (xP b),e0.fY,e0.iY⟩,
  rfl,e0.bare,Un.kept hk,⟨_,x.toInCall.ns,λi y v h1 h2 h3=>?_⟩,λy c h=>⟨_,x.cell y c h⟩,e0.aE.fresh (bD _),λy c h=>?_,λp hp=>absurd (show p∈([]:List (Addr × Obj)) from hp) (by simp),e0.aE.kept hk,?_⟩
 ·exact name_of_addr x.apart (PySem.mem_of_lookup h1) (PySem.mem_of_lookup h2)
 ·have hy:scope.names.lookup y=some .cell\/scope.names.lookup y=some .free:=hy
  rcases hy with hy | hy
  ·exact ME hy
  ·exact absurd rfl (S.XU _ (PySem.mem_of_lookup hy))
 ·exact Av (x.above y c (PySem.mem_of_lookup h))
 ·have hi:i<vs.length:=by
   unfold start at h2
   by_cases hi:i<vs.length
   ·exact hi
   ·rw[qo (by simpa using hi)]at h2
    rw[Ej]at h2
    split at h2<;>cases h2
  have ha:vs[i]?=some v:=by
   unfold start at h2
   rw[w9 (by simpa using hi),cU]at h2
   cases e:vs[i]? with
   | none=>rw[e]at h2;cases h2
   | some a=>rw[e]at h2;cases h2;rfl
  obtain⟨u,hu,rv⟩:=r.get ha
  have hp:ps[i]?=some y:=by
   rw[<-S.pre,Vx (by omega)];exact h1
  have MF:ps.Nodup:=by rw[<-S.pre];exact S.nd.sublist (List.take_sublist _ _)
  refine⟨u,rv,?_⟩
  rcases S.par y (sV hp)with k | k
  ·exact .inl ⟨k,MC MF hp hu k⟩
  ·obtain⟨c,e⟩:=ME (n:=s.heap.objs.size+1) k
   refine .inr ⟨.inl k,c,e,?_⟩
   have q:=x.cell y c e
   rw[MD MF hp hu (by show scope.names.lookup y≠_;rw[k];decide)]at q
   exact q
 ·exact e0.aE.fresh (Av (x.above y c (PySem.mem_of_lookup h)))
 ·unfold start
  show _=N.length
  rw[eM,aS,xb]
  omega
theorem E7{CX:dR}{P:Program}{w:World}{K:PySem.W.Frag}{mg:Str->Option Value}{base:Heap}{k:Nat}{f:Addr}{name qual:Str}{params:Arguments}{body:List Stmt}{scope:Scope}{dV kV doc pm aG ct oc:Value}{an od:Option Addr}
  {lW:Array (Option Value)} {N ps:List Str} {sp:Sp} (lk:K.lookup f=some ⟨oc,od,.func (PySem.W.fnOf name qual params body scope dV kV doc pm an aG ct),lW⟩) (b9:PySem.W.codeIn K aG qual=true) (S:bf N ps scope)
  (len:∀vs H Q E,sp vs H Q E->vs.length=ps.length)
  (gK:∀(A:Around) (outer:List Env) (s:Shared) (H:Hp) (vs:List V) (Q:VK) (E:XK),bL k (A.deeper (envOfC qual scope s.heap.objs.size f aG))->sp vs H Q E ->
   ∃t,PSs (hV CX P w K mg base N qual scope f aG A outer s H E) body t/\t { nx:=λ_ H'=>Q .aq H',rt:=Q } (start N vs) H) :
  aM P w K mg base CX (k+1) f (PySem.W.fnOf name qual params body scope dV kV doc pm an aG ct) ps sp:=by
 refine⟨len,λA outer s H args us vs Q E hr e0 hb r i9=>?_⟩
 have hl:=len _ _ _ _ i9
 have KX:K.In s.heap:=e0.mod.lQ.keeps λb o e=>(e0.bs b o e).1
 have lim:s.heap.NoLimit:=e0.mod.nolimit.keeps λb o e=>(e0.bs b o e).1
 have jc:∀y∈ps.zip us,scope.names.lookup y.1=some .local\/(scope.names.lookup y.1=some .cell/\((cellsFrom (s.heap.objs.size+1) scope.names []).lookup y.1).isSome=true):=λ⟨n,v⟩ hy=>by
  rcases S.par n (AD hy).1 with q | q
  ·exact .inl q
  ·exact .inr ⟨q,PySem.W.cellsFrom_some _ _ _ (.inl q)⟩
 refine codeAny_call_function hr.depth (KX _ _ lk) rfl S.co S.gen rfl (PySem.W.codeRec_of KX b9) (hb _ _ _ _ ?_)
 refine wpAny_newFunctionEnv_cells S.kind jc λenv he s1 x=>?_
 subst he
 refine⟨lim.keeps x.toInCall.keep,codeAny_func ?_⟩
 obtain⟨t,ht,hq⟩:=gK A outer s H vs Q E (hr.deeper _) i9
 have I:Inv (hV CX P w K mg base N qual scope f aG A outer s H E) [] (start N vs) H s1:=XW S hr.hd e0 hl r x
 refine wpAny_mono (ht [] s1 (start N vs) H _ I hq) (λfl s' hs=>?_) λe s' hs=>hs
 have fin:∀{ax:St} {H':Hp} {v:V} {u:Value},Inv (hV CX P w K mg base N qual scope f aG A outer s H E) [] ax H' s'->RelV v u->Q v H'->CE outer P w H s Q u s' :=
  λ{ax H' v u} J rv q=>⟨v,H',J.os,J.bare,J.base,J.aE,rv,q⟩
 cases fl with
 | ret u =>
  obtain⟨v,ax,H',J,rv,q⟩:=hs
  exact fin J rv q
 | next =>
  obtain⟨ax,H',J,q⟩:=hs
  exact fin (v:=V.aq) (u:=qm) J rfl q
 | brk =>
  obtain⟨_,_,_,q⟩:=hs
  exact eW q
 | cont =>
  obtain⟨_,_,_,q⟩:=hs
  exact eW q
end L2
namespace L2
open PySem PySem.Spec PyProof.Rows
section
variable{X:Cx}{x:Str}{p pos:Pos}{e:Expr}{es:List Expr}{t:TA}{id T:String}{r:List V->Hp->VK->Prop}
noncomputable def E8(r:List V->Hp->VK->Prop)(t:TA):TE:=λσ H Q=>t σ H λvs H1=>r vs H1 Q
theorem BF(hc:gE X (.builtin id) r)(hg:Gl X x)(hm:X.mg x=none)(hv:bootBuiltins x=some (.builtin id))(ha:PA X (e::es) t)(hn:x≠"__name__":=by decide)(cF:(x==("__debug__":Str))=false:=by decide)
  (he:starEach (e::es) X.env=(false,eval e X.env)::starEach es X.env:=by rfl) (bj:(backTo pos (starEach es X.env)).any (·.1)=false:=by rfl):PE X (.Call (.Name x p) (e::es) [] pos) (E8 r t):=by
 intro pins s σ H Q I h
 refine wpAny_Call_Name_kw (qI I hg hm hv ?_ hn cF)
 exact PyProof.Rows.callWith_builtin1 (aO (ha pos pins s σ H _ I h) λus s1 ⟨vs,H1,I1,r1,q1⟩=>hc pins s1 σ H1 vs us Q I1 r1 q1) he bj
theorem XX(hc:gE X (.type T) r)(hg:Gl X x)(hm:X.mg x=none)(hv:bootBuiltins x=some (.type T))(ha:PA X (e::es) t)(hn:x≠"__name__":=by decide)(cF:(x==("__debug__":Str))=false:=by decide)
  (he:starEach (e::es) X.env=(false,eval e X.env)::starEach es X.env:=by rfl) (bj:(backTo pos (starEach es X.env)).any (·.1)=false:=by rfl):PE X (.Call (.Name x p) (e::es) [] pos) (E8 r t):=by
 intro pins s σ H Q I h
 refine wpAny_Call_Name_kw (qI I hg hm hv ?_ hn cF)
 exact Az (aO (ha pos pins s σ H _ I h) λus s1 ⟨vs,H1,I1,r1,q1⟩=>hc pins s1 σ H1 vs us Q I1 r1 q1) he bj
end
end L2
namespace HT
open PySem PyProof.Rows
section
open PySem.SeqAt
open PySem.AutoSeq1 (wpAny_loadPart')
open PySem.MeetsSeq PySem.MeetsSeq2 PySem.MeetsSeq3
end
section
variable{prog:Program}{w:World}{A:Around}{E:Value->Shared->Prop}{s:Shared}
noncomputable def cV(n d:Nat):Option Int->Nat
 | none=>d
 | some v=>if v<0 then(v+(n:Int)).toNat else min v.toNat n
theorem E9(n d k:Nat):cV n d (some (k:Int))=min k n:=by
 show(if(k:Int)<0 then((k:Int)+(n:Int)).toNat else min (k:Int).toNat n)=min k n
 rw[if_neg (by omega),gY]
end
end HT
namespace L2
open PySem PySem.Spec PyProof.Rows
noncomputable abbrev TO:=St->Hp->(Option Int->Hp->Prop)->Prop
noncomputable def PO(X:Cx)(e:Option Expr)(t:TO):Prop :=
 ∀(pins:List (Addr × Obj)) (s:Shared) (σ:St) (H:Hp) (Q:Option Int->Hp->Prop),Inv X pins σ H s->t σ H Q ->
  wpAny (model X.prog X.w) X.A (evalPart e X.env) (λu s'=>∃o H',Inv X pins σ H' s'/\IsPart u o/\Q o H') X.xe s
noncomputable def XY:TO:=λ_ H Q=>Q none H
noncomputable def XZ(t:TE):TO:=λσ H Q=>t σ H λx H1=>∃i,x=.int i/\Q (some i) H1
section
variable{X:Cx}{e:Expr}{te:TE}{lo hi:Option Expr}{tl th:TO}{pos p2:Pos}
theorem X0:PO X none XY:=by
 intro pins s σ H Q I h
 rw[evalPart_none]
 exact wpAny_pure ⟨none,H,I,.none,h⟩
theorem X5(h:PE X e te):PO X (some e) (XZ te):=by
 intro pins s σ H Q I hw
 rw[evalPart_some]
 refine aO (h pins s σ H _ I hw) λu s1 ⟨x,H1,I1,r1,q1⟩=>?_
 obtain⟨i,rfl,q⟩:=q1
 obtain⟨t,rfl⟩:=r1
 exact⟨some i,H1,I1,.int i t,q⟩
noncomputable def qQ(X:Cx)(r:V->Option Int->Option Int->Hp->VK->Prop):Prop :=
 ∀(pins:List (Addr × Obj)) (s:Shared) (σ:St) (H:Hp) (x:V) (v vl vu:Value) (lo hi:Option Int) (sl:Addr) (Q:VK),Inv X pins σ H s->RelV x v->s.heap.IsSliceOf sl vl vu .none->IsPart vl lo->IsPart vu hi->r x lo hi H Q ->
  ∃T id,typeLookup (.type T) "__getitem__"=pure (some (.builtin id))/\s.TypeIs v T/\wpAny (model X.prog X.w) X.A (getItem v (.ref sl)) (EP X pins σ Q) X.xe s
theorem qQ.or{r r':V->Option Int->Option Int->Hp->VK->Prop}(h:qQ X r)(h':qQ X r'):qQ X (λx lo hi H Q=>r x lo hi H Q\/r' x lo hi H Q):=by
 intro pins s σ H x v vl vu lo hi sl Q I rx hs pl pu q
 rcases q with q | q
 ·exact h pins s σ H x v vl vu lo hi sl Q I rx hs pl pu q
 ·exact h' pins s σ H x v vl vu lo hi sl Q I rx hs pl pu q
noncomputable def X6(r:V->Option Int->Option Int->Hp->VK->Prop)(te:TE)(tl th:TO):TE:=λσ H Q=>te σ H λx H1=>tl σ H1 λl H2=>th σ H2 λu H3=>r x l u H3 Q
theorem X7{r:V->Option Int->Option Int->Hp->VK->Prop}(hr:qQ X r)(he:PE X e te)(hl:PO X lo tl)(hu:PO X hi th):PE X (.Subscript e (.Slice lo hi none p2) pos) (X6 r te tl th):=by
 intro pins s σ H Q I h
 refine Subscript_ (aO (he pins s σ H _ I h) λv s1 ⟨x,H1,I1,r1,q1⟩=>?_)
 refine wpAny_Slice (aO (hl pins s1 σ H1 _ I1 q1) λvl s2 ⟨l,H2,I2,pl,q2⟩=>aO (hu pins s2 σ H2 _ I2 q2) λvu s3 ⟨u,H3,I3,pu,q3⟩=>?_)
 rw[evalPart_none]
 refine wpAny_pure ?_
 have I4:Inv X pins σ H3 { s3 with heap:=s3.heap.push { cls:=.type "slice",data:=.fields #[vl,vu,.none] } }:=I3.kept (t':=s3.toks) λb ob q=>fC _ q
 obtain⟨T,id,hT,ht,hg⟩:=hr pins { s3 with heap:=s3.heap.push { cls:=.type "slice",data:=.fields #[vl,vu,.none] } } σ H3 x v vl vu l u s3.heap.objs.size Q I4 r1 (Heap.IsSliceOf.new ..) pl pu q3
 show wpAny (model X.prog X.w) X.A (subscriptTail e (.Slice lo hi none p2) v (.ref s3.heap.objs.size)) (EP X pins σ Q) X.xe { s3 with heap:=s3.heap.push { cls:=.type "slice",data:=.fields #[vl,vu,.none] } }
 exact tail_any (ops:=[.ref s3.heap.objs.size,v]) ht hT hg (by with_unfolding_all rfl)
noncomputable def tR(xs:List V)(lo hi:Option Int):List V:=(xs.drop (HT.cV xs.length 0 lo)).take (HT.cV xs.length xs.length hi-HT.cV xs.length 0 lo)
theorem X8(xs:List V)(lo hi:Option Int):(tR xs lo hi).length<=xs.length:=by
 unfold tR
 rw[eC,iS]
 omega
end
end L2
namespace L2
open PySem PySem.Spec PyProof.Rows
noncomputable def gL(n:Nat)(i:Int):Option Nat:=if 0<=i then(if i<n then some i.toNat else none)else if -(n:Int)<=i then some (i+n).toNat else none
noncomputable def eQ{α:Type}(xs:List α)(i:Int):Option α:=(gL xs.length i).bind λj=>xs[j]?
theorem MG{n:Nat}{i:Int}{j:Nat}(h:gL n i=some j):seqIndex? i n=some j/\j<n/\-(n:Int)<=i/\i<n:=by
 unfold gL at h
 by_cases h0:0<=i
 ·rw[if_pos h0]at h
  by_cases h1:i<n
  ·rw[if_pos h1]at h
   have e:i.toNat=j:=dq h
   exact⟨by rw[seqIndex_of h0 h1,e],by omega,by omega,h1⟩
  ·rw[if_neg h1]at h;cases h
 ·rw[if_neg h0]at h
  by_cases h1:-(n:Int)<=i
  ·rw[if_pos h1]at h
   have e:(i+n).toNat=j:=dq h
   exact⟨by rw[seqIndex_neg (by omega) h1,e],by omega,h1,by omega⟩
  ·rw[if_neg h1]at h;cases h
theorem lY{α:Type}{xs:List α}{i:Int}{v:α}(h:eQ xs i=some v):∃j,seqIndex? i xs.length=some j/\xs[j]?=some v/\j<xs.length/\-(xs.length:Int)<=i/\i<xs.length:=by
 unfold eQ at h
 cases e:gL xs.length i with
 | none=>rw[e]at h;cases h
 | some j =>
  rw[e]at h
  obtain⟨h1,h2,h3,h4⟩:=MG e
  exact⟨j,h1,h,h2,h3,h4⟩
noncomputable def MH(b:Expr):Prop:=∀o i,subscripted b false o i=operate [o,i] (getItem o i)
noncomputable def mU(X:Cx)(r:R2):Prop :=
 ∀(value slice:Expr) (pins:List (Addr × Obj)) (s:Shared) (σ:St) (H:Hp) (x y:V) (v u:Value) (Q:VK),Inv X pins σ H s->RelV x v->RelV y u->r x y H Q ->
  subscripted slice false v u=operate [v,u] (getItem v u)->wpAny (model X.prog X.w) X.A (subscriptTail value slice v u) (EP X pins σ Q) X.xe s
noncomputable def xQ(X:Cx)(id:String)(r:V->List V->Hp->VK->Prop):Prop :=
 ∀(pins:List (Addr × Obj)) (s:Shared) (σ:St) (H:Hp) (x:V) (xs:List V) (v:Value) (us:List Value) (Q:VK),Inv X pins σ H s->RelV x v->Vals xs us->r x xs H Q ->
  wpAny (model X.prog X.w) X.A (call (.builtin id) (v::us)) (EP X pins σ Q) X.xe s
section
variable{X:Cx}{a b:Expr}{ta tb:TE}{pos:Pos}
theorem mU.or{r r':R2}(h:mU X r)(h':mU X r'):mU X (λx y H Q=>r x y H Q\/r' x y H Q):=by
 intro value slice pins s σ H x y v u Q I rx ry q hs
 rcases q with q | q
 ·exact h value slice pins s σ H x y v u Q I rx ry q hs
 ·exact h' value slice pins s σ H x y v u Q I rx ry q hs
theorem BG{r:R2}(hr:mU X r)(ha:PE X a ta)(hb:PE X b tb)(hs:MH b):PE X (.Subscript a b pos) (xN r ta tb):=by
 intro pins s σ H Q I h
 exact Subscript_ (E4 ha hb I h λv u s2 x y H2 I2 rx ry q=>hr a b pins s2 σ H2 x y v u Q I2 rx ry q (hs _ _))
noncomputable def MI(K:PySem.W.Frag):R2:=λx y H Q=>∃p xs i v,x=.ref p/\y=.int i/\bw K H p xs/\eQ xs i=some v/\Q v H
noncomputable def MJ(K:PySem.W.Frag):R2:=λx y H Q=>∃p xs i v,x=.ref p/\y=.int i/\g9 K H p xs/\eQ xs i=some v/\Q v H
noncomputable def MK:R2:=λx y H Q=>∃z i c,x=.str z/\y=.int i/\z.length<=sizeLine/\eQ z.cps.toList i=some c/\Q (.str ⟨#[c]⟩) H
theorem BH:mU X (MI X.K):=by
 intro value slice pins s σ H x y v u Q I rx ry h hs
 obtain⟨p,xs,i,z,rfl,rfl,hq,he,q⟩:=h
 cases rx
 obtain⟨t,rfl⟩:=ry
 obtain⟨its,r,pl,hz⟩:=I.list hq
 obtain⟨j,h1,h2,h3,h4,h5⟩:=lY he
 obtain⟨w,ew,gb⟩:=r.get h2
 have hl:=r.length
 have hn:=tO
 have fin:EP X pins σ Q w s:=⟨z,H,I,gb,q⟩
 by_cases h0:0<=i
 ·have hj:i.toNat=j:=by
   rw[seqIndex_of h0 h5]at h1
   exact dq h1
  exact item_listR pl.isList h0 (by omega) (by rw[hj];simpa using ew) fin hs
 ·have hj:(i+(its.toArray.size:Int)).toNat=j:=by
   rw[seqIndex_neg (by omega) h4]at h1
   rw[dO,<- hl]
   exact dq h1
  exact subscriptTail_builtinR (x:=w) pl.isList.typeIs slot_list_getitem.lookup
   (wpAny_getItem_list_neg (Q:=λr s'=>r=w/\EP X pins σ Q r s') pl.isList (by omega) (by rw[dO]<;>omega) (by omega) (by rw[hj];simpa using ew) ⟨rfl,fin⟩) hs
theorem X9:mU X (MJ X.K):=by
 intro value slice pins s σ H x y v u Q I rx ry h hs
 obtain⟨p,xs,i,z,rfl,rfl,hq,he,q⟩:=h
 cases rx
 obtain⟨t,rfl⟩:=ry
 obtain⟨its,r,pl,hz⟩:=I.tuple hq
 obtain⟨j,h1,h2,h3,h4,h5⟩:=lY he
 obtain⟨w,ew,gb⟩:=r.get h2
 have hl:=r.length
 have hn:=tO
 have fin:EP X pins σ Q w s:=⟨z,H,I,gb,q⟩
 exact subscriptTail_builtinR (x:=w) pl.typeIs slot_tuple_getitem.lookup
  (getItem_tuple (j:=j) (Q:=λr s'=>r=w/\EP X pins σ Q r s') pl (by omega) (by omega) (by rw[dO,<- hl];exact h1) (by simpa using ew) ⟨rfl,fin⟩) hs
theorem Ya:mU X MK:=by
 intro value slice pins s σ H x y v u Q I rx ry h hs
 obtain⟨z,i,c,rfl,rfl,hz,he,q⟩:=h
 obtain⟨t,rfl⟩:=rx
 obtain⟨t',rfl⟩:=ry
 obtain⟨j,h1,h2,h3,h4,h5⟩:=lY he
 have hl:z.cps.toList.length=z.length:=by simp[Str.length]
 rw[hl]at h1 h4 h5
 have hn:=tO
 exact tail_any (typeIs_str s z t) slot_str_getitem.lookup (getItem_str (c:=c) (by
  have e1:decide (i < -(2 ^ 63:Int))=false:=decide_eq_false (by omega)
  have e2:decide (i ≥ 2 ^ 63)=false:=decide_eq_false (by omega)
  rw[e1,e2,xf]) (by rw[h1];simpa using h2) ⟨.str ⟨#[c]⟩,H,I.tok _,⟨_,rfl⟩,q⟩) hs
noncomputable def Yb(K:PySem.W.Frag):R2:=λx y H Q=>MI K x y H Q\/MJ K x y H Q\/MK x y H Q
theorem Yc:mU X (Yb X.K):=BH.or (X9.or Ya)
theorem Yd(its:List Value)(n j:Nat)(u:Value):AF (·.setIfInBounds j u) { cls:=.type "list",data:=.seq its.toArray n }={ cls:=.type "list",data:=.seq (its.set j u).toArray n }:=by
 simp[AF]
theorem Inv.lst{pins:List (Addr × Obj)}{σ:St}{H:Hp}{s:Shared}{p:Addr}{xs:List V}(I:Inv X pins σ H s)(h:H p=some (.lst xs)) :
  ∃(its:List Value) (n:Nat),Vals xs its/\s.heap.get? p=some { cls:=.type "list",data:=.seq its.toArray n }/\xs.length<=sizeLine:=by
 obtain⟨z,its,n,r,e⟩:=I.aE p _ h
 exact⟨its,n,r,e,z⟩
theorem Inv.Ye{pins:List (Addr × Obj)}{σ:St}{H:Hp}{s:Shared}{p:Addr}{xs ys:List V}{its its':List Value}{n n':Nat}{f:Obj->Obj}(I:Inv X pins σ H s)(h:H p=some (.lst xs))
  (ho:s.heap.get? p=some { cls:=.type "list",data:=.seq its.toArray n }) (hf:f { cls:=.type "list",data:=.seq its.toArray n }={ cls:=.type "list",data:=.seq its'.toArray n' }) (r:Vals ys its') (hz:ys.length<=sizeLine) (t:Nat) :
  Inv X pins σ (upd H p (.lst ys)) { s with heap:=s.heap.update p f,toks:=t }:=by
 have e:(s.heap.update p f).get? p=some { cls:=.type "list",data:=.seq its'.toArray n' }:=by
  rw[Ek f ho (by rw[hf]<;>rfl),hf]
 refine I.write (x:=p) (e:=p) (by rw[h];trivial) (.inl rfl) (λb u hb q=>(qp _ _ (dN hb)).trans q) ⟨_,e⟩ ?_
 exact⟨hz,its',n',r,e⟩
noncomputable def Yf:V->V->V->Hp->(Hp->Prop)->Prop:=λo i v H Q=>∃p xs k j,o=.ref p/\i=.int k/\H p=some (.lst xs)/\gL xs.length k=some j/\Q (upd H p (.lst (xs.set j v)))
theorem xR:Mg X Yf:=by
 intro pins s σ H o i v ov iv u Q I ro ri rv h
 obtain⟨p,xs,k,j,rfl,rfl,hp,hj,q⟩:=h
 cases ro
 obtain⟨t,rfl⟩:=ri
 obtain⟨its,n,r,ho,hz⟩:=I.lst hp
 obtain⟨h1,h2,h3,h4⟩:=MG hj
 have hl:=r.length
 have hn:=tO
 have I':Inv X pins σ (upd H p (.lst (xs.set j v))) { s with heap:=s.heap.update p (AF (·.setIfInBounds j u)) } :=
  I.Ye hp ho (Yd its n j u) (r.set rv j) (by rw[gZ];exact hz) s.toks
 by_cases h0:0<=k
 ·have hk:k.toNat=j:=by
   rw[seqIndex_of h0 h4]at h1
   exact dq h1
  exact PySem.W.ki_setAt ho h0 (by omega) (by rw[dO,<- hl];exact h4) (by rw[hk];exact⟨_,I',q⟩)
 ·have hk:(k+(its.toArray.size:Int)).toNat=j:=by
   rw[seqIndex_neg (by omega) h3]at h1
   rw[dO,<- hl]
   exact dq h1
  exact PySem.W.ki_setBack ho (by omega) (by rw[dO,<- hl];exact h3) (by omega) (by rw[hk];exact⟨_,I',q⟩)
theorem Fc(lo hi:Option Int)(n:Nat):(sliceBounds lo hi none n).1=((HT.cV n 0 lo:Nat):Int)/\(sliceBounds lo hi none n).2.1=((HT.cV n n hi:Nat):Int)/\(sliceBounds lo hi none n).2.2=1:=by
 refine⟨?_,?_,rfl⟩
 ·cases lo with
  | none=>simp[sliceBounds,HT.cV]
  | some i =>
   simp only[sliceBounds,HT.cV,sW,show(1:Int)>0 by decide,if_true]
   by_cases h:i<0
   ·simp only[h,if_true]<;>omega
   ·simp only[h,if_false]<;>omega
 ·cases hi with
  | none=>simp[sliceBounds,HT.cV]
  | some i =>
   simp only[sliceBounds,HT.cV,sW,show(1:Int)>0 by decide,if_true]
   by_cases h:i<0
   ·simp only[h,if_true]<;>omega
   ·simp only[h,if_false]<;>omega
theorem Yg(its:List Value)(lo hi:Option Int):slicePick its.toArray lo hi none=((its.drop (HT.cV its.length 0 lo)).take (HT.cV its.length its.length hi-HT.cV its.length 0 lo)).toArray:=by
 obtain⟨h1,h2,h3⟩:=Fc lo hi its.toArray.size
 unfold slicePick
 rw[h1,h2,h3]
 simp only[sliceRange_one,pick_run,dO]<;>rfl
noncomputable def Yh(K:PySem.W.Frag):V->Option Int->Option Int->Hp->VK->Prop:=λx lo hi H Q=>∃a xs,x=.ref a/\bw K H a xs/\∀p,H p=none->Q (.ref p) (upd H p (.lst (tR xs lo hi)))
theorem Yi:qQ X (Yh X.K):=by
 intro pins s σ H x v vl vu lo hi sl Q I rx hs pl pu h
 obtain⟨a,xs,rfl,hx,q⟩:=h
 cases rx
 obtain⟨its,r,ht,hz⟩:=I.list hx
 have hlen:=r.length
 refine⟨"list",_,slot_list_getitem.lookup,ht.isList.typeIs,?_⟩
 refine wpAny_getItem_list_slice ht.isList hs pl pu .none (by simp) ?_ (by rw[dO]<;>omega)
 rw[Yg,<- hlen]
 refine⟨.ref s.heap.objs.size,_,I.laid (t':=s.toks) (o:=.lst (tR xs lo hi)) (λb ob q=>fC _ q) (bD _) ?_,rfl,q _ (I.aE.fresh (bD _))⟩
 exact⟨eK (X8 xs lo hi) hz,_,0,(r.drop (HT.cV xs.length 0 lo)).take (HT.cV xs.length xs.length hi-HT.cV xs.length 0 lo),gX _ rfl⟩
noncomputable def mV:V->Bool
 | .aq=>true
 | .bl _=>true
 | .int _=>true
 | .str _=>true
 | _=>false
noncomputable def lZ:V->V->Bool
 | .aq,.aq=>true
 | .bl a,.bl b=>a==b
 | .bl a,.int b=>(if a then 1 else 0)==b
 | .int a,.bl b=>a==(if b then 1 else 0)
 | .int a,.int b=>a==b
 | .str a,.str b=>a==b
 | _,_=>false
theorem Yj{A:Around}{s:Shared}{y x:V}{u v:Value}(ry:RelV y u)(rx:RelV x v)(fy:mV y=true)(fx:mV x=true):El A s u v (lZ y x):=by
 cases y with
 | aq =>
  cases ry
  cases x with
  | aq=>cases rx;exact SeqAt.EqAt.same _
  | bl b=>cases rx;exact SeqAt.EqAt.none_bool b
  | int b=>obtain⟨t,rfl⟩:=rx;exact SeqAt.EqAt.none_int b t
  | str b=>obtain⟨t,rfl⟩:=rx;exact SeqAt.EqAt.none_str b t
  | _=>exact absurd (show false=true from fx) iP
 | bl a =>
  cases ry
  cases x with
  | aq=>cases rx;exact SeqAt.EqAt.bool_none a
  | bl b=>cases rx;exact SeqAt.EqAt.bool_bool a b
  | int b=>obtain⟨t,rfl⟩:=rx;exact SeqAt.EqAt.bool_int a b t
  | str b=>obtain⟨t,rfl⟩:=rx;exact SeqAt.EqAt.bool_str a b t
  | _=>exact absurd (show false=true from fx) iP
 | int a =>
  obtain⟨t',rfl⟩:=ry
  cases x with
  | aq=>cases rx;exact SeqAt.EqAt.int_none a t'
  | bl b=>cases rx;exact SeqAt.EqAt.int_bool a t' b
  | int b=>obtain⟨t,rfl⟩:=rx;exact SeqAt.EqAt.int_int a t' b t
  | str b=>obtain⟨t,rfl⟩:=rx;exact SeqAt.EqAt.int_str a t' b t
  | _=>exact absurd (show false=true from fx) iP
 | str a =>
  obtain⟨t',rfl⟩:=ry
  cases x with
  | aq=>cases rx;exact SeqAt.EqAt.str_none a t'
  | bl b=>cases rx;exact SeqAt.EqAt.str_bool a t' b
  | int b=>obtain⟨t,rfl⟩:=rx;exact SeqAt.EqAt.str_int a t' b t
  | str b=>obtain⟨t,rfl⟩:=rx;exact SeqAt.EqAt.str_str a t' b t
  | _=>exact absurd (show false=true from fx) iP
 | _=>exact absurd (show false=true from fy) iP
noncomputable def mW(x:V)(u:Value):Bool:=match u with
 | .none=>lZ .aq x
 | .bool b=>lZ (.bl b) x
 | .int i _=>lZ (.int i) x
 | .str z _=>lZ (.str z) x
 | _=>false
theorem ML{x y:V}{u:Value}(r:RelV y u)(f:mV y=true):mW x u=lZ y x:=by
 cases y with
 | aq=>cases r;rfl
 | bl b=>cases r;rfl
 | int i=>obtain⟨t,rfl⟩:=r;rfl
 | str z=>obtain⟨t,rfl⟩:=r;rfl
 | _=>exact absurd (show false=true from f) iP
theorem Fd{x:V}:∀{xs:List V} {us:List Value},Vals xs us->xs.all mV=true->us.any (mW x)=xs.any λy=>lZ y x
 | _,_,.nil,_=>rfl
 | y::xs,u::us,.cons r t,f=>by
  rw[dh,dP]at f
  rw[List.any_cons,List.any_cons,ML r f.1,Fd t f.2]
theorem Fe{A:Around}{s:Shared}{x:V}{v:Value}(rx:RelV x v)(fx:mV x=true):∀{xs:List V} {us:List Value},Vals xs us->xs.all mV=true->∀u∈us,El A s u v (mW x u)
 | _,_,.nil,_=>λu hu=>by cases hu
 | y::xs,u::us,.cons r t,f=>λu' hu=>by
  rw[dh,dP]at f
  rcases cq.mp hu with rfl | hu
  ·rw[ML r f.1];exact Yj r rx f.1 fx
  ·exact Fe rx fx t f.2 u' hu
noncomputable def BI(x:V)(xs:List V):Bool:=xs.any λy=>lZ y x
noncomputable def Yk(K:PySem.W.Frag)(neg:Bool):R2:=λx y H Q=>∃p xs,y=.ref p/\(bw K H p xs\/g9 K H p xs)/\mV x=true/\xs.all mV=true/\Q (.bl (if neg then !BI x xs else BI x xs)) H
theorem Yl:cC X (compareOp .NotIn) (Yk X.K true):=by
 intro pins s σ H x y v u Q I rx ry h
 obtain⟨p,xs,rfl,hq,fx,fs,q⟩:=h
 cases ry
 rcases hq with hq | hq
 ·obtain⟨its,r,pl,hz⟩:=I.list hq
  refine SeqAt.notIn_listAt (mW x) pl.isList (λw hw=>Fe rx fx r fs w (by simpa using hw)) ⟨.bl _,H,I,rfl,?_⟩
  rw[show its.toArray.any (mW x)=its.any (mW x) by simp,Fd r fs]
  exact q
 ·obtain⟨its,r,pl,hz⟩:=I.tuple hq
  refine SeqAt.notIn_tupleAt (mW x) pl (λw hw=>Fe rx fx r fs w (by simpa using hw)) ⟨.bl _,H,I,rfl,?_⟩
  rw[show its.toArray.any (mW x)=its.any (mW x) by simp,Fd r fs]
  exact q
theorem MM:gE X (.builtin "len") (λxs H Q=>∃p ys,xs=[.ref p]/\(bw X.K H p ys\/g9 X.K H p ys)/\Q (.int ys.length) H):=by
 intro pins s σ H xs us Q I r h
 obtain⟨p,ys,rfl,hq,q⟩:=h
 obtain⟨u,rfl,rx⟩:=BB r
 cases rx
 have hn:=tO
 rcases hq with hq | hq
 ·obtain⟨its,r',pl,hz⟩:=I.list hq
  have hlen:=r'.length
  exact Calls.call_len_list pl.isList (by simp only[dO]<;>omega) ⟨.int ys.length,H,I.tok _,⟨s.toks+1,by rw[dO,hlen]⟩,q⟩
 ·obtain⟨its,r',pl,hz⟩:=I.tuple hq
  have hlen:=r'.length
  exact len_tuple pl (by simp only[dO]<;>omega) ⟨.int ys.length,H,I.tok _,⟨s.toks+1,by rw[dO,hlen]⟩,q⟩
theorem Ym:gE X (.builtin "len") (λxs H Q=>∃z,xs=[.str z]/\z.length<=sizeLine/\Q (.int z.length) H):=by
 intro pins s σ H xs us Q I r h
 obtain⟨z,rfl,hz,q⟩:=h
 obtain⟨u,rfl,t,rfl⟩:=BB r
 have hn:=tO
 exact len_str (by omega) ⟨.int z.length,H,I.tok _,⟨_,rfl⟩,q⟩
theorem gE.or{f:Value}{r r':List V->Hp->VK->Prop}(h:gE X f r)(h':gE X f r'):gE X f (λxs H Q=>r xs H Q\/r' xs H Q):=by
 intro pins s σ H xs us Q I rs q
 rcases q with q | q
 ·exact h pins s σ H xs us Q I rs q
 ·exact h' pins s σ H xs us Q I rs q
theorem Yn:gE X (.type "list") (λxs H Q=>∃p ys,xs=[.ref p]/\(bw X.K H p ys\/g9 X.K H p ys)/\∀l,H l=none->Q (.ref l) (upd H l (.lst ys))):=by
 intro pins s σ H xs us Q I r h
 obtain⟨p,ys,rfl,hq,q⟩:=h
 obtain⟨u,rfl,rx⟩:=BB r
 cases rx
 have fin:∀(its:List Value),Vals ys its->ys.length<=sizeLine->∀(h':Heap) (c':Nat),(∀b o',s.heap.get? b=some o'->h'.get? b=some o') ->
   h'.get? s.heap.objs.size=some { cls:=.type "list",dict:=none,data:=.seq its.toArray c',slots:=#[] }->EP X pins σ Q (.ref s.heap.objs.size) { s with heap:=h' }:=λits r' hz h' c' kp e =>
  ⟨.ref s.heap.objs.size,_,I.laid (t':=s.toks) kp (bD _) (show dQ X.prog X.w _ h' _ (.lst ys) from⟨hz,its,c',r',e⟩),rfl,q _ (I.aE.fresh (bD _))⟩
 rcases hq with hq | hq
 ·obtain⟨its,r',pl,hz⟩:=I.list hq
  have hlen:=r'.length
  obtain⟨o,ho,hc,n,hd⟩:=pl.isList
  exact call_list_seq p (.inl rfl) ho hc hd (λh' c' kp e=>fin its r' hz h' c' kp e) (by simp only[dO]<;>omega)
 ·obtain⟨its,r',pl,hz⟩:=I.tuple hq
  have hlen:=r'.length
  obtain⟨o,ho,hc,n,hd⟩:=pl
  exact call_list_seq p (.inr rfl) ho hc hd (λh' c' kp e=>fin its r' hz h' c' kp e) (by simp only[dO]<;>omega)
noncomputable def Ff(K:PySem.W.Frag)(T:String)(x:V)(H:Hp):Prop:=match x with
 | .str _=>T="str"
 | .int _=>T="int"
 | .ref p=>(T="list"/\∃xs,bw K H p xs)\/(T="tuple"/\∃o,K.lookup p=some o/\o.cls=.type "tuple"/\o.dict=none) \/
   (T="dict"/\((∃dA,H p=some (.dK dA))\/∃dA,H p=some (.dT dA)))\/(T="set"/\∃S n,H p=some (.set S n))
 | _=>False
theorem MN{pins:List (Addr × Obj)}{σ:St}{H:Hp}{s:Shared}{T:String}{x:V}{v:Value}(I:Inv X pins σ H s)(r:RelV x v)(ty:Ff X.K T x H) :
  s.TypeIs v T/\∀a,v=.ref a->∃ob,s.heap.get? a=some ob/\ob.dict=none:=by
 cases x with
 | str z =>
  obtain⟨t,rfl⟩:=r
  cases(show T="str" from ty)
  exact⟨typeIs_str s z t,λ_ e=>nomatch e⟩
 | int i =>
  obtain⟨t,rfl⟩:=r
  cases(show T="int" from ty)
  exact⟨typeIs_int s i t,λ_ e=>nomatch e⟩
 | ref p =>
  cases r
  rcases ty with⟨rfl,xs,hq⟩ | ⟨rfl,o,hk,hc,hd⟩ | ⟨rfl,hk⟩ | ⟨rfl,S,n,hk⟩
  ·obtain⟨its,_,pl,_⟩:=I.list hq
   refine⟨pl.isList.typeIs,λa e=>?_⟩
   cases e
   obtain⟨o,n,e,c,hd,_⟩:=pl
   exact⟨o,e,hd⟩
  ·refine⟨⟨o,I.cB p o hk,hc⟩,λa e=>?_⟩
   cases e
   exact⟨o,I.cB _ o hk,hd⟩
  ·have z:∃o,s.heap.get? p=some o/\o.ExactDict:=by
    rcases hk with⟨dA,hk⟩ | ⟨dA,hk⟩
    ·obtain⟨_,_,_,_,o,_,_,e,ex,_⟩:=I.aE p _ hk
     exact⟨o,e,ex⟩
    ·obtain⟨_,_,_,_,o,_,_,e,ex,_⟩:=I.aE p _ hk
     exact⟨o,e,ex⟩
   obtain⟨o,e,ex⟩:=z
   refine⟨⟨o,e,ex.1⟩,λa e2=>?_⟩
   cases e2
   exact⟨o,e,ex.2.1⟩
  ·obtain⟨o,_,_,_,e,ex,_⟩:=I.aE p _ hk
   refine⟨⟨o,e,ex.1⟩,λa e2=>?_⟩
   cases e2
   exact⟨o,e,ex.2.1⟩
 | _=>exact eW ty
noncomputable def MP(K:PySem.W.Frag)(T:String)(r:V->List V->Hp->VK->Prop)(to:TE):TE:=λσ H Q=>to σ H λx H1=>Ff K T x H1/\r x [] H1 Q
noncomputable def Yo(K:PySem.W.Frag)(T:String)(r:V->List V->Hp->VK->Prop)(to:TE)(t:TA):TE:=λσ H Q=>to σ H λx H1=>Ff K T x H1/\t σ H1 λxs H2=>r x xs H2 Q
variable{o e:Expr}{es:List Expr}{to:TE}{t:TA}{name:Str}{apos bN:Pos}{T id:String}{r:V->List V->Hp->VK->Prop}
theorem Yp(pa:PlainAttrs T)(slot:Slot T name id)(Fg:typeOf (.builtin id)=pure (.type "method_descriptor"))(hm:xQ X id r)(ho:PE X o to)
  (kL:attributeBase o name X.env (eval o X.env)=eval o X.env:=by rfl) (kM:(apos.endLine==bN.line)=true:=by rfl):PE X (.Call (.Attribute o name apos) [] [] bN) (MP X.K T r to):=by
 intro pins s σ H Q I h
 refine wpAny_Call_method0_late kL kM (aO (ho pins s σ H _ I h) λv s1 ⟨x,H1,I1,r1,ty,q1⟩=>?_)
 obtain⟨h1,h2⟩:=MN I1 r1 ty
 exact⟨T,id,pa,slot,Fg,h1,h2,Calls.callWith_builtin rfl (PySem.evalArgs_none (hm pins s1 σ H1 x [] v [] Q I1 r1 .nil q1))⟩
theorem MQ(pa:PlainAttrs T)(slot:Slot T name id)(Fg:typeOf (.builtin id)=pure (.type "method_descriptor"))(hm:xQ X id r)(ho:PE X o to)(ha:PA X (e::es) t)
  (kL:attributeBase o name X.env (eval o X.env)=eval o X.env:=by rfl)
  (xS:((backTo bN (starEach (e::es) X.env)).all (λx=>!x.1)&&(backToKw bN (keywordEach [] X.env)).all (λx=>x.1.isSome)
   && decide ((e::es).length+([]:List Keyword).length+(if([]:List Keyword).isEmpty then 0 else 1)<30))=true:=by rfl)
  (kM:(apos.endLine==bN.line)=true:=by rfl) (hs:starEach (e::es) X.env=(false,eval e X.env)::starEach es X.env:=by rfl) (xT:(backTo bN (starEach es X.env)).any (·.1)=false:=by rfl) :
  PE X (.Call (.Attribute o name apos) (e::es) [] bN) (Yo X.K T r to t):=by
 intro pins s σ H Q I h
 refine wpAny_Call_method_late kL xS kM rfl (aO (ho pins s σ H _ I h) λv s1 ⟨x,H1,I1,r1,ty,q1⟩=>?_)
 obtain⟨h1,h2⟩:=MN I1 r1 ty
 refine⟨T,id,pa,slot,Fg,h1,h2,?_⟩
 have hA:=ha bN pins s1 σ H1 _ I1 q1
 rw[hs]at hA ⊢
 refine Calls.callWith_builtin (by show(false||(backTo bN (starEach es X.env)).any (·.1))=false;rw[xT]<;>rfl) (Calls.evalArgs_plain ?_)
 exact aO hA λus s2 ⟨vs,H2,I2,r2,q2⟩=>hm pins s2 σ H2 x vs v us Q I2 r1 r2 q2
/- xs.append(e),list.index on a dF2 tuple .. are xQ facts of 06m -/
end
end L2
namespace L2
open PySem PySem.Spec PyProof.Rows
noncomputable def Yq(X:Cx)(id:String)(r:V->List V->Hp->VK->Prop):Prop :=
 ∀(pins:List (Addr × Obj)) (s:Shared) (σ:St) (H:Hp) (x:V) (xs:List V) (v:Value) (us:List Value) (Q:VK),Inv X pins σ H s->RelV x v->Vals xs us->r x xs H Q ->
  wpAny (model X.prog X.w) X.A (call (.builtin id) (v::us)) (EP X pins σ Q) X.xe s
theorem Vals.one:∀{x:V} {us:List Value},Vals [x] us->∃u,us=[u]/\RelV x u
 | _,_,h=>by cases h with | cons r h=>cases h;exact⟨_,rfl,r⟩
theorem Vals.two:∀{x y:V} {us:List Value},Vals [x,y] us->∃u v,us=[u,v]/\RelV x u/\RelV y v
 | _,_,_,h=>by cases h with | cons r h=>cases h with | cons q h=>cases h;exact⟨_,_,rfl,r,q⟩
theorem Vals.rep{xs:List V}{us:List Value}(h:Vals xs us):∀k:Nat,Vals (bg k xs).flatten (bg k us).flatten
 | 0=>.nil
 | k+1=>by
  rw[qq,qq,sX,sX]
  exact Vals.append h (Vals.rep h k)
theorem MR(its:List Value):∀(k:Nat) (acc:List Value),
  List.foldl (λx1 x2=>x1++x2) acc.toArray (bg k its.toArray)=(acc++(bg k its).flatten).toArray
 | 0,acc=>by simp
 | k+1,acc=>by
  have e:acc.toArray++its.toArray=(acc++its).toArray:=by simp
  have e2:(acc++its)++(bg k its).flatten=acc++(bg (k+1) its).flatten:=by
   rw[qq,sX,cJ]
  rw[<-e2,<- MR its k (acc++its),<- e,qq,sY]
section
variable{X:Cx}{pins:List (Addr × Obj)}{σ:St}{H:Hp}{s:Shared}{l b:Addr}{xs ys zs:List V}
theorem Inv.Yr{its its':List Value}{n:Nat}{f:Array Value->Array Value}{t':Nat}(I:Inv X pins σ H s)(hH:H l=some (.lst xs))
  (e:s.heap.get? l=some { cls:=.type "list",data:=.seq its.toArray n }) (hf:f its.toArray=its'.toArray) (hv:Vals ys its') (hz:ys.length<=sizeLine) :
  Inv X pins σ (upd H l (.lst ys)) { s with heap:=s.heap.update l (AF f),toks:=t' }:=by
 have q:=PySem.IsL.update e f
 rw[hf]at q
 refine I.write (x:=l) (e:=l) (by rw[hH];exact trivial) (.inl rfl) (λb' u hb hu=>(qp s.heap (AF f) (dN hb)).trans hu) ⟨_,q⟩ ?_
 exact⟨hz,its',_,hv,q⟩
theorem Inv.MS{its:List Value}{t':Nat}(I:Inv X pins σ H s)(hv:Vals ys its)(hz:ys.length<=sizeLine) :
  Inv X pins σ (upd H s.heap.objs.size (.lst ys)) { s with heap:=s.heap.push { cls:=.type "list",data:=.seq its.toArray },toks:=t' } :=
 I.laid (λ_ _ q=>fC _ q) (bD _) ⟨hz,its,0,hv,gX _ rfl⟩
theorem Inv.fresh(I:Inv X pins σ H s):H s.heap.objs.size=none:=I.aE.fresh (bD _)
theorem Inv.BJ(I:Inv X pins σ H s)(hH:H l=some (.lst xs)):xs.length<=sizeLine/\∃(its:List Value) (n:Nat),Vals xs its/\xs.length=its.length/\s.heap.get? l=some { cls:=.type "list",data:=.seq its.toArray n }:=by
 obtain⟨z,its,n,r,e⟩:=I.aE l _ hH
 exact⟨z,its,n,r,r.length,e⟩
theorem Ys{n:Nat}(h:n<=sizeLine):Lg n=false:=by
 unfold Lg
 exact decide_eq_false (by omega)
end
section
variable{X:Cx}
noncomputable def Yt:V->List V->Hp->VK->Prop:=λx vs H Q=>∃l xs y,x=.ref l/\vs=[y]/\H l=some (.lst xs)/\xs.length<sizeLine/\Q .aq (upd H l (.lst (xs++[y])))
theorem MT:Yq X "list.append" Yt:=by
 intro pins s σ H x vs v us Q I rx rv h
 obtain⟨l,xs,y,rfl,rfl,hH,hz,q⟩:=h
 cases rx
 obtain⟨u,rfl,ru⟩:=rv.one
 obtain⟨z,its,n,r,hl,e⟩:=I.BJ hH
 refine call_meets F.slot_list_append ⟨_,e,rfl⟩ F.entry_list_append (F.args_list_append_2 _ _) (PySem.list_append l its.toArray n u (by rw[dO];omega)) ⟨e,?_⟩
 refine⟨.aq,_,I.Yr (its':=its++[u]) hH e (by simp) (r.append (.cons ru .nil)) ?_,rfl,q⟩
 rw[eM,Vy]
 omega
noncomputable def Yu:R2:=λx y H Q=>∃l b xs zs,x=.ref l/\y=.ref b/\H l=some (.lst xs)/\H b=some (.lst zs)/\xs.length+zs.length<=sizeLine/\∀p,H p=none->Q (.ref p) (upd H p (.lst (xs++zs)))
theorem MU:cC X (binaryOp .Add) Yu:=by
 intro pins s σ H x y v u Q I rx ry h
 obtain⟨l,b,xs,zs,rfl,rfl,hH,hB,hz,q⟩:=h
 cases rx
 cases ry
 obtain⟨z,its,n,r,hl,e⟩:=I.BJ hH
 obtain⟨z2,MV,n2,r2,BK,e2⟩:=I.BJ hB
 refine PySem.P.add_list e e2 ?_ (by rw[dO,dO];omega)
 have ea:its.toArray++MV.toArray=(its++MV).toArray:=by simp
 rw[ea]
 exact⟨.ref _,_,I.MS (t':=s.toks) (r.append r2) (by rw[eM];omega),rfl,q _ I.fresh⟩
noncomputable def Yv:R2:=λx y H Q=>∃l k xs,x=.ref l/\y=.int k/\H l=some (.lst xs)/\-(2 ^ 63)<=k/\k<2 ^ 63/\xs.length*k.toNat<=sizeLine /\
 ∀p,H p=none->Q (.ref p) (upd H p (.lst (bg k.toNat xs).flatten))
theorem Yw{α:Type}(xs:List α)(k:Nat):(bg k xs).flatten.length=k*xs.length:=by
 induction k with
 | zero=>simp
 | succ k ih=>rw[qq,sX,eM,ih,Nat.succ_mul,Lh]
theorem Yx:cC X (binaryOp .Mult) Yv:=by
 intro pins s σ H x y v u Q I rx ry h
 obtain⟨l,k,xs,rfl,rfl,hH,h1,h2,hz,q⟩:=h
 cases rx
 obtain⟨t,rfl⟩:=ry
 obtain⟨z,its,n,r,hl,e⟩:=I.BJ hH
 have hlen:its.toArray.size*k.toNat<=sizeLine:=by rw[dO,<- hl];exact hz
 have Yy:¬ its.toArray.size*k.toNat>(2 ^ 63-1)/8:=by
  have:(sizeLine:Nat)<=(2 ^ 63-1)/8:=by decide
  omega
 have Yz:¬ (!Builtin.List.listFitsIndex k)=true:=by
  rw[fitsIndex_both h1 h2]
  exact iP
 have YA:¬ Lg (its.toArray.size*k.toNat)=true:=by
  rw[Ys hlen]
  exact iP
 have YB:List.foldl (λx1 x2=>x1++x2) #[] (bg (if its.toArray.isEmpty=true then 0 else k.toNat) its.toArray)=(bg k.toNat its).flatten.toArray:=by
  have f0:∀m:Nat,List.foldl (λx1 x2=>x1++x2) #[] (bg m its.toArray)=(bg m its).flatten.toArray:=λm=>by
   have:=MR its m []
   rw[qt]at this
   exact this
  rw[f0]
  cases its with
  | nil=>simp
  | cons a r'=>rw[if_neg (by simp)]
 refine wpAny_binaryOp_repeat_ref (T:="list") (U:="int") (by decide) ⟨_,e,rfl⟩ (λs'=>typeIs_int s' k t) noFill_list_mul F.fills_int_mul F.slot_int_rmul repeat_list F.slot_int_index.lookup
  (call_meets F.slot_int_rmul (typeIs_int s k t) F.entry_int_rmul (F.args_int_rmul_2 _ _) (int___rmul___int_list k t l its.toArray n)
   ⟨e,rfl,⟨_,e,rfl⟩,call_meets F.slot_list_mul ⟨_,e,rfl⟩ F.entry_list_mul (F.args_list_mul_2 _ _) (AutoListH.list___mul___list_int_3 l its.toArray n k t Yz Yy YA) ⟨e,?_⟩⟩)
 rw[YB]
 exact⟨.ref _,_,I.MS (t':=s.toks) (r.rep k.toNat) (by rw[Yw,mJ];exact hz),rfl,q _ I.fresh⟩
end
section
variable{prog:Program}{w:World}{A:Around}{E:Value->Shared->Prop}{s:Shared}
end
section
variable{X:Cx}
end
end L2
namespace Att
open PySem PySem.W PySem.Calls PyProof.Rows
theorem YC{P:Params}{h:Heap}:∀(ns:List Int) (vs:List Value),WellAll P h vs (ns.map WData.int)->IntsAre vs ns:=by
 intro ns
 induction ns with
 | nil =>
  intro vs w
  rw[jY]at w
  cases w
  exact .nil
 | cons n ns ih =>
  intro vs w
  rw[cN]at w
  cases w with
  | cons a b =>
   cases a
   exact .cons _ _ (ih _ b)
theorem YD{l:OpenLaw}{n:Nat}(hn:l.most=some n){P:Params}{h:Heap}{args:List WData}{vals:List Value}
  (BL:l.row.toRowW.claim.pre args=true) (Fh:WellAll P h vals args) :
  ∃a vs ns,vals=[cA a]/\args=[WData.list (ns.map WData.int)]/\h.get? a=some { cls:=.type "list",data:=.seq vs.toArray }/\IntsAre vs ns/\ns.length<=n:=by
 have xU:WShape.hasAll [] args [.list .int]=true:=(pre_splitW BL).1
 have hc:l.pre.holds [] { args:=args }=true:=(pre_splitW BL).2
 obtain⟨d,r,rfl,h1,h2⟩:=hasAllW_cons xU
 obtain rfl:=hasAllW_nil h2
 obtain⟨xs,rfl,h3⟩:=hasW_list h1
 obtain⟨ns,rfl⟩:=items_int h3
 have hlen:ns.length<=n:=by
  unfold OpenLaw.pre at hc
  have h4:(WTm.not (.lt (.lit (.int (n:Int))) (.len (.arg 0)))).holds [] { args:=[.list (ns.map .int)] }=true:=by
   have h4:=(holds_andW hc).1
   rw[hn]at h4
   exact h4
  have h5:=condW_of h4 (w_not (w_lt w_lit (w_len_list (w_arg rfl))))
  rw[aS]at h5
  refine Nat.le_of_not_lt λq=>?_
  have q':(n:Int)<((ns.length:Nat):Int):=by omega
  first
   | (rw[decide_eq_true q']at h5;exact absurd h5 (by decide))
   | (simp at h5;omega)
 cases Fh with
 | cons w1 w2 =>
  cases w2
  cases w1 with
  | list ho YE=>exact⟨_,_,ns,rfl,rfl,ho,YC ns _ YE,hlen⟩
theorem YF(l:OpenLaw)(args:List WData):l.row.toRowW.claim.post args (.bool true) args=true :=
 postW_of (r:=l.row.toRowW) (X:=(true==true))
  (show WShape.has [] (.bool true) .bool=true by first | rfl | decide | simp[WShape.has,WShape.arms,WShape.armsAll])
  (show(WTm.eq .res (.lit (.bool true))).value [] { args:=args,res:=some (.bool true),after:=args }=some (.bool (true==true)) from w_eq_bool (w_res rfl) w_lit) rfl
theorem YG{l:OpenLaw}{n:Nat}{q:Program}{loose:List Str}{XP:(Str->Option Value)->Heap->Prop}{YP:World->Heap->Prop}{d:DefRec}
  (hn:l.most=some n) (xV:d.params.defaults=[])
  (call:∀(w:World) (cw bz:Shared) (mg mb:Str->Option Value) (fa:Addr) (o:Obj) (pm cd doc:Value) (a:Addr) (vs:List Value) (ns:List Int),
   Ground q loose [] XP w cw mg mb bz.heap->YP w bz.heap ->
   bz.heap.get? fa=some o->o.data=.func (docDef d.name d.params d.body d.scope pm cd doc)->bz.heap.CodeRec cd d.name->mg d.name=some (.ref fa) ->
   bz.heap.get? a=some { cls:=.type "list",data:=.seq vs.toArray }->IntsAre vs ns->ns.length<=n->bz.gens=#[] ->
   codeAny (model l.prog w) callerA (.call (.ref fa) ⟨[.ref a],[]⟩) (λr s'=>r=.ok (.ret (.bool true))/\OldK bz.heap s'.heap/\s'.os=bz.os/\AllBare s'.gens) bz) :
  WalkO q loose XP YP l.row.toRowW d [] (λf vs=>PySem.call f vs):=by
 intro w cw bz mg mb G Y fa o pm cd doc dV kV ho hd b9 hD xW hg args vals as BL dF3 hrd Fh gg
 obtain rfl:dV=.none:=Dflts.none hD xV
 obtain rfl:kV=.none:=Dflts.noKw hD
 obtain⟨a,vs,ns,rfl,rfl,Fj,hints,hlen⟩:=YD hn BL Fh
 refine enter_call (codeAny_mono (call w cw bz mg mb fa o pm cd doc a vs ns G Y ho (fd_plain hd) b9 xW Fj hints hlen hg) λr s' hq=>?_)
 obtain⟨rfl,h2,h3,h4⟩:=hq
 exact⟨.inl ⟨.bool true,.bool true,[],rfl,λ_=>rfl,.bool true,YF l _,λ_=>⟨Li,λ_ hm=>(nomatch hm)⟩⟩,h2,h3,h4⟩
section
variable{prog:Program}{w:World}{A:Around}{E:Value->Shared->Prop}{s:Shared}{K:Frag}
end
end Att
namespace L2
open PySem PySem.Spec PyProof.Rows
theorem MW:∀{vs:List Value} {ns:List Int},IntsAre vs ns->Vals (ns.map V.int) vs
 | _,_,.nil=>.nil
 | _,_,.cons n t h=>.cons ⟨t,rfl⟩ (MW h)
end L2
namespace L2
open PySem PySem.Spec PyProof.Rows
end L2
/- THE dF6 dF7 (shape;LID,My.* are dF9):
   My.fF: a structure of MX addresses dG0 dG1 dG2 names (classes,dG3);My.Txt K t: a structure (Prop) of MX equations over K;
   My.dG4:{K} {implicit addresses ..} (e1:nsIn K mainGlobals "law"=some (some (.ref f))) (e2:K.lookup f=some ⟨oc,od,.func (fnOf "law" "law" params body scope dV kV doc pm an aG ct),sl⟩) (e3:codeIn K aG "law"=true) ..:∃t,My.Txt K t
(MX tactic k_is has no namespace: write k_is) -/
namespace L2
open PySem PySem.Spec PyProof.Rows
noncomputable def eZ(s:Stmt)(j:Nat):Stmt:=match s with
 | .ClassDef _ _ _ body _ _ _ _ _ _ _=>body.getD j (.Pass ⟨0,0,0,0⟩)
 | _=>.Pass ⟨0,0,0,0⟩
noncomputable def l6(s:Stmt):Arguments:=match s with
 | .FunctionDef _ a _ _ _ _ _ _ _ _=>a
 | _=>{ posonlyargs:=[],args:=[],vararg:=none,kwonlyargs:=[],kw_defaults:=[],kwarg:=none,defaults:=[] }
noncomputable def hW(s:Stmt):List Stmt:=match s with
 | .FunctionDef _ _ b _ _ _ _ _ _ _=>b
 | _=>[]
noncomputable def aP(s:Stmt):Scope:=match s with
 | .FunctionDef _ _ _ _ _ _ sc _ _ _=>sc
 | _=>{ kind:=.function,names:=[],isGenerator:=false,isCoroutine:=false }
noncomputable abbrev aT:dR:=λ_ _ _ _ _ _=>False
noncomputable abbrev E0:XK:=λ_ _ _=>False
theorem eE{X:Cx}:i8 aT X E0:=λ_ _ _ _ _ _ _ h=>h.elim
structure aY(K:PySem.W.Frag)(x qual:Str)(st:Stmt)(f:Addr)(fd:FuncData):Prop where
 ex:∃(oc:Value) (od:Option Addr) (kV doc pm:Value) (an:Option Addr) (aG ct:Value) (lW:Array (Option Value)),
  fd=PySem.W.fnOf x qual (l6 st) (hW st) (aP st) .none kV doc pm an aG ct/\K.lookup f=some ⟨oc,od,.func fd,lW⟩/\PySem.W.codeIn K aG qual=true
 kp:PySem.W.keepIn K (.ref f)=true
section
variable{P:Program}{w:World}{K:PySem.W.Frag}{mg:Str->Option Value}{base:Heap}
theorem aY.ok{x qual:Str}{st:Stmt}{f:Addr}{fd:FuncData}{N ps:List Str}{k:Nat}{sp:Sp}(F:aY K x qual st f fd)(S:bf N ps (aP st))(len:∀vs H Q E,sp vs H Q E->vs.length=ps.length)
  (gK:∀(aG:Value) (A:Around) (outer:List Env) (s:Shared) (H:Hp) (vs:List V) (Q:VK) (E:XK),bL k (A.deeper (envOfC qual (aP st) s.heap.objs.size f aG))->sp vs H Q E ->
   ∃t,PSs (hV aT P w K mg base N qual (aP st) f aG A outer s H E).fZ (hW st) t/\t { nx:=λ_ H'=>Q .aq H',rt:=Q } (start N vs) H):aM P w K mg base aT (k+1) f fd ps sp:=by
 obtain⟨oc,od,kV,doc,pm,an,aG,ct,lW,rfl,lk,b9⟩:=F.ex
 refine E7 lk b9 S len λA outer s H vs Q E hr i9=>?_
 obtain⟨t,h,q⟩:=gK aG A outer s H vs Q E hr i9
 exact⟨t,h.fZ,q⟩
theorem aY.binds{x qual:Str}{st:Stmt}{f:Addr}{fd:FuncData}{ps:List Str}(F:aY K x qual st f fd)
  (h:∀(kV doc pm:Value) (an:Option Addr) (aG ct:Value) (us:List Value),us.length=ps.length->bindArgs (PySem.W.fnOf x qual (l6 st) (hW st) (aP st) .none kV doc pm an aG ct) ⟨us,[]⟩=pure (ps.zip us)):Binds K fd ps []:=by
 obtain⟨oc,od,kV,doc,pm,an,aG,ct,lW,rfl,lk,b9⟩:=F.ex
 exact .all (h kV doc pm an aG ct)
theorem BM{x qual:Str}{st:Stmt}{f:Addr}{oc:Value}{od an:Option Addr}{lW:Array (Option Value)}{kV doc pm aG ct:Value}(l:K.lookup f=some ⟨oc,od,.func (PySem.W.fnOf x qual (l6 st) (hW st) (aP st) .none kV doc pm an aG ct),lW⟩)
  (c:PySem.W.codeIn K aG qual=true) (k:PySem.W.keepIn K (.ref f)=true):aY K x qual st f (PySem.W.fnOf x qual (l6 st) (hW st) (aP st) .none kV doc pm an aG ct):=⟨⟨oc,od,kV,doc,pm,an,aG,ct,lW,rfl,l,c⟩,k⟩
end
section
variable{X:Cx}
theorem pv(i:Nat){x:Str}{pos:Pos}(hN:X.N[i]?=some x:=by rfl)(hv:iB X.env.scope x:=by first | exact ay rfl | exact bV (ay rfl) | exact bV (bV rfl))(hd:(x==("__debug__":Str))=false:=by decide)
  (b9:(x==("__classdict__":Str))=false:=by decide):PE X (.Name x pos) (Ma i):=j5 hN hv hd b9
end
theorem kN{A B:Prop}(h:B):if false=true then A else B:=by
 rw[if_neg iP]
 exact h
theorem qR{A B:Prop}(h:A):if true=true then A else B:=by
 rw[if_pos rfl]
 exact h
end L2
namespace Mf
noncomputable def bl(n:Nat):Nat:=if n=0 then 0 else n.log2+1
theorem eR{n m:Nat}:bl n<=m↔n<2 ^ m:=by
 unfold bl
 by_cases h:n=0
 ·simp[h,xg]
 ·rw[if_neg h]
  rw[<-Nat.log2_lt h]
  omega
theorem Fl{n m:Nat}:m<bl n↔2 ^ m<=n:=by
 have:=@eR n m
 omega
theorem je(n:Nat):n<2 ^ bl n:=eR.mp (bD _)
theorem MY{n:Nat}(h:n≠0):2 ^ (bl n-1)<=n:=by
 have:0<bl n:=by unfold bl;rw[if_neg h];omega
 exact Fl.mp (by omega)
theorem ia{n:Nat}(h:n≠0):0<bl n:=by
 unfold bl;rw[if_neg h];omega
theorem mX:bl 0=0:=rfl
theorem tS{n:Nat}(h:n≠0):n.testBit (bl n-1)=true:=by
 have h1:=MY h
 have h2:=je n
 have hp:=ia h
 have e:bl n=(bl n-1)+1:=by omega
 rw[e,oF]at h2
 rw[Vz]
 have:n/2 ^ (bl n-1)=1:=by
  apply Nat.div_eq_of_lt_le
  ·omega
  ·omega
 rw[this];rfl
theorem YH{x n:Nat}(h:∀i,n<=i->x.testBit i=false):x<2 ^ n:=by
 apply Nat.lt_pow_two_of_testBit
 intro i hi
 exact h i hi
theorem MZ{x y n:Nat}(hx:x<2 ^ (n+1))(hy:y<2 ^ (n+1))(tx:x.testBit n=true)(ty:y.testBit n=true):x ^^^ y<2 ^ n:=by
 apply YH
 intro i hi
 rw[mK]
 by_cases e:i=n
 ·rw[e,tx,ty];rfl
 ·have cZ:n+1<=i:=by omega
  have p:2 ^ (n+1)<=2 ^ i:=xh (by decide) cZ
  rw[Em (cH hx p),Em (cH hy p)]
  rfl
theorem M0(x y z:Nat):(x ^^^ y) ^^^ (z ^^^ y)=x ^^^ z:=by
 apply AG;intro i;simp only[mK]
 cases x.testBit i<;>cases y.testBit i<;>cases z.testBit i<;>rfl
theorem M1(x y z t:Nat):(x ^^^ y) ^^^ (z ^^^ t)=(x ^^^ z) ^^^ (y ^^^ t):=by
 apply AG;intro i;simp only[mK]
 cases x.testBit i<;>cases y.testBit i<;>cases z.testBit i<;>cases t.testBit i<;>rfl
noncomputable def P(a b:Nat):Nat->Nat
 | 0=>0
 | k+1=>P a b k ^^^ (if b.testBit k then a <<< k else 0)
noncomputable def cl(a b:Nat):Nat:=P a b (bl b)
theorem M3{a b k:Nat}(h:b<2 ^ k):∀j,P a b (k+j)=P a b k
 | 0=>rfl
 | j+1=>by
  show P a b (k+j) ^^^ (if b.testBit (k+j)then a <<< (k+j)else 0)=_
  rw[M3 h j]
  have p:2 ^ k<=2 ^ (k+j):=xh (by decide) (by omega)
  rw[Em (cH h p)]
  simp
theorem tT{a b k:Nat}(h:b<2 ^ k):P a b k=cl a b:=by
 have h1:=eR.mpr h
 have e:k=bl b+(k-bl b):=by omega
 rw[e,M3 (je b)]
 rfl
theorem M4(a a' b:Nat):∀k,P (a ^^^ a') b k=P a b k ^^^ P a' b k
 | 0=>(lH 0).symm
 | k+1=>by
  show P (a ^^^ a') b k ^^^ _=(P a b k ^^^ _) ^^^ (P a' b k ^^^ _)
  rw[M4 a a' b k]
  by_cases t:b.testBit k=true
  ·rw[if_pos t,if_pos t,if_pos t,VA]
   ac_rfl
  ·rw[if_neg t,if_neg t,if_neg t]
   simp
theorem M5(a b b':Nat):∀k,P a (b ^^^ b') k=P a b k ^^^ P a b' k
 | 0=>(lH 0).symm
 | k+1=>by
  show P a (b ^^^ b') k ^^^ _=(P a b k ^^^ _) ^^^ (P a b' k ^^^ _)
  rw[M5 a b b' k,mK]
  cases b.testBit k<;>cases b'.testBit k<;>simp
  ·ac_rfl
  ·ac_rfl
  ·exact(M0 _ _ _).symm
theorem oO(a a' b:Nat):cl (a ^^^ a') b=cl a b ^^^ cl a' b:=M4 a a' b _
theorem tU{x y n:Nat}(hx:x<2 ^ n)(hy:y<2 ^ n):x ^^^ y<2 ^ n:=Nat.xor_lt_two_pow hx hy
theorem YI(a b b':Nat):cl a (b ^^^ b')=cl a b ^^^ cl a b':=by
 let k:=bl b+bl b'
 have h1:b<2 ^ k:=eR.mp (by omega)
 have h2:b'<2 ^ k:=eR.mp (by omega)
 rw[<-tT (tU h1 h2),<- tT h1,<- tT h2,M5]
theorem YJ(a:Nat):cl a 0=0:=rfl
theorem M6(b:Nat):∀k,P 0 b k=0
 | 0=>rfl
 | k+1=>by
  show P 0 b k ^^^ _=0
  rw[M6 b k];simp
theorem oQ(b:Nat):cl 0 b=0:=M6 b _
theorem YK(b k:Nat):(b/2).testBit k=b.testBit (k+1):=by
 rw[Eo]
theorem M7(a b:Nat):∀k,P a b (k+1)=(if b%2=1 then a else 0) ^^^ P (2*a) (b/2) k
 | 0=>by
  show 0 ^^^ _=_ ^^^ 0
  rw[oG,lH,AH]
  simp
 | k+1=>by
  show P a b (k+1) ^^^ _=_ ^^^ (P (2*a) (b/2) k ^^^ _)
  rw[M7 a b k,YK,qu]
  have e:a <<< (k+1)=(2*a) <<< k:=by
   rw[kF,kF,oF]
   rw[mJ 2 a,sZ,mJ 2]
  rw[e]
theorem M8{b k:Nat}(h:b<2 ^ (k+1)):b/2<2 ^ k:=by
 rw[oF]at h;omega
theorem M9(a b:Nat):cl a b=(if b%2=1 then a else 0) ^^^ cl (2*a) (b/2):=by
 have h:b<2 ^ (bl b+1):=Nat.lt_trans (je b) (by rw[oF];have:=xg (bl b);omega)
 rw[<-tT h,M7,tT (M8 h)]
theorem Na(a b:Nat):∀k,P (2*a) b k=2*P a b k
 | 0=>rfl
 | k+1=>by
  show P (2*a) b k ^^^ _=2*(P a b k ^^^ _)
  rw[Na a b k]
  have d:∀x y:Nat,2*(x ^^^ y)=2*x ^^^ 2*y:=by
   intro x y
   have h:=@VA 1 x y
   rw[kF,kF,kF,Nat.pow_one]at h
   rw[mJ 2 (x ^^^ y),mJ 2 x,mJ 2 y]
   exact h
  rw[d]
  by_cases t:b.testBit k=true
  ·rw[if_pos t,if_pos t,kF,kF,sZ]
  ·rw[if_neg t,if_neg t]
theorem Fo(a b:Nat):cl (2*a) b=2*cl a b:=Na a b _
theorem xX(a c t:Nat)(ht:t<2):cl a (2*c+t)=2*cl a c ^^^ (if t=1 then a else 0):=by
 rw[M9,Fo,Lj]
 have e1:(2*c+t)/2=c:=by omega
 have e2:(2*c+t)%2=t:=by omega
 rw[e1,e2]
theorem YL(a c:Nat):cl a (2*c)=2*cl a c:=by
 have h:=xX a c 0 (by decide)
 simpa using h
theorem Nb(c t:Nat)(ht:t<2):2*c ^^^ t=2*c+t:=by
 apply AG
 intro i
 cases i with
 | zero =>
  rw[mK,AH,AH,AH]
  have:t=0\/t=1:=by omega
  rcases this with h | h<;>subst h<;>simp<;>omega
 | succ i =>
  rw[mK,Eo,Eo,Eo]
  have e1:2*c/2=c:=by omega
  have e2:t/2=0:=by omega
  have e3:(2*c+t)/2=c:=by omega
  rw[e1,e2,e3];simp
theorem Fp:∀b:Nat,cl 1 b=b:=by
 intro b
 induction b using Ep with
 | ind b ih =>
  by_cases h:b=0
  ·subst h;rfl
  ·have e:b=2*(b/2)+b%2:=by omega
   rw[e,xX 1 (b/2) (b%2) (by omega),ih (b/2) (by omega)]
   have:b%2=0\/b%2=1:=by omega
   rcases this with h | h
   ·rw[h];simp
   ·rw[h];rw[if_pos rfl];exact Nb _ _ (by decide)
theorem xY:∀b a:Nat,cl a b=cl b a:=by
 intro b
 induction b using Ep with
 | ind b ih =>
  intro a
  by_cases h:b=0
  ·subst h;rw[oQ];rfl
  ·have e:b=2*(b/2)+b%2:=by omega
   have lt:b%2<2:=by omega
   have e':cl b a=cl (2*(b/2) ^^^ b%2) a:=by rw[Nb _ _ lt,<- e]
   rw[e',oO,Fo,<- ih (b/2) (by omega) a]
   have YM:cl a b=cl a (2*(b/2)+b%2):=by rw[<-e]
   rw[YM,xX _ _ _ lt]
   have:b%2=0\/b%2=1:=by omega
   rcases this with h | h
   ·rw[h,oQ];rfl
   ·rw[h,Fp];rfl
theorem Fq{a m:Nat}(h:a<2 ^ m)(b:Nat):∀k,P a b (k+1)<2 ^ (m+k)
 | 0=>by
  show 0 ^^^ _<_
  rw[oG,Nat.add_zero]
  by_cases t:b.testBit 0=true
  ·rw[if_pos t];simpa using h
  ·rw[if_neg t];exact xg m
 | k+1=>by
  show P a b (k+1) ^^^ _<_
  have i:=Fq h b k
  have p:2 ^ (m+k)<=2 ^ (m+(k+1)):=xh (by decide) (by omega)
  apply tU (cH i p)
  by_cases t:b.testBit (k+1)=true
  ·rw[if_pos t,kF,Nat.pow_add 2 m]
   exact(VB (xg _)).mpr h
  ·rw[if_neg t];exact xg _
theorem YN{a b m n:Nat}(h:a<2 ^ m)(h':b<2 ^ (n+1)):cl a b<2 ^ (m+n):=by
 rw[<-tT h'];exact Fq h b n
theorem YO{a b:Nat}(ha:a≠0)(hb:b≠0):2 ^ (bl a-1+(bl b-1))<=cl a b:=by
 have e:bl b=(bl b-1)+1:=by have:=ia hb;omega
 have ta:=tS ha
 have tb:=tS hb
 apply Nat.ge_two_pow_of_testBit
 unfold cl
 rw[e]
 show(P a b (bl b-1) ^^^ _).testBit _=true
 have e2:bl b-1+1-1=bl b-1:=by omega
 rw[e2,mK,if_pos tb]
 have f:(P a b (bl b-1)).testBit (bl a-1+(bl b-1))=false:=by
  cases q:bl b-1 with
  | zero=>show Nat.testBit 0 _=false;exact Nat.zero_testBit _
  | succ k =>
   apply Em
   have l:=Fq (je a) b k
   have p:=ia ha
   have e3:bl a-1+(k+1)=bl a+k:=by omega
   rw[e3];exact l
 rw[f,VC]
 have e4:bl a-1+(bl b-1)-(bl b-1)=bl a-1:=by omega
 rw[e4,ta]
 simp
theorem Nc{a b:Nat}(ha:a≠0)(hb:b≠0):bl (cl a b)=bl a+bl b-1:=by
 have p1:=ia ha
 have p2:=ia hb
 have h1:bl (cl a b)<=bl a+(bl b-1):=eR.mpr (YN (je a) (by
  have e:bl b-1+1=bl b:=by omega
  rw[e];exact je b))
 have h2:=Fl.mpr (YO ha hb)
 omega
theorem Nd(s b:Nat):cl (2 ^ s) b=b <<< s:=by
 induction s with
 | zero=>rw[Nat.pow_zero,Fp];rfl
 | succ s ih =>
  rw[oF,mJ,Fo,ih,kF,kF,oF]
  rw[<-sZ,mJ 2,sZ,mJ 2,<- sZ,sZ]
theorem YQ{a q b r s:Nat}(h:a=cl q b ^^^ r):a=cl (q ^^^ 2 ^ s) b ^^^ (r ^^^ b <<< s):=by
 rw[oO,Nd,h,M0]
theorem Nf{b r:Nat}(hb:b≠0)(h:bl b<=bl r):bl (r ^^^ b <<< (bl r-bl b))<bl r:=by
 have p:=ia hb
 have hr:r≠0:=by
  intro z;rw[z,mX]at h;omega
 have:r ^^^ b <<< (bl r-bl b)<2 ^ (bl r-1):=by
  apply MZ
  ·have e:bl r-1+1=bl r:=by omega
   rw[e];exact je r
  ·have e:bl r-1+1=bl b+(bl r-bl b):=by omega
   rw[e,kF,Nat.pow_add]
   exact(VB (xg _)).mpr (je b)
  ·exact tS hr
  ·rw[VC]
   have e:bl r-1-(bl r-bl b)=bl b-1:=by omega
   rw[e,tS hb]
   simp;omega
 have:=eR.mpr this
 omega
theorem YR{x y z:Nat}(h:x ^^^ y=z):x=z ^^^ y:=by
 rw[<-h,qu,AI,lH]
theorem Fs{x y:Nat}(h:x ^^^ y=0):x=y:=by
 have:=YR h
 rwa [oG]at this
theorem YS{b q r q' r':Nat}(h:cl q b ^^^ r=cl q' b ^^^ r')(hr:bl r<bl b)(aU:bl r'<bl b):q=q'/\r=r':=by
 have hb:b≠0:=by intro z;rw[z,mX]at hr;omega
 have e:cl (q ^^^ q') b=r ^^^ r':=by
  rw[oO]
  have z:(cl q b ^^^ r) ^^^ (cl q' b ^^^ r')=0:=by rw[h,AI]
  rw[M1]at z
  exact Fs z
 have lt:bl (r ^^^ r')<bl b:=by
  have h1:r<2 ^ (bl b-1):=eR.mp (by omega)
  have h2:r'<2 ^ (bl b-1):=eR.mp (by omega)
  have:=eR.mpr (tU h1 h2)
  have:=ia hb
  omega
 have z:q ^^^ q'=0:=by
  apply xi
  intro hq
  have h1:=Nc hq hb
  have h2:=ia hq
  rw[e]at h1
  omega
 have zq:=Fs z
 subst zq
 rw[z,oQ]at e
 exact⟨rfl,Fs e.symm⟩
end Mf
namespace Mf
open PySem PySem.Builtin.Int
theorem YT(x y:Nat):(x ^^^ y)+2*(x &&& y)=x+y:=by
 induction x using Ep generalizing y with
 | ind x ih =>
  by_cases h:x=0
  ·subst h;simp
  ·have h1:=ih (x/2) (by omega) (y/2)
   have e1:(x ^^^ y)/2=x/2 ^^^ y/2:=Nat.xor_div_two
   have e2:(x &&& y)/2=x/2 &&& y/2:=Nat.and_div_two
   have t:∀n:Nat,n%2=if n.testBit 0=true then 1 else 0:=by
    intro n
    rw[AH]
    by_cases h:n%2=1
    ·simp[h]
    ·simp[h];omega
   have m1:(x ^^^ y)%2=(x%2+y%2)%2:=by
    rw[t (x ^^^ y),t x,t y,mK]
    cases x.testBit 0<;>cases y.testBit 0<;>rfl
   have m2:(x &&& y)%2=x%2*(y%2):=by
    rw[t (x &&& y),t x,t y,Lk]
    cases x.testBit 0<;>cases y.testBit 0<;>rfl
   have d1:=Nat.div_add_mod (x ^^^ y) 2
   have d2:=Nat.div_add_mod (x &&& y) 2
   rw[e1]at d1
   rw[e2]at d2
   have hx:x%2=0\/x%2=1:=by omega
   have hy:y%2=0\/y%2=1:=by omega
   rcases hx with hx | hx<;>rcases hy with hy | hy<;>rw[hx,hy]at m1 m2<;>omega
theorem Ng{x y:Int}(hx:0<=x)(hy:0<=y):oB x y=((x.toNat &&& y.toNat:Nat):Int):=by
 unfold oB
 rw[decide_eq_true hx,decide_eq_true hy]
theorem YU{x y:Int}(hx:0<=x)(hy:0<=y):Builtin.bitOr x y=((x.toNat ||| y.toNat:Nat):Int):=by
 unfold Builtin.bitOr oB Builtin.bitNot
 rw[decide_eq_false (by omega),decide_eq_false (by omega)]
 show-(-((((- (-x-1)-1).toNat ||| (-(-y-1)-1).toNat:Nat):Int))-1)-1=_
 have e1:(- (-x-1)-1).toNat=x.toNat:=by omega
 have e2:(- (-y-1)-1).toNat=y.toNat:=by omega
 rw[e1,e2]
 omega
theorem YV(x y:Nat):(x ||| y)=(x ^^^ y)+(x &&& y):=by
 have d:(x ^^^ y) &&& (x &&& y)=0:=by
  apply AG;intro i
  simp only[mK,Lk,Nat.zero_testBit]
  cases x.testBit i<;>cases y.testBit i<;>rfl
 have e:(x ||| y)=(x ^^^ y) ^^^ (x &&& y):=by
  apply AG;intro i
  simp only[mK,Lk,Nat.testBit_or]
  cases x.testBit i<;>cases y.testBit i<;>rfl
 have h:=YT (x ^^^ y) (x &&& y)
 rw[d]at h
 rw[e];omega
theorem YW{x y:Int}(hx:0<=x)(hy:0<=y):oE x y=((x.toNat ^^^ y.toNat:Nat):Int):=by
 unfold oE
 rw[YU hx hy,Ng hx hy,YV]
 omega
theorem qS(x y:Nat):oE (x:Int) (y:Int)=((x ^^^ y:Nat):Int):=by
 rw[YW (by omega) (by omega)];rfl
theorem Nh(x y:Nat):oB (x:Int) (y:Int)=((x &&& y:Nat):Int):=by
 rw[Ng (by omega) (by omega)];rfl
theorem tV(x k:Nat):(x:Int)*2 ^ ((k:Int)).toNat=((x <<< k:Nat):Int):=by
 rw[kF]
 simp
theorem YX(x k:Nat):(x:Int)/2 ^ ((k:Int)).toNat=((x >>> k:Nat):Int):=by
 rw[VD]
 simp
theorem YY(x k:Nat):((x >>> k) &&& 1=1)↔x.testBit k=true:=by
 rw[Vz,VD]
 have:(x/2 ^ k) &&& 1=(x/2 ^ k)%2:=Nat.and_two_pow_sub_one_eq_mod _ 1
 rw[this]
 simp
end Mf
namespace Mf
end Mf
namespace Mf
theorem Ni(a b:Nat):∀c,cl (cl a b) c=cl a (cl b c):=by
 intro c
 induction c using Ep with
 | ind c ih =>
  by_cases h:c=0
  ·subst h;rfl
  ·have e:c=2*(c/2)+c%2:=by omega
   have lt:c%2<2:=by omega
   have i:=ih (c/2) (by omega)
   rw[e,xX _ _ _ lt,xX _ _ _ lt,i,YI,YL]
   have:c%2=0\/c%2=1:=by omega
   rcases this with h | h
   ·rw[h];rfl
   ·rw[h];rfl
noncomputable def tW:Nat->Nat->Nat->Nat
 | 0,a,_=>a
 | n+1,a,b=>if bl a<bl b then a else tW n (a ^^^ b <<< (bl a-bl b)) b
noncomputable def md(a b:Nat):Nat:=tW (bl a+1) a b
theorem Nj{b:Nat}(hb:b≠0):∀n a,bl a<n->(∃q,a=cl q b ^^^ tW n a b)/\bl (tW n a b)<bl b
 | 0,_,h=>absurd h (by omega)
 | n+1,a,h=>by
  unfold tW
  by_cases l:bl a<bl b
  ·rw[if_pos l]
   exact⟨⟨0,by rw[oQ,oG]⟩,l⟩
  ·rw[if_neg l]
   have gM:=Nf hb (show bl b<=bl a by omega)
   obtain⟨⟨q,e⟩,l2⟩:=Nj hb n (a ^^^ b <<< (bl a-bl b)) (by omega)
   refine⟨⟨q ^^^ 2 ^ (bl a-bl b),?_⟩,l2⟩
   rw[oO,Nd]
   have e2:a=(a ^^^ b <<< (bl a-bl b)) ^^^ b <<< (bl a-bl b):=by rw[qu,AI,lH]
   rw[e]at e2
   refine e2.trans ?_
   generalize tW n _ b=r
   rw[qu,Lj r,<- qu]
theorem xZ{b:Nat}(hb:b≠0)(a:Nat):(∃q,a=cl q b ^^^ md a b)/\bl (md a b)<bl b:=Nj hb _ a (by omega)
theorem x6{a b q r:Nat}(h:a=cl q b ^^^ r)(hr:bl r<bl b):md a b=r:=by
 have hb:b≠0:=by intro z;rw[z,mX]at hr;omega
 obtain⟨⟨q',e⟩,l⟩:=xZ hb a
 exact(YS (e.symm.trans h) l hr).2
theorem YZ(q:Nat){b:Nat}(hb:b≠0):md (cl q b) b=0 :=
 x6 (q:=q) (by rw[lH]) (by rw[mX];exact ia hb)
end Mf
namespace Mf
theorem Y0(y:Nat):bl (y/2)=bl y-1:=by
 by_cases h:y=0
 ·subst h;rfl
 ·have p:=ia h
  have h1:bl (y/2)<=bl y-1:=eR.mpr (M8 (by
   have e:bl y-1+1=bl y:=by omega
   rw[e];exact je y))
  have h2:bl y<=bl (y/2)+1:=eR.mpr (by
   have:=je (y/2)
   rw[oF];omega)
  omega
theorem Y3(x:Nat):bl (2*x)<=bl x+1:=eR.mpr (by
 have:=je x
 rw[oF];omega)
theorem Ft{x y:Nat}(h:x<=y):bl x<=bl y:=eR.mpr (mL h (je y))
end Mf
namespace Mf
noncomputable def al(a:Nat):Bool:=decide (2<=a)&&(bh (2 ^ ((bl a-1)/2+1)-2)).all λi=>md a (2+i) != 0
theorem Y4{a:Nat}(h:a<2):al a=false:=by
 unfold al;rw[decide_eq_false (by omega)];rfl
theorem Y5{a:Nat}(h:2<=a)(k:∀i,i<2 ^ ((bl a-1)/2+1)-2->md a (2+i)≠0):al a=true:=by
 unfold al
 rw[decide_eq_true h,lJ,cX]
 intro i hi
 have:=k i (eJ.mp hi)
 simpa using this
theorem Y6{a i:Nat}(k:i<2 ^ ((bl a-1)/2+1)-2)(z:md a (2+i)=0):al a=false:=by
 unfold al
 rw[Bool.and_eq_false_iff]
 right
 rw[List.all_eq_false]
 exact⟨i,eJ.mpr k,by simp[z]⟩
theorem Y7{a:Nat}(h:2<=a){b:Nat}(hb:b<2 ^ ((bl a-1)/2+1)):b<a/\2*bl b<=bl a+1:=by
 have h2:2<=bl a:=by
  have:=Fl.mpr (show 2 ^ 1<=a by omega)
  omega
 have l:=eR.mpr hb
 refine⟨cH hb (eK (xh (by decide) ?_) (MY (by omega))),by omega⟩
 omega
end Mf
namespace L2
open PySem PySem.Spec PyProof.Rows Mf
theorem ft:bootBuiltins "len"=some (.builtin "len"):=by decide +kernel
theorem Nk:bootBuiltins "isinstance"=some (.builtin "isinstance"):=by decide +kernel
theorem Y8:bootBuiltins "min"=some (.builtin "min"):=by decide +kernel
theorem BN:bootBuiltins "all"=some (.builtin "all"):=by decide +kernel
theorem Y9:bootBuiltins "any"=some (.builtin "any"):=by decide +kernel
theorem Za:bootBuiltins "int"=some (.type "int"):=by decide +kernel
theorem Nl:bootBuiltins "str"=some (.type "str"):=by decide +kernel
theorem Zb:bootBuiltins "bool"=some (.type "bool"):=by decide +kernel
theorem qT:bootBuiltins "list"=some (.type "list"):=by decide +kernel
theorem Zc:bootBuiltins "ValueError"=some (.type "ValueError"):=by decide +kernel
section
variable{X:Cx}{a b o:Expr}{ta tb to:TE}{pos apos bN:Pos}
theorem Nm(i:Int):Builtin.Int.intBits i=bl i.natAbs:=by
 unfold Builtin.Int.intBits bl
 by_cases h:i=0
 ·subst h;rfl
 ·have h':¬ i.natAbs=0:=by omega
  rw[if_neg h',if_neg (by simpa using h)]
noncomputable def Nn:V->List V->Hp->VK->Prop:=λx vs H Q=>∃i,x=.int i/\vs=[]/\Q (.int (bl i.natAbs:Nat)) H
theorem Ze:xQ X "int.bit_length" Nn:=by
 intro pins s σ H x xs v us Q I rx rs h
 obtain⟨i,rfl,rfl,q⟩:=h
 obtain⟨t,rfl⟩:=rx
 cases rs
 refine call_int_bit_length ?_
 rw[Nm]
 exact⟨.int _,H,I.tok _,⟨_,rfl⟩,q⟩
theorem Fu(ho:PE X o to)(kL:attributeBase o "bit_length" X.env (eval o X.env)=eval o X.env:=by rfl)(kM:(apos.endLine==bN.line)=true:=by rfl) :
  PE X (.Call (.Attribute o "bit_length" apos) [] [] bN) (MP X.K "int" Nn to) :=
 Yp PySem.F.plainAttrs_int PySem.F.slot_int_bit_length PySem.F.type_int_bit_length Ze ho kL kM
noncomputable def Np(i j:Int):Prop:=0<=j/\((bl i.natAbs:Nat):Int)+j<=134217728
theorem Nq:cC X (binaryOp .LShift) (rI Np λi j=>.int (i*2 ^ j.toNat)):=tM λi j _ _ _ _ _ hc q =>
 lshift_int hc.1 (by rw[Nm];exact Int.le_trans hc.2 (by decide)) q
theorem Nr{x:Str}{n:String}(hg:Gl X x)(hm:X.mg x=none)(hv:bootBuiltins x=some (.type n))(hn:x≠"__name__":=by decide)(hd:(x==("__debug__":Str))=false:=by decide):PE X (.Name x pos) (tC (.ty n)) :=
 Wi hg hm hv rfl hn hd
noncomputable def Zf(K:PySem.W.Frag):List V->Hp->VK->Prop:=λxs H Q=>∃x n t b,xs=[x,.ty n]/\hJ K H x t/\PySem.W.kitOne K t (.type n)=some b/\Q (.bl b) H
theorem Zg:gE X (.builtin "isinstance") (Zf X.K):=by
 intro pins s σ H xs us Q I r h
 obtain⟨x,n,t,b,rfl,ty,e,q⟩:=h
 obtain⟨u,v,rfl,ru,rv⟩:=r.two
 cases(show v=Value.type n from rv)
 exact Mv I ru ty e λtk=>⟨.bl b,H,I.tok _,rfl,q⟩
end
theorem Zh(b i:Nat):decide (V.int (oB ((b:Int)/2 ^ ((0:Int)+(i:Int)).toNat) 1)=V.int 1)=b.testBit i:=by
 have e:((0:Int)+(i:Int)).toNat=((i:Int)).toNat:=by omega
 rw[e,YX,show(1:Int)=((1:Nat):Int) from rfl,Nh,s8,decide_eq_true_iff,<- YY]
 constructor
 ·intro h;injection h with h;omega
 ·intro h;rw[h]
theorem Zi{a b i:Nat}(h:b.testBit i=true):oE ((P a b i:Nat):Int) ((a:Int)*2 ^ ((0:Int)+(i:Int)).toNat)=((P a b (i+1):Nat):Int):=by
 have e:((0:Int)+(i:Int)).toNat=((i:Int)).toNat:=by omega
 rw[e,tV,qS]
 show _=((P a b i ^^^ (if b.testBit i then a <<< i else 0):Nat):Int)
 rw[if_pos h]
theorem Zj{a b i:Nat}(h:¬ b.testBit i=true):P a b (i+1)=P a b i:=by
 show P a b i ^^^ (if b.testBit i then a <<< i else 0)=_
 rw[if_neg h,lH]
theorem dI{i j:Int}:decide (V.int i=V.int j)=true↔i=j:=by
 rw[decide_eq_true_iff]
 exact⟨λh=>by injection h,λh=>by rw[h]⟩
end L2
namespace L2
open PySem PySem.Spec PyProof.Rows
section
variable{X:Cx}
end
end L2
namespace L2
open PySem PySem.Spec PyProof.Rows
noncomputable def BO(X:Cx)(scope:Scope)(N:List Str)(cl:List (Str × Addr))(C:Addr)(s:Shared)(H:Hp)(fp:List Addr):Cx where
 prog:=X.prog
 w:=X.w
 K:=X.K
 mg:=X.mg
 base:=X.base
 A:=X.A
 N:=N
 cw:=s
 j3:=H
 env:=compEnvC scope cl C X.env
 outer:=X.stack
 stack:=X.stack
 ex:=fp
 fn:=λ_=>false
 calm:=X.calm
 pn:=[]
 xe:=λ_ _=>False
noncomputable def mY(X:Cx)(scope:Scope)(cl:List (Str × Addr)):List (Str × Nat)->Prop
 | []=>True
 | (y,i)::r=>(X.N[i]?=some y/\(X.env.scope.names.lookup y=some .cell\/X.env.scope.names.lookup y=some .free)/\((relabel scope X.env).names.lookup y=some .cell\/(relabel scope X.env).names.lookup y=some .free)/\∃c,cl.lookup y=some c/\X.env.cells.lookup y=some c)/\mY X scope cl r
theorem mY.at{X:Cx}{scope:Scope}{cl:List (Str × Addr)}:∀{aD:List (Str × Nat)},mY X scope cl aD->∀p∈aD,X.N[p.2]?=some p.1/\(X.env.scope.names.lookup p.1=some .cell\/X.env.scope.names.lookup p.1=some .free)/\((relabel scope X.env).names.lookup p.1=some .cell\/(relabel scope X.env).names.lookup p.1=some .free)/\∃c,cl.lookup p.1=some c/\X.env.cells.lookup p.1=some c
 | [],_,p,hp=>absurd hp (by simp)
 | (y,i)::r,h,p,hp=>by
  rcases cq.mp hp with e | e
  ·subst e;exact h.1
  ·exact mY.at h.2 p e
noncomputable def mZ(Y:Cx)(ifs:List Expr)(t:TT):Prop :=
 ∀(pins:List (Addr × Obj)) (s:Shared) (σ:St) (H:Hp) (Q:Bool->Hp->Prop),Inv Y pins σ H s->t σ H Q ->
  wpAny (model Y.prog Y.w) Y.A (forIn ifs true λc r=>if r=true then do let ok<-isTrue c Y.env (eval c Y.env);pure (Er ok)else pure (Er r)) (TP Y pins σ Q) Y.xe s
noncomputable def Zk:TT:=λ_ H Q=>Q true H
theorem Zl{Y:Cx}:mZ Y [] Zk:=λ_ _ _ H _ I h=>wpAny_tests_nil ⟨H,I,h⟩
theorem Zm{Y:Cx}{c:Expr}{t:TT}(h:PT Y c t):mZ Y [c] t:=λpins s σ H Q I q=>wpAny_tests_one (h pins s σ H Q I q)
section
variable{X:Cx}{elt iter:Expr}{x:Str}{px pos:Pos}{ifs:List Expr}{scope:Scope}{cl:List (Str × Addr)}{aD:List (Str × Nat)}{wi:TI}{tt:TT}{te:TE}
end
section
variable{prog:Program}{w:World}{A:Around}{R:Result->Shared->Prop}{s:Shared}
theorem Zn{elt target iter:Expr}{ifs:List Expr}{scope:Scope}{pos:Pos}{it acc:Value}{env:Env}(Iv:Nat->Shared->Prop)
  (turn:∀n s,Iv n s->wpAny (model prog w) A (pyNext it) (λr s1=>match r with
   | none=>R (.ok .next) s1
   | some v=>wpAny (model prog w) A (letOwnedTupleGo target it v) (λ_ t1=>wpAny (model prog w) A (assign target env v) (λ_ s2 =>
     wpAny (model prog w) A (forIn ifs true λc r=>if r=true then do let ok<-isTrue c env (eval c env);pure (Er ok)else pure (Er r)) (λok s3 =>
      if ok=true then wpAny (model prog w) A (eval elt env) (λy s4=>wpAny (model prog w) A (call (.builtin "list.append") [acc,y]) (λ_ s5=>∃m,m<n/\Iv m s5) (λ_ _=>False) s4) (λ_ _=>False) s3
      else ∃m,m<n/\Iv m s3) (λ_ _=>False) s2) (λ_ _=>False) t1) (λ_ _=>False) s1) (λ_ _=>False) s)
  (n:Nat) (h:Iv n s):codeAny (model prog w) A (.compLoop (.ListComp elt [⟨target,iter,ifs,0⟩] scope pos) 0 it acc env) R s:=by
 refine codeAny_loop rfl Iv (λn s hI=>?_) n h
 change wpAny _ A (Sem.onRaise (compTurn (.ListComp elt [⟨target,iter,ifs,0⟩] scope pos) 0 it acc env) λx=>do noteFrame x env;theTreesLotGoes x) _ _ s
 refine wpAny_noted (wpAny_mono (E:=λ_ _=>False) ?_ (λ_ _ q=>q) λ_ _ z=>z.elim)
 rw[compTurn_list]
 refine wpAny_bind (wpAny_standAt (wpAny_bind (aO (turn n s hI) λr s1 h1=>?_)))
 cases r with
 | none=>exact wpAny_pure h1
 | some v =>
  refine wpAny_bind (aO h1 λ_ t1 k1=>wpAny_bind (aO k1 λ_ s2 h2=>wpAny_bind (aO h2 λok s3 h3=>?_)))
  cases ok with
  | false=>exact wpAny_pure ⟨rfl,h3⟩
  | true=>exact wpAny_bind (wpAny_bind (aO h3 λy s4 h4=>wpAny_bind (aO h4 λ_ s5 h5=>wpAny_pure (wpAny_pure ⟨rfl,h5⟩))))
end
section
variable{X:Cx}{elt iter:Expr}{x:Str}{px pos:Pos}{ifs:List Expr}{scope:Scope}{cl:List (Str × Addr)}{aD:List (Str × Nat)}{wi:TI}{tt:TT}{te:TE}
end
end L2
namespace L2
open PySem PySem.Spec PyProof.Rows
section
variable{X:Cx}
theorem Nt{bs:List Bool}{us:List Value}(r:Vals (bs.map V.bl) us):bs.length=us.length/\∀(i:Nat) (v:Value),us[i]?=some v->∃b,bs[i]?=some b/\v=.bool b:=by
 have l:=r.length
 rw[aS]at l
 refine⟨l,λi v e=>?_⟩
 have hi:i<us.length:=(kE.mp e).1
 have hb:i<bs.length:=by omega
 obtain⟨u,e2,q⟩:=r.get (i:=i) (x:=V.bl bs[i]) (by rw[cU,bc hb];rfl)
 rw[e]at e2
 cases e2
 exact⟨bs[i],bc hb,q⟩
theorem Nu{s:Shared}{h':Heap}{o:Obj}(hk:∀b x,b ∉ [s.heap.objs.size]->(s.heap.push o).get? b=some x->h'.get? b=some x)(b:Addr)(x:Obj)(e:s.heap.get? b=some x):h'.get? b=some x :=
 hk b x (λhm=>gA _ (by have:=bH e;rw[dG.mp hm]at this;exact this)) (fC _ e)
theorem Zo(bs:List Bool):((bh bs.length).all λi=>(bs[i]?).getD true)=bs.all id:=by
 rw[s8,cX,cX]
 constructor
 ·intro h b hb
  obtain⟨i,hi,rfl⟩:=lK hb
  have:=h i (eJ.mpr hi)
  rwa [bc hi]at this
 ·intro h i hi
  have cZ:=eJ.mp hi
  rw[bc cZ]
  exact h _ (eN cZ)
theorem Zp(bs:List Bool):((bh bs.length).any λi=>(bs[i]?).getD false)=bs.any id:=by
 rw[s8,AJ,AJ]
 constructor
 ·rintro⟨i,hi,h⟩
  have cZ:=eJ.mp hi
  rw[bc cZ]at h
  exact⟨_,eN cZ,h⟩
 ·rintro⟨b,hb,h⟩
  obtain⟨i,hi,rfl⟩:=lK hb
  exact⟨i,eJ.mpr hi,by rw[bc hi];exact h⟩
theorem Zq(hc:X.calm=true):gE X (.builtin "all") (λxs H Q=>∃(p:Addr) (bs:List Bool),xs=[.ref p]/\bw X.K H p (bs.map V.bl)/\Q (.bl (bs.all id)) H):=by
 intro pins s σ H xs us Q I r h
 obtain⟨p,bs,rfl,hS,q⟩:=h
 obtain⟨u,rfl,ru⟩:=r.one
 cases ru
 obtain⟨its,rv,pl,hz⟩:=I.list hS
 obtain⟨hlen,Fv⟩:=Nt rv
 have hl:=pl.isList
 have fQ:p<s.heap.objs.size:=by obtain⟨_,e,_⟩:=hl;exact bH e
 refine call_all_walk (wpAny_pyIter_list hl ?_)
 refine⟨s.heap.objs.size,[s.heap.objs.size,p],[s.heap.objs.size],its.toArray.size,_,_,λi=>(bs[i]?).getD true,rfl,Walks.list (A:=X.A.in1) (I.ok.hd hc) _ p (eB fQ) its.toArray,
  ⟨⟨_,gX _ rfl,rfl,rfl⟩,hl.push _⟩,λi v s' Q' E' hP hQ=>?_,λh' tk hk=>?_⟩
 ·obtain⟨b,e,rfl⟩:=Fv i v (by simpa using hP)
  simp only[e,s9]at hQ
  exact wpAny_truthy_bool hQ
 ·have e:((bh its.toArray.size).all λi=>(bs[i]?).getD true)=bs.all id:=by
   rw[dO,<- hlen];exact Zo bs
  rw[e]
  exact⟨.bl _,H,I.kept (h':=h') (t':=tk) (Nu hk),rfl,q⟩
theorem Zr(hc:X.calm=true):gE X (.builtin "any") (λxs H Q=>∃(p:Addr) (bs:List Bool),xs=[.ref p]/\bw X.K H p (bs.map V.bl)/\Q (.bl (bs.any id)) H):=by
 intro pins s σ H xs us Q I r h
 obtain⟨p,bs,rfl,hS,q⟩:=h
 obtain⟨u,rfl,ru⟩:=r.one
 cases ru
 obtain⟨its,rv,pl,hz⟩:=I.list hS
 obtain⟨hlen,Fv⟩:=Nt rv
 have hl:=pl.isList
 have fQ:p<s.heap.objs.size:=by obtain⟨_,e,_⟩:=hl;exact bH e
 refine call_any_walk (wpAny_pyIter_list hl ?_)
 refine⟨s.heap.objs.size,[s.heap.objs.size,p],[s.heap.objs.size],its.toArray.size,_,_,λi=>(bs[i]?).getD false,rfl,Walks.list (A:=X.A.in1) (I.ok.hd hc) _ p (eB fQ) its.toArray,
  ⟨⟨_,gX _ rfl,rfl,rfl⟩,hl.push _⟩,λi v s' Q' E' hP hQ=>?_,λh' tk hk=>?_⟩
 ·obtain⟨b,e,rfl⟩:=Fv i v (by simpa using hP)
  simp only[e,s9]at hQ
  exact wpAny_truthy_bool hQ
 ·have e:((bh its.toArray.size).any λi=>(bs[i]?).getD false)=bs.any id:=by
   rw[dO,<- hlen];exact Zp bs
  rw[e]
  exact⟨.bl _,H,I.kept (h':=h') (t':=tk) (Nu hk),rfl,q⟩
end
noncomputable def m5(X:Cx):List (Str × Addr)->Prop
 | []=>True
 | (y,c)::r=>X.env.cells.lookup y=some c/\m5 X r
theorem m5.all{X:Cx}:∀{cl:List (Str × Addr)},m5 X cl->∀y c,cl.lookup y=some c->X.env.cells.lookup y=some c
 | [],_,y,c,h=>by simp at h
 | (z,d)::r,h,y,c,e=>by
  rw[gC]at e
  cases q:y==z with
  | true =>
   rw[q]at e
   cases e
   rw[eq_of_beq q]
   exact h.1
  | false =>
   rw[q]at e
   exact m5.all h.2 y c e
noncomputable def m6(cl:List (Str × Addr)):List (Str × NameKind)->Prop
 | []=>True
 | (y,k)::r=>(k=.local\/k=.globalImplicit\/∃c,cl.lookup y=some c)/\m6 cl r
theorem m6.all{cl:List (Str × Addr)}:∀{ns:List (Str × NameKind)},m6 cl ns->∀y,(ns.lookup y=some .cell\/ns.lookup y=some .free)->∃c,cl.lookup y=some c
 | [],_,y,h=>by simp at h
 | (z,k)::r,h,y,e=>by
  rw[gC]at e
  cases q:y==z with
  | true =>
   rw[q]at e
   rw[eq_of_beq q]
   rcases h.1 with g | g | g
   ·rw[g]at e;rcases e with e | e<;>cases e
   ·rw[g]at e;rcases e with e | e<;>cases e
   ·exact g
  | false =>
   rw[q]at e
   exact m6.all h.2 y e
section
variable{X:Cx}{elt iter:Expr}{x:Str}{px pos:Pos}{ifs:List Expr}{scope:Scope}{cl:List (Str × Addr)}{wi:TI}{tt:TT}{te:TE}
end
end L2
namespace L2
open PySem PySem.Spec PyProof.Rows Mf
end L2
namespace L2
end L2
namespace L2
open PySem PySem.Spec PyProof.Rows
noncomputable def ib(aD:List (Str × Nat))(n:Nat)(σ:L2.St):St:=(aD.map λp=>(σ[p.2]?).getD none)++bg n none
noncomputable def Nv(J:It)(aD:List (Str × Nat))(n:Nat)(g:TG)(tt:TT)(te:TE)(σ:L2.St)(H1:Hp)(Q:VK):Prop:=∀D,H1 D=none->∃W:Nat->Nat->List V->Hp->Prop,(∃m,W 0 m [] (upd H1 D (.lst []))) /\
 ∀i m acc H2,W i m acc H2->H2 D=some (.lst acc)/\((J.stop i H2/\Q (.ref D) H2)\/(J.go i H2/\∀x H3,J.j7 i H2 x H3->H3 D=some (.lst acc)/\g x (ib aD n σ) H3 λgJ H4 =>
  (gJ.length=(ib aD n σ).length/\∀j,j<aD.length->gJ[j]?=(ib aD n σ)[j]?)/\tt gJ H4 λb H5=>H5 D=some (.lst acc) /\
  if b=true then te gJ H5 λy H6=>H6 D=some (.lst acc)/\acc.length<sizeLine/\∃m',m'<m/\W (i+1) m' (acc++[y]) (upd H6 D (.lst (acc++[y])))else ∃m',m'<m/\W (i+1) m' acc H5))
noncomputable def BP(wi:TI)(aD:List (Str × Nat))(n:Nat)(g:TG)(tt:TT)(te:TE):TE:=λσ H Q=>wi σ H λJ H1=>Nv J aD n g tt te σ H1 Q
section
variable{X:Cx}{elt iter tg:Expr}{pos:Pos}{ifs:List Expr}{scope:Scope}{cl:List (Str × Addr)}{wi:TI}{tt:TT}{te:TE}{g:TG}
end
end L2
namespace L2
open PySem PySem.Spec PyProof.Rows
section
variable{X:Cx}{tg:Expr}
end
end L2
namespace L2
open PySem PySem.Spec PyProof.Rows
noncomputable def Fw(h:Heap)(a T:Addr)(cls fl:Value):Prop :=
 ∃oe vs oT ts,h.get? a=some oe/\oe.cls=cls/\oe.dict=none/\oe.data=.fields vs/\vs[1]?=some (.ref T)/\T≠a/\h.get? T=some oT/\oT.data=.fields ts/\ts[3]?=some fl
noncomputable abbrev ie(h:Heap)(a T:Addr)(cls:Value):Prop:=Fw h a T cls .none
theorem Zs(o:Obj)(f:Array Value->Array Value):(o.mapFields f).dict=o.dict:=by
 obtain⟨c,d,dt,sl⟩:=o
 cases dt<;>rfl
section
variable{M:Model}{A:Around}{E:Value->Shared->Prop}{s:Shared}{base:Heap}{env:Env}{outer:List Env}{L a T:Addr}{cls:Value}{oe:Obj}{vs:Array Value}{Q:Unit->Shared->Prop}
structure Ent(fs:List Addr)(h h':Heap)(a T:Addr)(oe:Obj)(L:Addr):Prop where
 new:h.get? T=none
 ne:T≠a
 keep:∀b o,b≠a->b ∉ fs->h.get? b=some o->h'.get? b=some o
 slot:∀b o,b≠a->h.get? b=some o->∃sl,h'.get? b=some { o with slots:=sl }
 exc:h'.get? a=some (oe.mapFields λz=>z.setIfInBounds 1 (.ref T))
 ent:∃oT ts,h'.get? T=some oT/\oT.data=.fields ts/\ts[3]?=some (rawInt L)
theorem Nw{head:Value}{Zt:Bool}(eT:A.frames=some (env::outer))(hl:s.heap.FunFrames base (env::outer))(hf:env.frame=some L)(he:s.heap.get? a=some oe)(hd:oe.data=.fields vs)(lV:1<vs.size)
  (na:a ∉ (env::outer).filterMap (·.frame)) (k:∀h' T',Ent ((env::outer).filterMap (·.frame)) s.heap h' a T' oe L->Q () { s with heap:=h' }) :
  wpAny M A (do let x<-frameOf env;let pl<-entryPlaceOf L Zt;let b<-EntryCells.newEntry head x .none (rawInt L) .none pl;setField (.ref a) 1 b) Q E s:=by
 refine wpAny_bind (wpAny_frameOf_fun eT hl hf λg1 so=>wpAny_bind (wpAny_entryPlaceOf λpl ip=>?_))
 unfold EntryCells.newEntry newFields
 have e1:g1.get? a=some oe:=(so.2.1 a na).trans he
 refine wpAny_bind (wpAny_newObj_type ?_ (ip.sizeOk5 _ _ _ _ _))
 generalize Nx:({ cls:=.type "traceback",dict:=none,data:=.fields ([head,cA L,.none,rawInt L,.none]++(if pl.isEmpty then bg 6 qm else pl)).toArray }:Obj)=te
 have e2:(g1.push te).get? a=some oe:=fC te e1
 have Zu:te.data=.fields ([head,cA L,.none,rawInt L,.none]++(if pl.isEmpty then bg 6 qm else pl)).toArray:=by rw[<-Nx]
 have nf:te.isFreed=false:=by rw[<-Nx];rfl
 refine wpAny_setField e2 hd lV ?_
 have d3:=Es hd λz=>z.setIfInBounds 1 (cA g1.objs.size)
 have nT:g1.objs.size≠a:=Le (bH e1)
 refine k _ g1.objs.size ⟨?_,nT,λb o hb hz q=>?_,λb o hb q=>?_,Ek _ e2 (Ll d3),⟨te,_,?_,Zu,?_⟩⟩
 ·cases q:s.heap.get? g1.objs.size with
  | none=>rfl
  | some o=>obtain⟨sl,z⟩:=so.2.2 _ _ q;exact absurd (bH z) (gA _)
 ·rw[qp _ _ (dN hb)]
  exact fC te ((so.2.1 b hz).trans q)
 ·obtain⟨sl,z⟩:=so.2.2 b o q
  refine⟨sl,?_⟩
  rw[qp _ _ (dN hb)]
  exact fC te z
 ·rw[qp _ _ (dN nT)]
  exact gX g1 nf
 ·first | (simp;done) | (rcases ip with rfl | ⟨_,_,_,_,_,_,_,rfl⟩<;>simp)
structure Ny(fs Z:List Addr)(h h':Heap)(a T:Addr)(cls:Value):Prop where
 new:h.get? T=none
 keep:∀b o,b ∉ Z->b ∉ fs->h.get? b=some o->h'.get? b=some o
 slot:∀b o,b ∉ Z->h.get? b=some o->∃sl,h'.get? b=some { o with slots:=sl }
 tX:ie h' a T cls
theorem Fx{fl:Value}(tr:Fw s.heap a T cls fl)(k:∀h',(∀b o,b≠T->s.heap.get? b=some o->h'.get? b=some o)->ie h' a T cls->Q () { s with heap:=h' }):wpAny M A (setFlight (.ref a) none) Q E s:=by
 obtain⟨oe,vs,oT,ts,h1,h2,h3,h4,h5,h6,h7,h8,h9⟩:=tr
 have sz:3<ts.size:=(Lm.mp h9).1
 unfold setFlight
 refine wpAny_bind (wpAny_field h1 h4 h5 ?_)
 rw[if_pos (by simp)]
 refine wpAny_setField h7 h8 sz (k _ (λb o hb q=>(qp _ _ (dN hb)).trans q) ?_)
 have d:=Es h8 λz=>z.setIfInBounds 3 ((none:Option Addr).elim qm λf=>rawInt f)
 exact⟨oe,vs,_,_,(qp _ _ h6).trans h1,h2,h3,h4,h5,h6,Ek _ h7 (Ll d),d,by simp[sz]⟩
theorem Ent.fin{fs:List Addr}{h h':Heap}{a T L:Addr}{oe:Obj}{vs:Array Value}(e:Ent fs h h' a T oe L)(hd:oe.data=.fields vs)(lV:1<vs.size)(Zv:oe.dict=none):Fw h' a T oe.cls (rawInt L):=by
 obtain⟨oT,ts,e1,e2,e3⟩:=e.ent
 exact⟨_,_,oT,ts,e.exc,Obj.cls_mapFields _ _,by rw[Zs];exact Zv,Es hd _,by simp[lV],e.ne,e1,e2,e3⟩
theorem Nz(eT:A.frames=some (env::outer))(hl:s.heap.FunFrames base (env::outer))(hf:env.frame=some L)(na:a ∉ (env::outer).filterMap (·.frame))(tr:ie s.heap a T cls)
  (k:∀h' T',Ny ((env::outer).filterMap (·.frame)) [a,T] s.heap h' a T' cls->Q () { s with heap:=h' }):wpAny M A (noteFrame (.ref a) env) (λ_ jE=>wpAny M A (setFlight (.ref a) none) Q E jE) E s:=by
 obtain⟨oe,vs,oT,ts,h1,h2,h3,h4,h5,h6,h7,h8,h9⟩:=tr
 have s1:1<vs.size:=(Lm.mp h5).1
 have s3:3<ts.size:=(Lm.mp h9).1
 unfold noteFrame
 simp only[hf]
 refine wpAny_bind (wpAny_field h1 h4 h5 ?_)
 rw[if_pos (by simp)]
 refine wpAny_bind (wpAny_field h7 h8 h9 ?_)
 rw[if_neg (by simp[rawInt])]
 refine wpAny_bind (wpAny_setField h7 h8 s3 ?_)
 generalize hg:s.heap.update T (Obj.mapFields λz=>z.setIfInBounds 3 qm)=g
 have qU:∀b,b≠T->g.get? b=s.heap.get? b:=λb hb=>by rw[<-hg];exact qp _ _ (dN hb)
 have bT:∀b o,s.heap.get? b=some o->(∀ws,o.data≠.fields ws)->b≠T:=λb o q hn z=>by subst z;rw[h7]at q;cases q;exact hn ts h8
 have gT:∃Zw,g.get? T=some Zw:=⟨_,by rw[<-hg];exact Ek _ h7 (Ll (Es h8 _))⟩
 refine Nw (s:={ s with heap:=g }) eT (hl.of_keeps λb o q hn=>⟨o,(qU b (bT b o q hn)).trans q,rfl⟩) hf ((qU a (dN h6)).trans h1) h4 s1 na λh' T' en=>?_
 have Zx:T'≠T:=λz=>by subst z;obtain⟨o,q⟩:=gT;rw[en.new]at q;cases q
 refine Fx (s:={ s with heap:=h' }) (h2 ▸ en.fin h4 s1 h3) λFy kp Fz=>?_
 refine k Fy T' ⟨(qU T' Zx).symm.trans en.new,λb o hz hb q=>?_,λb o hz q=>?_,Fz⟩
 ·have z1:b≠a:=λz=>hz (by simp[z])
  have z2:b≠T:=λz=>hz (by simp[z])
  have z3:b≠T':=λz=>by have:=en.new;rw[<-z,qU b z2,q]at this;cases this
  exact kp b o z3 (en.keep b o z1 hb ((qU b z2).trans q))
 ·have z1:b≠a:=λz=>hz (by simp[z])
  have z2:b≠T:=λz=>hz (by simp[z])
  have z3:b≠T':=λz=>by have:=en.new;rw[<-z,qU b z2,q]at this;cases this
  obtain⟨sl,r⟩:=en.slot b o z1 ((qU b z2).trans q)
  exact⟨sl,kp b _ z3 r⟩
theorem Zy{h1:Heap}{args:List Value}(eT:A.frames=some (env::outer))(hl:s.heap.FunFrames base (env::outer))(hf:env.frame=some L)(hx:Ln s.heap h1 a cls args)
  (k:∀h' T',Ny ((env::outer).filterMap (·.frame)) [] s.heap h' a T' cls->Q () { s with heap:=h' }):wpAny M A (noteFrame (.ref a) env) (λ_ jE=>wpAny M A (setFlight (.ref a) none) Q E jE) E { s with heap:=h1 }:=by
 obtain⟨t,e1,_,_⟩:=hx.there
 have na:a ∉ (env::outer).filterMap (·.frame):=λhb=>by obtain⟨_,o,ho,_⟩:=hl.mem hb;rw[hx.new]at ho;cases ho
 unfold noteFrame
 simp only[hf]
 refine wpAny_bind (wpAny_field (s:={ s with heap:=h1 }) e1 rfl (x:=.none) (by rfl) ?_)
 rw[if_neg (by decide)]
 refine Nw (s:={ s with heap:=h1 }) eT (hl.of_keeps λb o q _=>⟨o,hx.keeps b o q,rfl⟩) hf e1 rfl (by simp) na λh' T' en=>?_
 refine Fx (s:={ s with heap:=h' }) (en.fin rfl (by simp) rfl) λFy kp Fz=>?_
 have ba:∀b o,s.heap.get? b=some o->b≠a:=λb o q z=>by rw[z,hx.new]at q;cases q
 have bT:∀b o,s.heap.get? b=some o->b≠T':=λb o q z=>by have:=hx.keeps b o q;rw[z,en.new]at this;cases this
 refine k Fy T' ⟨?_,λb o _ hb q=>kp b o (bT b o q) (en.keep b o (ba b o q) hb (hx.keeps b o q)),λb o _ q=>?_,Fz⟩
 ·cases q:s.heap.get? T' with
  | none=>rfl
  | some o=>exact absurd rfl (bT T' o q)
 ·obtain⟨sl,r⟩:=en.slot b o (ba b o q) (hx.keeps b o q)
  exact⟨sl,kp b _ (bT b o q) r⟩
end
end L2
namespace L2
open PySem PySem.Spec PyProof.Rows
theorem dQ.there{P:Program}{w:World}{H:Hp}{h:Heap}{a:Addr}{o:HO}(x:dQ P w H h a o):∃u,h.get? a=some u:=by
 cases o with
 | lst xs=>obtain⟨_,_,_,_,e⟩:=x;exact⟨_,e⟩
 | tup xs=>obtain⟨_,_,_,o,e,_⟩:=x;exact⟨o,e⟩
 | dK dA=>obtain⟨_,_,_,_,o,_,_,e,_⟩:=x;exact⟨_,e⟩
 | dT dA=>obtain⟨_,_,_,_,o,_,_,e,_⟩:=x;exact⟨_,e⟩
 | set S n=>obtain⟨o,_,_,_,e,_⟩:=x;exact⟨_,e⟩
 | ins C dx fs=>obtain⟨_,_,_,e,_⟩:=x;exact⟨_,e⟩
 | own y=>exact x
 | xd fs=>obtain⟨_,⟨_,_,_,e,_⟩,_⟩:=x;exact⟨_,e⟩
 | xv lo hi=>obtain⟨_,_,_,e⟩:=x;exact⟨_,e⟩
 | bC ob u=>obtain⟨e,_⟩:=x;exact⟨_,e⟩
 | dr ps=>exact⟨_,show h.get? a=some _ from x.1⟩
 | met f y=>exact⟨_,show h.get? a=some _ from x⟩
 | ext φ=>obtain⟨_,e,_⟩:=x;exact e
theorem cK.none{P:Program}{w:World}{H:Hp}{h:Heap}{a:Addr}(x:cK P w H h)(e:h.get? a=.none):H a=.none:=by
 cases q:H a with
 | none=>rfl
 | some u=>obtain⟨o,z⟩:=(x a u q).there;rw[e]at z;cases z
structure Apart(X:Cx)(pins:List (Addr × Obj))(H:Hp)(b:Addr):Prop where
 old:X.cw.heap.get? b=none
 free:H b=none
 loc:b≠X.env.locals
 cell:∀x c,X.env.cells.lookup x=some c->c≠b
 pin:∀p∈X.pn++pins,p.1≠b
 fr:b ∉ dB X.stack
section
variable{X:Cx}{pins:List (Addr × Obj)}{σ:St}{H H':Hp}{s:Shared}{a T b:Addr}{cls:Value}{M:Model}{Q:Unit->Shared->Prop}{E:Value->Shared->Prop}{h':Heap}
theorem Zz(I:Inv X pins σ H s)(hb:b∈dB X.stack):∃o,s.heap.get? b=some o/\∀vs,o.data≠.fields vs:=(I.stack.mem hb).2
theorem Inv.old(I:Inv X pins σ H s)(hex:X.ex=[])(e:s.heap.get? b=none):X.cw.heap.get? b=none:=by
 cases q:X.cw.heap.get? b with
 | none=>rfl
 | some o=>obtain⟨o',z⟩:=I.base.there b o q (by rw[hex];simp);rw[e]at z;cases z
theorem Inv.apart(I:Inv X pins σ H s)(hex:X.ex=[])(e:s.heap.get? b=none)(n:H' b=none):Apart X pins H' b where
 old:=I.old hex e
 free:=n
 loc:=λz=>by obtain⟨m,⟨o,_,_,ho,_⟩,_⟩:=I.loc;rw[z,ho]at e;cases e
 cell:=λx c hc z=>by obtain⟨v,o,ho,_⟩:=I.cell x c hc;rw[z,e]at ho;cases ho
 pin:=λp hp z=>by have:=(I.pin p hp).1;rw[z,e]at this;cases this
 fr:=λhb=>by obtain⟨o,ho,_⟩:=Zz I hb;rw[e]at ho;cases ho
theorem NA(I:Inv X pins σ H s)(bZ:X.stack=X.env::X.outer)(hex:X.ex=[])(hf:X.env.frame=some X.env.locals)(Z:List Addr)(hZ:∀b∈Z,X.cw.heap.get? b=none/\H b=none)
  (keep:∀b o,b ∉ Z->b ∉ dB X.stack->s.heap.get? b=some o->h'.get? b=some o) (slots:∀b o,b ∉ Z->s.heap.get? b=some o->∃sl,h'.get? b=some { o with slots:=sl }) :
  Un (dB X.outer) [] X.j3 H X.cw.heap h'/\cK X.prog X.w H h':=by
 have qV:∀b o,X.cw.heap.get? b=some o->b ∉ Z:=λb o e z=>by rw[(hZ b z).1]at e;cases e
 have sub:∀b,b∈dB X.stack->b=X.env.locals\/b∈dB X.outer:=λb hb=>by
  rw[bZ]at hb
  unfold dB at hb
  rw[Aw,hf]at hb
  exact cq.mp hb
 have sup:∀b,b∈dB X.outer->b∈dB X.stack:=λb hb=>by
  rw[bZ]
  unfold dB
  rw[Aw,hf]
  exact gB _ hb
 have tG:∀b o,X.cw.heap.get? b=some o->b≠X.env.locals:=λb o e=>eB (cH (bH e) I.ok.above)
 have nx:∀b:Addr,b ∉ X.ex:=λb=>by rw[hex];simp
 refine⟨⟨λb o e n hb _=>?_,λb o e n hb _=>?_,λb o e n _=>I.base.free b o e n (nx b),λb o e _=>?_,I.base.iA,I.base.g8,I.base.gD⟩,λb ob e=>?_⟩
 ·exact keep b o (qV b o e) (λz=>(sub b z).elim (tG b o e) hb) (I.base.keep b o e n hb (nx b))
 ·obtain⟨sl,e1⟩:=I.base.slot b o e n hb (nx b)
  exact(slots b _ (qV b o e) e1).imp λsl h=>h
 ·obtain⟨o',e1⟩:=I.base.there b o e (nx b)
  exact(slots b o' (qV b o e) e1).elim λsl q=>⟨_,q⟩
 ·refine(I.aE b ob e).iW (λc u hc q=>keep c u (λz=>?_) (λz=>?_) q) (λ_ q=>q) (λ_ _ q=>q) λ_ _ q=>q
  ·have n:=(hZ c z).2
   rcases hc with rfl | hc
   ·rw[n]at e;cases e
   ·rw[n]at hc;cases hc
  ·have n:=I.Bf c z
   rcases hc with rfl | hc
   ·rw[n]at e;cases e
   ·rw[n]at hc;cases hc
structure NB(X:Cx)(H:Hp)(h':Heap)(a T:Addr)(cls:Value):Prop where
 un:Un (dB X.outer) [] X.j3 H X.cw.heap h'
 aE:cK X.prog X.w H h'
 tX:ie h' a T cls
 a0:X.cw.heap.get? a=none
 a1:H a=none
 t0:X.cw.heap.get? T=none
 t1:H T=none
theorem ZA(I:Inv X pins σ H s)(bZ:X.stack=X.env::X.outer)(hex:X.ex=[])(hf:X.env.frame=some X.env.locals)(tr:ie s.heap a T cls)(pa:Apart X pins H a)(pT:Apart X pins H T)
  (hQ:∀h' T',NB X H h' a T' cls->Q () { s with heap:=h' }):wpAny M X.A (leaving X.env (.ref a)) Q E s:=by
 have hZ:∀b∈[a,T],X.cw.heap.get? b=none/\H b=none:=λb hb=>by
  rcases cq.mp hb with rfl | hb
  ·exact⟨pa.old,pa.free⟩
  ·rw[dG.mp hb];exact⟨pT.old,pT.free⟩
 have na:a ∉ (X.env::X.outer).filterMap (·.frame):=by have:=pa.fr;rw[bZ]at this;exact this
 refine wpAny_bind (Nz (base:=X.base) (by rw[I.ok.frames,bZ]) (bZ ▸ I.stack) hf na tr λh' T' st=>?_)
 have kp:∀b o,b ∉ [a,T]->b ∉ dB X.stack->s.heap.get? b=some o->h'.get? b=some o:=λb o hz hb q=>st.keep b o hz (by rw[bZ]at hb;exact hb) q
 obtain⟨un,aE⟩:=NA (h':=h') I bZ hex hf [a,T] hZ kp st.slot
 exact hQ h' T' ⟨un,aE,st.tX,pa.old,pa.free,I.old hex st.new,I.aE.none st.new⟩
theorem ZC{h1:Heap}{args:List Value}(I:Inv X pins σ H s)(bZ:X.stack=X.env::X.outer)(hex:X.ex=[])(hf:X.env.frame=some X.env.locals)(hx:Ln s.heap h1 a cls args)
  (hQ:∀h' T',NB X H h' a T' cls->Q () { s with heap:=h' }):wpAny M X.A (leaving X.env (.ref a)) Q E { s with heap:=h1 }:=by
 refine wpAny_bind (Zy (base:=X.base) (by rw[I.ok.frames,bZ]) (bZ ▸ I.stack) hf hx λh' T' st=>?_)
 have kp:∀b o,b ∉ ([]:List Addr)->b ∉ dB X.stack->s.heap.get? b=some o->h'.get? b=some o:=λb o hz hb q=>st.keep b o hz (by rw[bZ]at hb;exact hb) q
 obtain⟨un,aE⟩:=NA (h':=h') I bZ hex hf [] (λb hb=>absurd hb (by simp)) kp st.slot
 exact hQ h' T' ⟨un,aE,st.tX,I.old hex hx.new,I.aE.none hx.new,I.old hex st.new,I.aE.none st.new⟩
end
noncomputable def j8(P:Program)(w:World):dR:=λouter H s E e s'=>∃a T cls H',e=.ref a/\s'.os=s.os/\AllBare s'.gens/\Un (dB outer) [] H H' s.heap s'.heap/\cK P w H' s'.heap/\ie s'.heap a T cls /\
 s.heap.get? a=none/\H' a=none/\s.heap.get? T=none/\H' T=none/\E cls none H'
section
variable{X:Cx}{pins:List (Addr × Obj)}{σ:St}{H H':Hp}{s:Shared}{a T b:Addr}{cls:Value}{M:Model}{Q:Unit->Shared->Prop}{E:Value->Shared->Prop}{h':Heap}
theorem Inv.NC(I:Inv X pins σ H s)(hex:X.ex=[])(Z:List Addr)(hZ:∀b∈Z,Apart X pins H b)
  (keep:∀b o,b ∉ Z->b ∉ dB X.stack->s.heap.get? b=some o->h'.get? b=some o) (slots:∀b o,b ∉ Z->s.heap.get? b=some o->∃sl,h'.get? b=some { o with slots:=sl }) (g':Array GenState) (t':Nat) (d':Drawn) (hg:AllBare g') :
  Inv X pins σ H { s with heap:=h',gens:=g',toks:=t',drawn:=d' }:=by
 have nx:∀b:Addr,b ∉ X.ex:=λb=>by rw[hex];simp
 have any:=slots
 have qV:∀b o,X.cw.heap.get? b=some o->b ∉ Z:=λb o e z=>by rw[(hZ b z).old]at e;cases e
 have tG:∀b o,X.cw.heap.get? b=some o->b≠X.env.locals:=λb o e=>eB (cH (bH e) I.ok.above)
 have cz:∀x c,X.env.cells.lookup x=some c->c ∉ Z:=λx c e z=>(hZ c z).cell x c e rfl
 have cellK:∀x c,X.env.cells.lookup x=some c->∀v,s.heap.IsCell c v->h'.IsCell c v:=λx c e v zz=>by
  obtain⟨o,ho,hd⟩:=zz
  obtain⟨sl,q⟩:=any c o (cz x c e) ho
  exact⟨_,q,hd⟩
 have ND:∀b,b ∉ X.fs->b≠X.env.locals->b ∉ dB X.stack:=λb h1 h2 h3=>(cq.mp (I.xx b h3)).elim h2 h1
 refine⟨I.ok,I.os,hg,⟨λb o e n hb hx=>?_,λb o e n hb hx=>?_,I.base.free,λb o e hx=>?_,I.base.iA,I.base.g8,I.base.gD⟩,?_,λx c e=>?_,I.free,I.fO,λp hp=>?_,λb ob e=>?_,I.len⟩
 ·exact keep b o (qV b o e) (ND b hb (tG b o e)) (I.base.keep b o e n hb hx)
 ·obtain⟨sl,e1⟩:=I.base.slot b o e n hb hx
  obtain⟨xA,e2⟩:=any b _ (qV b o e) e1
  exact⟨xA,e2⟩
 ·obtain⟨o',e1⟩:=I.base.there b o e hx
  obtain⟨sl,e2⟩:=any b o' (qV b o e) e1
  exact⟨_,e2⟩
 ·obtain⟨m,hn,hl⟩:=I.loc
  obtain⟨o,es,ep,ho,hd,r⟩:=id hn
  obtain⟨sl,q⟩:=slots _ o (λz=>(hZ _ z).loc rfl) ho
  refine⟨m,⟨_,es,ep,q,hd,r⟩,λi x v e1 e2 e3=>?_⟩
  obtain⟨u,r,l⟩:=hl i x v e1 e2 e3
  refine⟨u,r,?_⟩
  rcases l with l | ⟨k,c,e,z⟩
  ·exact .inl l
  ·exact .inr ⟨k,c,e,cellK x c e _ z⟩
 ·obtain⟨v,z⟩:=I.cell x c e
  exact⟨v,cellK x c e v z⟩
 ·obtain⟨e,n,ne,nf,d⟩:=I.pin p hp
  exact⟨keep p.1 p.2 (λz=>(hZ _ z).pin p hp rfl) (ND _ nf ne) e,n,ne,nf,d⟩
 ·refine(I.aE b ob e).iW (λc u hc q=>keep c u (λz=>?_) (λz=>?_) q) (λ_ q=>q) (λ_ _ q=>q) λ_ _ q=>q
  ·have n:=(hZ c z).free
   rcases hc with rfl | hc
   ·rw[n]at e;cases e
   ·rw[n]at hc;cases hc
  ·have n:=I.Bf c z
   rcases hc with rfl | hc
   ·rw[n]at e;cases e
   ·rw[n]at hc;cases hc
theorem ZD(pa:Apart X pins H a)(pT:Apart X pins H T):∀b∈[a,T],Apart X pins H b:=λb hb=>by
 rcases cq.mp hb with rfl | hb
 ·exact pa
 ·rw[dG.mp hb];exact pT
theorem ZE(I:Inv X pins σ H s)(bZ:X.stack=X.env::X.outer)(hex:X.ex=[])(hf:X.env.frame=some X.env.locals)(tr:ie s.heap a T cls)(pa:Apart X pins H a)(pT:Apart X pins H T)
  (hQ:∀h' T',Inv X pins σ H { s with heap:=h' }->ie h' a T' cls->Apart X pins H T'->Q () { s with heap:=h' }) :
  wpAny M X.A (noteFrame (.ref a) X.env) (λ_ jE=>wpAny M X.A (setFlight (.ref a) none) Q E jE) E s:=by
 have na:a ∉ (X.env::X.outer).filterMap (·.frame):=by have:=pa.fr;rw[bZ]at this;exact this
 refine Nz (base:=X.base) (by rw[I.ok.frames,bZ]) (bZ ▸ I.stack) hf na tr λh' T' st=>?_
 exact hQ h' T' (I.NC hex [a,T] (ZD pa pT) (λb o hz hb q=>st.keep b o hz (by rw[bZ]at hb;exact hb) q) st.slot s.gens s.toks s.drawn I.bare) st.tX (I.apart hex st.new (I.aE.none st.new))
theorem ZF{A:Around}(I:Inv X pins σ H s)(hex:X.ex=[])(tr:ie s.heap a T cls)(pT:Apart X pins H T)
  (hQ:∀h',Inv X pins σ H { s with heap:=h' }->ie h' a T cls->Q () { s with heap:=h' }):wpAny M A (setFlight (.ref a) none) Q E s:=by
 refine Fx tr λh' kp FA=>hQ h' (I.NC hex [T] (λb hb=>by rw[dG.mp hb];exact pT) (λb o hz _ q=>kp b o (by simpa using hz) q) (λb o hz q=>⟨o.slots,kp b o (by simpa using hz) q⟩) s.gens s.toks s.drawn I.bare) FA
theorem ZG{A:Around}{i:Nat}{n:Str}{pos:Pos}(I:Inv X pins σ H s)(hN:X.N.Nodup)(hi:X.N[i]?=some n)(hl:X.env.kindOf n=some .local)
  (hQ:∀s',Inv X pins (σ.set i none) H s'->Q () s'):wpAny M A (do bindName X.env n .none;unbindBehindTheSuite X.env n pos) Q E s:=by
 obtain⟨m,hn,ZH⟩:=id I.loc
 have j4:=I.j4
 refine PySem.wpAny_nameGoes_keeps hl hn (by rw[I.ok.kind];rfl) λh' v ES hs=>hQ _ ?_
 obtain⟨oL,_,_,L7,_⟩:=id hn
 refine⟨I.ok,I.os,I.bare,⟨λb o e n' hb hx=>?_,λb o e n' hb hx=>?_,I.base.free,λb o e hx=>?_,I.base.iA,I.base.g8,I.base.gD⟩,⟨_,ES,λj y w e1 e2 e3=>?_⟩,λy c e=>?_,I.free,I.fO,λp hp=>?_,λb ob e=>?_,by simpa using I.len⟩
 ·exact(hs.2 b (eB (cH (bH e) I.ok.above))).trans (I.base.keep b o e n' hb hx)
 ·obtain⟨sl,e1⟩:=I.base.slot b o e n' hb hx
  exact⟨sl,(hs.2 b (eB (cH (bH e) I.ok.above))).trans e1⟩
 ·obtain⟨o',e1⟩:=I.base.there b o e hx
  exact⟨o',(hs.2 b (eB (cH (bH e) I.ok.above))).trans e1⟩
 ·by_cases hj:j=i
  ·subst hj
   rw[List.getElem?_set_self']at e2
   cases q:σ[j]?<;>rw[q]at e2<;>cases e2
  ·rw[lF (dN hj)]at e2
   obtain⟨u',r',q⟩:=ZH j y w e1 e2 e3
   refine⟨u',r',?_⟩
   rcases q with⟨k,e⟩ | ⟨k,c,e,z⟩
   ·refine .inl ⟨k,?_⟩
    have:y≠n:=λe=>hj (ER hN e1 (e ▸ hi))
    simp[this,e]
   ·exact .inr ⟨k,c,e,z.sameBut hs (j4 y c e)⟩
 ·obtain⟨w',z⟩:=I.cell y c e
  exact⟨w',z.sameBut hs (j4 y c e)⟩
 ·obtain⟨e,n',ne,nf,d⟩:=I.pin p hp
  exact⟨(hs.2 p.1 ne).trans e,n',ne,nf,d⟩
 ·refine(I.aE b ob e).iW (λc w' hc q=>(hs.2 c ?_).trans q) (λ_ q=>q) (λ_ _ q=>q) λ_ _ q=>q
  rintro rfl
  rcases hc with rfl | hc
  ·rw[I.free]at e;cases e
  ·rw[I.free]at hc;cases hc
end
end L2
namespace L2
open PySem PySem.W PySem.Spec PySem.Calls PyProof.Rows
section
variable{prog:Program}{w:World}{A:Around}{E:Value->Shared->Prop}{s:Shared}{K:Frag}{x D:Addr}{ox:Obj}{oR:Option Obj}
theorem ZI{tk:Tok}{Q:Fin->Shared->Prop}(X:K.In s.heap)(I:PySem.W.InstAt s.heap x ox D oR)(hf:findObj K D oR "__class__"=some (.bind (.builtin "getset_descriptor.__get__") (.builtin "object.__class__")))(hm:mroIn K D (.type "object")=some true)
  (hq:Q (.done (.ret (.ref D))) s):wpAny (model prog w) A (Builtin.«object.__getattribute__» ⟨[.ref x,.str "__class__" tk],[]⟩) Q E s:=by
 have cg:=λ(R:Result->Shared->Prop) (hR:R (.ok (.ret (.ref D))) s) (A:Around)=>PySem.W.class_get (prog:=prog) (w:=w) (A:=A) (R:=R) (tp:=.ref D) X I hm hR
 obtain⟨hh,g,d,t,os⟩:=s
 have L0:=I.type (M:=model prog w)
 have L1:=looks_find (M:=model prog w) X I hf
 unfold Builtin.«object.__getattribute__»
 repeat (any_goals (first | assumption | refine wpAny_bind (L0.at ?_) | refine wpAny_bind (L1.at ?_) | wp_step))
 exact cg _ (wpAny_pure hq) _
theorem ZJ{M:Model}{NF:Value}{Q:Unit->Shared->Prop}(X:K.In s.heap)(I:PySem.W.InstAt s.heap x ox D oR)(hb:mroIn K D (.type "BaseException")=some true)(hq:Q () s) :
  wpAny M A (checkBuiltinCall "BaseException.__getattribute__" ⟨[.ref x,NF],[]⟩) Q E s:=by
 obtain⟨hh,g,d,t,os⟩:=s
 have L0:=I.type (M:=M)
 have L1:=looks_mroIn (M:=M) X hb
 have hk:builtinKind "BaseException.__getattribute__"=some .slot:=by decide +kernel
 have ZK:splitId "BaseException.__getattribute__"=some ("BaseException","__getattribute__"):=by decide +kernel
 have ha:=F.args_bexc_ga (.ref x) NF
 simp only[checkBuiltinCall,hk,ZK]
 refine wpAny_bind ?_
 ·unfold isInstance
  repeat (first | refine wpAny_bind (L0.at ?_) | refine wpAny_bind (L1.at ?_) | refine L1.at ?_ | wp_step)
  exact hq
theorem ZL{tk:Tok}{R:Result->Shared->Prop}(X:K.In s.heap)(I:PySem.W.InstAt s.heap x ox D oR)(hf:findObj K D oR "__class__"=some (.bind (.builtin "getset_descriptor.__get__") (.builtin "object.__class__")))(hm:mroIn K D (.type "object")=some true)(hb:mroIn K D (.type "BaseException")=some true)
  (hq:R (.ok (.ret (.ref D))) s):codeAny (model prog w) A (.call (.builtin "BaseException.__getattribute__") ⟨[.ref x,.str "__class__" tk],[]⟩) R s :=
 codeAny_call_builtin (by decide +kernel) F.entry_bexc_ga (ZJ X I hb (ZI X I hf hm hq))
end
end L2
namespace L2
open PySem PySem.W PySem.Spec PySem.Calls PyProof.Rows
section
variable{prog:Program}{w:World}{A:Around}{E:Value->Shared->Prop}{s:Shared}{K:Frag}{x D:Addr}{ox:Obj}{oR:Option Obj}
theorem ZM{Q:Option Value->Shared->Prop}(X:K.In s.heap)(I:PySem.W.InstAt s.heap x ox D oR)(ZN:findIn K (.ref D) "__getattribute__"=some (some (.builtin "BaseException.__getattribute__")))(ZO:findIn K (.ref D) "__getattr__"=some none)
  (hf:findObj K D oR "__class__"=some (.bind (.builtin "getset_descriptor.__get__") (.builtin "object.__class__"))) (hm:mroIn K D (.type "object")=some true) (hb:mroIn K D (.type "BaseException")=some true)
  (h:Q (some (.ref D)) { s with toks:=s.toks+1 }):wpAny (model prog w) A (getAttr? (.ref x) "__class__") Q E s:=by
 have xc:=λ(R:Result->Shared->Prop) (tk:Tok) (hR:R (.ok (.ret (.ref D))) { s with toks:=s.toks+1 }) (A:Around)=>ZL (prog:=prog) (w:=w) (A:=A) (R:=R) (tk:=tk) (s:={ s with toks:=s.toks+1 }) X I hf hm hb hR
 obtain⟨hh,g,d,t,os⟩:=s
 have L0:=I.type (M:=model prog w)
 have L1:=looks_findIn (M:=model prog w) X ZN
 have L2:=looks_findIn (M:=model prog w) X ZO
 have f3:=(F.excAttr_ValueError).ga.bind (.ref x)
 have dJ:(Et "BaseException.__getattribute__"==Et "object.__getattribute__")=false:=by decide +kernel
 have cO:(onTheHeap (cA D)&&Et "BaseException.__getattribute__"==Et "object.__getattribute__")=false:=by rw[dJ];rfl
 unfold getAttr? getAttrBy? getAttrBy
 refine wpAny_bind (wpAny_mkText (wpAny_bind (wpAny_attempt (wpAny_holding (wpAny_bind (L0.at (wpAny_bind (L1.at ?_))))))))
 dsimp only
 rw[cO]
 simp only[qv,if_false]
 unfold getAttrByItsOwn
 repeat (any_goals (first | assumption | refine wpAny_bind (L0.at ?_) | refine wpAny_bind (L2.at ?_) | wp_step))
 refine xc _ t ?_ _
 show wpAny _ _ (handedOut (.ref D)) _ _ _
 exact handed_on rfl (wpAny_pure h)
structure tY(K:Frag)(C:Addr):Prop where
 cls:(clsIn K C).isSome=true
 ga:findIn K (.ref C) "__getattribute__"=some (some (.builtin "BaseException.__getattribute__"))
 gt:findIn K (.ref C) "__getattr__"=some none
 ca:findIn K (.ref C) "__class__"=some (some (.builtin "object.__class__"))
 hn:specialIn K (.builtin "object.__class__") "__get__"=some (some (.builtin "getset_descriptor.__get__"))
 tk:takesIn K (.builtin "object.__class__")=some true
 mo:mroIn K C (.type "object")=some true
 mb:mroIn K C (.type "BaseException")=some true
noncomputable def l8(a C:Addr)(h:Heap):Prop:=∃o,h.get? a=some o/\o.cls=.ref C/\notCls o=true/\o.dict=none
theorem ZP{K:Frag}{C:Addr}{name:Str}{a g:Value}(hc:(clsIn K C).isSome=true)(ha:findIn K (.ref C) name=some (some a))(hg:specialIn K a "__get__"=some (some g))(ht:takesIn K a=some true):findObj K C none name=some (.bind g a):=by
 obtain⟨cd,hc⟩:=AE.mp hc
 unfold findObj
 rw[hc,VE,ha,VE]
 simp[hg,ht]
theorem NG{a C:Addr}{h:Heap}(p:l8 a C h):∃ox,PySem.W.InstAt h a ox C none:=by
 obtain⟨o,h1,h2,h3,h4⟩:=p
 exact⟨o,h1,h2,h3,by rw[h4];trivial⟩
theorem ZQ{a C:Addr}(c:tY K C):KitX K (.ref a) (.ref C) (l8 a C) where
 ty:=λ_ _ _ p=>let⟨_,I⟩:=NG p;I.type
 it:=λ_ _ X _=>by
  obtain⟨FC,mT⟩:=AE.mp c.cls
  unfold clsIn at mT
  split at mT
  ·rename_i c' d' ZR xA ho
   intro A' Q' E' s' k q
   unfold isType loadHead
   exact wpAny_bind (wpAny_loadPart (k _ _ (X _ _ ho)) (wpAny_pure q))
  ·cases mT
 ne:=λh tp dd its n sl X ZS=>by
  obtain⟨FC,mT⟩:=AE.mp c.cls
  refine AK.mpr λq=>?_
  have e:C=tp:=Value.ref.inj (beq_iff_eq.mp q)
  subst e
  unfold clsIn at mT
  split at mT
  ·rename_i c' d' ZR xA ho
   have z:=(X _ _ ho).symm.trans ZS
   cases z
  ·cases mT
 ca:=λX p k=>let⟨_,I⟩:=NG p;ZM X I c.ga c.gt (ZP c.cls c.ca c.hn c.tk) c.mo c.mb k
end
end L2
namespace L2
open PySem PySem.Spec PyProof.Rows
section
variable{X:Cx}{pins:List (Addr × Obj)}{σ:St}{H:Hp}{s:Shared}{h':Heap}{its:List Addr}{T:Addr}{o:HO}{t':Nat}
theorem Inv.BQ(I:Inv X pins σ H s)(k:∀b o,b ∉ its->s.heap.get? b=some o->h'.get? b=some o)(hf:∀b∈its,i5 X pins H b):Inv X pins σ H { s with heap:=h',toks:=t' }:=by
 have oK:∀b u,H b=some u->b ∉ its:=λb u e z=>by have:=(hf b z).1;rw[this]at e;cases e
 refine I.step (g':=s.gens) (d':=s.drawn) (ch:=its) (λb hb=>?_) (λb o _ _ hc e _=>k b o hc e) (λb o _ _ hc e _=>⟨o.slots,k b o hc e⟩) (λ_ _ _ _ n=>n)
  (λb o hc e=>⟨o,k b o hc e⟩) (λ_ _ e=>e) (λ_ _ _ e=>e) (λb ps e=>⟨#[],by rw[e];simp⟩) (λm hm=>?_) (λb u e=>?_) I.bare
 ·obtain⟨_,h1,_,h2,h3,h4⟩:=hf b hb
  exact⟨h2,h1,h3,h4⟩
 ·obtain⟨o,es,ep,ho,r⟩:=hm
  exact⟨o,es,ep,k _ o (λz=>(hf _ z).2.1 rfl) ho,r⟩
 ·refine(I.aE b u e).iW (λc v hc q=>k c v ?_ q) (λ_ q=>q) (λ_ _ q=>q) λ_ _ q=>q
  rcases hc with z | z
  ·rw[z];exact oK b u e
  ·exact oK c _ z
theorem Inv.NH(I:Inv X pins σ H s)(k:∀b o,b ∉ its->s.heap.get? b=some o->h'.get? b=some o)(hf:∀b∈its,i5 X pins H b)(hT:s.heap.objs.size<=T)(new:dQ X.prog X.w (upd H T o) h' T o) :
  Inv X pins σ (upd H T o) { s with heap:=h',toks:=t' }:=by
 have oK:∀b u,H b=some u->b ∉ its:=λb u e z=>by have:=(hf b z).1;rw[this]at e;cases e
 have fT:H T=none:=I.aE.fresh hT
 have neT:∀b u,H b=some u->b≠T:=λb u e z=>by rw[z,fT]at e;cases e
 have ZT:∀b u,s.heap.get? b=some u->b≠T:=λb u e z=>absurd (cH (bH e) hT) (by rw[z];exact gA _)
 refine I.step (g':=s.gens) (d':=s.drawn) (ch:=its) (λb hb=>?_) (λb o _ _ hc e _=>k b o hc e) (λb o _ _ hc e _=>⟨o.slots,k b o hc e⟩) (λb u _ e n=>by rw[aL (ZT b u e)];exact n)
  (λb o hc e=>⟨o,k b o hc e⟩) (λb _ e=>by rw[aL (neT b _ e)];exact e) (λb _ _ e=>by rw[aL (neT b _ e)];exact e) (λb ps e=>⟨#[],by rw[aL (neT b _ e),e];simp⟩) (λm hm=>?_) (λb u e=>?_) I.bare
 ·obtain⟨_,h1,_,h2,h3,h4⟩:=hf b hb
  exact⟨h2,h1,h3,h4⟩
 ·obtain⟨o,es,ep,ho,r⟩:=hm
  exact⟨o,es,ep,k _ o (λz=>(hf _ z).2.1 rfl) ho,r⟩
 ·by_cases hb:b=T
  ·subst hb;rw[br]at e;cases e;exact new
  ·rw[aL hb]at e
   refine(I.aE b u e).iW (λc v hc q=>k c v ?_ q) (λc q=>by rw[aL (neT c _ q)];exact q) (λc _ q=>by rw[aL (neT c _ q)];exact q) λc _ q=>by rw[aL (neT c _ q)];exact q
   rcases hc with z | z
   ·rw[z];exact oK b u e
   ·exact oK c _ z
noncomputable def FD(K:PySem.W.Frag)(a b:Addr):It :=
 ⟨λi H=>∃xs ys x y,bw K H a xs/\bw K H b ys/\xs[i]?=some x/\ys[i]?=some y,
  λi H v H'=>∃T x y,v=.ref T/\H T=none/\H'=upd H T (.tup [x,y])/\(∀xs,bw K H a xs->xs[i]?=some x)/\∀ys,bw K H b ys->ys[i]?=some y,
  λi H=>∃xs ys,bw K H a xs/\bw K H b ys/\(xs.length<=i\/ys.length<=i)⟩
theorem oS{K:PySem.W.Frag}{a c:Addr}{xs:List V}(hk:X.K=K)(I:Inv X pins σ H s)(h:bw K H a xs)(hf:i5 X pins H c)(ho:∃o,s.heap.get? c=some o/\o.cls≠.type "list"):a≠c:=by
 subst hk
 obtain⟨its,rv,p,hz⟩:=I.list h
 obtain⟨o,e,d⟩:=ho
 obtain⟨o',e',c',_⟩:=p.isList
 intro z
 subst z
 rw[e]at e';cases e'
 exact d c'
theorem ZU{P:Program}{w:World}{K:PySem.W.Frag}{elts:List Expr}{k:Nat}{pos:Pos}(a b z TI TO i1 i2:Addr)(D5:[z,TI,TO,i1,i2].Nodup) :
  Turn P w K (.Tuple elts k pos) (FD K a b) [z,TI,TO,i1,i2] z (λi h=>IsZip h z TI TO .none/\IsPair h TI (.ref i1) (.ref i2)/\(∃u v,IsPair h TO u v)/\h.IsListIter i1 a i/\h.IsListIter i2 b i):=by
 have ap:∀(X:Cx) (pins:List (Addr × Obj)) (s:Shared) (σ:St) (H:Hp) (i:Nat) (xs ys:List V),X.K=K->Inv X pins σ H s->(∀b∈[z,TI,TO,i1,i2],i5 X pins H b)->IsZip s.heap z TI TO .none->(∃u v,IsPair s.heap TO u v)->s.heap.IsListIter i1 a i->s.heap.IsListIter i2 b i ->
   bw K H a xs->bw K H b ys->ZipApart z TI TO i1 i2 a b:=by
  intro X pins s σ H i xs ys hK I hf hz jf h1 h2 hx hy
  simp only[iQ,cq,not_or,jC,not_false_eq_true,and_true]at D5
  obtain⟨⟨d1,d2,d3,d4⟩,⟨d5,d6,d7⟩,⟨d8,d9⟩,ZV,_⟩:=D5
  have oz:∃o,s.heap.get? z=some o/\o.cls≠.type "list":=⟨_,hz,by intro q;exact absurd (Eu q) (by decide)⟩
  have NI:∃o,s.heap.get? TO=some o/\o.cls≠.type "list":=by obtain⟨u,v,e⟩:=jf;exact⟨_,e,by intro q;exact absurd (Eu q) (by decide)⟩
  have o1:∃o,s.heap.get? i1=some o/\o.cls≠.type "list":=by obtain⟨o,e,c,d⟩:=h1;exact⟨_,e,by rw[c];intro q;exact absurd (Eu q) (by decide)⟩
  have o2:∃o,s.heap.get? i2=some o/\o.cls≠.type "list":=by obtain⟨o,e,c,d⟩:=h2;exact⟨_,e,by rw[c];intro q;exact absurd (Eu q) (by decide)⟩
  exact⟨dN d1,dN d2,dN d3,dN d4,d5,d6,d7,d8,d9,ZV,
   oS hK I hx (hf z (by simp)) oz,oS hK I hx (hf TO (by simp)) NI,oS hK I hx (hf i1 (by simp)) o1,oS hK I hx (hf i2 (by simp)) o2,
   oS hK I hy (hf z (by simp)) oz,oS hK I hy (hf TO (by simp)) NI,oS hK I hy (hf i1 (by simp)) o1,oS hK I hy (hf i2 (by simp)) o2⟩
 refine⟨by simp,λi h st c hc=>?_,λi h h' st kk=>?_,?_,?_,λ_ _ _ _ _ st h=>wpAny_pyIter_zip st.1 h⟩
 ·obtain⟨hz,kO,⟨u,v,jf⟩,⟨o1,e1,c1,d1⟩,⟨o2,e2,c2,d2⟩⟩:=st
  simp only[cq,jC,or_false]at hc
  rcases hc with rfl | rfl | rfl | rfl | rfl
  ·exact⟨_,hz,λv q=>by cases q⟩
  ·exact⟨_,kO,λv q=>by cases q⟩
  ·exact⟨_,jf,λv q=>by cases q⟩
  ·exact⟨_,e1,λv q=>by rw[d1]at q;cases q⟩
  ·exact⟨_,e2,λv q=>by rw[d2]at q;cases q⟩
 ·obtain⟨hz,kO,⟨u,v,jf⟩,h1,h2⟩:=st
  exact⟨kk _ (by simp) _ hz,kk _ (by simp) _ kO,⟨u,v,kk _ (by simp) _ jf⟩,h1.at λo e=>kk _ (by simp) o e,h2.at λo e=>kk _ (by simp) o e⟩
 ·intro X hP hw hK hc i pins s σ H E I hf st hg
  obtain⟨xs,ys,x,y,hx,hy,ex,ey⟩:=hg
  obtain⟨hz,kO,⟨u,v,jf⟩,h1,h2⟩:=st
  have D:=ap X pins s σ H i xs ys hK I hf hz ⟨u,v,jf⟩ h1 h2 hx hy
  subst hP hw hK
  obtain⟨as,ra,pa,_⟩:=I.list hx
  obtain⟨bs,rb,pb,_⟩:=I.list hy
  obtain⟨ux,FE,rx⟩:=ra.get ex
  obtain⟨uy,ZW,ry⟩:=rb.get ey
  refine wpAny_pyNext_zip_item D hz kO jf h1 h2 pa.isList pb.isList (x:=ux) (y:=uy) (by simpa using FE) (by simpa using ZW) λh' z' ZX j9 jH T' sz kk=>?_
  have fT:H s.heap.objs.size=none:=I.aE.fresh (bD _)
  have I1:Inv X pins σ (upd H s.heap.objs.size (.tup [x,y])) { s with heap:=h',toks:=s.toks }:=I.NH (its:=[z,TO,i1,i2]) (λc o hc e=>kk c o (λq=>hc (by simp[q])) (λq=>hc (by simp[q])) (λq=>hc (by simp[q])) (λq=>hc (by simp[q])) e)
   (λc hc=>hf c (by simp only[cq,jC,or_false]at hc ⊢;rcases hc with rfl | rfl | rfl | rfl<;>simp)) (bD _) ⟨by show 2<=sizeLine;decide,[ux,uy],.cons rx (.cons ry .nil),⟨_,T',rfl,_,rfl⟩⟩
  have nT:∀c∈[z,TI,TO,i1,i2],c≠s.heap.objs.size:=λc hc q=>by
   have:∃o,s.heap.get? c=some o:=by
    simp only[cq,jC,or_false]at hc
    rcases hc with rfl | rfl | rfl | rfl | rfl
    ·exact⟨_,hz⟩
    ·exact⟨_,kO⟩
    ·exact⟨_,jf⟩
    ·obtain⟨o,e,_⟩:=h1;exact⟨o,e⟩
    ·obtain⟨o,e,_⟩:=h2;exact⟨o,e⟩
   obtain⟨o,e⟩:=this
   exact absurd (bH e) (by rw[q];exact gA _)
  refine⟨_,rfl,wpAny_letOwnedTupleGo_zip z' λFF FG sb=>?_⟩
  have FH:∀c∈[z],i5 X pins (upd H s.heap.objs.size (.tup [x,y])) c:=λc hc=>by
   have e:c=z:=by simpa using hc
   subst e
   obtain⟨f0,fr⟩:=hf c (by simp)
   exact⟨by rw[aL (nT c (by simp))];exact f0,fr⟩
  have I2:=Inv.BQ (h':=FF) (its:=[z]) (t':=s.toks) I1 (λc o hc e=>sb.extBut _ _ (λq=>hc (by simp[q])) e) FH
  refine⟨.ref s.heap.objs.size,_,I2,rfl,⟨_,x,y,rfl,fT,rfl,λtZ dD=>by rw[I.Bo dD hx];exact ex,λqW ZY=>by rw[I.Bo ZY hy];exact ey⟩,⟨FG,sb.extBut _ _ D.TIz (kk _ _ D.TIz D.TITO D.TIi1 D.TIi2 kO),⟨ux,uy,sb.extBut _ _ D.TOz ZX⟩,j9.extBut sb.extBut D.i1z,jH.extBut sb.extBut D.i2z⟩,λc hc=>?_⟩
  rw[aL (nT c hc)]
  exact(hf c hc).1
 ·intro X hP hw hK hc i pins s σ H E I hf st hg
  obtain⟨xs,ys,hx,hy,hl⟩:=hg
  obtain⟨hz,kO,⟨u,v,jf⟩,h1,h2⟩:=st
  have D:=ap X pins s σ H i xs ys hK I hf hz ⟨u,v,jf⟩ h1 h2 hx hy
  subst hP hw hK
  obtain⟨as,ra,pa,_⟩:=I.list hx
  obtain⟨bs,rb,pb,_⟩:=I.list hy
  have la:=ra.length
  have lb:=rb.length
  refine wpAny_pyNext_zip_end (I.ok.hd hc) D hz kO jf h1 h2 pa.isList pb.isList (hl.imp (λq=>by simp;omega) λq=>by simp;omega) λh' kk=>⟨rfl,?_⟩
  exact I.BQ (its:=[z,TO,i1,i2]) (t':=s.toks) (λc o hc e=>kk c o (λq=>hc (by simp[q])) (λq=>hc (by simp[q])) (λq=>hc (by simp[q])) (λq=>hc (by simp[q])) e)
   (λc hc=>hf c (by simp only[cq,jC,or_false]at hc ⊢;rcases hc with rfl | rfl | rfl | rfl<;>simp))
noncomputable def FI(K:PySem.W.Frag)(a:Addr):It :=
 ⟨λi H=>∃xs x,bw K H a xs/\xs[i]?=some x,
  λi H v H'=>∃T x,v=.ref T/\H T=none/\H'=upd H T (.tup [.int i,x])/\∀xs,bw K H a xs->xs[i]?=some x,
  λi H=>∃xs,bw K H a xs/\xs.length<=i⟩
theorem ZZ{P:Program}{w:World}{K:PySem.W.Frag}{elts:List Expr}{k:Nat}{pos:Pos}(a z it:Addr)(jI:z≠it) :
  Turn P w K (.Tuple elts k pos) (FI K a) [z,it] z (λi h=>(∃old,IsEnum h z it i old)/\h.IsListIter it a i):=by
 refine⟨by simp,λi h st c hc=>?_,λi h h' st kk=>?_,?_,?_,λ_ _ _ _ _ st h=>by obtain⟨⟨old,e⟩,_⟩:=st;exact wpAny_pyIter_enum e h⟩
 ·obtain⟨⟨old,hz⟩,⟨o1,e1,c1,d1⟩⟩:=st
  simp only[cq,jC,or_false]at hc
  rcases hc with rfl | rfl
  ·exact⟨_,hz,λv q=>by cases q⟩
  ·exact⟨_,e1,λv q=>by rw[d1]at q;cases q⟩
 ·obtain⟨⟨old,hz⟩,h1⟩:=st
  exact⟨⟨old,kk _ (by simp) _ hz⟩,h1.at λo e=>kk _ (by simp) o e⟩
 ·intro X hP hw hK hc i pins s σ H E I hf st hg
  subst hP hw hK
  obtain⟨xs,x,hx,ex⟩:=hg
  obtain⟨⟨old,hz⟩,h1⟩:=st
  obtain⟨as,ra,pa,_⟩:=I.list hx
  obtain⟨ux,FE,rx⟩:=ra.get ex
  refine wpAny_pyNext_enum_item hz h1 pa.isList (x:=ux) (by simpa using FE) jI λh' z' j9 T' sz kk=>?_
  have fT:H s.heap.objs.size=none:=I.aE.fresh (bD _)
  have I1:Inv X pins σ (upd H s.heap.objs.size (.tup [.int i,x])) { s with heap:=h',toks:=s.toks+1 }:=I.NH (its:=[z,it]) (λc o hc e=>kk c o (λq=>hc (by simp[q])) (λq=>hc (by simp[q])) e)
   (λc hc=>hf c hc) (bD _) ⟨by show 2<=sizeLine;decide,[.int i s.toks,ux],.cons ⟨_,rfl⟩ (.cons rx .nil),⟨_,T',rfl,_,rfl⟩⟩
  have nT:∀c∈[z,it],c≠s.heap.objs.size:=λc hc q=>by
   have:∃o,s.heap.get? c=some o:=by
    simp only[cq,jC,or_false]at hc
    rcases hc with rfl | rfl
    ·exact⟨_,hz⟩
    ·obtain⟨o,e,_⟩:=h1;exact⟨o,e⟩
   obtain⟨o,e⟩:=this
   exact absurd (bH e) (by rw[q];exact gA _)
  refine⟨_,rfl,wpAny_letOwnedTupleGo_enum z' λFF FG sb=>?_⟩
  have FH:∀c∈[z],i5 X pins (upd H s.heap.objs.size (.tup [.int i,x])) c:=λc hc=>by
   have e:c=z:=by simpa using hc
   subst e
   obtain⟨f0,fr⟩:=hf c (by simp)
   exact⟨by rw[aL (nT c (by simp))];exact f0,fr⟩
  have I2:=Inv.BQ (h':=FF) (its:=[z]) (t':=s.toks+1) I1 (λc o hc e=>sb.extBut _ _ (λq=>hc (by simp[q])) e) FH
  refine⟨.ref s.heap.objs.size,_,I2,rfl,⟨_,x,rfl,fT,rfl,λtZ dD=>by rw[I.Bo dD hx];exact ex⟩,⟨⟨ux,by simpa using FG⟩,j9.extBut sb.extBut (dN jI)⟩,λc hc=>?_⟩
  rw[aL (nT c hc)]
  exact(hf c hc).1
 ·intro X hP hw hK hc i pins s σ H E I hf st hg
  subst hP hw hK
  obtain⟨xs,hx,hl⟩:=hg
  obtain⟨⟨old,hz⟩,h1⟩:=st
  obtain⟨as,ra,pa,_⟩:=I.list hx
  have la:=ra.length
  refine wpAny_pyNext_enum_end (I.ok.hd hc) hz h1 pa.isList (by simp;omega) λh' kk=>⟨rfl,?_⟩
  exact I.BQ (its:=[it]) (t':=s.toks) (λc o hc e=>kk c o (λq=>hc (by simp[q])) e) (λc hc=>hf c (by simp at hc ⊢;simp[hc]))
end
section
variable{X:Cx}{a b:Expr}{ta:TA}{p pos qN:Pos}{elts:List Expr}{x1:Nat}
noncomputable def Z0(K:PySem.W.Frag)(ta:TA):TI:=λσ H R=>ta σ H λvs H1=>∃a b,vs=[.ref a,.ref b]/\(∃xs,bw K H1 a xs)/\(∃ys,bw K H1 b ys)/\R (FD K a b) H1
theorem Z1:bootBuiltins "zip"=some (.type "zip"):=by decide +kernel
theorem Z2(hg:Gl X "zip")(hm:X.mg "zip"=none)(ha:PA X [a,b] ta)(hs:starEach [a,b] X.env=[(false,eval a X.env),(false,eval b X.env)]:=by rfl)(eD:starEach [b] X.env=[(false,eval b X.env)]:=by rfl) :
  PI X (.Tuple elts x1 qN) (.Call (.Name "zip" p) [a,b] [] pos) (Z0 X.K ta):=by
 intro pins s σ H R I h
 refine Call_ (qI I hg hm Z1 (Az (aO (ha pos pins s σ H _ I h) λus s1 zq=>?_) (by rw[hs,eD]) (by rw[eD];rfl)))
 obtain⟨vs,H1,I1,r1,q1⟩:=zq
 obtain⟨a,b,e,⟨xs,hx⟩,⟨ys,hy⟩,q⟩:=q1
 subst e
 cases r1 with
 | cons r rr =>
  cases rr with
  | cons r2 rr =>
   cases rr
   cases r
   cases r2
   obtain⟨as,ra,pa,_⟩:=I1.list hx
   obtain⟨bs,rb,pb,_⟩:=I1.list hy
   refine call_zip_2 pa.isList pb.isList λh' hz kO jf h1 h2 sz kk=>wpAny_pyIter_zip hz ?_
   refine⟨_,[s1.heap.objs.size+4,s1.heap.objs.size+2,s1.heap.objs.size+3,s1.heap.objs.size,s1.heap.objs.size+1],_,_,H1,rfl,I1.kept (t':=s1.toks) kk,ZU a b _ _ _ _ _ (by simp),⟨hz,kO,⟨_,_,jf⟩,h1,h2⟩,λc hc=>?_,q⟩
   have hle:s1.heap.objs.size<=c:=by
    simp only[cq,jC,or_false]at hc
    rcases hc with rfl | rfl | rfl | rfl | rfl<;>omega
   exact I1.Bv hle (I1.aE.fresh hle)
noncomputable def Z3(K:PySem.W.Frag)(ta:TA):TI:=λσ H R=>ta σ H λvs H1=>∃a,vs=[.ref a]/\(∃xs,bw K H1 a xs)/\R (FI K a) H1
theorem Z4:bootBuiltins "enumerate"=some (.type "enumerate"):=by decide +kernel
theorem Z5(hg:Gl X "enumerate")(hm:X.mg "enumerate"=none)(ha:PA X [a] ta)(hs:starEach [a] X.env=[(false,eval a X.env)]:=by rfl) :
  PI X (.Tuple elts x1 qN) (.Call (.Name "enumerate" p) [a] [] pos) (Z3 X.K ta):=by
 intro pins s σ H R I h
 refine Call_ (qI I hg hm Z4 (Az (aO (ha pos pins s σ H _ I h) λus s1 zq=>?_) hs rfl))
 obtain⟨vs,H1,I1,r1,q1⟩:=zq
 obtain⟨a,e,⟨xs,hx⟩,q⟩:=q1
 subst e
 cases r1 with
 | cons r rr =>
  cases rr
  cases r
  obtain⟨as,ra,pa,_⟩:=I1.list hx
  refine call_enumerate_list pa.isList λh' hz h1 sz kk=>wpAny_pyIter_enum hz ?_
  refine⟨_,[s1.heap.objs.size+1,s1.heap.objs.size],_,_,H1,rfl,I1.kept (t':=s1.toks) kk,ZZ a (s1.heap.objs.size+1) s1.heap.objs.size (Nat.succ_ne_self _),⟨⟨_,hz⟩,h1⟩,λc hc=>?_,q⟩
  have hle:s1.heap.objs.size<=c:=by
   simp only[cq,jC,or_false]at hc
   rcases hc with rfl | rfl<;>omega
  exact I1.Bv hle (I1.aE.fresh hle)
end
end L2
namespace L2
open PySem PySem.Spec PyProof.Rows PySem.W PySem.Calls
section
variable{X:Cx}
noncomputable def t7{α:Type}(xs:List α)(lo hi:Option Int):List α:=(xs.drop (HT.cV xs.length 0 lo)).take (HT.cV xs.length xs.length hi-HT.cV xs.length 0 lo)
theorem Z6(x:Str)(lo hi:Option Int):Txt.slice x lo hi=⟨(t7 x.cps.toList lo hi).toArray⟩:=by
 have hx:x.length=x.cps.size:=rfl
 have e:(Ew lo hi 1 x.length).filterMap (x.cps[·]?)=t7 x.cps.toList lo hi:=by
  obtain⟨h1,h2,h3⟩:=Fc lo hi x.length
  have e0:Ew lo hi 1 x.length=sliceRange (sliceBounds lo hi none x.length).1 (sliceBounds lo hi none x.length).2.1 1:=by
   cases lo<;>cases hi<;>rfl
  rw[e0,h1,h2]
  simp only[sliceRange_one,pick_run]
  unfold t7
  rw[hx,wZ]
 unfold Txt.slice
 split
 ·rename_i h
  have hl:(Ew lo hi 1 x.length).length=x.length:=by
   rw[dP]at h;exact eq_of_beq h.2
  have hs:(t7 x.cps.toList lo hi)=x.cps.toList:=by
   have e2:HT.cV x.cps.toList.length x.cps.toList.length hi-HT.cV x.cps.toList.length 0 lo=x.length:=by
    obtain⟨h1,h2,h3⟩:=Fc lo hi x.length
    have e0:Ew lo hi 1 x.length=sliceRange (sliceBounds lo hi none x.length).1 (sliceBounds lo hi none x.length).2.1 1:=by
     cases lo<;>cases hi<;>rfl
    rw[e0,h1,h2]at hl
    simp only[sliceRange_one,aS,fk]at hl
    rw[wZ,<- hx]
    omega
   unfold t7
   have le:HT.cV x.cps.toList.length x.cps.toList.length hi<=x.cps.toList.length:=by
    cases hi with
    | none=>simp[HT.cV]
    | some i=>simp only[HT.cV];split<;>omega
   have Z7:HT.cV x.cps.toList.length 0 lo<=x.cps.toList.length:=by
    cases lo with
    | none=>simp[HT.cV]
    | some i=>simp only[HT.cV];split<;>omega
   rw[wZ,<- hx]at e2 le Z7 ⊢
   have z:HT.cV x.length 0 lo=0:=by omega
   have z2:HT.cV x.length x.length hi=x.length:=by omega
   rw[z,z2,List.drop_zero,Nat.sub_zero,hx,<- wZ,xj]
  rw[hs]
 ·rw[e]
theorem Z8:qQ X (λx lo hi H Q=>∃z,x=.str z/\z.length<=sizeLine/\Q (.str ⟨(t7 z.cps.toList lo hi).toArray⟩) H):=by
 intro pins s σ H x v vl vu lo hi sl Q I rx hs pl pu h
 obtain⟨z,rfl,hz,q⟩:=h
 obtain⟨t,rfl⟩:=rx
 refine⟨"str",_,F.slot_str_getitem.lookup,typeIs_str _ _ _,?_⟩
 have fin:∀(l u:Option (Int × Tok)),l.map (·.1)=lo->u.map (·.1)=hi->partValue l=vl->partValue u=vu->wpAny (model X.prog X.w) X.A (getItem (.str z t) (.ref sl)) (EP X pins σ Q) X.xe s:=by
  intro l u h1 h2 h3 h4
  obtain⟨o,e1,e2,e3⟩:=hs
  refine wpAny_getItem_str_slice (l:=l) (u:=u) (st:=none) ⟨o,e1,e2,by rw[e3,h3,h4];rfl⟩ rfl ?_
  have e:Txt.slice z lo hi=(if(((none:Option (Int × Tok)).map (·.1)).getD 1==1&&(slicePicked z l u none).length==z.length)=true then z else⟨((slicePicked z l u none).filterMap (z.cps[·]?)).toArray⟩):=by
   unfold Txt.slice slicePicked;rw[h1,h2];rfl
  refine post_val_or_str ⟨?_,λt' k=>?_⟩
  ·rw[<-e];exact eK (Txt.slice_le z _ _) hz
  ·rw[<-e,Z6];exact⟨.str _,H,I.tok _,⟨_,rfl⟩,q⟩
 cases pl with
 | none =>
  cases pu with
  | none=>exact fin none none rfl rfl rfl rfl
  | int j tj=>exact fin none (some (j,tj)) rfl rfl rfl rfl
 | int i ti =>
  cases pu with
  | none=>exact fin (some (i,ti)) none rfl rfl rfl rfl
  | int j tj=>exact fin (some (i,ti)) (some (j,tj)) rfl rfl rfl rfl
end
end L2
namespace L3
open PySem L2
noncomputable def gh:HO->Bool
 | .dr _=>false
 | _=>true
structure ae(H H':Hp):Prop where
 get:∀b o,H b=some o->(h:gh o=true:=by rfl)->H' b=some o
 tb:∀b ps,H b=some (.dr ps)->∃more,H' b=some (.dr (ps++more))
noncomputable instance {H H':Hp}:CoeFun (ae H H') λ_=>∀b o,H b=some o->(h:gh o=true:=by rfl)->H' b=some o:=⟨λs=>@ae.get _ _ s⟩
theorem oU{o:HO}(h:gh o=false):∃ps,o=.dr ps:=by
 cases o with
 | dr ps=>exact⟨ps,rfl⟩
 | _=>cases h
theorem ae.of{H H':Hp}(h:∀b o,H b=some o->H' b=some o):ae H H':=⟨λb o e _=>h b o e,λb ps e=>⟨#[],by rw[h b _ e];simp⟩⟩
theorem ae.refl(H:Hp):ae H H:=.of λ_ _ h=>h
theorem ae.trans{H H1 H2:Hp}(a:ae H H1)(b:ae H1 H2):ae H H2 :=
 ⟨λc o h n=>b.get c o (a.get c o h n) n,λc ps h=>by
  obtain⟨m1,e1⟩:=a.tb c ps h
  obtain⟨m2,e2⟩:=b.tb c _ e1
  exact⟨m1++m2,by rw[e2,sQ]⟩⟩
theorem ae.any{H H':Hp}(e:ae H H'){l:Addr}{o:HO}(h:H l=some o):∃o',H' l=some o':=by
 cases n:gh o with
 | true=>exact⟨o,e.get l o h n⟩
 | false =>
  obtain⟨ps,rfl⟩:=oU n
  obtain⟨m,q⟩:=e.tb l ps h
  exact⟨_,q⟩
theorem ae.free{H H':Hp}(e:ae H H'){l:Addr}(h:H' l=Option.none):H l=Option.none:=by
 cases q:H l with
 | none=>rfl
 | some o =>
  obtain⟨o',z⟩:=e.any q
  rw[z]at h
  cases h
inductive t9 where
 | ext (φ:Addr->Heap->Prop)
 | lam (of oc:Obj) (c k:Addr)
noncomputable instance:Coe (Addr->Heap->Prop) t9:=⟨.ext⟩
noncomputable def FJ(H:Hp)(k:Addr):Prop:=∃ψ,H k=some (.ext ψ)/\∀h,ψ h->∃q,h.CodeRec (.ref k) q
noncomputable def jJ(of oc:Obj)(c p:Addr):Heap->Prop:=λh=>h.get? p=some of/\h.get? c=some oc
structure ka(H:Hp)(p:Addr)(of oc:Obj)(c k:Addr):Prop where
 fn:H p=some (.ext (jJ of oc c p))
 cell:H c=some (.own p)
 FK:FJ H k
noncomputable def qX(H:Hp)(p:Addr):t9->Prop
 | .ext φ=>H p=some (.ext (φ p))
 | .lam of oc c k=>ka H p of oc c k
theorem qX.mono{H H':Hp}{p:Addr}:∀{z:t9},qX H p z->(∀a o,H a=some o->(∀ws,o≠.lst ws)->gh o=true->H' a=some o)->qX H' p z
 | .ext φ,x,k=>k _ _ x (λws q=>by cases q) rfl
 | .lam of oc c k',x,k=>⟨k _ _ x.fn (λws q=>by cases q) rfl,k _ _ x.cell (λws q=>by cases q) rfl,let⟨ψ,e,h⟩:=x.FK;⟨ψ,k _ _ e (λws q=>by cases q) rfl,h⟩⟩
inductive D where
 | aq | bl (b:Bool) | int (i:Int) | str (x:Str)
 | lst (o:Bool) (xs:List D)
 | tup (xs:List D)
 | obj (C:Addr) (ns:List Str) (xs:List D)
 | fz (xs:List D)
 | bx (z:t9)
 deriving Inhabited
noncomputable def D.pl:D->Bool
 | .lst o xs=>!o&&x8 xs
 | .tup xs=>x8 xs
 | _=>true
where x8:List D->Bool
 | []=>true
 | d::ds=>d.pl&&x8 ds
noncomputable def D.fr:D->Bool
 | .lst o xs=>o&&x9 xs
 | .tup xs=>x9 xs
 | .obj _ _ _=>false
 | .fz _=>false
 | _=>true
where x9:List D->Bool
 | []=>true
 | d::ds=>d.fr&&x9 ds
noncomputable def D.sh:D->D
 | .lst _ xs=>.lst false (ya xs)
 | .tup xs=>.tup (ya xs)
 | d=>d
where ya:List D->List D
 | []=>[]
 | d::ds=>d.sh::ya ds
theorem NJ(ds:List D):D.pl.x8 ds=ds.all D.pl:=by induction ds with | nil=>rfl | cons d ds ih=>simp[D.pl.x8,ih]
theorem NK(ds:List D):D.fr.x9 ds=ds.all D.fr:=by induction ds with | nil=>rfl | cons d ds ih=>simp[D.fr.x9,ih]
theorem NL(ds:List D):D.sh.ya ds=ds.map D.sh:=by induction ds with | nil=>rfl | cons d ds ih=>simp[D.sh.ya,ih]
theorem ig(o:Bool)(xs:List D):(D.lst o xs).pl=(!o&&xs.all D.pl):=by simp[D.pl,NJ]
theorem kP(xs:List D):(D.tup xs).pl=xs.all D.pl:=by simp[D.pl,NJ]
theorem fG(o:Bool)(xs:List D):(D.lst o xs).fr=(o&&xs.all D.fr):=by simp[D.fr,NK]
theorem qY(xs:List D):(D.tup xs).fr=xs.all D.fr:=by simp[D.fr,NK]
theorem cP(o:Bool)(xs:List D):(D.lst o xs).sh=.lst false (xs.map D.sh):=by simp[D.sh,NL]
theorem l9(xs:List D):(D.tup xs).sh=.tup (xs.map D.sh):=by simp[D.sh,NL]
inductive R(F H:Hp):List D->List V->List Addr->Prop
 | nil:R F H [] [] []
 | aq {ds vs B}:R F H ds vs B->R F H (.aq::ds) (.aq::vs) B
 | bl {b ds vs B}:R F H ds vs B->R F H (.bl b::ds) (.bl b::vs) B
 | int {i ds vs B}:R F H ds vs B->R F H (.int i::ds) (.int i::vs) B
 | str {x ds vs B}:R F H ds vs B->R F H (.str x::ds) (.str x::vs) B
 | shr {p ws xs ds vs B}:F p=some (.lst ws)->R F H xs ws []->R F H ds vs B->R F H (.lst false xs::ds) (.ref p::vs) B
 | own {p ws xs A ds vs B}:H p=some (.lst ws)->F p=none->R F H xs ws A->R F H ds vs B->R F H (.lst true xs::ds) (.ref p::vs) (p::(A++B))
 | tup {p ws xs A ds vs B}:H p=some (.tup ws)->R F H xs ws A->R F H ds vs B->R F H (.tup xs::ds) (.ref p::vs) (A++B)
 | obj {p C dx ns ws xs ds vs B}:H p=some (.ins C dx (ns.zip ws))->ns.length=ws.length->R F H xs ws []->R F H ds vs B->R F H (.obj C ns xs::ds) (.ref p::vs) B
 | fz {p o ws xs ds vs B}:F p=some (.bC o (.lst ws))->R F H xs ws []->R F H ds vs B->R F H (.fz xs::ds) (.ref p::vs) B
 | bx {p z ds vs B}:qX H p z->R F H ds vs B->R F H (.bx z::ds) (.ref p::vs) B
inductive S(F H:Hp):List D->List V->Prop
 | nil:S F H [] []
 | aq {ds vs}:S F H ds vs->S F H (.aq::ds) (.aq::vs)
 | bl {b ds vs}:S F H ds vs->S F H (.bl b::ds) (.bl b::vs)
 | int {i ds vs}:S F H ds vs->S F H (.int i::ds) (.int i::vs)
 | str {x ds vs}:S F H ds vs->S F H (.str x::ds) (.str x::vs)
 | shr {p ws xs ds vs}:F p=some (.lst ws)->R F H xs ws []->S F H ds vs->S F H (.lst false xs::ds) (.ref p::vs)
 | own {p ws xs ds vs}:H p=some (.lst ws)->S F H xs ws->S F H ds vs->S F H (.lst true xs::ds) (.ref p::vs)
 | tup {p ws xs ds vs}:H p=some (.tup ws)->S F H xs ws->S F H ds vs->S F H (.tup xs::ds) (.ref p::vs)
 | obj {p C dx ns ws xs ds vs}:H p=some (.ins C dx (ns.zip ws))->ns.length=ws.length->R F H xs ws []->S F H ds vs->S F H (.obj C ns xs::ds) (.ref p::vs)
 | fz {p o ws xs ds vs}:F p=some (.bC o (.lst ws))->R F H xs ws []->S F H ds vs->S F H (.fz xs::ds) (.ref p::vs)
 | bx {p z ds vs}:qX H p z->S F H ds vs->S F H (.bx z::ds) (.ref p::vs)
section
variable{F F' H H':Hp}{d:D}{ds es:List D}{v:V}{vs ws:List V}{A B:List Addr}
theorem R.length(r:R F H ds vs A):ds.length=vs.length:=by
 induction r<;>simp_all
theorem S.length(r:S F H ds vs):ds.length=vs.length:=by
 induction r<;>simp_all
theorem R.jK{vs:List V}{A:List Addr}(r:R F H [] vs A):vs=[]/\A=[]:=by cases r;exact⟨rfl,rfl⟩
noncomputable def Rv(F H:Hp)(ds:List D)(v:V)(vs:List V)(B:List Addr):D->Prop
 | .lst true xs=>∃p ws A B',v=.ref p/\H p=some (.lst ws)/\F p=none/\R F H xs ws A/\R F H ds vs B'/\B=p::(A++B')
 | .tup xs=>∃p ws A B',v=.ref p/\H p=some (.tup ws)/\R F H xs ws A/\R F H ds vs B'/\B=A++B'
 | _=>R F H ds vs B
theorem R.rv{d:D}{ds:List D}{v:V}{vs:List V}{B:List Addr}(r:R F H (d::ds) (v::vs) B):Rv F H ds v vs B d:=by
 cases r with
 | aq q=>exact q
 | bl q=>exact q
 | int q=>exact q
 | str q=>exact q
 | shr _ _ q=>exact q
 | own h f x q=>exact⟨_,_,_,_,rfl,h,f,x,q,rfl⟩
 | tup h x q=>exact⟨_,_,_,_,rfl,h,x,q,rfl⟩
 | obj _ _ _ q=>exact q
 | fz _ _ q=>exact q
 | bx _ q=>exact q
theorem R.cons(r:R F H [d] [v] A)(q:R F H ds vs B):R F H (d::ds) (v::vs) (A++B):=by
 cases r with
 | aq r=>rw[r.jK.2];exact .aq q
 | bl r=>rw[r.jK.2];exact .bl q
 | int r=>rw[r.jK.2];exact .int q
 | str r=>rw[r.jK.2];exact .str q
 | shr h x r=>rw[r.jK.2];exact .shr h x q
 | own h f x r=>rw[r.jK.2,fj];exact R.own h f x q
 | tup h x r=>rw[r.jK.2,fj];exact R.tup h x q
 | obj h l x r=>rw[r.jK.2];exact .obj h l x q
 | fz h x r=>rw[r.jK.2];exact .fz h x q
 | bx h r=>rw[r.jK.2];exact .bx h q
theorem R.cQ(r:R F H (d::ds) vs A):∃v bW A1 A2,vs=v::bW/\A=A1++A2/\R F H [d] [v] A1/\R F H ds bW A2:=by
 cases r with
 | aq r=>exact⟨_,_,[],_,rfl,rfl,.aq .nil,r⟩
 | bl r=>exact⟨_,_,[],_,rfl,rfl,.bl .nil,r⟩
 | int r=>exact⟨_,_,[],_,rfl,rfl,.int .nil,r⟩
 | str r=>exact⟨_,_,[],_,rfl,rfl,.str .nil,r⟩
 | shr h x r=>exact⟨_,_,[],_,rfl,rfl,.shr h x .nil,r⟩
 | @own p _ _ A1 _ _ B1 h f x r=>exact⟨_,_,p::A1,B1,rfl,rfl,by simpa using R.own h f x .nil,r⟩
 | @tup p _ _ A1 _ _ B1 h x r=>exact⟨_,_,A1,B1,rfl,rfl,by simpa using R.tup h x .nil,r⟩
 | obj h l x r=>exact⟨_,_,[],_,rfl,rfl,.obj h l x .nil,r⟩
 | fz h x r=>exact⟨_,_,[],_,rfl,rfl,.fz h x .nil,r⟩
 | bx h r=>exact⟨_,_,[],_,rfl,rfl,.bx h .nil,r⟩
theorem S.cons(r:S F H [d] [v])(q:S F H ds vs):S F H (d::ds) (v::vs):=by
 cases r with
 | aq r=>exact .aq q
 | bl r=>exact .bl q
 | int r=>exact .int q
 | str r=>exact .str q
 | shr h x r=>exact .shr h x q
 | own h x r=>exact .own h x q
 | tup h x r=>exact .tup h x q
 | obj h l x r=>exact .obj h l x q
 | fz h x r=>exact .fz h x q
 | bx h r=>exact .bx h q
theorem S.cQ(r:S F H (d::ds) vs):∃v bW,vs=v::bW/\S F H [d] [v]/\S F H ds bW:=by
 cases r with
 | aq r=>exact⟨_,_,rfl,.aq .nil,r⟩
 | bl r=>exact⟨_,_,rfl,.bl .nil,r⟩
 | int r=>exact⟨_,_,rfl,.int .nil,r⟩
 | str r=>exact⟨_,_,rfl,.str .nil,r⟩
 | shr h x r=>exact⟨_,_,rfl,.shr h x .nil,r⟩
 | own h x r=>exact⟨_,_,rfl,.own h x .nil,r⟩
 | tup h x r=>exact⟨_,_,rfl,.tup h x .nil,r⟩
 | obj h l x r=>exact⟨_,_,rfl,.obj h l x .nil,r⟩
 | fz h x r=>exact⟨_,_,rfl,.fz h x .nil,r⟩
 | bx h r=>exact⟨_,_,rfl,.bx h .nil,r⟩
theorem R.append:∀{ds:List D} {vs:List V} {A:List Addr},R F H ds vs A->R F H es ws B->R F H (ds++es) (vs++ws) (A++B)
 | [],_,_,r,q=>by cases r;exact q
 | d::ds,_,_,r,q=>by
  obtain⟨v,bW,A1,A2,rfl,rfl,h1,h2⟩:=r.cQ
  simpa using h1.cons (R.append h2 q)
theorem S.append:∀{ds:List D} {vs:List V},S F H ds vs->S F H es ws->S F H (ds++es) (vs++ws)
 | [],_,r,q=>by cases r;exact q
 | d::ds,_,r,q=>by
  obtain⟨v,bW,rfl,h1,h2⟩:=r.cQ
  exact h1.cons (S.append h2 q)
theorem R.split:∀{ds:List D} {vs:List V} {A:List Addr},R F H (ds++es) vs A->∃v1 v2 A1 A2,vs=v1++v2/\A=A1++A2/\R F H ds v1 A1/\R F H es v2 A2
 | [],vs,A,r=>⟨[],vs,[],A,rfl,rfl,.nil,r⟩
 | d::ds,_,_,r=>by
  obtain⟨v,bW,A1,A2,rfl,rfl,h1,h2⟩:=R.cQ (ds:=ds++es) r
  obtain⟨v1,v2,B1,B2,rfl,rfl,h3,h4⟩:=R.split (ds:=ds) h2
  exact⟨v::v1,v2,A1++B1,B2,rfl,by simp,h1.cons h3,h4⟩
theorem R.get:∀{ds:List D} {vs:List V} {A:List Addr} {i:Nat},R F H ds vs A->ds[i]?=some d->∃v A1,vs[i]?=some v/\R F H [d] [v] A1/\A1 ⊆ A
 | [],_,_,_,_,e=>by simp at e
 | d'::ds,_,_,i,r,e=>by
  obtain⟨v,bW,A1,A2,rfl,rfl,h1,h2⟩:=r.cQ
  cases i with
  | zero=>simp at e;subst e;exact⟨v,A1,rfl,h1,by simp⟩
  | succ i =>
   obtain⟨w,B1,e2,q,sb⟩:=R.get (ds:=ds) (i:=i) h2 (by simpa using e)
   exact⟨w,B1,by simpa using e2,q,λx hx=>cI _ (sb hx)⟩
theorem S.get:∀{ds:List D} {vs:List V} {i:Nat},S F H ds vs->ds[i]?=some d->∃v,vs[i]?=some v/\S F H [d] [v]
 | [],_,_,_,e=>by simp at e
 | d'::ds,_,i,r,e=>by
  obtain⟨v,bW,rfl,h1,h2⟩:=r.cQ
  cases i with
  | zero=>simp at e;subst e;exact⟨v,rfl,h1⟩
  | succ i =>
   obtain⟨w,e2,q⟩:=S.get (ds:=ds) (i:=i) h2 (by simpa using e)
   exact⟨w,by simpa using e2,q⟩
theorem S.get':∀{ds:List D} {vs:List V} {i:Nat},S F H ds vs->vs[i]?=some v->∃d,ds[i]?=some d/\S F H [d] [v]
 | [],_,_,r,e=>by cases r;simp at e
 | d'::ds,_,i,r,e=>by
  obtain⟨v,bW,rfl,h1,h2⟩:=r.cQ
  cases i with
  | zero=>simp at e;subst e;exact⟨d',rfl,h1⟩
  | succ i =>
   obtain⟨w,e2,q⟩:=S.get' (ds:=ds) (i:=i) h2 (by simpa using e)
   exact⟨w,by simpa using e2,q⟩
theorem S.take:∀{ds:List D} {vs:List V} (n:Nat),S F H ds vs->S F H (ds.take n) (vs.take n)
 | _,_,0,r=>by simpa using S.nil
 | [],_,n+1,r=>by cases r;exact .nil
 | d::ds,_,n+1,r=>by
  obtain⟨v,bW,rfl,h1,h2⟩:=r.cQ
  exact h1.cons (S.take n h2)
theorem S.drop:∀{ds:List D} {vs:List V} (n:Nat),S F H ds vs->S F H (ds.drop n) (vs.drop n)
 | _,_,0,r=>by simpa using r
 | [],_,n+1,r=>by cases r;exact .nil
 | d::ds,_,n+1,r=>by
  obtain⟨v,bW,rfl,h1,h2⟩:=r.cQ
  exact S.drop n h2
theorem iF{p:Addr}{o:HO}(h:Rd F p o)(s:ae F F')(n:gh o=true:=by rfl):Rd F' p o:=by
 rcases h with h | ⟨u,h⟩
 ·exact .inl (s.get _ _ h n)
 ·exact .inr ⟨u,s _ _ h⟩
theorem R.s(r:R F H ds vs A):S F H ds vs:=by
 induction r with
 | nil=>exact .nil
 | aq _ ih=>exact .aq ih
 | bl _ ih=>exact .bl ih
 | int _ ih=>exact .int ih
 | str _ ih=>exact .str ih
 | shr h x _ _ ih=>exact .shr h x ih
 | own h f _ _ i1 i2=>exact .own h i1 i2
 | tup h _ _ i1 i2=>exact .tup h i1 i2
 | obj h l x _ _ ih=>exact .obj h l x ih
 | fz h x _ _ ih=>exact .fz h x ih
 | bx h _ ih=>exact .bx h ih
structure fH(W:List Addr)(H H':Hp):Prop where
 get:∀a o,H a=some o->a ∉ W->(h:gh o=true:=by rfl)->H' a=some o
noncomputable instance {W:List Addr} {H H':Hp}:CoeFun (fH W H H') λ_=>∀a o,H a=some o->a ∉ W->(h:gh o=true:=by rfl)->H' a=some o:=⟨λs=>@fH.get _ _ _ s⟩
noncomputable def gi(W:List Addr)(H:Hp):Prop:=∀a∈W,∃ws,H a=some (.lst ws)
theorem R.keep{W:List Addr}(hf:ae F F')(hb:fH W H H')(hl:gi W H)(r:R F H ds vs A)(hn:∀a∈A,F' a=none)(hd:∀a∈A,a ∉ W):R F' H' ds vs A:=by
 induction r with
 | nil=>exact .nil
 | aq _ ih=>exact .aq (ih hn hd)
 | bl _ ih=>exact .bl (ih hn hd)
 | int _ ih=>exact .int (ih hn hd)
 | str _ ih=>exact .str (ih hn hd)
 | shr h x _ i1 ih=>exact .shr (hf _ _ h) (i1 (by simp) (by simp)) (ih hn hd)
 | own h f _ _ i1 i2 =>
  refine .own (hb _ _ h (hd _ (by simp))) (hn _ (by simp)) (i1 (λa ha=>hn a ?_) λa ha=>hd a ?_) (i2 (λa ha=>hn a ?_) λa ha=>hd a ?_)<;>simp[ha]
 | @tup p ws _ _ _ _ _ h _ _ i1 i2 =>
  refine .tup (hb _ _ h λz=>?_) (i1 (λa ha=>hn a ?_) λa ha=>hd a ?_) (i2 (λa ha=>hn a ?_) λa ha=>hd a ?_)<;>try simp[ha]
  obtain⟨q,e⟩:=hl _ z
  rw[h]at e;cases e
 | obj h l x _ i1 ih =>
  refine .obj (hb _ _ h λz=>?_) l (i1 (by simp) (by simp)) (ih hn hd)
  obtain⟨q,e⟩:=hl _ z
  rw[h]at e;cases e
 | fz h x _ i1 ih=>exact .fz (hf _ _ h) (i1 (by simp) (by simp)) (ih hn hd)
 | bx h _ ih =>
  exact .bx (h.mono λa o e n t=>hb.get a o e (λz=>by
   obtain⟨q,e'⟩:=hl _ z
   rw[e]at e';cases e';exact n _ rfl) t) (ih hn hd)
theorem fH.same(h:ae H H'):fH [] H H':=⟨λa o e _ n=>h.get a o e n⟩
theorem gi.nil:gi [] H:=λa h=>absurd h (by simp)
theorem R.grow(hf:ae F F')(hb:ae H H')(r:R F H ds vs A)(hn:∀a∈A,F' a=none):R F' H' ds vs A :=
 r.keep hf (fH.same hb) gi.nil hn (by simp)
theorem R.shared(hf:ae F F')(hb:ae H H')(r:R F H ds vs []):R F' H' ds vs []:=r.grow hf hb (by simp)
theorem S.mono(hf:ae F F')(hb:ae H H')(r:S F H ds vs):S F' H' ds vs:=by
 induction r with
 | nil=>exact .nil
 | aq _ ih=>exact .aq ih
 | bl _ ih=>exact .bl ih
 | int _ ih=>exact .int ih
 | str _ ih=>exact .str ih
 | shr h x _ ih=>exact .shr (hf _ _ h) (x.shared hf hb) ih
 | own h _ _ i1 i2=>exact .own (hb _ _ h) i1 i2
 | tup h _ _ i1 i2=>exact .tup (hb _ _ h) i1 i2
 | obj h l x _ ih=>exact .obj (hb _ _ h) l (x.shared hf hb) ih
 | fz h x _ ih=>exact .fz (hf _ _ h) (x.shared hf hb) ih
 | bx h _ ih=>exact .bx (h.mono λa o e _ t=>hb.get a o e t) ih
theorem S.r(s:S F H ds vs)(p:ds.all D.pl=true):R F H ds vs []:=by
 induction s with
 | nil=>exact .nil
 | aq _ ih=>exact .aq (ih (by simpa[D.pl]using p))
 | bl _ ih=>exact .bl (ih (by simpa[D.pl]using p))
 | int _ ih=>exact .int (ih (by simpa[D.pl]using p))
 | str _ ih=>exact .str (ih (by simpa[D.pl]using p))
 | shr h x _ ih=>exact .shr h x (ih (by simp[ig]at p;simpa using p.2))
 | own h _ _ i1 i2=>simp[ig]at p
 | tup h _ _ i1 i2 =>
  rw[dh,kP,dP]at p
  simpa using R.tup h (i1 p.1) (i2 p.2)
 | obj h l x _ ih=>exact .obj h l x (ih (by simpa[D.pl]using p))
 | fz h x _ ih=>exact .fz h x (ih (by simpa[D.pl]using p))
 | bx h _ ih=>exact .bx h (ih (by simpa[D.pl]using p))
theorem R.pl(r:R F H ds vs []):ds.all D.pl=true:=by
 generalize e:([]:List Addr)=A at r
 induction r with
 | nil=>rfl
 | aq _ ih=>simp[D.pl];simpa using ih e
 | bl _ ih=>simp[D.pl];simpa using ih e
 | int _ ih=>simp[D.pl];simpa using ih e
 | str _ ih=>simp[D.pl];simpa using ih e
 | shr h x _ i1 ih=>simp only[dh,ig,i1 rfl,ih e];rfl
 | own h f _ _ i1 i2=>cases e
 | tup h _ _ i1 i2 =>
  obtain⟨e1,e2⟩:=AL.mp e.symm
  simp only[dh,kP,i1 e1.symm,i2 e2.symm];rfl
 | obj h l x _ i1 ih=>simp[D.pl];simpa using ih e
 | fz h x _ i1 ih=>simp[D.pl];simpa using ih e
 | bx h _ ih=>simp[D.pl];simpa using ih e
theorem D.BR:∀{d:D},d.pl=true->d.sh=d
 | .aq,_=>rfl
 | .bl _,_=>rfl
 | .int _,_=>rfl
 | .str _,_=>rfl
 | .obj _ _ _,_=>rfl
 | .fz _,_=>rfl
 | .bx _,_=>rfl
 | .lst o xs,h=>by
  rw[ig,dP]at h
  have:∀(l:List D),(∀x∈l,x∈xs)->l.all D.pl=true->l.map D.sh=l:=by
   intro l hl hp
   induction l with
   | nil=>rfl
   | cons x l ih =>
    simp only[dh,dP]at hp
    have hx:x∈xs:=hl x (by simp)
    rw[cN,D.BR hp.1,ih (λy hy=>hl y (by simp[hy])) hp.2]
  rw[cP,this xs (λ_ h=>h) h.2]
  cases o<;>simp_all
 | .tup xs,h=>by
  rw[kP]at h
  have:∀(l:List D),(∀x∈l,x∈xs)->l.all D.pl=true->l.map D.sh=l:=by
   intro l hl hp
   induction l with
   | nil=>rfl
   | cons x l ih =>
    simp only[dh,dP]at hp
    have hx:x∈xs:=hl x (by simp)
    rw[cN,D.BR hp.1,ih (λy hy=>hl y (by simp[hy])) hp.2]
  rw[l9,this xs (λ_ h=>h) h]
termination_by d=>sizeOf d
theorem me{l:List D}(h:l.all D.pl=true):l.map D.sh=l:=by
 induction l with
 | nil=>rfl
 | cons x l ih =>
  simp only[dh,dP]at h
  rw[cN,D.BR h.1,ih h.2]
theorem S.frozen(e:ae F H)(s:S F H ds vs):R H H (ds.map D.sh) vs []:=by
 induction s with
 | nil=>exact .nil
 | aq _ ih=>exact .aq ih
 | bl _ ih=>exact .bl ih
 | int _ ih=>exact .int ih
 | str _ ih=>exact .str ih
 | shr h x _ ih =>
  rw[cN,cP,me x.pl]
  exact .shr (e _ _ h) (x.shared e (ae.refl _)) ih
 | own h _ _ i1 i2=>rw[cN,cP];exact .shr h i1 i2
 | tup h _ _ i1 i2=>rw[cN,l9];simpa using R.tup h i1 i2
 | obj h l x _ ih=>exact .obj h l (x.shared e (ae.refl _)) ih
 | fz h x _ ih=>exact .fz (e _ _ h) (x.shared e (ae.refl _)) ih
 | bx h _ ih=>exact .bx h ih
noncomputable def bC(F H:Hp)(A:List Addr):Hp:=λa=>if a∈A then H a else F a
theorem kb(e:ae F H):ae F (bC F H A):=⟨λa o h n=>by unfold bC;split;exact e.get _ _ h n;exact h,λa ps h=>by unfold bC;split;exact e.tb _ _ h;exact⟨#[],by rw[h];simp⟩⟩
theorem yb(e:ae F H):ae (bC F H A) H:=⟨λa o h n=>by unfold bC at h;split at h;exact h;exact e.get _ _ h n,λa ps h=>by unfold bC at h;split at h;exact⟨#[],by rw[h];simp⟩;exact e.tb _ _ h⟩
theorem ua{a:Addr}(h:a ∉ A):bC F H A a=F a:=by unfold bC;rw[if_neg h]
theorem Z9{a:Addr}(h:a∈A):bC F H A a=H a:=by unfold bC;rw[if_pos h]
theorem R.bC(e:ae F H)(r:R F H ds vs A):∀A',A ⊆ A'->R (L3.bC F H A') H (ds.map D.sh) vs []:=by
 induction r with
 | nil=>exact λ_ _=>.nil
 | aq _ ih=>exact λA' h=>.aq (ih A' h)
 | bl _ ih=>exact λA' h=>.bl (ih A' h)
 | int _ ih=>exact λA' h=>.int (ih A' h)
 | str _ ih=>exact λA' h=>.str (ih A' h)
 | shr h x _ i1 ih =>
  intro A' hA
  rw[cN,cP,me x.pl]
  exact .shr (kb e _ _ h) (x.shared (kb e) (ae.refl _)) (ih A' hA)
 | own h f _ _ i1 i2 =>
  intro A' hA
  rw[cN,cP]
  exact .shr ((Z9 (hA (by simp))).trans h) (i1 A' λa ha=>hA (by simp[ha])) (i2 A' λa ha=>hA (by simp[ha]))
 | tup h _ _ i1 i2 =>
  intro A' hA
  rw[cN,l9]
  simpa using R.tup h (i1 A' λa ha=>hA (by simp[ha])) (i2 A' λa ha=>hA (by simp[ha]))
 | obj h l x _ i1 ih=>exact λA' hA=>.obj h l (x.shared (kb e) (ae.refl _)) (ih A' hA)
 | fz h x _ i1 ih=>exact λA' hA=>.fz (kb e _ _ h) (x.shared (kb e) (ae.refl _)) (ih A' hA)
 | bx h _ ih=>exact λA' hA=>.bx h (ih A' hA)
theorem R.lists(r:R F H ds vs A):∀a∈A,(∃ws,H a=some (.lst ws))/\F a=none:=by
 induction r with
 | nil=>simp
 | aq _ ih=>exact ih
 | bl _ ih=>exact ih
 | int _ ih=>exact ih
 | str _ ih=>exact ih
 | shr h x _ i1 ih=>exact ih
 | own h f _ _ i1 i2 =>
  intro a ha
  rcases cq.mp ha with rfl | ha
  ·exact⟨⟨_,h⟩,f⟩
  ·exact(bA.mp ha).elim (i1 a) (i2 a)
 | tup h _ _ i1 i2=>exact λa ha=>(bA.mp ha).elim (i1 a) (i2 a)
 | obj h l x _ i1 ih=>exact ih
 | fz h x _ i1 ih=>exact ih
 | bx h _ ih=>exact ih
theorem R.yc(r:R F H ds vs A)(hd:ds.all D.fr=true)(e:ae F' F):R F' H ds vs A:=by
 induction r with
 | nil=>exact .nil
 | aq _ ih=>exact .aq (ih (by simpa[D.fr]using hd))
 | bl _ ih=>exact .bl (ih (by simpa[D.fr]using hd))
 | int _ ih=>exact .int (ih (by simpa[D.fr]using hd))
 | str _ ih=>exact .str (ih (by simpa[D.fr]using hd))
 | shr h x _ i1 ih=>simp[fG]at hd
 | own h f _ _ i1 i2 =>
  rw[dh,fG,dP,lJ]at hd
  exact .own h (e.free f) (i1 hd.1) (i2 hd.2)
 | tup h _ _ i1 i2 =>
  rw[dh,qY,dP]at hd
  exact .tup h (i1 hd.1) (i2 hd.2)
 | obj h l x _ i1 ih=>simp[D.fr]at hd
 | fz h x _ i1 ih=>simp[D.fr]at hd
 | bx h _ ih=>exact .bx h (ih (by simpa[D.fr]using hd))
theorem R.inj(r:R F H ds vs A):∀{B:List Addr},R F H ds vs B->A=B:=by
 induction r with
 | nil=>exact λq=>q.jK.2.symm
 | aq _ ih=>exact λq=>ih q.rv
 | bl _ ih=>exact λq=>ih q.rv
 | int _ ih=>exact λq=>ih q.rv
 | str _ ih=>exact λq=>ih q.rv
 | shr h x _ i1 ih=>exact λq=>ih q.rv
 | own h f _ _ i1 i2 =>
  intro B q
  obtain⟨p,ws,A,B',e,h',f',x',q',rfl⟩:=q.rv
  cases e
  rw[h]at h';cases h'
  rw[i1 x',i2 q']
 | tup h _ _ i1 i2 =>
  intro B q
  obtain⟨p,ws,A,B',e,h',x',q',rfl⟩:=q.rv
  cases e
  rw[h]at h';cases h'
  rw[i1 x',i2 q']
 | obj h l x _ i1 ih=>exact λq=>ih q.rv
 | fz h x _ i1 ih=>exact λq=>ih q.rv
 | bx h _ ih=>exact λq=>ih q.rv
theorem R.perm{ps qs:List (D × V)}(hp:ps.Perm qs):∀{A:List Addr},R F H (ps.map (·.1)) (ps.map (·.2)) A->∃A',R F H (qs.map (·.1)) (qs.map (·.2)) A'/\A.Perm A':=by
 induction hp with
 | nil=>exact λr=>⟨_,r,.refl _⟩
 | cons x _ ih =>
  intro A r
  obtain⟨v,bW,A1,A2,e,rfl,h1,h2⟩:=R.cQ r
  obtain⟨rfl,rfl⟩:=kG e
  obtain⟨A',r',p⟩:=ih h2
  exact⟨A1++A',h1.cons r',p.append_left _⟩
 | swap x y l =>
  intro A r
  obtain⟨v,bW,A1,A2,e,rfl,h1,h2⟩:=R.cQ r
  obtain⟨rfl,rfl⟩:=kG e
  obtain⟨v2,FL,B1,B2,e,rfl,h3,h4⟩:=R.cQ h2
  obtain⟨rfl,rfl⟩:=kG e
  exact⟨B1++(A1++B2),h3.cons (h1.cons h4),by rw[<-cJ,<- cJ];exact mM.append_right _⟩
 | trans _ _ i1 i2 =>
  intro A r
  obtain⟨A',r',p⟩:=i1 r
  obtain⟨A2,r2,p2⟩:=i2 r'
  exact⟨A2,r2,p.trans p2⟩
noncomputable def Full(F H:Hp):Prop:=∀a o,H a=some o->(∀ws,o≠.lst ws)->F a=some o
theorem Full.refl(H:Hp):Full H H:=λ_ _ h _=>h
theorem R.full(hF:Full F H)(hs:ae F H')(r:R F H ds vs A)(e:A=[]):R F H' ds vs []:=by
 induction r with
 | nil=>exact .nil
 | aq _ ih=>exact .aq (ih e)
 | bl _ ih=>exact .bl (ih e)
 | int _ ih=>exact .int (ih e)
 | str _ ih=>exact .str (ih e)
 | shr h x _ i1 ih=>exact .shr h (i1 rfl) (ih e)
 | own h f _ _ i1 i2=>cases e
 | tup h _ _ i1 i2 =>
  obtain⟨e1,e2⟩:=AL.mp e
  exact R.tup (A:=[]) (B:=[]) (hs _ _ (hF _ _ h (by intro ws z;cases z))) (i1 e1) (i2 e2)
 | obj h l x _ i1 ih=>exact .obj (hs _ _ (hF _ _ h (by intro ws z;cases z))) l (i1 rfl) (ih e)
 | fz h x _ i1 ih=>exact .fz h (i1 rfl) (ih e)
 | bx h _ ih=>exact .bx (h.mono λa o e n t=>hs.get a o (hF a o e n) t) (ih e)
open Classical in
noncomputable def snap(F H:Hp):Hp:=λa=>if(∃o,H a=some o/\∀ws,o≠.lst ws)then H a else F a
theorem ub:Full (snap F H) H:=λa o h n=>by unfold snap;rw[if_pos ⟨o,h,n⟩];exact h
theorem qZ(e:ae F H):ae F (snap F H):=⟨λa o h n=>by
 unfold snap;split
 ·exact e.get a o h n
 ·exact h,λa ps h=>by
 unfold snap;split
 ·exact e.tb a ps h
 ·exact⟨#[],by rw[h];simp⟩⟩
theorem γ(e:ae F H):ae (snap F H) H:=⟨λa o h n=>by
 unfold snap at h;split at h
 ·exact h
 ·exact e.get a o h n,λa ps h=>by
 unfold snap at h;split at h
 ·exact⟨#[],by rw[h];simp⟩
 ·exact e.tb a ps h⟩
theorem ε(e:ae F H){a:Addr}{ws:List V}(h:snap F H a=some (.lst ws)):F a=some (.lst ws):=by
 unfold snap at h;split at h
 ·rename_i z
  obtain⟨o,h1,h2⟩:=z
  rw[h]at h1;exact absurd (dq h1).symm (h2 ws)
 ·exact h
theorem ζ{a:Addr}{ws:List V}(h:H a=some (.lst ws))(n:F a=none):snap F H a=none:=by
 unfold snap;split
 ·rename_i z
  obtain⟨o,h1,h2⟩:=z
  rw[h]at h1;exact absurd (dq h1).symm (h2 ws)
 ·exact n
end
end L3
namespace L3
open PySem L2
noncomputable abbrev Dl:=List (Option D)
inductive RS(F H:Hp):Dl->St->List Addr->Prop
 | nil:RS F H [] [] []
 | aq {δ σ o C}:RS F H δ σ C->RS F H (none::δ) (o::σ) C
 | fu {d v A δ σ C}:R F H [d] [v] A->RS F H δ σ C->RS F H (some d::δ) (some v::σ) (A++C)
theorem dE{A B:List Addr}:(A++B).Nodup↔A.Nodup/\B.Nodup/\∀a∈A,a ∉ B:=by
 rw[List.nodup_append]
 constructor
 ·rintro⟨h1,h2,h3⟩;exact⟨h1,h2,λa ha hb=>h3 a ha a hb rfl⟩
 ·rintro⟨h1,h2,h3⟩;exact⟨h1,h2,λa ha b hb e=>h3 a ha (e ▸ hb)⟩
section
variable{F F' H H':Hp}{d:D}{v:V}{δ:Dl}{σ:St}{A C:List Addr}{i:Nat}
theorem RS.length(r:RS F H δ σ C):δ.length=σ.length:=by induction r<;>simp_all
theorem RS.pick:∀{δ:Dl} {σ:St} {C:List Addr} {i:Nat},RS F H δ σ C->δ[i]?=some (some d)->∃v A C',σ[i]?=some (some v)/\R F H [d] [v] A/\RS F H (δ.set i none) σ C'/\C.Perm (A++C')
 | _,_,_,_,.nil,e=>by simp at e
 | _,_,_,i,.aq r,e=>by
  cases i with
  | zero=>simp at e
  | succ i =>
   obtain⟨v,A,C',e1,h1,h2,p⟩:=RS.pick r (by simpa using e)
   exact⟨v,A,C',by simpa using e1,h1,.aq h2,p⟩
 | _,_,_,i,.fu (A:=A0) (C:=C0) h r,e=>by
  cases i with
  | zero =>
   simp at e;subst e
   exact⟨_,A0,C0,rfl,h,.aq r,.refl _⟩
  | succ i =>
   obtain⟨v,A,C',e1,h1,h2,p⟩:=RS.pick r (by simpa using e)
   refine⟨v,A,A0++C',by simpa using e1,h1,.fu h h2,(p.append_left A0).trans ?_⟩
   rw[<-cJ,<- cJ]
   exact mM.append_right _
theorem RS.fill:∀{δ:Dl} {σ:St} {C:List Addr} {i:Nat},RS F H δ σ C->δ[i]?=some none->σ[i]?=some (some v)->R F H [d] [v] A->∃C',RS F H (δ.set i (some d)) σ C'/\C'.Perm (A++C)
 | _,_,_,_,.nil,e,_,_=>by simp at e
 | _,_,_,i,.aq r,e,e2,h=>by
  cases i with
  | zero=>simp at e2;subst e2;exact⟨_,.fu h r,.refl _⟩
  | succ i =>
   obtain⟨C',h1,p⟩:=RS.fill r (by simpa using e) (by simpa using e2) h
   exact⟨C',.aq h1,p⟩
 | _,_,_,i,.fu (A:=A0) (C:=C0) h0 r,e,e2,h=>by
  cases i with
  | zero=>simp at e
  | succ i =>
   obtain⟨C',h1,p⟩:=RS.fill r (by simpa using e) (by simpa using e2) h
   refine⟨A0++C',.fu h0 h1,(p.append_left A0).trans ?_⟩
   rw[<-cJ,<- cJ]
   exact mM.append_right _
theorem RS.drop:∀{δ:Dl} {σ:St} {C:List Addr} (i:Nat),RS F H δ σ C->∃C',RS F H (δ.set i none) σ C'/\C'.Sublist C
 | _,_,_,_,.nil=>⟨_,.nil,.refl _⟩
 | _,_,_,i,.aq r=>by
  cases i with
  | zero=>exact⟨_,.aq r,.refl _⟩
  | succ i=>obtain⟨C',h,s⟩:=RS.drop i r;exact⟨C',.aq h,s⟩
 | _,_,_,i,.fu (A:=A0) h0 r=>by
  cases i with
  | zero=>exact⟨_,.aq r,List.sublist_append_right _ _⟩
  | succ i=>obtain⟨C',h,s⟩:=RS.drop i r;exact⟨_,.fu h0 h,(Lo A0).append s⟩
theorem RS.ud:∀{δ:Dl} {σ:St} {C:List Addr} {i:Nat} (o:Option V),RS F H δ σ C->(δ[i]?=some none\/δ[i]?=none)->RS F H δ (σ.set i o) C
 | _,_,_,_,_,.nil,_=>.nil
 | _,_,_,i,_,.aq r,e=>by
  cases i with
  | zero=>exact .aq r
  | succ i=>exact .aq (RS.ud _ r (by simpa using e))
 | _,_,_,i,_,.fu h0 r,e=>by
  cases i with
  | zero=>simp at e
  | succ i=>exact .fu h0 (RS.ud _ r (by simpa using e))
theorem RS.keep{W:List Addr}(hf:ae F F')(hb:fH W H H')(hl:gi W H)(r:RS F H δ σ C)(hn:∀a∈C,F' a=none)(hd:∀a∈C,a ∉ W):RS F' H' δ σ C:=by
 induction r with
 | nil=>exact .nil
 | aq _ ih=>exact .aq (ih hn hd)
 | fu h _ ih=>exact .fu (h.keep hf hb hl (λa ha=>hn a (by simp[ha])) λa ha=>hd a (by simp[ha])) (ih (λa ha=>hn a (by simp[ha])) λa ha=>hd a (by simp[ha]))
theorem RS.lists(r:RS F H δ σ C):∀a∈C,(∃ws,H a=some (.lst ws))/\F a=none:=by
 induction r with
 | nil=>simp
 | aq _ ih=>exact ih
 | fu h _ ih=>exact λa ha=>(bA.mp ha).elim (h.lists a) (ih a)
end
structure Bs where
 H0:Hp
 F0:Hp
structure ai(B:Bs)(F H:Hp)(σ:St)(δ:Dl)(ts:List (D × V)):Prop where
 ext:ae F H
 b1:ae B.H0 H
 b2:ae B.F0 F
 b3:∀a ws,F a=some (.lst ws)->B.F0 a=some (.lst ws)\/B.H0 a=none
 own:∃A C,R F H (ts.map (·.1)) (ts.map (·.2)) A/\RS F H δ σ C/\(A++C).Nodup/\∀a∈A++C,B.H0 a=none
section
variable{B:Bs}{F F' H H':Hp}{d:D}{v:V}{δ:Dl}{σ:St}{ts ps:List (D × V)}{A C W:List Addr}{i:Nat}{p:Addr}{xs ys:List D}{vs ws:List V}
theorem ai.look(c:ai B F H σ δ ts)(e:δ[i]?=some (some d)):∃v,σ[i]?=some (some v)/\S F H [d] [v]:=by
 obtain⟨A,C,r,s,nd,fr⟩:=c.own
 obtain⟨v,A',C',e1,h1,h2,p⟩:=s.pick e
 exact⟨v,e1,h1.s⟩
theorem ai.len(c:ai B F H σ δ ts):δ.length=σ.length:=let⟨_,_,_,s,_⟩:=c.own;s.length
theorem ai.grow(c:ai B F H σ δ ts)(h:ae H H'):ai B F H' σ δ ts:=by
 obtain⟨A,C,r,s,nd,fr⟩:=c.own
 exact⟨c.ext.trans h,c.b1.trans h,c.b2,c.b3,A,C,r.grow (ae.refl _) h λa ha=>(r.lists a ha).2,s.keep (ae.refl _) (fH.same h) gi.nil (λa ha=>(s.lists a ha).2) (by simp),nd,fr⟩
theorem ai.pop(c:ai B F H σ δ ((d,v)::ts)):ai B F H σ δ ts:=by
 obtain⟨A,C,r,s,nd,fr⟩:=c.own
 obtain⟨w,bW,A1,A2,e,rfl,h1,h2⟩:=R.cQ r
 obtain⟨rfl,rfl⟩:=kG e
 refine⟨c.ext,c.b1,c.b2,c.b3,A2,C,h2,s,?_,λa ha=>fr a (by simp at ha ⊢;exact .inr ha)⟩
 rw[cJ]at nd
 exact(dE.mp nd).2.1
theorem ai.top(c:ai B F H σ δ ((d,v)::ts)):S F H [d] [v]:=by
 obtain⟨A,C,r,s,nd,fr⟩:=c.own
 obtain⟨w,bW,A1,A2,e,rfl,h1,h2⟩:=R.cQ r
 obtain⟨rfl,rfl⟩:=kG e
 exact h1.s
theorem ai.pushS(c:ai B F H σ δ ts)(s:S F H [d] [v])(pl:d.pl=true):ai B F H σ δ ((d,v)::ts):=by
 obtain⟨A,C,r,q,nd,fr⟩:=c.own
 exact⟨c.ext,c.b1,c.b2,c.b3,A,C,(s.r (by simp[pl])).cons r,q,nd,fr⟩
theorem ae.upd{o:HO}(h:H p=none):ae H (upd H p o):=.of λb u e=>by rw[aL (dH e h)];exact e
theorem ai.pack(c:ai B F H σ δ (ps++ts))(hs:ae H H')(k:∀A1,R F H' (ps.map (·.1)) (ps.map (·.2)) A1->A1.Nodup->∃A',R F H' [d] [v] A'/\A'.Nodup/\∀a∈A',a∈A1\/H a=none):ai B F H' σ δ ((d,v)::ts):=by
 obtain⟨A,C,r,s,nd,fr⟩:=c.own
 rw[dy,dy]at r
 obtain⟨v1,v2,A1,A2,e,rfl,h1,h2⟩:=R.split r
 have l1:(ps.map (·.2)).length=v1.length:=by rw[<-h1.length];simp
 obtain⟨rfl,rfl⟩:=oH e l1
 rw[cJ]at nd fr
 obtain⟨n1,n2,n3⟩:=dE.mp nd
 have g1:=h1.grow (ae.refl F) hs λa ha=>(h1.lists a ha).2
 have g2:=h2.grow (ae.refl F) hs λa ha=>(h2.lists a ha).2
 have gs:=s.keep (ae.refl F) (fH.same hs) gi.nil (λa ha=>(s.lists a ha).2) (by simp)
 obtain⟨A',r',ij,sub⟩:=k A1 g1 n1
 refine⟨c.ext.trans hs,c.b1.trans hs,c.b2,c.b3,A'++A2,C,r'.cons g2,gs,?_,?_⟩
 ·rw[cJ]
  refine dE.mpr ⟨ij,n2,λa ha hb=>?_⟩
  rcases sub a ha with z | z
  ·exact n3 a z hb
  ·rcases bA.mp hb with y | y
   ·obtain⟨⟨_,q⟩,_⟩:=h2.lists a y;rw[z]at q;cases q
   ·obtain⟨⟨_,q⟩,_⟩:=s.lists a y;rw[z]at q;cases q
 ·intro a ha
  rw[cJ]at ha
  rcases bA.mp ha with y | y
  ·rcases sub a y with z | z
   ·exact fr a (by simp[z])
   ·exact c.b1.free z
  ·exact fr a (cI _ y)
theorem ai.FN(c:ai B F H σ δ ts)(hs:ae H H')(r:R F H' [d] [v] A)(nd:A.Nodup)(fr:∀a∈A,H a=none):ai B F H' σ δ ((d,v)::ts) :=
 ai.pack (ps:=[]) c hs λ_ _ _=>⟨A,r,nd,λa ha=>.inr (fr a ha)⟩
theorem ai.oV(c:ai B F H σ δ ts)(hp:H p=none)(s:S F H xs vs)(pl:xs.all D.pl=true):ai B F (upd H p (.lst vs)) σ δ ((.lst true xs,.ref p)::ts) :=
 c.FN (ae.upd hp) (A:=[p]) (by simpa using R.own br (c.ext.free hp) ((s.r pl).shared (ae.refl _) (ae.upd hp)) .nil) (by simp) (by simp[hp])
theorem ai.η(c:ai B F H σ δ (ps++ts))(hp:H p=none):ai B F (upd H p (.lst (ps.map (·.2)))) σ δ ((.lst true (ps.map (·.1)),.ref p)::ts):=by
 refine c.pack (ae.upd hp) λA1 r nd=>⟨p::A1,by simpa using R.own br (c.ext.free hp) r .nil,iQ.mpr ⟨λh=>?_,nd⟩,λa ha=>?_⟩
 ·obtain⟨A,C,r0,_,_,_⟩:=c.own
  rw[dy,dy]at r0
  obtain⟨v1,v2,B1,B2,e,rfl,h1,h2⟩:=R.split r0
  have l1:(ps.map (·.2)).length=v1.length:=by rw[<-h1.length];simp
  obtain⟨rfl,rfl⟩:=oH e l1
  have g1:=h1.grow (ae.refl F) (ae.upd (o:=.lst (ps.map (·.2))) hp) λa ha=>(h1.lists a ha).2
  have:A1=B1:=R.inj r g1
  subst this
  obtain⟨⟨_,q⟩,_⟩:=h1.lists p h
  rw[hp]at q;cases q
 ·rcases cq.mp ha with rfl | h
  ·exact .inr hp
  ·exact .inl h
theorem ai.θ(c:ai B F H σ δ (ps++ts))(hp:H p=none):ai B F (upd H p (.tup (ps.map (·.2)))) σ δ ((.tup (ps.map (·.1)),.ref p)::ts) :=
 c.pack (ae.upd hp) λA1 r nd=>⟨A1,by simpa using R.tup (F:=F) br r .nil,nd,λa ha=>.inl ha⟩
theorem ai.perm(c:ai B F H σ δ ps)(h:ps.Perm ts):ai B F H σ δ ts:=by
 obtain⟨A,C,r,s,nd,fr⟩:=c.own
 obtain⟨A',r',p⟩:=r.perm h
 have pp:=p.append_right C
 exact⟨c.ext,c.b1,c.b2,c.b3,A',C,r',s,pp.nodup_iff.mp nd,λa ha=>fr a (pp.mem_iff.mpr ha)⟩
theorem ai.move(c:ai B F H σ δ ts)(e:δ[i]?=some (some d)):∃v,σ[i]?=some (some v)/\ai B F H σ (δ.set i none) ((d,v)::ts):=by
 obtain⟨A,C,r,s,nd,fr⟩:=c.own
 obtain⟨v,A',C',e1,h1,h2,p⟩:=s.pick e
 have pp:(A++C).Perm ((A'++A)++C'):=by
  refine(p.append_left A).trans ?_
  rw[<-cJ]
  exact mM.append_right _
 exact⟨v,e1,c.ext,c.b1,c.b2,c.b3,A'++A,C',h1.cons r,h2,pp.nodup_iff.mp nd,λa ha=>fr a (pp.mem_iff.mpr ha)⟩
theorem ai.forget(c:ai B F H σ δ ts)(i:Nat):ai B F H σ (δ.set i none) ts:=by
 obtain⟨A,C,r,s,nd,fr⟩:=c.own
 obtain⟨C',h,sb⟩:=s.drop i
 exact⟨c.ext,c.b1,c.b2,c.b3,A,C',r,h,nd.sublist ((Lo A).append sb),λa ha=>fr a (((Lo A).append sb).subset ha)⟩
theorem ai.fill(c:ai B F H σ δ ((d,v)::ts))(e:δ[i]?=some none)(e2:σ[i]?=some (some v)):ai B F H σ (δ.set i (some d)) ts:=by
 obtain⟨A,C,r,s,nd,fr⟩:=c.own
 obtain⟨w,bW,A1,A2,e',rfl,h1,h2⟩:=R.cQ r
 obtain⟨rfl,rfl⟩:=kG e'
 obtain⟨C',s',p⟩:=s.fill e e2 h1
 have pp:((A1++A2)++C).Perm (A2++C'):=by
  refine((mM (l₁:=A1) (l₂:=A2)).append_right C).trans ?_
  rw[cJ]
  exact(p.symm).append_left A2
 exact⟨c.ext,c.b1,c.b2,c.b3,A2,C',h2,s',pp.nodup_iff.mp nd,λa ha=>fr a (pp.mem_iff.mpr ha)⟩
theorem ai.ud(c:ai B F H σ δ ts)(o:Option V)(e:δ[i]?=some none\/δ[i]?=none):ai B F H (σ.set i o) δ ts:=by
 obtain⟨A,C,r,s,nd,fr⟩:=c.own
 exact⟨c.ext,c.b1,c.b2,c.b3,A,C,r,s.ud o e,nd,fr⟩
theorem ai.store(c:ai B F H σ δ ((d,v)::ts))(i:Nat):ai B F H (σ.set i (some v)) (δ.set i (some d)) ts:=by
 by_cases hi:i<δ.length
 ·have c1:=c.forget i
  have hs:i<σ.length:=by rw[<-c.len];exact hi
  have e:(δ.set i none)[i]?=some none:=by simp[hi]
  have c2:=(c1.ud (some v) (.inl e)).fill (i:=i) e (by simp[hs])
  rwa [qw]at c2
 ·have hs:¬ i<σ.length:=by rw[<-c.len];exact hi
  rw[VF (by omega),VF (by omega)]
  exact c.pop
theorem ai.mut(c:ai B F H σ δ (ps++ts))(e:δ[i]?=some (some (.lst true xs)))(e2:σ[i]?=some (some (.ref p)))
  (k:∀ws A1 A2,H p=some (.lst ws)->R F H xs ws A1->R F H (ps.map (·.1)) (ps.map (·.2)) A2->(A1++A2).Nodup->∃A',R F H ys vs A'/\A'.Nodup/\∀a∈A',a∈A1++A2) :
  ai B F (upd H p (.lst vs)) σ (δ.set i (some (.lst true ys))) ts:=by
 have hi:i<δ.length:=(kE.mp e).1
 obtain⟨v,e3,c1⟩:=c.move e
 rw[e2]at e3;cases e3
 obtain⟨A,C,r,s,nd,fr⟩:=c1.own
 have r':R F H (([.lst true xs]++ps.map (·.1))++ts.map (·.1)) ((.ref p::ps.map (·.2))++ts.map (·.2)) A:=by simpa using r
 obtain⟨v1,v2,A1,A2,e4,rfl,h1,h2⟩:=R.split r'
 have l1:(V.ref p::ps.map (·.2)).length=v1.length:=by rw[<-h1.length];simp
 obtain⟨rfl,rfl⟩:=oH e4 l1
 obtain⟨p',BS,B1,B2,ep,hH,hF,hx,hr,rfl⟩:=h1.rv
 cases ep
 ·skip
  rw[cJ]at nd fr
  obtain⟨n1,n2,n3⟩:=dE.mp nd
  obtain⟨m1,m2⟩:=iQ.mp n1
  obtain⟨A',ra,FP,sub⟩:=k BS B1 B2 hH hx hr m2
  have pA:p ∉ A':=λz=>m1 (sub _ z)
  have pR:p ∉ A2++C:=λz=>n3 p (by simp) z
  have but:fH [p] H (upd H p (.lst vs)):=⟨λa o q z _=>by rw[aL (by simpa using z)];exact q⟩
  have hl:gi [p] H:=λa ha=>by rw[dG.mp ha];exact⟨_,hH⟩
  have g1:=ra.keep (ae.refl F) but hl (λa ha=>(ra.lists a ha).2) λa ha z=>pA (by rw[<-dG.mp z];exact ha)
  have g2:=h2.keep (ae.refl F) but hl (λa ha=>(h2.lists a ha).2) λa ha z=>pR (by rw[<-dG.mp z];exact df _ ha)
  have gs:=s.keep (ae.refl F) but hl (λa ha=>(s.lists a ha).2) λa ha z=>pR (by rw[<-dG.mp z];exact cI _ ha)
  have fp:B.H0 p=none:=fr p (by simp)
  have b1:ae B.H0 (upd H p (.lst vs)):=⟨λa o q n=>by
   rw[aL (λz=>by rw[z,fp]at q;cases q)]
   exact c1.b1.get a o q n,λa ps q=>by
   rw[aL (λz=>by rw[z,fp]at q;cases q)]
   exact c1.b1.tb a ps q⟩
  have ext:ae F (upd H p (.lst vs)):=⟨λa o q n=>by
   rw[aL (λz=>by rw[z,hF]at q;cases q)]
   exact c1.ext.get a o q n,λa ps q=>by
   rw[aL (λz=>by rw[z,hF]at q;cases q)]
   exact c1.ext.tb a ps q⟩
  have c2:ai B F (upd H p (.lst vs)) σ (δ.set i none) ((.lst true ys,.ref p)::ts):=by
   refine⟨ext,b1,c1.b2,c1.b3,(p::A')++A2,C,R.cons (by simpa using R.own br hF g1 .nil) g2,gs,?_,?_⟩
   ·rw[cJ]
    refine dE.mpr ⟨iQ.mpr ⟨pA,FP⟩,n2,λa ha hb=>?_⟩
    rcases cq.mp ha with rfl | ha
    ·exact pR hb
    ·exact n3 a (gB _ (sub a ha)) hb
   ·intro a ha
    rw[cJ]at ha
    rcases bA.mp ha with z | z
    ·rcases cq.mp z with rfl | z
     ·exact fp
     ·exact fr a (df _ (gB _ (sub a z)))
    ·exact fr a (cI _ z)
  have c3:=c2.fill (i:=i) (by simp[hi]) e2
  rwa [qw]at c3
theorem ai.FQ(c:ai B F H σ δ ((d,v)::ts)):∃F',ae F F'/\ai B F' H σ δ ((d.sh,v)::ts):=by
 obtain⟨A,C,r,s,nd,fr⟩:=c.own
 obtain⟨w,bW,A1,A2,e',rfl,h1,h2⟩:=R.cQ r
 obtain⟨rfl,rfl⟩:=kG e'
 rw[cJ]at nd fr
 obtain⟨n1,n2,n3⟩:=dE.mp nd
 have out:∀a∈A2++C,bC F H A1 a=F a:=λa ha=>ua λz=>n3 a z ha
 have b3:∀a o,bC F H A1 a=some (.lst o)->B.F0 a=some (.lst o)\/B.H0 a=none:=λa o q=>by
  by_cases z:a∈A1
  ·exact .inr (fr a (df _ z))
  ·rw[ua z]at q;exact c.b3 a o q
 refine⟨bC F H A1,kb c.ext,yb c.ext,c.b1,c.b2.trans (kb c.ext),b3,A2,C,?_,?_,n2,λa ha=>fr a (cI _ ha)⟩
 ·have g1:=h1.bC c.ext A1 (λ_ h=>h)
  exact R.cons (A:=[]) g1 (h2.keep (kb c.ext) (fH.same (ae.refl H)) gi.nil (λa ha=>by rw[out a (df _ ha)];exact(h2.lists a ha).2) (by simp))
 ·exact s.keep (kb c.ext) (fH.same (ae.refl H)) gi.nil (λa ha=>by rw[out a (cI _ ha)];exact(s.lists a ha).2) (by simp)
theorem ai.freeze(c:ai B F H σ δ ts)(e:δ[i]?=some (some d)):∃F',ae F F'/\ai B F' H σ (δ.set i (some d.sh)) ts:=by
 have hi:i<δ.length:=(kE.mp e).1
 obtain⟨v,e2,c1⟩:=c.move e
 obtain⟨F',s,c2⟩:=c1.FQ
 refine⟨F',s,?_⟩
 have c3:=c2.fill (i:=i) (by simp[hi]) e2
 rwa [qw]at c3
theorem ai.rebase(c:ai B F H σ δ ts):ai ⟨B.H0,F⟩ F H σ δ ts:=⟨c.ext,c.b1,ae.refl _,λ_ _ q=>.inl q,c.own⟩
theorem ai.ι{F1:Hp}(c:ai ⟨B.H0,F1⟩ F H σ δ ts)(h:ae B.F0 F1)(h3:∀a ws,F1 a=some (.lst ws)->B.F0 a=some (.lst ws)\/B.H0 a=none):ai B F H σ δ ts :=
 ⟨c.ext,c.b1,h.trans c.b2,λa o q=>(c.b3 a o q).elim (h3 a o) .inr,c.own⟩
theorem ai.call(c:ai B F H σ δ ts)(hs:ae H H')(hf:ae F F')(he:ae F' H')(h3:∀a ws,F' a=some (.lst ws)->F a=some (.lst ws)\/H a=none)(r:R F' H' [d] [v] A)(nd:A.Nodup)(fr:∀a∈A,H a=none) :
  ai B F' H' σ δ ((d,v)::ts):=by
 obtain⟨A0,C,r0,s,yd,μ⟩:=c.own
 have no:∀a,(∃ws,H a=some (.lst ws))/\F a=none->F' a=none:=λa zz=>by
  obtain⟨⟨ws,e⟩,n⟩:=zz
  cases q:F' a with
  | none=>rfl
  | some o =>
   have q2:H' a=some o:=by
    cases n:gh o with
    | true=>exact he.get a o q n
    | false =>
     obtain⟨ps,rfl⟩:=oU n
     obtain⟨m,z⟩:=he.tb a ps q
     rw[hs a _ e]at z
     cases z
   rw[hs a _ e]at q2
   cases q2
   rcases h3 a ws q with z | z
   ·rw[n]at z;cases z
   ·rw[e]at z;cases z
 refine⟨he,c.b1.trans hs,c.b2.trans hf,λa o q=>(h3 a o q).elim (c.b3 a o) λz=>.inr (c.b1.free z),A++A0,C,R.cons r (r0.grow hf hs λa ha=>no a (r0.lists a ha)),
  s.keep hf (fH.same hs) gi.nil (λa ha=>no a (s.lists a ha)) (by simp),?_,?_⟩
 ·rw[cJ]
  refine dE.mpr ⟨nd,yd,λa ha hb=>?_⟩
  have z:=fr a ha
  rcases bA.mp hb with y | y
  ·obtain⟨⟨_,q⟩,_⟩:=r0.lists a y;rw[z]at q;cases q
  ·obtain⟨⟨_,q⟩,_⟩:=s.lists a y;rw[z]at q;cases q
 ·intro a ha
  rw[cJ]at ha
  rcases bA.mp ha with y | y
  ·exact c.b1.free (fr a y)
  ·exact μ a y
theorem ai.ν(c:ai B F H σ δ ((d,v)::ts)):ai B F H (some v::σ) (some d::δ) ts:=by
 obtain⟨A,C,r,s,nd,fr⟩:=c.own
 obtain⟨w,bW,A1,A2,e',rfl,h1,h2⟩:=R.cQ r
 obtain⟨rfl,rfl⟩:=kG e'
 have pp:((A1++A2)++C).Perm (A2++(A1++C)):=by
  rw[<-cJ];exact mM.append_right C
 exact⟨c.ext,c.b1,c.b2,c.b3,A2,A1++C,h2,.fu h1 s,pp.nodup_iff.mp nd,λa ha=>fr a (pp.mem_iff.mpr ha)⟩
theorem ai.ξ{w:V}(c:ai B F H (some w::σ) (some d::δ) ts):ai B F H σ δ ((d,w)::ts):=by
 obtain⟨A,C,r,s,nd,fr⟩:=c.own
 cases s with
 | @fu _ _ A1 _ _ C1 h1 s =>
  have pp:(A++(A1++C1)).Perm ((A1++A)++C1):=by
   rw[<-cJ];exact mM.append_right C1
  exact⟨c.ext,c.b1,c.b2,c.b3,A1++A,C1,R.cons h1 r,s,pp.nodup_iff.mp nd,λa ha=>fr a (pp.mem_iff.mpr ha)⟩
theorem ai.ο(c:ai B F H σ δ ((d,v)::(.lst true xs,.ref p)::ts))(hp:H p=some (.lst ws)):ai B F (upd H p (.lst (ws++[v]))) σ δ ((.lst true (xs++[d]),.ref p)::ts):=by
 have c1:=(c.perm (List.Perm.swap _ _ _)).ν
 refine(ai.mut (ps:=[(d,v)]) (i:=0) (ys:=xs++[d]) (vs:=ws++[v]) c1 rfl rfl λfS A1 A2 h r1 r2 nd=>?_).ξ
 rw[hp]at h;cases h
 exact⟨A1++A2,r1.append r2,nd,λa ha=>ha⟩
theorem ai.app(c:ai B F H σ δ ((d,v)::ts))(e:δ[i]?=some (some (.lst true xs)))(e2:σ[i]?=some (some (.ref p)))(hp:H p=some (.lst ws)) :
  ai B F (upd H p (.lst (ws++[v]))) σ (δ.set i (some (.lst true (xs++[d])))) ts :=
 ai.mut (ps:=[(d,v)]) c e e2 λfS A1 A2 h r1 r2 nd=>by
  rw[hp]at h;cases h
  exact⟨A1++A2,r1.append r2,nd,λa ha=>ha⟩
theorem R.ye:∀{xs:List D} {ws:List V} {A1 A2:List Addr} (j:Nat),R F H xs ws A1->R F H [d] [v] A2->(A1++A2).Nodup->∃A',R F H (xs.set j d) (ws.set j v) A'/\A'.Nodup/\∀a∈A',a∈A1++A2
 | [],_,A1,A2,j,r,q,nd=>by cases r;exact⟨[],.nil,by simp,by simp⟩
 | x::xs,_,A1,A2,j,r,q,nd=>by
  obtain⟨w,fS,B1,B2,rfl,rfl,h1,h2⟩:=r.cQ
  rw[cJ]at nd
  obtain⟨n1,n2,n3⟩:=dE.mp nd
  cases j with
  | zero =>
   refine⟨A2++B2,q.cons h2,(mM (l₁:=B2) (l₂:=A2)).nodup_iff.mp n2,λa ha=>?_⟩
   simp only[bA]at ha ⊢
   rcases ha with z | z
   ·exact .inr z
   ·exact .inl (.inr z)
  | succ j =>
   obtain⟨A',r',ij,sub⟩:=R.ye j h2 q n2
   refine⟨B1++A',h1.cons r',dE.mpr ⟨n1,ij,λa ha hb=>n3 a ha (sub a hb)⟩,λa ha=>?_⟩
   rcases bA.mp ha with z | z
   ·simp[z]
   ·have:=sub a z
    simp only[bA]at this ⊢
    rcases this with z | z
    ·exact .inl (.inr z)
    ·exact .inr z
theorem ai.NM(c:ai B F H σ δ ((d,v)::ts))(e:δ[i]?=some (some (.lst true xs)))(e2:σ[i]?=some (some (.ref p)))(hp:H p=some (.lst ws))(j:Nat) :
  ai B F (upd H p (.lst (ws.set j v))) σ (δ.set i (some (.lst true (xs.set j d)))) ts :=
 ai.mut (ps:=[(d,v)]) c e e2 λfS A1 A2 h r1 r2 nd=>by
  rw[hp]at h;cases h
  exact r1.ye j r2 nd
theorem ai.ownAt(c:ai B F H σ δ ts)(e:δ[i]?=some (some (.lst true xs))):∃p ws,σ[i]?=some (some (.ref p))/\H p=some (.lst ws)/\xs.length=ws.length:=by
 obtain⟨v,e1,s⟩:=c.look e
 cases s with
 | own h x _=>exact⟨_,_,e1,h,x.length⟩
theorem RS.start{ds:List D}{vs:List V}(r:R F H ds vs [])(n:Nat):RS F H (ds.map some++bg n none) (vs.map some++bg n none) []:=by
 have z:∀n,RS F H (bg n none) (bg n none) []:=λn=>by
  induction n with
  | zero=>exact .nil
  | succ n ih=>exact .aq ih
 have:∀(ds:List D) (vs:List V),R F H ds vs []->RS F H (ds.map some++bg n none) (vs.map some++bg n none) []:=by
  intro ds
  induction ds with
  | nil=>intro vs r;cases r;exact z n
  | cons d ds ih =>
   intro vs r
   obtain⟨v,bW,A1,A2,rfl,e,h1,h2⟩:=r.cQ
   obtain⟨rfl,rfl⟩:=AL.mp e.symm
   exact .fu (A:=[]) h1 (ih _ h2)
 exact this ds vs r
theorem ai.start{ds:List D}{vs:List V}(e:ae F H)(r:R F H ds vs [])(n:Nat):ai ⟨H,F⟩ F H (vs.map some++bg n none) (ds.map some++bg n none) [] :=
 ⟨e,ae.refl _,ae.refl _,λ_ _ q=>.inl q,[],[],.nil,RS.start r n,by simp,by simp⟩
theorem ai.snap(c:ai B F H σ δ ts):ai B (L3.snap F H) H σ δ ts:=by
 obtain⟨A,C,r,s,nd,fr⟩:=c.own
 have no:∀a,(∃ws,H a=some (.lst ws))/\F a=none->L3.snap F H a=none:=λa ⟨⟨ws,e⟩,n⟩=>ζ e n
 exact⟨γ c.ext,c.b1,c.b2.trans (qZ c.ext),λa ws q=>c.b3 a ws (ε c.ext q),A,C,r.grow (qZ c.ext) (ae.refl _) λa ha=>no a (r.lists a ha),
  s.keep (qZ c.ext) (fH.same (ae.refl _)) gi.nil (λa ha=>no a (s.lists a ha)) (by simp),nd,fr⟩
end
end L3
namespace L3
open PySem L2 PySem.Spec PyProof.Rows
noncomputable abbrev aI:=Dl->(D->Dl->Prop)->Prop
noncomputable abbrev gj:=Dl->(Bool->Dl->Prop)->Prop
noncomputable abbrev bX:=Dl->(List D->Dl->Prop)->Prop
structure q8 where
 nx:Dl->Prop
 rt:D->Prop
 bk:Dl->Prop:=λ_=>False
 ct:Dl->Prop:=λ_=>False
 xc:Addr->Dl->Prop:=λ_ _=>False
 xr:Addr->Dl->Prop:=λ_ _=>False
noncomputable abbrev bR:=q8->Dl->Prop
noncomputable def lE(t:aI):TE:=λσ H Q=>∃B F δ ts Qd,ai B F H σ δ ts/\t δ Qd/\∀d ag v F' H',Qd d ag->ae F F'->ae H H'->ai B F' H' σ ag ((d,v)::ts)->Q v H'
noncomputable def lB(t:aI):TE:=λσ H Q=>∃B F δ ts Qd,ai B F H σ δ ts/\t δ Qd/\∀d ag v F' H',Qd d ag->ae F F'->ae H H'->ai B F' H' σ ag ts->S F' H' [d] [v]->Q v H'
noncomputable def lT(t:gj):TT:=λσ H Q=>∃B F δ ts Qd,ai B F H σ δ ts/\t δ Qd/\∀b ag F' H',Qd b ag->ae F F'->ae H H'->ai B F' H' σ ag ts->Q b H'
noncomputable def lA(t:bX):TA:=λσ H Q=>∃B F δ ts Qd,ai B F H σ δ ts/\t δ Qd/\∀ds ag vs F' H',Qd ds ag->ae F F'->ae H H'->ai B F' H' σ ag ts->S F' H' ds vs->Q vs H'
noncomputable def lO(t:bX):TA:=λσ H Q=>∃B F δ ts Qd,ai B F H σ δ ts/\t δ Qd/\∀(ps:List (D × V)) ag F' H',Qd (ps.map (·.1)) ag->ae F F'->ae H H'->ai B F' H' σ ag (ps++ts)->Q (ps.map (·.2)) H'
noncomputable def XL(X:Cx)(B:Bs)(Dd:q8):Prop :=
 (∀C ag pins ax F' H' s' a T,Dd.xc C ag->ai B F' H' ax ag []->Inv X pins ax H' s'->ie s'.heap a T (.ref C)->Apart X pins H' a->Apart X pins H' T->X.xe (.ref a) s') /\
 (∀C ag pins ax F' H' s' h' e vs,Dd.xr C ag->ai B F' H' ax ag []->Inv X pins ax H' s'->Ln s'.heap h' e (.ref C) vs->X.xe (.ref e) { s' with heap:=h' })
theorem XL.none{X:Cx}{B:Bs}{Dd:q8}(h1:∀C δ,¬ Dd.xc C δ)(h2:∀C δ,¬ Dd.xr C δ):XL X B Dd:=⟨λC δ _ _ _ _ _ _ _ h=>absurd h (h1 C δ),λC δ _ _ _ _ _ _ _ _ h=>absurd h (h2 C δ)⟩
noncomputable def lS(X:Cx)(t:bR):TS:=λD σ H=>∃B F δ Dd,ai B F H σ δ []/\t Dd δ/\(∀ag ax F' H',Dd.nx ag->ai B F' H' ax ag []->D.nx ax H')/\(∀d v ag ax F' H',Dd.rt d->ai B F' H' ax ag [(d,v)]->D.rt v H') /\
 (∀ag ax F' H',Dd.bk ag->ai B F' H' ax ag []->D.bk ax H')/\(∀ag ax F' H',Dd.ct ag->ai B F' H' ax ag []->D.ct ax H')/\XL X B Dd
section
variable{X:Cx}{e a b c:Expr}{es:List Expr}{pos:Pos}{st:Stmt}{oM:List Stmt}
theorem da{t t':TE}(h:PE X e t)(m:∀σ H Q,t' σ H Q->t σ H Q):PE X e t':=λpins s σ H Q I q=>h pins s σ H Q I (m σ H Q q)
theorem FR{t t':TT}(h:PT X e t)(m:∀σ H Q,t' σ H Q->t σ H Q):PT X e t':=λpins s σ H Q I q=>h pins s σ H Q I (m σ H Q q)
theorem π{t t':TT}(h:PW X e t)(m:∀σ H Q,t' σ H Q->t σ H Q):PW X e t':=λwh pins s σ H Q I q=>h wh pins s σ H Q I (m σ H Q q)
theorem yf{t t':TA}(h:PA X es t)(m:∀σ H Q,t' σ H Q->t σ H Q):PA X es t':=λp pins s σ H Q I q=>h p pins s σ H Q I (m σ H Q q)
theorem iG{t t':TS}(h:PS X st t)(m:∀D σ H,t' D σ H->t D σ H):PS X st t':=λpins s σ H D I q=>h pins s σ H D I (m D σ H q)
theorem BU{t t':TS}(h:PSs X oM t)(m:∀D σ H,t' D σ H->t D σ H):PSs X oM t':=λpins s σ H D I q=>h pins s σ H D I (m D σ H q)
variable{t u ta tb tc:aI}
theorem aa(h:PE X e (lE t)):PE X e (lB t):=da h λσ H Q zq=>by
 obtain⟨B,F,δ,ts,Qd,c,q,k⟩:=zq
 exact⟨B,F,δ,ts,Qd,c,q,λd ag v F' H' hd sf sh c'=>k d ag v F' H' hd sf sh c'.pop c'.top⟩
noncomputable def kQ(t:aI):aI:=λδ Q=>t δ λd ag=>d.pl=true/\Q d ag
theorem cR(h:PE X e (lB t)):PE X e (lE (kQ t)):=da h λσ H Q zq=>by
 obtain⟨B,F,δ,ts,Qd,c,q,k⟩:=zq
 exact⟨B,F,δ,ts,_,c,q,λd ag v F' H' hd sf sh c' s=>k d ag v F' H' hd.2 sf sh (c'.pushS s hd.1)⟩
noncomputable def m8(i:Nat):aI:=λδ Q=>match δ[i]? with
 | some (some d)=>Q d δ
 | _=>False
noncomputable def oW(i:Nat):aI:=λδ Q=>match δ[i]? with
 | some (some d)=>Q d (δ.set i none)
 | _=>False
theorem ρ{i:Nat}{δ:Dl}{Q:D->Dl->Prop}(h:m8 i δ Q):∃d,δ[i]?=some (some d)/\Q d δ:=by
 unfold m8 at h
 split at h
 ·rename_i d e;exact⟨d,e,h⟩
 ·exact h.elim
theorem τ{i:Nat}{δ:Dl}{Q:D->Dl->Prop}(h:oW i δ Q):∃d,δ[i]?=some (some d)/\Q d (δ.set i none):=by
 unfold oW at h
 split at h
 ·rename_i d e;exact⟨d,e,h⟩
 ·exact h.elim
noncomputable def dC(d:D):aI:=λδ Q=>Q d δ
theorem bv(i:Nat){x:Str}(hN:X.N[i]?=some x:=by rfl)(hv:iB X.env.scope x:=by first | exact ay rfl | exact bV (ay rfl) | exact bV (bV rfl))(hd:(x==("__debug__":Str))=false:=by decide)
  (b9:(x==("__classdict__":Str))=false:=by decide):PE X (.Name x pos) (lB (m8 i)):=da (j5 hN hv hd b9) λσ H Q zq=>by
 obtain⟨B,F,δ,ts,Qd,c,q,k⟩:=zq
 obtain⟨d,e,q⟩:=ρ q
 obtain⟨v,e1,s⟩:=c.look e
 exact⟨v,e1,k d δ v F H q (ae.refl _) (ae.refl _) c s⟩
theorem em(i:Nat){x:Str}(hN:X.N[i]?=some x:=by rfl)(hv:iB X.env.scope x:=by first | exact ay rfl | exact bV (ay rfl) | exact bV (bV rfl))(hd:(x==("__debug__":Str))=false:=by decide)
  (b9:(x==("__classdict__":Str))=false:=by decide):PE X (.Name x pos) (lE (oW i)):=da (j5 hN hv hd b9) λσ H Q zq=>by
 obtain⟨B,F,δ,ts,Qd,c,q,k⟩:=zq
 obtain⟨d,e,q⟩:=τ q
 obtain⟨v,e1,c'⟩:=c.move e
 exact⟨v,e1,k d _ v F H q (ae.refl _) (ae.refl _) c'⟩
theorem BV{B:Bs}{F H:Hp}{σ:L2.St}{δ:Dl}{ts:List (D × V)}{Qd:D->Dl->Prop}{Q:VK}{d:D}{v:V}(c:ai B F H σ δ ts)(q:Qd d δ)(s:S F H [d] [v])(p:d.pl=true)
  (k:∀d ag v F' H',Qd d ag->ae F F'->ae H H'->ai B F' H' σ ag ((d,v)::ts)->Q v H'):Q v H:=k d δ v F H q (ae.refl _) (ae.refl _) (c.pushS s p)
theorem ao{i j}:PE X (.Constant (.int i) j pos) (lE (dC (.int i))):=da tK λσ H Q ⟨B,F,δ,ts,Qd,c,q,k⟩=>BV c q (.int .nil) rfl k
theorem kR{i j}:PE X (.Constant (.bool i) j pos) (lE (dC (.bl i))):=da Wf λσ H Q ⟨B,F,δ,ts,Qd,c,q,k⟩=>BV c q (.bl .nil) rfl k
theorem BW{j}:PE X (.Constant .none j pos) (lE (dC .aq)):=da Wg λσ H Q ⟨B,F,δ,ts,Qd,c,q,k⟩=>BV c q (.aq .nil) rfl k
theorem ue{x j}:PE X (.Constant (.str x) j pos) (lE (dC (.str x))):=da Mb λσ H Q ⟨B,F,δ,ts,Qd,c,q,k⟩=>BV c q (.str .nil) rfl k
noncomputable abbrev cG:=D->D->(D->Prop)->Prop
noncomputable def BX(r:R2)(rd:cG):Prop:=∀{B:Bs} {F H:Hp} {σ:L2.St} {δ:Dl} {ts:List (D × V)} {x y:D} {v w:V} {Q:VK} {Qd:D->Prop},ai B F H σ δ ts->S F H [x] [v]->S F H [y] [w]->rd x y Qd ->
 (∀d z H',Qd d->ae H H'->ai B F H' σ δ ((d,z)::ts)->Q z H')->r v w H Q
noncomputable def bP(X:Cx)(f:Value->Value->Sem Value)(rd:cG):Prop:=∃r,cC X f r/\BX r rd
theorem bP.or{f:Value->Value->Sem Value}{r1 r2:cG}(h1:bP X f r1)(h2:bP X f r2):bP X f λx y Q=>r1 x y Q\/r2 x y Q:=by
 obtain⟨q1,a1,b1⟩:=h1
 obtain⟨q2,a2,b2⟩:=h2
 refine⟨_,a1.or a2,λ{B F H σ δ ts x y v w Q Qd} c sx sy h k=>?_⟩
 rcases h with h | h
 ·exact .inl (b1 c sx sy h k)
 ·exact .inr (b2 c sx sy h k)
theorem bP.imp{f:Value->Value->Sem Value}{r1 r2:cG}(h1:bP X f r1)(h:∀x y Q,r2 x y Q->r1 x y Q):bP X f r2:=by
 obtain⟨q1,a1,b1⟩:=h1
 exact⟨q1,a1,λ{B F H σ δ ts x y v w Q Qd} c sx sy h2 k=>b1 c sx sy (h _ _ _ h2) k⟩
noncomputable def m9(rd:cG)(ta tb:aI):aI:=λδ Q=>ta δ λx aj=>tb aj λy aK=>rd x y λd=>Q d aK
theorem FT{r:R2}{rd:cG}(hl:BX r rd):∀σ H Q,lE (m9 rd ta tb) σ H Q->xN r (lB ta) (lB tb) σ H Q:=λσ H Q ⟨B,F,δ,ts,Qd,c,q,k⟩ =>
 ⟨B,F,δ,ts,_,c,q,λx aj v F1 H1 q1 f1 h1 c1 s1=>⟨B,F1,aj,ts,_,c1,q1,λy aK w F2 H2 q2 f2 h2 c2 s2 =>
  hl c2 (s1.mono f2 h2) s2 q2 λd z H' hd hs c3=>k d aK z F2 H' hd (f1.trans f2) ((h1.trans h2).trans hs) c3⟩⟩
theorem aA{op:Operator}{rd:cG}(ho:bP X (binaryOp op) rd)(ha:PE X a (lB ta))(hb:PE X b (lB tb)):PE X (.BinOp a op b pos) (lE (m9 rd ta tb)):=by
 obtain⟨r,h1,h2⟩:=ho
 exact da (xO h1 ha hb) (FT h2)
theorem BY{op:CmpOp}{rd:cG}(ho:bP X (compareOp op) rd)(ha:PE X a (lB ta))(hb:PE X b (lB tb))(hm:behindInMarks op b=false):PE X (.Compare a [op] [b] pos) (lE (m9 rd ta tb)):=by
 obtain⟨r,h1,h2⟩:=ho
 exact da (Xi h1 ha hb hm) (FT h2)
noncomputable def dT(t:aI):gj:=λδ Q=>t δ λd ag=>∃k,d=.bl k/\Q k ag
theorem υ{te:TE}(h:∀σ H Q,lE t σ H Q->te σ H Q):∀σ H Q,lT (dT t) σ H Q->Mp te σ H Q:=λσ H Q zz=>by
 obtain⟨B,F,δ,ts,Qd,c,q,k⟩:=zz
 refine h σ H _ ⟨B,F,δ,ts,_,c,q,λd ag v F' H' hd sf sh c'=>?_⟩
 obtain⟨b,rfl,qb⟩:=hd
 have s:=c'.top
 cases s with
 | bl _=>exact⟨b,rfl,k b ag F' H' qb sf sh c'.pop⟩
theorem bM{op:CmpOp}{rd:cG}(ho:bP X (compareOp op) rd)(ha:PE X a (lB ta))(hb:PE X b (lB tb))(hm:behindInMarks op b=false):PT X (.Compare a [op] [b] pos) (lT (dT (m9 rd ta tb))):=by
 obtain⟨r,h1,h2⟩:=ho
 exact FR (Xj h1 ha hb hm) (υ (FT h2))
noncomputable def q9(r r':cG)(ta tb tc:aI):aI:=λδ Q=>ta δ λx aj=>tb aj λy aK=>r x y λd=>∃k,d=.bl k/\if k=true then tc aK λz gn=>r' y z λd'=>Q d' gn else Q (.bl false) aK
theorem uf(h:PE X e (lB t))(he:∀whole,isTrue e X.env whole=(do let v<-whole;standAt e.pos;holding [v] (truthy v)):=by intro _;rfl):PT X e (lT (dT t)) :=
 FR (Bi h he) λσ H Q zq=>by
 obtain⟨B,F,δ,ts,Qd,c,q,k⟩:=zq
 exact⟨B,F,δ,ts,_,c,q,λd ag v F' H' hd sf sh c' s=>by
  obtain⟨b,rfl,qb⟩:=hd
  cases s with
  | bl _=>exact⟨b,rfl,k b ag F' H' qb sf sh c'⟩⟩
variable{tA tB:gj}{rest:List Expr}
noncomputable def ug(t u:gj):gj:=λδ Q=>t δ λc aj=>if c=true then Q true aj else u aj Q
noncomputable def uh(t:gj):gj:=λδ Q=>t δ λc aj=>Q (!c) aj
theorem ui(ha:PT X a (lT tA))(hb:PW X (.BoolOp .Or (b::rest) pos) (lT tB)):PW X (.BoolOp .Or (a::b::rest) pos) (lT (ug tA tB)) :=
 π (Wl ha hb) λσ H Q zq=>by
 obtain⟨B,F,δ,ts,Qd,c,q,k⟩:=zq
 exact⟨B,F,δ,ts,_,c,q,λb aj F1 H1 q1 f1 h1 c1=>by
  cases b with
  | true=>exact qR (k true aj F1 H1 (by simpa using q1) f1 h1 c1)
  | false=>exact kN ⟨B,F1,aj,ts,Qd,c1,by simpa using q1,λb ag F' H' hd sf sh c'=>k b ag F' H' hd (f1.trans sf) (h1.trans sh) c'⟩⟩
theorem NN(ha:PT X a (lT tA)):PT X (.UnaryOp .Not a pos) (lT (uh tA)) :=
 FR (Bk ha) λσ H Q zq=>by
 obtain⟨B,F,δ,ts,Qd,c,q,k⟩:=zq
 exact⟨B,F,δ,ts,_,c,q,λb aj F1 H1 q1 f1 h1 c1=>k _ aj F1 H1 q1 f1 h1 c1⟩
noncomputable def uj(ta tb:aI):aI:=λδ Q=>ta δ λx aj=>∃c,x=.bl c/\if c=true then tb aj Q else Q (.bl false) aj
noncomputable def uk(ta:aI):aI:=λδ Q=>ta δ λx aj=>∃c,x=.bl c/\Q (.bl (!c)) aj
theorem um(ha:PE X a (lB ta))(hb:PE X (.BoolOp .And (b::rest) pos) (lE tb)):PE X (.BoolOp .And (a::b::rest) pos) (lE (uj ta tb)) :=
 da (Wo ha hb) λσ H Q zq=>by
 obtain⟨B,F,δ,ts,Qd,c,q,k⟩:=zq
 exact⟨B,F,δ,ts,_,c,q,λd aj v F1 H1 q1 f1 h1 c1 s1=>by
  obtain⟨b,rfl,qb⟩:=q1
  cases s1 with
  | bl _ =>
   refine⟨b,rfl,?_⟩
   cases b with
   | true=>exact qR ⟨B,F1,aj,ts,Qd,c1,by simpa using qb,λd ag v F' H' hd sf sh c'=>k d ag v F' H' hd (f1.trans sf) (h1.trans sh) c'⟩
   | false=>exact kN (k _ aj _ F1 H1 (by simpa using qb) f1 h1 (c1.pushS (.bl .nil) rfl))⟩
theorem NO(ha:PE X a (lB ta)):PE X (.UnaryOp .Not a pos) (lE (uk ta)) :=
 da (Wq ha) λσ H Q zq=>by
 obtain⟨B,F,δ,ts,Qd,c,q,k⟩:=zq
 exact⟨B,F,δ,ts,_,c,q,λd aj v F1 H1 q1 f1 h1 c1 s1=>by
  obtain⟨b,rfl,qb⟩:=q1
  cases s1 with
  | bl _=>exact⟨b,rfl,k _ aj _ F1 H1 qb f1 h1 (c1.pushS (.bl .nil) rfl)⟩⟩
noncomputable def uo(t:gj)(ta tb:aI):aI:=λδ Q=>t δ λc aj=>if c=true then ta aj Q else tb aj Q
theorem χ(hc:PT X c (lT tA))(ha:PE X a (lE ta))(hb:PE X b (lE tb)):PE X (.IfExp c a b pos) (lE (uo tA ta tb)) :=
 da (Ws hc ha hb) λσ H Q zq=>by
 obtain⟨B,F,δ,ts,Qd,c,q,k⟩:=zq
 exact⟨B,F,δ,ts,_,c,q,λb aj F1 H1 q1 f1 h1 c1=>by
  cases b with
  | true=>exact qR ⟨B,F1,aj,ts,Qd,c1,by simpa using q1,λd ag v F' H' hd sf sh c'=>k d ag v F' H' hd (f1.trans sf) (h1.trans sh) c'⟩
  | false=>exact kN ⟨B,F1,aj,ts,Qd,c1,by simpa using q1,λd ag v F' H' hd sf sh c'=>k d ag v F' H' hd (f1.trans sf) (h1.trans sh) c'⟩⟩
noncomputable def oX:bX:=λδ Q=>Q [] δ
noncomputable def oY(t:aI)(r:bX):bX:=λδ Q=>t δ λd aj=>r aj λds aK=>Q (d::ds) aK
theorem az:PA X [] (lA oX):=yf fo λσ H Q ⟨B,F,δ,ts,Qd,c,q,k⟩=>k [] δ [] F H q (ae.refl _) (ae.refl _) c .nil
variable{tr:bX}
theorem ah(ha:PE X e (lB t))(hr:PA X es (lA tr))(hs:starEach (e::es) X.env=(false,eval e X.env)::starEach es X.env:=by rfl):PA X (e::es) (lA (oY t tr)) :=
 yf (cE ha hr hs) λσ H Q zq=>by
 obtain⟨B,F,δ,ts,Qd,c,q,k⟩:=zq
 exact⟨B,F,δ,ts,_,c,q,λd aj v F1 H1 q1 f1 h1 c1 s1=>⟨B,F1,aj,ts,_,c1,q1,λds aK vs F2 H2 q2 f2 h2 c2 s2 =>
  k (d::ds) aK (v::vs) F2 H2 q2 (f1.trans f2) (h1.trans h2) c2 ((s1.mono f2 h2).cons s2)⟩⟩
theorem du:PA X [] (lO oX):=yf fo λσ H Q ⟨B,F,δ,ts,Qd,c,q,k⟩=>k [] δ F H q (ae.refl _) (ae.refl _) c
theorem di(ha:PE X e (lE t))(hr:PA X es (lO tr))(hs:starEach (e::es) X.env=(false,eval e X.env)::starEach es X.env:=by rfl):PA X (e::es) (lO (oY t tr)) :=
 yf (cE ha hr hs) λσ H Q zq=>by
 obtain⟨B,F,δ,ts,Qd,c,q,k⟩:=zq
 exact⟨B,F,δ,ts,_,c,q,λd aj v F1 H1 q1 f1 h1 c1=>⟨B,F1,aj,(d,v)::ts,_,c1,q1,λps aK F2 H2 q2 f2 h2 c2 =>
  k ((d,v)::ps) aK F2 H2 q2 (f1.trans f2) (h1.trans h2) (c2.perm (List.perm_middle))⟩⟩
noncomputable def rh(t:bX):aI:=λδ Q=>t δ λds ag=>ds.length<=sizeLine/\Q (.lst true ds) ag
noncomputable def uq(t:bX):aI:=λδ Q=>t δ λds ag=>ds.length<=sizeLine/\Q (.tup ds) ag
theorem fc(h:PA X es (lO tr)):PE X (.List es pos) (lE (rh tr)) :=
 da (Mw h) λσ H Q zq=>by
 obtain⟨B,F,δ,ts,Qd,c,q,k⟩:=zq
 exact⟨B,F,δ,ts,_,c,q,λps aj F1 H1 q1 f1 h1 c1=>⟨by simpa using q1.1,λp hp=>k _ aj _ F1 _ q1.2 f1 (h1.trans (ae.upd hp)) (c1.η hp)⟩⟩
theorem yg{x1}(h:PA X es (lO tr)):PE X (.Tuple es x1 pos) (lE (uq tr)) :=
 da (XM h) λσ H Q zq=>by
 obtain⟨B,F,δ,ts,Qd,c,q,k⟩:=zq
 exact⟨B,F,δ,ts,_,c,q,λps aj F1 H1 q1 f1 h1 c1=>⟨by simpa using q1.1,λp hp=>k _ aj _ F1 _ q1.2 f1 (h1.trans (ae.upd hp)) (c1.θ hp)⟩⟩
end
end L3
namespace L3
open PySem L2 PySem.Spec PyProof.Rows
noncomputable abbrev aZ:=List D->(D->Prop)->Prop
noncomputable def bo(sp:aZ):Sp:=λvs H Q _=>∃F ds Qd,ae F H/\R F H ds vs []/\sp ds Qd/\∀d v F' H' A,Qd d->ae H H'->ae F F'->ae F' H'->(∀a ws,F' a=some (.lst ws)->F a=some (.lst ws)\/H a=none)->R F' H' [d] [v] A->A.Nodup->(∀a∈A,H a=none)->Q v H'
noncomputable def oZ(sp:aZ)(t:bX):aI:=λδ Q=>t δ λds ag=>sp (ds.map D.sh) λd=>(ds.all D.pl||d.fr)=true/\Q d ag
theorem yh{B:Bs}{F H:Hp}{σ:L2.St}{δ:Dl}{ts:List (D × V)}{Qd:D->Prop}{Q:VK}{E:XK}{ds:List D}{vs:List V}{sp:aZ}(c:ai B F H σ δ ts)(s:S F H ds vs)(q:sp (ds.map D.sh) λd=>(ds.all D.pl||d.fr)=true/\Qd d)
  (k:∀d v F' H',Qd d->ae F F'->ae H H'->ai B F' H' σ δ ((d,v)::ts)->Q v H'):bo sp vs H Q E:=by
 by_cases hp:ds.all D.pl=true
 ·rw[me hp]at q
  exact⟨F,ds,_,c.ext,s.r hp,q,λd v F' H' A hd hs hf he h3 r nd fr=>k d v F' H' hd.2 hf hs (c.call hs hf he h3 r nd fr)⟩
 ·refine⟨H,ds.map D.sh,_,ae.refl _,s.frozen c.ext,q,λd v F' H' A hd hs hf he h3 r nd fr=>?_⟩
  have eT:d.fr=true:=by
   have:=hd.1
   rw[Bool.or_eq_true]at this
   exact this.resolve_left hp
  exact k d v F H' hd.2 (ae.refl _) hs (c.FN hs (r.yc (by simp[eT]) (c.ext.trans hf)) nd fr)
section
variable{X:Cx}{CX:dR}{n:Nat}{f:Addr}{fd:FuncData}{ps:List Str}{sp:aZ}{E:XK}{x:Str}{p pos:Pos}{e:Expr}{es:List Expr}{t:bX}
theorem ur(F:aM X.prog X.w X.K X.mg X.base CX n f fd ps (bo sp))(hr:bL n X.A)(hg:Gl X x)(hm:X.mg x=some (.ref f))(hk:PySem.W.keepIn X.K (.ref f)=true)(hb:Binds X.K fd ps [])(hx:i8 CX X E)
  (ha:PA X (e::es) (lA t)) (cF:(x==("__debug__":Str))=false:=by decide) (he:starEach (e::es) X.env=(false,eval e X.env)::starEach es X.env:=by rfl) (bj:(backTo pos (starEach es X.env)).any (·.1)=false:=by rfl) :
  PE X (.Call (.Name x p) (e::es) [] pos) (lE (oZ sp t)) :=
 da (iD F hr hg hm hk hb .nil hx ha cF he bj) λσ H Q zq=>by
 obtain⟨B,F,δ,ts,Qd,c,q,k⟩:=zq
 exact⟨B,F,δ,ts,_,c,q,λds aj vs F1 H1 q1 f1 h1 c1 s1=>by
  show bo sp (vs++[]) H1 Q E
  rw[fj]
  exact yh c1 s1 q1 λd v F' H' hd hf hs c'=>k d aj v F' H' hd (f1.trans hf) (h1.trans hs) c'⟩
end
noncomputable def jL(N:List Str)(ds:List D):Dl:=ds.map some++bg (N.length-ds.length) none
section
variable{P:Program}{w:World}{K:PySem.W.Frag}{mg:Str->Option Value}{base:Heap}
theorem bQ{x qual:Str}{st:Stmt}{f:Addr}{fd:FuncData}{N ps:List Str}{k:Nat}{sp:aZ}(F:aY K x qual st f fd)(S:bf N ps (aP st))(len:∀ds Q,sp ds Q->ds.length=ps.length)
  (gK:∀(aG:Value) (A:Around) (outer:List Env) (s:Shared) (H:Hp) (E:XK),bL k (A.deeper (envOfC qual (aP st) s.heap.objs.size f aG)) ->
   ∃t:bR,PSs (hV aT P w K mg base N qual (aP st) f aG A outer s H E).fZ (hW st) (lS (hV aT P w K mg base N qual (aP st) f aG A outer s H E).fZ t)/\∀ds Q,sp ds Q->t { nx:=λ_=>Q .aq,rt:=Q } (jL N ds)):aM P w K mg base aT (k+1) f fd ps (bo sp):=by
 refine F.ok S (λvs H Q E ⟨F,ds,Qd,e,r,h,_⟩=>by rw[<-r.length];exact len ds Qd h) λaG A outer s H vs Q E hr zz=>?_
 obtain⟨F,ds,Qd,e,r,h,k⟩:=zz
 obtain⟨t,ht,hq⟩:=gK aG A outer s H E hr
 have fin:∀d v ag ax F' H',Qd d->ai ⟨H,F⟩ F' H' ax ag [(d,v)]->Q v H':=λd v ag ax F' H' hd c=>by
  obtain⟨A,C,r',s',nd,fr⟩:=c.own
  exact k d v F' H' A hd c.b1 c.b2 c.ext c.b3 r' (dE.mp nd).1 λa ha=>fr a (df _ ha)
 have e1:L2.start N vs=vs.map some++bg (N.length-ds.length) none:=by unfold L2.start;rw[r.length]
 refine⟨_,ht,⟨H,F⟩,F,jL N ds,_,?_,hq ds Qd h,λag ax F' H' hd c=>fin .aq .aq ag ax F' H' hd (c.pushS (.aq .nil) rfl),fin,λ_ _ _ _ z=>z.elim,λ_ _ _ _ z=>z.elim,XL.none (λ_ _ z=>z) λ_ _ z=>z⟩
 rw[e1]
 exact ai.start e r _
end
section
variable{X:Cx}{e a b c:Expr}{es:List Expr}{pos:Pos}{st:Stmt}{oM rest:List Stmt}{t u:bR}{te:aI}{tt:gj}
noncomputable def uu:bR:=λD δ=>D.nx δ
noncomputable def NP(t u:bR):bR:=λD δ=>t { D with nx:=u D } δ
theorem aC{t u:bR}{En:q8}{δ:Dl}(h:∀U:Dl->Prop,(∀ag,u En ag->U ag)->t { En with nx:=U } δ):NP t u En δ:=h (u En) λ_ z=>z
theorem cL:PSs X [] (lS X uu):=BU tL λD σ H ⟨B,F,δ,Dd,c,q,k1,_⟩=>k1 δ σ F H q c
theorem aB(h1:PS X st (lS X t))(h2:PSs X rest (lS X u)):PSs X (st::rest) (lS X (NP t u)) :=
 BU (fP h1 h2) λD σ H zq=>by
 obtain⟨B,F,δ,Dd,c,q,k1,k2,k3,k4⟩:=zq
 exact⟨B,F,δ,{ Dd with nx:=u Dd },c,q,λag ax F' H' hq c'=>⟨B,F',ag,Dd,c',hq,k1,k2,k3,k4⟩,k2,k3,k4⟩
theorem aH(h1:PS X st (lS X t)):PSs X [st] (lS X t):=kI h1
theorem ω:PSs X oM (lS X λ_ _=>False):=BU Wz λD σ H ⟨_,_,_,_,_,q,_⟩=>q.elim
noncomputable def rj(i:Nat)(t:bR):bR:=λD δ=>∃d,δ[i]?=some (some d)/\t D (δ.set i (some d.sh))
theorem yi(i:Nat)(h:PSs X oM (lS X t)):PSs X oM (lS X (rj i t)):=BU h λD σ H zz=>by
 obtain⟨B,F,δ,Dd,c,⟨d,e,q⟩,k⟩:=zz
 obtain⟨F',s,c'⟩:=c.freeze e
 exact⟨B,F',_,Dd,c',q,k⟩
noncomputable def rp(i:Nat)(t:aI):bR:=λD δ=>t δ λd ag=>D.nx (ag.set i (some d))
theorem aX{i:Nat}{x:Str}{pos':Pos}(hN:X.N.Nodup)(hi:X.N[i]?=some x)(hx:Loc X.env.scope x)(he:PE X e (lE te))(hs:swapsWith e (some (.Name x pos')) pos.line X.env=pure false:=by rfl)
  (hf:X.fn x=true\/X.env.scope.names.lookup x=some .local:=by first | exact .inl rfl | exact .inr rfl | assumption):PS X (.Assign [.Name x pos'] e pos) (lS X (rp i te)) :=
 iG (Bu hN hi hx he hs hf) λD σ H zq=>by
 obtain⟨B,F,δ,Dd,c,q,k1,k2,k3,k4⟩:=zq
 exact⟨B,F,δ,[],_,c,q,λd ag v F' H' hd sf sh c'=>k1 _ _ F' H' hd (c'.store i)⟩
noncomputable def uv(t:aI):bR:=λD δ=>t δ λd _=>D.rt d
theorem aV(he:PE X e (lE te)):PS X (.Return (some e) pos) (lS X (uv te)) :=
 iG (Md he) λD σ H zq=>by
 obtain⟨B,F,δ,Dd,c,q,k1,k2,k3,k4⟩:=zq
 exact⟨B,F,δ,[],_,c,q,λd ag v F' H' hd sf sh c'=>k2 d v ag σ F' H' hd c'⟩
noncomputable def uw(tc:gj)(t u:bR):bR:=λD δ=>tc δ λb ag=>if b=true then t D ag else u D ag
theorem cM{l r:List Stmt}(hc:PT X c (lT tt))(ha:PSs X l (lS X t))(hb:PSs X r (lS X u)):PS X (.If c l r pos) (lS X (uw tt t u)) :=
 iG (xD hc ha hb) λD σ H zq=>by
 obtain⟨B,F,δ,Dd,c,q,k⟩:=zq
 exact⟨B,F,δ,[],_,c,q,λb ag F' H' hq sf sh c'=>by
  cases b with
  | true=>exact qR ⟨B,F',ag,Dd,c',by simpa using hq,k⟩
  | false=>exact kN ⟨B,F',ag,Dd,c',by simpa using hq,k⟩⟩
noncomputable def uz(i:Nat)(rd:cG)(t:aI):bR:=λD δ=>∃x,δ[i]?=some (some x)/\t δ λy aj=>rd x y λz=>D.nx (aj.set i (some z))
theorem BZ{i:Nat}{x:Str}{op:Operator}{rd:cG}{pos':Pos}(hN:X.N.Nodup)(hi:X.N[i]?=some x)(hx:Loc X.env.scope x)(he:PE X e (lB te))(ho:bP X (inplaceOp op) rd)
  (hf:X.fn x=true\/X.env.scope.names.lookup x=some .local:=by first | exact .inl rfl | exact .inr rfl | assumption):PS X (.AugAssign (.Name x pos') op e pos) (lS X (uz i rd te)):=by
 obtain⟨r,h1,h2⟩:=ho
 refine iG (WJ hN hi hx he (ti:=r) h1 hf) λD σ H zz=>?_
 obtain⟨B,F,δ,Dd,c,⟨d0,e0,q⟩,k1,k2,k3,k4⟩:=zz
 obtain⟨v0,e1,s0⟩:=c.look e0
 exact⟨v0,e1,B,F,δ,[],_,c,q,λd ag v F' H' hd sf sh c' s=>h2 c' (s0.mono sf sh) s hd λz w H2 hz h3 c3=>k1 _ _ F' H2 hz (c3.store i)⟩
noncomputable def uA(tc:gj)(tb:bR):bR:=λD δ=>∃W:Nat->Dl->Prop,(∃m,W m δ)/\∀m δ,W m δ->tc δ λb ag=>if b=true then tb { D with nx:=λag=>∃m',m'<m/\W m' ag,ct:=λag=>∃m',m'<m/\W m' ag,bk:=D.nx } ag else D.nx ag
theorem uB{body:List Stmt}(hp:PassesOwn (model X.prog X.w) X.A X.env X.xe)(hc:PT X c (lT tt))(hb:PSs X body (lS X t)):PS X (.While c body [] pos) (lS X (uA tt t)) :=
 iG (WN hp hc hb) λD σ H zz=>by
  obtain⟨B,F,δ,Dd,c,⟨W,⟨m0,w0⟩,hw⟩,k1,k2,k3,k4⟩:=zz
  refine⟨λm σ H=>∃F δ,ai B F H σ δ []/\W m δ,⟨m0,F,δ,c,w0⟩,λm σ H ⟨F,δ,c,w⟩=>⟨B,F,δ,[],_,c,hw m δ w,λb ag F' H' hq sf sh c'=>?_⟩⟩
  cases b with
  | true =>
   refine qR ⟨λax H'=>∃m',m'<m/\∃F δ,ai B F H' ax δ []/\W m' δ,λax H' z=>z,B,F',ag,{ Dd with nx:=λag=>∃m',m'<m/\W m' ag,ct:=λag=>∃m',m'<m/\W m' ag,bk:=Dd.nx },c',by simpa using hq,λaK i6 F2 H2 ⟨m',hm,w2⟩ c2=>⟨m',hm,F2,aK,c2,w2⟩,k2,λaK i6 F2 H2 z c2=>k1 aK i6 F2 H2 z c2,λaK i6 F2 H2 ⟨m',hm,w2⟩ c2=>⟨m',hm,F2,aK,c2,w2⟩,k4.2⟩
  | false=>exact kN (k1 ag σ F' H' (by simpa using hq) c')
end
structure JD(J:It)(F:Hp)(xs:List D):Prop where
 go:∀i H,ae F H->i<xs.length->J.go i H
 j7:∀i H x H',ae F H->i<xs.length->J.j7 i H x H'->∃d,xs[i]?=some d/\ae H H'/\R F H' [d] [x] []
 stop:∀i H,ae F H->xs.length<=i->J.stop i H
noncomputable abbrev jg:=Dl->(Bool->List D->Dl->Prop)->Prop
noncomputable def lI(t:jg):TI:=λσ H Rr=>∃B F δ ts Qd,ai B F H σ δ ts/\t δ Qd/\∀g xs ag J F' H',Qd g xs ag->ae F F'->ae H H'->ai B F' H' σ ag ts->JD J H' (xs.map D.sh)->(g=true->xs.all D.pl=true/\JD J F' xs)->Rr J H'
noncomputable abbrev gO:=D->Dl->(Dl->Prop)->Prop
noncomputable def lG(m:Nat)(t:gO):TG:=λv σ H Q=>∃B F δ ts d Qd,ai B F H σ δ ((d,v)::ts)/\t d δ Qd/\∀ag ax,Qd ag->ax.length=σ.length->(∀j,j<m->ax[j]?=σ[j]?)->ai B F H ax ag ts->Q ax H
noncomputable def ke:D->Option (List D)
 | .lst _ xs=>some xs
 | .fz xs=>some xs
 | _=>none
section
variable{B:Bs}{F H F1:Hp}{σ:L2.St}{δ:Dl}{ts:List (D × V)}
end
section
variable{X:Cx}{e a b c tg l iter:Expr}{es:List Expr}{pos:Pos}{t u:bR}{te:aI}{tt:gj}{ta:bX}{m:Nat}
theorem uC{w w':TI}(h:PI X tg iter w)(m:∀σ H Q,w' σ H Q->w σ H Q):PI X tg iter w':=λpins s σ H Q I q=>h pins s σ H Q I (m σ H Q q)
theorem NQ{w w':TG}(h:PG X tg w)(m:∀v σ H Q,w' v σ H Q->w v σ H Q):PG X tg w':=λpins s σ H v u Q I r q=>h pins s σ H v u Q I r (m v σ H Q q)
noncomputable def gN(i:Nat):gO:=λd δ Q=>Q (δ.set i (some d))
theorem mf{i:Nat}{x:Str}(hN:X.N.Nodup)(hi:X.N[i]?=some x)(hx:Loc X.env.scope x)(hm:m<=i:=by decide)(hf:X.fn x=true\/X.env.scope.names.lookup x=some .local:=by first | exact .inl rfl | exact .inr rfl | assumption):PG X (.Name x pos) (lG m (gN i)) :=
 NQ (xE hN hi hx hf) λv σ H Q ⟨B,F,δ,ts,d,Qd,c,q,k⟩=>k _ _ q (by simp) (λj hj=>by rw[lF (by omega)]) (c.store i)
theorem nh{K:PySem.W.Frag}{F H:Hp}{p:Addr}{xs:List D}{ws:List V}(hp:Rd F p (.lst ws))(r:R F H xs ws [])(hF:Full F H):JD (EX K p) F xs where
 go:=λi H' hs hi=>by
  have l:=r.length
  have cZ:i<ws.length:=by omega
  exact⟨ws,ws[i],.inl (iF hp hs),bc cZ⟩
 j7:=λi H' x H2 hs hi zz=>by
  obtain⟨e,y⟩:=zz
  subst e
  have hx:=y ws (.inl (iF hp hs))
  obtain⟨v,A1,e2,r1,sub⟩:=(r.full hF hs rfl).get (bc hi)
  rw[hx]at e2;cases e2
  have:A1=[]:=Lp.mpr λa ha=>by simpa using sub ha
  subst this
  exact⟨_,bc hi,ae.refl _,r1⟩
 stop:=λi H' hs hi=>⟨ws,.inl (iF hp hs),by have:=r.length;omega⟩
theorem B4{F:Hp}(lo:Int)(n:Nat):JD (xH lo n) F ((bh n).map λ(k:Nat)=>D.int (lo+(k:Int))) where
 go:=λi H' hs hi=>by
  have cZ:i<n:=by simpa using hi
  exact cZ
 j7:=λi H' x H2 hs hi zz=>by
  obtain⟨e,y⟩:=zz
  subst e y
  have cZ:i<n:=by simpa using hi
  exact⟨.int (lo+i),by simp[mO cZ],ae.refl _,.int .nil⟩
 stop:=λi H' hs hi=>by
  have cZ:n<=i:=by simpa using hi
  exact cZ
noncomputable def uD(t:aI):jg:=λδ Q=>t δ λd ag=>∃xs,ke d=some xs/\Q true (xs.map D.sh) ag
theorem Γ(xs:List D){F H:Hp}{ws:List V}(r:R F H (xs.map D.sh) ws []):(xs.map D.sh).map D.sh=xs.map D.sh:=me r.pl
theorem FU(h:PE X l (lE te)):PI X tg l (lI (uD te)) :=
 uC (EY h) λσ H Q zq=>by
 obtain⟨B,F,δ,ts,Qd,c,q,k⟩:=zq
 exact⟨B,F,δ,ts,_,c,q,λd aj v F1 H1 hd f1 h1 c1=>by
  obtain⟨xs,e,hq⟩:=hd
  obtain⟨F2,f2,c2⟩:=c1.FQ
  have tp:=c2.top
  have c3:=c2.pop.snap
  have e2:=c2.ext
  have sn:=qZ e2
  cases d with
  | lst o ys =>
   obtain rfl:=dq e
   rw[cP]at tp
   cases tp with
   | @shr p ws _ _ _ hp r _ =>
    have r3:=r.shared sn (ae.refl _)
    refine⟨p,rfl,⟨ws,bw.of (e2 _ _ hp)⟩,k true _ aj _ _ H1 hq ((f1.trans f2).trans sn) h1 c3 ?_ λ_=>⟨r.pl,nh (.inl (sn _ _ hp)) r3 ub⟩⟩
    rw[Γ _ r]
    exact nh (.inl (e2 _ _ hp)) (r.shared e2 (ae.refl _)) (Full.refl _)
  | fz ys =>
   obtain rfl:=dq e
   cases tp with
   | @fz p o ws _ _ _ hp r _ =>
    have r3:=r.shared sn (ae.refl _)
    have es:=me r.pl
    rw[es]at hq
    refine⟨p,rfl,⟨ws,.inl (.inr ⟨o,e2 _ _ hp⟩)⟩,k true _ aj _ _ H1 hq ((f1.trans f2).trans sn) h1 c3 ?_ λ_=>⟨r.pl,nh (.inr ⟨o,sn _ _ hp⟩) r3 ub⟩⟩
    rw[es]
    exact nh (.inr ⟨o,e2 _ _ hp⟩) (r.shared e2 (ae.refl _)) (Full.refl _)
  | aq=>cases e
  | bl _=>cases e
  | int _=>cases e
  | str _=>cases e
  | tup _=>cases e
  | obj _ _ _=>cases e
  | bx _=>cases e⟩
noncomputable def uE(t:aI):jg:=λδ Q=>t δ λd ag=>∃xs,ke d=some xs/\Q d.pl xs ag
theorem fU(h:PE X l (lB te)):PI X tg l (lI (uE te)) :=
 uC (EY h) λσ H Q zq=>by
 obtain⟨B,F,δ,ts,Qd,c,q,k⟩:=zq
 exact⟨B,F,δ,ts,_,c,q,λd aj v F1 H1 hd f1 h1 c1 s=>by
  obtain⟨xs,e,hq⟩:=hd
  have c3:=c1.snap
  have e2:=c1.ext
  have sn:=qZ e2
  cases s with
  | @shr p ws ys _ _ hp r _ =>
   obtain rfl:=dq e
   refine⟨p,rfl,⟨ws,bw.of (e2 _ _ hp)⟩,k _ _ aj _ _ H1 hq (f1.trans sn) h1 c3 ?_ λ_=>⟨r.pl,nh (.inl (sn _ _ hp)) (r.shared sn (ae.refl _)) ub⟩⟩
   rw[me r.pl]
   exact nh (.inl (e2 _ _ hp)) (r.shared e2 (ae.refl _)) (Full.refl _)
  | @own p ws ys _ _ hp r _ =>
   obtain rfl:=dq e
   refine⟨p,rfl,⟨ws,bw.of hp⟩,k _ _ aj _ _ H1 hq (f1.trans sn) h1 c3 (nh (.inl hp) (r.frozen e2) (Full.refl _)) λz=>by simp[ig]at z⟩
  | @fz p o ws ys _ _ hp r _ =>
   obtain rfl:=dq e
   refine⟨p,rfl,⟨ws,.inl (.inr ⟨o,e2 _ _ hp⟩)⟩,k _ _ aj _ _ H1 hq (f1.trans sn) h1 c3 ?_ λ_=>⟨r.pl,nh (.inr ⟨o,sn _ _ hp⟩) (r.shared sn (ae.refl _)) ub⟩⟩
   rw[me r.pl]
   exact nh (.inr ⟨o,e2 _ _ hp⟩) (r.shared e2 (ae.refl _)) (Full.refl _)
  | aq _=>cases e
  | bl _=>cases e
  | int _=>cases e
  | str _=>cases e
  | tup _ _ _=>cases e
  | obj _ _ _ _=>cases e
  | bx _ _=>cases e⟩
theorem yj(f:Nat->Int)(l:List Nat):(l.map λk=>D.int (f k)).map D.sh=l.map λk=>D.int (f k):=by simp[D.sh]
theorem NR(f:Nat->Int)(l:List Nat):(l.map λk=>D.int (f k)).all D.pl=true:=by simp[D.pl]
noncomputable def uF(t:bX):jg:=λδ Q=>t δ λds ag=>∃j:Int,ds=[.int j]/\(-(2 ^ 62)<=j/\j<2 ^ 62)/\Q true ((bh j.toNat).map λ(k:Nat)=>D.int (0+(k:Int))) ag
theorem nj{p:Pos}(hg:Gl X "range")(hm:X.mg "range"=none)(ha:PA X [a] (lA ta))(hs:starEach [a] X.env=[(false,eval a X.env)]:=by rfl):PI X tg (.Call (.Name "range" p) [a] [] pos) (lI (uF ta)) :=
 uC (WU hg hm ha hs) λσ H Q zq=>by
 obtain⟨B,F,δ,ts,Qd,c,q,k⟩:=zq
 exact⟨B,F,δ,ts,_,c,q,λds aj vs F1 H1 hd f1 h1 c1 s=>by
  obtain⟨j,rfl,⟨b1,b2⟩,hq⟩:=hd
  cases s with
  | int s =>
   cases s
   refine⟨j,rfl,b1,b2,k true _ aj _ _ H1 hq f1 h1 c1 ?_ λ_=>⟨NR _ _,B4 0 _⟩⟩
   rw[yj]
   exact B4 0 _⟩
noncomputable def uG(t:bX):jg:=λδ Q=>t δ λds ag=>∃i j:Int,ds=[.int i,.int j]/\(-(2 ^ 62)<=i/\i<2 ^ 62/\-(2 ^ 62)<=j/\j<2 ^ 62)/\Q true ((bh (j-i).toNat).map λ(k:Nat)=>D.int (i+(k:Int))) ag
theorem B5{p:Pos}(hg:Gl X "range")(hm:X.mg "range"=none)(ha:PA X [a,b] (lA ta))(hs:starEach [a,b] X.env=[(false,eval a X.env),(false,eval b X.env)]:=by rfl)(eD:starEach [b] X.env=[(false,eval b X.env)]:=by rfl) :
  PI X tg (.Call (.Name "range" p) [a,b] [] pos) (lI (uG ta)) :=
 uC (WV hg hm ha hs eD) λσ H Q zq=>by
 obtain⟨B,F,δ,ts,Qd,c,q,k⟩:=zq
 exact⟨B,F,δ,ts,_,c,q,λds aj vs F1 H1 hd f1 h1 c1 s=>by
  obtain⟨i,j,rfl,bd,hq⟩:=hd
  cases s with
  | int s =>
   cases s with
   | int s =>
    cases s
    refine⟨i,j,rfl,bd,k true _ aj _ _ H1 hq f1 h1 c1 ?_ λ_=>⟨NR _ _,B4 i _⟩⟩
    rw[yj]
    exact B4 i _⟩
noncomputable def jh(xs:List D)(g:gO)(tb:bR):bR:=λEn aj=>∃Iv:Nat->Dl->Prop,Iv 0 aj /\
 (∀i d ag,xs[i]?=some d->Iv i ag->g d ag λaK=>tb { En with nx:=Iv (i+1),ct:=Iv (i+1),bk:=En.nx } aK)/\∀ag,Iv xs.length ag->En.nx ag
theorem jh.mk{xs:List D}{g:gO}{tb:bR}{En:q8}{δ:Dl}(Iv:Nat->Dl->Prop)(h0:Iv 0 δ)(ht:∀i d ag,xs[i]?=some d->Iv i ag->g d ag λaK=>tb { En with nx:=Iv (i+1),ct:=Iv (i+1),bk:=En.nx } aK)
  (hf:∀ag,Iv xs.length ag->En.nx ag):jh xs g tb En δ:=⟨Iv,h0,ht,hf⟩
noncomputable def uH(ti:jg)(g:gO)(tb:bR):bR:=λEn δ=>ti δ λsh xs aj=>sh=true/\jh xs g tb En aj
theorem ji{ti:jg}{g:gO}{body:List Stmt}(hp:PassesOwn (model X.prog X.w) X.A X.env X.xe)(hc:X.calm=true)(hi:PI X tg iter (lI ti))(hg:PG X tg (lG 0 g))(hb:PSs X body (lS X t))
  (hs:∀x,foldedSetIterable iter X.env x=pure x:=by intro _;rfl):PS X (.For tg iter body [] pos) (lS X (uH ti g t)) :=
 iG (Mm hp hc hi hg hb hs) λEn σ H zq=>by
 obtain⟨B,F,δ,Dd,c,q,k1,k2,k3,k4⟩:=zq
 exact⟨B,F,δ,[],_,c,q,λsh xs aj J F1 H1 hq f1 h1 c1 _ jd=>by
  obtain⟨xU,Iv,i0,turn,fin⟩:=hq
  obtain⟨bj,jd⟩:=jd xU
  have un:∀{F' H':Hp} {ax:L2.St} {ag:Dl} {ts:List (D × V)},ai ⟨B.H0,F1⟩ F' H' ax ag ts->ai B F' H' ax ag ts:=λc'=>c'.ι c1.b2 c1.b3
  refine⟨λi m σ H=>m=xs.length-i/\i<=xs.length/\∃F δ,ai ⟨B.H0,F1⟩ F H σ δ []/\Iv i δ,⟨_,rfl,jX _,F1,aj,c1.rebase,i0⟩,?_⟩
  rintro i m i6 H2 ⟨rfl,hi,F2,aK,c2,iv⟩
  have s2:ae F1 H2:=c2.b2.trans c2.ext
  by_cases fQ:i<xs.length
  ·refine .inr ⟨jd.go i H2 s2 fQ,λax H'=>∃F δ,ai ⟨B.H0,F1⟩ F H' ax δ []/\Iv (i+1) δ,λax H' z=>⟨xs.length-(i+1),by omega,rfl,fQ,z⟩,λx H3 y=>?_⟩
   obtain⟨d,e,s3,r⟩:=jd.j7 i H2 x H3 s2 fQ y
   have c3:=(c2.grow s3).pushS (d:=d) (v:=x) ((r.s).mono c2.b2 (ae.refl _)) (by have:=r.pl;simpa using this)
   refine⟨⟨B.H0,F1⟩,F2,aK,[],d,_,c3,turn i d aK e iv,λag ax hq _ _ c4=>?_⟩
   exact⟨⟨B.H0,F1⟩,F2,ag,_,c4,hq,λjM nk F5 H5 h5 c5=>⟨F5,jM,c5,h5⟩,λd5 v5 jM nk F5 H5 h5 c5=>k2 d5 v5 jM nk F5 H5 h5 (un c5),λjM nk F5 H5 h5 c5=>k1 jM nk F5 H5 h5 (un c5),λjM nk F5 H5 h5 c5=>⟨F5,jM,c5,h5⟩,⟨λC jM pins nk F5 H5 s5 a T h5 c5=>k4.2.1 C jM pins nk F5 H5 s5 a T h5 (un c5),λC jM pins nk F5 H5 s5 h' e vs h5 c5=>k4.2.2 C jM pins nk F5 H5 s5 h' e vs h5 (un c5)⟩⟩
  ·have e:i=xs.length:=by omega
   subst e
   exact .inl ⟨jd.stop _ H2 s2 (bD _),k1 aK i6 F2 H2 (fin aK iv) (un c2)⟩⟩
end
end L3
namespace L3
open PySem L2 PySem.Spec PyProof.Rows
noncomputable def jN(δ:Dl)(q:Str × Nat):Option D:=(δ[q.2]?).getD none
noncomputable def jk(δ:Dl)(q:Str × Nat):Bool:=match jN δ q with
 | some d=>d.pl
 | none=>true
noncomputable def gq(aD:List (Str × Nat))(n:Nat)(δ:Dl):Dl:=(aD.map λq=>(jN δ q).map D.sh)++bg n none
noncomputable def rq(sh:Bool)(xs:List D)(aD:List (Str × Nat))(n:Nat)(g:gO)(tt:gj)(te:aI)(aj:Dl)(Q:D->Dl->Prop):Prop:=∃(p:D->Bool) (f:D->D),
 (∀x∈xs.map D.sh,g x (gq aD n aj) λaK=>tt aK λb gn=>b=p x/\(p x=true->te gn λd _=>d=f x)) /\
 ((sh&&aD.all (jk aj))=true\/∀x∈xs.map D.sh,p x=true->(f x).fr=true)/\xs.length<=sizeLine/\Q (.lst true (((xs.map D.sh).filter p).map f)) aj
noncomputable def rz(ti:jg)(aD:List (Str × Nat))(n:Nat)(g:gO)(tt:gj)(te:aI):aI:=λδ Q=>ti δ λsh xs aj=>rq sh xs aD n g tt te aj Q
noncomputable def kT:gj:=λδ Q=>Q true δ
theorem Δ{sh:Bool}{xs:List D}{aD:List (Str × Nat)}{n m:Nat}{te:aI}{aj:Dl}{Q:D->Dl->Prop}(f:D->D)(hx:∀x∈xs.map D.sh,te ((gq aD n aj).set m (some x)) λd _=>d=f x)
  (eT:(sh&&aD.all (jk aj))=true\/∀x∈xs.map D.sh,(f x).fr=true) (hl:xs.length<=sizeLine) (hq:Q (.lst true ((xs.map D.sh).map f)) aj):rq sh xs aD n (gN m) kT te aj Q :=
 ⟨λ_=>true,f,λx h=>⟨rfl,λ_=>hx x h⟩,eT.imp id λh x hx _=>h x hx,hl,by rw[VG.mpr (λ_ _=>rfl)];exact hq⟩
section
variable{B:Bs}{F H:Hp}{σ:L2.St}{δ:Dl}{ts:List (D × V)}
theorem NS(c:ai B F H σ δ ts)(n:Nat):∀(aD:List (Str × Nat)),aD.all (jk δ)=true->RS F H (gq aD n δ) (ib aD n σ) []
 | [],_=>by
  have z:∀n,RS F H (bg n none) (bg n none) []:=λn=>by
   induction n with
   | zero=>exact .nil
   | succ n ih=>exact .aq ih
  exact z n
 | q::r,h=>by
  rw[dh,dP]at h
  have ih:=NS c n r h.2
  show RS F H ((jN δ q).map D.sh::gq r n δ) ((σ[q.2]?).getD none::ib r n σ) []
  cases e:jN δ q with
  | none=>exact .aq ih
  | some d =>
   have e2:δ[q.2]?=some (some d):=by
    unfold jN at e
    cases z:δ[q.2]? with
    | none=>rw[z]at e;cases e
    | some o=>rw[z]at e;exact congrArg some e
   have hp:d.pl=true:=by have:=h.1;unfold jk at this;rw[e]at this;exact this
   obtain⟨v,e3,s⟩:=c.look e2
   rw[e3]
   show RS F H (some d.sh::_) (some v::_) []
   rw[D.BR hp]
   exact .fu (A:=[]) (s.r (by simp[hp])) ih
theorem NT(c:ai B F H σ δ ts)(n:Nat):∀(aD:List (Str × Nat)),RS H H (gq aD n δ) (ib aD n σ) []
 | []=>by
  have z:∀n,RS H H (bg n none) (bg n none) []:=λn=>by
   induction n with
   | zero=>exact .nil
   | succ n ih=>exact .aq ih
  exact z n
 | q::r=>by
  have ih:=NT c n r
  show RS H H ((jN δ q).map D.sh::gq r n δ) ((σ[q.2]?).getD none::ib r n σ) []
  cases e:jN δ q with
  | none=>exact .aq ih
  | some d =>
   have e2:δ[q.2]?=some (some d):=by
    unfold jN at e
    cases z:δ[q.2]? with
    | none=>rw[z]at e;cases e
    | some o=>rw[z]at e;exact congrArg some e
   obtain⟨v,e3,s⟩:=c.look e2
   rw[e3]
   exact .fu (A:=[]) (s.frozen c.ext) ih
theorem NU{α:Type}(xs:List α)(p:α->Bool)(i:Nat)(x:α)(h:xs[i]?=some x):(xs.take (i+1)).filter p=(xs.take i).filter p++(if p x=true then [x]else []):=by
 rw[qy,h,List.filter_append]
 simp only[Lq]
 by_cases hp:p x=true<;>simp[hp]
end
section
variable{X:Cx}{elt iter tg:Expr}{pos:Pos}{ifs:List Expr}{scope:Scope}{cl:List (Str × Addr)}{ti:jg}{tt:gj}{te:aI}{g:gO}
theorem NV{B:Bs}{F1 H1:Hp}{σ:L2.St}{aj:Dl}{ts:List (D × V)}{J:It}{Qd:D->Dl->Prop}{Q:VK}{xs:List D}{sh:Bool}{aD:List (Str × Nat)}{n:Nat}(c1:ai B F1 H1 σ aj ts)
  (rA:JD J H1 (xs.map D.sh)) (yk:sh=true->xs.all D.pl=true/\JD J F1 xs) (p:D->Bool) (f:D->D)
  (hx:∀x∈xs.map D.sh,g x (gq aD n aj) λaK=>tt aK λb gn=>b=p x/\(p x=true->te gn λd _=>d=f x))
  (eT:(sh&&aD.all (jk aj))=true\/∀x∈xs.map D.sh,p x=true->(f x).fr=true) (hlen:xs.length<=sizeLine) (hq:Qd (.lst true (((xs.map D.sh).filter p).map f)) aj)
  (k:∀d ag v F' H',Qd d ag->ae F1 F'->ae H1 H'->ai B F' H' σ ag ((d,v)::ts)->Q v H'):Nv J aD n (lG aD.length g) (lT tt) (lE te) σ H1 Q:=by
 intro Dp hD
 have cD:ai B F1 (upd H1 Dp (.lst [])) σ aj ((.lst true [],.ref Dp)::ts):=c1.oV hD .nil rfl
 refine⟨λi m acc H2=>m=xs.length-i/\i<=xs.length/\H2 Dp=some (.lst acc)/\ae H1 H2/\acc.length<=i/\∃F2,ae F1 F2 /\
  ai B F2 H2 σ aj ((.lst true ((((xs.map D.sh).take i).filter p).map f),.ref Dp)::ts),⟨xs.length,rfl,jX _,br,ae.upd hD,bD _,F1,ae.refl _,by simpa using cD⟩,?_⟩
 rintro i m acc H2 ⟨rfl,hi,FV,yl,Θ,F2,nq,c2⟩
 refine⟨FV,?_⟩
 by_cases fQ:i<xs.length
 case neg =>
  have e:i=xs.length:=by omega
  subst e
  refine .inl ⟨rA.stop _ H2 yl (by simp),k _ aj _ F2 H2 ?_ nq yl c2⟩
  have:(xs.map D.sh).take xs.length=xs.map D.sh:=by rw[AM (by simp)]
  rw[this]
  exact hq
 case pos =>
  refine .inr ⟨rA.go i H2 yl (by simpa using fQ),λx H3 y=>?_⟩
  obtain⟨d0,e0,FW,r0⟩:=rA.j7 i H2 x H3 yl (by simpa using fQ) y
  have NW:d0∈xs.map D.sh:=sV e0
  have NX:H3 Dp=some (.lst acc):=FW _ _ FV
  have c3:=c2.grow FW
  have FX:=yl.trans FW
  refine⟨NX,?_⟩
  have kg:=hx d0 NW
  have turn:∀Fi,ae Fi H3->RS Fi H3 (gq aD n aj) (ib aD n σ) []->S Fi H3 [d0] [x]->d0.pl=true ->
    (∀d v F' H' A,d=f d0->p d0=true->ae H3 H'->ae Fi F'->ae F' H'->(∀a ws,F' a=some (.lst ws)->Fi a=some (.lst ws)\/H3 a=none)->R F' H' [d] [v] A->A.Nodup->(∀a∈A,H3 a=none) ->
     ∃F4,ae F2 F4/\ai B F4 H' σ aj ((d,v)::(.lst true ((((xs.map D.sh).take i).filter p).map f),.ref Dp)::ts)) ->
    lG aD.length g x (ib aD n σ) H3 λgJ H4 =>
     (gJ.length=(ib aD n σ).length/\∀j,j<aD.length->gJ[j]?=(ib aD n σ)[j]?)/\lT tt gJ H4 λb H5=>H5 Dp=some (.lst acc) /\
     if b=true then lE te gJ H5 λy H6=>H6 Dp=some (.lst acc)/\acc.length<sizeLine/\∃m',m'<xs.length-i /\
      (m'=xs.length-(i+1)/\i+1<=xs.length/\upd H6 Dp (.lst (acc++[y])) Dp=some (.lst (acc++[y]))/\ae H1 (upd H6 Dp (.lst (acc++[y])))/\(acc++[y]).length<=i+1/\∃F2,ae F1 F2 /\
       ai B F2 (upd H6 Dp (.lst (acc++[y]))) σ aj ((.lst true ((((xs.map D.sh).take (i+1)).filter p).map f),.ref Dp)::ts))
     else ∃m',m'<xs.length-i/\(m'=xs.length-(i+1)/\i+1<=xs.length/\H5 Dp=some (.lst acc)/\ae H1 H5/\acc.length<=i+1/\∃F2,ae F1 F2 /\
       ai B F2 H5 σ aj ((.lst true ((((xs.map D.sh).take (i+1)).filter p).map f),.ref Dp)::ts)):=by
   intro Fi Λ Ξ hS bj back
   have ci:ai ⟨H3,Fi⟩ Fi H3 (ib aD n σ) (gq aD n aj) []:=⟨Λ,ae.refl _,ae.refl _,λ_ _ q=>.inl q,[],[],.nil,Ξ,by simp,by simp⟩
   refine⟨⟨H3,Fi⟩,Fi,gq aD n aj,[],d0,_,ci.pushS hS bj,kg,λag gJ Φ l1 k1 c4=>⟨⟨l1,k1⟩,⟨H3,Fi⟩,Fi,ag,[],_,c4,Φ,λb jM F5 H5 hb f5 h5 c5=>?_⟩⟩
   obtain⟨hb,ht⟩:=hb
   have B6:H5 Dp=some (.lst acc):=h5 _ _ NX
   refine⟨B6,?_⟩
   by_cases hp:p d0=true
   ·rw[hb,hp]
    refine qR ⟨⟨H3,Fi⟩,F5,jM,[],_,c5,ht hp,λd δ6 v F6 H6 hd f6 h6 c6=>?_⟩
    have NY:H6 Dp=some (.lst acc):=h6 _ _ B6
    obtain⟨A,C,r,s,nd,fr⟩:=c6.own
    obtain⟨F4,uI,c7⟩:=back d v F6 H6 A hd hp c6.b1 c6.b2 c6.ext c6.b3 r (dE.mp nd).1 λa ha=>fr a (df _ ha)
    have c8:=c7.ο NY
    refine⟨NY,by omega,xs.length-(i+1),by omega,rfl,fQ,br,?_,by simpa using Θ,F4,nq.trans uI,?_⟩
    ·have NZ:=FX.trans c6.b1
     exact⟨λa o q n=>by rw[aL (dH q hD)];exact NZ.get a o q n,λa ps q=>by rw[aL (dH q hD)];exact NZ.tb a ps q⟩
    ·have e9:(((xs.map D.sh).take (i+1)).filter p).map f=(((xs.map D.sh).take i).filter p).map f++[d]:=by
      rw[NU _ p i d0 e0,hp,hd];simp
     rw[e9]
     exact c8
   ·have ym:p d0=false:=by simpa using hp
    rw[hb,ym]
    refine kN ⟨xs.length-(i+1),by omega,rfl,fQ,B6,FX.trans h5,by omega,F2,nq,?_⟩
    have e9:(((xs.map D.sh).take (i+1)).filter p).map f=(((xs.map D.sh).take i).filter p).map f:=by
     rw[NU _ p i d0 e0,ym];simp
    rw[e9]
    exact c3.grow h5
  by_cases hA:(sh&&aD.all (jk aj))=true
  ·rw[dP]at hA
   obtain⟨bj,jd⟩:=yk hA.1
   have xU:=me bj
   rw[xU]at e0
   obtain⟨d1,e1,_,r1⟩:=jd.j7 i H2 x H3 (nq.trans c2.ext) fQ y
   rw[e0]at e1;cases e1
   have Ψ:d0.pl=true:=by have:=r1.pl;simpa using this
   refine turn F2 c3.ext (NS c3 n aD hA.2) ((r1.s).mono nq (ae.refl _)) Ψ λd v F' H' A hd hp hs hf he h3 r nd fr=>⟨F',hf,c3.call hs hf he h3 r nd fr⟩
  ·have Ω:=eT.resolve_left hA
   refine turn H3 (ae.refl _) (NT c3 n aD) ((r0.shared FX (ae.refl _)).s) (by have:=r0.pl;simpa using this) λd v F' H' A hd hp hs hf he h3 r nd fr=>⟨F2,ae.refl _,?_⟩
   exact c3.FN hs (r.yc (by rw[hd];simp[Ω d0 NW hp]) (c3.ext.trans hf)) nd fr
theorem dS{Y:Cx}:mZ Y [] (lT kT):=λ_ _ _ H _ I ⟨B,F,δ,ts,Qd,c,q,k⟩=>Zl _ _ _ H _ I (k true δ F H q (ae.refl _) (ae.refl _) c)
theorem B7{Y:Cx}{c:Expr}(h:PT Y c (lT tt)):mZ Y [c] (lT tt):=Zm h
end
end L3
namespace L3
open PySem L2 PySem.Spec PyProof.Rows
section
variable{X:Cx}{F H:Hp}{v w:V}
noncomputable def l2(rd:cG):R2:=λv w H Q=>∃B F σ δ ts x y Qd,ai B F H σ δ ts/\S F H [x] [v]/\S F H [y] [w]/\rd x y Qd/\∀d z H',Qd d->ae H H'->ai B F H' σ δ ((d,z)::ts)->Q z H'
theorem bP.of{f:Value->Value->Sem Value}{rd:cG}(h:cC X f (l2 rd)):bP X f rd:=⟨_,h,λ{B F H σ δ ts x y v w Q Qd} c sx sy q k=>⟨B,F,σ,δ,ts,x,y,Qd,c,sx,sy,q,k⟩⟩
theorem uJ{f:Value->Value->Sem Value}{C:Int->Int->Prop}{g:Int->Int->V}{gd:Int->Int->D}(ho:cC X f (rI C g))(hg:∀i j F H,S F H [gd i j] [g i j])(hp:∀i j,(gd i j).pl=true):bP X f λx y Q=>∃i j,x=.int i/\y=.int j/\C i j/\Q (gd i j) :=
 ⟨_,ho,λ{B F H σ δ ts x y v w Q Qd} c sx sy h k=>by
  obtain⟨i,j,rfl,rfl,hc,q⟩:=h
  cases sx;cases sy
  exact⟨i,j,rfl,rfl,hc,k _ _ _ q (ae.refl _) (c.pushS (hg i j F H) (hp i j))⟩⟩
theorem mh{f:Value->Value->Sem Value}{g:Int->Int->V}{gd:Int->Int->D}(ho:cC X f (jF g))(hg:∀i j F H,S F H [gd i j] [g i j])(hp:∀i j,(gd i j).pl=true):bP X f λx y Q=>∃i j,x=.int i/\y=.int j/\Q (gd i j) :=
 ⟨_,ho,λ{B F H σ δ ts x y v w Q Qd} c sx sy h k=>by
  obtain⟨i,j,rfl,rfl,q⟩:=h
  cases sx;cases sy
  exact⟨i,j,rfl,rfl,k _ _ _ q (ae.refl _) (c.pushS (hg i j F H) (hp i j))⟩⟩
theorem iH{o:Bool}{xs:List D}(s:S F H [.lst o xs] [v])(e:ae F H):∃p ws,v=.ref p/\H p=some (.lst ws)/\S F H xs ws:=by
 cases s with
 | shr h r _=>exact⟨_,_,rfl,e _ _ h,r.s⟩
 | own h r _=>exact⟨_,_,rfl,h,r⟩
theorem kU{xs:List D}(s:S F H [.tup xs] [v]):∃p ws,v=.ref p/\H p=some (.tup ws)/\S F H xs ws:=by
 cases s with
 | tup h r _=>exact⟨_,_,rfl,h,r⟩
theorem nu{d:D}{xs:List D}(s:S F H [d] [v])(e:ae F H)(h:ke d=some xs):∃p ws,v=.ref p/\Rd H p (.lst ws)/\S F H xs ws:=by
 cases s with
 | shr h' r _=>cases h;exact⟨_,_,rfl,.inl (e _ _ h'),r.s⟩
 | own h' r _=>cases h;exact⟨_,_,rfl,.inl h',r⟩
 | fz h' r _=>cases h;exact⟨_,_,rfl,.inr ⟨_,e _ _ h'⟩,r.s⟩
 | aq _=>cases h
 | bl _=>cases h
 | int _=>cases h
 | str _=>cases h
 | tup _ _ _=>cases h
 | obj _ _ _ _=>cases h
 | bx _ _=>cases h
theorem S.rep{xs:List D}{ws:List V}(s:S F H xs ws):∀k:Nat,S F H (bg k xs).flatten (bg k ws).flatten
 | 0=>by simpa using S.nil
 | k+1=>by
  rw[qq,qq,sX,sX]
  exact s.append (S.rep s k)
noncomputable def rB:cG:=λx y Q=>match x,y with
 | .int i,.int j=>Q (.int (i+j))
 | .str a,.str b=>a.length+b.length<=sizeLine/\Q (.str (a++b))
 | .lst _ xs,.lst _ ys=>(xs.length+ys.length<=sizeLine/\xs.all D.pl=true/\ys.all D.pl=true)/\Q (.lst true (xs++ys))
 | _,_=>False
theorem cy0:bP X (binaryOp .Add) λx y Q=>∃o xs o' ys,x=.lst o xs/\y=.lst o' ys/\(xs.length+ys.length<=sizeLine/\xs.all D.pl=true/\ys.all D.pl=true)/\Q (.lst true (xs++ys)) :=
 ⟨_,MU,λ{B F H σ δ ts x y v w Q Qd} c sx sy h k=>by
  obtain⟨o,xs,o',ys,rfl,rfl,⟨hz,h1,h2⟩,q⟩:=h
  obtain⟨p,ws,rfl,e1,s1⟩:=iH sx c.ext
  obtain⟨p',fS,rfl,e2,s2⟩:=iH sy c.ext
  refine⟨p,p',ws,fS,rfl,rfl,e1,e2,by rw[<-s1.length,<- s2.length];exact hz,λr hr=>?_⟩
  exact k _ _ _ q (ae.upd hr) (c.oV hr (s1.append s2) (by simp[h1,h2]))⟩
theorem cF0:bP X (binaryOp .Add) λx y Q=>∃i j,x=.str i/\y=.str j/\i.length+j.length<=sizeLine/\Q (.str (i++j)) :=
 ⟨_,Xl,λ{B F H σ δ ts x y v w Q Qd} c sx sy h k=>by
  obtain⟨i,j,rfl,rfl,hz,q⟩:=h
  cases sx;cases sy
  exact⟨i,j,rfl,rfl,hz,k _ _ _ q (ae.refl _) (c.pushS (.str .nil) rfl)⟩⟩
theorem cT:bP X (binaryOp .Add) rB:=((mh (gd:=λi j=>.int (i+j)) W2 (λ_ _ _ _=>.int .nil) λ_ _=>rfl).or (cF0.or cy0)).imp λx y Q h=>by
 unfold rB at h
 split at h
 ·exact .inl ⟨_,_,rfl,rfl,h⟩
 ·exact .inr (.inl ⟨_,_,rfl,rfl,h.1,h.2⟩)
 ·exact .inr (.inr ⟨_,_,_,_,rfl,rfl,h.1,h.2⟩)
 ·exact h.elim
noncomputable def iI(C:Int->Int->Prop)(g:Int->Int->D):cG:=λx y Q=>match x,y with
 | .int i,.int j=>C i j/\Q (g i j)
 | _,_=>False
noncomputable def ik(g:Int->Int->D):cG:=λx y Q=>match x,y with
 | .int i,.int j=>Q (g i j)
 | _,_=>False
theorem yn{f:Value->Value->Sem Value}{C:Int->Int->Prop}{g:Int->Int->D}(h:bP X f λx y Q=>∃i j,x=.int i/\y=.int j/\C i j/\Q (g i j)):bP X f (iI C g):=h.imp λx y Q h=>by
 unfold iI at h
 split at h
 ·exact⟨_,_,rfl,rfl,h.1,h.2⟩
 ·exact h.elim
theorem nv{f:Value->Value->Sem Value}{g:Int->Int->D}(h:bP X f λx y Q=>∃i j,x=.int i/\y=.int j/\Q (g i j)):bP X f (ik g):=h.imp λx y Q h=>by
 unfold ik at h
 split at h
 ·exact⟨_,_,rfl,rfl,h⟩
 ·exact h.elim
noncomputable def uK:cG:=ik λi j=>.int (i-j)
theorem jm:bP X (binaryOp .Sub) uK:=nv (mh E5 (λ_ _ _ _=>.int .nil) λ_ _=>rfl)
noncomputable def FY(_ j:Int):Prop:=0<j/\j.natAbs.log2<9000
theorem jn{i j:Int}(h1:0<j)(h2:j<1073741824):FY i j:=⟨h1,by
 have h:j.natAbs<2 ^ 30:=by omega
 have:=(Nat.log2_lt (show j.natAbs≠0 by omega)).mpr h
 omega⟩
theorem b30:cC X (binaryOp .FloorDiv) (rI FY λi j=>.int (i/j)):=tM λi j _ _ _ _ _ hc q =>
 floordiv_int (show j≠0 by have:=hc.1;omega) (by rw[Vw i (by have:=hc.1;omega)];exact q) (.inl (PyProof.noPylong_of_log2 hc.2))
noncomputable def uL:cG:=iI FY λi j=>.int (i/j)
theorem jo:bP X (binaryOp .FloorDiv) uL:=yn (uJ b30 (λ_ _ _ _=>.int .nil) λ_ _=>rfl)
noncomputable def uM:cG:=iI (λ_ j=>0<j) λi j=>.int (i%j)
theorem bY:bP X (binaryOp .Mod) uM:=yn (uJ W3 (λ_ _ _ _=>.int .nil) λ_ _=>rfl)
noncomputable def uN:cG:=iI Mo λi j=>.int (i ^ j.toNat)
theorem cA5:bP X (binaryOp .Pow) uN:=yn (uJ W4 (λ_ _ _ _=>.int .nil) λ_ _=>rfl)
noncomputable def uO:cG:=iI Np λi j=>.int (i*2 ^ j.toNat)
theorem uP:bP X (binaryOp .LShift) uO:=yn (uJ Nq (λ_ _ _ _=>.int .nil) λ_ _=>rfl)
noncomputable def uQ:cG:=iI (λ_ j=>0<=j) λi j=>.int (i/2 ^ j.toNat)
theorem N1:bP X (binaryOp .RShift) uQ:=yn (uJ W5 (λ_ _ _ _=>.int .nil) λ_ _=>rfl)
noncomputable def uR:cG:=ik λi j=>.int (oB i j)
theorem N2:bP X (binaryOp .BitAnd) uR:=nv (mh W6 (λ_ _ _ _=>.int .nil) λ_ _=>rfl)
noncomputable def uS:cG:=ik λi j=>.int (oE i j)
theorem B8:bP X (binaryOp .BitXor) uS:=nv (mh W7 (λ_ _ _ _=>.int .nil) λ_ _=>rfl)
theorem b12:cC X (binaryOp .Mult) (rI IntMulOk λi j=>.int (i*j)):=tM λ_ _ _ _ _ _ _ hc q=>mul_int q hc
noncomputable def rC:cG:=λx y Q=>match x,y with
 | .int i,.int j=>IntMulOk i j/\Q (.int (i*j))
 | .lst _ xs,.int k=>(-(2 ^ 63)<=k/\k<2 ^ 63/\xs.length*k.toNat<=sizeLine/\xs.all D.pl=true)/\Q (.lst true (bg k.toNat xs).flatten)
 | _,_=>False
theorem cA4:bP X (binaryOp .Mult) λx y Q=>∃o xs k,x=.lst o xs/\y=.int k/\(-(2 ^ 63)<=k/\k<2 ^ 63/\xs.length*k.toNat<=sizeLine/\xs.all D.pl=true)/\Q (.lst true (bg k.toNat xs).flatten) :=
 ⟨_,Yx,λ{B F H σ δ ts x y v w Q Qd} c sx sy h k=>by
  obtain⟨o,xs,n,rfl,rfl,⟨b1,b2,hz,h1⟩,q⟩:=h
  obtain⟨p,ws,rfl,e1,s1⟩:=iH sx c.ext
  cases sy
  refine⟨p,n,ws,rfl,rfl,e1,b1,b2,by rw[<-s1.length];exact hz,λr hr=>?_⟩
  refine k _ _ _ q (ae.upd hr) (c.oV hr (s1.rep _) ?_)
  rw[cX]
  intro x hx
  obtain⟨l,hl,N3⟩:=List.mem_flatten.mp hx
  rw[(Lr.mp hl).2]at N3
  exact cX.mp h1 x N3⟩
theorem iJ:bP X (binaryOp .Mult) rC:=((uJ (gd:=λi j=>.int (i*j)) b12 (λ_ _ _ _=>.int .nil) λ_ _=>rfl).or cA4).imp λx y Q h=>by
 unfold rC at h
 split at h
 ·exact .inl ⟨_,_,rfl,rfl,h.1,h.2⟩
 ·exact .inr ⟨_,_,_,rfl,rfl,h.1,h.2⟩
 ·exact h.elim
theorem ct0:bP X (inplaceOp .Add) (ik λi j=>.int (i+j)):=nv (mh W8 (λ_ _ _ _=>.int .nil) λ_ _=>rfl)
theorem FZ:bP X (inplaceOp .BitXor) (ik λi j=>.int (oE i j)):=nv (mh W9 (λ_ _ _ _=>.int .nil) λ_ _=>rfl)
noncomputable def uT:cG:=ik λi j=>.bl (decide (i<j))
noncomputable def uU:cG:=ik λi j=>.bl (decide (i<=j))
noncomputable def uV:cG:=ik λi j=>.bl (decide (j<i))
noncomputable def uW:cG:=ik λi j=>.bl (decide (j<=i))
theorem rD:bP X (compareOp .Lt) uT:=nv (mh Xd (λ_ _ _ _=>.bl .nil) λ_ _=>rfl)
theorem yo:bP X (compareOp .LtE) uU:=nv (mh Xe (λ_ _ _ _=>.bl .nil) λ_ _=>rfl)
theorem B9:bP X (compareOp .Gt) uV:=nv (mh Xf (λ_ _ _ _=>.bl .nil) λ_ _=>rfl)
theorem cD3:bP X (compareOp .GtE) uW:=nv (mh Xg (λ_ _ _ _=>.bl .nil) λ_ _=>rfl)
noncomputable def pd:D->Bool
 | .aq=>true
 | _=>false
noncomputable def rE:cG:=λx y Q=>match y with
 | .aq=>Q (.bl (!pd x))
 | _=>False
theorem ci6{d:D}(s:S F H [d] [v]):decide (v=.aq)=pd d:=by cases s<;>simp[pd]
theorem cm5:bP X (compareOp .IsNot) rE:=⟨_,Xh,λ{B F H σ δ ts x y v w Q Qd} c sx sy h k=>by
 unfold rE at h
 split at h
 ·cases sy
  refine⟨rfl,?_⟩
  rw[ci6 sx]
  exact k _ _ _ h (ae.refl _) (c.pushS (.bl .nil) rfl)
 ·exact h.elim⟩
noncomputable def bF:D->D->Bool
 | .aq,.aq=>true
 | .bl a,.bl b=>a==b
 | .bl a,.int b=>(if a then 1 else 0)==b
 | .int a,.bl b=>a==(if b then 1 else 0)
 | .int a,.int b=>a==b
 | .str a,.str b=>a==b
 | .lst _ xs,.lst _ ys=>fV xs ys
 | .tup xs,.tup ys=>fV xs ys
 | _,_=>false
where fV:List D->List D->Bool
 | [],[]=>true
 | x::xs,y::ys=>bF x y&&fV xs ys
 | _,_=>false
noncomputable def dF:Nat->D->Bool
 | _,.aq=>true
 | _,.bl _=>true
 | _,.int _=>true
 | _,.str _=>true
 | n+1,.lst _ xs=>xs.all (dF n)
 | n+1,.tup xs=>xs.all (dF n)
 | _,_=>false
theorem Ga:∀(xs ys:List D),xs.length=ys.length->bF.fV xs ys=(bh xs.length).all λj=>bF (xs.getD j .aq) (ys.getD j .aq)
 | [],[],_=>rfl
 | x::xs,y::ys,h=>by
  rw[ix,VH,dh,lL]
  show(bF x y&&bF.fV xs ys)=_
  rw[Ga xs ys (by simpa using h)]
  rfl
theorem Gb:∀(xs ys:List D),xs.length≠ys.length->bF.fV xs ys=false
 | [],[],h=>absurd rfl h
 | [],_::_,_=>rfl
 | _::_,[],_=>rfl
 | x::xs,y::ys,h=>by
  show(bF x y&&bF.fV xs ys)=false
  rw[Gb xs ys (by simpa using h),Bool.and_false]
noncomputable def ofV:V->D
 | .bl b=>.bl b
 | .int i=>.int i
 | .str z=>.str z
 | _=>.aq
theorem yp{x:D}{v:V}(h:dF 0 x=true)(s:S F H [x] [v]):x=ofV v:=by
 cases s with
 | aq _=>rfl
 | bl _=>rfl
 | int _=>rfl
 | str _=>rfl
 | _=>cases h
theorem N4{x:D}(h:dF 0 x=true):bF x x=true:=by
 cases x with
 | aq=>rfl
 | bl b=>exact beq_self_eq_true b
 | int i=>exact beq_self_eq_true i
 | str z=>exact beq_self_eq_true z
 | _=>cases h
theorem pf{n:Nat}{x:D}(h:dF (n+1) x=true):dF 0 x=true\/(∃o xs,x=.lst o xs/\xs.all (dF n)=true)\/∃xs,x=.tup xs/\xs.all (dF n)=true:=by
 cases x with
 | lst o xs=>exact .inr (.inl ⟨o,xs,rfl,h⟩)
 | tup xs=>exact .inr (.inr ⟨xs,rfl,h⟩)
 | obj _ _ _=>exact absurd h iP
 | fz _=>exact absurd h iP
 | bx _=>exact absurd h iP
 | _=>exact .inl rfl
theorem Ca{x:D}{p:Addr}(h:dF 0 x=true)(s:S F H [x] [.ref p]):False:=by
 rw[yp h s]at s
 cases s
theorem N5:∀(n:Nat) {xs ys:List D} {vs:List V},xs.all (dF n)=true->ys.all (dF n)=true->S F H xs vs->S F H ys vs->ae F H->bF.fV xs ys=true:=by
 intro n xs
 induction n generalizing xs with
 | zero =>
  induction xs with
  | nil=>intro ys vs _ _ s1 s2 _;cases s1;cases s2;rfl
  | cons x xs ih =>
   intro ys vs h1 h2 s1 s2 e
   obtain⟨v,bW,rfl,q1,r1⟩:=s1.cQ
   cases ys with
   | nil=>cases s2
   | cons y ys =>
    obtain⟨v',FL,ee,q2,r2⟩:=s2.cQ
    obtain⟨rfl,rfl⟩:=kG ee
    rw[dh,dP]at h1 h2
    show(bF x y&&bF.fV xs ys)=true
    rw[ih h1.2 h2.2 r1 r2 e,mP,yp h2.1 q2,<- yp h1.1 q1]
    exact N4 h1.1
 | succ n N6 =>
  induction xs with
  | nil=>intro ys vs _ _ s1 s2 _;cases s1;cases s2;rfl
  | cons x xs ih =>
   intro ys vs h1 h2 s1 s2 e
   obtain⟨v,bW,rfl,q1,r1⟩:=s1.cQ
   cases ys with
   | nil=>cases s2
   | cons y ys =>
    obtain⟨v',FL,ee,q2,r2⟩:=s2.cQ
    obtain⟨rfl,rfl⟩:=kG ee
    rw[dh,dP]at h1 h2
    show(bF x y&&bF.fV xs ys)=true
    rw[ih h1.2 h2.2 r1 r2 e,mP]
    have h1:=h1.1
    have h2:=h2.1
    clear ih r1 r2 s1 s2
    rcases pf h1 with k1 | ⟨o1,a1,rfl,k1⟩ | ⟨a1,rfl,k1⟩
    ·rcases pf h2 with k2 | ⟨o2,a2,rfl,k2⟩ | ⟨a2,rfl,k2⟩
     ·rw[yp k2 q2,<- yp k1 q1]
      exact N4 k1
     ·obtain⟨p,ws,rfl,_⟩:=iH q2 e
      exact(Ca k1 q1).elim
     ·obtain⟨p,ws,rfl,_⟩:=kU q2
      exact(Ca k1 q1).elim
    ·obtain⟨p,ws,rfl,e1,t1⟩:=iH q1 e
     rcases pf h2 with k2 | ⟨o2,a2,rfl,k2⟩ | ⟨a2,rfl,k2⟩
     ·exact(Ca k2 q2).elim
     ·obtain⟨p2,Gd,ev,e2,t2⟩:=iH q2 e
      cases ev
      cases e1.symm.trans e2
      exact N6 k1 k2 t1 t2 e
     ·obtain⟨p2,Gd,ev,e2,t2⟩:=kU q2
      cases ev
      cases e1.symm.trans e2
    ·obtain⟨p,ws,rfl,e1,t1⟩:=kU q1
     rcases pf h2 with k2 | ⟨o2,a2,rfl,k2⟩ | ⟨a2,rfl,k2⟩
     ·exact(Ca k2 q2).elim
     ·obtain⟨p2,Gd,ev,e2,t2⟩:=iH q2 e
      cases ev
      cases e1.symm.trans e2
     ·obtain⟨p2,Gd,ev,e2,t2⟩:=kU q2
      cases ev
      cases e1.symm.trans e2
      exact N6 k1 k2 t1 t2 e
end
end L3
namespace L3
open PySem L2 PySem.Spec PyProof.Rows
structure N7(A:Around)(s:Shared)(u w:Value)(b:Bool):Prop where
 rc:SeqAt.RcAt A s u w b
 ne:SeqAt.RcNeAt A s u w (!b)
 eq:El A s u w b
section
variable{X:Cx}{F H:Hp}{v w:V}
theorem N8{xs:List V}{us:List Value}(r:Vals xs us){j:Nat}(h:j<us.toArray.size):∃x,xs[j]?=some x/\RelV x us.toArray[j]:=by
 have l:=r.length
 have hj:j<xs.length:=by rw[l];simpa using h
 obtain⟨u,e,q⟩:=r.get (bc hj)
 obtain⟨_,z⟩:=kE.mp e
 refine⟨_,bc hj,?_⟩
 have:us.toArray[j]=u:=by simpa using z
 rw[this];exact q
theorem N9{xs:List D}{j:Nat}{d:D}(h:xs[j]?=some d):xs.getD j .aq=d:=by rw[aW,h];rfl
theorem uX{x:D}{v:V}{u:Value}(h:dF 0 x=true)(s:S F H [x] [v])(r:RelV v u):(x=.aq/\u=.none)\/(∃b,x=.bl b/\u=.bool b)\/(∃i t,x=.int i/\u=.int i t)\/∃z t,x=.str z/\u=.str z t:=by
 cases s with
 | aq _=>cases r;exact .inl ⟨rfl,rfl⟩
 | bl _=>cases r;exact .inr (.inl ⟨_,rfl,rfl⟩)
 | int _=>obtain⟨t,rfl⟩:=r;exact .inr (.inr (.inl ⟨_,t,rfl,rfl⟩))
 | str _=>obtain⟨t,rfl⟩:=r;exact .inr (.inr (.inr ⟨_,t,rfl,rfl⟩))
 | _=>exact absurd h iP
theorem Oa{x y:D}{u u':Value}{A:Around}{s:Shared}(h1:(x=.aq/\u=.none)\/(∃b,x=.bl b/\u=.bool b)\/(∃i t,x=.int i/\u=.int i t)\/∃z t,x=.str z/\u=.str z t)(h2:(y=.aq/\u'=.none)\/(∃b,y=.bl b/\u'=.bool b)\/(∃i t,y=.int i/\u'=.int i t)\/∃z t,y=.str z/\u'=.str z t):N7 A s u u' (bF x y):=by
 rcases h1 with⟨rfl,rfl⟩ | ⟨a,rfl,rfl⟩ | ⟨a,t,rfl,rfl⟩ | ⟨a,t,rfl,rfl⟩<;>rcases h2 with⟨rfl,rfl⟩ | ⟨b,rfl,rfl⟩ | ⟨b,t',rfl,rfl⟩ | ⟨b,t',rfl,rfl⟩
 ·exact⟨.none_none,.none_none,.same _⟩
 ·exact⟨.none_bool _,.none_bool _,.none_bool _⟩
 ·exact⟨.none_int _ _,.none_int _ _,.none_int _ _⟩
 ·exact⟨.none_str _ _,.none_str _ _,.none_str _ _⟩
 ·exact⟨.bool_none _,.bool_none _,.bool_none _⟩
 ·exact⟨.bool_bool _ _,.bool_bool _ _,.bool_bool _ _⟩
 ·exact⟨.bool_int _ _ _,.bool_int _ _ _,.bool_int _ _ _⟩
 ·exact⟨.bool_str _ _ _,.bool_str _ _ _,.bool_str _ _ _⟩
 ·exact⟨.int_none _ _,.int_none _ _,.int_none _ _⟩
 ·exact⟨.int_bool _ _ _,.int_bool _ _ _,.int_bool _ _ _⟩
 ·exact⟨.int_int _ _ _ _,.int_int _ _ _ _,.int_int _ _ _ _⟩
 ·exact⟨.int_str _ _ _ _,.int_str _ _ _ _,.int_str _ _ _ _⟩
 ·exact⟨.str_none _ _,.str_none _ _,.str_none _ _⟩
 ·exact⟨.str_bool _ _ _,.str_bool _ _ _,.str_bool _ _ _⟩
 ·exact⟨.str_int _ _ _ _,.str_int _ _ _ _,.str_int _ _ _ _⟩
 ·exact⟨.str_str _ _ _ _,.str_str _ _ _ _,.str_str _ _ _ _⟩
theorem Ob{pins:List (Addr × Obj)}{σ:L2.St}{s:Shared}(I:Inv X pins σ H s)(e:ae F H):∀(n:Nat) (x y:D) (v w:V) (u u':Value) (A:Around),dF n x=true->dF n y=true->S F H [x] [v]->S F H [y] [w]->RelV v u->RelV w u' ->
  A.units+n<cLine->N7 A s u u' (bF x y):=by
 intro n
 induction n with
 | zero =>
  intro x y v w u u' A hx hy sx sy rv gb hu
  exact Oa (uX hx sx rv) (uX hy sy gb)
 | succ n ih =>
  intro x y v w u u' A hx hy sx sy rv gb hu
  have bq:A.units<cLine:=mL (Nat.le_add_right ..) hu
  have Oc:A.in1.units+n<cLine:=by show A.units+1+n<cLine;rw[Lu,Lh 1];exact hu
  have items:∀{xs ys:List D} {vs ws:List V} {us iq:List Value},xs.all (dF n)=true->ys.all (dF n)=true->S F H xs vs->S F H ys ws->Vals vs us->Vals ws iq ->
    ∀j (h1:j<us.toArray.size) (h2:j<iq.toArray.size),El A.in1 s us.toArray[j] iq.toArray[j] (bF (xs.getD j .aq) (ys.getD j .aq)):=by
   intro xs ys vs ws us iq hx hy sx sy r1 r2 j h1 h2
   obtain⟨a,e1,q1⟩:=N8 r1 h1
   obtain⟨b,e2,q2⟩:=N8 r2 h2
   obtain⟨d1,g1,t1⟩:=sx.get' e1
   obtain⟨d2,g2,t2⟩:=sy.get' e2
   rw[N9 g1,N9 g2]
   exact(ih d1 d2 a b _ _ A.in1 (cX.mp hx d1 (sV g1)) (cX.mp hy d2 (sV g2)) t1 t2 q1 q2 Oc).eq
  clear ih hu Oc
  rcases pf hx with k1 | ⟨o,xs,rfl,k1⟩ | ⟨xs,rfl,k1⟩
  ·have f:=uX k1 sx rv
   rcases pf hy with k2 | ⟨o',ys,rfl,k2⟩ | ⟨ys,rfl,k2⟩
   ·exact Oa f (uX k2 sy gb)
   ·obtain⟨p',fS,rfl,e2,t2⟩:=iH sy e
    cases gb
    obtain⟨kW,r2,p2,z2⟩:=I.list (bw.of (K:=X.K) e2)
    have p2:=p2.isList
    rcases f with⟨rfl,rfl⟩ | ⟨a,rfl,rfl⟩ | ⟨a,t,rfl,rfl⟩ | ⟨a,t,rfl,rfl⟩
    ·exact⟨.none_list p2 bq,.none_list p2 bq,.none_list p2 bq⟩
    ·exact⟨.bool_list _ p2 bq,.bool_list _ p2 bq,.bool_list _ p2 bq⟩
    ·exact⟨.int_list _ _ p2 bq,.int_list _ _ p2 bq,.int_list _ _ p2 bq⟩
    ·exact⟨.str_list _ _ p2 bq,.str_list _ _ p2 bq,.str_list _ _ p2 bq⟩
   ·obtain⟨p',fS,rfl,e2,t2⟩:=kU sy
    cases gb
    obtain⟨kW,r2,p2,z2⟩:=I.tuple (g9.of (K:=X.K) e2)
    rcases f with⟨rfl,rfl⟩ | ⟨a,rfl,rfl⟩ | ⟨a,t,rfl,rfl⟩ | ⟨a,t,rfl,rfl⟩
    ·exact⟨.none_tuple p2 bq,.none_tuple p2 bq,.none_tuple p2 bq⟩
    ·exact⟨.bool_tuple _ p2 bq,.bool_tuple _ p2 bq,.bool_tuple _ p2 bq⟩
    ·exact⟨.int_tuple _ _ p2 bq,.int_tuple _ _ p2 bq,.int_tuple _ _ p2 bq⟩
    ·exact⟨.str_tuple _ _ p2 bq,.str_tuple _ _ p2 bq,.str_tuple _ _ p2 bq⟩
  ·obtain⟨p,ws,rfl,e1,t1⟩:=iH sx e
   cases rv
   obtain⟨its,r1,p1,z1⟩:=I.list (bw.of (K:=X.K) e1)
   have p1:=p1.isList
   rcases pf hy with k2 | ⟨o',ys,rfl,k2⟩ | ⟨ys,rfl,k2⟩
   ·rcases uX k2 sy gb with⟨rfl,rfl⟩ | ⟨a,rfl,rfl⟩ | ⟨a,t,rfl,rfl⟩ | ⟨a,t,rfl,rfl⟩
    ·exact⟨.list_none p1 bq,.list_none p1 bq,.list_none p1 bq⟩
    ·exact⟨.list_bool _ p1 bq,.list_bool _ p1 bq,.list_bool _ p1 bq⟩
    ·exact⟨.list_int _ _ p1 bq,.list_int _ _ p1 bq,.list_int _ _ p1 bq⟩
    ·exact⟨.list_str _ _ p1 bq,.list_str _ _ p1 bq,.list_str _ _ p1 bq⟩
   ·obtain⟨p',fS,rfl,e2,t2⟩:=iH sy e
    cases gb
    obtain⟨kW,r2,p2,z2⟩:=I.list (bw.of (K:=X.K) e2)
    have p2:=p2.isList
    have rF:xs.length=its.length:=t1.length.trans r1.length
    have uY:ys.length=kW.length:=t2.length.trans r2.length
    by_cases hl:xs.length=ys.length
    ·have lV:its.toArray.size=kW.toArray.size:=by rw[dO,dO,<- rF,<- uY];exact hl
     have ev:(bh its.toArray.size).all (λj=>bF (xs.getD j .aq) (ys.getD j .aq))=bF (.lst o xs) (.lst o' ys):=by
      show _=bF.fV xs ys
      rw[Ga xs ys hl,dO,<- rF]
     have a:=SeqAt.RcAt.lists (e:=λj=>bF (xs.getD j .aq) (ys.getD j .aq)) p1 p2 lV bq (items k1 k2 t1 t2 r1 r2)
     have b:=SeqAt.RcNeAt.lists (e:=λj=>bF (xs.getD j .aq) (ys.getD j .aq)) p1 p2 lV bq (items k1 k2 t1 t2 r1 r2)
     rw[ev]at a b
     refine⟨a,b,?_⟩
     by_cases rG:p=p'
     ·subst rG
      cases e1.symm.trans e2
      rw[show bF (.lst o xs) (.lst o' ys)=true from N5 n k1 k2 t1 t2 e]
      exact .same _
     ·exact .of_refs rG a
    ·have lV:(its.toArray.size != kW.toArray.size)=true:=bne_iff_ne.mpr (by rw[dO,dO,<- rF,<- uY];exact hl)
     rw[show bF (.lst o xs) (.lst o' ys)=false from Gb xs ys hl]
     have a:=SeqAt.RcAt.lists_lengths p1 p2 lV bq
     refine⟨a,SeqAt.RcNeAt.lists_lengths p1 p2 lV bq,.of_refs (λrG=>?_) a⟩
     subst rG
     cases e1.symm.trans e2
     exact hl (t1.length.trans t2.length.symm)
   ·obtain⟨p',fS,rfl,e2,t2⟩:=kU sy
    cases gb
    obtain⟨kW,r2,p2,z2⟩:=I.tuple (g9.of (K:=X.K) e2)
    exact⟨.list_tuple p1 p2 bq,.list_tuple p1 p2 bq,.list_tuple p1 p2 bq⟩
  ·obtain⟨p,ws,rfl,e1,t1⟩:=kU sx
   cases rv
   obtain⟨its,r1,p1,z1⟩:=I.tuple (g9.of (K:=X.K) e1)
   rcases pf hy with k2 | ⟨o',ys,rfl,k2⟩ | ⟨ys,rfl,k2⟩
   ·rcases uX k2 sy gb with⟨rfl,rfl⟩ | ⟨a,rfl,rfl⟩ | ⟨a,t,rfl,rfl⟩ | ⟨a,t,rfl,rfl⟩
    ·exact⟨.tuple_none p1 bq,.tuple_none p1 bq,.tuple_none p1 bq⟩
    ·exact⟨.tuple_bool _ p1 bq,.tuple_bool _ p1 bq,.tuple_bool _ p1 bq⟩
    ·exact⟨.tuple_int _ _ p1 bq,.tuple_int _ _ p1 bq,.tuple_int _ _ p1 bq⟩
    ·exact⟨.tuple_str _ _ p1 bq,.tuple_str _ _ p1 bq,.tuple_str _ _ p1 bq⟩
   ·obtain⟨p',fS,rfl,e2,t2⟩:=iH sy e
    cases gb
    obtain⟨kW,r2,p2,z2⟩:=I.list (bw.of (K:=X.K) e2)
    have p2:=p2.isList
    exact⟨.tuple_list p1 p2 bq,.tuple_list p1 p2 bq,.tuple_list p1 p2 bq⟩
   ·obtain⟨p',fS,rfl,e2,t2⟩:=kU sy
    cases gb
    obtain⟨kW,r2,p2,z2⟩:=I.tuple (g9.of (K:=X.K) e2)
    have rF:xs.length=its.length:=t1.length.trans r1.length
    have uY:ys.length=kW.length:=t2.length.trans r2.length
    have ev:((bh (min its.toArray.size kW.toArray.size)).all (λj=>bF (xs.getD j .aq) (ys.getD j .aq))&&its.toArray.size==kW.toArray.size)=bF (.tup xs) (.tup ys):=by
     show _=bF.fV xs ys
     rw[dO,dO,<- rF,<- uY]
     by_cases hl:xs.length=ys.length
     ·rw[Ga xs ys hl,<- hl,Ey,beq_self_eq_true,mP]
     ·rw[Gb xs ys hl,beq_false_of_ne hl,Bool.and_false]
    have a:=SeqAt.RcAt.tuples (e:=λj=>bF (xs.getD j .aq) (ys.getD j .aq)) p1 p2 bq (items k1 k2 t1 t2 r1 r2)
    have b:=SeqAt.RcNeAt.tuples (e:=λj=>bF (xs.getD j .aq) (ys.getD j .aq)) p1 p2 bq (items k1 k2 t1 t2 r1 r2)
    rw[ev]at a b
    refine⟨a,b,?_⟩
    by_cases rG:p=p'
    ·subst rG
     cases e1.symm.trans e2
     rw[show bF (.tup xs) (.tup ys)=true from N5 n k1 k2 t1 t2 e]
     exact .same _
    ·exact .of_refs rG a
noncomputable def uZ:cG:=λx y Q=>(dF 6 x=true/\dF 6 y=true)/\Q (.bl (bF x y))
noncomputable def u0:cG:=λx y Q=>(dF 6 x=true/\dF 6 y=true)/\Q (.bl (!bF x y))
theorem ff(hu:X.A.units+6<cLine):bP X (compareOp .Eq) uZ:=bP.of λpins s σ H v w u u' Q I rv gb zz=>by
 obtain⟨B,F,ax,δ,ts,x,y,Qd,c,sx,sy,⟨⟨hx,hy⟩,q⟩,k⟩:=zz
 exact(Ob I c.ext 6 x y v w u u' X.A hx hy sx sy rv gb hu).rc _ _ _ _ ⟨.bl _,H,I,rfl,k _ _ _ q (ae.refl _) (c.pushS (.bl .nil) rfl)⟩
theorem iK(hu:X.A.units+6<cLine):bP X (compareOp .NotEq) u0:=bP.of λpins s σ H v w u u' Q I rv gb zz=>by
 obtain⟨B,F,ax,δ,ts,x,y,Qd,c,sx,sy,⟨⟨hx,hy⟩,q⟩,k⟩:=zz
 exact(Ob I c.ext 6 x y v w u u' X.A hx hy sx sy rv gb hu).ne _ _ _ _ ⟨.bl _,H,I,rfl,k _ _ _ q (ae.refl _) (c.pushS (.bl .nil) rfl)⟩
end
end L3
namespace L3
open PySem L2 PySem.Spec PyProof.Rows
section
variable{X:Cx}{F H:Hp}{v w:V}{e a b c o:Expr}{es:List Expr}{pos p p2 apos bN:Pos}{t ta tb tc te:aI}{tr:bX}{x:Str}
theorem bJ5{r r':R2}{rd yq:cG}(hl:BX r rd)(tI:BX r' yq):∀σ H Q,lE (q9 rd yq ta tb tc) σ H Q->Mq r r' (lB ta) (lB tb) (lB tc) σ H Q:=λσ H Q ⟨B,F,δ,ts,Qd,c,q,k⟩ =>
 ⟨B,F,δ,ts,_,c,q,λx aj v F1 H1 q1 f1 h1 c1 s1=>⟨B,F1,aj,ts,_,c1,q1,λy aK w F2 H2 q2 f2 h2 c2 s2=>by
  refine hl c2 (s1.mono f2 h2) s2 q2 λd z H' hd hs c3=>?_
  obtain⟨b,rfl,qb⟩:=hd
  have st:=c3.top
  cases st with
  | bl _ =>
   refine⟨b,rfl,?_⟩
   cases b with
   | true =>
    refine qR ⟨B,F2,aK,ts,_,c3.pop,by simpa using qb,λz gn w3 F3 H3 q3 f3 h3 c4 s3=>?_⟩
    exact tI c4 (s2.mono f3 (hs.trans h3)) s3 q3 λd z H' hd hs' c5=>k d gn z F3 H' hd ((f1.trans f2).trans f3) ((((h1.trans h2).trans hs).trans h3).trans hs') c5
   | false=>exact kN (k _ aK _ F2 H' (by simpa using qb) (f1.trans f2) ((h1.trans h2).trans hs) (c3.pop.pushS (.bl .nil) rfl))⟩⟩
theorem Ge{op qL:CmpOp}{rd yq:cG}(ho:bP X (compareOp op) rd)(kH:bP X (compareOp qL) yq)(ha:PE X a (lB ta))(hb:PE X b (lB tb))(hc:PE X c (lB tc))
  (hm:lastMarks [op,qL] [b,c]=false:=by with_unfolding_all rfl):PE X (.Compare a [op,qL] [b,c] pos) (lE (q9 rd yq ta tb tc)):=by
 obtain⟨r,h1,h2⟩:=ho
 obtain⟨r',j9,jH⟩:=kH
 exact da (Xk h1 j9 ha hb hc hm) (bJ5 h2 jH)
noncomputable def u3(t:aI):aI:=λδ Q=>t δ λd ag=>match d with
 | .int i=>Q (.int (-i)) ag
 | _=>False
theorem cz4(ha:PE X a (lB ta)):PE X (.UnaryOp .USub a pos) (lE (u3 ta)):=da (WZ Xb ha) λσ H Q zq=>by
 obtain⟨B,F,δ,ts,Qd,c,q,k⟩:=zq
 exact⟨B,F,δ,ts,_,c,q,λd aj v F1 H1 q1 f1 h1 c1 s1=>by
 cases s1 with
 | int _=>exact⟨_,rfl,k _ aj _ F1 H1 q1 f1 h1 (c1.pushS (.int .nil) rfl)⟩
 | _=>exact q1.elim⟩
noncomputable abbrev jO:=List D->(D->Prop)->Prop
noncomputable def lc(rd:jO):List V->Hp->VK->Prop:=λvs H Q=>∃B F σ δ ts ds Qd,ai B F H σ δ ts/\S F H ds vs/\rd ds Qd/\∀d z H',Qd d->ae H H'->ai B F H' σ δ ((d,z)::ts)->Q z H'
noncomputable def gP(X:Cx)(f:Value)(rd:jO):Prop:=gE X f (lc rd)
theorem gP.of{f:Value}{r:List V->Hp->VK->Prop}{rd:jO}(h:gE X f r)(m:∀vs H Q,lc rd vs H Q->r vs H Q):gP X f rd:=λpins s σ H xs us Q I r q=>h pins s σ H xs us Q I r (m xs H Q q)
noncomputable def nB(rd:jO)(t:bX):aI:=λδ Q=>t δ λds ag=>rd ds λd=>Q d ag
theorem Od{rd:jO}:∀σ H Q,lE (nB rd tr) σ H Q->E8 (lc rd) (lA tr) σ H Q:=λσ H Q zq=>by
 obtain⟨B,F,δ,ts,Qd,c,q,k⟩:=zq
 exact⟨B,F,δ,ts,_,c,q,λds aj vs F1 H1 q1 f1 h1 c1 s1 =>
 ⟨B,F1,σ,aj,ts,ds,_,c1,s1,q1,λd z H' hd hs c'=>k d aj z F1 H' hd f1 (h1.trans hs) c'⟩⟩
theorem dU{id:String}{rd:jO}(hc:gP X (.builtin id) rd)(hg:Gl X x)(hm:X.mg x=none)(hv:bootBuiltins x=some (.builtin id))(ha:PA X (e::es) (lA tr))(hn:x≠"__name__":=by decide)(cF:(x==("__debug__":Str))=false:=by decide)
  (he:starEach (e::es) X.env=(false,eval e X.env)::starEach es X.env:=by rfl) (bj:(backTo pos (starEach es X.env)).any (·.1)=false:=by rfl):PE X (.Call (.Name x p) (e::es) [] pos) (lE (nB rd tr)) :=
 da (BF hc hg hm hv ha hn cF he bj) Od
theorem nC{T:String}{rd:jO}(hc:gP X (.type T) rd)(hg:Gl X x)(hm:X.mg x=none)(hv:bootBuiltins x=some (.type T))(ha:PA X (e::es) (lA tr))(hn:x≠"__name__":=by decide)(cF:(x==("__debug__":Str))=false:=by decide)
  (he:starEach (e::es) X.env=(false,eval e X.env)::starEach es X.env:=by rfl) (bj:(backTo pos (starEach es X.env)).any (·.1)=false:=by rfl):PE X (.Call (.Name x p) (e::es) [] pos) (lE (nB rd tr)) :=
 da (XX hc hg hm hv ha hn cF he bj) Od
theorem kX{d:D}{vs:List V}(s:S F H [d] vs):∃v,vs=[v]/\S F H [d] [v]:=by
 obtain⟨v,bW,rfl,h1,h2⟩:=s.cQ
 cases h2
 exact⟨v,rfl,h1⟩
theorem cy8{d d':D}{vs:List V}(s:S F H [d,d'] vs):∃v v',vs=[v,v']/\S F H [d] [v]/\S F H [d'] [v']:=by
 obtain⟨v,bW,rfl,h1,h2⟩:=s.cQ
 obtain⟨v',rfl,h3⟩:=kX h2
 exact⟨v,v',rfl,h1,h3⟩
theorem mi{K:PySem.W.Frag}{p:Addr}{ws:List V}(h:Rd H p (.lst ws)):bw K H p ws:=.inl h
noncomputable def rH:jO:=λds Q=>match ds with
 | [.lst _ xs]=>Q (.int xs.length)
 | [.fz xs]=>Q (.int xs.length)
 | [.tup xs]=>Q (.int xs.length)
 | [.str z]=>z.length<=sizeLine/\Q (.int z.length)
 | _=>False
theorem fI:gP X (.builtin "len") rH:=gP.of (MM.or Ym) λvs H Q zz=>by
 obtain⟨B,F,σ,δ,ts,ds,Qd,c,s,q,k⟩:=zz
 unfold rH at q
 split at q
 ·obtain⟨v,rfl,s1⟩:=kX s
  obtain⟨p,ws,rfl,h,t⟩:=nu s1 c.ext rfl
  refine .inl ⟨p,ws,rfl,.inl (mi h),?_⟩
  rw[<-t.length]
  exact k _ _ _ q (ae.refl _) (c.pushS (.int .nil) rfl)
 ·obtain⟨v,rfl,s1⟩:=kX s
  obtain⟨p,ws,rfl,h,t⟩:=nu s1 c.ext rfl
  refine .inl ⟨p,ws,rfl,.inl (mi h),?_⟩
  rw[<-t.length]
  exact k _ _ _ q (ae.refl _) (c.pushS (.int .nil) rfl)
 ·obtain⟨v,rfl,s1⟩:=kX s
  obtain⟨p,ws,rfl,h,t⟩:=kU s1
  refine .inl ⟨p,ws,rfl,.inr (g9.of h),?_⟩
  rw[<-t.length]
  exact k _ _ _ q (ae.refl _) (c.pushS (.int .nil) rfl)
 ·obtain⟨v,rfl,s1⟩:=kX s
  cases s1
  exact .inr ⟨_,rfl,q.1,k _ _ _ q.2 (ae.refl _) (c.pushS (.int .nil) rfl)⟩
 ·exact q.elim
noncomputable def ph:jO:=λds Q=>match ds with
 | [.lst _ xs]=>xs.all D.pl=true/\Q (.lst true xs)
 | [.fz xs]=>Q (.lst true xs)
 | [.tup xs]=>xs.all D.pl=true/\Q (.lst true xs)
 | _=>False
theorem rJ:gP X (.type "list") ph:=gP.of Yn λvs H Q zz=>by
 obtain⟨B,F,σ,δ,ts,ds,Qd,c,s,q,k⟩:=zz
 unfold ph at q
 split at q
 ·obtain⟨v,rfl,s1⟩:=kX s
  obtain⟨p,ws,rfl,h,t⟩:=nu s1 c.ext rfl
  exact⟨p,ws,rfl,.inl (mi h),λl hl=>k _ _ _ q.2 (ae.upd hl) (c.oV hl t q.1)⟩
 ·obtain⟨v,rfl,s1⟩:=kX s
  cases s1 with
  | fz h r _=>exact⟨_,_,rfl,.inl (mi (.inr ⟨_,c.ext _ _ h⟩)),λl hl=>k _ _ _ q (ae.upd hl) (c.oV hl r.s r.pl)⟩
 ·obtain⟨v,rfl,s1⟩:=kX s
  obtain⟨p,ws,rfl,h,t⟩:=kU s1
  exact⟨p,ws,rfl,.inr (g9.of h),λl hl=>k _ _ _ q.2 (ae.upd hl) (c.oV hl t q.1)⟩
 ·exact q.elim
noncomputable def ii(g:Int->Int->Int):jO:=λds Q=>match ds with
 | [.int i,.int j]=>Q (.int (g i j))
 | _=>False
theorem cv2{f:Value}{g:Int->Int->Int}(h:gE X f (λxs H Q=>∃i j,xs=[.int i,.int j]/\Q (.int (g i j)) H)):gP X f (ii g):=gP.of h λvs H Q zz=>by
 obtain⟨B,F,σ,δ,ts,ds,Qd,c,s,q,k⟩:=zz
 unfold ii at q
 split at q
 ·obtain⟨v,v',rfl,s1,s2⟩:=cy8 s
  cases s1;cases s2
  exact⟨_,_,rfl,k _ _ _ q (ae.refl _) (c.pushS (.int .nil) rfl)⟩
 ·exact q.elim
theorem cy7(hc:X.calm=true):gP X (.builtin "min") (ii λi j=>if j<i then j else i):=cv2 (Xn hc)
noncomputable def pj(bs:List Bool):List D:=bs.map D.bl
theorem Gf:∀{bs:List Bool} {ws:List V},S F H (pj bs) ws->ws=bs.map V.bl
 | [],_,s=>by cases s;rfl
 | b::bs,_,s=>by
  cases s with
  | bl s=>rw[Gf s];rfl
noncomputable def rK:jO:=λds Q=>match ds with
 | [.lst _ xs]=>∃bs,xs=pj bs/\Q (.bl (bs.all id))
 | _=>False
noncomputable def rL:jO:=λds Q=>match ds with
 | [.lst _ xs]=>∃bs,xs=pj bs/\Q (.bl (bs.any id))
 | _=>False
theorem Cb(hc:X.calm=true):gP X (.builtin "all") rK:=gP.of (Zq hc) λvs H Q zz=>by
 obtain⟨B,F,σ,δ,ts,ds,Qd,c,s,q,k⟩:=zz
 unfold rK at q
 split at q
 ·obtain⟨v,rfl,s1⟩:=kX s
  obtain⟨bs,rfl,q⟩:=q
  obtain⟨p,ws,rfl,h,t⟩:=nu s1 c.ext rfl
  rw[Gf t]at h
  exact⟨p,bs,rfl,mi h,k _ _ _ q (ae.refl _) (c.pushS (.bl .nil) rfl)⟩
 ·exact q.elim
theorem cz3(hc:X.calm=true):gP X (.builtin "any") rL:=gP.of (Zr hc) λvs H Q zz=>by
 obtain⟨B,F,σ,δ,ts,ds,Qd,c,s,q,k⟩:=zz
 unfold rL at q
 split at q
 ·obtain⟨v,rfl,s1⟩:=kX s
  obtain⟨bs,rfl,q⟩:=q
  obtain⟨p,ws,rfl,h,t⟩:=nu s1 c.ext rfl
  rw[Gf t]at h
  exact⟨p,bs,rfl,mi h,k _ _ _ q (ae.refl _) (c.pushS (.bl .nil) rfl)⟩
 ·exact q.elim
noncomputable def Cc:D->Option String
 | .int _=>some "int"
 | .bl _=>some "bool"
 | .aq=>some "NoneType"
 | .str _=>some "str"
 | .lst _ _=>some "list"
 | .fz _=>some "list"
 | .tup _=>some "tuple"
 | _=>none
noncomputable def Gg(k n:String):Option Bool:=([("int","int",true),("int","bool",false),("int","list",false),("int","tuple",false),("int","str",false),("bool","int",true),("bool","bool",true),("bool","list",false),("bool","tuple",false),("bool","str",false),
 ("NoneType","int",false),("NoneType","bool",false),("NoneType","list",false),("NoneType","tuple",false),("NoneType","str",false),("str","int",false),("str","bool",false),("str","list",false),("str","tuple",false),("str","str",true),
 ("list","int",false),("list","bool",false),("list","list",true),("list","tuple",false),("list","str",false),("tuple","int",false),("tuple","bool",false),("tuple","list",false),("tuple","tuple",true),("tuple","str",false)].find? λz=>z.1==k&&z.2.1==n).map (·.2.2)
noncomputable def mj(n:String)(d:D):Option Bool:=(Cc d).bind λk=>Gg k n
theorem cm2{K:PySem.W.Frag}{k n:String}{r:Bool}(h:Gg k n=some r):PySem.W.kitOne K (.type k) (.type n)=some r:=by
 unfold Gg at h
 obtain⟨z,hz,rfl⟩:=Ez.mp h
 have hm:=Lw hz
 have hp:=List.find?_some hz
 rw[dP,beq_iff_eq,beq_iff_eq]at hp
 obtain⟨rfl,rfl⟩:=hp
 simp only[cq,jC,or_false]at hm
 repeat' (rcases hm with hm | hm)
 all_goals rfl
theorem nD{K:PySem.W.Frag}{d:D}(s:S F H [d] [v])(e:ae F H){k:String}(h:Cc d=some k):hJ K H v (.type k):=by
 cases s with
 | int _=>cases h;exact .int _
 | bl _=>cases h;exact .bl _
 | aq _=>cases h;exact .aq
 | str _=>cases h;exact .str _
 | shr h' _ _=>cases h;exact .lst (e _ _ h')
 | own h' _ _=>cases h;exact .lst h'
 | fz h' _ _=>cases h;exact .bC (e _ _ h')
 | tup h' _ _=>cases h;exact .tup h'
 | obj _ _ _ _=>cases h
 | bx _ _=>cases h
theorem cx4{K:PySem.W.Frag}{d:D}(s:S F H [d] [v])(e:ae F H){n:String}{r:Bool}(h:mj n d=some r):∃t,hJ K H v t/\PySem.W.kitOne K t (.type n)=some r:=by
 unfold mj at h
 cases hk:Cc d with
 | none=>rw[hk]at h;cases h
 | some k=>rw[hk]at h;exact⟨_,nD s e hk,cm2 h⟩
noncomputable def u4(n:String)(t:aI):aI:=λδ Q=>t δ λd ag=>∃r,mj n d=some r/\Q (.bl r) ag
theorem Oe{n:String}{y:Str}{q:Pos}(hg:Gl X "isinstance")(hm:X.mg "isinstance"=none)(yr:Gl X y)(pk:X.mg y=none)(rM:bootBuiltins y=some (.type n))(ha:PE X a (lB ta))
  (hn:y≠"__name__":=by decide) (hd:(y==("__debug__":Str))=false:=by decide)
  (hs:starEach [a,.Name y q] X.env=(false,eval a X.env)::starEach [.Name y q] X.env:=by rfl) (eD:starEach [.Name y q] X.env=(false,eval (.Name y q) X.env)::starEach [] X.env:=by rfl) (bj:(backTo pos (starEach [.Name y q] X.env)).any (·.1)=false:=by rfl) :
  PE X (.Call (.Name "isinstance" p) [a,.Name y q] [] pos) (lE (u4 n ta)) :=
 da (BF Zg hg hm Nk (cE ha (cE (Nr yr pk rM hn hd) fo eD) hs) (by decide) (by decide) hs bj) λσ H Q zq=>by
 obtain⟨B,F,δ,ts,Qd,c,q,k⟩:=zq
 exact⟨B,F,δ,ts,_,c,q,λd aj v F1 H1 q1 f1 h1 c1 s1=>by
  obtain⟨r,e,qr⟩:=q1
  obtain⟨t,h2,h3⟩:=cx4 (K:=X.K) s1 c1.ext e
  exact⟨v,n,t,r,rfl,h2,h3,k _ aj _ F1 H1 qr f1 h1 (c1.pushS (.bl .nil) rfl)⟩⟩
theorem Gh{xs:List D}{ws:List V}{i:Int}{d:D}(s:S F H xs ws)(h:eQ xs i=some d):∃v,eQ ws i=some v/\S F H [d] [v]:=by
 unfold eQ at h ⊢
 rw[<-s.length]
 cases e:gL xs.length i with
 | none=>rw[e]at h;cases h
 | some j =>
  rw[e]at h
  exact s.get h
noncomputable def rN(x y:D)(Q:D->Prop):Prop:=match x,y with
 | .lst _ xs,.int i=>∃d,eQ xs i=some d/\Q d
 | .fz xs,.int i=>∃d,eQ xs i=some d/\Q d
 | .tup xs,.int i=>∃d,eQ xs i=some d/\Q d
 | .str z,.int i=>z.length<=sizeLine/\∃ch,eQ z.cps.toList i=some ch/\Q (.str ⟨#[ch]⟩)
 | _,_=>False
noncomputable def u5(ta tb:aI):aI:=λδ Q=>ta δ λx aj=>tb aj λy aK=>rN x y λd=>Q d aK
theorem bG(ha:PE X a (lB ta))(hb:PE X b (lB tb))(hs:MH b):PE X (.Subscript a b pos) (lB (u5 ta tb)) :=
 da (BG Yc ha hb hs) λσ H Q zq=>by
 obtain⟨B,F,δ,ts,Qd,c,q,k⟩:=zq
 exact⟨B,F,δ,ts,_,c,q,λx aj v F1 H1 q1 f1 h1 c1 s1=>⟨B,F1,aj,ts,_,c1,q1,λy aK w F2 H2 q2 f2 h2 c2 s2=>by
  have nE:=s1.mono f2 h2
  have fin:∀d z,Qd d aK->S F2 H2 [d] [z]->Q z H2:=λd z hd s=>k d aK z F2 H2 hd (f1.trans f2) (h1.trans h2) c2 s
  unfold rN at q2
  split at q2
  ·obtain⟨d,ed,qd⟩:=q2
   cases s2
   obtain⟨p,ws,rfl,h,t⟩:=nu nE c2.ext rfl
   obtain⟨z,ez,sz⟩:=Gh t ed
   exact .inl ⟨p,ws,_,z,rfl,rfl,mi h,ez,fin d z qd sz⟩
  ·obtain⟨d,ed,qd⟩:=q2
   cases s2
   obtain⟨p,ws,rfl,h,t⟩:=nu nE c2.ext rfl
   obtain⟨z,ez,sz⟩:=Gh t ed
   exact .inl ⟨p,ws,_,z,rfl,rfl,mi h,ez,fin d z qd sz⟩
  ·obtain⟨d,ed,qd⟩:=q2
   cases s2
   obtain⟨p,ws,rfl,h,t⟩:=kU nE
   obtain⟨z,ez,sz⟩:=Gh t ed
   exact .inr (.inl ⟨p,ws,_,z,rfl,rfl,g9.of h,ez,fin d z qd sz⟩)
  ·obtain⟨hz,ch,ec,qc⟩:=q2
   cases nE
   cases s2
   exact .inr (.inr ⟨_,_,ch,rfl,rfl,hz,ec,fin _ _ qc (.str .nil)⟩)
  ·exact q2.elim⟩⟩
noncomputable abbrev u6:=Dl->(Option Int->Dl->Prop)->Prop
noncomputable def lP(t:u6):TO:=λσ H Q=>∃B F δ ts Qd,ai B F H σ δ ts/\t δ Qd/\∀o ag F' H',Qd o ag->ae F F'->ae H H'->ai B F' H' σ ag ts->Q o H'
theorem Of{oe:Option Expr}{u u':TO}(h:PO X oe u)(m:∀σ H Q,u' σ H Q->u σ H Q):PO X oe u':=λpins s σ H Q I q=>h pins s σ H Q I (m σ H Q q)
noncomputable def u7:u6:=λδ Q=>Q none δ
noncomputable def u9(t:aI):u6:=λδ Q=>t δ λd ag=>match d with
 | .int i=>Q (some i) ag
 | _=>False
theorem nF:PO X none (lP u7):=Of X0 λσ H Q ⟨B,F,δ,ts,Qd,c,q,k⟩=>k none δ F H q (ae.refl _) (ae.refl _) c
theorem nG(h:PE X e (lB t)):PO X (some e) (lP (u9 t)):=Of (X5 h) λσ H Q zq=>by
 obtain⟨B,F,δ,ts,Qd,c,q,k⟩:=zq
 exact⟨B,F,δ,ts,_,c,q,λd aj v F1 H1 q1 f1 h1 c1 s1=>by
 cases s1 with
 | int _=>exact⟨_,rfl,k _ aj F1 H1 q1 f1 h1 c1⟩
 | _=>exact q1.elim⟩
noncomputable def fg{α:Type}(xs:List α)(lo hi:Option Int):List α:=(xs.drop (HT.cV xs.length 0 lo)).take (HT.cV xs.length xs.length hi-HT.cV xs.length 0 lo)
theorem S.cut{xs:List D}{ws:List V}(s:S F H xs ws)(lo hi:Option Int):S F H (fg xs lo hi) (tR ws lo hi):=by
 unfold fg tR
 rw[<-s.length]
 exact(s.drop _).take _
theorem Og{xs:List D}{p:D->Bool}(h:xs.all p=true)(lo hi:Option Int):(fg xs lo hi).all p=true:=by
 rw[cX]at h ⊢
 intro x hx
 exact h x (qA (xk hx))
noncomputable def va(t:aI):aI:=λδ Q=>t δ λd ag=>match d with
 | .int i=>Q (.int (Mf.bl i.natAbs:Nat)) ag
 | _=>False
theorem nH(ho:PE X o (lB t))(kL:attributeBase o "bit_length" X.env (eval o X.env)=eval o X.env:=by rfl)(kM:(apos.endLine==bN.line)=true:=by rfl):PE X (.Call (.Attribute o "bit_length" apos) [] [] bN) (lE (va t)) :=
 da (Fu ho kL kM) λσ H Q zq=>by
 obtain⟨B,F,δ,ts,Qd,c,q,k⟩:=zq
 exact⟨B,F,δ,ts,_,c,q,λd aj v F1 H1 q1 f1 h1 c1 s1=>by
  cases s1 with
  | int _=>exact⟨rfl,_,rfl,rfl,k _ aj _ F1 H1 q1 f1 h1 (c1.pushS (.int .nil) rfl)⟩
  | _=>exact q1.elim⟩
end
end L3
namespace L3
open PySem L2 PySem.Spec PyProof.Rows
section
variable{X:Cx}{F H:Hp}{v w:V}{e a b c o tg:Expr}{es:List Expr}{pos p p2 apos bN pos':Pos}{t ta tb tc te ti:aI}{tr:bX}{x:Str}{i:Nat}
noncomputable def vd(i:Nat)(t:aI):bR:=λD δ=>(∃xs,δ[i]?=some (some (.lst true xs)))/\t δ λd ag=>∃xs,ag[i]?=some (some (.lst true xs))/\xs.length<sizeLine/\D.nx (ag.set i (some (.lst true (xs++[d]))))
theorem pq(hN:X.N[i]?=some x)(hv:iB X.env.scope x)(he:PE X e (lE t))(hd:(x==("__debug__":Str))=false:=by decide)(b9:(x==("__classdict__":Str))=false:=by decide)
  (kL:attributeBase (.Name x p) "append" X.env (eval (.Name x p) X.env)=eval (.Name x p) X.env:=by rfl)
  (xS:((backTo bN (starEach [e] X.env)).all (λx=>!x.1)&&(backToKw bN (keywordEach [] X.env)).all (λx=>x.1.isSome)
   && decide ([e].length+([]:List Keyword).length+(if([]:List Keyword).isEmpty then 0 else 1)<30))=true:=by rfl)
  (kM:(apos.endLine==bN.line)=true:=by rfl) (hs:starEach [e] X.env=(false,eval e X.env)::starEach [] X.env:=by rfl) (xT:(backTo bN (starEach [] X.env)).any (·.1)=false:=by rfl)
  (nI:swapsWith (.Call (.Attribute (.Name x p) "append" apos) [e] [] bN) none pos.line X.env=pure false:=by rfl) :
  PS X (.Expr (.Call (.Attribute (.Name x p) "append" apos) [e] [] bN) pos) (lS X (vd i t)) :=
 iG (Bp (MQ PySem.F.plainAttrs_list PySem.F.slot_list_append PySem.F.type_list_append MT (j5 hN hv hd b9) (cE he fo hs) kL xS kM hs xT) nI) λEn σ H zz=>by
  obtain⟨B,F,δ,Dd,c,⟨⟨ys,ey⟩,q⟩,k1,k2,k3,k4⟩:=zz
  obtain⟨p0,BS,g1,g2,g3⟩:=c.ownAt ey
  refine⟨.ref p0,g1,.inl ⟨rfl,_,bw.of g2⟩,B,F,δ,[],_,c,q,λd ag v F' H' hd sf sh c'=>?_⟩
  obtain⟨xs,ex,hl,hn⟩:=hd
  obtain⟨p1,ws,r1,r2,r3⟩:=c'.ownAt ex
  rw[g1]at r1;cases r1
  exact⟨p0,ws,v,rfl,rfl,r2,by omega,k1 _ _ F' _ hn (c'.app ex g1 r2)⟩
noncomputable def ve(i:Nat)(te ti:aI):bR:=λD δ=>te δ λd aj=>∃ys,aj[i]?=some (some (.lst true ys))/\kQ ti aj λk aK=>match k with
 | .int n=>∃xs j,aK[i]?=some (some (.lst true xs))/\gL xs.length n=some j/\D.nx (aK.set i (some (.lst true (xs.set j d))))
 | _=>False
theorem Cd(hN:X.N[i]?=some x)(hv:iB X.env.scope x)(he:PE X e (lE te))(hi:PE X b (lB ti))(hd:(x==("__debug__":Str))=false:=by decide)(b9:(x==("__classdict__":Str))=false:=by decide)
  (ha:∀v,assign (.Subscript (.Name x p) b pos') X.env v=(do
   let ov<-holding [v] (eval (.Name x p) X.env)
   let iv<-holding [v,ov] (eval b X.env)
   standAt pos'
   holding [v,ov,iv] (setItem ov iv v)
   release [v,ov,iv] []):=by intro _;rfl)
  (hs:swapsWithSole [.Subscript (.Name x p) b pos'] e pos.line X.env=pure false:=by rfl) (hw:swappedStores [.Subscript (.Name x p) b pos'] e X.env=pure none:=by rfl)
  (h1:(assignEach [.Subscript (.Name x p) b pos'] X.env).map (·.2)=[assign (.Subscript (.Name x p) b pos') X.env]:=by rfl) :
  PS X (.Assign [.Subscript (.Name x p) b pos'] e pos) (lS X (ve i te ti)) :=
 iG (xG he (xF (j5 hN hv hd b9) (cR hi) xR ha) hs hw h1) λEn σ H zq=>by
 obtain⟨B,F,δ,Dd,c,q,k1,k2,k3,k4⟩:=zq
 exact⟨B,F,δ,[],_,c,q,λd aj v F1 H1 hq f1 h1 c1=>by
  obtain⟨ys,ey,hq⟩:=hq
  obtain⟨p0,BS,g1,g2,g3⟩:=c1.ownAt ey
  refine⟨.ref p0,g1,B,F1,aj,[(d,v)],_,c1,hq,λkd aK kv F2 H2 hk f2 h2 c2=>?_⟩
  have st:=c2.top
  split at hk
  ·obtain⟨xs,j,ex,ej,hn⟩:=hk
   cases st
   have c3:=c2.pop
   obtain⟨p1,ws,r1,r2,r3⟩:=c3.ownAt ex
   rw[g1]at r1;cases r1
   exact⟨p0,ws,_,j,rfl,rfl,r2,by rw[<-r3];exact ej,k1 _ _ F2 _ hn (c3.NM ex g1 r2 j)⟩
  ·exact hk.elim⟩
end
end L3
namespace L3
open PySem L2 PySem.Spec PyProof.Rows
theorem cy{A:Around}{k:Nat}(hr:bL k A):A.units+6<cLine:=by have:=hr.un;omega
noncomputable def aF(ns:List Int):List D:=ns.map D.int
noncomputable def Gi(o:Obj):Bool:=match o.cls with
 | .type n=>n != "list"
 | _=>true
noncomputable def Oh:aZ:=λds Q=>∃ns:List Int,ds=[.fz (aF ns)]/\ns.length<=63/\Q (.bl true)
theorem kY{F H:Hp}:∀ns:List Int,R F H (aF ns) (ns.map V.int) []
 | []=>.nil
 | n::ns=>.int (kY ns)
theorem bB0{K:PySem.W.Frag}{a:Addr}{o:Obj}(h:K.lookup a=some o):(a,o)∈K:=by
 induction K with
 | nil=>cases h
 | cons p K ih =>
  obtain⟨b,u⟩:=p
  rw[gC]at h
  split at h
  ·rename_i z
   have:a=b:=by simpa using z
   cases h;subst this;simp
  ·exact gB _ (ih h)
end L3
namespace L3
open PySem L2 PySem.Spec PyProof.Rows
section
variable{B:Bs}{F H:Hp}{σ:L2.St}{δ:Dl}{ts ps:List (D × V)}{i k:Nat}{p q:Addr}{l1 l2 ys qW:List D}{ws iq:List V}
theorem ai.Gj(c:ai B F H σ δ (ps++ts))(e:δ[i]?=some (some (.lst true (l1++.lst true ys::l2))))(e2:σ[i]?=some (some (.ref p)))(hp:H p=some (.lst ws))(hq:ws[l1.length]?=some (.ref q))
  (kk:∀us A1 A2,H q=some (.lst us)->R F H ys us A1->R F H (ps.map (·.1)) (ps.map (·.2)) A2->(A1++A2).Nodup->∃A',R F H qW iq A'/\A'.Nodup/\∀a∈A',a∈A1++A2) :
  ai B F (upd H q (.lst iq)) σ (δ.set i (some (.lst true (l1++.lst true qW::l2)))) ts:=by
 have hi:i<δ.length:=(kE.mp e).1
 obtain⟨v,e3,c1⟩:=c.move e
 rw[e2]at e3;cases e3
 obtain⟨A,C,r,s,nd,fr⟩:=c1.own
 have r':R F H ([.lst true (l1++.lst true ys::l2)]++(ps.map (·.1)++ts.map (·.1))) ([.ref p]++(ps.map (·.2)++ts.map (·.2))) A:=by simpa using r
 obtain⟨v1,v2,A1,A2,e4,rfl,h1,h2⟩:=R.split r'
 have l1':v1.length=1:=by rw[<-h1.length];rfl
 obtain⟨rfl,rfl⟩:=oH e4 (by simp[l1'])
 obtain⟨v3,v4,B1,B2,e5,rfl,h3,h4⟩:=R.split h2
 have l3:(ps.map (·.2)).length=v3.length:=by rw[<-h3.length];simp
 obtain⟨rfl,rfl⟩:=oH e5 l3
 obtain⟨p',BS,Ax,Bx,ep,hH,hF,hx,hr,rfl⟩:=h1.rv
 cases ep
 ·cases hr.jK.2
  rw[hp]at hH;cases hH
  obtain⟨w1,w2,X1,X2,e6,rfl,g1,g2⟩:=R.split hx
  obtain⟨wq,w3,X3,X4,rfl,rfl,g3,g4⟩:=R.cQ g2
  have lw:w1.length=l1.length:=g1.length.symm
  have hwq:wq=.ref q:=by
   rw[e6,<- lw,qo (bD _),EA]at hq
   simpa using hq
  subst hwq
  obtain⟨p',us,Y1,Y2,ep,Oi,Gk,hy,Gm,rfl⟩:=g3.rv
  cases ep
  ·cases Gm.jK.2
   simp only[fj]at *
   have ij:(p::(X1++(q::Y1++X4))++(B1++B2)++C).Nodup:=by simpa[cJ]using nd
   have eU:∀a∈p::(X1++(q::Y1++X4))++(B1++B2)++C,B.H0 a=none:=λa ha=>fr a (by simpa[cJ]using ha)
   have Ce:=ij
   simp only[jZ,cJ,iQ,dE,bA,cq,not_or]at Ce
   obtain⟨⟨p1,p2,p3,p4,p5,p6,p7⟩,x1,⟨⟨q1,q2,q3,q4,q5⟩,y1,⟨x4,⟨b1',⟨b2',cc,b2c⟩,Oj⟩,Ol⟩,Om⟩,Oo⟩:=Ce
   have ndk:(Y1++B1).Nodup:=dE.mpr ⟨y1,b1',λa ha=>(Om a ha).2.1⟩
   obtain⟨A',ra,FP,sub⟩:=kk us Y1 B1 Oi hy h3 ndk
   have vg:∀a∈A',a∈Y1\/a∈B1:=λa ha=>bA.mp (sub a ha)
   have but:fH [q] H (upd H q (.lst iq)):=⟨λa o z w _=>by rw[aL (by simpa using w)];exact z⟩
   have hl:gi [q] H:=λa ha=>by rw[dG.mp ha];exact⟨_,Oi⟩
   have kp:∀{ds:List D} {vs:List V} {A:List Addr},R F H ds vs A->q ∉ A->R F (upd H q (.lst iq)) ds vs A:=λr n=>r.keep (ae.refl F) but hl (λa ha=>(r.lists a ha).2) λa ha z=>n (by rw[<-dG.mp z];exact ha)
   have fq:B.H0 q=none:=eU q (by simp)
   have npq:p≠q:=p2
   have b1:ae B.H0 (upd H q (.lst iq)):=⟨λa o z n=>by
    rw[aL (λw=>by rw[w,fq]at z;cases z)]
    exact c1.b1.get a o z n,λa ps z=>by
    rw[aL (λw=>by rw[w,fq]at z;cases z)]
    exact c1.b1.tb a ps z⟩
   have ext:ae F (upd H q (.lst iq)):=⟨λa o z n=>by
    rw[aL (λw=>by rw[w,Gk]at z;cases z)]
    exact c1.ext.get a o z n,λa ps z=>by
    rw[aL (λw=>by rw[w,Gk]at z;cases z)]
    exact c1.ext.tb a ps z⟩
   have big:R F (upd H q (.lst iq)) [.lst true (l1++.lst true qW::l2)] [.ref p] (p::(X1++(q::(A'++X4)))):=by
    have yt:R F (upd H q (.lst iq)) (l1++.lst true qW::l2) (w1++.ref q::w3) (X1++(q::(A'++X4))) :=
     R.append (kp g1 λz=>(Oo q z).1 rfl) (R.own br Gk (kp ra λz=>(vg q z).elim q1 q3) (kp g4 q2))
    have:=R.own (F:=F) (H:=upd H q (.lst iq)) (p:=p) (by rw[aL npq,hp,e6]) hF yt .nil
    simpa using this
   have c2:ai B F (upd H q (.lst iq)) σ (δ.set i none) ((.lst true (l1++.lst true qW::l2),.ref p)::ts):=by
    refine⟨ext,b1,c1.b2,c1.b3,(p::(X1++(q::(A'++X4))))++B2,C,R.cons big (kp h4 q4),s.keep (ae.refl F) but hl (λa ha=>(s.lists a ha).2) (λa ha z=>?_),?_,?_⟩
    ·exact q5 (dG.mp z ▸ ha)
    ·simp only[jZ,cJ,iQ,dE,bA,cq,not_or]
     refine⟨⟨p1,p2,λz=>(vg _ z).elim p3 p5,p4,p6,p7⟩,x1,⟨⟨λz=>(vg _ z).elim q1 q3,q2,q4,q5⟩,FP,⟨x4,⟨b2',cc,b2c⟩,λa ha=>?_⟩,λa ha=>?_⟩,λa ha=>?_⟩
     ·obtain⟨z1,z2,z3⟩:=Ol a ha;exact⟨z2,z3⟩
     ·rcases vg a ha with z | z
      ·obtain⟨z1,z2,z3,z4⟩:=Om a z;exact⟨z1,z3,z4⟩
      ·refine⟨λw=>(Ol a w).1 z,(Oj a z).1,(Oj a z).2⟩
     ·obtain⟨z1,z2,z3,z4,z5,z6⟩:=Oo a ha
      exact⟨z1,λw=>(vg a w).elim z2 z4,z3,z5,z6⟩
    ·intro a ha
     simp only[jZ,cJ,cq,bA]at ha eU
     refine eU a ?_
     rcases ha with h | h | h | h | h | h | h
     ·exact .inl h
     ·exact .inr (.inl h)
     ·exact .inr (.inr (.inl h))
     ·exact(vg a h).elim (λz=>.inr (.inr (.inr (.inl z)))) λz=>.inr (.inr (.inr (.inr (.inr (.inl z)))))
     ·exact .inr (.inr (.inr (.inr (.inl h))))
     ·exact .inr (.inr (.inr (.inr (.inr (.inr (.inl h))))))
     ·exact .inr (.inr (.inr (.inr (.inr (.inr (.inr h))))))
   have c3:=c2.fill (i:=i) (by simp[hi]) e2
   rwa [qw]at c3
end
section
variable{X:Cx}{F H:Hp}{e b:Expr}{pos p pr apos bN rO:Pos}{t ti te:aI}{x y:Str}{i j:Nat}
end
end L3
namespace L3
open PySem L2 PySem.Spec PyProof.Rows
theorem yu(i:Int):(D.int i).pl=true:=rfl
theorem yv(i:Bool):(D.bl i).pl=true:=rfl
theorem yw(i:Str):(D.str i).pl=true:=rfl
theorem yx:D.aq.pl=true:=rfl
theorem yy(xs:List D):(D.fz xs).pl=true:=rfl
theorem yA(C:Addr)(ns:List Str)(xs:List D):(D.obj C ns xs).pl=true:=rfl
theorem yB(i:Int):(D.int i).fr=true:=rfl
theorem yC(i:Bool):(D.bl i).fr=true:=rfl
theorem yD(i:Str):(D.str i).fr=true:=rfl
theorem yE:D.aq.fr=true:=rfl
theorem nJ(i:Int):(D.int i).sh=.int i:=rfl
theorem yF(i:Bool):(D.bl i).sh=.bl i:=rfl
theorem yG(i:Str):(D.str i).sh=.str i:=rfl
theorem yH:D.aq.sh=.aq:=rfl
theorem yI(xs:List D):(D.fz xs).sh=.fz xs:=rfl
theorem yJ(C:Addr)(ns:List Str)(xs:List D):(D.obj C ns xs).sh=.obj C ns xs:=rfl
theorem yK{α:Type}(n:Nat)(x:α):(bg n [x]).flatten=bg n x:=by
 induction n with
 | zero=>rfl
 | succ n ih=>rw[qq,sX,ih];rfl
theorem nK(ns:List Int):(aF ns).length=ns.length:=by simp[aF]
theorem pz(ns:List Int):(aF ns).all D.pl=true:=by simp[aF,D.pl]
theorem rP(ns:List Int):(aF ns).all D.fr=true:=by simp[aF,D.fr]
theorem jq(ns:List Int):(aF ns).map D.sh=aF ns:=by simp[aF,D.sh]
theorem rQ(a b:List Int):aF a++aF b=aF (a++b):=by simp[aF]
theorem yL(n:Nat)(i:Int):bg n (D.int i)=aF (bg n i):=by simp[aF]
theorem mm(n:Nat)(i:Int):dF n (.int i)=true:=by cases n<;>rfl
theorem yM(n:Nat)(i:Str):dF n (.str i)=true:=by cases n<;>rfl
theorem kh(i j:Int):bF (.int i) (.int j)=decide (i=j):=by
 show(i==j)=_
 rw[Bool.beq_eq_decide_eq]
theorem Oq:∀(a b:List Int),bF.fV (aF a) (aF b)=decide (a=b)
 | [],[]=>rfl
 | [],_::_=>by simp[aF,bF.fV]
 | _::_,[]=>by simp[aF,bF.fV]
 | x::xs,y::ys=>by
  show(bF (.int x) (.int y)&&bF.fV (aF xs) (aF ys))=_
  rw[Oq xs ys,kh,s8];simp
theorem vh(o o':Bool)(a b:List Int):bF (.lst o (aF a)) (.lst o' (aF b))=decide (a=b):=Oq a b
theorem b08{ns:List Int}{k:Nat}(h:k<ns.length):(aF ns)[k]?=some (.int ns[k]):=by simp[aF,h]
theorem mn{ns:List Int}{k:Int}(h0:0<=k)(h:k<ns.length):eQ (aF ns) k=some (.int (ns.getD k.toNat 0)):=by
 unfold eQ gL
 rw[if_pos h0,nK,if_pos h]
 show(aF ns)[k.toNat]?=_
 have hk:k.toNat<ns.length:=by omega
 rw[b08 hk,aW,bc hk];rfl
theorem vi(ns:List Int)(lo hi:Option Int):fg (aF ns) lo hi=aF (fg ns lo hi):=by simp[fg,aF,Lx,Ly]
theorem yN(i:Int):mj "int" (.int i)=some true:=by rfl
theorem yO(i:Int):mj "bool" (.int i)=some false:=by rfl
theorem yP(i:Int):mj "list" (.int i)=some false:=by rfl
theorem yQ(o:Bool)(xs:List D):mj "list" (.lst o xs)=some true:=by rfl
theorem yR:mj "int" .aq=some false:=by rfl
theorem yS(x:Str):mj "str" (.str x)=some true:=by rfl
theorem yT(xs:List D):mj "tuple" (.tup xs)=some true:=by rfl
theorem sL:sizeLine=16777216:=rfl
theorem yU{p:Prop}[Decidable p]:(decide p=true)=p:=by simp
theorem cf1{α:Type}(xs:List α)(a b:Nat):fg xs (some (a:Int)) (some (b:Int))=(xs.drop a).take (b-a):=by
 unfold fg
 rw[HT.E9,HT.E9]
 by_cases h:a<=xs.length
 ·rw[Nat.min_eq_left h]
  apply Lz
  intro i
  rw[VI,VI,LA]
  by_cases hi:i<b-a
  ·rw[if_pos hi]
   by_cases hb:a+i<xs.length
   ·rw[if_pos (by omega)]
   ·rw[iy (by omega)];simp
  ·rw[if_neg hi,if_neg (by omega)]
 ·rw[Nat.min_eq_right (show xs.length<=a by omega),LB (bD _),LB (show xs.length<=a by omega)];simp
end L3
namespace L2
open PySem PySem.Spec PyProof.Rows
section
variable{X:Cx}{e:Expr}{te:TE}{lo hi:Option Expr}{st:Expr}{tl th ts:TO}{pos p2:Pos}
end
end L2
namespace L3
open PySem L2 PySem.Spec PyProof.Rows
section
variable{X:Cx}{F H:Hp}{e:Expr}{t:aI}{lo hi:Option Expr}{st:Expr}{tl th td:u6}{pos p2:Pos}
theorem Ot:∀{a:List Int} {ws:List V},S F H (aF a) ws->ws=a.map V.int
 | [],_,s=>by cases s;rfl
 | b::bs,_,s=>by
  cases s with
  | int s=>rw[Ot s];rfl
noncomputable def Gp:Expr->Option Int
 | .Constant (.int i) _ _=>some i
 | _=>none
noncomputable def Cf:List Expr->Option (List Int)
 | []=>some []
 | e::es=>(Gp e).bind λi=>(Cf es).map (i :: ·)
theorem bY4{e:Expr}{i:Int}(h:Gp e=some i):∃a b,e=.Constant (.int i) a b:=by
 cases e with
 | Constant c a b =>
  cases c with
  | int j=>cases h;exact⟨_,_,rfl⟩
  | _=>cases h
 | _=>cases h
noncomputable def cz6(ns:List Int):bX:=λδ Q=>Q (aF ns) δ
theorem Ou:∀(es:List Expr) (ns:List Int),Cf es=some ns->PA X es (lO (cz6 ns))
 | [],ns,h=>by cases h;exact du
 | e::es,ns,h=>by
  obtain⟨i,hi,h2⟩:=Option.bind_eq_some_iff.mp (show(Gp e).bind (λi=>(Cf es).map (i :: ·))=some ns from h)
  obtain⟨ms,hm,rfl⟩:=Ez.mp h2
  obtain⟨a,b,rfl⟩:=bY4 hi
  exact yf (di (ao (i:=i)) (Ou es ms hm)) λ_ _ _ q=>q
noncomputable def vj(ns:List Int):aI:=λδ Q=>ns.length<=sizeLine/\Q (.lst true (aF ns)) δ
theorem Ov{es:List Expr}{ns:List Int}(h:Cf es=some ns):PE X (.List es pos) (lE (vj ns)) :=
 da (fc (Ou es ns h)) λ_ _ _ zq=>by
 obtain⟨B,F,δ,ts,Qd,c,q,k⟩:=zq
 exact⟨B,F,δ,ts,Qd,c,by
  show(aF ns).length<=sizeLine/\_
  rw[nK];exact q,k⟩
theorem yV{n:Nat}{g:gO}{tb:bR}{En:q8}{δ:Dl}(Iv:Nat->Dl->Prop)(h0:Iv 0 δ)(ht:∀k ag,k<n->Iv k ag->g (.int k) ag λaK=>tb { En with nx:=Iv (k+1),ct:=Iv (k+1),bk:=En.nx } aK)
  (hf:∀ag,Iv n ag->En.nx ag):jh (xm (λ(k:Nat)=>D.int (0+(k:Int))) (bh (n:Int).toNat)) g tb En δ:=by
 rw[gY]
 refine jh.mk Iv h0 (λi d ag hd iv=>?_) λag iv=>hf ag (by simpa using iv)
 rw[cU]at hd
 obtain⟨k,hk,rfl⟩:=Ez.mp hd
 have hi:i<n:=by have:=(kE.mp hk).1;simpa using this
 rw[mO hi]at hk
 cases hk
 rw[LC]
 exact ht i ag hi iv
theorem lY{xs:List D}{k:Int}{d:D}(h0:0<=k)(h:xs[k.toNat]?=some d):eQ xs k=some d:=by
 unfold eQ gL
 have hk:k.toNat<xs.length:=(kE.mp h).1
 rw[if_pos h0,if_pos (by omega)]
 exact h
end
end L3
namespace L3
open PySem L2 PySem.Spec PyProof.Rows
noncomputable abbrev kZ:=List D->(D->Prop)->(Addr->Prop)->Prop
noncomputable def pB(sp:kZ):Sp:=λvs H Q E=>∃F ds Qd Ed,ae F H/\R F H ds vs []/\sp ds Qd Ed/\(∀d v F' H' A,Qd d->ae H H'->ae F F'->ae F' H'->(∀a ws,F' a=some (.lst ws)->F a=some (.lst ws)\/H a=none)->R F' H' [d] [v] A->A.Nodup->(∀a∈A,H a=none)->Q v H') /\
 ∀C H',Ed C->ae H H'->E (.ref C) none H'
section
variable{P:Program}{w:World}{K:PySem.W.Frag}{mg:Str->Option Value}{base:Heap}
theorem Gq{x qual:Str}{st:Stmt}{f:Addr}{fd:FuncData}{N ps:List Str}{k:Nat}{sp:kZ}(F:aY K x qual st f fd)(S:bf N ps (aP st))(len:∀ds Q E,sp ds Q E->ds.length=ps.length)
  (gK:∀(aG:Value) (A:Around) (outer:List Env) (s:Shared) (H:Hp) (E:XK),bL k (A.deeper (envOfC qual (aP st) s.heap.objs.size f aG)) ->
   ∃t:bR,PSs (hV (j8 P w) P w K mg base N qual (aP st) f aG A outer s H E) (hW st) (lS (hV (j8 P w) P w K mg base N qual (aP st) f aG A outer s H E) t) /\
    ∀ds Q Ex,sp ds Q Ex->t { nx:=λ_=>Q .aq,rt:=Q,xc:=λC _=>Ex C,xr:=λC _=>Ex C } (jL N ds)):aM P w K mg base (j8 P w) (k+1) f fd ps (pB sp):=by
 obtain⟨oc,od,kV,doc,pm,an,aG,ct,lW,rfl,lk,b9⟩:=F.ex
 refine E7 lk b9 S (λvs H Q E ⟨F,ds,Qd,Ed,e,r,h,_⟩=>by rw[<-r.length];exact len ds Qd Ed h) λA outer s H vs Q E hr zz=>?_
 obtain⟨F,ds,Qd,Ed,e,r,h,k,kx⟩:=zz
 obtain⟨t,ht,hq⟩:=gK aG A outer s H E hr
 have fin:∀d v ag ax F' H',Qd d->ai ⟨H,F⟩ F' H' ax ag [(d,v)]->Q v H':=λd v ag ax F' H' hd c=>by
  obtain⟨A,C,r',s',nd,fr⟩:=c.own
  exact k d v F' H' A hd c.b1 c.b2 c.ext c.b3 r' (dE.mp nd).1 λa ha=>fr a (df _ ha)
 have e1:L2.start N vs=vs.map some++bg (N.length-ds.length) none:=by unfold L2.start;rw[r.length]
 refine⟨_,ht,⟨H,F⟩,F,jL N ds,_,?_,hq ds Qd Ed h,λag ax F' H' hd c=>fin .aq .aq ag ax F' H' hd (c.pushS (.aq .nil) rfl),fin,λ_ _ _ _ z=>z.elim,λ_ _ _ _ z=>z.elim,λC ag pins ax F' H' s' a T hx c I tr pa pT=>?_,λC ag pins ax F' H' s' h' e vs hx c I hm=>?_⟩
 ·rw[e1]
  exact ai.start e r _
 ·exact ZA I rfl rfl rfl tr pa pT λh' T' g=>⟨a,T',.ref C,H',rfl,I.os,I.bare,g.un,g.aE,g.tX,g.a0,g.a1,g.t0,g.t1,kx C H' hx c.b1⟩
 ·exact ZC I rfl rfl rfl hm λh' T' g=>⟨e,T',.ref C,H',rfl,I.os,I.bare,g.un,g.aE,g.tX,g.a0,g.a1,g.t0,g.t1,kx C H' hx c.b1⟩
end
noncomputable abbrev Ow:=L2.St->Hp->VK->(Value->Hp->Prop)->Prop
noncomputable def PX(X:Cx)(e:Expr)(t:Ow):Prop:=∀(pins:List (Addr × Obj)) (s:Shared) (σ:L2.St) (H:Hp) (Q:VK) (Z:Value->Hp->Prop),Inv X pins σ H s ->
 (∀a T cls H' s',Inv X pins σ H' s'->ie s'.heap a T cls->Apart X pins H' a->Apart X pins H' T->Z cls H'->X.xe (.ref a) s')->t σ H Q Z->wpAny (model X.prog X.w) X.A (eval e X.env) (EP X pins σ Q) X.xe s
noncomputable abbrev Cg:=Dl->(D->Dl->Prop)->(Addr->Dl->Prop)->Prop
noncomputable def lX(t:Cg):Ow:=λσ H Q Z=>∃B F δ Qd Zd,ai B F H σ δ []/\t δ Qd Zd/\(∀d ag v F' H',Qd d ag->ae F F'->ae H H'->ai B F' H' σ ag [(d,v)]->Q v H')/\∀C ag F' H',Zd C ag->ae F F'->ae H H'->ai B F' H' σ ag []->Z (.ref C) H'
section
variable{X:Cx}{n:Nat}{f:Addr}{fd:FuncData}{ps:List Str}{sp:kZ}{x:Str}{p pos:Pos}{e:Expr}{es:List Expr}{t:bX}{tx:Cg}
theorem cx5{B:Bs}{F H:Hp}{σ:L2.St}{Dd:q8}{pins:List (Addr × Obj)}(xl:XL X B Dd):∀a T cls H' s',Inv X pins σ H' s'->ie s'.heap a T cls->Apart X pins H' a->Apart X pins H' T->(∃C ag F',cls=.ref C/\Dd.xc C ag/\ai B F' H' σ ag [])->X.xe (.ref a) s':=by
 rintro a T cls H' s' I tr pa pT ⟨C,ag,F',rfl,hx,c⟩
 exact xl.1 C ag pins σ F' H' s' a T hx c I tr pa pT
noncomputable def vk(t:Cg):bR:=λD δ=>t δ (λ_ ag=>D.nx ag) D.xc
theorem ci0(he:PX X e (lX tx))(hs:swapsWith e none pos.line X.env=pure false:=by rfl):PS X (.Expr e pos) (lS X (vk tx)):=by
 intro pins s σ H D I zz
 obtain⟨B,F,δ,Dd,c,q,k1,k2,k3,k4,xl⟩:=zz
 refine wpAny_Expr_any (aO (he pins s σ H (λ_ H1=>D.nx σ H1) (λcls H'=>∃C ag F',cls=.ref C/\Dd.xc C ag/\ai B F' H' σ ag []) I (cx5 (H:=H) (F:=F) xl) ⟨B,F,δ,_,_,c,q,λd ag v F' H' hd _ _ c'=>k1 ag σ F' H' hd c'.pop,λC ag F' H' hC _ _ c'=>⟨C,ag,F',rfl,hC,c'⟩⟩) λv s1 ⟨x,H1,I1,r1,q1⟩=>⟨σ,H1,I1,q1⟩) I.quiet hs
noncomputable def vm(t:bR):bR:=λD δ=>t { D with xc:=λ_ _=>False,xr:=λ_ _=>False } δ
theorem cw6{st:Stmt}{u:bR}(h:PS X.fZ st (lS X.fZ u)):PS X st (lS X (vm u)):=by
 intro pins s σ H D I zz
 obtain⟨B,F,δ,Dd,c,q,k1,k2,k3,k4,xl⟩:=zz
 exact wpAny_mono (h pins s σ H D (I.j6 _) ⟨B,F,δ,_,c,q,k1,k2,k3,k4,XL.none (λ_ _ z=>z) λ_ _ z=>z⟩) (λ_ _ q=>q.lU) λ_ _ z=>eW z
noncomputable def vn(C:Addr)(t:bX):bR:=λD δ=>t δ λds ag=>ds.length<=9/\D.xr C ag
structure Ci(K:PySem.W.Frag)(mg:Str->Option Value)(x:Str)(C:Addr):Prop where
 own:∀h:Heap,K.In h->h.Ns mainGlobals mg->∃newId Bn Ox Oy B Oz OA Cj,OwnCls x C Cj newId mg h/\ExcBaseFacts Bn newId Ox Oy/\Cj.contains (.type Bn)=true/\ExcBaseFacts B Oz OA Cj
theorem Ck{C:Addr}{np bN:Pos}(hm:Ci X.K X.mg x C)(hc:X.calm=true)(hg:Gl X x)(ha:PA X (e::es) (lA t))(cF:(x==("__debug__":Str))=false:=by decide)
  (he:starEach (e::es) X.env=(false,eval e X.env)::starEach es X.env:=by rfl) (bj:(backTo bN (starEach es X.env)).any (·.1)=false:=by rfl) :
  PS X (.Raise (some (.Call (.Name x np) (e::es) [] bN)) none pos) (lS X (vn C t)):=by
 intro pins s σ H D I zz
 obtain⟨B,F,δ,Dd,c,q,k1,k2,k3,k4,xl⟩:=zz
 obtain⟨newId,Bn,Ox,Oy,B',Oz,OA,Cj,O,Fn,hBn,FB⟩:=hm.own X.base I.ok.mod.lQ I.ok.mod.glob
 obtain⟨tl,N,nm,qn,bs,hdct,sn,sub,ab,col,dd,k0,rF,uY,k3',k5,mN,hC,hN,pE,T⟩:=O.obj
 refine wpAny_Raise_call_subU (k5:=k5) (k3:=k3') (k2:=uY) (k1:=rF) (k0:=k0) (dd:=dd) (col:=col) (ab:=ab) (sub:=sub) (sn:=sn) (hdct:=hdct) (bs:=bs) (N:=N) (q:=qn) (nm:=nm) (C:=C) Fn hBn FB (mN:=mN) (T.hasType FB.hasBase) (I.ok.hd hc) (by rw[he];show(false||(backTo bN (starEach es X.env)).any (·.1))=false;rw[bj];rfl) pE (qH I hg O.bound ⟨rfl,?_⟩ cF)
 have Cm:=ha bN pins s σ H (λvs H1=>vs.length<=9/\∃ag F',Dd.xr C ag/\ai B F' H1 σ ag []) I ⟨B,F,δ,[],_,c,q,λds aj vs F1 H1 q1 f1 h1 c1 s1=>⟨by rw[<-s1.length];exact q1.1,aj,F1,q1.2,c1⟩⟩
 rw[he]at Cm ⊢
 refine Calls.evalArgs_plain (wpAny_mono Cm (λus s2 h2=>?_) λ_ _ y=>y)
 obtain⟨vs,H1,I1,r,hl,ag,F',hx,c'⟩:=h2
 exact⟨rfl,by rw[<-r.length];exact eK hl (by decide),I1.bk _ _ hC,hN.keeps I1.bk,T.keeps I1.bk,λh' e' hm'=>xl.2 C ag pins σ F' H1 s2 h' e' _ hx c' I1 hm'⟩
end
end L3
namespace L3
open PySem L2 PySem.Spec PyProof.Rows
section
variable{X:Cx}{pins tJ:List (Addr × Obj)}{σ:L2.St}{H:Hp}{s:Shared}{a:Addr}
noncomputable abbrev tr(X:Cx)(xe:Value->Shared->Prop)(pn:List (Addr × Obj)):Cx:={ X with xe:=xe,pn:=pn }
noncomputable abbrev vo(X:Cx)(A:Around)(xe:Value->Shared->Prop):Cx:={ X with A:=A,calm:=false,xe:=xe }
theorem cy1(ok:X.Ok)(xe:Value->Shared->Prop)(pn:List (Addr × Obj)):(tr X xe pn).Ok :=
 ⟨ok.mod,ok.kind,ok.glob,ok.blt,ok.above,ok.inj,ok.has,ok.mS,ok.hd,ok.frames,ok.qF,ok.qG,ok.bs,ok.iX,ok.oI,ok.oJ,ok.fY,ok.iY⟩
theorem ct2(I:Inv X pins σ H s)(xe:Value->Shared->Prop):Inv (tr X xe (X.pn++pins)) [] σ H s :=
 ⟨cy1 I.ok _ _,I.os,I.bare,I.base,I.loc,I.cell,I.free,I.fO,λp hp=>I.pin p (by simpa using hp),I.aE,I.len⟩
theorem yW{xe:Value->Shared->Prop}(ok:X.Ok)(I:Inv (tr X xe (X.pn++pins)) tJ σ H s):Inv X pins σ H s :=
 ⟨ok,I.os,I.bare,I.base,I.loc,I.cell,I.free,I.fO,λp hp=>I.pin p (df _ hp),I.aE,I.len⟩
theorem OB{xe:Value->Shared->Prop}(p:Apart (tr X xe (X.pn++pins)) tJ H a):Apart X pins H a:=⟨p.old,p.free,p.loc,p.cell,λq hq=>p.pin q (df _ hq),p.fr⟩
theorem ct3(ok:X.Ok){A:Around}(hA:A.frames=X.A.frames)(xe:Value->Shared->Prop):(vo X A xe).Ok :=
 ⟨ok.mod,ok.kind,ok.glob,ok.blt,ok.above,ok.inj,ok.has,ok.mS,(λh=>Bool.noConfusion h),hA.trans ok.frames,ok.qF,ok.qG,ok.bs,ok.iX,ok.oI,ok.oJ,ok.fY,ok.iY⟩
theorem OC(I:Inv X pins σ H s){A:Around}(hA:A.frames=X.A.frames)(xe:Value->Shared->Prop):Inv (vo X A xe) pins σ H s :=
 ⟨ct3 I.ok hA xe,I.os,I.bare,I.base,I.loc,I.cell,I.free,I.fO,I.pin,I.aE,I.len⟩
theorem bO5{A:Around}{xe:Value->Shared->Prop}(ok:X.Ok)(I:Inv (vo X A xe) pins σ H s):Inv X pins σ H s:=⟨ok,I.os,I.bare,I.base,I.loc,I.cell,I.free,I.fO,I.pin,I.aE,I.len⟩
theorem bK4{φ:Heap->Prop}(I:Inv X pins σ H s)(pa:Apart X pins H a)(ho:∃o,s.heap.get? a=some o)(h1:φ s.heap)(h2:∀g g':Heap,φ g->(∀o,g.get? a=some o->g'.get? a=some o)->φ g'):Inv X pins σ (upd H a (.ext φ)) s:=by
 have ne:∀{b:Addr} {u:HO},H b=some u->b≠a:=λ{b u} q=>dH q pa.free
 refine⟨I.ok,I.os,I.bare,⟨I.base.keep,I.base.slot,λb o e n hx=>?_,I.base.there,λb xs e=>?_,λb o xs e=>?_,λb ps e=>?_⟩,I.loc,I.cell,?_,λx c e=>?_,λp hp=>?_,λb u e=>?_,I.len⟩
 ·rw[aL (λz=>by rw[z,pa.old]at e;cases e)];exact I.base.free b o e n hx
 ·have q:=I.base.iA b xs e;rw[aL (ne q)];exact q
 ·have q:=I.base.g8 b o xs e;rw[aL (ne q)];exact q
 ·obtain⟨m,q⟩:=I.base.gD b ps e;exact⟨m,by rw[aL (ne q)];exact q⟩
 ·rw[aL (dN pa.loc)];exact I.free
 ·rw[aL (pa.cell x c e)];exact I.fO x c e
 ·obtain⟨q1,q2,q3,q4,q5⟩:=I.pin p hp
  exact⟨q1,by rw[aL (pa.pin p hp)];exact q2,q3,q4,q5⟩
 ·by_cases hb:b=a
  ·subst hb;rw[br]at e;cases e;exact⟨h1,ho,λg g' p kk=>h2 g g' p λo q=>kk _ o (.inl rfl) q⟩
  ·rw[aL hb]at e
   exact(I.aE b u e).iW (λ_ _ _ q=>q) (λc q=>by rw[aL (ne q)];exact q) (λc xs q=>by rw[aL (ne q)];exact q) λc xs q=>by rw[aL (ne q)];exact q
end
theorem ai.unset{B:Bs}{F H:Hp}{σ:L2.St}{δ:Dl}{ts:List (D × V)}(c:ai B F H σ δ ts)(i:Nat):ai B F H (σ.set i none) (δ.set i none) ts:=by
 obtain⟨A,C,r,q,nd,fr⟩:=(c.forget i).own
 refine⟨c.ext,c.b1,c.b2,c.b3,A,C,r,q.ud none ?_,nd,fr⟩
 by_cases h:i<δ.length
 ·exact .inl (by rw[oA h])
 ·exact .inr (by rw[iy (by simpa using h)])
noncomputable abbrev exc(C:Addr):D:=.bx (.ext λa=>l8 a C)
theorem OD{h:Heap}{a T C:Addr}(t:ie h a T (.ref C)):l8 a C h:=by
 obtain⟨oe,vs,oT,ts,h1,h2,h3,h4,_⟩:=t
 exact⟨oe,h1,h2,by obtain⟨c,d,dt,sl⟩:=oe;cases h4;rfl,h3⟩
theorem bW6{a C:Addr}(g g':Heap)(h:l8 a C g)(k:∀o,g.get? a=some o->g'.get? a=some o):l8 a C g':=let⟨o,h1,r⟩:=h;⟨o,k o h1,r⟩
section
variable{X:Cx}{tb th:bR}{body Gr:List Stmt}{Gu:Stmt}{K n:Str}{Kc:Addr}{i:Nat}{kp OE pos:Pos}
noncomputable def vp(K:PySem.W.Frag)(c:Value)(i:Nat)(tb th:bR):bR:=λD δ=>tb { D with
 xc:=λC ag=>PySem.W.exmOne K (.ref C) c=some true/\th { nx:=λaK=>D.nx (aK.set i none),rt:=λ_=>False } (ag.set i (some (exc C)))
 xr:=λ_ _=>False } δ
theorem cy5(hb:∀xe pn,PSs (tr X xe pn) body (lS (tr X xe pn) tb))(hsu:∀A' xe,PSs (vo X A' xe) (Gu::Gr) (lS (vo X A' xe) th))(hg:Gl X K)(hm:X.mg K=some (.ref Kc))(hN:X.N.Nodup)(hi:X.N[i]?=some n)
  (hl:X.env.scope.names.lookup n=some .local) (hex:X.ex=[]) (bZ:X.stack=X.env::X.outer) (hf:X.env.frame=some X.env.locals) (cF:(K==("__debug__":Str))=false:=by decide) :
  PS X (.Try body [.ExceptHandler (some (.Name K kp)) (some n) (Gu::Gr) OE] [] [] pos) (lS X (vp X.K (.ref Kc) i tb th)):=by
 intro pins s σ H D I zz
 obtain⟨B,F,δ,Dd,c,q,k1,k2,k3,k4,xl⟩:=zz
 refine wpAny_Try_except (wpAny_mono (hb (λe s'=>∃a T C ax F' H' ag,e=.ref a/\Inv X pins ax H' s'/\ie s'.heap a T (.ref C)/\Apart X pins H' a/\Apart X pins H' T/\ai B F' H' ax ag []/\PySem.W.exmOne X.K (.ref C) (.ref Kc)=some true/\th { nx:=λaK=>Dd.nx (aK.set i none),rt:=λ_=>False } (ag.set i (some (exc C)))) (X.pn++pins) [] s σ H D (ct2 I _) ⟨B,F,δ,_,c,q,k1,k2,k3,k4,λC ag tJ ax F' H' s' a T hx c' I' FA pa pT=>⟨a,T,C,ax,F',H',ag,rfl,yW I.ok I',FA,OB pa,OB pT,c',hx⟩,λ_ _ _ _ _ _ _ _ _ _ z=>z.elim⟩) (λf s1 hS=>?_) λe s1 hx=>?_)
 ·cases f with
  | next=>obtain⟨ax,H',I',q'⟩:=hS;exact tL (X:=X) pins s1 ax H' D (yW I.ok I') q'
  | brk=>obtain⟨ax,H',I',q'⟩:=hS;exact⟨ax,H',yW I.ok I',q'⟩
  | cont=>obtain⟨ax,H',I',q'⟩:=hS;exact⟨ax,H',yW I.ok I',q'⟩
  | ret u=>obtain⟨v,ax,H',I',r',q'⟩:=hS;exact⟨v,ax,H',yW I.ok I',r',q'⟩
 ·obtain⟨a,T,C,ax,F',H',ag,rfl,I1,t1,pa,pT,c1,cO,hth⟩:=hx
  refine ZE I1 bZ hex hf t1 pa pT λh2 T2 I2 t2 pT2=>?_
  refine wpAny_handleBy_cons (codeAny_handlers_test (qH (X:=vo X (X.A.mark (some (.ref a))) X.xe) (OC (A:=X.A.mark (some (.ref a))) I2 rfl X.xe) hg hm ?_ cF)) (by intro z;cases z)
  have x2:=OD t2
  obtain⟨o2,e2,hc2,_⟩:=id x2
  have LT:PySem.W.Looks (model X.prog X.w) h2 (typeOf (.ref a)) (.ref C):=hc2 ▸ (PySem.W.Looks.ld e2).andThen .now
  refine(PySem.W.exm_one I2.cB LT cO).here ?_
  refine codeAny_handlers_suite_as (ZF I2 hex t2 pT2 λh3 I3 t3=>?_)
  have x3:=OD t3
  have I4:=bK4 (φ:=l8 a C) I3 pa (x3.imp λo z=>z.1) x3 (λg g' z k=>bW6 g g' z k)
  refine Bg I4 hN hi (.inl hl) (v:=.ref a) rfl (λs5 I5=>?_) (.inr hl)
  refine wpAny_mono (hsu _ _ pins s5 _ _ { nx:=λi6 H2=>D.nx (i6.set i none) H2,rt:=λ_ _=>False } (OC (A:=X.A.mark (some (.ref a))) I5 rfl _) ⟨B,F',ag.set i (some (exc C)),_,?_,hth,λaK i6 F2 H2 hn c2=>k1 _ _ F2 H2 hn (c2.unset i),λ_ _ _ _ _ _ z=>z.elim,λ_ _ _ _ z=>z.elim,λ_ _ _ _ z=>z.elim,XL.none (λ_ _ z=>z) λ_ _ z=>z⟩) (λf s6 hS=>?_) λ_ _ z=>z
  ·exact((c1.grow (ae.upd pa.free)).pushS (d:=exc C) (v:=.ref a) (.bx br .nil) rfl).store i
  ·cases f with
   | next =>
    obtain⟨Bz,H6,I6,q6⟩:=hS
    exact ZG (bO5 I.ok I6) hN hi hl λs7 I7=>⟨_,H6,I7,q6⟩
   | brk=>obtain⟨_,_,_,z⟩:=hS;exact z.elim
   | cont=>obtain⟨_,_,_,z⟩:=hS;exact z.elim
   | ret u=>obtain⟨_,_,_,_,_,z⟩:=hS;exact z.elim
end
end L3
namespace L3
open PySem L2 PySem.Spec PyProof.Rows
noncomputable def Gv:V->Option Value
 | .ref a=>some (.ref a)
 | .ty n=>some (.type n)
 | _=>none
theorem cg7{c:V}{u cv:Value}(h:Gv c=some cv)(r:RelV c u):u=cv:=by
 cases c<;>cases h<;>exact r
inductive Cn(K:PySem.W.Frag)(H:Hp):V->Value->Prop where
 | ty {v:V} {t:Value} (h:hJ K H v t):Cn K H v t
 | exc {a C:Addr} (e:H a=some (.ext (l8 a C))) (x:tY K C):Cn K H (.ref a) (.ref C)
noncomputable def cD6(K:PySem.W.Frag):List V->Hp->VK->Prop:=λxs H Q=>∃x c cv t b,xs=[x,c]/\Gv c=some cv/\Cn K H x t/\PySem.W.kitOne K t cv=some b/\Q (.bl b) H
section
variable{X:Cx}{F H:Hp}{v:V}{a:Expr}{ta:aI}{p pos:Pos}
theorem bS4:gE X (.builtin "isinstance") (cD6 X.K):=by
 intro pins s σ H xs us Q I r h
 obtain⟨x,c,cv,t,b,rfl,hv,ty,e,q⟩:=h
 obtain⟨u,v,rfl,ru,rv⟩:=r.two
 cases cg7 hv rv
 cases ty with
 | ty ty=>exact Mv I ru ty e λtk=>⟨.bl b,H,I.tok _,rfl,q⟩
 | @exc a C ea x =>
  cases(show u=cA a from ru)
  obtain⟨xa,_,_⟩:=(show dQ X.prog X.w H s.heap a (.ext (l8 a C)) from I.aE a _ ea)
  exact PySem.W.kia_one (ZQ x) I.cB xa e (λz=>nomatch z) λtk=>⟨.bl b,H,I.tok _,rfl,q⟩
noncomputable def Gw(K:PySem.W.Frag)(cv:Value)(d:D)(r:Bool):Prop:=match d with
 | .bx φ=>∃C,(φ=.ext λa=>l8 a C)/\tY K C/\PySem.W.kitOne K (.ref C) cv=some r
 | d=>∃k,Cc d=some k/\PySem.W.kitOne K (.type k) cv=some r
theorem cn9{K:PySem.W.Frag}{cv:Value}{d:D}{r:Bool}(s:S F H [d] [v])(e:ae F H)(h:Gw K cv d r):∃t,Cn K H v t/\PySem.W.kitOne K t cv=some r:=by
 cases s with
 | bx h' _=>obtain⟨C,rfl,x,k⟩:=h;exact⟨_,.exc h' x,k⟩
 | int z=>obtain⟨k,hk,h⟩:=h;exact⟨_,.ty (nD (.int .nil) e hk),h⟩
 | bl z=>obtain⟨k,hk,h⟩:=h;exact⟨_,.ty (nD (.bl .nil) e hk),h⟩
 | aq z=>obtain⟨k,hk,h⟩:=h;exact⟨_,.ty (nD (.aq .nil) e hk),h⟩
 | str z=>obtain⟨k,hk,h⟩:=h;exact⟨_,.ty (nD (.str .nil) e hk),h⟩
 | shr h' q z=>obtain⟨k,hk,h⟩:=h;exact⟨_,.ty (nD (.shr h' q .nil) e hk),h⟩
 | own h' q z=>obtain⟨k,hk,h⟩:=h;exact⟨_,.ty (nD (.own h' q .nil) e hk),h⟩
 | fz h' q z=>obtain⟨k,hk,h⟩:=h;exact⟨_,.ty (nD (.fz h' q .nil) e hk),h⟩
 | tup h' q z=>obtain⟨k,hk,h⟩:=h;exact⟨_,.ty (nD (.tup h' q .nil) e hk),h⟩
 | obj _ _ _ _=>obtain⟨k,hk,h⟩:=h;cases hk
noncomputable def pF(K:PySem.W.Frag)(cv:Value)(t:aI):aI:=λδ Q=>t δ λd ag=>∃r,Gw K cv d r/\Q (.bl r) ag
theorem OF{y:Str}{q:Pos}{c:V}{cv:Value}(hg:Gl X "isinstance")(hm:X.mg "isinstance"=none)(hc:PE X (.Name y q) (tC c))(hcv:Gv c=some cv)(ha:PE X a (lB ta))
  (hs:starEach [a,.Name y q] X.env=(false,eval a X.env)::starEach [.Name y q] X.env) (eD:starEach [.Name y q] X.env=(false,eval (.Name y q) X.env)::starEach [] X.env) (bj:(backTo pos (starEach [.Name y q] X.env)).any (·.1)=false) :
  PE X (.Call (.Name "isinstance" p) [a,.Name y q] [] pos) (lE (pF X.K cv ta)) :=
 da (BF bS4 hg hm Nk (cE ha (cE hc fo eD) hs) (by decide) (by decide) hs bj) λσ H Q zq=>by
 obtain⟨B,F,δ,ts,Qd,c,q,k⟩:=zq
 exact⟨B,F,δ,ts,_,c,q,λd aj v F1 H1 q1 f1 h1 c1 s1=>by
  obtain⟨r,e,qr⟩:=q1
  obtain⟨t,h2,h3⟩:=cn9 (K:=X.K) s1 c1.ext e
  exact⟨v,_,_,t,r,rfl,hcv,h2,h3,k _ aj _ F1 H1 qr f1 h1 (c1.pushS (.bl .nil) rfl)⟩⟩
theorem OG{y:Str}{q:Pos}{C:Addr}(hg:Gl X "isinstance")(hm:X.mg "isinstance"=none)(yr:Gl X y)(pk:X.mg y=some (.ref C))(ha:PE X a (lB ta))(hd:(y==("__debug__":Str))=false:=by decide)
  (hs:starEach [a,.Name y q] X.env=(false,eval a X.env)::starEach [.Name y q] X.env:=by rfl) (eD:starEach [.Name y q] X.env=(false,eval (.Name y q) X.env)::starEach [] X.env:=by rfl) (bj:(backTo pos (starEach [.Name y q] X.env)).any (·.1)=false:=by rfl) :
  PE X (.Call (.Name "isinstance" p) [a,.Name y q] [] pos) (lE (pF X.K (.ref C) ta)) :=
 OF hg hm (Wh (v:=.ref C) yr pk rfl hd) rfl ha hs eD bj
theorem co7{n:String}{y:Str}{q:Pos}(hg:Gl X "isinstance")(hm:X.mg "isinstance"=none)(yr:Gl X y)(pk:X.mg y=none)(rM:bootBuiltins y=some (.type n))(ha:PE X a (lB ta))
  (hn:y≠"__name__":=by decide) (hd:(y==("__debug__":Str))=false:=by decide)
  (hs:starEach [a,.Name y q] X.env=(false,eval a X.env)::starEach [.Name y q] X.env:=by rfl) (eD:starEach [.Name y q] X.env=(false,eval (.Name y q) X.env)::starEach [] X.env:=by rfl) (bj:(backTo pos (starEach [.Name y q] X.env)).any (·.1)=false:=by rfl) :
  PE X (.Call (.Name "isinstance" p) [a,.Name y q] [] pos) (lE (pF X.K (.type n) ta)) :=
 OF hg hm (Nr yr pk rM hn hd) rfl ha hs eD bj
end
section
variable{K:PySem.W.Frag}{mg:Str->Option Value}{x:Str}{C:Addr}
theorem OH(hm:mg x=some (.ref C))(q:PySem.W.excIn K C [.type "ValueError",.type "Exception",.type "BaseException",.type "object"] "ValueError.__new__"=true):Ci K mg x C:=by
 refine⟨λh X G=>⟨"ValueError.__new__","ValueError",_,_,"ValueError",_,_,[.type "ValueError",.type "Exception",.type "BaseException",.type "object"],?_,PySem.F.excBase_ValueError,rfl,PySem.F.excBase_ValueError⟩⟩
 refine⟨hm,?_⟩
 unfold PySem.W.excIn at q
 split at q
 ·rename_i dd cd sl ho
  split at q
  ·rename_i C' bm k0 k1 k2 k3 n k5 hm hs
   simp only[dP,beq_iff_eq,Bool.not_eq_true']at q
   obtain⟨⟨⟨⟨⟨rfl,rfl⟩,OI⟩,ht⟩,aE⟩,pE⟩:=q
   obtain⟨nm,bs,mro,ns,qn,hd,sn,sub,ab,col,del⟩:=cd
   dsimp only at hm OI aE pE
   subst hm OI
   have Gx:sl=#[k0,k1,k2,k3,some (.builtin "ValueError.__new__"),k5]:=by
    obtain⟨l⟩:=sl
    simp only at hs
    rw[hs]
   subst Gx
   exact⟨bm,ns,nm,qn,bs,hd,sn,sub,ab,col,dd,k0,k1,k2,k3,k5,_,X _ _ ho,.of_isNs (PySem.W.isNs_of_in X aE),PySem.W.nsMap_none_of_in X aE pE,PySem.W.tail_of_in X ht⟩
  ·cases q
 ·cases q
open PySem.W in
theorem vq{t:Value}{b:Bool}(jI:(t==.ref C)=false)(h1:(clsIn K C).isSome=true)(h2:typeIn K (.ref C)=some (.type "type"))(h3:subIn K t (.ref C)=some b):kitOne K t (.ref C)=some b:=by
 unfold kitOne kitCls
 rw[jI]
 simp only[qv,if_false]
 rw[h1,h2,if_pos (by rfl),h3]
open PySem.W in
theorem OJ{t:Value}{n:String}{b:Bool}(jI:(t==.type n)=false)(h1:kitMeta n=true)(h3:subIn K t (.type n)=some b):kitOne K t (.type n)=some b:=by
 unfold kitOne kitCls
 rw[jI]
 simp only[qv,if_false]
 rw[if_pos h1,h3]
open PySem.W in
theorem OK{t:Value}{b:Bool}(h1:(clsIn K C).isSome=true)(h2:typeIn K (.ref C)=some (.type "type"))(h0:subIn K (.ref C) (.type "BaseException")=some true)(h3:subIn K t (.ref C)=some b):exmOne K t (.ref C)=some b:=by
 unfold exmOne kitCls
 rw[h0,if_pos (by rfl)]
 simp only
 rw[h1,h2,if_pos (by rfl),h3]
end
theorem Gz{P:Program}{w:World}{X:Cx}:i8 (j8 P w) X E0:=by
 rintro _ _ _ _ _ _ _ ⟨_,_,_,_,_,_,_,_,_,_,_,_,_,_,z⟩
 exact z.elim
theorem GA{P:Program}{w:World}{K:PySem.W.Frag}{mg:Str->Option Value}{base:Heap}{k:Nat}{f:Addr}{fd:FuncData}{ps:List Str}{sp:kZ}(h:aM P w K mg base (j8 P w) k f fd ps (pB sp)) :
  aM P w K mg base (j8 P w) k f fd ps (bo λds Q=>sp ds Q λ_=>False) :=
 h.imp λvs H Q E zq=>by
 obtain⟨F,ds,Qd,e,r,q,k⟩:=zq
 exact⟨F,ds,Qd,_,e,r,q,k,λ_ _ z=>z.elim⟩
end L3
namespace L3
open PySem L2 PySem.Spec PyProof.Rows
theorem mq{CX:dR}{P:Program}{w:World}{K:PySem.W.Frag}{mg:Str->Option Value}{base:Heap}{N:List Str}{q:Str}{sc:Scope}{f:Addr}{aG:Value}{A:Around}{outer:List Env}{s:Shared}{H:Hp}{E:XK}:(hV CX P w K mg base N q sc f aG A outer s H E).K=K:=rfl
theorem GB{K:PySem.W.Frag}{cv:Value}{C:Addr}{r:Bool}(x:tY K C)(h:PySem.W.kitOne K (.ref C) cv=some r):Gw K cv (exc C) r:=⟨C,rfl,x,h⟩
theorem yX(φ:t9):(D.bx φ).pl=true:=rfl
theorem yY(φ:t9):(D.bx φ).sh=.bx φ:=rfl
end L3
namespace L3
open PySem L2 PySem.Spec PyProof.Rows
theorem mr{X:Cx}:X.fZ.K=X.K:=rfl
end L3
namespace L3
open PySem L2 PySem.Spec PyProof.Rows
noncomputable def gr(xs ys:List D):List D:=eX (λx y=>D.tup [x,y]) xs ys
noncomputable def gQ(xs:List D):List D:=xs.mapIdx λi x=>D.tup [.int i,x]
theorem OL(xs ys:List D):(gr xs ys).map D.sh=gr (xs.map D.sh) (ys.map D.sh):=by
 unfold gr
 rw[EB,List.zipWith_map]
 congr 1
theorem ch2{xs ys:List D}(h1:xs.all D.pl=true)(h2:ys.all D.pl=true):(gr xs ys).all D.pl=true:=by
 unfold gr
 rw[cX]at h1 h2 ⊢
 intro d hd
 obtain⟨i,hi,e⟩:=lK hd
 rw[List.getElem_zipWith]at e
 subst e
 rw[kP]
 simp only[dh,tf,mP,dP]
 exact⟨h1 _ (eN _),h2 _ (eN _)⟩
theorem bX9(xs:List D):(gQ xs).map D.sh=gQ (xs.map D.sh):=by
 unfold gQ
 apply Lz
 intro i
 simp only[cU,EC,Option.map_map]
 cases xs[i]? with
 | none=>rfl
 | some x =>
  show some (D.sh (.tup [.int i,x]))=some (D.tup [.int i,x.sh])
  rw[l9];rfl
theorem b03{xs:List D}(h1:xs.all D.pl=true):(gQ xs).all D.pl=true:=by
 unfold gQ
 rw[cX]at h1 ⊢
 intro d hd
 obtain⟨i,hi,e⟩:=lK hd
 rw[List.getElem_mapIdx]at e
 subst e
 rw[kP]
 simp only[dh,tf,mP,dP]
 exact⟨rfl,h1 _ (eN _)⟩
theorem vt(xs:List D):(gQ xs).length=xs.length:=by simp[gQ]
theorem GC(xs ys:List D):(gr xs ys).length=min xs.length ys.length:=by simp[gr]
section
variable{F H:Hp}{d:D}{v:V}{xs ys:List D}{ws us:List V}{p q:Addr}{K:PySem.W.Frag}
theorem GD(s:S F H [d] [v])(e2:ae F H)(e:ke d=some xs):∃p ws,v=.ref p/\Rd H p (.lst ws)/\R H H (xs.map D.sh) ws []/\(d.pl=true->xs.all D.pl=true/\Rd F p (.lst ws)/\R F H xs ws []):=by
 cases s with
 | @shr p ws ys _ _ hp r _ =>
  obtain rfl:=dq e
  refine⟨p,ws,rfl,.inl (e2 _ _ hp),?_,λ_=>⟨r.pl,.inl hp,r⟩⟩
  rw[me r.pl]
  exact r.shared e2 (ae.refl _)
 | @own p ws ys _ _ hp r _ =>
  obtain rfl:=dq e
  exact⟨p,ws,rfl,.inl hp,r.frozen e2,λz=>by simp[ig]at z⟩
 | @fz p o ws ys _ _ hp r _ =>
  obtain rfl:=dq e
  refine⟨p,ws,rfl,.inr ⟨o,e2 _ _ hp⟩,?_,λ_=>⟨r.pl,.inr ⟨o,hp⟩,r⟩⟩
  rw[me r.pl]
  exact r.shared e2 (ae.refl _)
 | aq _=>cases e
 | bl _=>cases e
 | int _=>cases e
 | str _=>cases e
 | tup _ _ _=>cases e
 | obj _ _ _ _=>cases e
 | bx _ _=>cases e
theorem GF(r:R F H xs ws []){i:Nat}(hi:i<xs.length){x:V}(hx:ws[i]?=some x):R F H [xs[i]] [x] []:=by
 obtain⟨v,A1,e2,r1,sub⟩:=r.get (bc hi)
 rw[hx]at e2;cases e2
 have:A1=[]:=Lp.mpr λa ha=>by simpa using sub ha
 subst this
 exact r1
theorem OM(hp:Rd F p (.lst ws))(r:R F H xs ws [])(hq:Rd F q (.lst us))(t:R F H ys us [])(hF:Full F H):JD (FD K p q) F (gr xs ys) where
 go:=λi H' hs hi=>by
  rw[GC]at hi
  have l1:=r.length
  have l2:=t.length
  exact⟨ws,us,_,_,.inl (iF hp hs),.inl (iF hq hs),bc (show i<ws.length by omega),bc (show i<us.length by omega)⟩
 j7:=λi H' v H2 hs hi zz=>by
  obtain⟨T,x,y,e1,e2,e3,hx,hy⟩:=zz
  subst e1 e3
  have Co:=hi
  rw[GC]at Co
  have h1:=GF (r.full hF hs rfl) (show i<xs.length by omega) (hx ws (.inl (iF hp hs)))
  have h2:=GF (t.full hF hs rfl) (show i<ys.length by omega) (hy us (.inl (iF hq hs)))
  have sm:=ae.upd (o:=.tup [x,y]) e2
  refine⟨_,bc hi,sm,?_⟩
  have eg:(gr xs ys)[i]=.tup [xs[i]'(by omega),ys[i]'(by omega)]:=by simp[gr]
  rw[eg]
  exact R.tup (A:=[]) (B:=[]) br ((h1.shared (ae.refl _) sm).cons (h2.shared (ae.refl _) sm)) .nil
 stop:=λi H' hs hi=>by
  rw[GC]at hi
  have l1:=r.length
  have l2:=t.length
  exact⟨ws,us,.inl (iF hp hs),.inl (iF hq hs),by omega⟩
theorem ON(hp:Rd F p (.lst ws))(r:R F H xs ws [])(hF:Full F H):JD (FI K p) F (gQ xs) where
 go:=λi H' hs hi=>by
  rw[vt]at hi
  have l1:=r.length
  exact⟨ws,_,.inl (iF hp hs),bc (show i<ws.length by omega)⟩
 j7:=λi H' v H2 hs hi zz=>by
  obtain⟨T,x,e1,e2,e3,hx⟩:=zz
  subst e1 e3
  have Co:=hi
  rw[vt]at Co
  have h1:=GF (r.full hF hs rfl) Co (hx ws (.inl (iF hp hs)))
  have sm:=ae.upd (o:=.tup [.int i,x]) e2
  refine⟨_,bc hi,sm,?_⟩
  have eg:(gQ xs)[i]=.tup [.int i,xs[i]]:=by simp[gQ]
  rw[eg]
  exact R.tup (A:=[]) (B:=[]) br (.int (h1.shared (ae.refl _) sm)) .nil
 stop:=λi H' hs hi=>by
  rw[vt]at hi
  have l1:=r.length
  exact⟨ws,.inl (iF hp hs),by omega⟩
end
section
variable{X:Cx}{a b:Expr}{ta:bX}{p pos qN:Pos}{elts:List Expr}{x1:Nat}
noncomputable def vv(t:bX):jg:=λδ Q=>t δ λds ag=>match ds with
 | [d1,d2]=>∃xs ys,ke d1=some xs/\ke d2=some ys/\Q (d1.pl&&d2.pl) (gr xs ys) ag
 | _=>False
theorem GG(hg:Gl X "zip")(hm:X.mg "zip"=none)(ha:PA X [a,b] (lA ta))(hs:starEach [a,b] X.env=[(false,eval a X.env),(false,eval b X.env)]:=by rfl)(eD:starEach [b] X.env=[(false,eval b X.env)]:=by rfl) :
  PI X (.Tuple elts x1 qN) (.Call (.Name "zip" p) [a,b] [] pos) (lI (vv ta)) :=
 uC (Z2 hg hm ha hs eD) λσ H Q zq=>by
 obtain⟨B,F,δ,ts,Qd,c,q,k⟩:=zq
 exact⟨B,F,δ,ts,_,c,q,λds aj vs F1 H1 hd f1 h1 c1 s=>by
  match ds,hd,s with
  | [d1,d2],⟨xs,ys,i1,i2,hq⟩,s =>
   obtain⟨v1,bW,rfl,s1,s2⟩:=s.cQ
   obtain⟨v2,dG6,rfl,s2,s3⟩:=s2.cQ
   cases s3
   have e2:=c1.ext
   have sn:=qZ e2
   obtain⟨p1,w1,rfl,r1,t1,u1⟩:=GD s1 e2 i1
   obtain⟨p2,w2,rfl,r2,t2,u2⟩:=GD s2 e2 i2
   refine⟨p1,p2,rfl,⟨w1,.inl r1⟩,⟨w2,.inl r2⟩,k _ _ aj _ _ H1 hq (f1.trans sn) h1 c1.snap ?_ λz=>?_⟩
   ·rw[OL]
    exact OM r1 t1 r2 t2 (Full.refl _)
   ·rw[dP]at z
    obtain⟨a1,a2,a3⟩:=u1 z.1
    obtain⟨b1,b2,b3⟩:=u2 z.2
    exact⟨ch2 a1 b1,OM (iF a2 sn) (a3.shared sn (ae.refl _)) (iF b2 sn) (b3.shared sn (ae.refl _)) ub⟩⟩
noncomputable def vw(t:bX):jg:=λδ Q=>t δ λds ag=>match ds with
 | [d1]=>∃xs,ke d1=some xs/\Q d1.pl (gQ xs) ag
 | _=>False
theorem vx(hg:Gl X "enumerate")(hm:X.mg "enumerate"=none)(ha:PA X [a] (lA ta))(hs:starEach [a] X.env=[(false,eval a X.env)]:=by rfl) :
  PI X (.Tuple elts x1 qN) (.Call (.Name "enumerate" p) [a] [] pos) (lI (vw ta)) :=
 uC (Z5 hg hm ha hs) λσ H Q zq=>by
 obtain⟨B,F,δ,ts,Qd,c,q,k⟩:=zq
 exact⟨B,F,δ,ts,_,c,q,λds aj vs F1 H1 hd f1 h1 c1 s=>by
  match ds,hd,s with
  | [d1],⟨xs,i1,hq⟩,s =>
   obtain⟨v1,bW,rfl,s1,s2⟩:=s.cQ
   cases s2
   have e2:=c1.ext
   have sn:=qZ e2
   obtain⟨p1,w1,rfl,r1,t1,u1⟩:=GD s1 e2 i1
   refine⟨p1,rfl,⟨w1,.inl r1⟩,k _ _ aj _ _ H1 hq (f1.trans sn) h1 c1.snap ?_ λz=>?_⟩
   ·rw[bX9]
    exact ON r1 t1 (Full.refl _)
   ·obtain⟨a1,a2,a3⟩:=u1 z
    exact⟨b03 a1,ON (iF a2 sn) (a3.shared sn (ae.refl _)) ub⟩⟩
end
end L3
namespace L3
open PySem L2 PySem.Spec PyProof.Rows
section
variable{X:Cx}{F H:Hp}{e b:Expr}{pos p p2 p3 pr apos bN rO:Pos}{t ti te:aI}{x y:Str}{i j:Nat}
theorem vy{α:Type}{xs:List α}{k:Nat}{v:α}(h:xs[k]?=some v):eQ xs (k:Int)=some v:=by
 unfold eQ gL
 have hk:k<xs.length:=(kE.mp h).1
 rw[if_pos (by omega),if_pos (by omega)]
 exact h
theorem yt{B:Bs}{σ:L2.St}{δ:Dl}{ts:List (D × V)}{l1 l2 ys:List D}{p0:Addr}{ws:List V}(c:ai B F H σ δ ts)(e1:δ[i]?=some (some (.lst true (l1++.lst true ys::l2))))(g1:σ[i]?=some (some (.ref p0)))(g2:H p0=some (.lst ws)) :
  ∃q us,ws[l1.length]?=some (.ref q)/\H q=some (.lst us)/\ys.length=us.length/\S F H [.lst true ys] [.ref q]:=by
 obtain⟨v,ev,sv⟩:=c.look e1
 rw[g1]at ev;cases ev
 cases sv with
 | own hh sx _ =>
  rw[g2]at hh;cases hh
  obtain⟨v2,e2,s3⟩:=sx.get (i:=l1.length) (d:=D.lst true ys) (by rw[qo (bD _),EA];rfl)
  have s4:=s3
  cases s3 with
  | own h3 s5 _=>exact⟨_,_,e2,h3,s5.length,s4⟩
end
section
variable{X:Cx}{CX:dR}{k:Nat}{f:Addr}{fd:FuncData}{ps:List Str}{sp:aZ}{E:XK}{fn x1 x2 y1 y2:Str}{i1 i2 j1 j2:Nat}{tk:Nat}
 {tp t1 t2 zp dG7 q1 q2 fp dG8 a1 a2 cK7 dG9 dH0 cp rO pr apos bN dH1 pos:Pos}
end
end L3
namespace L3
open PySem L2 PySem.Spec PyProof.Rows
theorem ai.cK8{B:Bs}{F H:Hp}{σ:L2.St}{δ:Dl}{ts:List (D × V)}{a b:D}{v:V}(c:ai B F H σ δ ((.tup [a,b],v)::ts)):∃p u w,v=.ref p/\H p=some (.tup [u,w])/\ai B F H σ δ ((a,u)::(b,w)::ts):=by
 obtain⟨A,C,r,s,nd,fr⟩:=c.own
 cases r with
 | @tup p ws xs A1 _ _ B1 hp r1 r2 =>
  obtain⟨u,fS,A2,A3,rfl,rfl,h1,h2⟩:=r1.cQ
  obtain⟨w,dH2,A4,A5,rfl,rfl,h3,h4⟩:=h2.cQ
  cases h4
  refine⟨p,u,w,rfl,hp,c.ext,c.b1,c.b2,c.b3,A2++(A4++B1),C,h1.cons (h3.cons r2),s,?_,?_⟩
  ·simpa using nd
  ·intro a ha;exact fr a (by simpa using ha)
section
variable{X:Cx}{y1 y2:Str}{i1 i2 tk m:Nat}{t1 t2 tp:Pos}
noncomputable def jr(i1 i2:Nat):gO:=λd δ Q=>match d with
 | .tup [a,b]=>Q ((δ.set i1 (some a)).set i2 (some b))
 | _=>False
theorem vz(hc:X.calm=true)(vA:X.N.Nodup)(m1:X.N[i1]?=some y1)(l1:Loc X.env.scope y1)(m2:X.N[i2]?=some y2)(l2:Loc X.env.scope y2)(OO:m<=i1:=by decide)(pk:m<=i2:=by decide)
  (f1:X.fn y1=true\/X.env.scope.names.lookup y1=some .local:=by first | exact .inl rfl | exact .inr rfl | assumption) (f2:X.fn y2=true\/X.env.scope.names.lookup y2=some .local:=by first | exact .inl rfl | exact .inr rfl | assumption)
  (GH:(assignEach [.Name y1 t1,.Name y2 t2] X.env).map (·.2)=assign (.Name y1 t1) X.env::(assignEach [.Name y2 t2] X.env).map (·.2):=by rfl) (GI:(assignEach [.Name y2 t2] X.env).map (·.2)=assign (.Name y2 t2) X.env::(assignEach [] X.env).map (·.2):=by rfl)
  (hn:(assignEach [.Name y1 t1,.Name y2 t2] X.env).length=2:=by rfl) (bZ:(assignEach [.Name y1 t1,.Name y2 t2] X.env).findIdx? (·.1)=none:=by rfl) :
  PG X (.Tuple [.Name y1 t1,.Name y2 t2] tk tp) (lG m (jr i1 i2)) :=
 NQ (WG hc (Mh (xE vA m1 l1 f1) (Mh (xE vA m2 l2 f2) WD GI) GH) hn bZ) λv σ H Q zz=>by
  obtain⟨B,F,δ,ts,d,Qd,c,q,k⟩:=zz
  obtain⟨a,b,rfl,q⟩:∃a b,d=D.tup [a,b]/\Qd ((δ.set i1 (some a)).set i2 (some b)):=by
   unfold jr at q
   split at q
   ·exact⟨_,_,rfl,q⟩
   ·exact q.elim
  obtain⟨p,u,w,rfl,hp,c2⟩:=c.cK8
  refine⟨p,[u,w],rfl,g9.of hp,rfl,u,[w],rfl,w,[],rfl,rfl,k _ _ q (by simp) (λj hj=>?_) ((c2.store i1).store i2)⟩
  rw[lF (by omega),lF (by omega)]
end
open Classical in
theorem fv{α:Type}{sh:Bool}{xs:List D}{aD:List (Str × Nat)}{n m:Nat}{te:aI}{aj:Dl}{Q:D->Dl->Prop}(l:List α)(e g:α->D)(js:xs.map D.sh=l.map e)(inj:∀a b,e a=e b->a=b)
  (hx:∀a∈l,te ((gq aD n aj).set m (some (e a))) λd _=>d=g a) (eT:(sh&&aD.all (jk aj))=true\/∀a∈l,(g a).fr=true) (hl:l.length<=sizeLine) (hq:Q (.lst true (l.map g)) aj):rq sh xs aD n (gN m) kT te aj Q:=by
 let f:D->D:=λx=>if h:∃a∈l,e a=x then g h.choose else .aq
 have hf:∀a∈l,f (e a)=g a:=λa ha=>by
  have h:∃b∈l,e b=e a:=⟨a,ha,rfl⟩
  show(if h:∃b∈l,e b=e a then g h.choose else .aq)=g a
  rw[dif_pos h]
  exact congrArg g (inj _ _ h.choose_spec.2)
 refine Δ f (λx h=>?_) (eT.imp id λh x hx=>?_) ?_ ?_
 ·rw[js]at h
  obtain⟨a,ha,rfl⟩:=bI.mp h
  rw[hf a ha];exact hx a ha
 ·rw[js]at hx
  obtain⟨a,ha,rfl⟩:=bI.mp hx
  rw[hf a ha];exact h a ha
 ·have:=congrArg Ei js
  simp at this
  omega
 ·rw[js,b8,show l.map (f ∘ e)=l.map g from mQ λa ha=>hf a ha]
  exact hq
end L3
namespace L3
open PySem L2 PySem.Spec PyProof.Rows
end L3
namespace L2
open PySem PySem.Spec PyProof.Rows
section
variable{X:Cx}
theorem OP:∀{ys:List Str} {us:List Value},Vals (ys.map V.str) us->StrsAre us ys
 | [],_,r=>by cases r;exact .nil
 | y::ys,_,r=>by
  cases r with
  | cons h t =>
   obtain⟨tk,rfl⟩:=h
   exact .cons y tk (OP t)
theorem cg4:xQ X "str.join" (λx xs H Q=>∃sep a ys,x=.str sep/\xs=[.ref a]/\bw X.K H a (ys.map V.str)/\(ys.map (·.length)).sum+ys.length*sep.length<=16777216/\Q (.str (Txt.join sep ys)) H):=by
 intro pins s σ H x xs v us Q I rx rs h
 obtain⟨sep,a,ys,rfl,rfl,hq,hz,q⟩:=h
 obtain⟨t,rfl⟩:=rx
 obtain⟨u,rfl,ru⟩:=rs.one
 cases ru
 obtain⟨its,r,p,_⟩:=I.list hq
 exact join_list p.isList (by simpa using OP r) hz λt' k=>⟨.str _,H,I.tok _,⟨_,rfl⟩,q⟩
end
end L2
namespace L3
open PySem L2 PySem.Spec PyProof.Rows
noncomputable abbrev tx(l:List Nat):D:=.str ⟨l.toArray⟩
section
variable{X:Cx}{F H:Hp}{e:Expr}{es:List Expr}{t:aI}{pos p p2 apos bN:Pos}
noncomputable def rR(x:D)(lo hi:Option Int)(Q:D->Prop):Prop:=match x with
 | .lst _ xs=>xs.all D.pl=true/\Q (.lst true (fg xs lo hi))
 | .fz xs=>Q (.lst true (fg xs lo hi))
 | .str z=>z.length<=sizeLine/\Q (tx (fg z.cps.toList lo hi))
 | _=>False
noncomputable def vB(t:aI)(tl th:u6):aI:=λδ Q=>t δ λx aj=>tl aj λl aK=>th aK λu gn=>rR x l u λd=>Q d gn
theorem nL{lo hi:Option Expr}{tl th:u6}(he:PE X e (lB t))(hl:PO X lo (lP tl))(hu:PO X hi (lP th)):PE X (.Subscript e (.Slice lo hi none p2) pos) (lE (vB t tl th)) :=
 da (X7 (Yi.or Z8) he hl hu) λσ H Q zq=>by
 obtain⟨B,F,δ,ts,Qd,c,q,k⟩:=zq
 exact⟨B,F,δ,ts,_,c,q,λx aj v F1 H1 q1 f1 h1 c1 s1=>⟨B,F1,aj,ts,_,c1,q1,λl aK F2 H2 q2 f2 h2 c2=>⟨B,F2,aK,ts,_,c2,q2,λu gn F3 H3 q3 f3 h3 c3=>by
  have nE:=s1.mono (f2.trans f3) (h2.trans h3)
  unfold rR at q3
  split at q3
  ·obtain⟨p,ws,rfl,h,t⟩:=nu nE c3.ext rfl
   exact .inl ⟨p,ws,rfl,mi h,λr hr=>k _ gn _ F3 _ q3.2 ((f1.trans f2).trans f3) (((h1.trans h2).trans h3).trans (ae.upd hr)) (c3.oV hr (t.cut _ _) (Og q3.1 _ _))⟩
  ·obtain⟨p,ws,rfl,h,t⟩:=nu nE c3.ext rfl
   cases nE with
   | fz h' r _=>exact .inl ⟨_,_,rfl,mi (.inr ⟨_,c3.ext _ _ h'⟩),λr' hr=>k _ gn _ F3 _ q3 ((f1.trans f2).trans f3) (((h1.trans h2).trans h3).trans (ae.upd hr)) (c3.oV hr (r.s.cut _ _) (Og r.pl _ _))⟩
  ·cases nE with
   | str _=>exact .inr ⟨_,rfl,q3.1,k _ gn _ F3 H3 q3.2 ((f1.trans f2).trans f3) ((h1.trans h2).trans h3) (c3.pushS (.str .nil) rfl)⟩
  ·exact q3.elim⟩⟩⟩
noncomputable def yZ:cG:=λx y Q=>match x,y with
 | .str z,.int n=>(-(2 ^ 63)<=n/\n<2 ^ 62/\z.length*n.toNat<=sizeLine)/\Q (tx (bg n.toNat z.cps.toList).flatten)
 | _,_=>False
noncomputable def rS:jO:=λds Q=>match ds with
 | [.int i]=>i.natAbs.log2<1920/\Q (.str (toString i))
 | _=>False
theorem OQ:gP X (.type "str") rS:=gP.of Xo λvs H Q zz=>by
 obtain⟨B,F,σ,δ,ts,ds,Qd,c,s,q,k⟩:=zz
 unfold rS at q
 split at q
 ·obtain⟨v,rfl,s1⟩:=kX s
  cases s1
  exact⟨_,rfl,q.1,k _ _ _ q.2 (ae.refl _) (c.pushS (.str .nil) rfl)⟩
 ·exact q.elim
end
theorem y0(a b:List Nat):(⟨a.toArray⟩:Str)++(⟨b.toArray⟩:Str)=⟨(a++b).toArray⟩:=by
 show(⟨a.toArray++b.toArray⟩:Str)=_
 simp
theorem y6(a:List Nat):(⟨a.toArray⟩:Str).length=a.length:=by show a.toArray.size=_;simp
end L3
namespace L3
open PySem L2 PySem.Spec PyProof.Rows
noncomputable def aw(l:List Nat):List D:=aF (l.map λ(n:Nat)=>(n:Int))
theorem eV(l:List Nat):(aw l).length=l.length:=by unfold aw;rw[nK,aS]
theorem fJ(l:List Nat):aw l=l.map λ(n:Nat)=>D.int (n:Int):=by unfold aw aF;rw[b8];rfl
theorem vC(l:List Nat):(aw l).map D.sh=l.map λ(n:Nat)=>D.int (n:Int):=by unfold aw;rw[jq];exact fJ l
theorem nM(a b:Nat)(h:D.int (a:Int)=D.int (b:Int)):a=b:=by injection h with h;omega
theorem ki(l:List Nat):(aw l).all D.pl=true:=pz _
theorem pG(l:List Nat):(aw l).map D.sh=aw l:=jq _
theorem rT(a b:List Nat):aw a++aw b=aw (a++b):=by unfold aw;rw[rQ,dy]
theorem y7(l:List Nat)(lo hi:Option Int):fg (aw l) lo hi=aw (fg l lo hi):=by
 unfold aw
 rw[vi]
 congr 1
 unfold fg
 rw[aS,Ly,Lx]
theorem y8{α:Type}(xs:List α)(b:Nat):fg xs none (some (b:Int))=xs.take b:=by
 have:=cf1 xs 0 b
 unfold fg at this ⊢
 simpa[HT.cV]using this
theorem Cp{α:Type}(xs:List α)(a:Nat):fg xs (some (a:Int)) none=xs.drop a:=by
 unfold fg
 rw[HT.E9]
 show(xs.drop (min a xs.length)).take (xs.length-min a xs.length)=_
 by_cases h:a<=xs.length
 ·rw[Nat.min_eq_left h,AM (by rw[iS];exact bD _)]
 ·rw[Nat.min_eq_right (by omega),List.drop_length,LB (by omega)];simp
end L3
namespace L2
open PySem PySem.Spec PyProof.Rows
section
variable{X:Cx}{tg l o e:Expr}{tl to te:TE}{apos bN:Pos}
end
end L2
namespace L3
open PySem L2 PySem.Spec PyProof.Rows
section
variable{X:Cx}{F H:Hp}{tg l e:Expr}{te t tb:aI}{apos bN pos:Pos}
variable{o:Expr}
theorem OR:∀{ns:List Int} {ws:List V},S F H (aF ns) ws->ws=ns.map V.int
 | [],_,s=>by cases s;rfl
 | n::ns,_,s=>by
  cases s with
  | int s=>rw[OR s];rfl
end
end L3
namespace L3
open PySem L2 PySem.Spec PyProof.Rows
end L3
namespace L2
open PySem PySem.Spec PyProof.Rows
noncomputable def Tb(ts:List Addr)(H:Hp):Prop:=∀P∈ts,∃ps,H P=some (.dr ps)
structure vD(ts:List Addr)(H:Hp):Prop where
 any:∀b,H b=none\/(∃o xs,H b=some (.bC o (.lst xs)))\/(b∈ts/\H b=some (.dr #[]))
 tab:∀P∈ts,H P=some (.dr #[])
theorem vD.tb{ts:List Addr}{H:Hp}(h:vD ts H):Tb ts H:=λP hP=>⟨#[],h.tab P hP⟩
noncomputable def Bm(mg:Str->Option Value)(base:Heap):Prop:=∃bm o,mg "__builtins__"=some (.ref bm)/\bm≠builtinsNs/\bm≠mainGlobals/\base.get? bm=some o/\o.cls=.type "module"/\o.dict=some builtinsNs/\o.data=.plain
theorem bO4{P:Program}{w:World}{K:PySem.W.Frag}{mg mb:Str->Option Value}{CX:dR}{k:Nat}{fa a:Addr}{fd:FuncData}{x:Str}{sp:Sp}{bz:Shared}{vs:List Value}{ns:List Int}{ts:List Addr}
  (KX:K.In bz.heap) (Cq:bz.heap.Ns mainGlobals mg) (hb:bz.heap.Ns builtinsNs mb) (hbb:∀x:Str,x≠"__name__"->mb x=bootBuiltins x) (cL2:bz.heap.NoLimit) (hg:bz.gens=#[])
  (ht:∀P∈ts,bz.heap.get? P=some (PySem.W.tabObj #[])) (GJ:∀P∈ts,isCodeTable bz.heap P) (hkt:∀P∈ts,K.lookup P=none)
  (ha:bz.heap.get? a=some { cls:=.type "list",data:=.seq vs.toArray }) (hi:IntsAre vs ns) (hl:ns.length<=sizeLine) (hr:bL k callerA)
  (y9:Bm mg bz.heap) (F:∀base:Heap,K.In base->base.Ns mainGlobals mg->Bm mg base->aM P w K mg base CX k fa fd [x] sp) (cL4:∀(s:Shared) (u:Value),BindsTo s fd ⟨[u],[]⟩ [(x,u)])
  (i9:∀H:Hp,vD ts H->bw K H a (ns.map V.int)->sp [.ref a] H (λv _=>v=.bl true) λ_ _ _=>False)
  (GK:∀H e s',CX [] H bz (λ_ _ _=>False) e s'->False) :
  codeAny (model P w) callerA (.call (.ref fa) ⟨[.ref a],[]⟩) (λr s'=>r=.ok (.ret (.bool true))/\OldK bz.heap s'.heap/\s'.os=bz.os/\AllBare s'.gens) bz:=by
 have rv:=MW hi
 have cL5:=hi.length
 have nat:a ∉ ts:=λz=>by
  have:=ht a z
  rw[ha]at this
  cases this
 have core:∀H:Hp,vD ts H->bw K H a (ns.map V.int)->cK P w H bz.heap->(∀b,H b≠none->b=a\/b∈ts)->(H a≠none->K.lookup a=none) ->
   codeAny (model P w) callerA (.call (.ref fa) ⟨[.ref a],[]⟩) (λr s'=>r=.ok (.ret (.bool true))/\OldK bz.heap s'.heap/\s'.os=bz.os/\AllBare s'.gens) bz:=by
  intro H hO hS aE hA hK
  have GL:∀{b:Addr} {o:Obj},bz.heap.get? b=some o->H b=none->(lN bz.heap H).get? b=some o:=λe n=>V8 e n
  have xP:∀{b:Addr} {o:Obj} {es:Array DictEntry} {ep:Nat},bz.heap.get? b=some o->o.data=.dict es ep->H b=none:=λ{b o es ep} e d=>by
   cases q:H b with
   | none=>rfl
   | some u =>
    rcases hA b (by rw[q];simp)with e' | e'
    ·subst e'
     rw[ha]at e;cases e
     have d':Data.seq vs.toArray _=Data.dict es ep:=d
     cases d'
    ·rw[ht b e']at e;cases e
     have d':Data.fields #[]=Data.dict es ep:=d
     cases d'
  have Cr:∀{b:Addr} {m:Str->Option Value},bz.heap.Ns b m->(lN bz.heap H).Ns b m:=λ{b m} ⟨o,es,ep,e,d,r⟩=>⟨o,es,ep,GL e (xP e d),d,r⟩
  have OS:K.In (lN bz.heap H):=λb o e=>GL (KX b o e) (by
   cases q:H b with
   | none=>rfl
   | some u =>
    rcases hA b (by rw[q];simp)with e' | e'
    ·subst e'
     rw[hK (by rw[q];simp)]at e;cases e
    ·rw[hkt b e']at e;cases e)
  have hBm:Bm mg (lN bz.heap H):=by
   obtain⟨bm,o,b1,b2,b3,b4,b5,b6,b7⟩:=y9
   refine⟨bm,o,b1,b2,b3,GL b4 ?_,b5,b6,b7⟩
   cases q:H bm with
   | none=>rfl
   | some u =>
    rcases hA bm (by rw[q];simp)with e' | e'
    ·rw[e',ha]at b4;cases b4
     have d':Data.seq vs.toArray _=Data.plain:=b7
     cases d'
    ·rw[ht bm e']at b4;cases b4
     have d':Data.fields #[]=Data.plain:=b7
     cases d'
  have hM:Mod K mg (lN bz.heap H):=⟨OS,Cr Cq,⟨mb,Cr hb,hbb⟩,let⟨mc,h1,h2⟩:=cL2;⟨mc,Cr h1,h2⟩⟩
  have e0:i7 P w K mg (lN bz.heap H) callerA [] bz H:=⟨rfl,hM,λb o e=>V9 e,w5 (V7 _ _),trivial,λb hb=>absurd (show b∈([]:List Addr) from hb) (by simp),aE,.of_eq hg⟩
  refine codeAny_mono ((F _ OS (Cr Cq) hBm).run callerA [] bz H ⟨[.ref a],[]⟩ [.ref a] [.ref a] _ _ hr e0 (cL4 bz (.ref a)) (.cons rfl .nil) (i9 H hO hS)) λr s' h=>?_
  cases r with
  | error e=>exact(GK H e s' h).elim
  | ok fl =>
   cases fl with
   | next=>exact eW h
   | brk=>exact eW h
   | cont=>exact eW h
   | ret u =>
    obtain⟨v,H',os,bare,un,OT,r',q⟩:=h
    have q':v=.bl true:=q
    subst q'
    obtain rfl:u=Eh true:=r'
    have each:∀b o,bz.heap.get? b=some o->asItWas bz.heap s'.heap b o/\∃o',s'.heap.get? b=some o':=λb o e=>by
     cases q:H b with
     | none =>
      have z:=un.keep b o e q (by intro z;exact absurd (show b∈([]:List Addr) from z) (by simp)) (by simp)
      exact⟨.inl z,o,z⟩
     | some u =>
      rcases hO.any b with z | ⟨ob,xs,z⟩ | ⟨jP,z⟩
      ·rw[q]at z;cases z
      ·have z2:=un.g8 b ob _ z
       obtain⟨e1,_⟩:=aE b _ z
       obtain⟨e2,_⟩:=OT b _ z2
       rw[e]at e1;cases e1
       exact⟨.inl e2,_,e2⟩
      ·obtain⟨more,z2⟩:=un.gD b _ z
       have e2:=(OT b _ z2).1
       rw[ht b jP]at e;cases e
       exact⟨.inr (.inl ⟨GJ b jP,rfl,#[],more,rfl,e2⟩),_,e2⟩
    exact⟨rfl,⟨λb o e=>(each b o e).1,λb o e=>(each b o e).2⟩,os,bare⟩
 have tok:∀(H:Hp) (b:Addr),b∈ts->dQ P w H bz.heap b (.dr #[]):=λH b hb=>⟨ht b hb,trivial,λpos cv q=>by cases q⟩
 cases hk:K.lookup a with
 | some o =>
  have e:=KX a o hk
  rw[ha]at e
  cases e
  refine core (λb=>if b∈ts then some (.dr #[])else none) ⟨λb=>?_,λb hb=>if_pos hb⟩ (.inr ⟨_,vs.toArray,_,hk,rfl,rfl,rfl,by rw[dO,cL5];exact hl,by simpa using rv⟩) (λb u z=>?_) (λb z=>?_) λz=>absurd (if_neg nat) z
  ·by_cases hb:b∈ts
   ·exact .inr (.inr ⟨hb,if_pos hb⟩)
   ·exact .inl (if_neg hb)
  ·by_cases hb:b∈ts
   ·have z':=(if_pos hb).symm.trans z
    cases z'
    exact tok _ b hb
   ·have z':=(if_neg hb).symm.trans z
    cases z'
  ·by_cases hb:b∈ts
   ·exact .inr hb
   ·exact absurd (if_neg hb) z
 | none =>
  refine core (λb=>if b=a then some (.bC { cls:=.type "list",data:=.seq vs.toArray } (.lst (ns.map V.int)))else if b∈ts then some (.dr #[])else none) ⟨λb=>?_,λb hb=>?_⟩ (.inl (.inr ⟨{ cls:=.type "list",data:=.seq vs.toArray },if_pos rfl⟩)) (λb u z=>?_) (λb z=>?_) λ_=>hk
  ·by_cases hb:b=a
   ·exact .inr (.inl ⟨_,_,if_pos hb⟩)
   ·by_cases jP:b∈ts
    ·exact .inr (.inr ⟨jP,(if_neg hb).trans (if_pos jP)⟩)
    ·exact .inl ((if_neg hb).trans (if_neg jP))
  ·have jI:b≠a:=λz=>nat (z ▸ hb)
   exact(if_neg jI).trans (if_pos hb)
  ·by_cases hb:b=a
   ·have z':=(if_pos hb).symm.trans z
    cases z'
    subst hb
    exact⟨ha,by rw[aS];exact hl,vs,_,rv,ha⟩
   ·by_cases jP:b∈ts
    ·have z':=((if_neg hb).trans (if_pos jP)).symm.trans z
     cases z'
     exact tok _ b jP
    ·have z':=((if_neg hb).trans (if_neg jP)).symm.trans z
     cases z'
  ·by_cases hb:b=a
   ·exact .inl hb
   ·by_cases jP:b∈ts
    ·exact .inr jP
    ·exact absurd ((if_neg hb).trans (if_neg jP)) z
theorem cL7{l:PySem.W.OpenLaw}{n k:Nat}{q:Program}{loose:List Str}{XP:(Str->Option Value)->Heap->Prop}{YP:World->Heap->Prop}{d:DefRec}{K:Params->PySem.W.Frag}{CX:World->dR}{sp:World->Sp}{x:Str}{ts:List Addr}
  (hn:l.most=some n) (BC:n<=sizeLine) (xV:d.params.defaults=[]) (hr:bL k callerA)
  (hY:∀(w:World) (h:Heap),YP w h->(K w.params).In h/\∀P∈ts,h.get? P=some (PySem.W.tabObj #[]))
  (hC:∀(w:World) (h:Heap),(K w.params).In h->∀P∈ts,(K w.params).lookup P=none/\∃c,PySem.W.CodeHd h c P)
  (F:∀(w:World) (mg:Str->Option Value) (fa:Addr) (h:Heap),(K w.params).In h->h.Ns mainGlobals mg->mg d.name=some (.ref fa) ->
   ∃fd:FuncData,(∀(s:Shared) (u:Value),BindsTo s fd ⟨[u],[]⟩ [(x,u)]) /\
    ∀base:Heap,(K w.params).In base->base.Ns mainGlobals mg->Bm mg base->aM l.prog w (K w.params) mg base (CX w) k fa fd [x] (sp w))
  (i9:∀(w:World) (H:Hp) (a:Addr) (ns:List Int),ns.length<=n->vD ts H->bw (K w.params) H a (ns.map V.int)->sp w [.ref a] H (λv _=>v=.bl true) λ_ _ _=>False)
  (GK:∀(w:World) (H:Hp) (s:Shared) (e:Value) (s':Shared),CX w [] H s (λ_ _ _=>False) e s'->False) :
  PySem.W.WalkO q loose XP YP l.row.toRowW d [] (λf vs=>PySem.call f vs):=by
 refine Att.YG hn xV λw cw bz mg mb fa o pm cd doc a vs ns G Y ho hd b9 xW Fj hints hlen hg=>?_
 obtain⟨KX,hT⟩:=hY w _ Y
 obtain⟨fd,hb,hF⟩:=F w mg fa _ KX G.T.g xW
 have GJ:∀P∈ts,isCodeTable bz.heap P:=λP hP=>by
  obtain⟨_,c,C⟩:=hC w _ KX P hP
  exact(C.tab (hT P hP)).isCodeTable
 have y9:Bm mg bz.heap:=by
  obtain⟨bm,ob,b1,b2,b3,b4,b5,b6⟩:=G.T.bmain
  refine⟨bm,ob,b1,b2,λq=>?_,b3,b4,b5,b6⟩
  obtain⟨o,es,ep,e,hd,_⟩:=G.T.g
  rw[q,e]at b3;cases b3;rw[hd]at b6;cases b6
 exact bO4 KX G.T.g G.T.b G.T.builtins G.T.nolimit hg hT GJ (λP hP=>(hC w _ KX P hP).1) Fj hints (eK hlen BC) hr y9 hF hb (λH hO hS=>i9 w H a ns hlen hO hS) λH e s'=>GK w H bz e s'
end L2
namespace L3
open PySem L2 PySem.Spec PyProof.Rows
noncomputable def vE(ts:List Addr)(sp:Sp):Sp:=λvs H Q E=>Tb ts H/\sp vs H Q E
theorem GN{X:Cx}{pins:List (Addr × Obj)}{σ:L2.St}{H:Hp}{s:Shared}{ts:List Addr}(I:Inv X pins σ H s)(h:Tb ts X.j3):Tb ts H:=λP hP=>by
 obtain⟨ps,e⟩:=h P hP
 obtain⟨m,e2⟩:=I.base.gD P ps e
 exact⟨_,e2⟩
noncomputable def Ct(ts:List Addr)(K:PySem.W.Frag):Sp:=λvs H Q _=>∃(a:Addr) (ns:List Int),vs=[.ref a]/\vD ts H/\bw K H a (ns.map V.int)/\ns.length<=63/\∀H',Q (.bl true) H'
theorem b02{ts:List Addr}{K:PySem.W.Frag}(nl:K.all (λp=>Gi p.2)=true){vs:List V}{H:Hp}{Q:VK}{E:XK}(h:Ct ts K vs H Q E):vE ts (bo Oh) vs H Q E:=by
 obtain⟨a,ns,rfl,hO,hS,hl,q⟩:=h
 have hz:∃o,H a=some (.bC o (.lst (ns.map V.int))):=by
  rcases hS with (hS | hS) | ⟨o,its,n,hk,hc,_⟩
  ·rcases hO.any a with z | ⟨o,xs,z⟩ | ⟨_,z⟩
   ·rw[hS]at z;cases z
   ·rw[hS]at z;cases z
   ·rw[hS]at z;cases z
  ·exact hS
  ·have hm:=bB0 hk
   have:=cX.mp nl _ hm
   simp[Gi,hc]at this
 obtain⟨o,ho⟩:=hz
 refine⟨hO.tb,H,[.fz (aF ns)],λd=>d=.bl true,ae.refl _,.fz ho (kY ns) .nil,⟨ns,rfl,hl,rfl⟩,λd v F' H' A hd hs hf he h3 r nd fr=>?_⟩
 subst hd
 cases r
 exact q H'
end L3
namespace L2
open PySem PySem.Spec PyProof.Rows
noncomputable def rem(H:Hp)(f c:Addr):Hp:=λb=>if b=f\/b=c then none else H b
noncomputable def nN(H H':Hp)(f c:Addr):Hp:=λb=>if b=f\/b=c then H b else H' b
section
variable{P:Program}{w:World}{H H':Hp}{h:Heap}{a b f c:Addr}{o:HO}{of oc:Obj}
theorem OU:rem H f c f=none:=if_pos (.inl rfl)
theorem Cu:rem H f c c=none:=if_pos (.inr rfl)
theorem ir(h1:b≠f)(h2:b≠c):rem H f c b=H b:=if_neg (by simp[h1,h2])
theorem vF(e:H b=none):rem H f c b=none:=by unfold rem;split;rfl;exact e
theorem OV(e:rem H f c b=some o):b≠f/\b≠c/\H b=some o:=by
 unfold rem at e
 split at e
 ·cases e
 ·rename_i n
  exact⟨λz=>n (.inl z),λz=>n (.inr z),e⟩
theorem pH(h1:b≠f)(h2:b≠c):nN H H' f c b=H' b:=if_neg (by simp[h1,h2])
theorem OW:nN H H' f c f=H f:=if_pos (.inl rfl)
theorem GO:nN H H' f c c=H c:=if_pos (.inr rfl)
theorem dQ.rem{φ:Heap->Prop}(x:dQ P w H h a o)(ha:a≠f)(hf:H f=some (.ext φ))(hc:H c=some (.own f)\/H c=none)(GP:¬ ∀h',φ h'->∃q,h'.CodeRec (.ref f) q):dQ P w (rem H f c) h a o:=by
 have own:∀b,H b=some (.own a)->L2.rem H f c b=some (.own a):=λb e=>by
  rw[ir (λz=>by subst z;rw[hf]at e;cases e) (λz=>by subst z;rcases hc with hc | hc<;>(rw[hc]at e;cases e);exact ha rfl)];exact e
 have tup:∀b xs,H b=some (.tup xs)->L2.rem H f c b=some (.tup xs):=λb xs e=>by
  rw[ir (λz=>by subst z;rw[hf]at e;cases e) (λz=>by subst z;rcases hc with hc | hc<;>(rw[hc]at e;cases e))];exact e
 induction o with
 | lst xs=>exact x
 | tup xs=>exact x
 | dK dA=>exact x
 | dT dA =>
  obtain⟨z,y,xs,r,ob⟩:=x
  exact⟨z,y,xs,Paired.EM r λp q z=>⟨z.1,tup _ _ z.2.1,z.2.2⟩,ob⟩
 | set S n=>exact x
 | ins C dx fs =>
  obtain⟨d,r⟩:=x
  exact⟨own _ d,r⟩
 | own y=>exact x
 | xd fs=>exact x
 | xv lo hi=>exact x
 | bC ob u ih=>obtain⟨e,q⟩:=x;exact⟨e,ih q⟩
 | dr ps =>
  obtain⟨e,t,cc⟩:=x
  refine⟨e,t,λpos cv q=>?_⟩
  obtain⟨d,φ,e1,e2,e3⟩:=cc pos cv q
  refine⟨d,φ,e1,?_,e3⟩
  rw[ir (λz=>?_) (λz=>by subst z;rcases hc with hc | hc<;>(rw[hc]at e2;cases e2))]
  ·exact e2
  ·subst z
   rw[hf]at e2;cases e2
   exact GP e3
 | met f y=>exact x
 | ext φ=>obtain⟨p,r,st⟩:=x;exact⟨p,r,λh1 h2 p1 kk=>st h1 h2 p1 λb o hb q=>kk b o (hb.imp id (own b)) q⟩
theorem OX{φ:Heap->Prop}{fd:FuncData}(p:φ h)(g:∀h',φ h'->h'.get? f=some of)(hd:of.data=.func fd):¬ ∀h',φ h'->∃q,h'.CodeRec (.ref f) q:=λz=>by
 obtain⟨q,k,ok,vs,t,q1,q2,q3,_⟩:=z h p
 cases q1
 rw[g h p]at q2;cases q2
 rw[hd]at q3;cases q3
theorem cK.lam(ok:cK P w H h)(hf:H f=some (.ext (L3.jJ of oc c f))):L3.jJ of oc c f h:=(ok f _ hf).1
theorem cK.rem{fd:FuncData}(ok:cK P w H h)(hf:H f=some (.ext (L3.jJ of oc c f)))(hc:H c=some (.own f))(hd:of.data=.func fd):cK P w (rem H f c) h:=λb o e =>
 let⟨h1,_,h3⟩:=OV e;(ok b o h3).rem h1 hf (.inl hc) (OX (ok.lam hf) (λ_ p=>p.1) hd)
end
theorem i7.rem{P:Program}{w:World}{K:PySem.W.Frag}{mg:Str->Option Value}{base:Heap}{A:Around}{outer:List Env}{s:Shared}{H:Hp}{f c:Addr}{of oc:Obj}{fd:FuncData}(e:i7 P w K mg base A outer s H)
  (hf:H f=some (.ext (L3.jJ of oc c f))) (hc:H c=some (.own f)) (hd:of.data=.func fd):i7 P w K mg base A outer s (rem H f c) :=
 ⟨e.frames,e.mod,λb o q=>⟨(e.bs b o q).1,vF (e.bs b o q).2⟩,e.iX,e.fY,λb hb=>vF (e.iY b hb),e.aE.rem hf hc hd,e.bare⟩
theorem CE.add{P:Program}{w:World}{K:PySem.W.Frag}{mg:Str->Option Value}{base:Heap}{A:Around}{outer:List Env}{s s':Shared}{H:Hp}{f c:Addr}{of oc:Obj}{Q Q':VK}{u:Value}(e0:i7 P w K mg base A outer s H)
  (hf:H f=some (.ext (L3.jJ of oc c f))) (hc:H c=some (.own f)) (h:CE outer P w (rem H f c) s Q u s') (hQ:∀v H',Q v H'->H' f=none->H' c=none->Q' v (nN H H' f c)):CE outer P w H s Q' u s':=by
 obtain⟨v,H',os,bare,un,aE,r,q⟩:=h
 obtain⟨gf,gc⟩:=e0.aE.lam hf
 have OY:∀{b o},H b=some o->b ∉ dB outer:=λ{b o} e z=>by rw[e0.iY b z]at e;cases e
 have nf:H' f=none:=un.free f _ gf OU (by simp)
 have nc:H' c=none:=un.free c _ gc Cu (by simp)
 have kf:=un.keep f _ gf OU (OY hf) (by simp)
 have kc:=un.keep c _ gc Cu (OY hc) (by simp)
 refine⟨v,nN H H' f c,os,bare,⟨λb o e n=>un.keep b o e (vF n),λb o e n=>un.slot b o e (vF n),λb o e n x=>?_,un.there,λb xs e=>?_,λb ob xs e=>?_,λb ps e=>?_⟩,λb o e=>?_,r,hQ v H' q nf nc⟩
 ·rw[pH (λz=>by subst z;rw[hf]at n;cases n) (λz=>by subst z;rw[hc]at n;cases n)]
  exact un.free b o e (vF n) x
 ·have n1:b≠f:=λz=>by subst z;rw[hf]at e;cases e
  have n2:b≠c:=λz=>by subst z;rw[hc]at e;cases e
  rw[pH n1 n2]
  exact un.iA b xs (by rw[ir n1 n2];exact e)
 ·have n1:b≠f:=λz=>by subst z;rw[hf]at e;cases e
  have n2:b≠c:=λz=>by subst z;rw[hc]at e;cases e
  rw[pH n1 n2]
  exact un.g8 b ob xs (by rw[ir n1 n2];exact e)
 ·have n1:b≠f:=λz=>by subst z;rw[hf]at e;cases e
  have n2:b≠c:=λz=>by subst z;rw[hc]at e;cases e
  rw[pH n1 n2]
  exact un.gD b ps (by rw[ir n1 n2];exact e)
 ·by_cases z:b=f
  ·subst z
   rw[OW,hf]at e;cases e
   refine⟨⟨kf,kc⟩,⟨_,kf⟩,λh1 h2 p kk=>⟨kk b _ (.inl rfl) p.1,kk c _ (.inr ?_) p.2⟩⟩
   rw[GO];exact hc
  ·by_cases z2:b=c
   ·subst z2
    rw[GO,hc]at e;cases e
    exact⟨_,kc⟩
   ·rw[pH z z2]at e
    have up:∀{b' o'},H' b'=some o'->nN H H' f c b'=some o':=λ{b' o'} q=>by
     rw[pH (λz=>by subst z;rw[nf]at q;cases q) (λz=>by subst z;rw[nc]at q;cases q)];exact q
    exact(aE b o e).iW (λ_ _ _ q=>q) (λ_ q=>up q) (λ_ _ q=>up q) λ_ _ q=>up q
theorem bW3{prog:Program}{w:World}{A:Around}{R:Result->Shared->Prop}{s:Shared}{a:Addr}{args:Args}{o:Obj}{fd:FuncData}{body:Expr}{q:Str}(cM0:A.depth<recursionLimit)
  (ho:s.heap.get? a=some o)
  (xw:o.data=.func fd) (hco:fd.scope.isCoroutine=false) (cM2:fd.scope.isGenerator=false) (gK:fd.body=.expr body) (b9:s.heap.CodeRec fd.code q)
  (h:wpAny (model prog w) A.in1 (bindArgs fd args) (λbinds bz =>
   wpAny (model prog w) A.in1 (newFunctionEnv fd.scope fd.globals fd.closure binds (q++".<locals>.") (some a) fd.code none fd.builtins)
    (λenv jE=>jE.heap.NoLimit/\codeAny (model prog w) A (.expr body env) R jE) (λe s'=>R (.error e) s') bz) (λe s'=>R (.error e) s') s) :
  codeAny (model prog w) A (.call (.ref a) args) R s:=by
 refine codeAny_of_tree ?_
 show wpAny _ A.in1 (callAny (.ref a) args) _ _ s
 simp only[callAny]
 refine wpAny_bind (wpAny_load ho ?_)
 obtain⟨c,oc,vs,tq,hc,iZ,GQ,hq⟩:=b9
 simp only[xw,callFunction,hco,cM2,gK,hc]
 rw[hc]at h
 refine wpAny_bind (m:=field (.ref c) 1) (wpAny_field iZ GQ hq (wpAny_bind (wpAny_pure ?_)))
 exact wpAny_bind (wpAny_mono h (λbinds bz Cv=>wpAny_bind (wpAny_mono Cv (λenv jE OZ=>wpAny_bind (wpAny_enterFrame OZ.1 cM0
  (wpAny_pure (And.intro rfl OZ.2)))) λ_ _ h'=>h')) λ_ _ h'=>h')
structure O0(p1 p2 x:Str)(sc:Scope):Prop where
 kind:sc.kind=.function
 co:sc.isCoroutine=false
 gen:sc.isGenerator=false
 nd:[p1,p2,x].Nodup
 l1:sc.names.lookup p1=some .local
 l2:sc.names.lookup p2=some .local
 O1:∀y∈sc.names,y.2≠.cell
 only:∀y∈sc.names,y.2=.free->y.1=x
 lx:sc.names.lookup x=some .free
noncomputable def rV(CX:dR)(P:Program)(w:World)(K:PySem.W.Frag)(mg:Str->Option Value)(base:Heap)(N:List Str)(qual:Str)(scope:Scope)(f:Addr)(cd:Value)(cl:List (Str × Addr))(A:Around)(outer:List Env)(s:Shared)(H:Hp)(E:XK):Cx where
 prog:=P
 w:=w
 K:=K
 mg:=mg
 base:=base
 A:=A.deeper (PySem.W.envX qual scope s.heap.objs.size f cd cl)
 N:=N
 cw:=s
 j3:=H
 env:=PySem.W.envX qual scope s.heap.objs.size f cd cl
 outer:=outer
 stack:=PySem.W.envX qual scope s.heap.objs.size f cd cl::outer
 ex:=[]
 calm:=true
 fn:=λ_=>false
 pn:=[]
 xe:=λe s'=>wpAny (model P w) (A.deeper (PySem.W.envX qual scope s.heap.objs.size f cd cl)) (leaving (PySem.W.envX qual scope s.heap.objs.size f cd cl) e) (λ_ qP=>CX outer H s E e qP) (λe' qP=>CX outer H s E e' qP) s'
theorem ce6{CX:dR}{P:Program}{w:World}{K:PySem.W.Frag}{mg:Str->Option Value}{base:Heap}{p1 p2 x qn q:Str}{params:Arguments}{body:Expr}{scope:Scope}{pm jt:Value}{f c c':Addr}{k:Nat}{A:Around}{outer:List Env}{s:Shared}{H:Hp}{E:XK}
  {u1 u2 uc:Value} {v1 v2 vc:V} {Q:VK} {t:TE} {args:Args} (S:O0 p1 p2 x scope) (e0:i7 P w K mg base A outer s H) (hr:bL (k+1) A)
  (hf:s.heap.get? f=some (PySem.W.kla_obj "<lambda>" qn params body scope [(x,c)] pm c' jt)) (hc:s.heap.IsCell c (some uc)) (rc:RelV vc uc) (hH:H c=none) (b9:s.heap.CodeRec (.ref c') q)
  (hb:bindArgs (PySem.W.kla_fn "<lambda>" qn params body scope [(x,c)] pm (.ref c') jt) args=pure [(p1,u1),(p2,u2)]) (r1:RelV v1 u1) (r2:RelV v2 u2)
  (ht:PE (rV CX P w K mg base [p1,p2,x] q scope f (.ref c') [(x,c)] A outer s H E) body t) (h:t [some v1,some v2,some vc] H Q) :
  codeAny (model P w) A (.call (.ref f) args) (CR CX outer P w H s Q E) s:=by
 have lim:s.heap.NoLimit:=e0.mod.nolimit.keeps λb o e=>(e0.bs b o e).1
 refine bW3 hr.depth hf rfl S.co S.gen rfl b9 ?_
 rw[hb]
 have cM4:∀y∈[(p1,u1),(p2,u2)],scope.names.lookup y.1=some .local:=λy hy=>by
  simp at hy
  rcases hy with rfl | rfl
  ·exact S.l1
  ·exact S.l2
 refine wpAny_pure (wpAny_newFunctionEnv S.O1 cM4 (λCv Cq O2=>⟨lim.fresh _ O2,?_⟩) S.kind)
 show codeAny _ _ (.expr body (PySem.W.envX q scope s.heap.objs.size f (.ref c') [(x,c)])) _ _
 have hk:∀b o,s.heap.get? b=some o->Cv.get? b=some o:=λb o e=>O2.extBut b o (eB (bH e)) (fC _ e)
 have cO:p1≠p2/\p1≠x/\p2≠x:=by have:=S.nd;simp at this;exact⟨this.1.1,this.1.2,this.2⟩
 have look:∀y d,([(x,c)]:List (Str × Addr)).lookup y=some d->y=x/\d=c:=λy d e=>by
  rw[gC]at e
  split at e
  ·rename_i z;exact⟨beq_iff_eq.mp z,(dq e).symm⟩
  ·cases e
 have I:Inv (rV CX P w K mg base [p1,p2,x] q scope f (.ref c') [(x,c)] A outer s H E) [] [some v1,some v2,some vc] H { s with heap:=Cv,toks:=s.toks+[(p1,u1),(p2,u2)].length }:=by
  refine⟨⟨e0.mod,S.kind,rfl,rfl,bD _,λy z d h1 h2=>?_,λy hy=>?_,λy d z _=>absurd z (by simp[rV]),λ_=>hr.hd,Around.frames_deeper e0.frames,.inr ⟨rfl,rfl⟩,λb z=>absurd z (by simp[rV]),e0.bs,e0.iX,λb _ _=>by simp[rV],λb z=>absurd z (by simp[rV]),e0.fY,e0.iY⟩,
   rfl,e0.bare,Un.kept hk,⟨_,Cq,λi y v h1 h2 h3=>?_⟩,λy d h=>?_,e0.aE.fresh (bD _),λy d h=>?_,λp hp=>absurd (show p∈([]:List (Addr × Obj)) from hp) (by simp),e0.aE.kept hk,rfl⟩
  ·exact(look y d h1).1.trans (look z d h2).1.symm
  ·have hy:scope.names.lookup y=some .cell\/scope.names.lookup y=some .free:=hy
   rcases hy with hy | hy
   ·exact absurd rfl (S.O1 _ (PySem.mem_of_lookup hy))
   ·obtain rfl:y=x:=S.only _ (PySem.mem_of_lookup hy) rfl
    exact⟨c,by show([(y,c)]:List (Str × Addr)).lookup y=_;rw[gC,beq_self_eq_true]⟩
  ·match i,h1,h2 with
   | 0,h1,h2 =>
    cases h1;cases h2
    exact⟨u1,r1,.inl ⟨S.l1,by
     show([(p1,u1),(p2,u2)]:List (Str × Value)).reverse.lookup p1=_
     simp[gC,beq_eq_false_iff_ne.mpr cO.1]⟩⟩
   | 1,h1,h2 =>
    cases h1;cases h2
    exact⟨u2,r2,.inl ⟨S.l2,by
     show([(p1,u1),(p2,u2)]:List (Str × Value)).reverse.lookup p2=_
     simp[gC]⟩⟩
   | 2,h1,h2 =>
    cases h1;cases h2
    exact⟨uc,rc,.inr ⟨.inr S.lx,c,by show([(x,c)]:List (Str × Addr)).lookup x=_;rw[gC,beq_self_eq_true],hc.keeps hk⟩⟩
   | n+3,h1,h2=>cases h2
  ·obtain⟨rfl,rfl⟩:=look y d h
   exact⟨_,hc.keeps hk⟩
  ·obtain⟨rfl,rfl⟩:=look y d h
   exact hH
 refine PySem.W.kla_codeExpr (wpAny_mono (ht [] _ _ H _ I h) (λu s' hs=>?_) λe s' hs=>hs)
 obtain⟨v,H',J,rv,q⟩:=hs
 exact⟨v,H',J.os,J.bare,J.base,J.aE,rv,q⟩
end L2
namespace L3
open PySem L2 PySem.Spec PyProof.Rows
theorem ae.nN{H H':Hp}{f c:Addr}{o1 o2:HO}(h:ae (rem H f c) H')(h1:H f=some o1)(n1:gh o1=true)(h2:H c=some o2)(n2:gh o2=true):ae H (nN H H' f c) where
 get b o e n:=by
  by_cases z:b=f
  ·rw[z,OW,<- z];exact e
  ·by_cases z2:b=c
   ·rw[z2,GO,<- z2];exact e
   ·rw[pH z z2];exact h.get b o (by rw[ir z z2];exact e) n
 tb b ps e:=by
  have z:b≠f:=λz=>by subst z;rw[h1]at e;cases e;cases n1
  have z2:b≠c:=λz=>by subst z;rw[h2]at e;cases e;cases n2
  rw[pH z z2]
  exact h.tb b ps (by rw[ir z z2];exact e)
noncomputable abbrev vG:=Int->Int->(Int->Prop)->Prop
structure za(P:Program)(w:World)(K:PySem.W.Frag)(mg:Str->Option Value)(base:Heap)(n:Nat)(of oc:Obj)(c k:Addr)(sp:vG):Prop where
 fn:∃o1 od fd sl,of=⟨o1,od,.func fd,sl⟩
 run:∀(A:Around) (outer:List Env) (s:Shared) (H:Hp) (f:Addr) (t u:Tok) (i j:Int) (Qd:Int->Prop),bL n A->i7 P w K mg base A outer s H->s.heap.get? f=some of->s.heap.get? c=some oc->H c=none->(∃q,s.heap.CodeRec (.ref k) q)->sp i j Qd ->
  codeAny (model P w) A (.call (.ref f) ⟨[.int i t,.int j u],[]⟩) (CR aT outer P w H s (λv H'=>∃r,v=.int r/\Qd r/\ae H H') (λ_ _ _=>False)) s
noncomputable def vH(L:Obj->Obj->Addr->Addr->vG->Prop)(i:Nat)(ta:bX):aI:=λδ Q=>∃of oc c k sp,δ[i]?=some (some (.bx (.lam of oc c k)))/\L of oc c k sp/\ta δ λds ag=>∃a b,ds=[.int a,.int b]/\sp a b λr=>Q (.int r) ag
theorem O3{X:Cx}{n i:Nat}{x:Str}{p pos:Pos}{e1 e2:Expr}{ta:bX}(hN:X.N[i]?=some x)(hv:iB X.env.scope x)(hr:bL n X.A)(ha:PA X [e1,e2] (lA ta))
  (hd:(x==("__debug__":Str))=false:=by decide) (b9:(x==("__classdict__":Str))=false:=by decide) (he:starEach [e1,e2] X.env=(false,eval e1 X.env)::starEach [e2] X.env:=by rfl) (bj:(backTo pos (starEach [e2] X.env)).any (·.1)=false:=by rfl) :
  PE X (.Call (.Name x p) [e1,e2] [] pos) (lE (vH (za X.prog X.w X.K X.mg X.base n) i ta)):=by
 intro pins s σ H Q I zz
 obtain⟨B,F,δ,ts,Qd,c,⟨of,oc,cc,k,sp,ed,L,q⟩,kk⟩:=zz
 obtain⟨v,ev,sv⟩:=c.look ed
 obtain⟨f,rfl,lam⟩:∃f,v=.ref f/\ka H f of oc cc k:=by
  cases sv with
  | bx h _=>exact⟨_,rfl,h⟩
 refine wpAny_Call_Name_kw (aO (j5 hN hv hd b9 pins s σ H (λv' H'=>v'=.ref f/\H'=H) I ⟨_,ev,rfl,rfl⟩) λu s1 zz=>?_)
 obtain⟨v',H',I1,r1,e1,e2⟩:=zz
 subst e1 e2
 obtain rfl:u=.ref f:=r1
 have fnAt:∀{H1:Hp} {s2:Shared},Inv X pins σ H1 s2->ka H1 f of oc cc k->PySem.W.FnAt f s2.heap:=λ{H1 s2} J l=>by
  obtain⟨o1,od,fd,sl,e⟩:=L.fn
  exact⟨o1,od,fd,sl,by rw[<-e];exact(J.aE.lam l.fn).1⟩
 refine PySem.W.callWith_F (fnAt I1 lam) (aO (ha pos pins s1 σ H' (λvs H2=>∃a b ag F',vs=[.int a,.int b]/\(sp a b λr=>Qd (.int r) ag)/\ae F F'/\ae H' H2/\ai B F' H2 σ ag ts) I1
  ⟨B,F,δ,ts,_,c,q,λds ag vs F' H2 ⟨a,b,eds,q2⟩ f1 h1 c1 s1=>?_⟩) λus s2 ⟨vs,H2,I2,r2,a,b,ag,F',evs,q2,f1,h1,c1⟩=>⟨fnAt I2 ((show qX H' f (.lam of oc cc k) from lam).mono λa o e _ t=>h1.get a o e t),?_⟩) he bj
 ·subst eds
  refine⟨a,b,ag,F',?_,q2,f1,h1,c1⟩
  cases s1 with
  | int s1=>cases s1 with
   | int s1=>cases s1;rfl
 ·subst evs
  have pI:ka H2 f of oc cc k:=(show qX H' f (.lam of oc cc k) from lam).mono λa o e _ t=>h1.get a o e t
  obtain⟨o1,od,fd,sl,eof⟩:=L.fn
  have cM7:of.data=.func fd:=by rw[eof]
  obtain⟨gf,gc⟩:=I2.aE.lam pI.fn
  obtain⟨ψ,eψ,zb⟩:=pI.FK
  obtain⟨u1,u2,t1,t2,rfl⟩:∃(u1 u2:Unit) (t1 t2:Tok),us=[.int a t1,.int b t2]:=by
   cases r2 with
   | cons ra r2=>cases r2 with
    | cons rb r2 =>
     cases r2
     obtain⟨t1,rfl⟩:=ra
     obtain⟨t2,rfl⟩:=rb
     exact⟨(),(),t1,t2,rfl⟩
  refine wpAny_call (codeAny_mono (L.run X.A X.stack s2 (rem H2 f cc) f t1 t2 a b _ hr (I2.tP.rem pI.fn pI.cell cM7) gf gc Cu (zb _ (I2.aE k _ eψ).1) q2) λr s' hq=>?_)
  cases r with
  | error e=>exact hq.elim
  | ok fl =>
   cases fl with
   | ret u =>
    refine I2.after (CE.add I2.tP pI.fn pI.cell hq (Q':=Q) ?_)
    rintro v H3 ⟨r,rfl,hqd,hs⟩ nf nc
    have sm:=hs.nN pI.fn rfl pI.cell rfl
    exact kk _ ag _ F' _ hqd f1 (h1.trans sm) ((c1.grow sm).pushS (.int .nil) rfl)
   | next=>exact eW hq
   | brk=>exact eW hq
   | cont=>exact eW hq
end L3
namespace L2
open PySem PySem.Spec PyProof.Rows
theorem bx7{p:Pos}{c:Value}(l:List Value)(h:TriplesOk l):TriplesOk (l++[rawInt p.line,rawInt p.col,c]):=by
 fun_induction TriplesOk l with
 | case1=>simp[TriplesOk,rawInt]
 | case2 a b d e f rest ih=>exact ih h
 | case3=>exact h.elim
theorem bG2{p q:Pos}{c cv:Value}(l:List Value)(h:TriplesOk l)(e:codeAmong q (l++[rawInt p.line,rawInt p.col,c])=some cv):codeAmong q l=some cv\/cv=c:=by
 fun_induction TriplesOk l with
 | case1 =>
  simp only[qt,rawInt,codeAmong]at e
  split at e
  ·exact .inr (dq e).symm
  ·cases e
 | case2 a b d e' f rest ih =>
  simp only[jZ,codeAmong]at e ⊢
  split at e
  ·rename_i z;rw[if_pos z];exact .inl e
  ·rename_i z;rw[if_neg z];exact ih h e
 | case3=>exact h.elim
noncomputable def nO(f:Addr)(o:Obj):Heap->Prop:=λh=>h.get? f=some o
noncomputable def cC8(P c:Addr)(x:Str)(params:Arguments)(body:Expr)(scope:Scope):TE:=λ_ H Q=>(∃ps,H P=some (.dr ps)) /\
 ∀f k qn pm jt H',H f=none->H' f=some (.ext (nO f (PySem.W.kla_obj "<lambda>" qn params body scope [(x,c)] pm k jt)))->L3.FJ H' k->k≠f->L3.ae H H'->(∀a ws,H' a=some (.lst ws)->H a=some (.lst ws))->Q (.ref f) H'
theorem O4{X:Cx}{P c cc:Addr}{x:Str}{params:Arguments}{body:Expr}{scope:Scope}{pos:Pos}(gR:closureFor scope X.env=pure [(x,c)])(Cw:X.env.code=.ref cc)(hK:PySem.W.codeHdIn X.K cc P=true)(y9:Bm X.mg X.base)
  (cN3:defaultsOf params X.env=([],[]):=by rfl):PE X (.Lambda params body scope pos) (cC8 P c x params body scope):=by
 intro pins s σ H Q I zz
 obtain⟨⟨ps,hP⟩,q⟩:=zz
 obtain⟨bm,ob,b1,b2,b3,b4,b5,b6,b7⟩:=y9
 have C:=PySem.W.codeHd_of_K I.cB hK
 obtain⟨oP,Cy,codes⟩:=I.aE P _ hP
 have hg:=I.mod.glob.keeps I.bk
 have O5:∀{b o},X.base.get? b=some o->b≠P:=λ{b o} e z=>by
  have:=(I.bs b o e).2
  rw[z,hP]at this;cases this
 have hgP:mainGlobals≠P:=by
  obtain⟨o,es,ep,e,_⟩:=I.mod.glob
  exact O5 e
 have O6:s.heap.BuiltinsAt X.mg P:=⟨bm,ob,b1,b2,b3,O5 b4,I.bk _ _ b4,b5,b6,b7⟩
 refine PySem.W.kla_eval cN3 ?_
 have fresh:∀{b:Addr},s.heap.objs.size<=b->H b=none:=λ{b} h=>I.aE.fresh h
 cases GR:codeAmong pos ps.toList with
 | none =>
  refine PySem.W.kla_makeFunction (mg:=X.mg) gR I.ok.glob hg Cw C oP Cy GR hgP O6 λk jt h' tk hx zc fQ cN5 O7=>?_
  have GS:P<s.heap.objs.size:=bH oP
  have hPk:k≠P:=λz=>by rw[z]at zc;exact absurd GS (xn.mpr zc)
  have rW:s.heap.objs.size<=h'.objs.size:=eK zc (Av fQ)
  have hPf:h'.objs.size≠P:=λz=>by rw[<-z]at GS;exact absurd GS (xn.mpr rW)
  have O8:k≠h'.objs.size:=eB fQ
  generalize O9:PySem.W.kla_obj "<lambda>" (X.env.qual++"<lambda>") params body scope [(x,c)] ((X.mg "__name__").getD .none) k jt=obj
  have eT:obj.isFreed=false:=by rw[<-O9];rfl
  have zd:∀b,b≠P->b≠k->b≠h'.objs.size->upd (upd (upd H P (.dr (ps++#[rawInt pos.line,rawInt pos.col,.ref k]))) k (.ext λh=>∃q,h.CodeRec (.ref k) q)) h'.objs.size (.ext (nO h'.objs.size obj)) b=H b:=λb n1 n2 n3=>by
   rw[aL n3,aL n2,aL n1]
  have Cz:upd (upd (upd H P (.dr (ps++#[rawInt pos.line,rawInt pos.col,.ref k]))) k (.ext λh=>∃q,h.CodeRec (.ref k) q)) h'.objs.size (.ext (nO h'.objs.size obj)) h'.objs.size=some (.ext (nO h'.objs.size obj)):=br
  have atK:upd (upd (upd H P (.dr (ps++#[rawInt pos.line,rawInt pos.col,.ref k]))) k (.ext λh=>∃q,h.CodeRec (.ref k) q)) h'.objs.size (.ext (nO h'.objs.size obj)) k=some (.ext λh=>∃q,h.CodeRec (.ref k) q):=by rw[aL O8,br]
  have CA:upd (upd (upd H P (.dr (ps++#[rawInt pos.line,rawInt pos.col,.ref k]))) k (.ext λh=>∃q,h.CodeRec (.ref k) q)) h'.objs.size (.ext (nO h'.objs.size obj)) P=some (.dr (ps++#[rawInt pos.line,rawInt pos.col,.ref k])):=by rw[aL hPf.symm,aL hPk.symm,br]
  generalize hHn:upd (upd (upd H P (.dr (ps++#[rawInt pos.line,rawInt pos.col,.ref k]))) k (.ext λh=>∃q,h.CodeRec (.ref k) q)) h'.objs.size (.ext (nO h'.objs.size obj))=Hn at zd Cz atK CA
  have old:∀{b o},H b=some o->b≠P->Hn b=some o:=λ{b o} e n=>by
   have hb:b<s.heap.objs.size:=I.aE.lt e
   rw[zd b n (λz=>absurd hb (xn.mpr (z ▸ zc))) (λz=>absurd hb (xn.mpr (z ▸ rW)))];exact e
  have kept:∀b o,b≠P->s.heap.get? b=some o->(h'.push obj).get? b=some o:=λb o n e=>fC _ (hx b o n e)
  have un:Un X.fs [] H Hn s.heap (h'.push obj):=by
   refine⟨λb o e n _ _=>kept b o (λz=>by rw[z,hP]at n;cases n) e,λb o e n _ _=>⟨o.slots,kept b o (λz=>by rw[z,hP]at n;cases n) e⟩,λb o e n _=>?_,λb o e _=>?_,λb xs e=>old e (λz=>by rw[z,hP]at e;cases e),λb ob xs e=>old e (λz=>by rw[z,hP]at e;cases e),λb Pa e=>?_⟩
   ·have hb:=bH e
    rw[zd b (λz=>by rw[z,hP]at n;cases n) (λz=>absurd hb (xn.mpr (z ▸ zc))) (λz=>absurd hb (xn.mpr (z ▸ rW)))];exact n
   ·by_cases z:b=P
    ·rw[z];exact⟨_,fC _ O7⟩
    ·exact⟨o,kept b o z e⟩
   ·by_cases z:b=P
    ·subst z
     rw[hP]at e;cases e
     exact⟨_,CA⟩
    ·exact⟨#[],by rw[old e z];simp⟩
  have aE:cK X.prog X.w Hn (h'.push obj):=λb o e=>by
   by_cases z1:b=h'.objs.size
   ·subst z1
    rw[Cz]at e;cases e
    exact⟨gX _ eT,⟨_,gX _ eT⟩,λh1 h2 p kk=>kk _ _ (.inl rfl) p⟩
   ·by_cases z2:b=k
    ·subst z2
     rw[atK]at e;cases e
     have hr:=cN5.push obj
     refine⟨⟨_,hr⟩,?_,λh1 h2 ⟨q,c1,o1,vs,t,e1,e2,r⟩ kk=>?_⟩
     ·obtain⟨c1,o1,vs,t,e1,e2,_⟩:=hr
      cases e1
      exact⟨o1,e2⟩
     ·cases e1
      exact⟨q,_,o1,vs,t,rfl,kk _ _ (.inl rfl) e2,r⟩
    ·by_cases z3:b=P
     ·subst z3
      rw[CA]at e;cases e
      refine⟨fC _ O7,by rw[VJ];exact bx7 _ Cy,λp' cv e'=>?_⟩
      rw[VJ]at e'
      rcases bG2 _ Cy e' with e' | e'
      ·obtain⟨d,φ,e1,e2,e3⟩:=codes p' cv e'
       exact⟨d,φ,e1,old e2 (λz=>by rw[z,hP]at e2;cases e2),e3⟩
      ·exact⟨k,_,e',atK,λh' p=>p⟩
     ·rw[zd b z3 z2 z1]at e
      have nP:∀{b' o'},H b'=some o'->(∀ps,o'≠.dr ps)->b'≠P:=λ{b' o'} e n z=>by rw[z,hP]at e;cases e;exact n _ rfl
      refine(I.aE b o e).iW (λb' u pJ e'=>kept b' u ?_ e') (λb' e'=>old e' (nP e' (λps z=>by cases z))) (λb' xs e'=>old e' (nP e' (λps z=>by cases z))) λb' φ e'=>old e' (nP e' (λps z=>by cases z))
      rcases pJ with rfl | pJ
      ·exact z3
      ·exact nP pJ (λps z=>by cases z)
  refine⟨.ref h'.objs.size,Hn,I.un un aE,rfl,q _ k _ _ _ _ (fresh rW) (by rw[O9];exact Cz) ⟨_,atK,λh p=>p⟩ O8 ⟨λb o e n=>old e (λz=>by rw[z,hP]at e;cases e;cases n),λb Pa e=>?_⟩ λa ws e=>?_⟩
  ·exact un.gD b Pa e
  ·by_cases z1:a=h'.objs.size
   ·subst z1;rw[Cz]at e;cases e
   ·by_cases z2:a=k
    ·subst z2;rw[atK]at e;cases e
    ·by_cases z3:a=P
     ·subst z3;rw[CA]at e;cases e
     ·rw[zd a z3 z2 z1]at e;exact e
 | some cv =>
  obtain⟨k,φ,rfl,hk,GP⟩:=codes pos cv GR
  refine PySem.W.kla_makeFunctionHit (mg:=X.mg) gR I.ok.glob hg Cw C oP Cy GR O6 λjt h' tk hx rW=>?_
  have hf:=fresh rW
  refine⟨.ref h'.objs.size,upd H h'.objs.size (.ext (nO h'.objs.size (PySem.W.kla_obj "<lambda>" (X.env.qual++"<lambda>") params body scope [(x,c)] ((X.mg "__name__").getD .none) k jt))),I.laid (λb u e=>fC _ (hx b u e)) rW ?_,rfl,q _ k (X.env.qual++"<lambda>") ((X.mg "__name__").getD .none) jt _ hf br ⟨φ,?_,GP⟩ (dH hk hf) (L3.ae.of λb o e=>?_) λa ws e=>?_⟩
  ·exact⟨gX _ rfl,⟨_,gX _ rfl⟩,λh1 h2 p kk=>kk _ _ (.inl rfl) p⟩
  ·rw[aL (dH hk hf)];exact hk
  ·rw[aL (dH e hf)];exact e
  ·by_cases z:a=h'.objs.size
   ·subst z;rw[br]at e;cases e
   ·rw[aL z]at e;exact e
end L2
namespace L2
open PySem PySem.Spec PyProof.Rows
structure vI(K:PySem.W.Frag)(C:Addr)(m:Str)(f:Addr):Prop where
 ga:PySem.W.specialIn K (.ref C) "__getattribute__"=some (some (.builtin "type.__getattribute__"))
 rd:PySem.W.readsIn K C (.type "type")=true
 at_:PySem.W.findCls K (.ref C) (.type "type") m=some (.val (.ref f))
 kp:PySem.W.keepIn K (.ref f)=true
section
variable{X:Cx}{CX:dR}{k:Nat}{f C:Addr}{fd:FuncData}{ps:List Str}{sp:Sp}{E:XK}{x m:Str}{p pos apos:Pos}{e o:Expr}{es:List Expr}{ta:TE}{t:TA}
theorem b20{pins:List (Addr × Obj)}{σ:St}{H:Hp}{s:Shared}{pl:Sem Bool}{A:Around}{E':Value->Shared->Prop}{Q:Value × List Value->Shared->Prop}(I:Inv X pins σ H s)(M:vI X.K C m f)(h:∀s',Inv X pins σ H s'->Q (.ref f,[]) s') :
  wpAny (model X.prog X.w) A (getMethod (.ref C) m pl) Q E' s :=
 PySem.W.method_cls I.cB M.ga (PySem.W.cls_value (mc:=.type "type") I.cB M.rd M.at_ rfl (h _ (I.tok _)))
theorem Pb{pins:List (Addr × Obj)}{σ:St}{H:Hp}{s:Shared}{pl:Sem Bool}{Q:Value->Shared->Prop}{QA:List V->Hp->Prop}(I:Inv X pins σ H s)(M:vI X.K C m f)(hg:Gl X x)(hm:X.mg x=some (.ref C))(ha:PA X (e::es) t)(h:t σ H QA)
  (hq:∀us s1 vs H1,Inv X pins σ H1 s1->Vals vs us->QA vs H1->wpAny (model X.prog X.w) X.A (call (.ref f) us) Q X.xe s1)
  (cF:(x==("__debug__":Str))=false:=by decide) (bZ:starEach (e::es) X.env=(false,eval e X.env)::starEach es X.env:=by rfl) (bj:(backTo pos (starEach es X.env)).any (·.1)=false:=by rfl)
  (ht:eval (.Call (.Attribute (.Name x p) m apos) (e::es) [] pos) X.env=(do
   let ov<-eval (.Name x p) X.env
   standAt apos.atName
   let (f,first)<-holding [ov] (getMethod ov m pl)
   callWith pos f first (backTo pos (starEach (e::es) X.env)) (backToKw pos (keywordEach [] X.env))):=by rfl) :
  wpAny (model X.prog X.w) X.A (eval (.Call (.Attribute (.Name x p) m apos) (e::es) [] pos) X.env) Q X.xe s:=by
 refine PySem.W.methodCall_KW (pl:=pl) (qH I hg hm ?_ cF) ht
 refine b20 I M λs1 I1=>?_
 refine PySem.W.callWith_K (first:=[]) (h₀:=X.base) I.ok.mod.lQ M.kp (aO (ha pos pins s1 σ H _ I1 h) λus s2 ⟨vs,H2,I2,r,q2⟩=>⟨I2.cB,?_⟩) bZ bj
 exact hq us s2 vs H2 I2 r q2
noncomputable def cA3(sp:Sp)(E:XK)(c:Addr)(i:Nat)(t:TA):TE:=λσ H Q=>t σ H λvs H1=>∃f of fd v,H1 f=some (.ext (nO f of))/\of.data=.func fd/\σ[i]?=some (some v) /\
 ∀oc u,oc.data=.cell (some u)->RelV v u->H1 c=none->c≠f->sp vs (upd (upd H1 f (.ext (L3.jJ of oc c f))) c (.own f)) (λr H2=>H2 f=some (.ext (L3.jJ of oc c f))/\H2 c=some (.own f)/\Q r (rem H2 f c)) E
theorem Pc{pl:Sem Bool}{y:Str}{c:Addr}{i:Nat}(M:vI X.K C m f)(F:aM X.prog X.w X.K X.mg X.base aT k f fd ps sp)(hr:bL k X.A)(hb:Binds X.K fd ps [])(hg:Gl X x)(hm:X.mg x=some (.ref C))
  (hN:X.N[i]?=some y) (hy:X.env.scope.names.lookup y=some .cell) (gR:X.env.cells.lookup y=some c) (xB:X.fn y=true) (ha:PA X (e::es) t)
  (cF:(x==("__debug__":Str))=false:=by decide) (bZ:starEach (e::es) X.env=(false,eval e X.env)::starEach es X.env:=by rfl) (bj:(backTo pos (starEach es X.env)).any (·.1)=false:=by rfl)
  (ht:eval (.Call (.Attribute (.Name x p) m apos) (e::es) [] pos) X.env=(do
   let ov<-eval (.Name x p) X.env
   standAt apos.atName
   let (f,first)<-holding [ov] (getMethod ov m pl)
   callWith pos f first (backTo pos (starEach (e::es) X.env)) (backToKw pos (keywordEach [] X.env))):=by rfl) :
  PE X (.Call (.Attribute (.Name x p) m apos) (e::es) [] pos) (cA3 sp E c i t):=by
 intro pins s σ H Q I h
 refine Pb (pl:=pl) I M hg hm ha h (λus s1 vs H1 I1 r zq=>?_) cF bZ bj ht
 obtain⟨fa,of,fdd,v,hf,hd,hv,hq⟩:=zq
 obtain⟨ml,_,hl⟩:=I1.loc
 obtain⟨u,rv,lk⟩:=hl i y v hN hv (.inr (.inl hy))
 obtain⟨oc,gc,iZ⟩:∃oc,s1.heap.get? c=some oc/\oc.data=.cell (some u):=by
  rcases lk with⟨hk,_⟩ | ⟨_,c',xC,ic⟩
  ·rw[show X.env.kindOf y=some .cell from hy]at hk;cases hk
  ·rw[gR]at xC;cases xC;exact ic
 have nc:H1 c=none:=I1.fO y c gR
 have pK:c≠fa:=λz=>by rw[z,hf]at nc;cases nc
 have gf:s1.heap.get? fa=some of:=(I1.aE fa _ hf).1
 have iE:=hq oc u iZ rv nc pK
 have Pd:=I1.ok.mS y c xB gR
 generalize hH:upd (upd H1 fa (.ext (L3.jJ of oc c fa))) c (.own fa)=Hp at iE
 have Pe:Hp c=some (.own fa):=by rw[<-hH,br]
 have atf:Hp fa=some (.ext (L3.jJ of oc c fa)):=by rw[<-hH,aL pK.symm,br]
 have mw:∀b,b≠fa->b≠c->Hp b=H1 b:=λb n1 n2=>by rw[<-hH,aL n2,aL n1]
 have nfs:c ∉ X.fs:=λhb=>by
  obtain⟨_,o,ho,_⟩:=I1.ok.fY.mem hb
  exact absurd (cH (bH ho) Pd) (gA _)
 have mx:∀b∈dB X.stack,b≠c:=λb hb z=>by
  rcases cq.mp (I1.xx b hb)with e | hb
  ·exact I1.j4 y c gR (z ▸ e)
  ·exact nfs (z ▸ hb)
 have cO2:cK X.prog X.w Hp s1.heap:=λb ob q=>by
  by_cases z1:b=c
  ·subst z1;rw[Pe]at q;cases q;exact⟨_,gc⟩
  ·by_cases z2:b=fa
   ·subst z2;rw[atf]at q;cases q
    exact⟨⟨gf,gc⟩,⟨_,gf⟩,λh1 h2 p kk=>⟨kk _ _ (.inl rfl) p.1,kk _ _ (.inr Pe) p.2⟩⟩
   ·rw[mw b z2 z1]at q
    have x1:=(I1.aE b ob q).rem (f:=fa) (c:=c) z2 hf (.inr nc) (OX gf (λ_ p=>p) hd)
    have up:∀{b' o'},rem H1 fa c b'=some o'->Hp b'=some o':=λ{b' o'} q=>by
     obtain⟨n1,n2,q'⟩:=OV q
     rw[mw b' n1 n2];exact q'
    exact x1.iW (λ_ _ _ q=>q) (λ_ q=>up q) (λ_ _ q=>up q) λ_ _ q=>up q
 have e0:i7 X.prog X.w X.K X.mg X.base X.A X.stack s1 Hp:=by
  have e1:=I1.tP
  refine⟨e1.frames,e1.mod,λb ob q=>⟨(e1.bs b ob q).1,?_⟩,e1.iX,e1.fY,λb hb=>?_,cO2,e1.bare⟩
  ·have hb0:=(I1.ok.bs b ob q).1
   rw[mw b (λz=>by have:=(e1.bs b ob q).2;rw[z,hf]at this;cases this) (λz=>absurd (cH (bH hb0) (z ▸ Pd)) (gA _))]
   exact(e1.bs b ob q).2
  ·have nb:=e1.iY b hb
   rw[mw b (λz=>by rw[z,hf]at nb;cases nb) (mx b hb)];exact nb
 have hlen:us.length=ps.length:=by rw[<-r.length];exact F.len _ _ _ _ iE
 refine wpAny_call (codeAny_mono (F.run X.A X.stack s1 Hp ⟨us,[]⟩ us vs _ E hr e0 (by have:=hb s1 us I1.cB (by rw[fj];exact hlen);rwa [fj]at this) r iE) λrr s' hz=>?_)
 cases rr with
 | error e=>exact hz.elim
 | ok fl =>
  cases fl with
  | next=>exact eW hz
  | brk=>exact eW hz
  | cont=>exact eW hz
  | ret u' =>
   obtain⟨v',H2,os,bare,un,Pf,rv',q1,q2,q3⟩:=hz
   obtain⟨_,Pg⟩:=Pf.lam q1
   refine I1.after ⟨v',rem H2 fa c,os,bare,⟨λb ob g n hb hx=>?_,λb ob g n hb hx=>?_,λb ob g n hx=>?_,un.there,λb xs g=>?_,λb ob xs g=>?_,λb ps g=>?_⟩,Pf.rem q1 q2 hd,rv',q3⟩
   ·by_cases z:b=c
    ·rw[z,gc]at g;cases g;rw[z];exact Pg
    ·exact un.keep b ob g (by rw[mw b (λz=>by rw[z,hf]at n;cases n) z];exact n) hb hx
   ·by_cases z:b=c
    ·rw[z,gc]at g;cases g;rw[z];exact⟨_,Pg⟩
    ·exact un.slot b ob g (by rw[mw b (λz=>by rw[z,hf]at n;cases n) z];exact n) hb hx
   ·by_cases z:b=c
    ·rw[z];exact Cu
    ·exact vF (un.free b ob g (by rw[mw b (λz=>by rw[z,hf]at n;cases n) z];exact n) hx)
   ·have n1:b≠fa:=λz=>by rw[z,hf]at g;cases g
    have n2:b≠c:=λz=>by rw[z,nc]at g;cases g
    rw[ir n1 n2]
    exact un.iA b xs (by rw[mw b n1 n2];exact g)
   ·have n1:b≠fa:=λz=>by rw[z,hf]at g;cases g
    have n2:b≠c:=λz=>by rw[z,nc]at g;cases g
    rw[ir n1 n2]
    exact un.g8 b ob xs (by rw[mw b n1 n2];exact g)
   ·have n1:b≠fa:=λz=>by rw[z,hf]at g;cases g
    have n2:b≠c:=λz=>by rw[z,nc]at g;cases g
    rw[ir n1 n2]
    exact un.gD b ps (by rw[mw b n1 n2];exact g)
end
end L2
namespace L3
open PySem L2 PySem.Spec PyProof.Rows
theorem ze{ts:List Addr}{H H':Hp}(h:Tb ts H)(s:ae H H'):Tb ts H':=λP hP=>by
 obtain⟨ps,e⟩:=h P hP
 obtain⟨m,e2⟩:=s.tb P ps e
 exact⟨_,e2⟩
theorem Ph{P:Program}{w:World}{K:PySem.W.Frag}{mg:Str->Option Value}{base:Heap}{n:Nat}{p1 p2 x qn:Str}{params:Arguments}{body:Expr}{scope:Scope}{pm jt:Value}{oc:Obj}{c k:Addr}{m:Int}{tm:Tok}{sp:vG}(S:O0 p1 p2 x scope)
  (iZ:oc.data=.cell (some (.int m tm))) (hb:∀u1 u2:Value,bindArgs (PySem.W.kla_fn "<lambda>" qn params body scope [(x,c)] pm (.ref k) jt) ⟨[u1,u2],[]⟩=pure [(p1,u1),(p2,u2)])
  (gK:∀(q:Str) (f:Addr) (A:Around) (outer:List Env) (s:Shared) (H:Hp) (E:XK),bL n (A.deeper (PySem.W.envX q scope s.heap.objs.size f (.ref k) [(x,c)])) ->
   ∃t:aI,PE (rV aT P w K mg base [p1,p2,x] q scope f (.ref k) [(x,c)] A outer s H E).fZ body (lE t)/\∀i j Qd,sp i j Qd->t [some (.int i),some (.int j),some (.int m)] λd _=>∃r,d=.int r/\Qd r) :
  za P w K mg base (n+1) (PySem.W.kla_obj "<lambda>" qn params body scope [(x,c)] pm k jt) oc c k sp where
 fn:=⟨_,_,_,_,rfl⟩
 run A outer s H f t u i j Qd hr e0 gf gc hH b9 h:=by
  obtain⟨q,b9⟩:=b9
  obtain⟨tt,ht,hq⟩:=gK q f A outer s H (λ_ _ _=>False) (hr.deeper _)
  refine ce6 (v1:=.int i) (v2:=.int j) (vc:=.int m) (E:=λ_ _ _=>False) S e0 hr gf ⟨oc,gc,iZ⟩ ⟨tm,rfl⟩ hH b9 (hb _ _) ⟨t,rfl⟩ ⟨u,rfl⟩ ht.fZ ?_
  refine⟨⟨H,H⟩,H,_,[],_,?_,hq i j Qd h,λd ag v F' H' hd f1 h1 c1=>?_⟩
  ·exact ai.start (ds:=[.int i,.int j,.int m]) (vs:=[.int i,.int j,.int m]) (ae.refl H) (.int (.int (.int .nil))) 0
  ·obtain⟨r,rfl,hd⟩:=hd
   have s1:=c1.top
   cases s1
   exact⟨r,rfl,hd,h1⟩
section
variable{X:Cx}{CX:dR}{n:Nat}{f:Addr}{fd:FuncData}{ps:List Str}{sp:aZ}{E:XK}{x:Str}{p pos:Pos}{e:Expr}{es:List Expr}{t:bX}{tl:List Addr}
theorem Pj(hT:Tb tl X.j3)(F:aM X.prog X.w X.K X.mg X.base CX n f fd ps (vE tl (bo sp)))(hr:bL n X.A)(hg:Gl X x)(hm:X.mg x=some (.ref f))(hk:PySem.W.keepIn X.K (.ref f)=true)(hb:Binds X.K fd ps [])(hx:i8 CX X E)
  (ha:PA X (e::es) (lA t)) (cF:(x==("__debug__":Str))=false:=by decide) (he:starEach (e::es) X.env=(false,eval e X.env)::starEach es X.env:=by rfl) (bj:(backTo pos (starEach es X.env)).any (·.1)=false:=by rfl) :
  PE X (.Call (.Name x p) (e::es) [] pos) (lE (oZ sp t)):=by
 intro pins s σ H Q I zz
 obtain⟨B,F',δ,ts,Qd,c,q,k⟩:=zz
 have tb:=GN I hT
 refine iD F hr hg hm hk hb .nil hx ha cF he bj pins s σ H Q I ⟨B,F',δ,ts,_,c,q,λds aj vs F1 H1 q1 f1 h1 c1 s1=>?_⟩
 refine⟨ze tb h1,?_⟩
 rw[fj]
 exact yh c1 s1 q1 λd v F' H' hd hf hs c'=>k d aj v F' H' hd (f1.trans hf) (h1.trans hs) c'
end
section
variable{P:Program}{w:World}{K:PySem.W.Frag}{mg:Str->Option Value}{base:Heap}
theorem GU{x qual:Str}{st:Stmt}{f:Addr}{fd:FuncData}{N ps:List Str}{k:Nat}{sp:aZ}{tl:List Addr}(F:aY K x qual st f fd)(S:bf N ps (aP st))(len:∀ds Q,sp ds Q->ds.length=ps.length)
  (gK:∀(aG:Value) (A:Around) (outer:List Env) (s:Shared) (H:Hp) (E:XK),Tb tl H->bL k (A.deeper (envOfC qual (aP st) s.heap.objs.size f aG)) ->
   ∃t:bR,PSs (hV aT P w K mg base N qual (aP st) f aG A outer s H E).fZ (hW st) (lS (hV aT P w K mg base N qual (aP st) f aG A outer s H E).fZ t)/\∀ds Q,sp ds Q->t { nx:=λ_=>Q .aq,rt:=Q } (jL N ds)):aM P w K mg base aT (k+1) f fd ps (vE tl (bo sp)):=by
 refine F.ok S (λvs H Q E ⟨_,F,ds,Qd,e,r,h,_⟩=>by rw[<-r.length];exact len ds Qd h) λaG A outer s H vs Q E hr zz=>?_
 obtain⟨tb,F,ds,Qd,e,r,h,k⟩:=zz
 obtain⟨t,ht,hq⟩:=gK aG A outer s H E tb hr
 have fin:∀d v ag ax F' H',Qd d->ai ⟨H,F⟩ F' H' ax ag [(d,v)]->Q v H':=λd v ag ax F' H' hd c=>by
  obtain⟨A,C,r',s',nd,fr⟩:=c.own
  exact k d v F' H' A hd c.b1 c.b2 c.ext c.b3 r' (dE.mp nd).1 λa ha=>fr a (df _ ha)
 have e1:L2.start N vs=vs.map some++bg (N.length-ds.length) none:=by unfold L2.start;rw[r.length]
 refine⟨_,ht,⟨H,F⟩,F,jL N ds,_,?_,hq ds Qd h,λag ax F' H' hd c=>fin .aq .aq ag ax F' H' hd (c.pushS (.aq .nil) rfl),fin,λ_ _ _ _ z=>z.elim,λ_ _ _ _ z=>z.elim,XL.none (λ_ _ z=>z) λ_ _ z=>z⟩
 rw[e1]
 exact ai.start e r _
theorem Pk{x qual:Str}{st:Stmt}{f cc:Addr}{fd:FuncData}{N ps:List Str}{k:Nat}{sp:Sp}(F:aY K x qual st f fd)(Cw:fd.code=.ref cc)(S:bf N ps (aP st))(len:∀vs H Q E,sp vs H Q E->vs.length=ps.length)
  (gK:∀(A:Around) (outer:List Env) (s:Shared) (H:Hp) (vs:List V) (Q:VK) (E:XK),bL k (A.deeper (envOfC qual (aP st) s.heap.objs.size f (.ref cc)))->sp vs H Q E ->
   ∃t,PSs (hV aT P w K mg base N qual (aP st) f (.ref cc) A outer s H E).fZ (hW st) t/\t { nx:=λ_ H'=>Q .aq H',rt:=Q } (L2.start N vs) H):aM P w K mg base aT (k+1) f fd ps sp:=by
 obtain⟨oc,od,kV,doc,pm,an,aG,ct,lW,rfl,lk,b9⟩:=F.ex
 obtain rfl:aG=.ref cc:=Cw
 refine E7 lk b9 S len λA outer s H vs Q E hr i9=>?_
 obtain⟨t,h,q⟩:=gK A outer s H vs Q E hr i9
 exact⟨t,h.fZ,q⟩
end
end L3
namespace L3
open PySem L2 PySem.Spec PyProof.Rows
theorem bH8{ns:List Str}{xs:List D}{ws:List V}{F H:Hp}{f:Str}{d:D}(r:R F H xs ws [])(h:(ns.zip xs).lookup f=some d):∃w,(ns.zip ws).lookup f=some w/\R F H [d] [w] []:=by
 generalize e:([]:List Addr)=A at r
 induction ns generalizing xs ws A with
 | nil=>simp at h
 | cons n ns ih =>
  cases xs with
  | nil=>simp at h
  | cons x xs =>
   obtain⟨v,bW,A1,A2,rfl,rfl,h1,h2⟩:=R.cQ r
   obtain⟨rfl,rfl⟩:=AL.mp e.symm
   rw[VL]at h ⊢
   by_cases z:f=n
   ·subst z
    rw[gC,beq_self_eq_true]at h
    cases h
    refine⟨v,?_,h1⟩
    rw[gC,beq_self_eq_true]
   ·have z':(f==n)=false:=beq_eq_false_iff_ne.mpr z
    rw[gC,z']at h
    obtain⟨w,e1,e2⟩:=ih h [] rfl h2
    refine⟨w,?_,e2⟩
    rw[gC,z']
    exact e1
theorem GV{ns:List Str}{ws:List V}{f:Str}(h:f ∉ ns):(ns.zip ws).lookup f=none:=by
 induction ns generalizing ws with
 | nil=>simp
 | cons n ns ih =>
  cases ws with
  | nil=>simp
  | cons w ws =>
   rw[VL,gC]
   have hn:(f==n)=false:=beq_eq_false_iff_ne.mpr λz=>h (by rw[z];simp)
   simp only[hn]
   exact ih λz=>h (by simp[z])
theorem CB{F H:Hp}{C:Addr}{ns:List Str}{xs:List D}{v:V}(s:S F H [.obj C ns xs] [v]):∃p dx ws,v=.ref p/\H p=some (.ins C dx (ns.zip ws))/\ns.length=ws.length/\R F H xs ws []:=by
 cases s with
 | obj h l r _=>exact⟨_,_,_,rfl,h,l,r⟩
section
variable{X:Cx}{e o:Expr}{es:List Expr}{f m x:Str}{pos p apos:Pos}{t to:aI}{ta:bX}{n:Nat}
noncomputable def rX(K:PySem.W.Frag)(t:aI)(f:Str):aI:=λδ Q=>t δ λd ag=>∃C ns xs v,d=.obj C ns xs/\cY K C/\bt K C f/\(ns.zip xs).lookup f=some v/\Q v ag
theorem cA1(he:PE X e (lB t))(hb:attributeBase e f X.env (eval e X.env)=eval e X.env:=by rfl):PE X (.Attribute e f pos) (lB (rX X.K t f)) :=
 da (qO he hb) λσ H Q zq=>by
 obtain⟨B,F,δ,ts,Qd,c,q,k⟩:=zq
 exact⟨B,F,δ,ts,_,c,q,λd ag v F' H' ⟨C,ns,xs,w,ed,hc,hn,hl,hq⟩ f1 h1 c1 s1=>by
  subst ed
  obtain⟨p,dx,ws,rfl,hp,_,r⟩:=CB s1
  obtain⟨u,hu,ru⟩:=bH8 r hl
  exact⟨p,C,dx,_,u,rfl,hp,hc,hn,hu,k w ag u F' H' hq f1 h1 c1 ru.s⟩⟩
structure k9(P:Program)(w:World)(K:PySem.W.Frag)(mg:Str->Option Value)(base:Heap)(n:Nat)(m:Str)(C:Addr)(sp:aZ):Prop where
 cls:cY K C
 ex:∃f fd ps,Meth K C m f/\aM P w K mg base aT n f fd ps (bo sp)/\Binds K fd ps []
noncomputable def rY(MO:Addr->aZ->Prop)(m:Str)(to:aI)(ta:bX):aI:=λδ Q=>to δ λd aj=>∃C ns xs sp,d=.obj C ns xs/\MO C sp/\m ∉ ns/\ta aj λds aK=>sp ((D.obj C ns xs::ds).map D.sh) λr=>((D.obj C ns xs::ds).all D.pl||r.fr)=true/\Q r aK
theorem ct4{pl:Sem Bool}(ho:PE X o (lB to))(hr:bL n X.A)(ha:PA X (e::es) (lA ta))
  (bZ:starEach (e::es) X.env=(false,eval e X.env)::starEach es X.env:=by rfl) (bj:(backTo pos (starEach es X.env)).any (·.1)=false:=by rfl)
  (ht:eval (.Call (.Attribute o m apos) (e::es) [] pos) X.env=(do
   let ov<-eval o X.env
   standAt apos.atName
   let (f,first)<-holding [ov] (getMethod ov m pl)
   callWith pos f first (backTo pos (starEach (e::es) X.env)) (backToKw pos (keywordEach [] X.env))):=by rfl) :
  PE X (.Call (.Attribute o m apos) (e::es) [] pos) (lE (rY (k9 X.prog X.w X.K X.mg X.base n m) m to ta)):=by
 intro pins s σ H Q I zz
 obtain⟨B,F,δ,ts,Qd,c,q,k⟩:=zz
 refine PySem.W.methodCall_KW (pl:=pl) (aO (ho pins s σ H (λx H1=>∃d aj F1,S F1 H1 [d] [x]/\ai B F1 H1 σ aj ts/\ae F F1/\ae H H1/\∃C ns xs sp,d=.obj C ns xs/\k9 X.prog X.w X.K X.mg X.base n m C sp/\m ∉ ns/\ta aj λds aK=>sp ((D.obj C ns xs::ds).map D.sh) λr=>((D.obj C ns xs::ds).all D.pl||r.fr)=true/\Qd r aK) I
  ⟨B,F,δ,ts,_,c,q,λd aj v F1 H1 hq f1 h1 c1 s1=>⟨d,aj,F1,s1,c1,f1,h1,hq⟩⟩) λu s1 zq=>?_) ht
 obtain⟨x,H1,I1,rx,d,aj,F1,sd,c1,f1,h1,C,ns,xs,sp,ed,M,hm,hq⟩:=zq
 subst ed
 obtain⟨a,dx,ws,rfl,ea,hl,r0⟩:=CB sd
 obtain rfl:u=cA a:=rx
 obtain⟨f,fd,ps,pL,FO,hb⟩:=M.ex
 refine BE I1 ea M.cls pL (GV hm) ?_
 refine PySem.W.callWith_K (first:=[.ref a]) (h₀:=X.base) I.ok.mod.lQ pL.kp (aO (ha pos pins s1 σ H1 (λvs H2=>∃ds aK F2,S F2 H2 ds vs/\ai B F2 H2 σ aK ts/\ae F1 F2/\ae H1 H2/\sp ((D.obj C ns xs::ds).map D.sh) λr=>((D.obj C ns xs::ds).all D.pl||r.fr)=true/\Qd r aK) I1
  ⟨B,F1,aj,ts,_,c1,hq,λds aK vs F2 H2 hq f2 h2 c2 s2=>⟨ds,aK,F2,s2,c2,f2,h2,hq⟩⟩) λus s2 ⟨vs,H2,I2,r,ds,aK,F2,GW,c2,f2,h2,i9⟩=>⟨I2.cB,?_⟩) bZ bj
 refine tQ (us:=.ref a::us) (vs:=.ref a::vs) (eY:=[]) FO hr hb .nil eE I2 (.cons rfl r) ?_
 rw[fj]
 exact yh c2 (.obj (h2 _ _ ea) hl (r0.shared f2 h2) GW) i9 λd v F' H' hd hf hs c'=>k d aK v F' H' hd (f1.trans (f2.trans hf)) (h1.trans (h2.trans hs)) c'
noncomputable def rZ(MO:Addr->aZ->Prop)(m:Str)(to:aI):aI:=λδ Q=>to δ λd aj=>∃C ns xs sp,d=.obj C ns xs/\MO C sp/\m ∉ ns/\sp [D.obj C ns xs] λr=>Q r aj
theorem ch7{pl:Sem Bool}(ho:PE X o (lB to))(hr:bL n X.A)
  (ht:eval (.Call (.Attribute o m apos) [] [] pos) X.env=(do
   let ov<-eval o X.env
   standAt apos.atName
   let (f,first)<-holding [ov] (getMethod ov m pl)
   callWith pos f first (backTo pos (starEach [] X.env)) (backToKw pos (keywordEach [] X.env))):=by rfl) :
  PE X (.Call (.Attribute o m apos) [] [] pos) (lE (rZ (k9 X.prog X.w X.K X.mg X.base n m) m to)):=by
 intro pins s σ H Q I zz
 obtain⟨B,F,δ,ts,Qd,c,q,k⟩:=zz
 refine PySem.W.methodCall_KW (pl:=pl) (aO (ho pins s σ H (λx H1=>∃d aj F1,S F1 H1 [d] [x]/\ai B F1 H1 σ aj ts/\ae F F1/\ae H H1/\∃C ns xs sp,d=.obj C ns xs/\k9 X.prog X.w X.K X.mg X.base n m C sp/\m ∉ ns/\sp [D.obj C ns xs] λr=>Qd r aj) I
  ⟨B,F,δ,ts,_,c,q,λd aj v F1 H1 hq f1 h1 c1 s1=>⟨d,aj,F1,s1,c1,f1,h1,hq⟩⟩) λu s1 zq=>?_) ht
 obtain⟨x,H1,I1,rx,d,aj,F1,sd,c1,f1,h1,C,ns,xs,sp,ed,M,hm,hq⟩:=zq
 subst ed
 obtain⟨a,dx,ws,rfl,ea,hl,r0⟩:=CB sd
 obtain rfl:u=cA a:=rx
 obtain⟨f,fd,ps,pL,FO,hb⟩:=M.ex
 refine BE I1 ea M.cls pL (GV hm) ?_
 refine PySem.W.callWith_K0 (first:=[.ref a]) I1.cB pL.kp (tQ (us:=[.ref a]) (vs:=[.ref a]) (eY:=[]) FO hr hb .nil eE I1 (.cons rfl .nil) ?_)
 show bo sp [.ref a] H1 Q E0
 exact yh (Qd:=λr=>Qd r aj) c1 (.obj ea hl r0 .nil) (by simpa[D.sh,D.pl]using hq) λd v F' H' hd hf hs c'=>k d aj v F' H' hd (f1.trans hf) (h1.trans hs) c'
end
structure bS(x:Addr)(H H':Hp):Prop where
 get:∀b o,b≠x->H b=some o->gh o=true->H' b=some o
 tb:∀b ps,H b=some (.dr ps)->∃more,H' b=some (.dr (ps++more))
theorem bS.trans{x:Addr}{H H1 H2:Hp}(a:bS x H H1)(b:bS x H1 H2):bS x H H2 :=
 ⟨λc o n h t=>b.get c o n (a.get c o n h t) t,λc ps h=>by
  obtain⟨m1,e1⟩:=a.tb c ps h
  obtain⟨m2,e2⟩:=b.tb c _ e1
  exact⟨m1++m2,by rw[e2,sQ]⟩⟩
theorem ae.x{x:Addr}{H H':Hp}(h:ae H H'):bS x H H':=⟨λb o _ e n=>h.get b o e n,h.tb⟩
theorem bS.upd{x C dx:Addr}{H:Hp}{o o':HO}(h:H x=some o)(n:gh o=true):bS x H (upd H x o') :=
 ⟨λb o z e _=>by rw[aL z];exact e,λb ps e=>⟨#[],by rw[aL (λz=>by rw[z,h]at e;cases e;cases n),e];simp⟩⟩
noncomputable def GX(tl:List Addr)(C:Addr)(ju:List D->List Str->List D->Prop):Sp:=λvs H Q _=>∃x dx bW ds ns xs,vs=.ref x::bW/\Tb tl H/\H x=some (.ins C dx [])/\R H H ds bW []/\ju ds ns xs /\
 ∀H' ws A,bS x H H'->H' x=some (.ins C dx (ns.zip ws))->ns.length=ws.length->R (λ_=>none) H' xs ws A->A.Nodup->(∀a∈A,H a=none)->Q .aq H'
noncomputable def vJ(C:Addr)(ju:List D->List Str->List D->Prop)(ta:bX):aI:=λδ Q=>ta δ λds ag=>∃ns xs,ju (ds.map D.sh) ns xs/\Q (.obj C ns (xs.map D.sh)) ag
theorem ai.made{B:Bs}{F H H':Hp}{σ:L2.St}{δ:Dl}{ts:List (D × V)}{C dx x:Addr}{ns:List Str}{xs:List D}{ws:List V}{A:List Addr}(c:ai B F H σ δ ts)(hs:ae H H')(hx:H' x=some (.ins C dx (ns.zip ws)))(hl:ns.length=ws.length)
  (r:R (λ_=>none) H' xs ws A) (fr:∀a∈A,H a=none):ae F (L3.bC F H' A)/\ai B (L3.bC F H' A) H' σ δ ((.obj C ns (xs.map D.sh),.ref x)::ts):=by
 have c1:=c.grow hs
 have hF:∀a∈A,F a=none:=λa ha=>c.ext.free (fr a ha)
 have r1:R F H' xs ws A:=r.keep (ae.of λb o e=>by cases e) (fH.same (ae.refl _)) gi.nil hF (by simp)
 have r2:=r1.bC c1.ext A (λ_ h=>h)
 have fs:ae F (L3.bC F H' A):=kb c1.ext
 obtain⟨A',C',r',s',nd,eU⟩:=c.own
 have out:∀a,(∃ws,H a=some (.lst ws))/\F a=none->L3.bC F H' A a=none:=λa zz=>by
  obtain⟨⟨ws,h⟩,hf⟩:=zz
  rw[ua (λz=>by rw[fr a z]at h;cases h)];exact hf
 have g1:=r'.grow fs hs λa ha=>out a (r'.lists a ha)
 have g2:=s'.keep fs (fH.same hs) gi.nil (λa ha=>out a (s'.lists a ha)) (by simp)
 refine⟨fs,yb c1.ext,c1.b1,c1.b2.trans fs,λa ws h=>?_,A',C',?_,g2,nd,eU⟩
 ·by_cases z:a∈A
  ·exact .inr (c.b1.free (fr a z))
  ·rw[ua z]at h;exact c.b3 a ws h
 ·exact R.obj hx hl r2 g1
section
variable{X:Cx}{CX:dR}{n:Nat}{f C:Addr}{fd:FuncData}{ps:List Str}{ju:List D->List Str->List D->Prop}{E:XK}{x:Str}{p pos:Pos}{e:Expr}{es:List Expr}{t:bX}{tl:List Addr}
theorem Pl(hT:Tb tl X.j3)(M:Mk X.K C f)(F:aM X.prog X.w X.K X.mg X.base CX n f fd ps (GX tl C ju))(hr:bL (n+1) X.A)(hg:Gl X x)(hm:X.mg x=some (.ref C))(hb:Binds X.K fd ps [])(hx:i8 CX X E)
  (ha:PA X (e::es) (lA t)) (cF:(x==("__debug__":Str))=false:=by decide) (he:starEach (e::es) X.env=(false,eval e X.env)::starEach es X.env:=by rfl) (bj:(backTo pos (starEach es X.env)).any (·.1)=false:=by rfl) :
  PE X (.Call (.Name x p) (e::es) [] pos) (lE (vJ C ju t)):=by
 intro pins s σ H Q I zz
 obtain⟨B,F',δ,ts,Qd,c,q,k⟩:=zz
 have tb:=GN I hT
 refine Mz M F hr hg hm hb .nil hx ha cF he bj pins s σ H Q I ⟨B,F',δ,ts,_,c,q,λds aj vs F1 H1 q1 f1 h1 c1 s1=>?_⟩
 intro x dx cO dJ jI
 obtain⟨ns,xs,hI,hq⟩:=q1
 have sm:ae H1 (upd (upd H1 dx (.own x)) x (.ins C dx [])):=.of λb o e=>by rw[aL (dH e cO),aL (dH e dJ)];exact e
 refine⟨x,dx,vs,ds.map D.sh,ns,xs,by rw[fj],ze (ze tb h1) sm,br,(s1.frozen c1.ext).shared sm sm,hI,λH' ws A zh dD hl r nd fr=>⟨rfl,?_⟩⟩
 have s2:ae H1 H':=⟨λb o e n=>zh.get b o (dH e cO) (sm.get b o e n) n,λb ps e=>by
  obtain⟨m1,e1⟩:=sm.tb b ps e
  obtain⟨m2,e2⟩:=zh.tb b _ e1
  exact⟨m1++m2,by rw[e2,sQ]⟩⟩
 obtain⟨fs,c2⟩:=c1.made s2 dD hl r λa ha=>sm.free (fr a ha)
 exact k _ aj _ _ H' hq (f1.trans fs) (h1.trans s2) c2
end
end L3
namespace Mf
open PySem L2 L3
noncomputable def gm(m:Bool × Nat)(a b:Nat):Nat:=if m.1 then md (cl a b) m.2 else a*b%m.2
noncomputable def af(m:Bool × Nat):Nat:=if m.1 then 2 ^ (bl m.2-1)else m.2
noncomputable def CC(g:Nat->Nat->Nat)(a:Nat):Nat->Nat->List Int->Option (List Int)
 | 0,_,_=>none
 | f+1,p,acc=>if p=1 then some acc else if p<64 then CC g a f (g p a) (acc++[(p:Int)])else none
noncomputable def GY(g:Nat->Nat->Nat)(a:Nat):Option (List Int):=CC g a 64 (g 1 a) [1]
noncomputable def CD(g:Nat->Nat->Nat)(many:Nat):Nat->Nat->List Int->Option (List Int)
 | 0,_,_=>none
 | f+1,st,l=>if l.length+1<many then(match GY g (st+1)with | some l'=>CD g many f (st+1) l' | none=>none)else some l
noncomputable def zi(g:Nat->Nat->Nat)(many:Nat):Option (List Int):=match GY g 1 with | some l=>CD g many 62 1 l | none=>none
noncomputable def zj(g:Nat->Nat->Nat):vG:=λi j Q=>∃a b:Nat,i=a/\j=b/\a<64/\b<64/\Q (g a b:Nat)
noncomputable def gS:List Nat:=[7,11,13,19,25,31,37,41,47,55,59,61,67,73,87,91,97,103,109,115,117]
noncomputable def nQ:List Nat:=[2,3,5,7,11,13,17,19,23,29,31,37,41,43,47,53,59,61]
noncomputable def aJ:List (Bool × Nat):=gS.map (λn=>(true,n))++nQ.map λn=>(false,n)
noncomputable def nR(l:List Int):Nat->List Int
 | 0=>bg (l.length+1) 0
 | i+1=>(nR l i).set (l.getD i 0).toNat (i:Int)
noncomputable def eO(l:List Int):List Int:=nR l l.length
theorem zk(l:List Int):∀i,(nR l i).length=l.length+1
 | 0=>by simp[nR]
 | i+1=>by simp[nR,zk l i]
noncomputable def pM(l g:List Int)(a:Nat):List Int:=if a=0 then bg (l.length+1) 0 else 0::(bh l.length).map λ(b:Nat)=>l.getD ((g.getD a 0+g.getD (b+1) 0)%(l.length:Int)).toNat 0
noncomputable def vK(l g:List Int)(n:Nat):List D:=(bh n).map λa=>D.lst true (aF (pM l g a))
noncomputable def pO(l g:List Int):List D:=vK l g (l.length+1)
end Mf
namespace L3
open PySem L2 Mf
noncomputable def LI(H:Hp)(p:Addr)(ns:List Int):Prop:=H p=some (.lst (ns.map V.int))
theorem LI.same{H H':Hp}{p:Addr}{ns:List Int}(h:LI H p ns)(s:ae H H'):LI H' p ns:=s.get _ _ h
theorem LI.upd{H:Hp}{p x:Addr}{ns:List Int}{o o':HO}(h:LI H p ns)(hx:H x=some o)(n:∀ws,o≠.lst ws):LI (upd H x o') p ns:=by
 unfold LI
 rw[aL (λz=>by rw[z]at h;unfold LI at h;rw[hx]at h;cases h;exact n _ rfl)];exact h
theorem Pm{F' H' H:Hp}{v:V}{A:List Addr}{ns:List Int}(r:R F' H' [.lst true (aF ns)] [v] A)(fr:∀a∈A,H a=none):∃p,v=.ref p/\LI H' p ns/\H p=none:=by
 cases r with
 | @own p ws xs A1 _ _ B1 hp hf r1 r2 =>
  have:=Ot r1.s
  subst this
  exact⟨p,rfl,hp,fr p (by simp)⟩
structure cO9(K:PySem.W.Frag)(C f:Addr):Prop where
 cls:cY K C
 many:bt K C "many"
 wide:bt K C "wide"
 GZ:bt K C "powers"
 cP0:bt K C "logs"
 step:bt K C "step"
 sp:Meth K C "step_power" f
structure Pn(g:Nat->Nat->Nat)(many:Nat)(l:List Int)(st:Int):Prop where
 lo:2<=many
 hi:many<=64
 step:zi g many=some l
 len:l.length+1=many
 ins:∀x∈l,0<=x/\x.toNat<=l.length
 st:l[((1:Int)%((many:Int)-1)).toNat]?=some st
noncomputable def iu(b:Str):List Str:=[b,"many","wide","powers","logs","step"]
noncomputable def CF(n0:Int)(many:Nat)(p1 p2:Addr)(st:Int):List V:=[.int n0,.int many,.int ((bl many:Nat)-1),.ref p1,.ref p2,.int st]
theorem vL{f:Str}{v:V}:∀{fs:List (Str × V)},(∀p∈fs,p.1≠f)->bK f v fs=fs++[(f,v)]
 | [],_=>rfl
 | (g,x)::r,h=>by
  unfold bK
  rw[if_neg (h (g,x) (by simp)),vL λp hp=>h p (by simp[hp])];rfl
theorem ka.se{H:Hp}{x C dx f c k:Addr}{fs:List (Str × V)}{o':HO}{of oc:Obj}(h:ka H f of oc c k)(hx:H x=some (.ins C dx fs)):ka (L2.upd H x o') f of oc c k:=by
 obtain⟨ψ,e,zb⟩:=h.FK
 exact⟨by rw[aL (λz=>by rw[<-z,h.fn]at hx;cases hx)];exact h.fn,by rw[aL (λz=>by rw[<-z,h.cell]at hx;cases hx)];exact h.cell,ψ,by rw[aL (λz=>by rw[<-z,e]at hx;cases hx)];exact e,zb⟩
theorem zo{H:Hp}{x p:Addr}{o o':HO}(hx:H x=some o)(h:L2.upd H x o' p=none):H p=none:=by
 by_cases z:p=x
 ·subst z;rw[br]at h;cases h
 ·rw[aL z]at h;exact h
theorem CG{α:Type}{b f:Str}{v:α}{r:List (Str × α)}(h:b≠f):((b,v)::r).lookup f=r.lookup f:=by
 rw[gC,beq_eq_false_iff_ne.mpr (dN h)]
section
variable{H2 H3 H':Hp}{x f c p:Addr}{o1 o2:HO}
theorem zr{b:Addr}{o:HO}(e:H3 b=some o)(nb:b≠f)(nc:H3 c=none):L2.upd (L2.upd H3 f o1) c o2 b=some o:=by
 rw[aL (dH e nc),aL nb];exact e
theorem Po(hs:ae H2 H3)(nf:H2 f=none)(nc:H3 c=none)(s:bS x (L2.upd (L2.upd H3 f o1) c o2) H'):bS x H2 (rem H' f c) where
 get b o n e t:=by
  have z1:=dH e nf
  have e3:=hs.get b o e t
  rw[ir z1 (dH e3 nc)]
  exact s.get b o n (zr e3 z1 nc) t
 tb b ps e:=by
  have z1:=dH e nf
  obtain⟨m,e3⟩:=hs.tb b ps e
  obtain⟨m2,e4⟩:=s.tb b _ (zr e3 z1 nc)
  exact⟨m++m2,by rw[ir z1 (dH e3 nc),e4,sQ]⟩
theorem CH(hs:ae H2 H3)(h:L2.upd (L2.upd H3 f o1) c o2 p=none):H2 p=none:=by
 refine hs.free ?_
 by_cases z:p=c
 ·subst z;rw[br]at h;cases h
 ·rw[aL z]at h
  by_cases z2:p=f
  ·subst z2;rw[br]at h;cases h
  ·rw[aL z2]at h;exact h
theorem LI.rem{l:List Int}{φ:Heap->Prop}{y:Addr}(h:LI H' p l)(hf:H' f=some (.ext φ))(hc:H' c=some (.own y)):LI (rem H' f c) p l:=by
 unfold LI at h ⊢
 rw[ir (λz=>by rw[z,hf]at h;cases h) (λz=>by rw[z,hc]at h;cases h)];exact h
theorem Pp{of oc:Obj}{k:Addr}(jI:c≠f)(nc:H3 c=none)(hk:FJ H3 k)(kf:k≠f):ka (L2.upd (L2.upd H3 f (.ext (jJ of oc c f))) c (.own f)) f of oc c k:=by
 obtain⟨ψ,e,zb⟩:=hk
 exact⟨by rw[aL jI.symm,br],br,ψ,zr e kf nc,zb⟩
end
noncomputable def fl(m:Bool × Nat):List Int:=(zi (gm m) (af m)).getD []
noncomputable def fst(m:Bool × Nat):Int:=(fl m).getD ((1:Int)%((af m:Int)-1)).toNat 0
noncomputable def Pq(m:Bool × Nat):Bool:=decide (2<=af m)&&decide (af m<=64)&&(zi (gm m) (af m)).isSome&&decide ((fl m).length+1=af m)&&(fl m).all (λx=>decide (0<=x)&&decide (x.toNat<=(fl m).length))&&decide (((1:Int)%((af m:Int)-1)).toNat<(fl m).length)
theorem cb2:aJ.all Pq=true:=by decide +kernel
theorem cW{m:Bool × Nat}(h:m∈aJ):Pn (gm m) (af m) (fl m) (fst m):=by
 have h:=cX.mp cb2 m h
 simp only[Pq,dP,decide_eq_true_eq,cX]at h
 obtain⟨⟨⟨⟨⟨h1,h2⟩,h3⟩,h4⟩,h5⟩,h6⟩:=h
 obtain⟨l,e⟩:=AE.mp h3
 have el:fl m=l:=by unfold fl;rw[e];rfl
 refine⟨h1,h2,by rw[e,el],h4,λx hx=>h5 x hx,?_⟩
 unfold fst
 rw[aW,bc h6];rfl
theorem bW8:∀p∈nQ,(decide (2<=(p:Int))&&decide ((p:Int)<=61)&&(bh ((p:Int).toNat-2)).all λi=>(p:Int)%(2+(i:Int)) != 0)=true:=by decide +kernel
theorem cf4:∀p∈gS,(decide (4<=(p:Int))&&decide ((p:Int)<=127)&&al (p:Int).toNat)=true:=by decide +kernel
theorem R.se{F H:Hp}{x C dx:Addr}{fs:List (Str × V)}{o':HO}{ds:List D}{vs:List V}{A:List Addr}(r:R F H ds vs A)(hx:H x=some (.ins C dx fs))(hd:ds.all D.fr=true):R F (L2.upd H x o') ds vs A:=by
 have up:∀{a o},H a=some o->(∀C dx fs,o≠.ins C dx fs)->L2.upd H x o' a=some o:=λ{a o} e n=>by
  rw[aL (λz=>by rw[z,hx]at e;cases e;exact n _ _ _ rfl)];exact e
 induction r with
 | nil=>exact .nil
 | aq _ ih=>exact .aq (ih (by simpa[D.fr]using hd))
 | bl _ ih=>exact .bl (ih (by simpa[D.fr]using hd))
 | int _ ih=>exact .int (ih (by simpa[D.fr]using hd))
 | str _ ih=>exact .str (ih (by simpa[D.fr]using hd))
 | shr h x _ i1 ih=>simp[fG]at hd
 | own h f _ _ i1 i2 =>
  rw[dh,fG,dP,lJ]at hd
  exact .own (up h λ_ _ _ z=>by cases z) f (i1 hd.1) (i2 hd.2)
 | tup h _ _ i1 i2 =>
  rw[dh,qY,dP]at hd
  exact .tup (up h λ_ _ _ z=>by cases z) (i1 hd.1) (i2 hd.2)
 | obj h l x _ i1 ih=>simp[D.fr]at hd
 | fz h x _ i1 ih=>simp[D.fr]at hd
 | @bx p z _ _ _ h r ih =>
  refine .bx ?_ (ih (by simpa[D.fr]using hd))
  cases z with
  | ext φ=>exact up h λ_ _ _ z=>by cases z
  | lam of oc c k=>exact ka.se h hx
theorem Pr(l g:List Int):(pO l g).all D.fr=true:=by
 unfold pO vK
 rw[lL,cX]
 intro a _
 show(D.lst true (aF _)).fr=true
 rw[fG,rP];rfl
theorem bS.free{x a:Addr}{H H':Hp}(s:bS x H H')(hx:H' x≠none)(h:H' a=none):H a=none:=by
 cases q:H a with
 | none=>rfl
 | some o =>
  by_cases z:a=x
  ·subst z;exact absurd h hx
  ·cases n:gh o with
   | true=>rw[s.get a o z q n]at h;cases h
   | false =>
    obtain⟨ps,rfl⟩:=oU n
    obtain⟨m,e⟩:=s.tb a ps q
    rw[e]at h;cases h
theorem Pt(l:List Int):∀i,∀x∈nR l i,0<=x
 | 0=>λx hx=>by rw[(Lr.mp hx).2];exact Int.le_refl _
 | i+1=>λx hx=>by
  unfold nR at hx
  rcases qB hx with h | h
  ·exact Pt l i x h
  ·rw[h];exact Lf _
theorem Pu:∀p∈gS,bl p<=7:=by decide +kernel
theorem Pw:∀p∈gS,1<=bl p:=by decide +kernel
theorem bW4(a b:Nat):bl (cl a b)<=bl a+bl b:=by
 by_cases ha:a=0
 ·subst ha;rw[oQ];exact jX _
 ·by_cases hb:b=0
  ·subst hb
   have:cl a 0=0:=rfl
   rw[this];exact jX _
  ·rw[Nc ha hb];omega
noncomputable def vN(l g:List Int):List D:=(bh (l.length+1)).map λa=>D.lst false (aF (pM l g a))
theorem bV8(l g:List Int):(D.lst true (pO l g)).sh=.lst false (vN l g):=by
 rw[cP]
 unfold pO vK vN
 rw[b8]
 congr 1
 apply mQ
 intro a _
 show D.sh (.lst true (aF _))=_
 rw[cP,jq]
noncomputable abbrev pD(m:Bool × Nat):List D:=[.int m.2,.int (af m),.int ((bl (af m):Nat)-1),.lst false (aF (fl m)),.lst false (aF (eO (fl m))),.int (fst m)]
noncomputable def vO(C:Addr)(p:Nat):D:=.obj C (iu "prime") (pD (false,p))
noncomputable def zt(C:Addr)(p:Nat):D:=.obj C (iu "bits"++[("products":Str)]) (pD (true,p)++[.lst false (vN (fl (true,p)) (eO (fl (true,p))))])
noncomputable def fD(cb cp:Addr)(m:Bool × Nat):D:=if m.1 then zt cb m.2 else vO cp m.2
end L3
namespace L3
open PySem L2 Mf
theorem zu{u p:Nat}(h:bl u<bl p):md u p=u:=x6 (q:=0) (by rw[oQ,oG]) h
theorem bJ9{u v n:Nat}(hu:bl u<n)(hv:bl v<n):bl (u ^^^ v)<n:=by
 have h1:u<2 ^ (n-1):=eR.mp (by omega)
 have h2:v<2 ^ (n-1):=eR.mp (by omega)
 have:=eR.mpr (tU h1 h2)
 omega
theorem CI{p:Nat}(hp:p≠0)(u v:Nat):md (u ^^^ v) p=md u p ^^^ md v p:=by
 obtain⟨⟨q1,e1⟩,l1⟩:=xZ hp u
 obtain⟨⟨q2,e2⟩,l2⟩:=xZ hp v
 refine x6 (q:=q1 ^^^ q2) ?_ (bJ9 l1 l2)
 rw[oO,<- M1,<- e1,<- e2]
theorem Px{p:Nat}(hp:p≠0)(w:Nat):md (cl p w) p=0:=by rw[xY];exact YZ w hp
theorem dM:∀m∈aJ,0<m.2:=by decide +kernel
theorem jv(m:Bool × Nat)(a b:Nat):gm m a b=gm m b a:=by
 unfold gm
 split
 ·rw[xY]
 ·rw[mJ]
theorem Py{n:Nat}(hn:n≠0)(u c:Nat):md (cl (md u n) c) n=md (cl u c) n:=by
 obtain⟨⟨q,e⟩,_⟩:=xZ hn u
 have h:cl u c=cl n (cl q c) ^^^ cl (md u n) c:=by
  conv=>lhs;rw[e]
  rw[oO,xY n q,Ni]
 rw[h,CI hn,Px hn,oG]
theorem lj{m:Bool × Nat}(h:0<m.2)(a b c:Nat):gm m (gm m a b) c=gm m a (gm m b c):=by
 unfold gm
 split
 ·rw[Py (by omega),xY (md (cl b c) m.2) a,Py (by omega),Ni a b c,xY (cl b c) a]
 ·rw[xo,LD,<- xo,xo a (b*c%m.2),LD,<- xo,sZ]
theorem Pz{m:Bool × Nat}(h:m.1=true){a:Nat}:a<af m↔bl a<=bl m.2-1:=by
 unfold af
 rw[if_pos h];exact eR.symm
theorem sg{m:Bool × Nat}{a:Nat}(ha:a<af m):gm m 1 a=a:=by
 obtain⟨k,n⟩:=m
 cases k with
 | true =>
  show md (cl 1 a) n=a
  rw[Fp]
  have h1:=(Pz (m:=(true,n)) rfl).mp ha
  have h1:bl a<=bl n-1:=h1
  by_cases z:bl n=0
  ·have a0:a=0:=by
    have:=eR (n:=a) (m:=0)
    have:=this.mp (by omega)
    omega
   subst a0
   have n0:n=0:=by
    have:=(eR (n:=n) (m:=0)).mp (by omega)
    omega
   subst n0
   decide
  ·exact zu (by omega)
 | false=>show 1*a%n=a;rw[ED];exact AN ha
theorem nS{m:Bool × Nat}{a:Nat}(ha:a<af m):gm m a 1=a:=by rw[jv];exact sg ha
noncomputable def lg(m:Bool × Nat)(a:Nat):Int:=(eO (fl m)).getD a 0
noncomputable def pw(m:Bool × Nat)(k:Nat):Int:=(fl m).getD k 0
noncomputable def G0(m:Bool × Nat):Bool:=((bh (af m-1)).all λk=>decide (1<=pw m k)&&decide (pw m k<af m)&&decide (lg m (pw m k).toNat=k))&&((bh (af m-1)).all λa=>decide (0<=lg m (a+1))&&decide (lg m (a+1)<(af m:Int)-1)&&decide (pw m (lg m (a+1)).toNat=((a+1:Nat):Int)))
theorem PB:aJ.all G0=true:=by decide +kernel
theorem CJ{m:Bool × Nat}(hm:m∈aJ){k:Nat}(hk:k<af m-1):1<=pw m k/\pw m k<af m/\lg m (pw m k).toNat=k:=by
 have h:=cX.mp PB m hm
 simp only[G0,dP,cX,decide_eq_true_eq,eJ]at h
 have:=h.1 k hk
 exact⟨this.1.1,this.1.2,this.2⟩
theorem CK{m:Bool × Nat}(hm:m∈aJ){a:Nat}(h1:1<=a)(h2:a<af m):0<=lg m a/\lg m a<(af m:Int)-1/\pw m (lg m a).toNat=a:=by
 have h:=cX.mp PB m hm
 simp only[G0,dP,cX,decide_eq_true_eq,eJ]at h
 have:=h.2 (a-1) (by omega)
 rw[show a-1+1=a by omega]at this
 exact⟨this.1.1,this.1.2,this.2⟩
theorem iM(m:Bool × Nat)(b:Nat)(h:0<m.2):gm m 0 b=0:=by
 unfold gm
 split
 ·rw[oQ];exact zu (by rw[mX];exact ia (by omega))
 ·rw[Nat.zero_mul,Nat.zero_mod]
theorem nU(m:Bool × Nat)(b:Nat)(h:0<m.2):gm m b 0=0:=by rw[jv];exact iM m b h
noncomputable def stC(m:Bool × Nat):Bool:=decide (pw m 0=1)&&(bh (af m-1)).all λk=>decide (gm m (pw m k).toNat (pw m (1%(af m-1))).toNat=(pw m ((k+1)%(af m-1))).toNat)
theorem PC:aJ.all stC=true:=by decide +kernel
theorem ch4(m:Bool × Nat)(hm:m∈aJ):pw m 0=1:=by
 have h:=cX.mp PC m hm
 simp only[stC,dP,decide_eq_true_eq]at h
 exact h.1
noncomputable def pN(m:Bool × Nat)(k:Nat):Nat:=(pw m (k%(af m-1))).toNat
theorem cv9{m:Bool × Nat}(hm:m∈aJ)(k:Nat):pN m k<af m:=by
 have gg:=(cW hm).lo
 have:=CJ hm (xp k (show 0<af m-1 by omega))
 unfold pN
 omega
theorem PD{m:Bool × Nat}(hm:m∈aJ)(k:Nat):gm m (pN m k) (pN m 1)=pN m (k+1):=by
 have gg:=(cW hm).lo
 have h:=cX.mp PC m hm
 simp only[stC,dP,decide_eq_true_eq,cX,eJ]at h
 have h2:=h.2 (k%(af m-1)) (xp k (by omega))
 rw[EE]at h2
 exact h2
theorem PF{m:Bool × Nat}(hm:m∈aJ)(i:Nat):∀j,gm m (pN m i) (pN m j)=pN m (i+j)
 | 0=>by
  have e:pN m 0=1:=by unfold pN;rw[Nat.zero_mod,ch4 m hm];rfl
  rw[e,nS (cv9 hm i)];rfl
 | j+1=>by rw[<-PD hm j,<- lj (dM m hm),PF hm i j,PD hm];rfl
theorem G1{m:Bool × Nat}(hm:m∈aJ){a b:Nat}(a1:1<=a)(a2:a<af m)(b1:1<=b)(b2:b<af m):((gm m a b:Nat):Int)=pw m ((lg m a+lg m b)%((af m:Int)-1)).toNat:=by
 have gg:=(cW hm).lo
 obtain⟨g0,g1,g2⟩:=CK hm a1 a2
 obtain⟨f0,f1,f2⟩:=CK hm b1 b2
 have ea:pN m (lg m a).toNat=a:=by unfold pN;rw[AN (by omega),g2];rfl
 have eb:pN m (lg m b).toNat=b:=by unfold pN;rw[AN (by omega),f2];rfl
 have e:=PF hm (lg m a).toNat (lg m b).toNat
 rw[ea,eb]at e
 rw[e]
 have ei:((lg m a+lg m b)%((af m:Int)-1)).toNat=((lg m a).toNat+(lg m b).toNat)%(af m-1):=by
  have:(((lg m a).toNat+(lg m b).toNat)%(af m-1):Nat)=((lg m a+lg m b)%((af m:Int)-1)):=by
   rw[tu,LF,xq g0,xq f0,Int.natCast_sub (by omega)];rfl
  omega
 rw[ei]
 have:=CJ hm (xp ((lg m a).toNat+(lg m b).toNat) (show 0<af m-1 by omega))
 unfold pN
 omega
theorem ce4{p a:Nat}(hp:p∈gS)(ha:a<af (true,p)):pM (fl (true,p)) (eO (fl (true,p))) a=(bh (af (true,p))).map λb=>((gm (true,p) a b:Nat):Int):=by
 have hm:(true,p)∈aJ:=df _ (EF hp)
 have h0:=dM _ hm
 have hF:=cW hm
 have hlen:=hF.len
 unfold pM
 split
 ·rename_i h
  subst h
  rw[hlen]
  refine List.ext_getElem (by simp) λi h1 h2=>?_
  simp[iM _ _ h0]
 ·rename_i h
  rw[<-hlen,VH,cN,b8,nU _ _ h0]
  congr 1
  apply mQ
  intro b hb
  have hb:=eJ.mp hb
  show(fl (true,p)).getD (((eO (fl (true,p))).getD a 0+(eO (fl (true,p))).getD (b+1) 0)%((fl (true,p)).length:Int)).toNat 0=((gm (true,p) a (b+1):Nat):Int)
  rw[G1 hm (by omega) ha (by omega) (by omega),show(((fl (true,p)).length:Nat):Int)=(af (true,p):Int)-1 by omega]
  rfl
theorem G2{p a b:Nat}(hp:p∈gS)(ha:a<af (true,p))(hb:b<af (true,p)):eQ (aF (pM (fl (true,p)) (eO (fl (true,p))) a)) (b:Int)=some (.int (gm (true,p) a b:Nat)):=by
 refine lY (by omega) ?_
 rw[ce4 hp ha]
 unfold aF
 rw[gY,cU,cU,mO hb];rfl
theorem G3{p a:Nat}(hp:p∈gS)(ha:a<af (true,p)):eQ (vN (fl (true,p)) (eO (fl (true,p)))) (a:Int)=some (.lst false (aF (pM (fl (true,p)) (eO (fl (true,p))) a))):=by
 have hF:=cW (m:=(true,p)) (df _ (EF hp))
 refine lY (by omega) ?_
 unfold vN
 rw[gY,cU,mO (by rw[hF.len];exact ha)];rfl
end L3
namespace L3
open PySem L2 Mf
theorem cm0(C:Addr)(p:Nat):D.obj C (iu "bits"++[("products":Str)]) (xm D.sh [.int p,.int (af (true,p)),.int ((bl (af (true,p)):Nat)-1),.lst true (aF (fl (true,p))),.lst true (aF (eO (fl (true,p)))),.int (fst (true,p)),.lst true (pO (fl (true,p)) (eO (fl (true,p))))])=zt C p:=by
 simp only[cN,jY]
 rw[bV8]
 simp only[cP,nJ,jq];rfl
theorem b15(C:Addr)(p:Nat):D.obj C (iu "prime") (xm D.sh [.int p,.int p,.int ((bl p:Nat)-1),.lst true (aF (fl (false,p))),.lst true (aF (eO (fl (false,p)))),.int (fst (false,p))])=vO C p:=by
 simp only[cN,jY,cP,nJ,jq];rfl
theorem zw{n:Nat}(h:(true,n)∈aJ):n∈gS:=by
 rcases bA.mp h with h | h
 ·obtain⟨x,hx,e⟩:=bI.mp h
  cases e;exact hx
 ·obtain⟨x,hx,e⟩:=bI.mp h
  cases e
theorem by9{n:Nat}(h:(false,n)∈aJ):n∈nQ:=by
 rcases bA.mp h with h | h
 ·obtain⟨x,hx,e⟩:=bI.mp h
  cases e
 ·obtain⟨x,hx,e⟩:=bI.mp h
  cases e;exact hx
open Classical in
theorem PH{α:Type}{sh:Bool}{xs:List D}{aD:List (Str × Nat)}{n:Nat}{g0:gO}{te:aI}{aj:Dl}{Q:D->Dl->Prop}(l:List α)(e g:α->D)(js:xs.map D.sh=l.map e)(inj:∀a b,e a=e b->a=b)
  (hx:∀a∈l,g0 (e a) (gq aD n aj) λaK=>te aK λd _=>d=g a) (hg:∀d δ (P P':Dl->Prop),(∀ag,P ag->P' ag)->g0 d δ P->g0 d δ P') (eT:(sh&&aD.all (jk aj))=true\/∀a∈l,(g a).fr=true) (hl:l.length<=sizeLine) (hq:Q (.lst true (l.map g)) aj):rq sh xs aD n g0 kT te aj Q:=by
 let f:D->D:=λx=>if h:∃a∈l,e a=x then g h.choose else .aq
 have hf:∀a∈l,f (e a)=g a:=λa ha=>by
  have h:∃b∈l,e b=e a:=⟨a,ha,rfl⟩
  show(if h:∃b∈l,e b=e a then g h.choose else .aq)=g a
  rw[dif_pos h]
  exact congrArg g (inj _ _ h.choose_spec.2)
 refine⟨λ_=>true,f,λx h=>?_,eT.imp id λh x hx _=>?_,?_,?_⟩
 ·rw[js]at h
  obtain⟨a,ha,rfl⟩:=bI.mp h
  rw[hf a ha]
  exact hg _ _ _ _ (λag h=>⟨rfl,λ_=>h⟩) (hx a ha)
 ·rw[js]at hx
  obtain⟨a,ha,rfl⟩:=bI.mp hx
  rw[hf a ha];exact h a ha
 ·have:=congrArg Ei js
  simp at this
  omega
 ·rw[js,VG.mpr (λ_ _=>rfl),b8,show l.map (f ∘ e)=l.map g from mQ λa ha=>hf a ha]
  exact hq
theorem PJ{i1 i2:Nat}(d:D)(δ:Dl)(P P':Dl->Prop)(h:∀ag,P ag->P' ag)(q:jr i1 i2 d δ P):jr i1 i2 d δ P':=by
 unfold jr at q ⊢
 split at q
 ·exact h _ q
 ·exact q
theorem bQ6(xs ys:List Int):(gr (aF xs) (aF ys)).map D.sh=(xs.zip ys).map λz=>D.tup [.int z.1,.int z.2]:=by
 rw[OL,jq,jq]
 unfold gr aF
 rw[List.zipWith_map,List.zip,EB]
theorem cf8{p x y:Nat}(hp:p≠0)(hx:bl x<bl p):md (cl x y) p=(if y%2=1 then x else 0) ^^^ md (cl (if bl (2*x)=bl p then 2*x ^^^ p else 2*x) (y/2)) p:=by
 have e0:md (if y%2=1 then x else 0) p=(if y%2=1 then x else 0):=by
  split
  ·exact zu hx
  ·exact zu (by rw[mX];exact ia hp)
 rw[M9,CI hp,e0]
 congr 1
 split
 ·rw[oO,CI hp,Px hp,lH]
 ·rfl
theorem cc4{p x:Nat}(hp:p≠0)(hx:bl x<bl p):bl (if bl (2*x)=bl p then 2*x ^^^ p else 2*x)<bl p:=by
 have h2:=Y3 x
 have h0:=ia hp
 split
 ·rename_i h
  have n0:2*x≠0:=λz=>by rw[z,mX]at h;omega
  have a1:=je (2*x)
  have a2:=je p
  have b1:=tS n0
  have b2:=tS hp
  rw[h]at a1 b1
  obtain⟨k,hk⟩:∃k,bl p=k+1:=⟨bl p-1,by omega⟩
  rw[hk]at a1 a2 b1 b2 ⊢
  have:=eR.mpr (MZ a1 a2 b1 b2)
  omega
 ·omega
end L3
namespace L3
open PySem L2 PySem.Spec PyProof.Rows
structure CL(P:Program)(w:World)(K:PySem.W.Frag)(mg:Str->Option Value)(base:Heap)(n:Nat)(m:Str)(C:Addr)(sp:kZ):Prop where
 cls:cY K C
 ex:∃f fd ps,Meth K C m f/\aM P w K mg base (j8 P w) n f fd ps (pB sp)/\Binds K fd ps []
section
variable{X:Cx}{e o:Expr}{es:List Expr}{f m x:Str}{pos p apos:Pos}{to:aI}{ta:bX}{n:Nat}
noncomputable def si(MO:Addr->kZ->Prop)(m:Str)(to:aI)(ta:bX):aI:=λδ Q=>to δ λd aj=>∃C ns xs sp,d=.obj C ns xs/\MO C sp/\m ∉ ns/\ta aj λds aK=>sp ((D.obj C ns xs::ds).map D.sh) (λr=>((D.obj C ns xs::ds).all D.pl||r.fr)=true/\Q r aK) λ_=>False
theorem ch5{pl:Sem Bool}(ho:PE X o (lB to))(hr:bL n X.A)(ha:PA X (e::es) (lA ta))
  (bZ:starEach (e::es) X.env=(false,eval e X.env)::starEach es X.env:=by rfl) (bj:(backTo pos (starEach es X.env)).any (·.1)=false:=by rfl)
  (ht:eval (.Call (.Attribute o m apos) (e::es) [] pos) X.env=(do
   let ov<-eval o X.env
   standAt apos.atName
   let (f,first)<-holding [ov] (getMethod ov m pl)
   callWith pos f first (backTo pos (starEach (e::es) X.env)) (backToKw pos (keywordEach [] X.env))):=by rfl) :
  PE X (.Call (.Attribute o m apos) (e::es) [] pos) (lE (si (CL X.prog X.w X.K X.mg X.base n m) m to ta)):=by
 intro pins s σ H Q I zz
 obtain⟨B,F,δ,ts,Qd,c,q,k⟩:=zz
 refine PySem.W.methodCall_KW (pl:=pl) (aO (ho pins s σ H (λx H1=>∃d aj F1,S F1 H1 [d] [x]/\ai B F1 H1 σ aj ts/\ae F F1/\ae H H1/\∃C ns xs sp,d=.obj C ns xs/\CL X.prog X.w X.K X.mg X.base n m C sp/\m ∉ ns/\ta aj λds aK=>sp ((D.obj C ns xs::ds).map D.sh) (λr=>((D.obj C ns xs::ds).all D.pl||r.fr)=true/\Qd r aK) λ_=>False) I
  ⟨B,F,δ,ts,_,c,q,λd aj v F1 H1 hq f1 h1 c1 s1=>⟨d,aj,F1,s1,c1,f1,h1,hq⟩⟩) λu s1 zq=>?_) ht
 obtain⟨x,H1,I1,rx,d,aj,F1,sd,c1,f1,h1,C,ns,xs,sp,ed,M,hm,hq⟩:=zq
 subst ed
 obtain⟨a,dx,ws,rfl,ea,hl,r0⟩:=CB sd
 obtain rfl:u=cA a:=rx
 obtain⟨f,fd,ps,pL,FO,hb⟩:=M.ex
 refine BE I1 ea M.cls pL (GV hm) ?_
 refine PySem.W.callWith_K (first:=[.ref a]) (h₀:=X.base) I.ok.mod.lQ pL.kp (aO (ha pos pins s1 σ H1 (λvs H2=>∃ds aK F2,S F2 H2 ds vs/\ai B F2 H2 σ aK ts/\ae F1 F2/\ae H1 H2/\sp ((D.obj C ns xs::ds).map D.sh) (λr=>((D.obj C ns xs::ds).all D.pl||r.fr)=true/\Qd r aK) λ_=>False) I1
  ⟨B,F1,aj,ts,_,c1,hq,λds aK vs F2 H2 hq f2 h2 c2 s2=>⟨ds,aK,F2,s2,c2,f2,h2,hq⟩⟩) λus s2 ⟨vs,H2,I2,r,ds,aK,F2,GW,c2,f2,h2,i9⟩=>⟨I2.cB,?_⟩) bZ bj
 refine tQ (us:=.ref a::us) (vs:=.ref a::vs) (eY:=[]) (GA FO) hr hb .nil Gz I2 (.cons rfl r) ?_
 rw[fj]
 exact yh (sp:=λds Q=>sp ds Q λ_=>False) c2 (.obj (h2 _ _ ea) hl (r0.shared f2 h2) GW) i9 λd v F' H' hd hf hs c'=>k d aK v F' H' hd (f1.trans (f2.trans hf)) (h1.trans (h2.trans hs)) c'
end
section
variable{X:Cx}{tb th:bR}{body Gr:List Stmt}{Gu:Stmt}{K:Str}{Kc:Addr}{kp OE pos:Pos}
end
end L3
namespace L3
open PySem L2 Mf
theorem PK{m:Bool × Nat}(hm:m∈aJ){a b:Nat}(a1:1<=a)(a2:a<af m)(b1:1<=b)(b2:b<af m):∃r:Nat,pw m ((lg m a-lg m b)%((af m:Int)-1)).toNat=r/\r<af m/\gm m r b=a:=by
 have hF:=cW hm
 have gg:=hF.lo
 have n0:=fm (lg m a-lg m b) (show(af m:Int)-1≠0 by omega)
 have n1:=fE (lg m a-lg m b) (show(0:Int)<(af m:Int)-1 by omega)
 obtain⟨p1,p2,p3⟩:=CJ hm (k:=((lg m a-lg m b)%((af m:Int)-1)).toNat) (by omega)
 obtain⟨g0,g1,g2⟩:=CK hm a1 a2
 refine⟨(pw m ((lg m a-lg m b)%((af m:Int)-1)).toNat).toNat,by omega,by omega,?_⟩
 have e:=G1 hm (a:=(pw m ((lg m a-lg m b)%((af m:Int)-1)).toNat).toNat) (by omega) (by omega) b1 b2
 rw[p3,xq n0,Int.emod_add_emod,Int.sub_add_cancel,EG g0 g1,g2]at e
 omega
end L3
namespace L3
open PySem L2 PySem.Spec PyProof.Rows
section
variable{X:Cx}{e o a:Expr}{es:List Expr}{f m y:Str}{pos p apos q:Pos}{t to ta':aI}{ta:bX}{n:Nat}{P:Program}{w:World}{K:PySem.W.Frag}{mg:Str->Option Value}{base:Heap}
theorem gu(he:PE X e (lB t))(hK:K=X.K:=by rfl)(hb:attributeBase e f X.env (eval e X.env)=eval e X.env:=by rfl):PE X (.Attribute e f pos) (lB (rX K t f)):=by
 subst hK;exact cA1 he hb
theorem sk{pl:Sem Bool}(ho:PE X o (lB to))(hr:bL n X.A)(ha:PA X (e::es) (lA ta))(hP:P=X.prog:=by rfl)(hw:w=X.w:=by rfl)(hK:K=X.K:=by rfl)(hm:mg=X.mg:=by rfl)(hb:base=X.base:=by rfl)
  (bZ:starEach (e::es) X.env=(false,eval e X.env)::starEach es X.env:=by rfl) (bj:(backTo pos (starEach es X.env)).any (·.1)=false:=by rfl)
  (ht:eval (.Call (.Attribute o m apos) (e::es) [] pos) X.env=(do
   let ov<-eval o X.env
   standAt apos.atName
   let (f,first)<-holding [ov] (getMethod ov m pl)
   callWith pos f first (backTo pos (starEach (e::es) X.env)) (backToKw pos (keywordEach [] X.env))):=by rfl) :
  PE X (.Call (.Attribute o m apos) (e::es) [] pos) (lE (rY (k9 P w K mg base n m) m to ta)):=by
 subst hP hw hK hm hb;exact ct4 ho hr ha bZ bj ht
theorem zx{pl:Sem Bool}(ho:PE X o (lB to))(hr:bL n X.A)(hP:P=X.prog:=by rfl)(hw:w=X.w:=by rfl)(hK:K=X.K:=by rfl)(hm:mg=X.mg:=by rfl)(hb:base=X.base:=by rfl)
  (ht:eval (.Call (.Attribute o m apos) [] [] pos) X.env=(do
   let ov<-eval o X.env
   standAt apos.atName
   let (f,first)<-holding [ov] (getMethod ov m pl)
   callWith pos f first (backTo pos (starEach [] X.env)) (backToKw pos (keywordEach [] X.env))):=by rfl) :
  PE X (.Call (.Attribute o m apos) [] [] pos) (lE (rZ (k9 P w K mg base n m) m to)):=by
 subst hP hw hK hm hb;exact ch7 ho hr ht
theorem PL{pl:Sem Bool}(ho:PE X o (lB to))(hr:bL n X.A)(ha:PA X (e::es) (lA ta))(hP:P=X.prog:=by rfl)(hw:w=X.w:=by rfl)(hK:K=X.K:=by rfl)(hm:mg=X.mg:=by rfl)(hb:base=X.base:=by rfl)
  (bZ:starEach (e::es) X.env=(false,eval e X.env)::starEach es X.env:=by rfl) (bj:(backTo pos (starEach es X.env)).any (·.1)=false:=by rfl)
  (ht:eval (.Call (.Attribute o m apos) (e::es) [] pos) X.env=(do
   let ov<-eval o X.env
   standAt apos.atName
   let (f,first)<-holding [ov] (getMethod ov m pl)
   callWith pos f first (backTo pos (starEach (e::es) X.env)) (backToKw pos (keywordEach [] X.env))):=by rfl) :
  PE X (.Call (.Attribute o m apos) (e::es) [] pos) (lE (si (CL P w K mg base n m) m to ta)):=by
 subst hP hw hK hm hb;exact ch5 ho hr ha bZ bj ht
end
theorem zy:∀m∈Mf.aJ,1<=Mf.bl m.2/\Mf.bl m.2<=7:=by decide +kernel
end L3
namespace L3
open PySem L2 Mf
noncomputable def gp(m:Bool × Nat)(a b:Nat):Nat:=if m.1 then a ^^^ b else(a+b)%m.2
noncomputable def gl(m:Bool × Nat)(a b:Nat):Int:=if m.1 then(a ^^^ b:Nat)else((a:Int)-b)%m.2
noncomputable def pP(c:Int):Bool × Nat:=if c%2=0 then(true,gS.getD (c/2%21).toNat 0)else(false,nQ.getD (c/2%18).toNat 0)
theorem b01(c:Int):pP c∈aJ:=by
 unfold pP
 split
 ·refine df _ (bI.mpr ⟨_,?_,rfl⟩)
  have h:(c/2%21).toNat<gS.length:=by
   have:=fE (c/2) (show(0:Int)<21 by decide)
   show _<21
   omega
  rw[aW,bc h]
  exact eN _
 ·refine cI _ (bI.mpr ⟨_,?_,rfl⟩)
  have h:(c/2%18).toNat<nQ.length:=by
   have:=fE (c/2) (show(0:Int)<18 by decide)
   show _<18
   omega
  rw[aW,bc h]
  exact eN _
noncomputable def dW(m:Bool × Nat):D:=.tup [.bl m.1,.int m.2]
theorem vP(cb cp:Addr)(m:Bool × Nat):fD cb cp m=.obj (if m.1 then cb else cp) (if m.1 then iu "bits"++[("products":Str)]else iu "prime") (if m.1 then pD (true,m.2)++[.lst false (vN (fl (true,m.2)) (eO (fl (true,m.2))))]else pD (false,m.2)):=by
 obtain⟨k,n⟩:=m
 cases k<;>rfl
theorem PM(m:Bool × Nat)(x:Str)(h:x ∉ (["bits","prime","many","wide","powers","logs","step","products"]:List Str)):x ∉ (if m.1 then iu "bits"++[("products":Str)]else iu "prime"):=by
 obtain⟨k,n⟩:=m
 intro z
 apply h
 cases k
 ·have z:x∈iu "prime":=z
  simp[iu]at z
  simp only[cq]
  rcases z with z | z | z | z | z | z<;>simp[z]
 ·have z:x∈iu "bits"++[("products":Str)]:=z
  simp[iu]at z
  simp only[cq]
  rcases z with z | z | z | z | z | z | z<;>simp[z]
theorem G4(cb cp:Addr)(m:Bool × Nat):(fD cb cp m).sh=fD cb cp m:=by rw[vP];rfl
theorem PN(cb cp:Addr)(m:Bool × Nat):(fD cb cp m).pl=true:=by rw[vP];rfl
theorem ci4(m:Bool × Nat):(dW m).sh=dW m:=rfl
theorem ce8(m:Bool × Nat):(dW m).pl=true:=rfl
noncomputable def MOf(P:Program)(w:World)(K:PySem.W.Frag)(mg:Str->Option Value)(base:Heap)(n:Nat)(cb cp:Addr)(m:Bool × Nat)(x:Str)(ds:List D)(Q:D->Prop):Prop:=∃C ns xs sp,fD cb cp m=.obj C ns xs/\k9 P w K mg base n x C sp/\x ∉ ns/\sp (.obj C ns xs::ds) Q
theorem pQ(m:Bool × Nat)(a b:Nat):gp m a b=gp m b a:=by
 unfold gp
 split
 ·rw[Lj]
 ·rw[Lh]
theorem G5(m:Bool × Nat)(a b c:Nat):gp m (gp m a b) c=gp m a (gp m b c):=by
 unfold gp
 split
 ·rw[qu]
 ·rw[EE,Nat.add_mod_mod,Lu]
theorem G6{m:Bool × Nat}(h:0<m.2)(a b c:Nat):gm m (gp m a b) c=gp m (gm m a c) (gm m b c):=by
 unfold gm gp
 split
 ·rw[oO,CI (by omega)]
 ·rw[xo,LD,<- xo,EH,EE,Nat.add_mod_mod]
theorem PQ{m:Bool × Nat}(h:0<m.2)(a b c:Nat):gm m c (gp m a b)=gp m (gm m c a) (gm m c b):=by rw[jv,G6 h,jv m a,jv m b]
theorem bV4:∀m∈aJ,m.1=true->2<=bl m.2:=by decide +kernel
theorem PR{m:Bool × Nat}(hm:m∈aJ){a b:Nat}(ha:a<af m)(hb:b<af m):gp m a b<af m:=by
 have h0:=dM m hm
 obtain⟨k,n⟩:=m
 cases k with
 | true=>exact tU ha hb
 | false=>exact xp _ h0
theorem cS{m:Bool × Nat}(hm:m∈aJ)(a b:Nat):gm m a b<af m:=by
 have h0:=dM m hm
 obtain⟨k,n⟩:=m
 cases k with
 | true =>
  have h2:=bV4 (true,n) hm rfl
  have:=(xZ (show n≠0 by have:0<n:=h0;omega) (cl a b)).2
  refine(Pz rfl).mpr ?_
  show bl (md (cl a b) n)<=bl n-1
  omega
 | false=>exact xp _ h0
theorem PU{m:Bool × Nat}{a:Nat}(ha:a<af m):gp m 0 a=a:=by
 obtain⟨k,n⟩:=m
 cases k with
 | true=>exact oG a
 | false=>show(0+a)%n=a;rw[LG];exact AN ha
theorem zA{m:Bool × Nat}{a:Nat}(ha:a<af m):gp m a 0=a:=by rw[pQ];exact PU ha
theorem cz0{m:Bool × Nat}(hm:m∈aJ){a b:Nat}(ha:a<af m)(hb:b<af m):∃r:Nat,gl m a b=r/\r<af m/\gp m r b=a:=by
 have h0:=dM m hm
 obtain⟨k,n⟩:=m
 cases k with
 | true=>exact⟨a ^^^ b,rfl,tU ha hb,by show a ^^^ b ^^^ b=a;rw[qu,AI,lH]⟩
 | false =>
  have h0:0<n:=h0
  have ha:a<n:=ha
  have hb:b<n:=hb
  refine⟨(a+(n-b))%n,?_,xp _ h0,?_⟩
  ·show((a:Int)-b)%n=_
   rw[tu,LF,Int.natCast_sub (by omega),show((a:Int)+((n:Int)-b))=((a:Int)-b)+n by omega,Int.add_emod_right]
  ·show((a+(n-b))%n+b)%n=a
   rw[EE,show a+(n-b)+b=a+n by omega,Nat.add_mod_right,AN ha]
noncomputable def eS(m:Bool × Nat)(n:Int):Nat:=(pw m (n%((af m:Int)-1)).toNat).toNat
theorem CM{m:Bool × Nat}(hm:m∈aJ)(n:Int):1<=eS m n/\eS m n<af m/\lg m (eS m n)=n%((af m:Int)-1)/\pw m (n%((af m:Int)-1)).toNat=eS m n:=by
 have gg:=(cW hm).lo
 have n0:=fm n (show(af m:Int)-1≠0 by omega)
 have n1:=fE n (show(0:Int)<(af m:Int)-1 by omega)
 obtain⟨p1,p2,p3⟩:=CJ hm (k:=(n%((af m:Int)-1)).toNat) (by omega)
 unfold eS
 rw[p3]
 omega
theorem cy3{m:Bool × Nat}(hm:m∈aJ)(a b:Int):gm m (eS m a) (eS m b)=eS m (a+b):=by
 obtain⟨a1,a2,a3,_⟩:=CM hm a
 obtain⟨b1,b2,b3,_⟩:=CM hm b
 have e:=G1 hm a1 a2 b1 b2
 rw[a3,b3,<- Int.add_emod]at e
 have c:=(CM hm (a+b)).2.2.2
 rw[c]at e
 omega
theorem PV{m:Bool × Nat}(hm:m∈aJ){a:Nat}(h1:1<=a)(h2:a<af m):eS m (lg m a)=a:=by
 obtain⟨g0,g1,g2⟩:=CK hm h1 h2
 unfold eS
 rw[EG g0 g1,g2];rfl
theorem cy6{m:Bool × Nat}(hm:m∈aJ){a b:Nat}(a1:1<=a)(a2:a<af m)(b1:1<=b)(b2:b<af m):gm m a b≠0:=by
 rw[<-PV hm a1 a2,<- PV hm b1 b2,cy3 hm]
 have:=(CM hm (lg m a+lg m b)).1
 omega
end L3
namespace L2
open PySem PySem.Spec PyProof.Rows
section
variable{X:Cx}{a:Expr}{ta:TA}{p pos:Pos}{tg:Expr}
end
end L2
namespace L3
open PySem L2 PySem.Spec PyProof.Rows
section
variable{F H:Hp}{K:PySem.W.Frag}{p:Addr}{ws:List V}{xs:List D}
end
section
variable{X:Cx}{a:Expr}{ta:bX}{p pos:Pos}{tg:Expr}
end
end L3
namespace L3
open PySem L2 Mf
noncomputable def AllLt(n:Nat)(l:List Nat):Prop:=∀a∈l,a<n
theorem AllLt.getD{n:Nat}{l:List Nat}(h:AllLt n l)(h0:0<n)(k:Nat):l.getD k 0<n:=by
 rw[aW]
 cases e:l[k]? with
 | none=>exact h0
 | some v=>exact h v (sV e)
end L3
namespace L3
open PySem L2 PySem.Spec PyProof.Rows
theorem bK3(n:Nat)(l:List Nat):(aw l).all (dF n)=true:=by
 rw[fJ,lL,cX]
 intro a _
 exact mm n _
theorem zB(n:Nat)(o:Bool)(l:List Nat):dF (n+1) (.lst o (aw l))=true:=bK3 n l
theorem zC(o o':Bool)(a b:List Nat):bF (.lst o (aw a)) (.lst o' (aw b))=decide (a=b):=by
 unfold aw
 rw[vh]
 congr 1
 apply propext
 constructor
 ·intro h
  have:=congrArg (xm jD) h
  have e:(jD ∘ λ(n:Nat)=>(n:Int))=id:=by funext x;rfl
  rw[b8,b8,e,List.map_id,List.map_id]at this
  exact this
 ·intro h;rw[h]
theorem nV{l:List Nat}{k:Int}(h0:0<=k)(h:k.toNat<l.length):eQ (aw l) k=some (.int ((l.getD k.toNat 0:Nat):Int)):=by
 refine lY h0 ?_
 rw[fJ,cU,bc h,aW,bc h];rfl
theorem pU{n:Nat}{k:Int}(h0:0<=k)(h:k.toNat<n):gL n k=some k.toNat:=by
 unfold gL
 rw[if_pos h0,if_pos (by omega)]
theorem CN{n:Nat}(k:Int)(h:k=n):(((bh k.toNat).map λ(k:Nat)=>D.int (0+(k:Int))).map D.sh)=(bh n).map λ(i:Nat)=>D.int (i:Int):=by
 subst h
 rw[yj,gY]
 simp
theorem CO(l:List Nat)(k v:Nat):(aw l).set k (.int (v:Nat))=aw (l.set k v):=by
 rw[fJ,fJ,AO]
theorem bY1(l:List Nat):(aw l).all D.fr=true:=rP _
theorem zD(o:Bool)(l:List Nat):(D.lst o (aw l)).sh=.lst false (aw l):=by rw[cP,pG]
theorem kj(l:List Nat):(D.lst true (aw l)).fr=true:=by rw[fG,bY1];rfl
section
variable{X:Cx}
end
end L3
namespace L3
open PySem L2 Mf
noncomputable def cj(m:Bool × Nat)(a b:Nat):Nat:=(gl m a b).toNat
theorem pV{m:Bool × Nat}(hm:m∈aJ){a b:Nat}(ha:a<af m)(hb:b<af m):gl m a b=(cj m a b:Nat)/\cj m a b<af m/\gp m (cj m a b) b=a:=by
 obtain⟨r,e,h1,h2⟩:=cz0 hm ha hb
 have:cj m a b=r:=by unfold cj;rw[e];rfl
 rw[this]
 exact⟨e,h1,h2⟩
theorem by4{n:Nat}{f:Nat->Nat->Nat}:∀{a b:List Nat},(∀x∈a,∀y∈b,f x y<n)->AllLt n (eX f a b)
 | [],_,_=>by intro x hx;simp at hx
 | _::_,[],_=>by intro x hx;simp at hx
 | x::a,y::b,h=>by
  intro z hz
  rw[List.zipWith_cons_cons]at hz
  rcases cq.mp hz with rfl | hz
  ·exact h x (by simp) y (by simp)
  ·exact by4 (λx hx y hy=>h x (by simp[hx]) y (by simp[hy])) z hz
theorem bG3(xs ys:List Nat):(gr (aw xs) (aw ys)).map D.sh=(xs.zip ys).map λz=>D.tup [.int (z.1:Int),.int (z.2:Int)]:=by
 unfold aw
 rw[bQ6,List.zip_map,b8];rfl
theorem PY{sh:Bool}{aD:List (Str × Nat)}{n i1 i2:Nat}{te:aI}{aj:Dl}{Q:D->Dl->Prop}(f:Nat->Nat->Nat){A B:List Nat}(hx:∀x∈A,∀y∈B,jr i1 i2 (.tup [.int (x:Int),.int (y:Int)]) (gq aD n aj) λaK=>te aK λd _=>d=.int ((f x y:Nat):Int))
  (hl:A.length<=100000) (hq:Q (.lst true (aw (eX f A B))) aj):rq sh (gr (aw A) (aw B)) aD n (jr i1 i2) kT te aj Q:=by
 refine PH (A.zip B) (λz=>D.tup [.int (z.1:Int),.int (z.2:Int)]) (λz=>D.int ((f z.1 z.2:Nat):Int)) (bG3 A B) (λa b h=>?_) (λz hz=>hx z.1 (AD hz).1 z.2 (AD hz).2) PJ (.inr λ_ _=>rfl) (by rw[LH,sL];omega) ?_
 ·injection h with h
  simp at h
  exact Prod.ext (by omega) (by omega)
 ·rw[show((A.zip B).map λz=>D.int ((f z.1 z.2:Nat):Int))=aw (eX f A B) by rw[fJ,List.zip,EB,EB]]
  exact hq
end L3
namespace L3
open PySem L2 PySem.Spec PyProof.Rows
theorem ai.cR8{B:Bs}{F H:Hp}{σ:L2.St}{δ:Dl}{ps ts:List (D × V)}{p:Addr}{o:HO}{A1:List Addr}(c:ai B F H σ δ (ps++ts))(hp:H p=none)(r:R F (upd H p o) (ps.map (·.1)) (ps.map (·.2)) A1):p ∉ A1:=λh=>by
 obtain⟨A,C,r0,_,_,_⟩:=c.own
 rw[dy,dy]at r0
 obtain⟨v1,v2,B1,B2,e,rfl,h1,h2⟩:=R.split r0
 have l1:(ps.map (·.2)).length=v1.length:=by rw[<-h1.length];simp
 obtain⟨rfl,rfl⟩:=oH e l1
 have g1:=h1.grow (ae.refl F) (ae.upd (o:=o) hp) λa ha=>(h1.lists a ha).2
 have:A1=B1:=R.inj r g1
 subst this
 obtain⟨ws,e⟩:=(h1.lists p h).1
 rw[hp]at e;cases e
theorem ai.join{B:Bs}{F H:Hp}{σ:L2.St}{δ:Dl}{ts:List (D × V)}{p p' r:Addr}{xs ys:List D}{ws fS:List V}(c:ai B F H σ δ ((.lst true ys,.ref p')::(.lst true xs,.ref p)::ts))(e1:H p=some (.lst ws))(e2:H p'=some (.lst fS))(hr:H r=none) :
  ai B F (upd H r (.lst (ws++fS))) σ δ ((.lst true (xs++ys),.ref r)::ts):=by
 refine ai.pack (ps:=[(.lst true ys,.ref p'),(.lst true xs,.ref p)]) c (ae.upd hr) λA1 r1 nd=>?_
 have nin:=ai.cR8 (ps:=[(.lst true ys,.ref p'),(.lst true xs,.ref p)]) (ts:=ts) c hr r1
 have n1:p≠r:=λz=>by rw[z,hr]at e1;cases e1
 have n2:p'≠r:=λz=>by rw[z,hr]at e2;cases e2
 have r1:R F (upd H r (.lst (ws++fS))) [.lst true ys,.lst true xs] [.ref p',.ref p] A1:=r1
 cases r1 with
 | @own _ wy _ Ay _ _ By hy fy ry rb =>
  cases rb with
  | @own _ wx _ Ax _ _ Bx hx fx rx rc =>
   cases rc
   rw[aL n2,e2]at hy;cases hy
   rw[aL n1,e1]at hx;cases hx
   refine⟨r::(Ax++Ay),by simpa using R.own br (c.ext.free hr) (rx.append ry) .nil,?_,λa ha=>?_⟩
   ·refine iQ.mpr ⟨λz=>nin ?_,?_⟩
    ·rcases bA.mp z with z | z<;>simp[z]
    ·have sl:(Ay++Ax).Sublist (p'::Ay++(p::Ax++[])):=by
      rw[fj]
      exact(((VM p Ax).append_left Ay).trans (VM p' _))
     exact mM.nodup_iff.mp (nd.sublist sl)
   ·simp only[cq,bA]at ha ⊢
    rcases ha with rfl | ha | ha
    ·exact .inr hr
    ·simp[ha]
    ·simp[ha]
section
variable{X:Cx}{a b:Expr}{ta tb:aI}{pos:Pos}
noncomputable def vQ(ta tb:aI):aI:=λδ Q=>ta δ λx aj=>tb aj λy aK=>∃xs ys,x=.lst true xs/\y=.lst true ys/\xs.length+ys.length<=sizeLine/\Q (.lst true (xs++ys)) aK
theorem cm6(ha:PE X a (lE ta))(hb:PE X b (lE tb)):PE X (.BinOp a .Add b pos) (lE (vQ ta tb)) :=
 da (xO MU ha hb) λσ H Q ⟨B,F,δ,ts,Qd,c,q,k⟩ =>
  ⟨B,F,δ,ts,_,c,q,λx aj v F1 H1 q1 f1 h1 c1=>⟨B,F1,aj,(x,v)::ts,_,c1,q1,λy aK w F2 H2 q2 f2 h2 c2=>by
   obtain⟨xs,ys,rfl,rfl,hz,hq⟩:=q2
   obtain⟨p',fS,rfl,e2,s2⟩:=iH c2.top c2.ext
   obtain⟨p,ws,rfl,e1,s1⟩:=iH c2.pop.top c2.ext
   refine⟨p,p',ws,fS,rfl,rfl,e1,e2,by rw[<-s1.length,<- s2.length];exact hz,λr hr=>?_⟩
   exact k _ aK _ F2 _ hq (f1.trans f2) ((h1.trans h2).trans (ae.upd hr)) (c2.join e1 e2 hr)⟩⟩
end
theorem bQ7{a b:List Nat}(h:aw a=aw b):a=b:=by
 have:=zC true true a b
 rw[h,show bF (D.lst true (aw b)) (D.lst true (aw b))=true from(zC _ _ _ _).trans (decide_eq_true rfl)]at this
 exact of_decide_eq_true this.symm
theorem my{o:Bool}(a b:List Nat)(h:D.lst o (aw a)=D.lst o (aw b)):a=b:=bQ7 (by injection h)
end L3
namespace L3
open PySem L2 Mf
end L3
namespace L2
open PySem PySem.Spec PyProof.Rows
end L2
namespace L3
open PySem L2 PySem.Spec PyProof.Rows Mf
end L3
namespace L3
open PySem L2 Mf
noncomputable def cf(l:List Nat)(k:Nat):Nat:=l.getD k 0
theorem vR{l:List Nat}{k:Nat}(h:l.length<=k):cf l k=0:=by
 unfold cf;rw[aW,iy h];rfl
theorem fK{m:Bool × Nat}(hm:m∈aJ){l:List Nat}(h:AllLt (af m) l)(k:Nat):cf l k<af m:=h.getD (by have:=(cW hm).lo;omega) k
theorem PZ(m:Bool × Nat)(x:Nat):cj m x x=0:=by
 obtain⟨k,n⟩:=m
 cases k with
 | true=>show(((x ^^^ x:Nat):Int)).toNat=0;rw[AI];rfl
 | false=>show(((x:Int)-(x:Int))%(n:Int)).toNat=0;rw[Int.sub_self,Int.zero_emod];rfl
end L3
namespace L3
open PySem L2 PySem.Spec PyProof.Rows
section
variable{B:Bs}{F H:Hp}{σ:L2.St}{δ:Dl}{ts ps:List (D × V)}{i k:Nat}{p q:Addr}{l1 l2 ys qW:List D}{ws iq:List V}
end
section
variable{X:Cx}{F H:Hp}{e b:Expr}{pos p p2 p3 pr apos bN rO:Pos}{t ti te:aI}{x y:Str}{i j:Nat}
end
end L3
namespace L3
structure Rg(N:Nat)(p q:Nat->Nat->Nat):Prop where
 pc:∀a b,p a b=p b a
 pa:∀a b c,p (p a b) c=p a (p b c)
 mc:∀a b,q a b=q b a
 ma:∀{a b c},a<N->b<N->c<N->q (q a b) c=q a (q b c)
 dl:∀a b c,q a (p b c)=p (q a b) (q a c)
 z:∀{a},a<N->p 0 a=a
 qz:∀a,q a 0=0
 one:∀{a},a<N->q 1 a=a
 lp:∀{a b},a<N->b<N->p a b<N
 lq:∀a b,q a b<N
 ng:∀{a},a<N->∃b,b<N/\p a b=0
section
variable{N:Nat}{p q:Nat->Nat->Nat}
noncomputable def sm(p:Nat->Nat->Nat):Nat->(Nat->Nat)->Nat
 | 0,_=>0
 | n+1,f=>p (sm p n f) (f n)
theorem Rg.pos(r:Rg N p q):0<N:=mL (jX _) (r.lq 0 0)
theorem Rg.z'(r:Rg N p q){a:Nat}(h:a<N):p a 0=a:=by rw[r.pc];exact r.z h
theorem Rg.P0(r:Rg N p q){a b c:Nat}(ha:a<N)(hb:b<N)(hc:c<N)(h:p a c=p b c):a=b:=by
 obtain⟨d,_,e⟩:=r.ng hc
 have:=congrArg (λx=>p x d) h
 simp only[r.pa,e]at this
 rw[r.z' ha,r.z' hb]at this
 exact this
theorem Rg.cn(r:Rg N p q){a b:Nat}(ha:a<N)(hb:b<N)(h:p a b=b):a=0:=r.P0 ha r.pos hb (by rw[h,r.z hb])
theorem gF{f g:Nat->Nat}:∀{n:Nat},(∀j,j<n->f j=g j)->sm p n f=sm p n g
 | 0,_=>rfl
 | n+1,h=>by rw[sm,sm,gF λj hj=>h j (by omega),h n (by omega)]
theorem pW(r:Rg N p q){f:Nat->Nat}:∀{n:Nat},(∀j,j<n->f j<N)->sm p n f<N
 | 0,_=>r.pos
 | n+1,h=>r.lp (pW r λj hj=>h j (by omega)) (h n (by omega))
theorem lu(r:Rg N p q){f:Nat->Nat}:∀{n:Nat},(∀j,j<n->f j=0)->sm p n f=0
 | 0,_=>rfl
 | n+1,h=>by rw[sm,lu r λj hj=>h j (by omega),h n (by omega)];exact r.z r.pos
theorem Rg.four(r:Rg N p q)(a b c d:Nat):p (p a b) (p c d)=p (p a c) (p b d):=by
 rw[r.pa,r.pa,<- r.pa b,<- r.pa c,r.pc b c]
theorem zE(r:Rg N p q)(f g:Nat->Nat):∀n,sm p n (λj=>p (f j) (g j))=p (sm p n f) (sm p n g)
 | 0=>(r.z r.pos).symm
 | n+1=>by rw[sm,zE r f g n,sm,sm,r.four]
theorem CP(r:Rg N p q)(c:Nat)(f:Nat->Nat):∀n,sm p n (λj=>q c (f j))=q c (sm p n f)
 | 0=>(r.qz c).symm
 | n+1=>by rw[sm,CP r c f n,sm,r.dl]
theorem P1(r:Rg N p q){f:Nat->Nat}(n:Nat):∀k,(∀j,j<n+k->f j<N)->sm p (n+k) f=p (sm p n f) (sm p k λj=>f (n+j))
 | 0,h=>(r.z' (pW r λj hj=>h j (by omega))).symm
 | k+1,h=>by
  rw[<-Lu,sm,P1 r n k λj hj=>h j (by omega),sm,r.pa]
end
end L3
namespace L3
section
variable{N:Nat}{p q:Nat->Nat->Nat}
end
end L3
namespace L3
open PySem L2 Mf
theorem rg{m:Bool × Nat}(hm:m∈aJ):Rg (af m) (gp m) (gm m) where
 pc:=pQ m
 pa:=G5 m
 mc:=jv m
 ma:=λ_ _ _=>lj (dM m hm) _ _ _
 dl:=λa b c=>PQ (dM m hm) b c a
 z:=PU
 qz:=λa=>nU m a (dM m hm)
 one:=sg
 lp:=PR hm
 lq:=cS hm
 ng:=λ{a} ha=>by
  have g:=pV hm (a:=0) (b:=a) (by omega) ha
  exact⟨_,g.2.1,(pQ m _ _).trans g.2.2⟩
theorem ct6{m:Bool × Nat}(hm:m∈aJ)(f:Nat)(b:List Nat)(j:Nat):cf (b.map (gm m f)) j=gm m f (cf b j):=by
 unfold cf
 rw[aW,cU,aW]
 cases b[j]? with
 | none=>exact(nU m f (dM m hm)).symm
 | some x=>rfl
theorem G7{m:Bool × Nat}(hm:m∈aJ){a b:Nat}(ha:a<af m)(hb:b<af m)(h0:b≠0):∃r,r<af m/\gm m r b=a:=by
 by_cases a0:a=0
 ·exact⟨0,by have:=(cW hm).lo;omega,by rw[a0];exact iM m b (dM m hm)⟩
 ·obtain⟨r,_,h1,h2⟩:=PK hm (show 1<=a by omega) ha (show 1<=b by omega) hb
  exact⟨r,h1,h2⟩
end L3
namespace L3
open PySem L2 PySem.Spec PyProof.Rows
section
variable{X:Cx}{i j:Nat}{x y:Str}{p pos pos' apos bN:Pos}
end
section
variable{X:Cx}{e:Expr}{t:aI}{p pos:Pos}
end
section
variable{X:Cx}
theorem bW7(i:Int)(ns:List Int):BI (.int i) (ns.map V.int)=decide (i∈ns):=by
 unfold BI
 rw[LJ,s8,AJ,decide_eq_true_iff]
 exact⟨λ⟨x,hx,he⟩=>(show x=i by simpa[lZ]using he) ▸ hx,λhx=>⟨i,hx,by simp[lZ]⟩⟩
noncomputable def sq:cG:=λx y Q=>match x,y with
 | .int i,.lst _ xs=>∃ns:List Int,xs=aF ns/\Q (.bl (!decide (i∈ns)))
 | _,_=>False
theorem P2:bP X (compareOp .NotIn) sq :=
 ⟨_,Yl,λ{B F H σ δ ts x y v w Q Qd} c sx sy h k=>by
  unfold sq at h
  split at h
  ·rename_i i o xs
   obtain⟨ns,rfl,q⟩:=h
   obtain⟨p,ws,rfl,e1,s1⟩:=iH sy c.ext
   have e:=OR s1
   subst e
   cases sx
   refine⟨p,_,rfl,.inl (bw.of e1),rfl,by simp[mV],?_⟩
   rw[if_pos rfl,bW7]
   exact k _ _ _ q (ae.refl _) (c.pushS (.bl .nil) rfl)
  ·exact h.elim⟩
end
end L3
namespace L3
open PySem L2 Mf
noncomputable def au(o:Bool)(T:List (List Nat)):List D:=T.map λr=>.lst o (aw r)
theorem gw(o:Bool)(T:List (List Nat)):(au o T).length=T.length:=by unfold au;rw[aS]
theorem dv(o:Bool)(T:List (List Nat)):(au o T).map D.sh=au false T:=by
 unfold au
 rw[b8]
 exact mQ λr _=>zD o r
theorem vS(T:List (List Nat)):(au false T).all D.pl=true:=by
 unfold au
 rw[lL,cX]
 intro r _
 show(D.lst false (aw r)).pl=true
 rw[ig,ki];rfl
theorem pX(T:List (List Nat)):(au true T).all D.fr=true:=by
 unfold au
 rw[lL,cX]
 intro r _
 exact kj r
theorem pY(o:Bool)(S T:List (List Nat)):au o S++au o T=au o (S++T):=by unfold au;rw[dy]
theorem zF(o:Bool)(T:List (List Nat))(lo hi:Option Int):fg (au o T) lo hi=au o (fg T lo hi):=by
 unfold au fg
 rw[aS,Ly,Lx]
theorem nW(o:Bool){T:List (List Nat)}{i:Nat}(h:i<T.length):eQ (au o T) (i:Int)=some (.lst o (aw T[i])):=by
 refine L3.vy ?_
 unfold au
 rw[cU,bc h];rfl
theorem bL4(n:Nat)(o:Bool)(T:List (List Nat)):(au o T).all (dF (n+1))=true:=by
 unfold au
 rw[lL,cX]
 intro r _
 exact zB _ _ _
theorem pZ(n:Nat)(o o':Bool)(T:List (List Nat)):dF (n+2) (.lst o (au o' T))=true:=bL4 n o' T
theorem P4(o o':Bool):∀(a b:List (List Nat)),bF.fV (au o a) (au o' b)=decide (a=b)
 | [],[]=>rfl
 | [],_::_=>by simp[au,bF.fV]
 | _::_,[]=>by simp[au,bF.fV]
 | x::xs,y::ys=>by
  show(bF (.lst o (aw x)) (.lst o' (aw y))&&bF.fV (au o xs) (au o' ys))=_
  rw[P4 o o' xs ys,zC,s8];simp
theorem CQ(o o' o1 o2:Bool)(a b:List (List Nat)):bF (.lst o (au o1 a)) (.lst o' (au o2 b))=decide (a=b):=P4 o1 o2 a b
open Classical in
theorem CS{α:Type}{sh:Bool}{xs:List D}{aD:List (Str × Nat)}{n:Nat}{g0:gO}{tt:gj}{te:aI}{aj:Dl}{Q:D->Dl->Prop}(l:List α)(e g:α->D)(kp:α->Bool)(js:xs.map D.sh=l.map e)(inj:∀a b,e a=e b->a=b)
  (hx:∀a∈l,g0 (e a) (gq aD n aj) λaK=>tt aK λb gn=>b=kp a/\(kp a=true->te gn λd _=>d=g a)) (eT:(sh&&aD.all (jk aj))=true\/∀a∈l,kp a=true->(g a).fr=true) (hl:l.length<=sizeLine) (hq:Q (.lst true ((l.filter kp).map g)) aj):rq sh xs aD n g0 tt te aj Q:=by
 have pick:∀{β:Type} (h:α->β) (z:β),∃f:D->β,∀a∈l,f (e a)=h a:=λh z=>⟨λx=>if w:∃a∈l,e a=x then h w.choose else z,λa ha=>by
  have w:∃b∈l,e b=e a:=⟨a,ha,rfl⟩
  show(if w:∃b∈l,e b=e a then h w.choose else z)=h a
  rw[dif_pos w]
  exact congrArg h (inj _ _ w.choose_spec.2)⟩
 obtain⟨f,hf⟩:=pick g .aq
 obtain⟨p,hp⟩:=pick kp false
 refine⟨p,f,λx h=>?_,eT.imp id λh x dD=>?_,?_,?_⟩
 ·rw[js]at h
  obtain⟨a,ha,rfl⟩:=bI.mp h
  rw[hp a ha,hf a ha]
  exact hx a ha
 ·rw[js]at dD
  obtain⟨a,ha,rfl⟩:=bI.mp dD
  rw[hp a ha,hf a ha];exact h a ha
 ·have:=congrArg Ei js
  simp at this
  omega
 ·rw[js,List.filter_map,b8,show l.filter (p ∘ e)=l.filter kp from List.filter_congr λa ha=>hp a ha,show(l.filter kp).map (f ∘ e)=(l.filter kp).map g from mQ λa ha=>hf a (wY.mp ha).1]
  exact hq
theorem P5{o:Bool}{G:List (List Nat)}{i:Nat}{d:D}(h:(gQ (au o G))[i]?=some d):∃hi:i<G.length,d=.tup [.int i,.lst o (aw G[i])]:=by
 unfold gQ au at h
 rw[EC,cU]at h
 by_cases hi:i<G.length
 ·rw[bc hi]at h
  exact⟨hi,(dq h).symm⟩
 ·rw[iy (by omega)]at h;cases h
theorem G8(r:List Nat):(gQ (aw r)).map D.sh=(bh r.length).map λ(i:Nat)=>D.tup [.int (i:Int),.int ((r.getD i 0:Nat):Int)]:=by
 apply Lz
 intro i
 unfold gQ
 rw[fJ,cU,EC,cU,cU]
 by_cases hi:i<r.length
 ·have e:r.getD i 0=r[i]:=by rw[aW,bc hi];rfl
  rw[bc hi,mO hi]
  show _=some (D.tup [D.int (i:Int),D.int ((r.getD i 0:Nat):Int)])
  rw[e];rfl
 ·rw[iy (show r.length<=i by omega),iy (show(bh r.length).length<=i by simpa using hi)];rfl
theorem P6{r:List Nat}(h:∃x∈r,x≠0):((bh r.length).filter λi=>r.getD i 0 != 0)[0]?=some (r.findIdx (· != 0)):=by
 obtain⟨x,hx,h0⟩:=h
 have hl:r.findIdx (· != 0)<r.length:=LK ⟨x,hx,by simpa using h0⟩
 rw[<-List.head?_eq_getElem?,List.head?_filter,List.find?_range_eq_some]
 refine⟨?_,eJ.mpr hl,λj hj=>?_⟩
 ·rw[aW,bc hl]
  exact VN (w:=hl)
 ·have:=List.not_of_lt_findIdx hj
  rw[aW,bc (by omega)]
  simpa using this
noncomputable def ak(T:List (List Nat)):Nat:=(T.headD []).length
noncomputable def jQ(T:List (List Nat))(j:Nat):Option Nat:=T.findIdx? λr=>r.getD j 0 != 0
noncomputable def gG(m:Bool × Nat)(T:List (List Nat))(l:List Nat)(j:Nat):List (List Nat):=T.map λr=>eX (λx y=>cj m x (gm m (r.getD j 0) y)) r l
noncomputable def mB(m:Bool × Nat)(b:Nat):Nat:=((bh (af m)).find? λr=>gm m r b==1).getD 0
theorem CT{m:Bool × Nat}(hm:m∈aJ){b r:Nat}(hr:r<af m)(h:gm m r b=1):mB m b=r:=by
 have m0:=dM m hm
 unfold mB
 cases e:(bh (af m)).find? λr=>gm m r b==1 with
 | none =>
  have:=LL.mp e r (eJ.mpr hr)
  simp[h]at this
 | some r' =>
  have h':gm m r' b=1:=by simpa using List.find?_some e
  have l':r'<af m:=eJ.mp (Lw e)
  show r'=r
  rw[<-nS hr,<- h',<- lj m0,jv m r r',lj m0,h,nS l']
noncomputable def RT(N w:Nat)(T:List (List Nat)):Prop:=∀r∈T,r.length=w/\AllLt N r
theorem RT.app{N w:Nat}{S T:List (List Nat)}(a:RT N w S)(b:RT N w T):RT N w (S++T):=λr hr=>(bA.mp hr).elim (a r) (b r)
theorem P7{m:Bool × Nat}(hm:m∈aJ){w j:Nat}{T:List (List Nat)}{l:List Nat}(h:RT (af m) w T)(hl:l.length=w):RT (af m) w (gG m T l j):=λr hr=>by
 obtain⟨r,h1,rfl⟩:=bI.mp hr
 obtain⟨a,b⟩:=h r h1
 exact⟨by rw[tw,a,hl,Ey],by4 λx hx y hy=>(pV hm (b x hx) (cS hm _ y)).2.1⟩
noncomputable def dX(m:Bool × Nat)(T:List (List Nat))(i p:Nat):List Nat:=(T.getD i []).map (gm m (mB m ((T.getD i []).getD p 0)))
noncomputable def iw(m:Bool × Nat)(s:List (List Nat) × List (List Nat))(p:Nat):List (List Nat) × List (List Nat):=match jQ s.2 p with
 | none=>s
 | some i=>(gG m s.1 (dX m s.2 i p) p++[dX m s.2 i p],gG m (s.2.take i++s.2.drop (i+1)) (dX m s.2 i p) p)
noncomputable def jw(m:Bool × Nat)(G:List (List Nat))(k:Nat):List (List Nat) × List (List Nat):=(bh k).foldl (iw m) ([],G)
noncomputable def bO(m:Bool × Nat)(G:List (List Nat)):List (List Nat):=(jw m G (ak G)).1
theorem G9(m:Bool × Nat)(G:List (List Nat))(k:Nat):jw m G (k+1)=iw m (jw m G k) k:=by
 unfold jw
 rw[LM,List.foldl_append];rfl
theorem CU{T:List (List Nat)}{j i:Nat}(h:jQ T j=some i):∃hi:i<T.length,T[i].getD j 0≠0/\T.getD i []=T[i]:=by
 obtain⟨hi,h1,_⟩:=VO.mp h
 exact⟨hi,by simpa using h1,by rw[aW,bc hi];rfl⟩
structure zG(N w n:Nat)(s:List (List Nat) × List (List Nat)):Prop where
 a:RT N w s.1
 b:RT N w s.2
 l:s.1.length+s.2.length<=n
theorem bV5{m:Bool × Nat}(hm:m∈aJ){w n p:Nat}{s:List (List Nat) × List (List Nat)}(h:zG (af m) w n s):zG (af m) w n (iw m s p):=by
 unfold iw
 split
 ·exact h
 ·rename_i i e
  obtain⟨hi,h1,h2⟩:=CU e
  have hl:(dX m s.2 i p).length=w:=by unfold dX;rw[aS,h2];exact(h.b _ (eN hi)).1
  have hr:RT (af m) w [dX m s.2 i p]:=λr hr=>by
   rw[dG]at hr
   refine⟨by rw[hr];exact hl,λx hx=>?_⟩
   rw[hr]at hx
   obtain⟨y,_,rfl⟩:=bI.mp hx
   exact cS hm _ _
  refine⟨(P7 hm h.a hl).app hr,P7 hm (λr hr=>h.b r ?_) hl,?_⟩
  ·rcases bA.mp hr with hr | hr
   ·exact xk hr
   ·exact qA hr
  ·have:=h.l
   unfold gG
   rw[eM,aS,aS,eM,eC,iS]
   show s.1.length+1+_<=n
   omega
theorem zH{m:Bool × Nat}(hm:m∈aJ){w:Nat}{G:List (List Nat)}(h:RT (af m) w G):∀k,zG (af m) w G.length (jw m G k)
 | 0=>⟨(λr hr=>nomatch hr),h,w5 (LG _)⟩
 | k+1=>by rw[G9];exact bV5 hm (zH hm h k)
theorem P8(j:Nat)(l:List Nat):decide ((j:Int)∈l.map λ(n:Nat)=>(n:Int))=l.contains j:=by
 rw[s8,decide_eq_true_iff,EI,bI]
 exact⟨λ⟨a,h,e⟩=>(show a=j by omega) ▸ h,λh=>⟨j,h,rfl⟩⟩
theorem ci2{o:Bool}{G:List (List Nat)}{f:List Nat->Nat}{k:Nat}{d:D}(h:(gr (aw (G.map f)) (au o G))[k]?=some d):∃hk:k<G.length,d=.tup [.int ((f G[k]:Nat):Int),.lst o (aw G[k])]:=by
 unfold gr au at h
 rw[fJ,LN,cU,cU,cU]at h
 by_cases hk:k<G.length
 ·rw[bc hk]at h
  exact⟨hk,(dq h).symm⟩
 ·rw[iy (by omega)]at h;cases h
theorem P9{α:Type}(a:α->Nat)(b:α->Nat):∀(l:List α) (x:List Nat),(l.foldl (λx z=>x.set (a z) (b z)) x).length=x.length
 | [],_=>rfl
 | z::l,x=>by rw[sY,P9 a b l,gZ]
end L3
namespace L2
open PySem PySem.Spec PyProof.Rows
theorem bH4{M:Model}{A:Around}{E:Value->Shared->Prop}{s:Shared}{scope:Scope}{globals:Addr}{cl:List (Str × Addr)}{qual:Str}{env:Env}{bi:Addr}{Q:Env->Shared->Prop}
  (hQ:Q (newEnv scope s.heap.objs.size globals (cellsFrom (s.heap.objs.size+1) scope.names cl) qual none .none (some env) bi) { s with heap:=pushCells (s.heap.push { cls:=.type "dict",data:=.dict #[] }) scope.names }) :
  wpAny M A (newFunctionEnv scope globals cl [] qual none .none (some env) bi) Q E s:=by
 simp only[newFunctionEnv,Option.isSome_some,if_true]
 refine wpAny_bind (wpAny_alloc (wpAny_bind (wpAny_layCells _ (λname kind cells=>by cases e:kind==EJ<;>simp[e]) _ _ _ _ ?_)))
 rw[List.forIn_nil]
 refine wpAny_bind (wpAny_pure (wpAny_pure ?_))
 have z:({ s with heap:=s.heap.push { cls:=.type "dict",data:=.dict #[] } }:Shared).heap.objs.size=s.heap.objs.size+1:=w4 ..
 rw[z]
 exact hQ
theorem zI:∀(ns:List (Str × NameKind)) (n:Nat) (acc:List (Str × Addr)) (y:Str) (c:Addr),(cellsFrom n ns acc).lookup y=some c->(n<=c/\(y,EJ)∈ns)\/acc.lookup y=some c
 | [],_,_,_,_,h=>.inr h
 | (z,k)::r,n,acc,y,c,h=>by
  unfold cellsFrom at h
  split at h
  ·rename_i hk
   rcases zI r (n+1) _ y c h with⟨h1,h2⟩ | h1
   ·exact .inl ⟨by omega,gB _ h2⟩
   ·rw[gC]at h1
    cases q:y==z with
    | true =>
     rw[q]at h1;cases h1
     exact .inl ⟨bD _,by rw[eq_of_beq q,eq_of_beq hk];exact jB⟩
    | false=>rw[q]at h1;exact .inr h1
  ·rcases zI r n acc y c h with⟨h1,h2⟩ | h1
   ·exact .inl ⟨h1,gB _ h2⟩
   ·exact .inr h1
theorem Ha:∀(ns:List (Str × NameKind)) (n:Nat) (acc:List (Str × Addr)),(∀y z c,acc.lookup y=some c->acc.lookup z=some c->y=z)->(∀y c,acc.lookup y=some c->c<n) ->
  ∀y z c,(cellsFrom n ns acc).lookup y=some c->(cellsFrom n ns acc).lookup z=some c->y=z
 | [],_,_,i,_,y,z,c,h1,h2=>i y z c h1 h2
 | (u,k)::r,n,acc,i,b,y,z,c,h1,h2=>by
  unfold cellsFrom at h1 h2
  split at h1
  ·rw[if_pos (by assumption)]at h2
   refine Ha r (n+1) ((u,n)::acc) (λy z c e1 e2=>?_) (λy c e=>?_) y z c h1 h2
   ·rw[gC]at e1 e2
    cases q1:y==u with
    | true =>
     rw[q1]at e1;cases e1
     cases q2:z==u with
     | true=>rw[eq_of_beq q1,eq_of_beq q2]
     | false=>rw[q2]at e2;exact absurd (b _ _ e2) (gA _)
    | false =>
     rw[q1]at e1
     cases q2:z==u with
     | true=>rw[q2]at e2;cases e2;exact absurd (b _ _ e1) (gA _)
     | false=>rw[q2]at e2;exact i y z c e1 e2
   ·rw[gC]at e
    cases q:y==u with
    | true=>rw[q]at e;cases e;exact AB _
    | false=>rw[q]at e;exact Nat.lt_succ_of_lt (b _ _ e)
  ·rw[if_neg (by assumption)]at h2
   exact Ha r n acc i b y z c h1 h2
theorem Hb:∀(ns:List (Str × NameKind)) (n:Nat) (acc:List (Str × Addr)) (y:Str) (c:Addr),(y,EJ)∈ns->(cellsFrom n ns acc).lookup y=some c->n<=c
 | [],_,_,_,_,m,_=>nomatch m
 | (z,k)::r,n,acc,y,c,m,h=>by
  unfold cellsFrom at h
  split at h
  ·rename_i hk
   rcases cq.mp m with e | m
   ·have e1:y=z:=(Prod.mk.inj e).1
    rcases zI r (n+1) _ y c h with⟨h1,_⟩ | h1
    ·exact AQ h1
    ·rw[gC,e1,beq_self_eq_true]at h1
     exact w5 (dq h1)
   ·exact AQ (Hb r (n+1) _ y c m h)
  ·rename_i hk
   rcases cq.mp m with e | m
   ·cases e;exact absurd rfl hk
   ·exact Hb r n acc y c m h
noncomputable def dY(X:Cx)(scope:Scope)(N:List Str)(cl:List (Str × Addr))(C:Addr)(s:Shared)(H:Hp)(fp:List Addr):Cx :=
 { BO X scope N (cellsFrom (C+1) scope.names cl) C s H fp with fn:=λy=>scope.names.contains (y,EJ) }
section
variable{X:Cx}{scope:Scope}{cl:List (Str × Addr)}
theorem b05{pins:List (Addr × Obj)}{σ:St}{H:Hp}{s:Shared}{fp:List Addr}{C:Addr}(I:Inv X pins σ H s)(jc:scope.kind=.function)(hC:s.heap.objs.size<=C)
  (gR:∀y c,cl.lookup y=some c->X.env.cells.lookup y=some c) (cS9:∀y,((relabel scope X.env).names.lookup y=some .cell\/(relabel scope X.env).names.lookup y=some .free)->∃c,(cellsFrom (C+1) scope.names cl).lookup y=some c)
  (hf:∀b∈fp,i5 X pins H b) (ho:∀b∈fp,∃o,s.heap.get? b=some o/\∀v,o.data≠.cell v) (N:List Str):(dY X scope N cl C s H fp).Ok where
 mod:=I.ok.mod
 kind:=jc
 glob:=I.ok.glob
 blt:=I.ok.blt
 above:=hC
 inj:=Ha scope.names (C+1) cl (λy z c h1 h2=>I.ok.inj y z c (gR _ _ h1) (gR _ _ h2)) λy c e=>by
  obtain⟨v,o,ho,_⟩:=I.cell y c (gR y c e)
  exact Nat.lt_succ_of_le (Av (cH (bH ho) hC))
 has:=cS9
 mS:=λy c h e=>eK hC (AQ (Hb _ _ _ y c (EI.mp h) e))
 hd:=I.ok.hd
 frames:=I.ok.frames
 qF:=.inl rfl
 qG:=λb hb=>⟨by
  obtain⟨o,e,_⟩:=ho b hb
  exact eB (cH (bH e) hC),λy c e z=>by
  rcases zI _ _ _ y c e with⟨h1,_⟩ | h1
  ·obtain⟨o,e,_⟩:=ho b hb
   rw[z]at h1
   exact absurd (cH (bH e) (eK hC (AQ h1))) (gA _)
  ·exact(hf b hb).2.2.2.2.1 y c (gR _ _ h1) z⟩
 bs:=I.bs
 iX:=eK I.ok.iX I.sz
 oI:=λb o e hb=>by
  rcases(hf b hb).2.2.2.1 with z | z
  ·exact I.ok.oI b o e z
  ·exact absurd (cH (bH (I.ok.bs b o e).1) z) (gA _)
 oJ:=λb hb z=>(cq.mp (I.xx b z)).elim (hf b hb).2.1 (hf b hb).2.2.1
 fY:=I.stack
 iY:=I.Bf
end
theorem Hc:∀(ns:List (Str × NameKind)) (h:Heap) (acc:List (Str × Addr)) (y:Str) (c:Addr),(cellsFrom h.objs.size ns acc).lookup y=some c->(∃o,(pushCells h ns).get? c=some o/\o.data=.cell none)\/acc.lookup y=some c
 | [],_,_,_,_,e=>.inr e
 | (z,k)::r,h,acc,y,c,e=>by
  unfold cellsFrom at e
  unfold pushCells
  split at e
  ·rename_i hk
   rw[if_pos hk]
   rw[<-w4 h { cls:=.type "cell",data:=.cell none }]at e
   rcases Hc r _ _ y c e with h1 | h1
   ·exact .inl h1
   ·rw[gC]at h1
    cases q:y==z with
    | true =>
     rw[q]at h1;cases h1
     exact .inl ⟨_,pushCells_keeps _ _ _ _ (gX _ rfl),rfl⟩
    | false=>rw[q]at h1;exact .inr h1
  ·rename_i hk
   rw[if_neg hk]
   exact Hc r h acc y c e
end L2
namespace L2
open PySem PySem.Spec PyProof.Rows
section
variable{X:Cx}{elt iter tg:Expr}{pos:Pos}{ifs:List Expr}{scope:Scope}{cl:List (Str × Addr)}{wi:TI}{tt:TT}{te:TE}{g:TG}
theorem Qa(aD:List (Str × Nat))(bU:List Str)(hc:X.calm=true)(hi:PI X tg iter wi)
  (hg:∀C s H fp,PG (dY X scope (aD.map (·.1)++bU) cl C s H fp) tg g)
  (ht:∀C s H fp,mZ (dY X scope (aD.map (·.1)++bU) cl C s H fp) ifs tt) (he:∀C s H fp,PE (dY X scope (aD.map (·.1)++bU) cl C s H fp) elt te)
  (nX:closureFor scope X.env=pure cl) (nY:m5 X cl) (nZ:∀C:Addr,m6 (cellsFrom (C+1) scope.names cl) (relabel scope X.env).names) (n8:∀C:Addr,mY X scope (cellsFrom (C+1) scope.names cl) aD)
  (jc:scope.kind=.function) (og:∀y∈scope.names,y.2=.local->scope.names.lookup y.1=some .local)
  (hs:∀x,foldedSetIterable iter X.env x=pure x:=by intro _;rfl) {pins:List (Addr × Obj)} {s:Shared} {σ:L2.St} {H:Hp} {Q:VK} {use:Option (Value->Sem Unit)} {bN:Pos} {Rf:Value->Shared->Prop} (I:Inv X pins σ H s) (h:BP wi aD bU.length g tt te σ H Q)
  (cT0:∀(s':Shared) (H':Hp) (C Da:Addr) (m:Str->Option Value),Inv X pins σ H' s'->s'.heap.Ns C m->H' C=none->C≠X.env.locals->X.cw.heap.objs.size<=C->(∀x c,X.env.cells.lookup x=some c->c≠C)->(∀p∈X.pn++pins,p.1≠C)->C ∉ X.fs->Q (.ref Da) H' ->
   compPost (model X.prog X.w) X.A X.xe use Rf (.ref Da) C (.ok .next) s') :
  wpAny (model X.prog X.w) X.A (comprehension (.ListComp elt [⟨tg,iter,ifs,0⟩] scope pos) scope X.env bN (newList []) false (eval iter X.env) use) Rf X.xe s:=by
 have gR:=nY.all
 refine wpAny_comprehension_free (use:=use) rfl hs nX jc og (aO (hi pins s σ H _ I h) λv s1 h1=>aO h1 λEW s2 h2=>?_)
 obtain⟨it,fp,tn,J,H2,e,I2,T,xK,f2,q⟩:=h2
 subst e
 refine wpAny_newList ?_
 refine bH4 ?_
 have hD:H2 s2.heap.objs.size=none:=I2.aE.fresh (bD _)
 obtain⟨W,⟨m0,w0⟩,turn⟩:=q s2.heap.objs.size hD
 generalize vT:s2.heap.push { cls:=.type "list",data:=.seq ([]:List Value).toArray }=g0 at ⊢
 have hCs:g0.objs.size=s2.heap.objs.size+1:=by rw[<-vT,w4]
 have hDC:s2.heap.objs.size≠g0.objs.size:=by omega
 have hle:s2.heap.objs.size<=g0.objs.size:=by omega
 have tH:∀b o,s2.heap.get? b=some o->b≠g0.objs.size:=λb o e=>eB (cH (bH e) hle)
 obtain⟨g1,CV⟩:∃g1,g1=pushCells (g0.push { cls:=.type "dict",data:=.dict #[] }) scope.names:=⟨_,rfl⟩
 have ns1:g1.Ns g0.objs.size (λ_=>none):=by rw[CV];exact(Heap.Ns.new g0 (.type "dict")).keeps (pushCells_keeps _ _)
 have Qb:∀b o,g0.get? b=some o->g1.get? b=some o:=λb o e=>by rw[CV];exact pushCells_keeps _ _ b o (fC _ e)
 have old:∀b o,s2.heap.get? b=some o->g1.get? b=some o:=λb o e=>Qb b o (vT ▸ fC _ e)
 rw[<-CV]
 have hDg:g1.get? s2.heap.objs.size=some { cls:=.type "list",data:=.seq ([]:List Value).toArray }:=Qb _ _ (vT ▸ gX _ rfl)
 have Qc:∀b∈fp,∃o,s2.heap.get? b=some o/\∀v,o.data≠.cell v:=T.obj _ _ xK
 have CW:=b05 (scope:=scope) (cl:=cl) (C:=g0.objs.size) I2 jc hle gR (nZ g0.objs.size).all f2 Qc (aD.map (·.1)++bU)
 have I4:Inv (dY X scope (aD.map (·.1)++bU) cl g0.objs.size s2 H2 fp) [] (ib aD bU.length σ) (upd H2 s2.heap.objs.size (.lst [])) { s2 with heap:=g1 }:=by
  refine⟨CW,rfl,I2.bare,Un.laid old (bD _) hD,⟨_,ns1,λi y v h1 h2 h3=>?_⟩,λy c e=>?_,?_,λy c e=>?_,λp hp=>absurd hp (by simp[dY,BO]),I2.aE.laid old (bD _) ⟨jX _,[],0,.nil,hDg⟩,by simp[ib,dY,BO]⟩
  ·by_cases He:i<aD.length
   case neg =>
    have jH:((aD.map λp=>(σ[p.2]?).getD none)++bg bU.length none)[i]?=some (some v):=h2
    rw[qo (by simpa using He),Ej]at jH
    split at jH<;>cases jH
   case pos =>
    have j9:(aD.map (·.1))[i]?=some y:=by
     have z:(aD.map (·.1)++bU)[i]?=some y:=h1
     rwa [w9 (by simpa using He)]at z
    have jH:(aD.map λp=>(σ[p.2]?).getD none)[i]?=some (some v):=by
     have z:((aD.map λp=>(σ[p.2]?).getD none)++bg bU.length none)[i]?=some (some v):=h2
     rwa [w9 (by simpa using He)]at z
    rw[cU]at j9 jH
    cases hj:aD[i]? with
    | none=>rw[hj]at j9;cases j9
    | some p =>
     rw[hj]at j9 jH
     have ey:p.1=y:=dq j9
     have ev:(σ[p.2]?).getD none=some v:=dq jH
     obtain⟨hN,hk,Qe,c,e1,e2⟩:=(n8 g0.objs.size).at p (sV hj)
     obtain⟨m,hn,hl⟩:=I2.loc
     have es:σ[p.2]?=some (some v):=by
      cases z:σ[p.2]? with
      | none=>rw[z]at ev;cases ev
      | some o=>rw[z]at ev;exact congrArg some ev
     obtain⟨u,ru,lk⟩:=hl p.2 p.1 v hN es (hk.elim (λz=>.inr (.inl z)) λz=>.inr (.inr z))
     refine⟨u,ru,?_⟩
     rcases lk with⟨lk,_⟩ | ⟨_,c',e3,ic⟩
     ·rcases hk with hk | hk
      ·have:=hk.symm.trans lk;cases this
      ·have:=hk.symm.trans lk;cases this
     ·rw[e2]at e3
      cases e3
      subst ey
      obtain⟨oc,iZ,GQ⟩:=ic
      exact .inr ⟨Qe,c,e1,oc,old _ _ iZ,GQ⟩
  ·rcases Hc _ _ _ y c (show(cellsFrom (g0.push { cls:=.type "dict",data:=.dict #[] }).objs.size scope.names cl).lookup y=some c by rw[w4];exact e)with h1 | h1
   ·rw[<-CV]at h1
    exact⟨none,h1⟩
   ·obtain⟨v,o,ho,hd⟩:=I2.cell y c (gR y c h1)
    exact⟨v,o,old _ _ ho,hd⟩
  ·show upd H2 _ _ g0.objs.size=none
   rw[aL (dN hDC)]
   exact I2.aE.fresh hle
  ·rcases zI _ _ _ y c e with⟨h1,_⟩ | h1
   ·rw[aL (Le (mL hle h1))]
    exact I2.aE.fresh (eK hle (AQ h1))
   ·obtain⟨v,o,ho,hd⟩:=I2.cell y c (gR y c h1)
    rw[aL (eB (bH ho))]
    exact I2.fO y c (gR y c h1)
 have fin:∀(s':Shared) (H':Hp) (ax:L2.St),Inv (dY X scope (aD.map (·.1)++bU) cl g0.objs.size s2 H2 fp) [] ax H' s'->Q (.ref s2.heap.objs.size) H' ->
   compPost (model X.prog X.w) X.A X.xe use Rf (.ref s2.heap.objs.size) g0.objs.size (.ok .next) s':=by
  intro s' H' ax I' q'
  obtain⟨m,hn,_⟩:=I'.loc
  have u:=I'.base
  have hC':H' g0.objs.size=none:=I'.free
  have IX:Inv X pins σ H' s':=I2.L9 (s':=s') (ch:=fp) I'.os ⟨u.keep,u.slot,u.free,u.there,u.iA,u.g8,u.gD⟩ I'.aE I'.bare λb hb=>by
   obtain⟨_,y1,y2,y3,y4,y5⟩:=f2 b hb
   exact⟨y3,y1,y4,y5⟩
  have Qf:∀b,(∃o,s2.heap.get? b=some o)->b≠g0.objs.size:=λb ⟨o,e⟩=>tH b o e
  refine cT0 s' H' g0.objs.size s2.heap.objs.size m IX hn hC' (λz=>?_) (eK I2.sz hle) (λx c e z=>?_) (λp hp z=>?_) (λz=>?_) q'
  ·have h0:X.env.locals<s2.heap.objs.size:=I2.lt
   rw[<-z]at h0
   exact gA _ (cH h0 hle)
  ·obtain⟨v,o,ho,_⟩:=I2.cell x c e
   exact Qf c ⟨o,ho⟩ z
  ·exact Qf p.1 ⟨_,(I2.pin p hp).1⟩ z
  ·exact I2.LZ hle z
 have Hf:∀(H':Hp),(∀b∈fp,H' b=none)->∀b∈fp,i5 (dY X scope (aD.map (·.1)++bU) cl g0.objs.size s2 H2 fp) [] H' b:=λH' hn b hb =>
  ⟨hn b hb,(CW.qG b hb).1,CW.oJ b hb,.inl hb,(CW.qG b hb).2,λp hp=>absurd hp (by simp[dY,BO])⟩
 have loop:codeAny (model X.prog X.w) X.A (.compLoop (.ListComp elt [⟨tg,iter,ifs,0⟩] scope pos) 0 (.ref it) (.ref s2.heap.objs.size) (compEnvC scope (cellsFrom (g0.objs.size+1) scope.names cl) g0.objs.size X.env))
   (compPost (model X.prog X.w) X.A X.xe use Rf (.ref s2.heap.objs.size) g0.objs.size) { s2 with heap:=g1 }:=by
  refine Zn (λn s'=>∃i acc H',Inv (dY X scope (aD.map (·.1)++bU) cl g0.objs.size s2 H2 fp) [] (ib aD bU.length σ) H' s'/\tn i s'.heap/\(∀b∈fp,H' b=none)/\W i n acc H') ?_ m0
   ⟨0,[],_,I4,T.keep _ _ _ xK λb hb o e=>old b o e,λb hb=>?_,w0⟩
  ·rintro n s' ⟨i,acc,H',I',oN,eU,w'⟩
   obtain⟨FV,⟨stop,qn⟩ | ⟨go,step⟩⟩:=turn i n acc H' w'
   ·refine aO (T.done (dY X scope (aD.map (·.1)++bU) cl g0.objs.size s2 H2 fp) rfl rfl rfl hc i [] s' _ H' (λ_ _=>False) I' (Hf H' eU) oN stop) λr t1 zz=>?_
    obtain⟨hr,I1⟩:=zz
    subst hr
    exact fin _ _ _ I1 qn
   ·refine aO (T.item (dY X scope (aD.map (·.1)++bU) cl g0.objs.size s2 H2 fp) rfl rfl rfl hc i [] s' _ H' (λ_ _=>False) I' (Hf H' eU) oN go) λr t1 zz=>?_
    obtain⟨u,hr,h4⟩:=zz
    subst hr
    refine aO h4 λ_ t2 zz=>?_
    obtain⟨x5,H5,I5,r5,y5,qK,xM⟩:=zz
    obtain⟨B6,st6⟩:=step x5 H5 y5
    have E2:=I5.pinned (Hf H5 xM) (T.obj _ _ qK)
    refine aO (hg _ _ _ _ _ t2 _ H5 x5 u _ E2 r5 st6) λ_ t3 zz=>?_
    obtain⟨Bz,H6,I6,⟨cT6,cT7⟩,st7⟩:=zz
    have back:∀(s7:Shared) (H7:Hp) (Hg:List V) (m7:Nat),Inv (dY X scope (aD.map (·.1)++bU) cl g0.objs.size s2 H2 fp) ([]++xI fp t2.heap) Bz H7 s7->W (i+1) m7 Hg H7 ->
      ∃i acc H',Inv (dY X scope (aD.map (·.1)++bU) cl g0.objs.size s2 H2 fp) [] (ib aD bU.length σ) H' s7/\tn i s7.heap/\(∀b∈fp,H' b=none)/\W i m7 acc H':=λs7 H7 Hg m7 I7 w7 =>
     ⟨i+1,Hg,H7,(I7.xJ).weak cT6.symm λj v z=>by
       by_cases hj:j<aD.length
       ·rw[cT7 j hj];exact z
       ·have z':((aD.map λp=>(σ[p.2]?).getD none)++bg bU.length none)[j]?=some (some v):=z
        rw[qo (by simpa using hj),Ej]at z'
        split at z'<;>(cases z'),
      T.keep _ _ _ qK λb hb o e=>(I7.pin (b,o) (cI _ (cI _ (Bw hb e)))).1,λb hb=>by
       obtain⟨o,e,d⟩:=T.obj _ _ qK b hb
       exact(I7.pin (b,o) (cI _ (cI _ (Bw hb e)))).2.1,w7⟩
    refine aO (ht _ _ _ _ _ t3 _ H6 _ I6 st7) λok t4 zz=>?_
    obtain⟨H7,I7,hD7,q7⟩:=zz
    cases ok with
    | false =>
     obtain⟨m',hm,w7⟩:=(show ∃m',m'<n/\W (i+1) m' acc H7 from q7)
     exact⟨m',hm,back t4 H7 acc m' I7 w7⟩
    | true =>
     refine aO (he _ _ _ _ _ t4 _ H7 _ I7 q7) λy t5 zz=>?_
     obtain⟨v8,H8,I8,r8,hD8,hl8,m',hm,w8⟩:=zz
     exact aO (MT _ t5 _ H8 (.ref s2.heap.objs.size) [v8] (.ref s2.heap.objs.size) [y] (λ_ H9=>H9=upd H8 s2.heap.objs.size (.lst (acc++[v8]))) I8 rfl (.cons r8 .nil) ⟨_,acc,v8,rfl,rfl,hD8,hl8,rfl⟩) λ_ t6 zz=>by
      obtain⟨_,H9,I9,_,e9⟩:=zz
      subst e9
      exact⟨m',hm,back t6 _ _ m' I9 w8⟩
  ·obtain⟨o,e,_⟩:=Qc b hb
   rw[aL (eB (bH e))]
   exact(f2 b hb).1
 exact codeAny_compStart_list loop (T.self _ 0 _ _ _ (T.keep _ _ _ xK λb hb o e=>old b o e) loop)
theorem b21(aD:List (Str × Nat))(bU:List Str)(hc:X.calm=true)(hi:PI X tg iter wi)
  (hg:∀C s H fp,PG (dY X scope (aD.map (·.1)++bU) cl C s H fp) tg g)
  (ht:∀C s H fp,mZ (dY X scope (aD.map (·.1)++bU) cl C s H fp) ifs tt) (he:∀C s H fp,PE (dY X scope (aD.map (·.1)++bU) cl C s H fp) elt te)
  (nX:closureFor scope X.env=pure cl) (nY:m5 X cl) (nZ:∀C:Addr,m6 (cellsFrom (C+1) scope.names cl) (relabel scope X.env).names) (n8:∀C:Addr,mY X scope (cellsFrom (C+1) scope.names cl) aD)
  (jc:scope.kind=.function) (og:∀y∈scope.names,y.2=.local->scope.names.lookup y.1=some .local)
  (hs:∀x,foldedSetIterable iter X.env x=pure x:=by intro _;rfl):PE X (.ListComp elt [⟨tg,iter,ifs,0⟩] scope pos) (BP wi aD bU.length g tt te):=by
 intro pins s σ H Q I h
 rw[eval_ListComp]
 refine Qa aD bU hc hi hg ht he nX nY nZ n8 jc og hs I h λs' H' C Da m IX hn hC hL h1 h2 h3 h4 q'=>?_
 exact⟨m,hn,λh' sb=>⟨.ref Da,H',IX.turned (t':=s'.toks) (λb o hb e=>sb.extBut b o hb e) hC hL (.inr h1) h2 h3,rfl,q'⟩⟩
theorem b04{i:Nat}{x:Str}{pos' apos:Pos}(hN:X.N.Nodup)(pE:X.N[i]?=some x)(hx:Loc X.env.scope x)(hf:X.fn x=true\/X.env.scope.names.lookup x=some .local)(aD:List (Str × Nat))(bU:List Str)(hc:X.calm=true)(hi:PI X tg iter wi)
  (hg:∀C s H fp,PG (dY X scope (aD.map (·.1)++bU) cl C s H fp) tg g)
  (ht:∀C s H fp,mZ (dY X scope (aD.map (·.1)++bU) cl C s H fp) ifs tt) (he:∀C s H fp,PE (dY X scope (aD.map (·.1)++bU) cl C s H fp) elt te)
  (nX:closureFor scope X.env=pure cl) (nY:m5 X cl) (nZ:∀C:Addr,m6 (cellsFrom (C+1) scope.names cl) (relabel scope X.env).names) (n8:∀C:Addr,mY X scope (cellsFrom (C+1) scope.names cl) aD)
  (jc:scope.kind=.function) (og:∀y∈scope.names,y.2=.local->scope.names.lookup y.1=some .local)
  (nI:swapsWith (.ListComp elt [⟨tg,iter,ifs,0⟩] scope pos) (some (.Name x pos')) apos.line X.env=pure true) (hs:∀x,foldedSetIterable iter X.env x=pure x:=by intro _;rfl):PS X (.Assign [.Name x pos'] (.ListComp elt [⟨tg,iter,ifs,0⟩] scope pos) apos) (EV (BP wi aD bU.length g tt te) (Bt i)):=by
 intro pins s σ H D I h
 rw[exec_Assign_Name_used x pos' _ apos nI]
 refine wpAny_bind (wpAny_standAt (wpAny_bind ?_))
 have hh:BP wi aD bU.length g tt te σ H λv H1=>D.nx (σ.set i (some v)) H1:=h
 show wpAny _ _ (comprehension (.ListComp elt [⟨tg,iter,ifs,0⟩] scope pos) scope X.env (firstIterPos [⟨tg,iter,ifs,0⟩] pos) (newList []) false (eval iter X.env) (some (assign (.Name x pos') X.env)) >>= λ_=>pure ()) _ _ _
 refine wpAny_bind (Qa (use:=some (assign (.Name x pos') X.env)) (pos:=pos) aD bU hc hi hg ht he nX nY nZ n8 jc og hs I hh λs' H' C Da m IX hn hC hL h1 h2 h3 h4 q'=>?_)
 obtain⟨oC,es,ep,hoC,Qg,rest⟩:=id hn
 have IP:Inv X (pins++[(C,oC)]) σ H' s':=⟨IX.ok,IX.os,IX.bare,IX.base,IX.loc,IX.cell,IX.free,IX.fO,λp hp=>by
  rcases bA.mp hp with z | z
  ·exact IX.pin p (df _ z)
  ·rcases bA.mp z with z | z
   ·exact IX.pin p (cI _ z)
   ·obtain rfl:=dG.mp z
    exact⟨hoC,hC,hL,h4,λv w=>by rw[Qg]at w;cases w⟩,IX.aE,IX.len⟩
 refine aO (xE (X:=X) hN pE hx hf _ s' σ H' (.ref Da) (.ref Da) (λi6 H2=>i6=σ.set i (some (.ref Da))/\H2=H') IP rfl ⟨rfl,rfl⟩) λ_ s2 zz=>?_
 obtain⟨i6,H2,I2,e1,e2⟩:=zz
 subst e1 e2
 have pC:=I2.pin (C,oC) (cI _ (cI _ (by simp)))
 refine⟨m,⟨oC,es,ep,pC.1,Qg,rest⟩,λh' sb=>wpAny_pure (wpAny_pure ?_)⟩
 exact⟨σ.set i (some (.ref Da)),H2,(I2.xJ).turned (t':=s2.toks) (λb o hb e=>sb.extBut b o hb e) hC hL (.inr h1) h2 h3,q'⟩
end
end L2
namespace L3
open PySem L2 PySem.Spec PyProof.Rows
section
variable{X:Cx}{elt iter tg:Expr}{pos:Pos}{ifs:List Expr}{scope:Scope}{cl:List (Str × Addr)}{ti:jg}{tt:gj}{te:aI}{g:gO}
theorem dZ(aD:List (Str × Nat))(bU:List Str)(hc:X.calm=true)(hi:PI X tg iter (lI ti))
  (hg:∀C s H fp,PG (dY X scope (aD.map (·.1)++bU) cl C s H fp) tg (lG aD.length g))
  (ht:∀C s H fp,mZ (dY X scope (aD.map (·.1)++bU) cl C s H fp) ifs (lT tt)) (he:∀C s H fp,PE (dY X scope (aD.map (·.1)++bU) cl C s H fp) elt (lE te))
  (nX:closureFor scope X.env=pure cl) (nY:m5 X cl:=by repeat' (first | exact trivial | refine⟨rfl,?_⟩)) (nZ:∀C:Addr,m6 (cellsFrom (C+1) scope.names cl) (relabel scope X.env).names:=by intro _;repeat' (first | exact trivial | refine⟨.inl rfl,?_⟩ | refine⟨.inr (.inl rfl),?_⟩ | refine⟨.inr (.inr ⟨_,rfl⟩),?_⟩)) (n8:∀C:Addr,mY X scope (cellsFrom (C+1) scope.names cl) aD:=by intro _;repeat' (first | exact trivial | refine⟨⟨rfl,.inl rfl,.inl rfl,_,rfl,rfl⟩,?_⟩))
  (jc:scope.kind=.function:=by rfl) (og:∀y∈scope.names,y.2=.local->scope.names.lookup y.1=some .local:=by decide +kernel)
  (hs:∀x,foldedSetIterable iter X.env x=pure x:=by intro _;rfl):PE X (.ListComp elt [⟨tg,iter,ifs,0⟩] scope pos) (lE (rz ti aD bU.length g tt te)) :=
 da (b21 aD bU hc hi hg ht he nX nY nZ n8 jc og hs) λσ H Q zq=>by
 obtain⟨B,F,δ,ts,Qd,c,q,k⟩:=zq
 exact⟨B,F,δ,ts,_,c,q,λsh xs aj J F1 H1 hq f1 h1 c1 rA yk=>by
  obtain⟨p,f,hx,eT,hlen,hQ⟩:=hq
  exact NV c1 rA yk p f hx eT hlen hQ λd ag v F' H' hd hf hs c'=>k d ag v F' H' hd (f1.trans hf) (h1.trans hs) c'⟩
theorem CY{i:Nat}{x:Str}{pos' apos:Pos}(hN:X.N.Nodup)(pE:X.N[i]?=some x)(hx:L2.Loc X.env.scope x)(aD:List (Str × Nat))(bU:List Str)(hc:X.calm=true)(hi:PI X tg iter (lI ti))
  (hg:∀C s H fp,PG (dY X scope (aD.map (·.1)++bU) cl C s H fp) tg (lG aD.length g))
  (ht:∀C s H fp,mZ (dY X scope (aD.map (·.1)++bU) cl C s H fp) ifs (lT tt)) (he:∀C s H fp,PE (dY X scope (aD.map (·.1)++bU) cl C s H fp) elt (lE te))
  (nX:closureFor scope X.env=pure cl) (nY:m5 X cl:=by repeat' (first | exact trivial | refine⟨rfl,?_⟩)) (nZ:∀C:Addr,m6 (cellsFrom (C+1) scope.names cl) (relabel scope X.env).names:=by intro _;repeat' (first | exact trivial | refine⟨.inl rfl,?_⟩ | refine⟨.inr (.inl rfl),?_⟩ | refine⟨.inr (.inr ⟨_,rfl⟩),?_⟩)) (n8:∀C:Addr,mY X scope (cellsFrom (C+1) scope.names cl) aD:=by intro _;repeat' (first | exact trivial | refine⟨⟨rfl,.inl rfl,.inl rfl,_,rfl,rfl⟩,?_⟩))
  (jc:scope.kind=.function:=by rfl) (og:∀y∈scope.names,y.2=.local->scope.names.lookup y.1=some .local:=by decide +kernel)
  (nI:swapsWith (.ListComp elt [⟨tg,iter,ifs,0⟩] scope pos) (some (.Name x pos')) apos.line X.env=pure true:=by rfl) (hf:X.fn x=true\/X.env.scope.names.lookup x=some .local:=by first | exact .inl rfl | exact .inr rfl)
  (hs:∀x,foldedSetIterable iter X.env x=pure x:=by intro _;rfl):PS X (.Assign [.Name x pos'] (.ListComp elt [⟨tg,iter,ifs,0⟩] scope pos) apos) (lS X (rp i (rz ti aD bU.length g tt te))) :=
 iG (b04 hN pE hx hf aD bU hc hi hg ht he nX nY nZ n8 jc og nI hs) λEn σ H zq=>by
 obtain⟨B,F,δ,Dd,c,q,k1,k2,k3,k4⟩:=zq
 exact⟨B,F,δ,[],_,c,q,λsh xs aj J F1 H1 hq f1 h1 c1 rA yk=>by
  obtain⟨p,f,hx,eT,hlen,hQ⟩:=hq
  exact NV (Qd:=λd ag=>Dd.nx (ag.set i (some d))) c1 rA yk p f hx eT hlen hQ λd ag v F' H' hd hf hs c'=>k1 _ _ F' H' hd (c'.store i)⟩
end
end L3
namespace L3
open PySem L2 Mf
theorem lo1{m:Bool × Nat}(hm:m∈aJ):1<af m:=by have:=(cW hm).lo;omega
inductive Sp(N:Nat)(p q:Nat->Nat->Nat)(S:(Nat->Nat)->Prop):(Nat->Nat)->Prop
 | mem {f:Nat->Nat}:S f->Sp N p q S f
 | zero:Sp N p q S λ_=>0
 | add {f g:Nat->Nat}:Sp N p q S f->Sp N p q S g->Sp N p q S λk=>p (f k) (g k)
 | mul {f:Nat->Nat} (c:Nat):c<N->Sp N p q S f->Sp N p q S λk=>q c (f k)
theorem Sp.trans{N:Nat}{p q:Nat->Nat->Nat}{S S':(Nat->Nat)->Prop}(h:∀f,S f->Sp N p q S' f){f:Nat->Nat}(s:Sp N p q S f):Sp N p q S' f:=by
 induction s with
 | mem a=>exact h _ a
 | zero=>exact .zero
 | add _ _ a b=>exact .add a b
 | mul c hc _ a=>exact .mul c hc a
noncomputable def Gn(T:List (List Nat))(f:Nat->Nat):Prop:=∃r∈T,f=cf r
noncomputable def eG(m:Bool × Nat)(T:List (List Nat))(f:Nat->Nat):Prop:=Sp (af m) (gp m) (gm m) (Gn T) f
theorem eG.of{m:Bool × Nat}{T:List (List Nat)}{r:List Nat}(h:r∈T):eG m T (cf r):=.mem ⟨r,h,rfl⟩
theorem bX8{m:Bool × Nat}(hm:m∈aJ){a:Nat}(ha:a<af m){f f' l:Nat->Nat}(hf':∀k,f' k<af m)(hl:∀k,l k<af m)(h:∀k,gp m (f' k) (gm m a (l k))=f k):∃b,b<af m/\f'=λk=>gp m (f k) (gm m b (l k)):=by
 have r:=rg hm
 obtain⟨b,hb,e⟩:=r.ng ha
 refine⟨b,hb,funext λk=>?_⟩
 rw[<-h k,r.pa,r.mc a,r.mc b,<- r.dl,e,r.qz,r.z' (hf' k)]
theorem Hh{m:Bool × Nat}(hm:m∈aJ){r l:List Nat}{w:Nat}(hr:r.length=w)(hl:l.length=w)(a k:Nat):cf (eX (λx y=>cj m x (gm m a y)) r l) k=cj m (cf r k) (gm m a (cf l k)):=by
 by_cases h:k<w
 ·unfold cf
  rw[aW,LN,bc (by omega),bc (by omega),aW,bc (by omega),aW,bc (by omega)]
  rfl
 ·rw[vR (by rw[tw];omega),vR (l:=r) (by omega),vR (l:=l) (by omega),nU m _ (dM m hm),PZ]
theorem CZ{m:Bool × Nat}(hm:m∈aJ){r l:List Nat}{w a:Nat}(hr:r.length=w)(hl:l.length=w)(ar:AllLt (af m) r)(k:Nat):gp m (cf (eX (λx y=>cj m x (gm m a y)) r l) k) (gm m a (cf l k))=cf r k:=by
 rw[Hh hm hr hl]
 exact(pV hm (fK hm ar k) (cS hm _ _)).2.2
theorem Hi{m:Bool × Nat}(hm:m∈aJ){r l:List Nat}{w:Nat}(hr:r.length=w)(hl:l.length=w)(ar:AllLt (af m) r)(a k:Nat):cf (eX (λx y=>cj m x (gm m a y)) r l) k<af m:=by
 rw[Hh hm hr hl]
 exact(pV hm (fK hm ar k) (cS hm _ _)).2.1
theorem Qh{m:Bool × Nat}(hm:m∈aJ){w p i:Nat}{T:List (List Nat)}(hT:RT (af m) w T)(e:jQ T p=some i):∃(g:List Nat) (c:Nat),g∈T/\T.getD i []=g/\g.length=w/\AllLt (af m) g/\c<af m/\gm m c (cf g p)=1/\(dX m T i p).length=w/\AllLt (af m) (dX m T i p)/\(∀k,cf (dX m T i p) k=gm m c (cf g k))/\cf (dX m T i p) p=1/\∀k,gm m (cf g p) (cf (dX m T i p) k)=cf g k:=by
 obtain⟨hi,h1,h2⟩:=CU e
 obtain⟨a,b⟩:=hT _ (eN hi)
 have l1:1<af m:=lo1 hm
 obtain⟨c,hc,C2⟩:=G7 hm l1 (fK hm b p) h1
 have ec:mB m (cf T[i] p)=c:=CT hm hc C2
 have el:dX m T i p=T[i].map (gm m c):=by unfold dX;rw[h2,<- ec];rfl
 have ek:∀k,cf (dX m T i p) k=gm m c (cf T[i] k):=λk=>by rw[el];exact ct6 hm _ _ _
 refine⟨T[i],c,eN hi,h2,a,b,hc,C2,by rw[el,aS,a],λx hx=>?_,ek,by rw[ek];exact C2,λk=>?_⟩
 ·rw[el]at hx
  obtain⟨y,_,rfl⟩:=bI.mp hx
  exact cS hm _ _
 ·rw[ek,<- lj (dM m hm),jv m _ c,C2,sg (fK hm b k)]
theorem Qi{m:Bool × Nat}{s:List (List Nat) × List (List Nat)}{p i:Nat}(e:jQ s.2 p=some i):iw m s p=(gG m s.1 (dX m s.2 i p) p++[dX m s.2 i p],gG m (s.2.take i++s.2.drop (i+1)) (dX m s.2 i p) p):=by unfold iw;rw[e]
theorem Qj{m:Bool × Nat}{s:List (List Nat) × List (List Nat)}{p:Nat}(e:jQ s.2 p=none):iw m s p=s:=by unfold iw;rw[e]
theorem C4{α:Type}{T:List α}{i:Nat}{r:α}(h:r∈T.take i++T.drop (i+1)):r∈T:=(bA.mp h).elim xk qA
theorem bX4{α:Type}{T:List α}{i:Nat}{r:α}(h:r∈T)(hi:i<T.length):r=T[i]\/r∈T.take i++T.drop (i+1):=by
 obtain⟨j,hj,rfl⟩:=lK h
 rcases Nat.lt_trichotomy j i with h | h | h
 ·exact .inr (bA.mpr (.inl (List.mem_take_iff_getElem.mpr ⟨j,by omega,rfl⟩)))
 ·subst h;exact .inl rfl
 ·exact .inr (bA.mpr (.inr (List.mem_drop_iff_getElem.mpr ⟨j-(i+1),by omega,by congr 1;omega⟩)))
theorem bG9{m:Bool × Nat}(hm:m∈aJ){w n p:Nat}{s:List (List Nat) × List (List Nat)}(h:zG (af m) w n s)(f:Nat->Nat):eG m (s.1++s.2) f↔eG m ((iw m s p).1++(iw m s p).2) f:=by
 cases e:jQ s.2 p with
 | none=>rw[Qj e]
 | some i =>
  obtain⟨g,c,g1,g2,g3,g4,c1,c2,l1,l2,l3,l4,l5⟩:=Qh hm h.b e
  obtain⟨hi,_,hg⟩:=CU e
  rw[Qi e]
  generalize dX m s.2 i p=l at l1 l2 l3 l4 l5
  have ll:=fK hm l2
  have row:∀{T:List (List Nat)},RT (af m) w T->∀r'∈gG m T l p,∃r∈T,∃b,b<af m/\cf r'=λk=>gp m (cf r k) (gm m b (cf l k)):=λ{T} hT r' aU=>by
   obtain⟨r,hr,rfl⟩:=bI.mp aU
   obtain⟨a1,a2⟩:=hT r hr
   exact⟨r,hr,bX8 hm (fK hm a2 p) (Hi hm a1 l1 a2 _) ll (CZ hm a1 l1 a2)⟩
  have Qk:∀{T:List (List Nat)},RT (af m) w T->∀r∈T,∃r'∈gG m T l p,cf r=λk=>gp m (cf r' k) (gm m (cf r p) (cf l k)):=λ{T} hT r hr=>by
   obtain⟨a1,a2⟩:=hT r hr
   exact⟨_,bI.mpr ⟨r,hr,rfl⟩,funext λk=>(CZ hm a1 l1 a2 k).symm⟩
  have hB:RT (af m) w (s.2.take i++s.2.drop (i+1)):=λr hr=>h.b r (C4 hr)
  constructor
  ·refine Sp.trans ?_
   rintro f ⟨r,hr,rfl⟩
   have hl:eG m ((gG m s.1 l p++[l])++gG m (s.2.take i++s.2.drop (i+1)) l p) (cf l):=eG.of (by simp)
   rcases bA.mp hr with hr | hr
   ·obtain⟨r',h1,h2⟩:=Qk h.a r hr
    rw[h2]
    exact .add (eG.of (by simp[h1])) (.mul _ (fK hm (h.a r hr).2 p) hl)
   ·rcases bX4 hr hi with e' | aU
    ·have:cf r=λk=>gm m (cf g p) (cf l k):=funext λk=>by rw[l5 k,e',<- hg,g2]
     rw[this]
     exact .mul _ (fK hm g4 p) hl
    ·obtain⟨r',h1,h2⟩:=Qk hB r aU
     rw[h2]
     exact .add (eG.of (by simp[h1])) (.mul _ (fK hm (h.b r hr).2 p) hl)
  ·refine Sp.trans ?_
   rintro f ⟨r,hr,rfl⟩
   have hl:eG m (s.1++s.2) (cf l):=by
    have:cf l=λk=>gm m c (cf g k):=funext l3
    rw[this]
    exact .mul _ c1 (eG.of (cI _ g1))
   rcases bA.mp hr with hr | hr
   ·rcases bA.mp hr with hr | hr
    ·obtain⟨r1,h1,b,hb,h2⟩:=row h.a r hr
     rw[h2]
     exact .add (eG.of (df _ h1)) (.mul _ hb hl)
    ·rw[dG]at hr
     rw[hr];exact hl
   ·obtain⟨r1,h1,b,hb,h2⟩:=row hB r hr
    rw[h2]
    exact .add (eG.of (cI _ (C4 h1))) (.mul _ hb hl)
structure RR(w:Nat)(R:List (List Nat))(H:Nat->Nat):Prop where
 u:∀i j,i<R.length->j<R.length->cf (R.getD i []) (H j)=if i=j then 1 else 0
 z:∀i,i<R.length->∀t,t<H i->cf (R.getD i []) t=0
 i:∀i j,i<j->j<R.length->H i<H j
 l:∀i,i<R.length->H i<w
theorem Hj{α β:Type}(f:α->β){l:List α}{i:Nat}(h:i<l.length)(a:α)(b:β):(l.map f).getD i b=f (l.getD i a):=by
 rw[aW,cU,aW,bc h];rfl
theorem de{α:Type}{l:List α}{i:Nat}(h:i<l.length)(a:α):l.getD i a∈l:=by
 rw[aW,bc h];exact eN h
theorem bA4{m:Bool × Nat}(hm:m∈aJ){w n p:Nat}{s:List (List Nat) × List (List Nat)}(h:zG (af m) w n s){H:Nat->Nat}(I:RR p s.1 H)(e2:∀r∈s.2,∀t,t<p->cf r t=0):∃H',RR (p+1) (iw m s p).1 H'/\∀r∈(iw m s p).2,∀t,t<p+1->cf r t=0:=by
 cases e:jQ s.2 p with
 | none =>
  rw[Qj e]
  refine⟨H,⟨I.u,I.z,I.i,λi hi=>Nat.lt_succ_of_lt (I.l i hi)⟩,λr hr t ht=>?_⟩
  rcases LO t p with h1 | h1
  ·exact e2 r hr t h1
  ·have:=VP.mp e r hr
   have z:r.getD p 0=0:=by simpa using this
   rw[show t=p by omega]
   exact z
 | some i0 =>
  obtain⟨g,c,g1,g2,g3,g4,c1,c2,l1,l2,l3,l4,l5⟩:=Qh hm h.b e
  rw[Qi e]
  generalize dX m s.2 i0 p=l at l1 l2 l3 l4 l5
  have m0:=dM m hm
  have lz:∀t,t<p->cf l t=0:=λt ht=>by rw[l3,e2 g g1 t ht,nU m _ m0]
  have zJ:∀{r:List Nat},r.length=w->AllLt (af m) r->(∀t,t<p->cf (eX (λx y=>cj m x (gm m (r.getD p 0) y)) r l) t=cf r t)/\cf (eX (λx y=>cj m x (gm m (r.getD p 0) y)) r l) p=0:=λ{r} a1 a2=>by
   constructor
   ·intro t ht
    have:=CZ hm (a:=r.getD p 0) a1 l1 a2 t
    rw[lz t ht,nU m _ m0,zA (Hi hm a1 l1 a2 _ _)]at this
    exact this
   ·rw[Hh hm a1 l1,l4]
    show cj m (r.getD p 0) (gm m (r.getD p 0) 1)=0
    rw[nS (show r.getD p 0<af m from fK hm a2 p),PZ]
  have nl:(gG m s.1 l p).length=s.1.length:=by unfold gG;rw[aS]
  have Ql:∀i,i<s.1.length->∃r,s.1.getD i []=r/\r.length=w/\AllLt (af m) r/\(gG m s.1 l p++[l]).getD i []=eX (λx y=>cj m x (gm m (r.getD p 0) y)) r l:=λi hi=>by
   refine⟨_,rfl,(h.a _ (de hi [])).1,(h.a _ (de hi [])).2,?_⟩
   rw[aW,w9 (by omega),<- aW]
   exact Hj _ hi [] []
  have Qm:(gG m s.1 l p++[l]).getD s.1.length []=l:=by
   rw[aW,qo (by omega),nl,EA];rfl
  have le:(gG m s.1 l p++[l]).length=s.1.length+1:=by rw[eM,nl];rfl
  refine⟨λi=>if i<s.1.length then H i else p,⟨λi j hi hj=>?_,λi hi t ht=>?_,λi j oh hj=>?_,λi hi=>?_⟩,λr hr t ht=>?_⟩
  ·show cf ((gG m s.1 l p++[l]).getD i []) _=_
   dsimp only at hi hj ⊢
   rw[le]at hi hj
   by_cases h1:i<s.1.length
   ·obtain⟨r,r1,r2,r3,r4⟩:=Ql i h1
    rw[r4]
    by_cases h2:j<s.1.length
    ·rw[if_pos h2,(zJ r2 r3).1 _ (I.l j h2),<- r1]
     exact I.u i j h1 h2
    ·rw[if_neg h2,(zJ r2 r3).2,if_neg (by omega)]
   ·have e1:i=s.1.length:=by omega
    rw[e1,Qm]
    by_cases h2:j<s.1.length
    ·rw[if_pos h2,lz _ (I.l j h2),if_neg (by omega)]
    ·rw[if_neg h2,l4,if_pos (by omega)]
  ·dsimp only at hi ht ⊢
   rw[le]at hi
   by_cases h1:i<s.1.length
   ·rw[if_pos h1]at ht
    obtain⟨r,r1,r2,r3,r4⟩:=Ql i h1
    rw[r4,(zJ r2 r3).1 _ (by have:=I.l i h1;omega),<- r1]
    exact I.z i h1 t ht
   ·rw[if_neg h1]at ht
    have e1:i=s.1.length:=by omega
    rw[e1,Qm];exact lz t ht
  ·dsimp only at hj ⊢
   rw[le]at hj
   rw[if_pos (by omega)]
   by_cases h2:j<s.1.length
   ·rw[if_pos h2];exact I.i i j oh h2
   ·rw[if_neg h2];exact I.l i (by omega)
  ·dsimp only at hi ⊢
   rw[le]at hi
   split
   ·have:=I.l i (by omega);omega
   ·omega
  ·obtain⟨r1,C5,rfl⟩:=bI.mp hr
   obtain⟨a1,a2⟩:=h.b r1 (C4 C5)
   rcases LO t p with h1 | h1
   ·rw[(zJ a1 a2).1 t h1];exact e2 _ (C4 C5) t h1
   ·rw[show t=p by omega];exact(zJ a1 a2).2
theorem Qn{m:Bool × Nat}(hm:m∈aJ){w:Nat}{G:List (List Nat)}(h:RT (af m) w G):∀k,(∃H,RR k (jw m G k).1 H/\∀r∈(jw m G k).2,∀t,t<k->cf r t=0)/\∀f,eG m G f↔eG m ((jw m G k).1++(jw m G k).2) f
 | 0=>⟨⟨λ_=>0,⟨(λ_ _ h=>nomatch h),(λ_ h=>nomatch h),(λ_ _ _ h=>nomatch h),(λ_ h=>nomatch h)⟩,λr _ t ht=>nomatch ht⟩,λf=>.rfl⟩
 | k+1=>by
  obtain⟨⟨H,h1,h2⟩,h3⟩:=Qn hm h k
  have D:=zH hm h k
  rw[G9]
  exact⟨bA4 hm D h1 h2,λf=>(h3 f).trans (bG9 hm D f)⟩
theorem km{m:Bool × Nat}(hm:m∈aJ){G:List (List Nat)}(h:RT (af m) (ak G) G):(∃H,RR (ak G) (bO m G) H)/\RT (af m) (ak G) (bO m G)/\(bO m G).length<=G.length/\∀f,eG m G f↔eG m (bO m G) f:=by
 obtain⟨⟨H,h1,h2⟩,h3⟩:=Qn hm h (ak G)
 have D:=zH hm h (ak G)
 refine⟨⟨H,h1⟩,D.a,by have:=D.l;show(jw m G (ak G)).1.length<=_;omega,λf=>(h3 f).trans ⟨Sp.trans ?_,Sp.trans ?_⟩⟩
 ·rintro f ⟨r,hr,rfl⟩
  rcases bA.mp hr with hr | hr
  ·exact eG.of hr
  ·have:cf r=λ_=>0:=funext λt=>by
    rcases LO t (ak G)with h4 | h4
    ·exact h2 r hr t h4
    ·exact vR (by rw[(D.b r hr).1];exact h4)
   rw[this];exact .zero
 ·rintro f ⟨r,hr,rfl⟩
  exact eG.of (df _ hr)
theorem vU{N:Nat}{p q:Nat->Nat->Nat}(r:Rg N p q){f:Nat->Nat}{j0:Nat}(hf:f j0<N):∀{n:Nat},j0<n->(∀j,j<n->j≠j0->f j=0)->sm p n f=f j0
 | 0,h,_=>nomatch h
 | n+1,h,hz=>by
  rw[sm]
  by_cases e:j0=n
  ·subst e
   rw[lu r λj hj=>hz j (by omega) (by omega),r.z hf]
  ·rw[vU r hf (by omega) λj hj=>hz j (by omega),hz n (by omega) (by omega),r.z' hf]
theorem eG.ann{m:Bool × Nat}(hm:m∈aJ){R:List (List Nat)}{n:Nat}{y:Nat->Nat}(h:∀x∈R,sm (gp m) n (λj=>gm m (cf x j) (y j))=0){f:Nat->Nat}(s:eG m R f):sm (gp m) n (λj=>gm m (f j) (y j))=0:=by
 have r:=rg hm
 have m0:=dM m hm
 induction s with
 | mem a=>obtain⟨x,hx,rfl⟩:=a;exact h x hx
 | zero=>exact lu r λj _=>iM m _ m0
 | @add f g _ _ a b =>
  rw[gF (g:=λj=>gp m (gm m (f j) (y j)) (gm m (g j) (y j))) λj _=>by dsimp only;rw[r.mc (gp m _ _),r.dl,r.mc (y j),r.mc (y j)],zE r,a,b,r.z r.pos]
 | @mul f e he _ a =>
  rw[gF (g:=λj=>gm m e (gm m (f j) (y j))) λj _=>lj m0 _ _ _,CP r,a,r.qz]
theorem RR.Hk{m:Bool × Nat}(hm:m∈aJ){w:Nat}{R:List (List Nat)}{H:Nat->Nat}(hR:RT (af m) w R)(I:RR w R H){i:Nat}(hi:i<R.length):(R.getD i []).findIdx (· != 0)=H i/\∃x∈R.getD i [],x≠0:=by
 have a:=(hR _ (de hi [])).1
 have l:=I.l i hi
 have u:=I.u i i hi hi
 rw[if_pos rfl]at u
 have eu:(R.getD i [])[H i]'(by omega)=1:=by
  unfold cf at u
  rw[aW (l:=R.getD i []),bc (by omega)]at u
  exact u
 refine⟨?_,_,eN (show H i<(R.getD i []).length by omega),by rw[eu];decide⟩
 rw[List.findIdx_eq (by omega)]
 refine⟨by rw[eu];rfl,λj hj=>?_⟩
 have z:=I.z i hi j hj
 unfold cf at z
 rw[aW (l:=R.getD i []),bc (by omega)]at z
 simpa using z
theorem cq4{T:List (List Nat)}(k i:Nat):cf (T.map λr=>r.getD k 0) i=cf (T.getD i []) k:=by
 by_cases h:i<T.length
 ·exact Hj (λr:List Nat=>r.getD k 0) h [] 0
 ·rw[vR (by rw[aS];omega),aW,iy (by omega)];rfl
noncomputable def aQ(r:List Nat):Nat:=r.findIdx (· != 0)
theorem C6{α:Type}(a b:α->Nat){j:Nat}:∀(l:List α) (x:List Nat),(∀z∈l,a z≠j)->cf (l.foldl (λx z=>x.set (a z) (b z)) x) j=cf x j
 | [],_,_=>rfl
 | z::l,x,h=>by
  rw[sY,C6 a b l _ λy hy=>h y (gB _ hy)]
  unfold cf
  rw[aW,lF (h z jB),<- aW]
theorem Qo{α:Type}(a b:α->Nat):∀(l:List α) (x:List Nat),l.Pairwise (λy z=>a y≠a z)->∀z∈l,a z<x.length->cf (l.foldl (λx z=>x.set (a z) (b z)) x) (a z)=b z
 | [],_,_,_,h,_=>nomatch h
 | y::l,x,hp,z,hz,hl=>by
  rw[sY]
  rw[EK]at hp
  rcases cq.mp hz with rfl | hz
  ·rw[C6 a b l _ λy hy=>dN (hp.1 y hy)]
   unfold cf
   rw[aW,oA hl];rfl
  ·exact Qo a b l _ hp.2 z hz (by rw[gZ];exact hl)
theorem Qp{α:Type}(a b:α->Nat):∀(l:List α) (x:List Nat),(l.foldl (λx z=>x.set (a z) (b z)) x).length=x.length
 | [],_=>rfl
 | z::l,x=>by rw[sY,Qp a b l,gZ]
theorem cx9{m:Bool × Nat}(hm:m∈aJ):∃e,e<af m/\gp m 1 e=0/\e≠0/\∀{a b},a<af m->b<af m->(gp m a (gm m b e)=0↔a=b):=by
 have r:=rg hm
 obtain⟨e,he,h⟩:=r.ng (lo1 hm)
 refine⟨e,he,h,λz=>?_,λ{a b} ha hb=>?_⟩
 ·rw[z,r.z' (lo1 hm)]at h;omega
 ·have k:gp m b (gm m b e)=0:=by
   have:=r.dl b 1 e
   rw[h,r.qz,nS hb]at this
   exact this.symm
  exact⟨λh1=>r.P0 ha hb (cS hm b e) (h1.trans k.symm),λh1=>h1 ▸ k⟩
noncomputable def fh(T:List (List Nat)):List (List Nat):=(bh (ak T)).map λj=>T.map λr=>r.getD j 0
theorem Qq{T:List (List Nat)}{a:Nat}(h:a<ak T):(fh T).getD a []=T.map λr=>r.getD a 0:=by
 unfold fh
 rw[aW,cU,mO h];rfl
theorem Hl{N:Nat}{T:List (List Nat)}(h0:0<N)(hw:0<ak T)(hT:RT N (ak T) T):(fh T).length=ak T/\ak (fh T)=T.length/\RT N T.length (fh T):=by
 have a:(fh T).length=ak T:=by unfold fh;rw[aS,fk]
 have c:RT N T.length (fh T):=λr hr=>by
  obtain⟨j,_,rfl⟩:=bI.mp hr
  refine⟨aS _,λx hx=>?_⟩
  obtain⟨y,hy,rfl⟩:=bI.mp hx
  exact(hT y hy).2.getD h0 j
 refine⟨a,?_,c⟩
 have:=Qq hw
 have e:ak (fh T)=((fh T).getD 0 []).length:=by
  unfold ak
  cases fh T<;>rfl
 rw[e,this,aS]
end L3
namespace L3
open PySem L2 Mf
noncomputable def cu(T:List (List Nat))(w:Nat):List Nat:=(bh w).filter λj=>!(T.map aQ).contains j
noncomputable def fw(m:Bool × Nat)(T:List (List Nat))(w f:Nat):List Nat:=(((T.map aQ).zip T).foldl (λx z=>x.set z.1 (cj m 0 (z.2.getD f 0))) ((bg w 0).set f 1))
noncomputable def mC(m:Bool × Nat)(T:List (List Nat))(w:Nat):List (List Nat):=(cu T w).map (fw m T w)
theorem RR.heads{m:Bool × Nat}(hm:m∈aJ){w:Nat}{R:List (List Nat)}{H:Nat->Nat}(hR:RT (af m) w R)(I:RR w R H):R.map aQ=(bh R.length).map H:=by
 refine List.ext_getElem (by rw[aS,aS,fk]) λi h1 h2=>?_
 rw[aS]at h1
 rw[AR,AR,LP,<- (I.Hk hm hR h1).1,aW,bc h1];rfl
theorem RR.mem{m:Bool × Nat}(hm:m∈aJ){w:Nat}{R:List (List Nat)}{H:Nat->Nat}(hR:RT (af m) w R)(I:RR w R H)(j:Nat):j∈R.map aQ↔∃i,i<R.length/\H i=j:=by
 rw[I.heads hm hR,bI]
 exact⟨λ⟨i,a,b⟩=>⟨i,eJ.mp a,b⟩,λ⟨i,a,b⟩=>⟨i,eJ.mpr a,b⟩⟩
theorem RR.free{m:Bool × Nat}(hm:m∈aJ){w:Nat}{R:List (List Nat)}{H:Nat->Nat}(hR:RT (af m) w R)(I:RR w R H)(j:Nat):j∈cu R w↔j<w/\∀i,i<R.length->H i≠j:=by
 unfold cu
 rw[wY,eJ,Bool.not_eq_true',<- Bool.not_eq_true,EI,I.mem hm hR]
 exact and_congr_right λ_=>⟨λh i a b=>h ⟨i,a,b⟩,λh ⟨i,a,b⟩=>h i a b⟩
theorem RR.C7{m:Bool × Nat}(hm:m∈aJ){w:Nat}{R:List (List Nat)}{H:Nat->Nat}(hR:RT (af m) w R)(I:RR w R H):(cu R w).length+R.length=w:=by
 have nd:(R.map aQ).Nodup:=by
  rw[I.heads hm hR]
  unfold List.Nodup
  rw[VQ]
  intro i j hi hj oh
  rw[aS,fk]at hi hj
  rw[AR,AR,LP,LP]
  have:=I.i i j oh hj
  omega
 have pe:((bh w).filter λj=>(R.map aQ).contains j).Perm (R.map aQ):=by
  refine(List.perm_ext_iff_of_nodup (VR _ List.nodup_range) nd).mpr λj=>?_
  rw[wY,EI,eJ]
  refine⟨λh=>h.2,λh=>⟨?_,h⟩⟩
  obtain⟨i,hi,rfl⟩:=(I.mem hm hR j).mp h
  exact I.l i hi
 have l1:=pe.length_eq
 rw[aS]at l1
 have l2:=List.length_eq_countP_add_countP (λj=>(R.map aQ).contains j) (l:=bh w)
 rw[fk,VS,VS,l1]at l2
 unfold cu
 have e:((bh w).filter λa=>decide ¬(R.map aQ).contains a=true)=(bh w).filter λj=>!(R.map aQ).contains j:=List.filter_congr λx _=>by
  cases(R.map aQ).contains x<;>rfl
 rw[e]at l2
 omega
theorem sr{m:Bool × Nat}(hm:m∈aJ){w f:Nat}{R:List (List Nat)}{H:Nat->Nat}(hR:RT (af m) w R)(I:RR w R H)(hf:f∈cu R w):(fw m R w f).length=w/\AllLt (af m) (fw m R w f)/\cf (fw m R w f) f=1/\(∀i,i<R.length->cf (fw m R w f) (H i)=cj m 0 (cf (R.getD i []) f))/\∀j,j≠f->(∀i,i<R.length->H i≠j)->cf (fw m R w f) j=0:=by
 obtain⟨f1,f2⟩:=(I.free hm hR f).mp hf
 have l1:=lo1 hm
 have zl:((R.map aQ).zip R).length=R.length:=by rw[LH,aS,Ey]
 have zg:∀i (h:i<R.length),((R.map aQ).zip R)[i]'(by omega)=(H i,R.getD i []):=λi h=>by
  rw[List.getElem_zip,AR]
  have e:R.getD i []=R[i]:=by rw[aW,bc h];rfl
  have:=(I.Hk hm hR h).1
  rw[e]at this ⊢
  exact Prod.ext this rfl
 have zm:∀z∈(R.map aQ).zip R,∃i,i<R.length/\z=(H i,R.getD i []):=λz hz=>by
  obtain⟨i,hi,rfl⟩:=lK hz
  exact⟨i,by omega,zg i (by omega)⟩
 have mz:∀i,i<R.length->(H i,R.getD i [])∈(R.map aQ).zip R:=λi h=>by
  rw[<-zg i h];exact eN _
 have bd:∀z∈(R.map aQ).zip R,cj m 0 (z.2.getD f 0)<af m:=λz hz=>by
  obtain⟨i,hi,rfl⟩:=zm z hz
  exact(pV hm (by omega) (fK hm (hR _ (de hi [])).2 f)).2.1
 refine⟨?_,?_,?_,λi hi=>?_,λj hj Hm=>?_⟩
 ·unfold fw
  rw[Qp (λz:Nat × List Nat=>z.1) (λz=>cj m 0 (z.2.getD f 0)),gZ,xb]
 ·have key:∀(l:List (Nat × List Nat)) (x:List Nat),(∀z∈l,cj m 0 (z.2.getD f 0)<af m)->AllLt (af m) x->AllLt (af m) (l.foldl (λx z=>x.set z.1 (cj m 0 (z.2.getD f 0))) x):=by
   intro l
   induction l with
   | nil=>exact λx _ h=>h
   | cons z l ih =>
    intro x hz h
    rw[sY]
    refine ih _ (λy hy=>hz y (gB _ hy)) λy hy=>?_
    rcases qB hy with h1 | h1
    ·exact h y h1
    ·rw[h1];exact hz z jB
  refine key _ _ bd λx hx=>?_
  rcases qB hx with h1 | h1
  ·rw[(Lr.mp h1).2];omega
  ·omega
 ·unfold fw
  rw[C6 (λz:Nat × List Nat=>z.1) (λz=>cj m 0 (z.2.getD f 0)) _ _ λz hz=>?_]
  ·unfold cf
   rw[aW,oA (by rw[xb];exact f1)];rfl
  ·obtain⟨i,hi,rfl⟩:=zm z hz
   exact f2 i hi
 ·have hp:((R.map aQ).zip R).Pairwise (λy z:Nat × List Nat=>y.1≠z.1):=by
   rw[VQ]
   intro i j hi hj oh
   rw[zg i (by omega),zg j (by omega)]
   have:=I.i i j oh (by omega)
   show H i≠H j
   omega
  exact Qo (λz:Nat × List Nat=>z.1) (λz=>cj m 0 (z.2.getD f 0)) _ _ hp _ (mz i hi) (by rw[gZ,xb];exact I.l i hi)
 ·unfold fw
  rw[C6 (λz:Nat × List Nat=>z.1) (λz=>cj m 0 (z.2.getD f 0)) _ _ λz hz=>?_]
  ·unfold cf
   rw[aW,lF (dN hj),Ej]
   split<;>rfl
  ·obtain⟨i,hi,rfl⟩:=zm z hz
   exact Hm i hi
theorem Qr{N:Nat}{p q:Nat->Nat->Nat}(r:Rg N p q){f:Nat->Nat}{a b n:Nat}(ha:a<n)(hb:b<n)(hn:a≠b)(fa:f a<N)(fb:f b<N)(hz:∀j,j<n->j≠a->j≠b->f j=0):sm p n f=p (f a) (f b):=by
 have h1:=vU r (f:=λj=>if j=a then f a else 0) (j0:=a) (n:=n) (by rw[if_pos rfl];exact fa) ha λj _ h=>if_neg h
 have h2:=vU r (f:=λj=>if j=b then f b else 0) (j0:=b) (n:=n) (by rw[if_pos rfl];exact fb) hb λj _ h=>if_neg h
 rw[if_pos rfl]at h1 h2
 rw[<-h1,<- h2,<- zE r]
 refine gF λj hj=>?_
 by_cases ja:j=a
 ·rw[if_pos ja,if_neg (by omega),r.z' fa,ja]
 ·by_cases jb:j=b
  ·rw[if_neg ja,if_pos jb,r.z fb,jb]
  ·rw[if_neg ja,if_neg jb,hz j hj ja jb,r.z r.pos]
noncomputable def dt(m:Bool × Nat)(w:Nat)(x y:Nat->Nat):Nat:=sm (gp m) w λj=>gm m (x j) (y j)
theorem Qs{m:Bool × Nat}(hm:m∈aJ)(w:Nat)(x y z:Nat->Nat):dt m w x (λk=>gp m (y k) (z k))=gp m (dt m w x y) (dt m w x z):=by
 have r:=rg hm
 unfold dt
 rw[<-zE r]
 exact gF λj _=>r.dl _ _ _
theorem Qt{m:Bool × Nat}(hm:m∈aJ)(w c:Nat)(x y:Nat->Nat):dt m w x (λk=>gm m c (y k))=gm m c (dt m w x y):=by
 have r:=rg hm
 have m0:=dM m hm
 unfold dt
 rw[<-CP r]
 exact gF λj _=>by rw[<-lj m0,jv m (x j),lj m0]
theorem Qu{m:Bool × Nat}(hm:m∈aJ)(w:Nat)(x:Nat->Nat)(c:Nat->Nat)(F:Nat->Nat->Nat):∀n,dt m w x (λk=>sm (gp m) n λi=>gm m (c i) (F i k))=sm (gp m) n λi=>gm m (c i) (dt m w x (F i))
 | 0=>lu (rg hm) λj _=>(rg hm).qz _
 | n+1=>by
  rw[sm,<- Qu hm w x c F n,<- Qt hm,<- Qs hm];rfl
theorem Qv{m:Bool × Nat}(hm:m∈aJ){w f:Nat}{R:List (List Nat)}{H:Nat->Nat}(hR:RT (af m) w R)(I:RR w R H)(hf:f∈cu R w){i:Nat}(hi:i<R.length):dt m w (cf (R.getD i [])) (cf (fw m R w f))=0:=by
 have r:=rg hm
 obtain⟨f1,f2⟩:=(I.free hm hR f).mp hf
 obtain⟨k1,k2,k3,k4,k5⟩:=sr hm hR I hf
 have il:=fK hm (hR _ (de hi [])).2
 have g:=pV hm (a:=0) r.pos (il f)
 unfold dt
 rw[Qr r (f:=λj=>gm m (cf (R.getD i []) j) (cf (fw m R w f) j)) (a:=H i) (b:=f) (I.l i hi) f1 (f2 i hi) (cS hm _ _) (cS hm _ _) λj hj ja jb=>?_]
 ·rw[k3,k4 i hi,I.u i i hi hi,if_pos rfl,sg g.2.1,nS (il f)]
  exact g.2.2
 ·by_cases c:∃i',i'<R.length/\H i'=j
  ·obtain⟨i',h1,rfl⟩:=c
   rw[I.u i i' hi h1,if_neg (λz:i=i'=>ja (by rw[z])),iM m _ (dM m hm)]
  ·rw[k5 j jb λi' h1 h2=>c ⟨i',h1,h2⟩,r.qz]
theorem eG.dt{m:Bool × Nat}(hm:m∈aJ){R:List (List Nat)}{n:Nat}{y:Nat->Nat}(h:∀i,i<R.length->dt m n (cf (R.getD i [])) y=0){f:Nat->Nat}(s:eG m R f):dt m n f y=0:=by
 refine s.ann hm λx hx=>?_
 obtain⟨i,hi,rfl⟩:=lK hx
 have:=h i hi
 rw[aW,bc hi]at this
 exact this
theorem RR.ker{m:Bool × Nat}(hm:m∈aJ){w:Nat}{R:List (List Nat)}{H:Nat->Nat}(hR:RT (af m) w R)(I:RR w R H){z:Nat->Nat}(hz:∀k,z k<af m)(h:∀i,i<R.length->dt m w (cf (R.getD i [])) z=0){k:Nat}(hk:k<w):z k=sm (gp m) (cu R w).length λa=>gm m (z ((cu R w).getD a 0)) (cf (fw m R w ((cu R w).getD a 0)) k):=by
 have r:=rg hm
 have m0:=dM m hm
 obtain⟨e,e1,e2,e3,e4⟩:=cx9 hm
 let z':=λk=>sm (gp m) (cu R w).length λa=>gm m (z ((cu R w).getD a 0)) (cf (fw m R w ((cu R w).getD a 0)) k)
 have zK:∀k,z' k<af m:=λk=>pW r λ_ _=>cS hm _ _
 let d:=λk=>gp m (z k) (gm m e (z' k))
 have dk:∀k,d k=0↔z k=z' k:=λk=>by
  show gp m (z k) (gm m e (z' k))=0↔_
  rw[jv m e]
  exact e4 (hz k) (zK k)
 have dz:∀i,i<R.length->dt m w (cf (R.getD i [])) d=0:=λi hi=>by
  show dt m w (cf (R.getD i [])) (λk=>gp m (z k) (gm m e (z' k)))=0
  rw[Qs hm,Qt hm,h i hi,Qu hm,lu r λa ha=>?_,r.qz,r.z r.pos]
  rw[Qv hm hR I (de ha 0) hi,r.qz]
 have zf:∀f,f∈cu R w->z' f=z f:=λf hf=>by
  obtain⟨a,ha,rfl⟩:=lK hf
  have ea:(cu R w)[a]=(cu R w).getD a 0:=by rw[aW,bc ha];rfl
  show sm (gp m) (cu R w).length (λb=>gm m (z ((cu R w).getD b 0)) (cf (fw m R w ((cu R w).getD b 0)) _))=_
  rw[ea,vU r (f:=λb=>gm m (z ((cu R w).getD b 0)) (cf (fw m R w ((cu R w).getD b 0)) ((cu R w).getD a 0))) (cS hm _ _) ha λb hb hn=>?_]
  ·rw[(sr hm hR I (de ha 0)).2.2.1,nS (hz _)]
  ·have nd:(cu R w).Nodup:=VR _ List.nodup_range
   rw[(sr hm hR I (de hb 0)).2.2.2.2 _ ?_ ((I.free hm hR _).mp (de ha 0)).2,r.qz]
   intro c
   rw[aW,bc ha,aW,bc hb]at c
   exact hn ((List.getElem_inj nd).mp (dq (congrArg some c))).symm
 have key:d k=0:=by
  by_cases c:∃i,i<R.length/\H i=k
  ·obtain⟨i,hi,rfl⟩:=c
   have:=dz i hi
   unfold dt at this
   rw[vU r (f:=λj=>gm m (cf (R.getD i []) j) (d j)) (j0:=H i) (cS hm _ _) hk λj hj hn=>?_,I.u i i hi hi,if_pos rfl,sg (r.lp (hz _) (cS hm _ _))]at this
   ·exact this
   ·by_cases c:∃i',i'<R.length/\H i'=j
    ·obtain⟨i',h1,rfl⟩:=c
     rw[I.u i i' hi h1,if_neg (λz:i=i'=>hn (by rw[z])),iM m _ m0]
    ·have hf:=(I.free hm hR j).mpr ⟨hj,λi' h1 h2=>c ⟨i',h1,h2⟩⟩
     have:d j=0:=(dk j).mpr (zf j hf).symm
     rw[this,r.qz]
  ·have hf:=(I.free hm hR k).mpr ⟨hk,λi' h1 h2=>c ⟨i',h1,h2⟩⟩
   exact(dk k).mpr (zf k hf).symm
 exact(dk k).mp key
theorem vV{N n:Nat}{M:List (List Nat)}(h:RT N n M)(h0:M≠[]):ak M=n:=by
 cases M with
 | nil=>exact absurd rfl h0
 | cons g M=>exact(h g jB).1
theorem C8{T:List (List Nat)}{i:Nat}(h:i<T.length):T.getD i []=T[i]:=by rw[aW,bc h];rfl
end L3
namespace L3
open PySem L2 PySem.Spec PyProof.Rows
section
variable{X:Cx}{F H:Hp}{e b:Expr}{pos pos' p p2 p3 apos bN:Pos}{ti te:aI}{x y:Str}{i j:Nat}
noncomputable def vW(i j:Nat)(te ti:aI):bR:=λD δ=>te δ λd aj=>∃l1 ys l2,aj[i]?=some (some (.lst true (l1++.lst true ys::l2)))/\aj[j]?=some (some (.int l1.length))/\kQ ti aj λk aK=>match k with
 | .int n=>∃jj,aK[i]?=some (some (.lst true (l1++.lst true ys::l2)))/\gL ys.length n=some jj/\D.nx (aK.set i (some (.lst true (l1++.lst true (ys.set jj d)::l2))))
 | _=>False
theorem Qw(hN:X.N[i]?=some x)(hv:iB X.env.scope x)(C9:X.N[j]?=some y)(rM:iB X.env.scope y)(he:PE X e (lE te))(hi:PE X b (lB ti))(hd:(x==("__debug__":Str))=false:=by decide)(b9:(x==("__classdict__":Str))=false:=by decide)(hd2:(y==("__debug__":Str))=false:=by decide)(Ho:(y==("__classdict__":Str))=false:=by decide)
  (ha:∀v,assign (.Subscript (.Subscript (.Name x p) (.Name y p2) p3) b pos') X.env v=(do
   let ov<-holding [v] (eval (.Subscript (.Name x p) (.Name y p2) p3) X.env)
   let iv<-holding [v,ov] (eval b X.env)
   standAt pos'
   holding [v,ov,iv] (setItem ov iv v)
   release [v,ov,iv] []):=by intro _;rfl)
  (hs:swapsWithSole [.Subscript (.Subscript (.Name x p) (.Name y p2) p3) b pos'] e pos.line X.env=pure false:=by rfl) (hw:swappedStores [.Subscript (.Subscript (.Name x p) (.Name y p2) p3) b pos'] e X.env=pure none:=by rfl)
  (h1:(assignEach [.Subscript (.Subscript (.Name x p) (.Name y p2) p3) b pos'] X.env).map (·.2)=[assign (.Subscript (.Subscript (.Name x p) (.Name y p2) p3) b pos') X.env]:=by rfl) :
  PS X (.Assign [.Subscript (.Subscript (.Name x p) (.Name y p2) p3) b pos'] e pos) (lS X (vW i j te ti)) :=
 iG (xG he (xF (BG BH (j5 hN hv hd b9) (j5 C9 rM hd2 Ho) (λ_ _=>rfl)) (cR hi) xR ha) hs hw h1) λEn σ H zq=>by
 obtain⟨B,F,δ,Dd,c,q,k1,k2,k3,k4⟩:=zq
 exact⟨B,F,δ,[],_,c,q,λd aj v F1 H1 hq f1 h1 c1=>by
  obtain⟨l1,ys,l2,e1,e2,hq⟩:=hq
  obtain⟨p0,ws,g1,g2,g3⟩:=c1.ownAt e1
  obtain⟨v2,g4,sj⟩:=c1.look e2
  obtain⟨q0,us,g5,g6,g7,_⟩:=yt c1 e1 g1 g2
  cases sj with
  | int _ =>
   refine⟨.ref p0,g1,.int _,g4,p0,ws,_,.ref q0,rfl,rfl,bw.of g2,vy g5,B,F1,aj,[(d,v)],_,c1,hq,λkd aK kv F2 H2 hk f2 h2 c2=>?_⟩
   have st:=c2.top
   split at hk
   ·obtain⟨jj,ex,ej,hn⟩:=hk
    cases st
    have c3:=c2.pop
    refine⟨q0,us,_,jj,rfl,rfl,h2 _ _ g6,by rw[<-g7];exact ej,k1 _ _ F2 _ hn ?_⟩
    exact ai.Gj (ps:=[(d,v)]) (ts:=[]) c3 ex g1 (h2 _ _ g2) g5 λHq A1 A2 z r1 r2 nd=>by
     rw[h2 _ _ g6]at z;cases z
     exact R.ye jj r1 r2 nd
   ·exact hk.elim⟩
noncomputable def vX(i:Nat)(n:Int)(te ti:aI):bR:=λD δ=>te δ λd aj=>∃l1 ys l2,aj[i]?=some (some (.lst true (l1++.lst true ys::l2)))/\n=l1.length/\kQ ti aj λk aK=>match k with
 | .int n=>∃jj,aK[i]?=some (some (.lst true (l1++.lst true ys::l2)))/\gL ys.length n=some jj/\D.nx (aK.set i (some (.lst true (l1++.lst true (ys.set jj d)::l2))))
 | _=>False
theorem cf5{n:Int}{tk:Nat}(hN:X.N[i]?=some x)(hv:iB X.env.scope x)(he:PE X e (lE te))(hi:PE X b (lB ti))(hd:(x==("__debug__":Str))=false:=by decide)(b9:(x==("__classdict__":Str))=false:=by decide)
  (ha:∀v,assign (.Subscript (.Subscript (.Name x p) (.Constant (.int n) tk p2) p3) b pos') X.env v=(do
   let ov<-holding [v] (eval (.Subscript (.Name x p) (.Constant (.int n) tk p2) p3) X.env)
   let iv<-holding [v,ov] (eval b X.env)
   standAt pos'
   holding [v,ov,iv] (setItem ov iv v)
   release [v,ov,iv] []):=by intro _;rfl)
  (hs:swapsWithSole [.Subscript (.Subscript (.Name x p) (.Constant (.int n) tk p2) p3) b pos'] e pos.line X.env=pure false:=by rfl) (hw:swappedStores [.Subscript (.Subscript (.Name x p) (.Constant (.int n) tk p2) p3) b pos'] e X.env=pure none:=by rfl)
  (h1:(assignEach [.Subscript (.Subscript (.Name x p) (.Constant (.int n) tk p2) p3) b pos'] X.env).map (·.2)=[assign (.Subscript (.Subscript (.Name x p) (.Constant (.int n) tk p2) p3) b pos') X.env]:=by rfl) :
  PS X (.Assign [.Subscript (.Subscript (.Name x p) (.Constant (.int n) tk p2) p3) b pos'] e pos) (lS X (vX i n te ti)) :=
 iG (xG he (xF (BG BH (j5 hN hv hd b9) tK (λ_ _=>rfl)) (cR hi) xR ha) hs hw h1) λEn σ H zq=>by
 obtain⟨B,F,δ,Dd,c,q,k1,k2,k3,k4⟩:=zq
 exact⟨B,F,δ,[],_,c,q,λd aj v F1 H1 hq f1 h1 c1=>by
  obtain⟨l1,ys,l2,e1,e2,hq⟩:=hq
  obtain⟨p0,ws,g1,g2,g3⟩:=c1.ownAt e1
  obtain⟨q0,us,g5,g6,g7,_⟩:=yt c1 e1 g1 g2
  subst e2
  refine⟨.ref p0,g1,p0,ws,_,.ref q0,rfl,rfl,bw.of g2,vy g5,B,F1,aj,[(d,v)],_,c1,hq,λkd aK kv F2 H2 hk f2 h2 c2=>?_⟩
  have st:=c2.top
  split at hk
  ·obtain⟨jj,ex,ej,hn⟩:=hk
   cases st
   have c3:=c2.pop
   refine⟨q0,us,_,jj,rfl,rfl,h2 _ _ g6,by rw[<-g7];exact ej,k1 _ _ F2 _ hn ?_⟩
   exact ai.Gj (ps:=[(d,v)]) (ts:=[]) c3 ex g1 (h2 _ _ g2) g5 λHq A1 A2 z r1 r2 nd=>by
    rw[h2 _ _ g6]at z;cases z
    exact R.ye jj r1 r2 nd
  ·exact hk.elim⟩
end
section
variable{X:Cx}
end
section
variable{X:Cx}{es:List Expr}{tr:bX}{pos:Pos}
theorem cq0(h:PA X es (lA tr)):PE X (.List es pos) (lB (rh tr)) :=
 da (Mw h) λσ H Q zq=>by
 obtain⟨B,F,δ,ts,Qd,c,q,k⟩:=zq
 exact⟨B,F,δ,ts,_,c,q,λds aj vs F1 H1 q1 f1 h1 c1 s1=>⟨by rw[<-s1.length];exact q1.1,λp hp=>k _ aj _ F1 _ q1.2 f1 (h1.trans (ae.upd hp)) (c1.grow (ae.upd hp)) (.own br (s1.mono (ae.refl _) (ae.upd hp)) .nil)⟩⟩
end
end L3
namespace L3
open PySem L2 Mf
end L3
namespace L3
open PySem L2 Mf
theorem Hr{m:Bool × Nat}(hm:m∈aJ){G:List (List Nat)}(hG:RT (af m) (ak G) G){f:Nat}(hf:f∈cu (bO m G) (ak G)):∀r∈G,dt m (ak G) (cf r) (cf (fw m (bO m G) (ak G) f))=0:=λr hr=>by
 obtain⟨⟨H,I⟩,iR,il,sp⟩:=km hm hG
 exact eG.dt hm (λi hi=>Qv hm iR I hf hi) ((sp _).mp (eG.of hr))
end L3
namespace L3
open PySem L2 Mf
noncomputable def mD(T:List (List Nat))(i k v:Nat):List (List Nat):=T.set i ((T.getD i []).set k v)
theorem bX5(T:List (List Nat))(i k v:Nat):(mD T i k v).length=T.length:=gZ
theorem cn3{r:List Nat}{k v:Nat}(hk:k<r.length)(j:Nat):cf (r.set k v) j=if j=k then v else cf r j:=by
 unfold cf
 rw[aW,List.getElem?_set,aW]
 by_cases h:k=j
 ·subst h
  rw[if_pos rfl,if_pos rfl,if_pos hk];rfl
 ·rw[if_neg h,if_neg (dN h)]
theorem Dc{T:List (List Nat)}{i k v:Nat}(hi:i<T.length)(hk:k<(T.getD i []).length)(a j:Nat):cf ((mD T i k v).getD a []) j=if a=i/\j=k then v else cf (T.getD a []) j:=by
 unfold mD
 rw[aW (l:=T.set _ _),List.getElem?_set]
 by_cases h:i=a
 ·subst h
  rw[if_pos rfl,if_pos hi]
  show cf ((T.getD i []).set k v) j=_
  rw[cn3 hk]
  by_cases e:j=k
  ·rw[if_pos e,if_pos ⟨rfl,e⟩]
  ·rw[if_neg e,if_neg λz=>e z.2]
 ·rw[if_neg h,if_neg λz=>h z.1.symm,<- aW]
theorem cd0{N w:Nat}{T:List (List Nat)}(h:RT N w T){i k v:Nat}(hi:i<T.length)(hv:v<N):RT N w (mD T i k v):=λr hr=>by
 rcases qB hr with h1 | h1
 ·exact h r h1
 ·obtain⟨a,b⟩:=h _ (de hi [])
  rw[h1]
  refine⟨by rw[gZ,a],λx hx=>?_⟩
  rcases qB hx with h2 | h2
  ·exact b x h2
  ·rw[h2];exact hv
theorem mE(o:Bool){T:List (List Nat)}{i:Nat}(h:i<T.length):au o T=au o (T.take i)++.lst o (aw (T.getD i []))::au o (T.drop (i+1)):=by
 have e:T=T.take i++T.getD i []::T.drop (i+1):=by
  have:=VT (l:=T) (i:=i) (a:=T.getD i [])
  rw[if_pos h,C8 h,List.set_getElem_self]at this
  rw[C8 h];exact this
 exact(congrArg (au o) e).trans (by unfold au;rw[dy,cN])
theorem Qx(o:Bool){T:List (List Nat)}{i k v:Nat}(h:i<T.length):au o (T.take i)++.lst o ((aw (T.getD i [])).set k (.int ((v:Nat):Int)))::au o (T.drop (i+1))=au o (mD T i k v):=by
 unfold mD
 rw[VT (l:=T),if_pos h]
 unfold au
 rw[dy,cN,CO]
end L3
namespace L2
open PySem PySem.Spec PyProof.Rows
section
variable{X:Cx}
end
end L2
namespace L3
open PySem L2 PySem.Spec PyProof.Rows
section
variable{X:Cx}
end
end L3
namespace L2
open PySem PySem.Spec PyProof.Rows
section
variable{X:Cx}{a:Expr}{ta:TE}{p p2 pos kn:Pos}
end
end L2
namespace L3
open PySem L2 PySem.Spec PyProof.Rows
section
variable{X:Cx}{a:Expr}{t:aI}{p p2 pos kn:Pos}
end
end L3
namespace L3
open PySem L2 PySem.Spec PyProof.Rows
section
variable{F H:Hp}
end
section
variable{X:Cx}{e:Expr}{t:aI}{p2 pos:Pos}
end
end L3
namespace L3
open PySem L2 PySem.Spec PyProof.Rows
noncomputable def gM(A:List Addr)(H:Hp):Hp:=λa=>if a∈A then none else H a
noncomputable def vY(sp:aZ):L2.Sp:=λvs H Q _=>∃F ds Qd A0,ae F H/\R F H ds vs A0/\A0.Nodup/\sp ds Qd/\∀d v F' H' A,Qd d->ae (gM A0 H) H'->ae F F'->ae F' H'->(∀a ws,F' a=some (.lst ws)->F a=some (.lst ws)\/gM A0 H a=none)->R F' H' [d] [v] A->A.Nodup->(∀a∈A,gM A0 H a=none)->Q v H'
section
variable{F H:Hp}
theorem Qy{A:List Addr}{a:Addr}(h:a∈A):gM A H a=none:=if_pos h
theorem vZ{A:List Addr}{a:Addr}(h:a ∉ A):gM A H a=H a:=if_neg h
theorem bT8(A:List Addr):ae (gM A H) H:=.of λb u e=>by
 by_cases c:b∈A
 ·rw[Qy c]at e;cases e
 ·rw[vZ c]at e;exact e
theorem RS.De(n:Nat):∀{ds:List D} {vs:List V} {A:List Addr},R F H ds vs A->RS F H (ds.map some++bg n none) (vs.map some++bg n none) A
 | [],_,A,r=>by
  cases r
  exact RS.start .nil n
 | d::ds,_,A,r=>by
  obtain⟨w,fS,B1,B2,rfl,rfl,h1,h2⟩:=r.cQ
  exact .fu h1 (RS.De n h2)
theorem ai.De{ds:List D}{vs:List V}{A:List Addr}(e:ae F H)(r:R F H ds vs A)(nd:A.Nodup)(n:Nat):ai ⟨gM A H,F⟩ F H (vs.map some++bg n none) (ds.map some++bg n none) [] :=
 ⟨e,bT8 A,ae.refl _,λ_ _ q=>.inl q,[],A,.nil,RS.De n r,by simpa using nd,λa ha=>Qy (by simpa using ha)⟩
end
section
variable{P:Program}{w:World}{K:PySem.W.Frag}{mg:Str->Option Value}{base:Heap}
theorem cr6{x qual:Str}{st:Stmt}{f:Addr}{fd:FuncData}{N ps:List Str}{k:Nat}{sp:aZ}(F:aY K x qual st f fd)(S:bf N ps (aP st))(len:∀ds Q,sp ds Q->ds.length=ps.length)
  (gK:∀(aG:Value) (A:Around) (outer:List Env) (s:Shared) (H:Hp) (E:XK),bL k (A.deeper (envOfC qual (aP st) s.heap.objs.size f aG)) ->
   ∃t:bR,PSs (hV aT P w K mg base N qual (aP st) f aG A outer s H E).fZ (hW st) (lS (hV aT P w K mg base N qual (aP st) f aG A outer s H E).fZ t)/\∀ds Q,sp ds Q->t { nx:=λ_=>Q .aq,rt:=Q } (jL N ds)):aM P w K mg base aT (k+1) f fd ps (vY sp):=by
 refine F.ok S (λvs H Q E ⟨F,ds,Qd,A0,e,r,nd,h,_⟩=>by rw[<-r.length];exact len ds Qd h) λaG A outer s H vs Q E hr zz=>?_
 obtain⟨F,ds,Qd,A0,e,r,nd,h,k⟩:=zz
 obtain⟨t,ht,hq⟩:=gK aG A outer s H E hr
 have fin:∀d v ag ax F' H',Qd d->ai ⟨gM A0 H,F⟩ F' H' ax ag [(d,v)]->Q v H':=λd v ag ax F' H' hd c=>by
  obtain⟨A,C,r',s',nd,fr⟩:=c.own
  exact k d v F' H' A hd c.b1 c.b2 c.ext c.b3 r' (dE.mp nd).1 λa ha=>fr a (df _ ha)
 have e1:L2.start N vs=vs.map some++bg (N.length-ds.length) none:=by unfold L2.start;rw[r.length]
 refine⟨_,ht,⟨gM A0 H,F⟩,F,jL N ds,_,?_,hq ds Qd h,λag ax F' H' hd c=>fin .aq .aq ag ax F' H' hd (c.pushS (.aq .nil) rfl),fin,λ_ _ _ _ z=>z.elim,λ_ _ _ _ z=>z.elim,XL.none (λ_ _ z=>z) λ_ _ z=>z⟩
 rw[e1]
 exact ai.De e r nd _
end
section
variable{X:Cx}{CX:dR}{n i:Nat}{f:Addr}{fd:FuncData}{ps:List Str}{sp:aZ}{E:XK}{fn x:Str}{e:Expr}{te:aI}{p p2 pos pos' kn:Pos}
end
end L3
namespace L2
section
variable{α:Type}{P:List α->Prop}
theorem cr1(h:P []):∀us:List α,us.length=0->P us:=by
 intro us hl;rcases us with _ | ⟨a,t⟩
 ·exact h
 ·cases hl
theorem fL(h:∀a,P [a]):∀us:List α,us.length=1->P us:=by
 intro us hl;rcases us with _ | ⟨a,t⟩
 ·cases hl
 ·exact cr1 (P:=λt=>P (a::t)) (h a) t (AS hl)
theorem fW(h:∀a b,P [a,b]):∀us:List α,us.length=2->P us:=by
 intro us hl;rcases us with _ | ⟨a,t⟩
 ·cases hl
 ·exact fL (P:=λt=>P (a::t)) (h a) t (AS hl)
theorem iN(h:∀a b c,P [a,b,c]):∀us:List α,us.length=3->P us:=by
 intro us hl;rcases us with _ | ⟨a,t⟩
 ·cases hl
 ·exact fW (P:=λt=>P (a::t)) (h a) t (AS hl)
theorem zL(h:∀a b c d,P [a,b,c,d]):∀us:List α,us.length=4->P us:=by
 intro us hl;rcases us with _ | ⟨a,t⟩
 ·cases hl
 ·exact iN (P:=λt=>P (a::t)) (h a) t (AS hl)
theorem Qz(h:∀a b c d e,P [a,b,c,d,e]):∀us:List α,us.length=5->P us:=by
 intro us hl;rcases us with _ | ⟨a,t⟩
 ·cases hl
 ·exact zL (P:=λt=>P (a::t)) (h a) t (AS hl)
end
end L2
namespace L3
open PySem L2 PySem.Spec PyProof.Rows
section
variable{B:Bs}{F H:Hp}{σ:L2.St}{δ:Dl}{ts:List (D × V)}
end
section
variable{X:Cx}{elt iter tg:Expr}{pos:Pos}{scope:Scope}{cl:List (Str × Addr)}{ti:jg}{te:aI}{g:gO}
end
end L3
namespace L2
open PySem PySem.Spec PyProof.Rows
section
variable{X:Cx}
end
end L2
namespace L3
open PySem L2 PySem.Spec PyProof.Rows
section
variable{X:Cx}
end
end L3
namespace L3
open PySem L2 Mf
theorem QB{m:Bool × Nat}(hm:m∈aJ){a b:Nat}(ha:a<af m)(hb:b<af m):gm m a b=0↔a=0\/b=0:=by
 constructor
 ·intro h
  by_cases a0:a=0
  ·exact .inl a0
  ·by_cases b0:b=0
   ·exact .inr b0
   ·exact absurd h (cy6 hm (by omega) ha (by omega) hb)
 ·rintro (rfl | rfl)
  ·exact iM m _ (dM m hm)
  ·exact nU m _ (dM m hm)
end L3
namespace L3
open PySem L2 Mf
noncomputable def gx(m:Bool × Nat)(c:List Nat)(os:List (List Nat)):List (List Nat):=os.map λo =>
 (eX (λx y=>cj m x (gm m (gm m (o.getD (aQ c) 0) (mB m (c.getD (aQ c) 0))) y)) o c).take (aQ c)++(eX (λx y=>cj m x (gm m (gm m (o.getD (aQ c) 0) (mB m (c.getD (aQ c) 0))) y)) o c).drop (aQ c+1)
noncomputable abbrev Cs:=List Nat × List (List Nat)
noncomputable def nul(c:List Nat):Bool:=c.all (·==0)
noncomputable def gy(m:Bool × Nat)(w:Nat)(z:Cs × Nat):Cs:=(z.1.1++[w-z.1.2.length+z.2],gx m (z.1.2.getD z.2 []) (z.1.2.drop (z.2+1)))
noncomputable def fi(s:Cs):List (Cs × Nat):=(bh s.2.length).map λi=>(s,i)
noncomputable def dj(l:List Cs):List (Cs × Nat):=l.flatMap fi
noncomputable def oi(z:Cs × Nat):Bool:=nul (z.1.2.getD z.2 [])
noncomputable def su(m:Bool × Nat)(w:Nat):Nat->List Cs->Option (List Nat)
 | 0,_=>none
 | f+1,l=>if l=[]then none else match (dj l).find? oi with
  | some z=>some (z.1.1++[w-z.1.2.length+z.2])
  | none=>su m w f ((dj l).map (gy m w))
noncomputable def gH(m:Bool × Nat)(C:Nat->Nat->Nat)(ps:List Nat)(c:Nat->Nat)(k:Nat):Nat:=sm (gp m) ps.length λt=>gm m (c t) (C (ps.getD t 0) k)
noncomputable def zM(m:Bool × Nat)(C:Nat->Nat->Nat)(ps:List Nat):Prop:=∀c:Nat->Nat,(∀t,c t<af m)->(∀k,gH m C ps c k=0)->∀t,t<ps.length->c t=0
structure Gs(m:Bool × Nat)(C:Nat->Nat->Nat)(w:Nat)(s:Cs):Prop where
 le:s.2.length<=w
 inc:s.1.Pairwise (· < ·)
 off:∀p∈s.1,p<w-s.2.length
 nx:∀j,(∀p∈s.1,p<j)->w-s.2.length<=j
 rt:∃h,RT (af m) h s.2
 rel:∀a:Nat->Nat,(∀i,a i<af m)->((∀k,sm (gp m) s.2.length (λi=>gm m (a i) (cf (s.2.getD i []) k))=0)↔∃c:Nat->Nat,(∀t,c t<af m)/\∀k,gp m (sm (gp m) s.2.length λi=>gm m (a i) (C (w-s.2.length+i) k)) (gH m C s.1 c k)=0)
 ind:zM m C s.1
section
variable{m:Bool × Nat}{C:Nat->Nat->Nat}{w:Nat}
theorem cq9(hm:m∈aJ)(C:Nat->Nat->Nat)(ps:List Nat)(c:Nat->Nat)(k:Nat):gH m C ps c k<af m:=pW (rg hm) λ_ _=>cS hm _ _
theorem Df(hm:m∈aJ)(C:Nat->Nat->Nat)(ps:List Nat)(j:Nat)(c:Nat->Nat)(k:Nat):gH m C (ps++[j]) c k=gp m (gH m C ps c k) (gm m (c ps.length) (C j k)):=by
 unfold gH
 rw[eM,Vy,sm]
 congr 1
 ·refine gF λt ht=>?_
  rw[aW,w9 ht,<- aW]
 ·rw[aW,qo (bD _),EA];rfl
theorem QC{ps:List Nat}{c c':Nat->Nat}{k:Nat}(h:∀t,t<ps.length->c t=c' t):gH m C ps c k=gH m C ps c' k:=gF λt ht=>by rw[h t ht]
theorem p8(hm:m∈aJ){n i e:Nat}(hi:i<n)(a' X:Nat->Nat):sm (gp m) n (λj=>gm m (if j<i then 0 else if j=i then e else a' (j-i-1)) (X j))=gp m (sm (gp m) (n-i-1) λj=>gm m (a' j) (X (i+1+j))) (gm m e (X i)):=by
 have r:=rg hm
 have h0:=dM m hm
 obtain⟨d,rfl⟩:∃d,n=(i+1)+d:=⟨n-i-1,by omega⟩
 rw[P1 r (i+1) d λ_ _=>cS hm _ _,sm,lu r λj hj=>by rw[if_pos hj,iM m _ h0],if_neg (gA _),if_pos rfl,r.z (cS hm _ _),pQ]
 congr 1
 rw[show i+1+d-i-1=d by omega]
 refine gF λj hj=>?_
 rw[if_neg (by omega),if_neg (by omega),show i+1+j-i-1=j by omega]
theorem QD{c:List Nat}:nul c=true↔∀k,cf c k=0:=by
 unfold nul
 rw[cX]
 constructor
 ·intro h k
  by_cases hk:k<c.length
  ·unfold cf
   have:=h _ (de hk 0)
   exact beq_iff_eq.mp this
  ·exact vR (by omega)
 ·intro h x hx
  obtain⟨k,hk,rfl⟩:=lK hx
  have:=h k
  unfold cf at this
  rw[aW,bc hk]at this
  exact beq_iff_eq.mpr this
theorem Hs{c:List Nat}(h:nul c=false):aQ c<c.length/\cf c (aQ c)≠0:=by
 have hx:∃x∈c,(x != 0)=true:=by
  refine xi λz=>?_
  have:nul c=true:=by
   unfold nul
   rw[cX]
   intro x hx
   refine xi λy=>z ⟨x,hx,?_⟩
   simpa using y
  rw[h]at this;cases this
 have hl:aQ c<c.length:=LK hx
 refine⟨hl,?_⟩
 have h2:(c[aQ c] != 0)=true:=VN (xs:=c) (p:=(· != 0)) (w:=hl)
 unfold cf
 rw[aW,bc hl]
 simpa using h2
theorem cb1(hm:m∈aJ){b:List Nat}{os:List (List Nat)}{h:Nat}(hb:b.length=h)(ab:AllLt (af m) b)(ly:RT (af m) h os)(nb:nul b=false){a:Nat->Nat}(ha:∀i,a i<af m) :
  (∀k,sm (gp m) os.length (λj=>gm m (a j) (cf ((gx m b os).getD j []) k))=0)↔∃e,e<af m/\∀k,gp m (sm (gp m) os.length λj=>gm m (a j) (cf (os.getD j []) k)) (gm m e (cf b k))=0:=by
 have r:=rg hm
 have h0:=dM m hm
 have gg:=lo1 hm
 obtain⟨hp,bp⟩:=Hs nb
 have QE:=fK hm ab (aQ b)
 obtain⟨iv,iv1,QF⟩:=G7 hm (a:=1) (by omega) QE bp
 have Ht:mB m (b.getD (aQ b) 0)=iv:=CT hm iv1 QF
 obtain⟨D,hD⟩:∃D:Nat->List Nat,∀j,D j=eX (λx y=>cj m x (gm m (gm m ((os.getD j []).getD (aQ b) 0) iv) y)) (os.getD j []) b:=⟨_,λ_=>rfl⟩
 have QG:∀j,j<os.length->∀k,gp m (cf (D j) k) (gm m (gm m (cf (os.getD j []) (aQ b)) iv) (cf b k))=cf (os.getD j []) k:=λj hj k=>by
  rw[hD]
  exact CZ hm (ly _ (de hj [])).1 hb (ly _ (de hj [])).2 k
 have Dlt:∀j,j<os.length->∀k,cf (D j) k<af m:=λj hj k=>by
  rw[hD]
  exact Hi hm (ly _ (de hj [])).1 hb (ly _ (de hj [])).2 _ k
 have Dp:∀j,j<os.length->cf (D j) (aQ b)=0:=λj hj=>by
  have l1:=fK hm (ly _ (de hj [])).2 (aQ b)
  have:=QG j hj (aQ b)
  rw[lj h0,QF,nS l1]at this
  exact r.cn (Dlt j hj _) l1 this
 have cW4:∀j,j<os.length->(D j).length=h:=λj hj=>by
  rw[hD,tw,(ly _ (de hj [])).1,hb,Ey]
 have Hu:∀j,j<os.length->∀k,cf ((gx m b os).getD j []) k=cf (D j) (if k<aQ b then k else k+1):=λj hj k=>by
  have e1:(gx m b os).getD j []=(D j).take (aQ b)++(D j).drop (aQ b+1):=by
   unfold gx
   rw[Hj _ hj [] [],Ht,hD]
  rw[e1]
  have lt:((D j).take (aQ b)).length=aQ b:=by rw[eC,cW4 j hj];omega
  unfold cf
  by_cases hk:k<aQ b
  ·rw[if_pos hk,aW,w9 (by omega),Vx hk,<- aW]
  ·rw[if_neg hk,aW,qo (by omega),lt,LA,show aQ b+1+(k-aQ b)=k+1 by omega,<- aW]
 obtain⟨F,hF⟩:∃F,F=sm (gp m) os.length λj=>gm m (a j) (gm m (cf (os.getD j []) (aQ b)) iv):=⟨_,rfl⟩
 have Flt:F<af m:=by rw[hF];exact pW r λ_ _=>cS hm _ _
 have QH:∀k,(sm (gp m) os.length λj=>gm m (a j) (cf (os.getD j []) k))=gp m (sm (gp m) os.length λj=>gm m (a j) (cf (D j) k)) (gm m F (cf b k)):=λk=>by
  rw[gF (g:=λj=>gp m (gm m (a j) (cf (D j) k)) (gm m (cf b k) (gm m (a j) (gm m (cf (os.getD j []) (aQ b)) iv)))) λj hj=>?_,zE r,CP r,<- hF,jv m (cf b k)]
  rw[<-QG j hj k,PQ h0]
  congr 1
  rw[<-lj h0,jv m _ (cf b k)]
 have cW5:(∀k,sm (gp m) os.length (λj=>gm m (a j) (cf ((gx m b os).getD j []) k))=0)↔∀k,sm (gp m) os.length (λj=>gm m (a j) (cf (D j) k))=0:=by
  constructor
  ·intro h k
   by_cases e:k=aQ b
   ·exact lu r λj hj=>by rw[e,Dp j hj,nU m _ h0]
   ·by_cases c:k<aQ b
    ·rw[<-h k]
     exact gF λj hj=>by rw[Hu j hj,if_pos c]
    ·rw[<-h (k-1)]
     exact gF λj hj=>by rw[Hu j hj,if_neg (by omega),show k-1+1=k by omega]
  ·intro h k
   rw[gF λj hj=>by rw[Hu j hj]]
   exact h _
 rw[cW5]
 constructor
 ·intro h
  obtain⟨e,e1,e2⟩:=r.ng Flt
  refine⟨e,e1,λk=>?_⟩
  rw[QH k,h k,r.z (cS hm _ _),<- G6 h0,e2,iM m _ h0]
 ·rintro⟨e,e1,h⟩
  have key:∀k,gp m (sm (gp m) os.length λj=>gm m (a j) (cf (D j) k)) (gm m (gp m F e) (cf b k))=0:=λk=>by
   rw[G6 h0,<- G5,<- QH k]
   exact h k
  have fe:gp m F e=0:=by
   have:=key (aQ b)
   rw[lu r λj hj=>by rw[Dp j hj,nU m _ h0],r.z (cS hm _ _)]at this
   rcases(QB hm (PR hm Flt e1) QE).mp this with z | z
   ·exact z
   ·exact absurd z bp
  intro k
  have:=key k
  rw[fe,iM m _ h0,zA (pW r λ_ _=>cS hm _ _)]at this
  exact this
theorem Hv(m:Bool × Nat)(b:List Nat)(os:List (List Nat)):(gx m b os).length=os.length:=by unfold gx;rw[aS]
theorem cs1(hm:m∈aJ){b:List Nat}{os:List (List Nat)}{h:Nat}(hb:b.length=h)(ly:RT (af m) h os)(nb:nul b=false):RT (af m) (h-1) (gx m b os):=λx hx=>by
 obtain⟨o,ho,rfl⟩:=bI.mp hx
 obtain⟨hp,_⟩:=Hs nb
 obtain⟨l1,l2⟩:=ly o ho
 refine⟨by rw[eM,eC,iS,tw,l1,hb];omega,λy hy=>?_⟩
 have:AllLt (af m) (eX (λx y=>cj m x (gm m (gm m (o.getD (aQ b) 0) (mB m (b.getD (aQ b) 0))) y)) o b):=by4 λx hx y _=>(pV hm (l2 x hx) (cS hm _ y)).2.1
 rcases bA.mp hy with z | z
 ·exact this y (xk z)
 ·exact this y (qA z)
theorem Gs.next(hm:m∈aJ){s:Cs}(G:Gs m C w s){i:Nat}(hi:i<s.2.length)(nb:nul (s.2.getD i [])=false)(hC:∀j k,C j k<af m):Gs m C w (gy m w (s,i)):=by
 have r:=rg hm
 have h0:=dM m hm
 have gg:=lo1 hm
 have hle:=G.le
 obtain⟨h,Dg⟩:=G.rt
 obtain⟨bl,ba⟩:=Dg _ (de hi [])
 have QI:RT (af m) h (s.2.drop (i+1)):=λx hx=>Dg x (qA hx)
 have kl:(gy m w (s,i)).2.length=s.2.length-i-1:=by
  show(gx m _ _).length=_
  rw[Hv,iS]
  show s.2.length-(i+1)=_
  omega
 have dl:(s.2.drop (i+1)).length=s.2.length-i-1:=by rw[iS];omega
 have ko:w-(gy m w (s,i)).2.length=w-s.2.length+i+1:=by omega
 have dg:∀j,(s.2.drop (i+1)).getD j []=s.2.getD (i+1+j) []:=λj=>by rw[aW,LA,<- aW]
 refine⟨by omega,?_,λp hp=>?_,λj hj=>?_,⟨h-1,cs1 hm bl QI nb⟩,λa ha=>?_,λc hc hz t ht=>?_⟩
 ·refine AU.mpr ⟨G.inc,LQ _ _,λx hx y hy=>?_⟩
  rw[dG.mp hy]
  have:=G.off x hx
  show x<w-s.2.length+i
  omega
 ·rw[ko]
  rcases bA.mp hp with z | z
  ·have:=G.off p z;omega
  ·rw[dG.mp z];exact AB _
 ·rw[ko]
  have:=hj (w-s.2.length+i) (cI _ (dG.mpr rfl))
  omega
 ·have e1:(∀k,sm (gp m) (gy m w (s,i)).2.length (λj=>gm m (a j) (cf ((gy m w (s,i)).2.getD j []) k))=0)↔∃e,e<af m/\∀k,gp m (sm (gp m) (s.2.length-i-1) λj=>gm m (a j) (cf (s.2.getD (i+1+j) []) k)) (gm m e (cf (s.2.getD i []) k))=0:=by
   have:=cb1 hm bl ba QI nb ha
   rw[dl]at this
   rw[kl]
   refine this.trans ?_
   constructor
   ·rintro⟨e,e1,e2⟩
    exact⟨e,e1,λk=>by rw[<-e2 k,gF λj _=>by rw[<-dg j]]⟩
   ·rintro⟨e,e1,e2⟩
    exact⟨e,e1,λk=>by rw[<-e2 k,gF λj _=>by rw[dg j]]⟩
  rw[e1]
  have al:∀e,e<af m->∀j,(if j<i then 0 else if j=i then e else a (j-i-1))<af m:=λe he j=>by
   split
   ·omega
   ·split
    ·exact he
    ·exact ha _
  have p9:∀(c:Nat->Nat) (e k:Nat),gp m (sm (gp m) s.2.length λj=>gm m (if j<i then 0 else if j=i then e else a (j-i-1)) (C (w-s.2.length+j) k)) (gH m C s.1 c k)=gp m (sm (gp m) (s.2.length-i-1) λj=>gm m (a j) (C (w-s.2.length+i+1+j) k)) (gp m (gH m C s.1 c k) (gm m e (C (w-s.2.length+i) k))):=λc e k=>by
   rw[p8 hm hi a (λj=>C (w-s.2.length+j) k),G5,pQ m (gm m e _)]
   congr 1
   exact gF λj _=>by rw[show w-s.2.length+(i+1+j)=w-s.2.length+i+1+j by omega]
  have ln:∀c k,gH m C (gy m w (s,i)).1 c k=gp m (gH m C s.1 c k) (gm m (c s.1.length) (C (w-s.2.length+i) k)):=λc k=>Df hm C s.1 _ c k
  constructor
  ·rintro⟨e,e1,e2⟩
   obtain⟨c,c1,c2⟩:=(G.rel _ (al e e1)).mp λk=>by
    rw[p8 hm hi a (λj=>cf (s.2.getD j []) k)]
    exact e2 k
   refine⟨λt=>if t=s.1.length then e else c t,λt=>by
    show(if t=s.1.length then e else c t)<af m
    split
    ·exact e1
    ·exact c1 t,λk=>?_⟩
   rw[ln,ko,kl,if_pos rfl,QC (c':=c) λt ht=>if_neg (eB ht),<- p9 c e k]
   exact c2 k
  ·rintro⟨c,c1,c2⟩
   refine⟨c s.1.length,c1 _,λk=>?_⟩
   have:=(G.rel _ (al _ (c1 s.1.length))).mpr ⟨c,c1,λk=>by
    rw[p9 c _ k]
    have:=c2 k
    rw[ln,ko,kl]at this
    exact this⟩ k
   rw[p8 hm hi a (λj=>cf (s.2.getD j []) k)]at this
   exact this
 ·have ln:∀k,gp m (gH m C s.1 c k) (gm m (c s.1.length) (C (w-s.2.length+i) k))=0:=λk=>by
   rw[<-Df hm C s.1 _ c k]
   exact hz k
  have e0:c s.1.length=0:=by
   refine xi λz=>?_
   have al:∀j,(if j<i then 0 else if j=i then c s.1.length else(λ_=>0) (j-i-1))<af m:=λj=>by
    split
    ·omega
    ·split
     ·exact hc _
     ·show 0<_;omega
   have z0:∀(n:Nat) (X:Nat->Nat),sm (gp m) n (λj=>gm m ((λ_=>0) j) (X j))=0:=λn X=>lu r λ_ _=>iM m _ h0
   have:=(G.rel _ al).mpr ⟨c,hc,λk=>by
    rw[p8 hm hi (λ_=>0) (λj=>C (w-s.2.length+j) k),z0,r.z (cS hm _ _),pQ]
    exact ln k⟩
   have nn:nul (s.2.getD i [])=true:=QD.mpr λk=>by
    have q:=this k
    rw[p8 hm hi (λ_=>0) (λj=>cf (s.2.getD j []) k),z0,r.z (cS hm _ _)]at q
    rcases(QB hm (hc _) (fK hm ba k)).mp q with y | y
    ·exact absurd y z
    ·exact y
   rw[nb]at nn;cases nn
  have hs:∀k,gH m C s.1 c k=0:=λk=>by
   have:=ln k
   rw[e0,iM m _ h0,zA (cq9 hm C _ c k)]at this
   exact this
  have hl:(gy m w (s,i)).1.length=s.1.length+1:=by show(s.1++[_]).length=_;rw[eM];rfl
  by_cases ct:t<s.1.length
  ·exact G.ind c hc hs t ct
  ·rw[show t=s.1.length by omega];exact e0
theorem Gs.bound(hm:m∈aJ){s:Cs}(G:Gs m C w s){i:Nat}(hi:i<s.2.length)(hC:∀j k,C j k<af m):nul (s.2.getD i [])=true↔∃c:Nat->Nat,(∀t,c t<af m)/\c s.1.length=1/\∀k,gH m C (s.1++[w-s.2.length+i]) c k=0:=by
 have r:=rg hm
 have h0:=dM m hm
 have gg:=lo1 hm
 obtain⟨h,Dg⟩:=G.rt
 obtain⟨bl,ba⟩:=Dg _ (de hi [])
 have al:∀j,(if j<i then 0 else if j=i then 1 else(λ_=>0) (j-i-1))<af m:=λj=>by
  split
  ·omega
  ·split
   ·omega
   ·show 0<_;omega
 have z0:∀(n:Nat) (X:Nat->Nat),sm (gp m) n (λj=>gm m ((λ_=>0) j) (X j))=0:=λn X=>lu r λ_ _=>iM m _ h0
 have e1:nul (s.2.getD i [])=true↔∀k,sm (gp m) s.2.length (λj=>gm m (if j<i then 0 else if j=i then 1 else(λ_=>0) (j-i-1)) (cf (s.2.getD j []) k))=0:=by
  rw[QD]
  refine forall_congr' λk=>?_
  rw[p8 hm hi (λ_=>0) (λj=>cf (s.2.getD j []) k),z0,r.z (cS hm _ _),sg (fK hm ba k)]
 rw[e1,G.rel _ al]
 constructor
 ·rintro⟨c,c1,c2⟩
  refine⟨λt=>if t=s.1.length then 1 else c t,λt=>by
   show(if t=s.1.length then 1 else c t)<af m
   split
   ·omega
   ·exact c1 t,if_pos rfl,λk=>?_⟩
  rw[Df hm,if_pos rfl,QC (c':=c) λt ht=>if_neg (eB ht),pQ,<- c2 k,p8 hm hi (λ_=>0) (λj=>C (w-s.2.length+j) k),z0,r.z (cS hm _ _)]
 ·rintro⟨c,c1,c2,c3⟩
  refine⟨c,c1,λk=>?_⟩
  have:=c3 k
  rw[Df hm,c2]at this
  rw[p8 hm hi (λ_=>0) (λj=>C (w-s.2.length+j) k),z0,r.z (cS hm _ _),pQ]
  exact this
end
end L3
namespace L3
open PySem L2 Mf
noncomputable def jR:List Nat->List Nat->Prop
 | a::as,b::bs=>a<b\/(a=b/\jR as bs)
 | _,_=>False
theorem QJ:∀l:List Nat,¬ jR l l
 | [],h=>h
 | a::l,h=>h.elim (λz=>gA _ z) λz=>QJ l z.2
theorem QK:∀a b:List Nat,jR a b->¬ jR b a
 | [],_,h,_=>h
 | _::_,[],h,_=>h
 | a::as,b::bs,h,h'=>by
  rcases h with h | ⟨rfl,h⟩
  ·rcases h' with h' | ⟨e,_⟩
   ·omega
   ·omega
  ·rcases h' with h' | ⟨_,h'⟩
   ·omega
   ·exact QK as bs h h'
theorem QL:∀(a b:List Nat) (x y:List Nat),a.length=b.length->jR a b->jR (a++x) (b++y)
 | [],_,_,_,_,h=>h.elim
 | _::_,[],_,_,_,h=>h.elim
 | a::as,b::bs,x,y,hl,h=>by
  rcases h with h | ⟨e,h⟩
  ·exact .inl h
  ·exact .inr ⟨e,QL as bs x y (by simpa using hl) h⟩
theorem QM:∀(a:List Nat) (x y:Nat),x<y->jR (a++[x]) (a++[y])
 | [],_,_,h=>.inl h
 | _::as,x,y,h=>.inr ⟨rfl,QM as x y h⟩
noncomputable def jx(w:Nat)(S:List Nat):Prop:=S.Pairwise (· < ·)/\∀x∈S,x<w
theorem QN:∀(S:List Nat) (lo w:Nat),S.Pairwise (· < ·)->(∀x∈S,lo<=x/\x<w)->S.length<=w-lo
 | [],_,_,_,_=>jX _
 | a::S,lo,w,hp,h=>by
  rw[EK]at hp
  have ih:=QN S (a+1) w hp.2 λx hx=>⟨hp.1 x hx,(h x (gB _ hx)).2⟩
  have ha:=h a (jB ..)
  rw[ix]
  omega
theorem jx.len{S:List Nat}{w:Nat}(h:jx w S):S.length<=w:=QN S 0 w h.1 λx hx=>⟨jX _,h.2 x hx⟩
theorem jx.take{S:List Nat}{w:Nat}(h:jx w S)(k:Nat):jx w (S.take k):=⟨h.1.sublist (List.take_sublist k S),λx hx=>h.2 x (xk hx)⟩
noncomputable def jS(w:Nat)(z:Cs × Nat):List Nat:=z.1.1++[w-z.1.2.length+z.2]
structure Lv(m:Bool × Nat)(C:Nat->Nat->Nat)(w k:Nat)(l:List Cs):Prop where
 gs:∀s∈l,Gs m C w s/\s.1.length=k
 all:∀S,jx w S->S.length=k->∃s∈l,s.1=S
 ord:(l.map (·.1)).Pairwise jR
theorem v7{l:List Cs}{z:Cs × Nat}:z∈dj l↔z.1∈l/\z.2<z.1.2.length:=by
 unfold dj
 rw[List.mem_flatMap]
 constructor
 ·rintro⟨s,hs,hz⟩
  obtain⟨i,hi,rfl⟩:=bI.mp hz
  exact⟨hs,eJ.mp hi⟩
 ·rintro⟨h1,h2⟩
  exact⟨z.1,h1,bI.mpr ⟨z.2,eJ.mpr h2,rfl⟩⟩
section
variable{m:Bool × Nat}{C:Nat->Nat->Nat}{w:Nat}
theorem Hw{k:Nat}:∀{l:List Cs},(∀s∈l,s.1.length=k)->(l.map (·.1)).Pairwise jR->((dj l).map (jS w)).Pairwise jR
 | [],_,_=>Li
 | s::l,hl,ho=>by
  rw[cN,EK]at ho
  show(((fi s)++dj l).map (jS w)).Pairwise jR
  rw[dy,AU]
  refine⟨?_,Hw (λs hs=>hl s (gB _ hs)) ho.2,λa ha b hb=>?_⟩
  ·unfold fi
   rw[b8]
   refine List.pairwise_map.mpr (VU.imp λ{a b} hab=>?_)
   exact QM s.1 _ _ (show w-s.2.length+a<w-s.2.length+b by omega)
  ·obtain⟨z,hz,rfl⟩:=bI.mp ha
   obtain⟨i,_,rfl⟩:=bI.mp hz
   obtain⟨y,hy,rfl⟩:=bI.mp hb
   obtain⟨h1,_⟩:=v7.mp hy
   exact QL _ _ _ _ (by rw[hl s (jB ..),hl _ (gB _ h1)]) (ho.1 _ (bI.mpr ⟨_,h1,rfl⟩))
theorem Lv.meets(L:Lv m C w k l){S:List Nat}(hS:jx w S)(hk:S.length=k+1):∃z∈dj l,jS w z=S:=by
 have e:S=S.take k++[S.getD k 0]:=by
  have h1:S.drop k=[S.getD k 0]:=by
   rw[LR (by omega),List.drop_of_length_le (by omega),aW,bc (by omega)];rfl
  conv=>lhs;rw[<-AV k S,h1]
 obtain⟨s,hs,es⟩:=L.all _ (hS.take k) (by rw[eC];omega)
 obtain⟨G,_⟩:=L.gs s hs
 have hj:∀p∈s.1,p<S.getD k 0:=λp hp=>by
  rw[es]at hp
  have:=hS.1
  rw[e,AU]at this
  exact this.2.2 p hp _ (dG.mpr rfl)
 have h1:=G.nx _ hj
 have h2:=hS.2 (S.getD k 0) (de (by omega) 0)
 have h3:=G.le
 refine⟨(s,S.getD k 0-(w-s.2.length)),v7.mpr ⟨hs,?_⟩,?_⟩
 ·show S.getD k 0-(w-s.2.length)<s.2.length
  omega
 ·show s.1++[w-s.2.length+(S.getD k 0-(w-s.2.length))]=S
  rw[show w-s.2.length+(S.getD k 0-(w-s.2.length))=S.getD k 0 by omega,es]
  exact e.symm
theorem Lv.next(hm:m∈aJ)(hC:∀j k,C j k<af m)(L:Lv m C w k l)(hn:∀z∈dj l,oi z=false):Lv m C w (k+1) ((dj l).map (gy m w)) where
 gs:=λs hs=>by
  obtain⟨z,hz,rfl⟩:=bI.mp hs
  obtain⟨h1,h2⟩:=v7.mp hz
  obtain⟨G,hl⟩:=L.gs _ h1
  refine⟨G.next hm h2 (hn z hz) hC,?_⟩
  show(z.1.1++[_]).length=_
  rw[eM,hl];rfl
 all:=λS hS hk=>by
  obtain⟨z,hz,e⟩:=L.meets hS hk
  exact⟨gy m w z,bI.mpr ⟨z,hz,rfl⟩,e⟩
 ord:=by
  rw[b8]
  exact Hw (λs hs=>(L.gs s hs).2) L.ord
theorem QO(hm:m∈aJ)(hC:∀j k,C j k<af m):∀(f k:Nat) (l:List Cs),Lv m C w k l->w+1<=f+k ->
  match su m w f l with
  | none=>∀S,jx w S->k<=S.length->zM m C S
  | some F=>jx w F/\k<F.length/\(∃c:Nat->Nat,(∀t,c t<af m)/\c (F.length-1)=1/\∀j,gH m C F c j=0)/\∀S,jx w S->k<=S.length->S.length<F.length\/(S.length=F.length/\jR S F)->zM m C S
 | 0,k,l,L,hf=>λS hS hk=>absurd hS.len (by omega)
 | f+1,k,l,L,hf=>by
  have here:∀S,jx w S->S.length=k->zM m C S:=λS hS hk=>by
   obtain⟨s,hs,rfl⟩:=L.all S hS hk
   exact(L.gs s hs).1.ind
  rw[su]
  by_cases l0:l=[]
  ·rw[if_pos l0]
   subst l0
   intro S hS hk
   obtain⟨s,hs,_⟩:=L.all (S.take k) (hS.take k) (by rw[eC];omega)
   cases hs
  ·rw[if_neg l0]
   cases e:(dj l).find? oi with
   | some z =>
    obtain⟨hz,as,bs,eL,qa⟩:=VV.mp e
    obtain⟨h1,h2⟩:=v7.mp (Lw e)
    obtain⟨G,hl⟩:=L.gs _ h1
    have hle:=G.le
    have fl:(jS w z).length=k+1:=by show(z.1.1++[_]).length=_;rw[eM,hl];rfl
    refine⟨⟨?_,λx hx=>?_⟩,by show k<(jS w z).length;omega,?_,λS hS hk hc=>?_⟩
    ·refine AU.mpr ⟨G.inc,LQ _ _,λx hx y hy=>?_⟩
     rw[dG.mp hy]
     have:=G.off x hx
     omega
    ·rcases bA.mp hx with q | q
     ·have:=G.off x q;omega
     ·rw[dG.mp q];omega
    ·obtain⟨c,c1,c2,c3⟩:=(G.bound hm h2 hC).mp hz
     refine⟨c,c1,?_,c3⟩
     show c ((jS w z).length-1)=1
     rw[fl,Nat.add_sub_cancel,<- hl]
     exact c2
    ·by_cases ck:S.length=k
     ·exact here S hS ck
     have cl:S.length=k+1/\jR S (jS w z):=by
      rcases hc with q | ⟨q1,q2⟩
      ·exact absurd (show S.length<(jS w z).length from q) (by omega)
      ·exact⟨(show S.length=(jS w z).length from q1).trans fl,q2⟩
     obtain⟨y,hy,ey⟩:=L.meets hS cl.1
     obtain⟨y1,y2⟩:=v7.mp hy
     obtain⟨Gy,_⟩:=L.gs _ y1
     cases ny:oi y with
     | false =>
      have:=(Gy.next hm y2 ny hC).ind
      rwa [show(gy m w (y.1,y.2)).1=S from ey]at this
     | true =>
      exfalso
      have od:=Hw (w:=w) (λs hs=>(L.gs s hs).2) L.ord
      rw[eL]at hy od
      rw[dy,cN,AU]at od
      have od2:=(EK.mp od.2.1).1
      rcases bA.mp hy with q | q
      ·have:=qa y q
       rw[ny]at this;simp at this
      ·rcases cq.mp q with q | q
       ·rw[q]at ey
        rw[<-ey]at cl
        exact QJ _ cl.2
       ·have:=od2 _ (bI.mpr ⟨y,q,rfl⟩)
        rw[ey]at this
        exact QK _ _ this cl.2
   | none =>
    have hn:∀z∈dj l,oi z=false:=λz hz=>by
     have:=LL.mp e z hz
     simpa using this
    have ih:=QO hm hC f (k+1) _ (L.next hm hC hn) (by omega)
    dsimp only
    split
    ·rename_i e2
     rw[e2]at ih
     intro S hS hk
     by_cases ck:S.length=k
     ·exact here S hS ck
     ·exact ih S hS (by omega)
    ·rename_i F e2
     rw[e2]at ih
     obtain⟨i1,i2,i3,i4⟩:=ih
     refine⟨i1,by omega,i3,λS hS hk hc=>?_⟩
     by_cases ck:S.length=k
     ·exact here S hS ck
     ·exact i4 S hS (by omega) hc
end
end L3
namespace L3
open PySem L2 Mf
noncomputable def qe(T:List (List Nat))(j k:Nat):Nat:=cf (T.getD k []) j
theorem QP{m:Bool × Nat}(hm:m∈aJ){w:Nat}{T:List (List Nat)}(hT:RT (af m) w T)(j k:Nat):qe T j k<af m:=by
 unfold qe
 by_cases hk:k<T.length
 ·exact fK hm (hT _ (de hk [])).2 j
 ·have e:T.getD k []=[]:=by rw[aW,iy (by omega)];rfl
  rw[e]
  have:=lo1 hm
  show 0<_
  omega
theorem Lv.start{m:Bool × Nat}(hm:m∈aJ){T:List (List Nat)}(hw:0<ak T)(hT:RT (af m) (ak T) T):Lv m (qe T) (ak T) 0 [([],fh T)]:=by
 have r:=rg hm
 obtain⟨t1,t2,t3⟩:=Hl (Nat.lt_trans Nat.zero_lt_one (lo1 hm)) hw hT
 refine⟨λs hs=>?_,λS _ h=>⟨_,dG.mpr rfl,(List.length_eq_zero_iff.mp h).symm⟩,LQ _ _⟩
 rw[dG.mp hs]
 refine⟨⟨w5 t1,Li,λp hp=>absurd hp (jC),λj _=>by show ak T-(fh T).length<=j;omega,⟨_,t3⟩,λa ha=>?_,λc _ _ t ht=>absurd ht (by show ¬ t<0;omega)⟩,rfl⟩
 have e:∀k,sm (gp m) (fh T).length (λi=>gm m (a i) (cf ((fh T).getD i []) k))=sm (gp m) (fh T).length λi=>gm m (a i) (qe T (ak T-(fh T).length+i) k):=λk=>gF λi hi=>by
  rw[Qq (by omega),cq4,show ak T-(fh T).length+i=i by omega];rfl
 have z:∀c k,gH m (qe T) [] c k=0:=λ_ _=>rfl
 constructor
 ·intro h
  refine⟨λ_=>0,λ_=>by have:=lo1 hm;show 0<_;omega,λk=>?_⟩
  rw[z,zA (pW r λ_ _=>cS hm _ _),<- e k]
  exact h k
 ·rintro⟨c,_,h⟩ k
  have:=h k
  rw[z,zA (pW r λ_ _=>cS hm _ _),<- e k]at this
  exact this
noncomputable def oj(m:Bool × Nat)(T:List (List Nat)):Option (List Nat):=su m (ak T) (ak T+1) [([],fh T)]
section
variable{m:Bool × Nat}{C:Nat->Nat->Nat}
end
theorem b18{o:Bool}{G:List (List Nat)}{i:Nat}{d:D}(hd:(au o G)[i]?=some d):∃hi:i<G.length,d=.lst o (aw G[i]):=by
 unfold au at hd
 rw[cU]at hd
 by_cases hi:i<G.length
 ·rw[bc hi]at hd
  exact⟨hi,(dq hd).symm⟩
 ·rw[iy (by omega)]at hd;cases hd
end L3
namespace L3
open PySem L2 PySem.Spec PyProof.Rows
section
variable{B:Bs}{F H:Hp}{σ:L2.St}{δ:Dl}{ts:List (D × V)}
end
section
variable{X:Cx}{a:Expr}{ta:aI}{pos p2:Pos}{tk:Nat}
end
end L3
namespace L3
open PySem L2 PySem.Spec PyProof.Rows
section
variable{X:Cx}{a b:Expr}{ta tb:aI}{elts:List Expr}{x1:Nat}{qN p pos:Pos}
end
end L3
namespace L3
open PySem L2 Mf
section
variable{m:Bool × Nat}
theorem ch9(hm:m∈aJ){T:List (List Nat)}(hw:0<ak T)(hT:RT (af m) (ak T) T)(h:oj m T=none):∀S,jx (ak T) S->zM m (qe T) S:=by
 have:=QO hm (QP hm hT) (ak T+1) 0 _ (Lv.start hm hw hT) (by omega)
 unfold oj at h
 rw[h]at this
 exact λS hS=>this S hS (jX _)
theorem bK6{n W:Nat}(h:n<=W):jx W (bh n):=⟨VU,λx hx=>by have:=eJ.mp hx;omega⟩
end
end L3
namespace L3
open PySem L2 PySem.Spec PyProof.Rows
section
variable{B:Bs}{F H:Hp}{σ:L2.St}{δ:Dl}{ts ps:List (D × V)}{p:Addr}
open Classical in
theorem ai.cX1(c:ai B F H σ δ (ps++ts)):∃B',ai B' F H σ δ ps/\ae B.H0 B'.H0/\∀F' H' ax ag qs,ai B' F' H' ax ag qs->ai B F' H' ax ag (qs++ts):=by
 obtain⟨A,C,r,s,nd,fr⟩:=c.own
 rw[dy,dy]at r
 obtain⟨v1,v2,A1,A2,e,rfl,h1,h2⟩:=R.split r
 have l1:(ps.map (·.2)).length=v1.length:=by rw[<-h1.length];simp
 obtain⟨rfl,rfl⟩:=oH e l1
 have ij:=nd
 have eU:=fr
 rw[cJ]at ij eU
 obtain⟨n1,n2,n3⟩:=dE.mp ij
 obtain⟨n4,n5,n6⟩:=dE.mp n2
 have cX2:∀a,a∈A1++C->B.H0 a=none:=λa ha=>eU a (by
  rcases bA.mp ha with z | z
  ·exact df _ z
  ·exact cI _ (cI _ z))
 obtain⟨om,hH,hN⟩:∃om:Hp,(∀a,a ∉ A1++C->om a=H a)/\∀a,a∈A1++C->om a=none:=⟨λa=>if a∈A1++C then none else H a,λa ha=>if_neg ha,λa ha=>if_pos ha⟩
 have s0:ae B.H0 om:=by
  have ni:∀a o,B.H0 a=some o->a ∉ A1++C:=λa o z w=>by rw[cX2 a w]at z;cases z
  exact⟨λa o z n=>(hH a (ni a o z)).trans (c.b1.get a o z n),λa ps z=>by
   obtain⟨m,em⟩:=c.b1.tb a ps z
   exact⟨m,(hH a (ni a _ z)).trans em⟩⟩
 have d2:∀a∈A2,a ∉ A1++C:=λa ha z=>by
  rcases bA.mp z with z | z
  ·exact n3 a z (df _ ha)
  ·exact n6 a ha z
 refine⟨⟨om,F⟩,⟨c.ext,?_,ae.refl F,λa ws z=>.inl z,A1,C,h1,s,?_,λa ha=>hN a ha⟩,s0,λF' H' ax ag qs c'=>?_⟩
 ·exact .of λa o z=>by
   by_cases w:a∈A1++C
   ·dsimp only at z;rw[hN a w]at z;cases z
   ·dsimp only at z;rwa [hH a w]at z
 ·exact dE.mpr ⟨n1,n5,λa ha hb=>n3 a ha (cI _ hb)⟩
 ·obtain⟨A',C',r',s',Ce,Hx⟩:=c'.own
  have but:fH (A1++C) H H':=⟨λa o z w n=>c'.b1.get a o ((hH a w).trans z) n⟩
  have hl:gi (A1++C) H:=λa ha=>by
   rcases bA.mp ha with z | z
   ·exact(h1.lists a z).1
   ·exact(s.lists a z).1
  have hn:∀a∈A2,F' a=none:=λa ha=>by
   obtain⟨⟨ws,e1⟩,e2⟩:=h2.lists a ha
   have e3:om a=some (.lst ws):=(hH a (d2 a ha)).trans e1
   have e4:H' a=some (.lst ws):=c'.b1 a _ e3
   cases e5:F' a with
   | none=>rfl
   | some o =>
    by_cases nt:gh o=true
    ·have:=c'.ext.get a o e5 nt
     rw[e4]at this;cases this
     rcases c'.b3 a ws e5 with z | z
     ·have z':F a=some (.lst ws):=z
      rw[e2]at z';cases z'
     ·have z':om a=none:=z
      rw[e3]at z';cases z'
    ·obtain⟨ps,rfl⟩:=oU (AK.mpr nt)
     obtain⟨m,em⟩:=c'.ext.tb a ps e5
     rw[e4]at em;cases em
  have r2:=h2.keep c'.b2 but hl hn d2
  have back:∀a,om a=none->B.H0 a=none:=λa z=>by
   cases e5:B.H0 a with
   | none=>rfl
   | some o =>
    by_cases nt:gh o=true
    ·have:=s0.get a o e5 nt
     rw[z]at this;cases this
    ·obtain⟨ps,rfl⟩:=oU (AK.mpr nt)
     obtain⟨m,em⟩:=s0.tb a ps e5
     rw[z]at em;cases em
  refine⟨c'.ext,s0.trans c'.b1,c.b2.trans c'.b2,λa ws z=>?_,A'++A2,C',?_,s',?_,?_⟩
  ·rcases c'.b3 a ws z with y | y
   ·exact c.b3 a ws y
   ·exact .inr (back a y)
  ·rw[dy,dy]
   exact r'.append r2
  ·obtain⟨m1,m2,m3⟩:=dE.mp Ce
   have m4:∀a∈A2,a ∉ A'++C':=λa ha z=>by
    have:=Hx a z
    obtain⟨⟨ws,e1⟩,e2⟩:=h2.lists a ha
    have z':om a=none:=this
    rw[(hH a (d2 a ha)).trans e1]at z';cases z'
   rw[cJ]
   refine dE.mpr ⟨m1,dE.mpr ⟨n4,m2,λa ha hb=>m4 a ha (cI _ hb)⟩,λa ha hb=>?_⟩
   rcases bA.mp hb with z | z
   ·exact m4 a z (df _ ha)
   ·exact m3 a ha z
  ·intro a ha
   rw[cJ]at ha
   rcases bA.mp ha with z | z
   ·exact back a (Hx a (df _ z))
   ·rcases bA.mp z with z | z
    ·exact eU a (cI _ (df _ z))
    ·exact back a (Hx a (cI _ z))
end
section
variable{X:Cx}{iter tg:Expr}{te:aI}{g:gO}{t:bR}{pos:Pos}
end
section
variable{X:Cx}{e:Expr}{pos p pr apos bN rO tp:Pos}{t:aI}{x y:Str}{i j:Nat}{n0:Int}
end
end L3
namespace L2
open PySem PySem.Spec PyProof.Rows
section
variable{X:Cx}
end
end L2
namespace L3
open PySem L2 PySem.Spec PyProof.Rows
section
variable{X:Cx}{o e:Expr}{t tb:aI}{apos bN:Pos}
end
section
variable{X:Cx}{i:Nat}{x:Str}{p pos apos bN cK7 kn:Pos}{a b:List Stmt}{t u:bR}{k:Int}{j}
end
end L3
namespace L3
open PySem L2 Mf
section
variable{N:Nat}{p q:Nat->Nat->Nat}
variable{ng:Nat->Nat}{c:Nat}
end
section
variable{m:Bool × Nat}
end
end L3
namespace L2
open PySem PySem.Spec PyProof.Rows
section
variable{prog:Program}{w:World}{A:Around}{E:Value->Shared->Prop}{s:Shared}
end
section
variable{X:Cx}{e:Expr}{ta:TA}{p p2 pos kn:Pos}
end
end L2
namespace L3
open PySem L2 PySem.Spec PyProof.Rows
section
variable{X:Cx}{e:Expr}{tr:bX}{p p2 pos kn:Pos}
end
end L3
namespace L3
open PySem L2 Mf
section
variable{m:Bool × Nat}
end
end L3
namespace L3
open PySem L2 PySem.Spec PyProof.Rows
section
variable{X:Cx}{n:Nat}{f C:Addr}{fd:FuncData}{ps:List Str}{x:Str}{p pos:Pos}{e:Expr}{es:List Expr}{t:bX}
theorem bM5{pins:List (Addr × Obj)}{σ:L2.St}{H:Hp}{s:Shared}{Q:VK}{E:XK}{us:List Value}{vs:List V}{sp:L2.Sp}(M:L2.Mk X.K C f)(F:aM X.prog X.w X.K X.mg X.base (j8 X.prog X.w) n f fd ps sp)(hr:bL (n+1) X.A)(hb:Binds X.K fd ps [])(hex:X.ex=[])
  (I:Inv X pins σ H s) (r:Vals vs us) (h:∀x dx,H x=none->H dx=none->dx≠x->sp (.ref x::vs) (upd (upd H dx (.own x)) x (.ins C dx [])) (λv H2=>v=.aq/\Q (.ref x) H2) E)
  (hx:∀a T cls H' s',Inv X pins σ H' s'->ie s'.heap a T cls->Apart X pins H' a->Apart X pins H' T->E cls none H'->X.xe (.ref a) s'):wpAny (model X.prog X.w) X.A (call (.ref C) us) (EP X pins σ Q) X.xe s:=by
 have hq:=h (s.heap.objs.size+1) s.heap.objs.size (I.aE.fresh (Nat.le_succ _)) (I.aE.fresh (bD _)) (eB (AB _))
 have I2:=Inv.made (C:=C) I
 have r2:Vals (V.ref (s.heap.objs.size+1)::vs) (cA (s.heap.objs.size+1)::us):=.cons rfl r
 have hl:((cA (s.heap.objs.size+1)::us)++[]).length=ps.length:=by
  rw[fj,<- r2.length]
  exact F.len _ _ _ _ hq
 have pJ:=hb _ (cA (s.heap.objs.size+1)::us) I2.cB hl
 rw[fj]at pJ
 refine wpAny_call (Mr (f:=f) I.cB M.makes M.init (beq_iff_eq.mp M.fn) (codeAny_mono (F.run _ X.stack _ _ ⟨cA (s.heap.objs.size+1)::us,[]⟩ (cA (s.heap.objs.size+1)::us) _ _ E (hr.make C us [])
  (I2.tP.make C us []) pJ r2 hq) λr s' iE=>?_))
 cases r with
 | error e =>
  obtain⟨a,T,cls,H',rfl,os,bare,un,aE,tr,a0,a1,t0,t1,hE⟩:=iE
  exact hx a T cls H' s' (I2.L9 (ch:=[]) os un aE bare λb z=>absurd z (by simp)) tr (I2.apart hex a0 a1) (I2.apart hex t0 t1) hE
 | ok fl =>
  cases fl with
  | ret u =>
   obtain⟨v,H',I3,rv,ev,q3⟩:=I2.after iE
   subst ev
   exact⟨rv,⟨V.ref (s.heap.objs.size+1),H',I3,rfl,q3⟩⟩
  | next=>exact eW iE
  | brk=>exact eW iE
  | cont=>exact eW iE
noncomputable def v9(C:Addr)(sp:kZ)(t:bX):Cg:=λδ _ Z=>t δ λds ag=>sp (.obj C [] []::ds.map D.sh) (λ_=>False) λcls=>Z cls ag
theorem cb8{sp:kZ}(M:L2.Mk X.K C f)(F:aM X.prog X.w X.K X.mg X.base (j8 X.prog X.w) n f fd ps (pB sp))(hr:bL (n+1) X.A)(hg:Gl X x)(hm:X.mg x=some (.ref C))(hb:Binds X.K fd ps [])(hex:X.ex=[])
  (ha:PA X (e::es) (lA t)) (cF:(x==("__debug__":Str))=false:=by decide) (he:starEach (e::es) X.env=(false,eval e X.env)::starEach es X.env:=by rfl) (bj:(backTo pos (starEach es X.env)).any (·.1)=false:=by rfl) :
  PX X (.Call (.Name x p) (e::es) [] pos) (lX (v9 C sp t)):=by
 intro pins s σ H Q Z I hz zz
 obtain⟨B,F0,δ,Qd,Zd,c,q,k,kx⟩:=zz
 refine wpAny_Call_Name_kw (qH I hg hm ?_ cF)
 refine PySem.W.callWith_K (h₀:=X.base) I.ok.mod.lQ M.kp (aO (ha pos pins s σ H (λvs H1=>∀x dx,H1 x=none->H1 dx=none->dx≠x->pB sp (.ref x::vs) (upd (upd H1 dx (.own x)) x (.ins C dx [])) (λv H2=>v=.aq/\Q (.ref x) H2) λcls _ H'=>Z cls H') I ⟨B,F0,δ,[],_,c,q,λds aj vs F1 H1 q1 f1 h1 c1 s1=>?_⟩) λus s1 ⟨vs,H1,I1,r,q⟩=>⟨I1.cB,?_⟩) he bj
 ·intro x dx cO dJ jI
  have sm:ae H1 (upd (upd H1 dx (.own x)) x (.ins C dx [])):=.of λb o e=>by rw[aL (dH e cO),aL (dH e dJ)];exact e
  refine⟨_,.obj C [] []::ds.map D.sh,λ_=>False,_,ae.refl _,R.obj (ns:=[]) (ws:=[]) (xs:=[]) (by rw[br];rfl) rfl .nil ((s1.frozen c1.ext).shared sm sm),q1,λd v F' H' A z=>z.elim,λcls H' hC hs=>kx cls aj F1 H' hC f1 (h1.trans (sm.trans hs)) (c1.grow (sm.trans hs))⟩
 ·exact bM5 M F hr hb hex I1 r q λa T cls H' s' I' tr pa pT hE=>hz a T cls H' s' I' tr pa pT hE
end
end L3
namespace L3
open PySem L2 Mf
section
variable{m:Bool × Nat}
section
variable{b e L o:Nat}{y:List (Option Nat)}{w c:List Nat}{bb:Nat->Nat}
end
end
end L3
namespace L3
open PySem L2 Mf
section
variable{m:Bool × Nat}
end
end L3
namespace L3
open PySem L2 Mf
section
variable{m:Bool × Nat}
end
end L3
namespace L3
open PySem L2 Mf
section
variable{m:Bool × Nat}
end
end L3
namespace L3
open PySem L2 Mf
section
variable{m:Bool × Nat}
end
end L3
namespace L3
open PySem L2 PySem.Spec PyProof.Rows
section
variable{X:Cx}{e:Expr}{t:aI}
noncomputable def wa(t:aI):aI:=λδ Q=>t δ λd ag=>Q d.sh ag
theorem ct9(h:PE X e (lE t)):PE X e (lB (wa t)):=da h λσ H Q zq=>by
 obtain⟨B,F,δ,ts,Qd,c,q,k⟩:=zq
 exact⟨B,F,δ,ts,_,c,q,λd ag v F' H' hd sf sh c'=>by
 obtain⟨F2,f2,c2⟩:=c'.FQ
 exact k d.sh ag v F2 H' hd (sf.trans f2) sh c2.pop c2.top⟩
end
end L3
namespace L3
open PySem L2 Mf
section
variable{m:Bool × Nat}
theorem QQ(hm:m∈aJ){T:List (List Nat)}(hT:RT (af m) (ak T) T):RT (af m) (ak T) (mC m (bO m T) (ak T))/\(mC m (bO m T) (ak T)).length<=ak T:=by
 obtain⟨⟨Hd,I⟩,iR,_,_⟩:=km hm hT
 refine⟨λr hr=>?_,?_⟩
 ·obtain⟨f,hf,rfl⟩:=bI.mp hr
  obtain⟨k1,k2,_⟩:=sr hm iR I hf
  exact⟨k1,k2⟩
 ·unfold mC cu
  rw[aS]
  exact eK (VW ..) (by rw[fk];exact bD _)
theorem QR(hm:m∈aJ){T:List (List Nat)}(hT:RT (af m) (ak T) T):∀r∈bO m T,∃x∈r,x≠0:=λr aU=>by
 obtain⟨⟨Hd,I⟩,iR,_,_⟩:=km hm hT
 obtain⟨j,hj,rfl⟩:=lK aU
 have:=(I.Hk hm iR hj).2
 rw[C8 hj]at this
 exact this
end
end L3
namespace L3
open PySem L2 Mf
section
variable{m:Bool × Nat}
end
end L3
namespace L2
open PySem PySem.Spec PyProof.Rows
section
variable{X:Cx}{CX:dR}{k:Nat}{f C:Addr}{fd:FuncData}{ps:List Str}{sp:Sp}{E:XK}{x m:Str}{p pos apos:Pos}{e:Expr}{es:List Expr}{t:TA}
noncomputable def tCM(sp:Sp)(E:XK)(t:TA):TE:=λσ H Q=>t σ H λvs H1=>sp vs H1 Q E
theorem cz2{pl:Sem Bool}(M:vI X.K C m f)(F:aM X.prog X.w X.K X.mg X.base CX k f fd ps sp)(hr:bL k X.A)(hb:Binds X.K fd ps [])(hx:i8 CX X E)(hg:Gl X x)(hm:X.mg x=some (.ref C))(ha:PA X (e::es) t)
  (cF:(x==("__debug__":Str))=false:=by decide) (bZ:starEach (e::es) X.env=(false,eval e X.env)::starEach es X.env:=by rfl) (bj:(backTo pos (starEach es X.env)).any (·.1)=false:=by rfl)
  (ht:eval (.Call (.Attribute (.Name x p) m apos) (e::es) [] pos) X.env=(do
   let ov<-eval (.Name x p) X.env
   standAt apos.atName
   let (f,first)<-holding [ov] (getMethod ov m pl)
   callWith pos f first (backTo pos (starEach (e::es) X.env)) (backToKw pos (keywordEach [] X.env))):=by rfl) :
  PE X (.Call (.Attribute (.Name x p) m apos) (e::es) [] pos) (tCM sp E t):=by
 intro pins s σ H Q I h
 exact Pb (pl:=pl) I M hg hm ha h (λus s1 vs H1 I1 r q=>tQ (eY:=[]) F hr hb .nil hx I1 r (by rw[fj];exact q)) cF bZ bj ht
end
end L2
namespace L3
open PySem L2 PySem.Spec PyProof.Rows
end L3
namespace L3
open PySem L2 PySem.Spec PyProof.Rows
theorem ai.cX8{B:Bs}{F H H':Hp}{σ:L2.St}{δ:Dl}{ts:List (D × V)}{C dx x:Addr}{ns:List Str}{xs:List D}{ws:List V}{A:List Addr}(c:ai B F H σ δ ts)(hs:ae H H')(hx:H' x=some (.ins C dx (ns.zip ws)))(hl:ns.length=ws.length)
  (r1:R F H' xs ws A) (fr:∀a∈A,H a=none):ae F (L3.bC F H' A)/\ai B (L3.bC F H' A) H' σ δ ((.obj C ns (xs.map D.sh),.ref x)::ts):=by
 have c1:=c.grow hs
 have r2:=r1.bC c1.ext A (λ_ h=>h)
 have fs:ae F (L3.bC F H' A):=kb c1.ext
 obtain⟨A',C',r',s',nd,eU⟩:=c.own
 have out:∀a,(∃ws,H a=some (.lst ws))/\F a=none->L3.bC F H' A a=none:=λa zz=>by
  obtain⟨⟨ws,h⟩,hf⟩:=zz
  rw[ua (λz=>by rw[fr a z]at h;cases h)];exact hf
 have g1:=r'.grow fs hs λa ha=>out a (r'.lists a ha)
 have g2:=s'.keep fs (fH.same hs) gi.nil (λa ha=>out a (s'.lists a ha)) (by simp)
 refine⟨fs,yb c1.ext,c1.b1,c1.b2.trans fs,λa ws h=>?_,A',C',?_,g2,nd,eU⟩
 ·by_cases z:a∈A
  ·exact .inr (c.b1.free (fr a z))
  ·rw[ua z]at h;exact c.b3 a ws h
 ·exact R.obj hx hl r2 g1
section
variable{X:Cx}{CX:dR}{n:Nat}{f C:Addr}{fd:FuncData}{ps:List Str}{ju:List D->List Str->List D->Prop}{E:XK}{x:Str}{p pos:Pos}{e:Expr}{es:List Expr}{t:bX}{tl:List Addr}
end
section
variable{X:Cx}{e:Expr}{te:aI}{x:Str}{p pos:Pos}{i:Nat}
end
theorem bS.of0{x:Addr}{H0 H H':Hp}(h0:H0 x=none)(s:ae H0 H)(sx:bS x H H'):ae H0 H' :=
 ⟨λb o e n=>sx.get b o (λz=>by rw[z,h0]at e;cases e) (s.get b o e n) n,λb ps e=>by
  obtain⟨m1,e1⟩:=s.tb b ps e
  obtain⟨m2,e2⟩:=sx.tb b _ e1
  exact⟨m1++m2,by rw[e2,sQ]⟩⟩
theorem Dh{F H:Hp}{v:V}{A:List Addr}{xs:List D}(r:R F H [.lst true xs] [v] A):∃p,v=.ref p:=by
 cases r
 exact⟨_,rfl⟩
noncomputable abbrev sA:List Str:=["field","length","check_rows","word_rows","message_places","size"]
structure cX9(K:PySem.W.Frag)(C:Addr):Prop where
 cls:cY K C
 field:bt K C "field"
 length:bt K C "length"
 cY0:bt K C "check_rows"
 cY1:bt K C "word_rows"
 QS:bt K C "message_places"
 size:bt K C "size"
end L3
namespace L3
open PySem L2 Mf
section
variable{m:Bool × Nat}
end
end L3
namespace L2
open PySem PySem.Spec PyProof.Rows
section
variable{P:Program}{w:World}{K:PySem.W.Frag}{mg:Str->Option Value}{base:Heap}
end
end L2
namespace L3
open PySem L2 Mf
inductive Kd
 | mF (b:Nat) | rep | rts (e f:Nat)
structure zN(pre:List (Str × V)):Prop where
 put:∀(n:Str) (v:V) (l:List (Str × V)),n∈sA->bK n v (pre++l)=pre++bK n v l
 look:∀(n:Str) (l:List (Str × V)),n∈sA->(pre++l).lookup n=l.lookup n
 len:pre.length<=2
theorem zN.nil:zN []:=⟨λ_ _ _ _=>rfl,λ_ _ _=>rfl,by decide⟩
theorem zN.lt{pre l:List (Str × V)}(h:zN pre)(hl:l.length<=6):(pre++l).length<1000:=by
 have:=h.len
 rw[eM];omega
section
variable{m:Bool × Nat}{G:List (List Nat)}
noncomputable def wb(m:Bool × Nat)(G:List (List Nat)):List (List Nat):=mC m (bO m G) (ak G)
noncomputable def eA(m:Bool × Nat)(G:List (List Nat)):List Nat:=cu (bO m G) (ak G)
noncomputable def qf(cb cp:Addr)(o:Bool)(m:Bool × Nat)(G:List (List Nat)):List D:=[fD cb cp m,.int (ak G:Nat),.lst o (au o G),.lst o (au o (wb m G)),.lst o (aw (eA m G)),.int ((eA m G).length:Nat)]
noncomputable def FC(cb cp cc cr cs:Addr)(m:Bool × Nat)(G:List (List Nat)):Kd->D
 | .mF b=>.obj cc ["field","length","check_rows","word_rows","message_places","size","bound"] (qf cb cp false m G++[.int (b:Nat)])
 | .rep=>.obj cr sA (qf cb cp false m G)
 | .rts e f=>.obj cs ["extra","first","field","length","check_rows","word_rows","message_places","size"] ([.int (e:Nat),.int (f:Nat)]++qf cb cp false m G)
theorem bW1(cb cp:Addr)(o:Bool)(m:Bool × Nat)(G:List (List Nat)):(qf cb cp o m G).map D.sh=qf cb cp false m G:=by
 unfold qf
 simp only[cN,jY,G4,cP,dv,vC,<- fJ,nJ]
structure qg(m:Bool × Nat)(G:List (List Nat)):Prop where
 hm:m∈aJ
 rt:RT (af m) (ak G) G
 len:G.length<=64
 wid:ak G<=64
 sz:0<(eA m G).length
theorem qg.red(h:qg m G):(∃H,RR (ak G) (bO m G) H)/\RT (af m) (ak G) (bO m G):=⟨(km h.hm h.rt).1,(km h.hm h.rt).2.1⟩
theorem QT(m:Bool × Nat)(G:List (List Nat)):(wb m G).length=(eA m G).length:=by unfold wb eA mC;rw[aS]
theorem qg.few(h:qg m G):(eA m G).length<=ak G:=by rw[<-QT];exact(QQ h.hm h.rt).2
end
end L3
namespace L3
open PySem L2 PySem.Spec PyProof.Rows
section
variable{X:Cx}{scope:Scope}{tg iter elt:Expr}{ifs:List Expr}{pos:Pos}{cl:List (Str × Addr)}{ti:jg}{g:gO}{tt:gj}{te:aI}
end
theorem ai.self{F H:Hp}{σ:L2.St}{δ:Dl}{o:Option V}(e:ae F H)(r:RS F H δ σ []):ai ⟨H,F⟩ F H (o::σ) (none::δ) []:=⟨e,ae.refl _,ae.refl _,λ_ _ q=>.inl q,[],[],.nil,.aq r,by simp,by simp⟩
end L3
namespace L2
open PySem
theorem bu{N P:List Str}{sc:Scope}(a:sc.kind=.function:=by rfl)(b:sc.isCoroutine=false:=by rfl)(c:sc.isGenerator=false:=by rfl)(d:N.Nodup:=by decide +kernel)(e:N.take P.length=P:=by rfl)(f:∀x∈P,sc.names.lookup x=some .local\/sc.names.lookup x=some .cell:=by decide +kernel)(g:∀y∈sc.names,y.2≠.free:=by decide +kernel):bf N P sc:=⟨a,b,c,d,e,f,g⟩
end L2
namespace L2
open PySem
end L2
namespace L3
open PySem L2 PySem.Spec PyProof.Rows
theorem eH{X:Cx}{m i:Nat}{x:Str}{pos:Pos}(hN:X.N.Nodup)(hi:X.N[i]?=some x:=by rfl)(hx:Loc X.env.scope x:=by first | exact ay (lookup_relabel_local rfl) | exact bV rfl | exact ay rfl)(hm:m<=i:=by decide)
  (hf:X.fn x=true\/X.env.scope.names.lookup x=some .local:=by first | exact .inr (lookup_relabel_local rfl) | exact .inl rfl | exact .inr rfl):PG X (.Name x pos) (lG m (gN i)):=mf hN hi hx hm hf
theorem zO{X:Cx}{m i1 i2:Nat}{y1 y2:Str}{t1 t2 tp:Pos}{tk:Nat}(vA:X.N.Nodup)(hc:X.calm=true:=by rfl)(m1:X.N[i1]?=some y1:=by rfl)(l1:Loc X.env.scope y1:=by first | exact ay (lookup_relabel_local rfl) | exact bV rfl)(m2:X.N[i2]?=some y2:=by rfl)(l2:Loc X.env.scope y2:=by first | exact ay (lookup_relabel_local rfl) | exact bV rfl)(OO:m<=i1:=by decide)(pk:m<=i2:=by decide)
  (f1:X.fn y1=true\/X.env.scope.names.lookup y1=some .local:=by first | exact .inr (lookup_relabel_local rfl) | exact .inl rfl) (f2:X.fn y2=true\/X.env.scope.names.lookup y2=some .local:=by first | exact .inr (lookup_relabel_local rfl) | exact .inl rfl)
  (GH:(assignEach [.Name y1 t1,.Name y2 t2] X.env).map (·.2)=assign (.Name y1 t1) X.env::(assignEach [.Name y2 t2] X.env).map (·.2):=by rfl) (GI:(assignEach [.Name y2 t2] X.env).map (·.2)=assign (.Name y2 t2) X.env::(assignEach [] X.env).map (·.2):=by rfl)
  (hn:(assignEach [.Name y1 t1,.Name y2 t2] X.env).length=2:=by rfl) (bZ:(assignEach [.Name y1 t1,.Name y2 t2] X.env).findIdx? (·.1)=none:=by rfl) :
  PG X (.Tuple [.Name y1 t1,.Name y2 t2] tk tp) (lG m (jr i1 i2)):=vz hc vA m1 l1 m2 l2 OO pk f1 f2 GH GI hn bZ
end L3
namespace L2
open PySem
structure Fk(K:PySem.W.Frag)(mg:Str->Option Value)(x:Str)(st:Stmt)(ps:List Str)(f:Addr)(fd:FuncData):Prop where
 F:aY K x x st f fd
 g:mg x=some (.ref f)
 b:Binds K fd ps []
structure Fm(K:PySem.W.Frag)(x q:Str)(st:Stmt)(ps:List Str)(f:Addr)(fd:FuncData):Prop where
 F:aY K x q st f fd
 b:Binds K fd ps []
end L2
namespace L3
open PySem L2 PySem.Spec PyProof.Rows
theorem bB{X:Cx}{x:Str}{st:Stmt}{ps:List Str}{f:Addr}{fd:FuncData}{n k:Nat}{sp:aZ}{e:Expr}{es:List Expr}{t:bX}{p pos:Pos}(Q:Fk X.K X.mg x st ps f fd)(F:aM X.prog X.w X.K X.mg X.base aT n f fd ps (bo sp))(hr:bL k X.A)(ha:PA X (e::es) (lA t))(hn:n<=k:=by decide)(hg:Gl X x:=by rfl)
  (cF:(x==("__debug__":Str))=false:=by decide) (he:starEach (e::es) X.env=(false,eval e X.env)::starEach es X.env:=by rfl) (bj:(backTo pos (starEach es X.env)).any (·.1)=false:=by rfl) :
  PE X (.Call (.Name x p) (e::es) [] pos) (lE (oZ sp t)):=ur (F.mono hn) hr hg Q.g Q.F.kp Q.b eE ha cF he bj
end L3
namespace L3
open PySem L2 Mf
end L3
namespace L3
open PySem L2 Mf
section
variable{m:Bool × Nat}
variable{G:List (List Nat)}
end
end L3
namespace L3
open PySem L2 PySem.Spec PyProof.Rows
section
variable{X:Cx}{e:Expr}{t:aI}{apos bN:Pos}{F H:Hp}
noncomputable def wc(sep:Str)(t:aI):aI:=λδ Q=>t δ λd ag=>match d with
 | .lst _ xs=>∃zs:List Str,xs=zs.map D.str/\(zs.map (·.length)).sum+zs.length*sep.length<=16777216/\Q (.str (Txt.join sep zs)) ag
 | _=>False
theorem QU:∀{zs:List Str} {ws:List V},S F H (zs.map D.str) ws->ws=zs.map V.str
 | [],_,s=>by cases s;rfl
 | z::zs,_,s=>by
  cases s with
  | str s=>rw[QU s];rfl
theorem Di{sep:Str}{j:Nat}{sp:Pos}(he:PE X e (lB t))(kL:attributeBase (.Constant (.str sep) j sp) "join" X.env (eval (.Constant (.str sep) j sp) X.env)=eval (.Constant (.str sep) j sp) X.env:=by rfl)
  (xS:((backTo bN (starEach [e] X.env)).all (λx=>!x.1)&&(backToKw bN (keywordEach [] X.env)).all (λx=>x.1.isSome)
   && decide ([e].length+([]:List Keyword).length+(if([]:List Keyword).isEmpty then 0 else 1)<30))=true:=by rfl)
  (kM:(apos.endLine==bN.line)=true:=by rfl) (hs:starEach [e] X.env=(false,eval e X.env)::starEach [] X.env:=by rfl) (xT:(backTo bN (starEach [] X.env)).any (·.1)=false:=by rfl) :
  PE X (.Call (.Attribute (.Constant (.str sep) j sp) "join" apos) [e] [] bN) (lE (wc sep t)) :=
 da (MQ PySem.F.plainAttrs_str PySem.F.slot_str_join PySem.F.type_str_join cg4 Mb (cE he fo hs) kL xS kM hs xT) λσ H Q zq=>by
 obtain⟨B,F,δ,ts,Qd,c,q,k⟩:=zq
 exact⟨rfl,B,F,δ,ts,_,c,q,λd aj v F1 H1 q1 f1 h1 c1 s1=>by
  cases d with
  | lst o xs =>
   obtain⟨zs,rfl,hz,q⟩:=q1
   obtain⟨p,ws,rfl,h,t⟩:=iH s1 c1.ext
   have e:=QU t
   subst e
   exact⟨sep,p,zs,rfl,rfl,bw.of h,hz,k _ aj _ F1 H1 q f1 h1 (c1.pushS (.str .nil) rfl)⟩
  | _=>exact q1.elim⟩
end
end L3
namespace L3
open PySem L2 PySem.Spec PyProof.Rows
theorem ai.QV{B:Bs}{F F' H H':Hp}{σ:L2.St}{δ:Dl}{ps ts:List (D × V)}{d':D}{v':V}{A0 A':List Addr}(c:ai B F H σ δ (ps++ts))(r:R F H (ps.map (·.1)) (ps.map (·.2)) A0)(hs:ae (gM A0 H) H')(hf:ae F F')(he:ae F' H')(h3:∀a ws,F' a=some (.lst ws)->F a=some (.lst ws)\/gM A0 H a=none)
  (r':R F' H' [d'] [v'] A') (ij:A'.Nodup) (eU:∀a∈A',gM A0 H a=none):ai B F' H' σ δ ((d',v')::ts):=by
 obtain⟨A,C,r0,s,nd,fr⟩:=c.own
 have sC:R F H (ps.map (·.1)++ts.map (·.1)) (ps.map (·.2)++ts.map (·.2)) A:=by simpa using r0
 obtain⟨v1,v2,B1,B2,e,rfl,h1,h2⟩:=R.split sC
 have l1:(ps.map (·.2)).length=v1.length:=by rw[<-h1.length,aS,aS]
 obtain⟨rfl,rfl⟩:=oH e l1
 obtain rfl:A0=B1:=R.inj r h1
 rw[cJ]at nd fr
 obtain⟨n1,n2,n3⟩:=dE.mp nd
 have but:fH A0 H H':=⟨λa o z n h=>hs.get a o (by rw[vZ n];exact z) h⟩
 have hl:gi A0 H:=λa ha=>(h1.lists a ha).1
 have out:∀a,a∈B2++C->a ∉ A0:=λa ha z=>n3 a z ha
 have no:∀a,a ∉ A0->(∃ws,H a=some (.lst ws))/\F a=none->F' a=none:=λa na zz=>by
  obtain⟨⟨ws,e⟩,n⟩:=zz
  have e':gM A0 H a=some (.lst ws):=by rw[vZ na];exact e
  cases q:F' a with
  | none=>rfl
  | some o =>
   have q2:H' a=some o:=by
    cases n:gh o with
    | true=>exact he.get a o q n
    | false =>
     obtain⟨ps,rfl⟩:=oU n
     obtain⟨m,z⟩:=he.tb a ps q
     rw[hs a _ e']at z
     cases z
   rw[hs a _ e']at q2
   cases q2
   rcases h3 a ws q with z | z
   ·rw[n]at z;cases z
   ·rw[e']at z;cases z
 have b1:ae B.H0 (gM A0 H):=⟨λa o z n=>by
  have na:a ∉ A0:=λw=>by rw[fr a (df _ w)]at z;cases z
  rw[vZ na];exact c.b1.get a o z n,λa ps z=>by
  have na:a ∉ A0:=λw=>by rw[fr a (df _ w)]at z;cases z
  rw[vZ na];exact c.b1.tb a ps z⟩
 refine⟨he,b1.trans hs,c.b2.trans hf,λa o q=>(h3 a o q).elim (c.b3 a o) λz=>.inr (b1.free z),A'++B2,C,R.cons r' (h2.keep hf but hl (λa ha=>no a (out a (df _ ha)) (h2.lists a ha)) λa ha=>out a (df _ ha)),
  s.keep hf but hl (λa ha=>no a (out a (cI _ ha)) (s.lists a ha)) (λa ha=>out a (cI _ ha)),?_,?_⟩
 ·rw[cJ]
  refine dE.mpr ⟨ij,n2,λa ha hb=>?_⟩
  have z:=eU a ha
  rw[vZ (out a hb)]at z
  rcases bA.mp hb with y | y
  ·obtain⟨⟨_,q⟩,_⟩:=h2.lists a y;rw[z]at q;cases q
  ·obtain⟨⟨_,q⟩,_⟩:=s.lists a y;rw[z]at q;cases q
 ·intro a ha
  rw[cJ]at ha
  rcases bA.mp ha with y | y
  ·exact b1.free (eU a y)
  ·exact fr a (cI _ y)
section
variable{X:Cx}{CX:dR}{n:Nat}{f:Addr}{fd:FuncData}{ps:List Str}{sp:aZ}{E:XK}{fn:Str}{e:Expr}{es:List Expr}{t:bX}{p pos:Pos}
noncomputable def we(i:Nat)(sp:aZ)(t:bX):bR:=λD δ=>t δ λds aj=>sp ds λd=>D.nx (aj.set i (some d))
theorem cd8{i:Nat}{x:Str}{pos' kn:Pos}(nd:X.N.Nodup)(hi:X.N[i]?=some x)(hx:Loc X.env.scope x)(F:aM X.prog X.w X.K X.mg X.base CX n f fd ps (vY sp))(hr:bL n X.A)(hg:Gl X fn)(hm:X.mg fn=some (.ref f))(hk:PySem.W.keepIn X.K (.ref f)=true)(hb:Binds X.K fd ps [])(Hy:i8 CX X E)(ha:PA X (e::es) (lO t))
  (cF:(fn==("__debug__":Str))=false:=by decide) (fX:starEach (e::es) X.env=(false,eval e X.env)::starEach es X.env:=by rfl) (bj:(backTo kn (starEach es X.env)).any (·.1)=false:=by rfl)
  (nI:swapsWith (.Call (.Name fn p) (e::es) [] kn) (some (.Name x pos')) pos.line X.env=pure false:=by rfl)
  (hf:X.fn x=true\/X.env.scope.names.lookup x=some .local:=by first | exact .inl rfl | exact .inr rfl | assumption) :
  PS X (.Assign [.Name x pos'] (.Call (.Name fn p) (e::es) [] kn) pos) (lS X (we i sp t)) :=
 iG (Bu nd hi hx (iD F hr hg hm hk hb .nil Hy ha cF fX bj) nI hf) λEn σ H zq=>by
 obtain⟨B,F,δ,Dd,c,q,k1,k2,k3,k4⟩:=zq
 exact⟨B,F,δ,[],_,c,q,λps aj F1 H1 q1 f1 h1 c1=>by
  obtain⟨A,C,r0,_,yd,_⟩:=c1.own
  have sC:R F1 H1 (ps.map (·.1)) (ps.map (·.2)) A:=by simpa using r0
  show vY sp (ps.map (·.2)++[]) H1 _ E
  rw[fj]
  exact⟨F1,ps.map (·.1),_,A,c1.ext,sC,(dE.mp yd).1,q1,λd' v F' H' A' hd hs hf he h3 r' ij eU=>k1 _ _ F' _ hd ((c1.QV sC hs hf he h3 r' ij eU).store i)⟩⟩
noncomputable def wg(sp:aZ)(t:bX):bR:=λD δ=>t δ λds _=>sp ds D.rt
theorem ce5{kn:Pos}(F:aM X.prog X.w X.K X.mg X.base CX n f fd ps (vY sp))(hr:bL n X.A)(hg:Gl X fn)(hm:X.mg fn=some (.ref f))(hk:PySem.W.keepIn X.K (.ref f)=true)(hb:Binds X.K fd ps [])(Hy:i8 CX X E)(ha:PA X (e::es) (lO t))
  (cF:(fn==("__debug__":Str))=false:=by decide) (fX:starEach (e::es) X.env=(false,eval e X.env)::starEach es X.env:=by rfl) (bj:(backTo kn (starEach es X.env)).any (·.1)=false:=by rfl) :
  PS X (.Return (some (.Call (.Name fn p) (e::es) [] kn)) pos) (lS X (wg sp t)) :=
 iG (Md (iD F hr hg hm hk hb .nil Hy ha cF fX bj)) λEn σ H zq=>by
 obtain⟨B,F,δ,Dd,c,q,k1,k2,k3,k4⟩:=zq
 exact⟨B,F,δ,[],_,c,q,λps aj F1 H1 q1 f1 h1 c1=>by
  obtain⟨A,C,r0,_,yd,_⟩:=c1.own
  have sC:R F1 H1 (ps.map (·.1)) (ps.map (·.2)) A:=by simpa using r0
  show vY sp (ps.map (·.2)++[]) H1 _ E
  rw[fj]
  exact⟨F1,ps.map (·.1),_,A,c1.ext,sC,(dE.mp yd).1,q1,λd' v F' H' A' hd hs hf he h3 r' ij eU=>k2 d' v aj σ F' H' hd (c1.QV sC hs hf he h3 r' ij eU)⟩⟩
end
end L3
namespace L3
open PySem L2 PySem.Spec PyProof.Rows
section
variable{B:Bs}{F H:Hp}{σ:L2.St}{δ:Dl}{ts:List (D × V)}{p:Addr}{xs:List D}{ws:List V}
theorem QW{xs:List D}{ws:List V}(h:xs.length=ws.length)(ts:List (D × V)):(xs.zip ws++ts).map (·.1)=xs++ts.map (·.1)/\(xs.zip ws++ts).map (·.2)=ws++ts.map (·.2):=by
 rw[dy,dy]
 exact⟨by rw[show(λx:D × V=>x.1)=Prod.fst from rfl,List.map_fst_zip (by omega)],by rw[show(λx:D × V=>x.2)=Prod.snd from rfl,List.map_snd_zip (by omega)]⟩
theorem ai.cY8(c:ai B F H σ δ ((.lst true xs,.ref p)::ts))(hp:H p=some (.lst ws)):xs.length=ws.length/\ai ⟨upd B.H0 p (.lst ws),B.F0⟩ F H σ δ (xs.zip ws++ts) /\
  ∀F' H' ax ag tZ Dj,ai ⟨upd B.H0 p (.lst ws),B.F0⟩ F' H' ax ag (tZ.zip ws++Dj)->tZ.length=ws.length->ai B F' H' ax ag ((.lst true tZ,.ref p)::Dj):=by
 obtain⟨A,C,r,s,nd,fr⟩:=c.own
 cases r with
 | @own _ fS _ A1 _ _ B1 ym hF rx rr =>
  rw[hp]at ym;cases ym
  have hl:=rx.length
  have b0:B.H0 p=none:=fr p (by simp)
  have f0:B.F0 p=none:=by
   cases e:B.F0 p with
   | none=>rfl
   | some o =>
    by_cases nt:gh o=true
    ·have:=c.b2.get p o e nt
     rw[hF]at this;cases this
    ·obtain⟨ps,rfl⟩:=oU (AK.mpr nt)
     obtain⟨m,em⟩:=c.b2.tb p ps e
     rw[hF]at em;cases em
  have sm:ae B.H0 (upd B.H0 p (.lst ws)):=ae.upd b0
  simp only[jZ,iQ]at nd fr
  obtain⟨np,nd⟩:=nd
  have dn:∀a,(upd B.H0 p (.lst ws)) a=none->B.H0 a=none:=λa z=>by
   by_cases w:a=p
   ·subst w;exact b0
   ·rwa [aL w]at z
  obtain⟨z1,z2⟩:=QW hl ts
  refine⟨hl,⟨c.ext,?_,c.b2,λa ws z=>?_,A1++B1,C,by rw[z1,z2];exact rx.append rr,s,nd,λa ha=>?_⟩,λF' H' ax ag tZ Dj c' tI=>?_⟩
  ·refine⟨λa o z n=>?_,λa ps z=>?_⟩<;>dsimp only at z
   ·by_cases w:a=p
    ·subst w;rw[br]at z;cases z;exact hp
    ·rw[aL w]at z;exact c.b1.get a o z n
   ·by_cases w:a=p
    ·subst w;rw[br]at z;cases z
    ·rw[aL w]at z;exact c.b1.tb a ps z
  ·rcases c.b3 a ws z with y | y
   ·exact .inl y
   ·by_cases w:a=p
    ·subst w;rw[hF]at z;cases z
    ·exact .inr (by show upd B.H0 p _ a=none;rw[aL w];exact y)
  ·show upd B.H0 p _ a=none
   rw[aL (λz=>np (by rw[<-z];exact ha))]
   exact fr a (gB _ ha)
  ·obtain⟨A',C',r',s',ij,eU⟩:=c'.own
   obtain⟨y1,y2⟩:=QW tI Dj
   rw[y1,y2]at r'
   obtain⟨v1,v2,A2,A3,e,rfl,r1,r2⟩:=R.split r'
   have l1:ws.length=v1.length:=by rw[<-r1.length,tI]
   obtain⟨rfl,rfl⟩:=oH e l1
   have wj:H' p=some (.lst ws):=c'.b1 p _ br
   have hF2:F' p=none:=by
    cases e:F' p with
    | none=>rfl
    | some o =>
     by_cases nt:gh o=true
     ·have:=c'.ext.get p o e nt
      rw[wj]at this;cases this
      rcases c'.b3 p ws e with z | z
      ·have z':B.F0 p=_:=z
       rw[f0]at z';cases z'
      ·have z':upd B.H0 p (.lst ws) p=none:=z
       rw[br]at z';cases z'
     ·obtain⟨ps,rfl⟩:=oU (AK.mpr nt)
      obtain⟨m,em⟩:=c'.ext.tb p ps e
      rw[wj]at em;cases em
   have oo:p ∉ A2++A3++C':=λz=>by
    have z':upd B.H0 p (.lst ws) p=none:=eU p z
    rw[br]at z';cases z'
   refine⟨c'.ext,sm.trans c'.b1,c'.b2,λa ws z=>(c'.b3 a ws z).elim .inl λy=>.inr (dn a y),p::(A2++A3),C',.own wj hF2 r1 r2,s',?_,λa ha=>?_⟩
   ·rw[jZ];exact iQ.mpr ⟨oo,ij⟩
   ·rw[jZ]at ha
    rcases cq.mp ha with rfl | z
    ·exact b0
    ·exact dn a (eU a z)
end
section
variable{X:Cx}{e b a:Expr}{pos pos' p p2 p3:Pos}{ti te ta:aI}{x y:Str}{i j:Nat}
noncomputable def wk(i:Nat)(te ta ti:aI):bR:=λD δ=>te δ λd aj=>∃l1 ys l2,aj[i]?=some (some (.lst true (l1++.lst true ys::l2)))/\ta aj λk aK=>k=.int l1.length/\aK[i]?=some (some (.lst true (l1++.lst true ys::l2)))/\kQ ti aK λk gn=>match k with
 | .int n=>∃jj,gn[i]?=some (some (.lst true (l1++.lst true ys::l2)))/\gL ys.length n=some jj/\D.nx (gn.set i (some (.lst true (l1++.lst true (ys.set jj d)::l2))))
 | _=>False
theorem cf3(hN:X.N[i]?=some x)(hv:iB X.env.scope x)(he:PE X e (lE te))(hA:PE X a (lB ta))(hi:PE X b (lB ti))(hd:(x==("__debug__":Str))=false:=by decide)(b9:(x==("__classdict__":Str))=false:=by decide)
  (Gx:∀v w,subscripted a false v w=operate [v,w] (getItem v w):=by intro _ _;rfl)
  (ha:∀v,assign (.Subscript (.Subscript (.Name x p) a p3) b pos') X.env v=(do
   let ov<-holding [v] (eval (.Subscript (.Name x p) a p3) X.env)
   let iv<-holding [v,ov] (eval b X.env)
   standAt pos'
   holding [v,ov,iv] (setItem ov iv v)
   release [v,ov,iv] []):=by intro _;rfl)
  (hs:swapsWithSole [.Subscript (.Subscript (.Name x p) a p3) b pos'] e pos.line X.env=pure false:=by rfl) (hw:swappedStores [.Subscript (.Subscript (.Name x p) a p3) b pos'] e X.env=pure none:=by rfl)
  (h1:(assignEach [.Subscript (.Subscript (.Name x p) a p3) b pos'] X.env).map (·.2)=[assign (.Subscript (.Subscript (.Name x p) a p3) b pos') X.env]:=by rfl) :
  PS X (.Assign [.Subscript (.Subscript (.Name x p) a p3) b pos'] e pos) (lS X (wk i te ta ti)) :=
 iG (xG he (xF (BG BH (j5 hN hv hd b9) hA Gx) (cR hi) xR ha) hs hw h1) λEn σ H zq=>by
 obtain⟨B,F,δ,Dd,c,q,k1,k2,k3,k4⟩:=zq
 exact⟨B,F,δ,[],_,c,q,λd aj v F1 H1 hq f1 h1 c1=>by
  obtain⟨l1,ys,l2,e1,hq⟩:=hq
  obtain⟨p0,ws,g1,g2,g3⟩:=c1.ownAt e1
  refine⟨.ref p0,g1,B,F1,aj,[(d,v)],_,c1,hq,λad aK av F2 H2 ha f2 h2 c2 sa=>?_⟩
  obtain⟨rfl,e2,hq⟩:=ha
  cases sa
  have Hz:=h2 _ _ g2
  obtain⟨q0,us,g5,g6,g7,_⟩:=yt c2 e2 g1 Hz
  refine⟨p0,ws,_,.ref q0,rfl,rfl,bw.of Hz,vy g5,B,F2,aK,[(d,v)],_,c2,hq,λkd gn kv F3 H3 hk f3 h3 c3=>?_⟩
  have st:=c3.top
  split at hk
  ·obtain⟨jj,ex,ej,hn⟩:=hk
   cases st
   have c4:=c3.pop
   refine⟨q0,us,_,jj,rfl,rfl,h3 _ _ g6,by rw[<-g7];exact ej,k1 _ _ F3 _ hn ?_⟩
   exact ai.Gj (ps:=[(d,v)]) (ts:=[]) c4 ex g1 (h3 _ _ Hz) g5 λHq A1 A2 z r1 r2 nd=>by
    rw[h3 _ _ g6]at z;cases z
    exact R.ye jj r1 r2 nd
  ·exact hk.elim⟩
noncomputable def wm(i j:Nat)(te ti:aI):bR:=λEn δ=>∃(dm:List (List D)) (h:List D->List D),δ[i]?=some (some (.lst true (dm.map (D.lst true))))/\i≠j/\j<δ.length /\
 (∀xs∈dm,te ((δ.set i none).set j (some (.lst true xs))) λd aj=>kQ ti aj λk aK=>aj=(δ.set i none).set j (some (.lst true xs))/\aK=(δ.set i none).set j (some (.lst true xs))/\∃n jj,k=.int n/\gL xs.length n=some jj/\h xs=xs.set jj d) /\
 En.nx ((δ.set j none).set i (some (.lst true (dm.map λxs=>D.lst true (h xs)))))
theorem bZ6{tp pr rO:Pos}(hc:X.calm=true)(hp:PassesOwn (model X.prog X.w) X.A X.env X.xe)(vA:X.N.Nodup)(hN:X.N[i]?=some x)(hv:iB X.env.scope x)(C9:X.N[j]?=some y)(dJ:Loc X.env.scope y)(rM:iB X.env.scope y)(he:PE X e (lE te))(hi:PE X b (lB ti))
  (hd:(x==("__debug__":Str))=false:=by decide) (b9:(x==("__classdict__":Str))=false:=by decide) (hd2:(y==("__debug__":Str))=false:=by decide) (Ho:(y==("__classdict__":Str))=false:=by decide)
  (ha:∀v,assign (.Subscript (.Name y pr) b pos') X.env v=(do
   let ov<-holding [v] (eval (.Name y pr) X.env)
   let iv<-holding [v,ov] (eval b X.env)
   standAt pos'
   holding [v,ov,iv] (setItem ov iv v)
   release [v,ov,iv] []):=by intro _;rfl)
  (nI:swapsWithSole [.Subscript (.Name y pr) b pos'] e rO.line X.env=pure false:=by rfl) (hw:swappedStores [.Subscript (.Name y pr) b pos'] e X.env=pure none:=by rfl)
  (h1:(assignEach [.Subscript (.Name y pr) b pos'] X.env).map (·.2)=[assign (.Subscript (.Name y pr) b pos') X.env]:=by rfl)
  (hf:X.fn y=true\/X.env.scope.names.lookup y=some .local:=by first | exact .inl rfl | exact .inr rfl | assumption)
  (hs:∀z,foldedSetIterable (.Name x p) X.env z=pure z:=by intro _;rfl) :
  PS X (.For (.Name y tp) (.Name x p) [.Assign [.Subscript (.Name y pr) b pos'] e rO] [] pos) (lS X (wm i j te ti)) :=
 iG (Mm hp hc (EY (j5 hN hv hd b9)) (xE vA C9 dJ hf) (kI (xG he (xF (j5 C9 rM hd2 Ho) (cR hi) xR ha) nI hw h1)) hs)
  λEn σ H zq=>by
  obtain⟨B,F,δ,Dd,c,⟨dm,h,e0,oh,hj,ht,hn⟩,k1,k2,k3,k4⟩:=zq
  obtain⟨p0,ws,g1,g2,g3⟩:=c.ownAt e0
  have lw:dm.length=ws.length:=by rw[aS]at g3;exact g3
  obtain⟨v0,gv,cm⟩:=c.move e0
  rw[g1]at gv;cases gv
  obtain⟨hl,co,un⟩:=cm.cY8 g2
  have st0:ai ⟨upd B.H0 p0 (.lst ws),B.F0⟩ F H σ ((δ.set i none).set j none) (((dm.drop 0).map (D.lst true)).zip (ws.drop 0)++((dm.take 0).map λxs=>D.lst true (h xs)).zip (ws.take 0)):=by
   have:=co.forget j
   simpa using this
  refine⟨.ref p0,g1,p0,rfl,⟨ws,bw.of g2⟩,λn m ax H'=>m=dm.length-n/\n<=dm.length/\ax[i]?=some (some (.ref p0))/\ax.length=σ.length /\
   ∃F',ai ⟨upd B.H0 p0 (.lst ws),B.F0⟩ F' H' ax ((δ.set i none).set j none) (((dm.drop n).map (D.lst true)).zip (ws.drop n)++((dm.take n).map λxs=>D.lst true (h xs)).zip (ws.take n)),⟨_,rfl,jX _,g1,rfl,F,st0⟩,?_⟩
  rintro n m ax H' ⟨rfl,hnn,s1,s2,F1,c1⟩
  have w1:H' p0=some (.lst ws):=c1.b1 p0 _ br
  by_cases fQ:n<dm.length
  case neg =>
   have en:n=dm.length:=by omega
   subst en
   refine .inl ⟨⟨ws,bw.of w1,by omega⟩,k1 _ _ F1 H' hn ?_⟩
   have z0:((dm.drop dm.length).map (D.lst true)).zip (ws.drop dm.length)++((dm.take dm.length).map λxs=>D.lst true (h xs)).zip (ws.take dm.length)=(dm.map λxs=>D.lst true (h xs)).zip ws++[]:=by
    rw[List.drop_length,xj,fj,AM (w5 lw.symm),jY,List.zip_nil_left,qt]
   rw[z0]at c1
   have c2:=un _ _ _ _ _ _ c1 (by rw[aS];exact lw)
   have e3:((δ.set i none).set j none)[i]?=some none:=by rw[lF (dN oh),oA (kE.mp e0).1]
   have c3:=c2.fill (i:=i) e3 s1
   have e4:∀o:Option D,((δ.set i none).set j none).set i o=(δ.set j none).set i o:=λo=>by rw[List.set_comm none none oh,qw]
   rw[e4]at c3
   exact c3
  case pos =>
   have Dk:n<ws.length:=by omega
   refine .inr ⟨⟨ws,ws[n],bw.of w1,bc Dk⟩,λax H'=>n+1<=dm.length/\ax[i]?=some (some (.ref p0))/\ax.length=σ.length /\
    ∃F',ai ⟨upd B.H0 p0 (.lst ws),B.F0⟩ F' H' ax ((δ.set i none).set j none) (((dm.drop (n+1)).map (D.lst true)).zip (ws.drop (n+1))++((dm.take (n+1)).map λxs=>D.lst true (h xs)).zip (ws.take (n+1))),λi6 H2 z=>⟨dm.length-(n+1),by omega,rfl,z⟩,λz H2 y=>?_⟩
   obtain⟨rfl,yz⟩:=y
   have hz:=yz ws (bw.of w1)
   rw[bc Dk]at hz
   cases hz
   have z1:((dm.drop n).map (D.lst true)).zip (ws.drop n)=(D.lst true dm[n],ws[n])::((dm.drop (n+1)).map (D.lst true)).zip (ws.drop (n+1)):=by
    rw[LR fQ,LR Dk];rfl
   have z2:((dm.take (n+1)).map λxs=>D.lst true (h xs)).zip (ws.take (n+1))=((dm.take n).map λxs=>D.lst true (h xs)).zip (ws.take n)++[(D.lst true (h dm[n]),ws[n])]:=by
    rw[qy,qy,bc fQ,bc Dk,dy,List.zip_append (by rw[aS,eC,eC];omega)];rfl
   rw[z1]at c1
   obtain⟨B',c4,sb,back⟩:=ai.cX1 (ps:=[(D.lst true dm[n],ws[n])]) c1
   have c5:=c4.store j
   rw[qw]at c5
   have hj1:j<(δ.set i none).length:=by rw[gZ];exact hj
   have Dm:∀o,((δ.set i none).set j o)[j]?=some o:=λo=>oA hj1
   obtain⟨q0,Hq,t1,t2,t3⟩:=c5.ownAt (Dm _)
   have Hm:j<ax.length:=by rw[s2,<- c.len];exact hj
   have t0:=t1
   rw[oA Hm]at t0
   injection t0 with t0
   injection t0 with t0
   refine⟨B',F1,_,[],_,c5,ht _ (eN fQ),λd aj v F2 H3 hq f1 h1 c6=>?_⟩
   refine⟨.ref q0,t1,B',F2,aj,[(d,v)],_,c6,hq,λkd aK kv F3 H4 hk f2 h2 c7=>?_⟩
   obtain⟨rfl,rfl,n',jj,rfl,ej,eh⟩:=hk
   have st:=c7.top
   cases st
   have c8:=c7.pop
   obtain⟨q1,us,r1,r2,r3⟩:=c8.ownAt (Dm _)
   rw[t1]at r1;cases r1
   have c9:=c8.NM (Dm _) t1 r2 jj
   rw[qw]at c9
   obtain⟨v',QX,QY⟩:=c9.move (Dm _)
   rw[t1]at QX;cases QX
   rw[qw]at QY
   have c11:=back _ _ _ _ _ QY
   refine⟨q0,us,_,jj,rfl,rfl,r2,by rw[<-r3];exact ej,by omega,by rw[lF (dN oh)];exact s1,by rw[gZ];exact s2,F3,?_⟩
   rw[z2,eh,<- cJ]
   have QZ:=c11.perm mM
   rw[t0]at QZ ⊢
   exact QZ
end
end L3
namespace L3
open PySem L2 PySem.Spec PyProof.Rows
noncomputable def Q0(tl:List Addr)(C:Addr)(ju:List D->List Str->List D->Prop):L2.Sp:=λvs H Q _=>∃Fk F H0 x dx v0 bW d0 ds ns xs,vs=.ref x::v0::bW/\Tb tl H/\ae Fk F/\ae F H0/\H0 x=none/\ae H0 H/\H x=some (.ins C dx [])/\R Fk H0 [d0] [v0] []/\R F H0 ds bW []/\ju (d0::ds) ns xs /\
 ∀H' ws A,bS x H H'->H' x=some (.ins C dx (ns.zip ws))->ns.length=ws.length->R Fk H' xs ws A->A.Nodup->(∀a∈A,H a=none)->Q .aq H'
noncomputable def wo(C:Addr)(ju:List D->List Str->List D->Prop)(ta:bX):aI:=λδ Q=>ta δ λds ag=>∃d0 Dn ns xs,ds=d0::Dn/\d0.pl=true/\ju (d0::Dn.map D.sh) ns xs/\Q (.obj C ns (xs.map D.sh)) ag
section
variable{X:Cx}{CX:dR}{n:Nat}{f C:Addr}{fd:FuncData}{ps:List Str}{ju:List D->List Str->List D->Prop}{E:XK}{x:Str}{p pos:Pos}{e:Expr}{es:List Expr}{t:bX}{tl:List Addr}
theorem cb4(hT:Tb tl X.j3)(M:L2.Mk X.K C f)(F:aM X.prog X.w X.K X.mg X.base CX n f fd ps (Q0 tl C ju))(hr:bL (n+1) X.A)(hg:Gl X x)(hm:X.mg x=some (.ref C))(hb:Binds X.K fd ps [])(hx:i8 CX X E)
  (ha:PA X (e::es) (lA t)) (cF:(x==("__debug__":Str))=false:=by decide) (he:starEach (e::es) X.env=(false,eval e X.env)::starEach es X.env:=by rfl) (bj:(backTo pos (starEach es X.env)).any (·.1)=false:=by rfl) :
  PE X (.Call (.Name x p) (e::es) [] pos) (lE (wo C ju t)):=by
 intro pins s σ H Q I zz
 obtain⟨B,F',δ,ts,Qd,c,q,k⟩:=zz
 have tb:=GN I hT
 refine Mz M F hr hg hm hb .nil hx ha cF he bj pins s σ H Q I ⟨B,F',δ,ts,_,c,q,λds aj vs F1 H1 q1 f1 h1 c1 s1=>?_⟩
 intro x dx cO dJ jI
 obtain⟨d0,Dn,ns,xs,rfl,hp,hI,hq⟩:=q1
 obtain⟨v0,bW,rfl,s2,s3⟩:=s1.cQ
 have sm:ae H1 (upd (upd H1 dx (.own x)) x (.ins C dx [])):=.of λb o e=>by rw[aL (dH e cO),aL (dH e dJ)];exact e
 refine⟨F1,H1,H1,x,dx,v0,bW,d0,Dn.map D.sh,ns,xs,by rw[fj],ze (ze tb h1) sm,c1.ext,ae.refl _,cO,sm,br,s2.r (by rw[dh,hp];rfl),s3.frozen c1.ext,hI,λH' ws A zh dD hl r nd fr=>⟨rfl,?_⟩⟩
 have s4:ae H1 H':=⟨λb o e n=>zh.get b o (dH e cO) (sm.get b o e n) n,λb ps e=>by
  obtain⟨m1,e1⟩:=sm.tb b ps e
  obtain⟨m2,e2⟩:=zh.tb b _ e1
  exact⟨m1++m2,by rw[e2,sQ]⟩⟩
 obtain⟨fs,c2⟩:=c1.cX8 s4 dD hl r λa ha=>sm.free (fr a ha)
 exact k _ aj _ _ H' hq (f1.trans fs) (h1.trans s4) c2
end
end L3
namespace L3
open PySem L2 Mf
section
variable{m:Bool × Nat}{G:List (List Nat)}
theorem Q1(hm:m∈aJ)(hG:RT (af m) (ak G) G){z:Nat->Nat}(hz:∀k,z k<af m)(h:∀r∈G,dt m (ak G) (cf r) z=0){k:Nat}(hk:k<ak G)(nz:z k≠0):0<(eA m G).length:=by
 obtain⟨⟨H,I⟩,iR,il,sp⟩:=km hm hG
 refine Nat.pos_of_ne_zero λe=>nz ?_
 have:=I.ker hm iR hz (λi hi=>eG.dt hm (λi hi=>h _ (de hi [])) ((sp _).mpr (eG.of (de hi [])))) hk
 have e:(cu (bO m G) (ak G)).length=0:=e
 rw[e]at this
 exact this
theorem cg6(hm:m∈aJ)(hG:RT (af m) (ak G) G){a o b:Nat}(ha:a<ak G)(ho:o<ak G)(hb:b<af m)(ne:a≠o)(h:∀r∈G,cf r a=gm m b (cf r o)):0<(eA m G).length:=by
 have r:=rg hm
 obtain⟨c,hc,ec⟩:=r.ng hb
 have l1:=lo1 hm
 refine Q1 hm hG (z:=λk=>if k=a then 1 else if k=o then c else 0) (λk=>?_) (λx hx=>?_) ha (by rw[if_pos rfl];decide)
 ·
  split
  ·exact l1
  ·split
   ·exact hc
   ·omega
 ·unfold dt
  rw[Qr r (f:=λj=>gm m (cf x j) (if j=a then 1 else if j=o then c else 0)) ha ho ne (cS hm _ _) (cS hm _ _) λj _ h1 h2=>by rw[if_neg h1,if_neg h2];exact r.qz _]
  rw[if_pos rfl,if_neg (dN ne),if_pos rfl,h x hx,nS (cS hm _ _),jv m b,<- r.dl,ec]
  exact r.qz _
theorem bV7(hm:m∈aJ)(hG:RT (af m) (ak G) G)(hl:G.length<ak G):0<(eA m G).length:=by
 obtain⟨⟨H,I⟩,iR,il,sp⟩:=km hm hG
 have:=I.C7 hm iR
 have e:(eA m G).length=(cu (bO m G) (ak G)).length:=rfl
 omega
theorem cm3(hm:m∈aJ)(hG:RT (af m) (ak G) G)(h:∀i,i<ak G->∃r∈G,cf r i≠0/\∀j,j<i->cf r j=0):(bO m G).length=ak G:=by
 have r:=rg hm
 obtain⟨⟨H,I⟩,iR,il,sp⟩:=km hm hG
 have fl:=I.C7 hm iR
 have e:cu (bO m G) (ak G)=[]:=Lp.mpr λf hf=>by
  obtain⟨k1,k2,k3,k4,k5⟩:=sr hm iR I hf
  have kx:=Hr hm hG hf
  have lx:=fK hm k2
  generalize fw m (bO m G) (ak G) f=x at k1 k2 k3 kx lx
  have z:∀n i,ak G<=i+n->i<ak G->cf x i=0:=by
   intro n
   induction n with
   | zero=>intro i h1 h2;omega
   | succ n ih =>
    intro i hi hw
    obtain⟨y,hy,y1,y2⟩:=h i hw
    have:=kx y hy
    unfold dt at this
    rw[vU r (f:=λj=>gm m (cf y j) (cf x j)) (j0:=i) (cS hm _ _) hw λj hj hn=>?_]at this
    ·obtain⟨d,d1,d2⟩:=G7 hm (lo1 hm) (fK hm (hG y hy).2 i) y1
     have e:=congrArg (gm m d) this
     rw[<-lj (dM m hm),d2,sg (lx i),r.qz]at e
     exact e
    ·rcases Nat.lt_or_gt_of_ne hn with c | c
     ·rw[y2 j c,iM m _ (dM m hm)]
     ·rw[ih j (by omega) hj,r.qz]
  have:=z (ak G) f (by omega) ((I.free hm iR f).mp hf).1
  rw[k3]at this
  omega
 rw[e]at fl
 simpa using fl
end
end L3
namespace L3
open PySem L2 Mf
theorem ch6{m:Bool × Nat}{G G':List (List Nat)}(hm:m∈aJ)(hG:RT (af m) (ak G) G)(hG':RT (af m) (ak G') G')(hw:ak G'=ak G)(h:∀r∈G',r∈G)(h0:0<(eA m G).length):0<(eA m G').length:=by
 obtain⟨⟨H,I⟩,iR,il,sp⟩:=km hm hG
 have hf:=de h0 0
 obtain⟨k1,k2,k3,k4,k5⟩:=sr hm iR I hf
 have kx:=Hr hm hG hf
 have lt:=((I.free hm iR _).mp hf).1
 exact Q1 hm hG' (z:=cf (fw m (bO m G) (ak G) ((eA m G).getD 0 0))) (fK hm k2) (λr hr=>by rw[hw];exact kx r (h r hr)) (by rw[hw];exact lt) (by rw[k3];decide)
end L3
namespace L3
open PySem L2 Mf
theorem cn5{m:Bool × Nat}{G:List (List Nat)}(hm:m∈aJ)(hG:RT (af m) (ak G) G)(hw:0<ak G)(h0:0<(eA m G).length):∃Fb,oj m G=some Fb:=by
 cases e:oj m G with
 | some Fb=>exact⟨Fb,rfl⟩
 | none =>
  have ind:=ch9 hm hw hG e (bh (ak G)) (bK6 (bD _))
  obtain⟨⟨H,I⟩,iR,il,sp⟩:=km hm hG
  have hf:=de h0 0
  obtain⟨k1,k2,k3,k4,k5⟩:=sr hm iR I hf
  have kx:=Hr hm hG hf
  have lt:=((I.free hm iR _).mp hf).1
  have r:=rg hm
  have:=ind (cf (fw m (bO m G) (ak G) ((eA m G).getD 0 0))) (fK hm k2) (λk=>?_) _ (by rw[fk];exact lt)
  ·rw[k3]at this;cases this
  ·unfold gH qe
   rw[fk]
   have ee:∀t,t<ak G->(bh (ak G)).getD t 0=t:=λt ht=>by rw[aW,mO ht];rfl
   by_cases hk:k<G.length
   ·have:=kx _ (de hk [])
    unfold dt at this
    refine Eq.trans (gF λt ht=>?_) this
    rw[ee t ht,jv]
   ·refine lu r λt ht=>?_
    rw[aW (l:=G),iy (by omega)]
    exact r.qz _
end L3
namespace HK37
open PySem.W (Frag codeHdIn kitOne nsIn findIn isFn plainGet hasDictIn plainOver makesIn keepIn specialIn typeIn subIn mroIn fnOf codeIn clsIn mg_of mg_none_of CodeHd)
open PySem L2 L3 Mf
seal L2.PSs L2.PS L2.PE L2.PT L2.PA L2.PI L2.PG L2.PO L2.PW
local macro_rules | `(tactic| walk_at "l3") => do
  let l ← (("uu rp uv uw dT m9 m8 oW dC kQ oZ oY oX rh uq nB u5 rN u7 u9 ug uh uj uk uo q9 u3 rH ph ii rB uK rC uL uM uN uO uQ uR uS iI ik uT uU uV uW rE pd uZ u0 gN va u4 uz uD uE uF uG uH vd ve rz kT gq jN jk s9 sW AW AX rj jL ke rK rL vj vk vm vn vp pF mq vB rR yZ rS vv jr mr yX yY cN jY jZ qt ix AY bg tD tE iT iU xt exists_eq_left' exists_eq_left D.bl.injEq D.int.injEq D.lst.injEq D.fz.injEq D.str.injEq D.tup.injEq AZ and_true true_and dh tf mP lJ yu yv yw yx yy yA ig kP nJ yF yG yH yI yJ cP l9 yB yC yD yE fG qY A6 A8 sT iz Ba Bb xf yN yO yP yQ yR yS yT nK pz rP jq rQ yL vi yK mm yM kh vh if_true qv if_false reduceIte yU decide_eq_true_eq eV ki pG y7 rT y0 y6 uA vH si vw rX rY rZ vJ vQ vW vX dv vS gw zF sq v9 wa wc we wg wk wm wo sL G4 PN ci4 ce8 zB zC".splitOn " ").toArray.map fun (s : String) => Lean.mkIdent s.toName).mapM fun i => `(Lean.Parser.Tactic.simpLemma| $i:term)
  `(tactic| (try dsimp only [$l,*]) <;> (try simp only [$l,*]))
noncomputable def top (i:Nat):Stmt:=PySem.Challenge.pw_mendfield_k37_code_by_checks.main.body.getD i (.Pass ⟨0,0,0,0⟩)
noncomputable abbrev HA:Stmt:=top 63
theorem HB:bf ["_law_cell_here","_law_some","_law_primes"] ["_law_cell_here"] (aP HA):=bu
noncomputable abbrev HC:Stmt:=top 52
theorem Dq:bf ["a","product","found","power"] ["a","product"] (aP HC):=bu
noncomputable abbrev HD:Stmt:=top 53
theorem zP:bf ["many","product","step","found"] ["many","product"] (aP HD):=bu
noncomputable abbrev HE:Stmt:=top 54
theorem HF:bf ["powers","logs","n","a"] ["powers"] (aP HE):=bu
noncomputable abbrev HG:Stmt:=eZ (top 58) 8
theorem au4:bf ["self","n"] ["self","n"] (aP HG):=bu
noncomputable abbrev HH:Stmt:=eZ (top 58) 0
theorem aD3:bf ["self","many","product"] ["self","many","product"] (aP HH):=bu
noncomputable abbrev HI:Stmt:=top 57
theorem as4:bf ["prime"] ["prime"] (aP HI):=bu
noncomputable abbrev oq:Stmt:=eZ (top 60) 0
theorem av5:bf ["self","prime"] ["self","prime"] (aP oq):=bu
noncomputable abbrev HJ:Stmt:=top 55
theorem Dr:bf ["powers","logs","many","rows","a"] ["powers","logs"] (aP HJ):=bu
noncomputable abbrev HK:Stmt:=top 49
theorem wt:bf ["a","b","quotient","rest","shift"] ["a","b"] (aP HK):=bu
noncomputable abbrev HL:Stmt:=top 50
theorem HM:bf ["a","half","b"] ["a"] (aP HL):=bu
noncomputable abbrev HN:Stmt:=top 56
theorem av6:bf ["bits"] ["bits"] (aP HN):=bu
noncomputable abbrev HP:Stmt:=top 48
theorem Ds:bf ["a","b","product","k"] ["a","b"] (aP HP):=bu
noncomputable abbrev ot:Stmt:=eZ (top 59) 0
theorem Q2:bf ["self","bits","many"] ["self","bits"] (aP ot):=bu
noncomputable abbrev HQ:Stmt:=top 67
theorem aD4:bf ["_law_told_here"] ["_law_told_here"] (aP HQ):=bu
noncomputable abbrev HR:Stmt:=top 62
theorem aF5:bf ["_law_script","_law_k"] ["_law_script","_law_k"] (aP HR):=bu
noncomputable abbrev HS:Stmt:=top 64
theorem aF6:bf ["_law_told_here"] ["_law_told_here"] (aP HS):=bu
noncomputable abbrev HU:Stmt:=top 66
theorem wu:bf ["_law_told_here","_law_a","_law_b","_law_total"] ["_law_told_here","_law_a","_law_b"] (aP HU):=bu
noncomputable abbrev HV:Stmt:=top 70
theorem wz:bf ["_law_told_here","_law_table","_law_cell_here","_law_wide","_law_at","_law_other","_law_by","_law_row"] ["_law_told_here","_law_table","_law_cell_here"] (aP HV):=bu
noncomputable abbrev HW:Stmt:=top 15
theorem aI1:bf ["table"] ["table"] (aP HW):=bu
noncomputable abbrev HX:Stmt:=top 19
theorem Q3:bf ["rows","place","number","row"] ["rows","place"] (aP HX):=bu
noncomputable abbrev HY:Stmt:=eZ (top 59) 6
theorem Q4:bf ["self","a","row","by_a"] ["self","a","row"] (aP HY):=bu
noncomputable abbrev HZ:Stmt:=eZ (top 60) 6
theorem Q5:bf ["self","a","row","prime"] ["self","a","row"] (aP HZ):=bu
noncomputable abbrev Ia:Stmt:=eZ (top 59) 7
theorem Q6:bf ["self","row","a","other","by_a"] ["self","row","a","other"] (aP Ia):=bu
noncomputable abbrev Ib:Stmt:=eZ (top 60) 7
theorem Q7:bf ["self","row","a","other","prime"] ["self","row","a","other"] (aP Ib):=bu
noncomputable abbrev Ic:Stmt:=top 20
theorem aJ2:bf ["field","rows","lead_row","place"] ["field","rows","lead_row","place"] (aP Ic):=bu
noncomputable abbrev Ie:Stmt:=eZ (top 58) 5
theorem aD5:bf ["self","a","b"] ["self","a","b"] (aP Ie):=bu
noncomputable abbrev Ig:Stmt:=top 21
theorem qh:bf ["field","table","done","left","place","number","lead_row"] ["field","table"] (aP Ig):=bu
noncomputable abbrev Ih:Stmt:=top 28
theorem aJ8:bf ["table"] ["table"] (aP Ih):=bu
noncomputable abbrev Ii:Stmt:=top 22
theorem b27:bf ["rows"] ["rows"] (aP Ii):=bu
noncomputable abbrev Ij:Stmt:=top 24
theorem Q8:bf ["rows","width","taken"] ["rows","width"] (aP Ij):=bu
noncomputable abbrev Ik:Stmt:=eZ (top 59) 2
theorem ay8:bf ["self","a","b"] ["self","a","b"] (aP Ik):=bu
noncomputable abbrev Il:Stmt:=eZ (top 60) 2
theorem au5:bf ["self","a","b"] ["self","a","b"] (aP Il):=bu
noncomputable abbrev Im:Stmt:=top 25
theorem wA:bf ["field","rows","width","taken","found","free","x","lead","row"] ["field","rows","width"] (aP Im):=bu
noncomputable abbrev Io:Stmt:=eZ (top 31) 0
theorem Q9:bf ["self","field","checks","rows"] ["self","field","checks"] (aP Io):=bu
noncomputable abbrev Ip:Stmt:=eZ (top 58) 1
theorem aC3:bf ["self","x"] ["self","x"] (aP Ip):=bu
noncomputable abbrev Iq:Stmt:=top 45
theorem Ra:bf ["field","table","width"] ["field","table"] (aP Iq):=bu
noncomputable abbrev Ir:Stmt:=top 23
theorem cg5:bf ["field","table"] ["field","table"] (aP Ir):=bu
noncomputable abbrev Iu:Stmt:=top 16
theorem aJ9:bf ["table"] ["table"] (aP Iu):=bu
noncomputable abbrev Iw:Stmt:=top 33
theorem aF7:bf ["column"] ["column"] (aP Iw):=bu
noncomputable abbrev Iy:Stmt:=eZ (top 59) 3
theorem ay9:bf ["self","a","b"] ["self","a","b"] (aP Iy):=bu
noncomputable abbrev Iz:Stmt:=eZ (top 60) 3
theorem au6:bf ["self","a","b"] ["self","a","b"] (aP Iz):=bu
noncomputable abbrev IA:Stmt:=top 34
theorem wC:bf ["field","column","others","place","inverse","found","other","left"] ["field","column","others"] (aP IA):=bu
noncomputable abbrev IB:Stmt:=top 35
theorem qi:bf ["field","table","width","sets","larger","places","behind","number","column","bigger"] ["field","table"] (aP IB):=bu
noncomputable abbrev IC:Stmt:=eZ (top 46) 0
theorem Rb:bf ["self","field","table"] ["self","field","table"] (aP IC):=bu
noncomputable abbrev ID:Stmt:=top 73
theorem Dt:bf ["_law_field_here","_law_table","_law_refusal","e"] ["_law_field_here","_law_table"] (aP ID):=bu
noncomputable abbrev IE:Stmt:=top 68
theorem aD6:bf ["_law_cell_here","_law_k"] ["_law_cell_here","_law_k"] (aP IE):=bu
noncomputable abbrev IF:Stmt:=top 69
theorem wD:bf ["_law_told_here","_law_rows","_law_wide","_law_cell_here","_law_kind","_law_many_here","_law_table","_law_i","_law_row"] ["_law_told_here","_law_rows","_law_wide","_law_cell_here","_law_kind"] (aP IF):=bu
noncomputable abbrev IG:Stmt:=eZ (top 31) 2
theorem aF8:bf ["self"] ["self"] (aP IG):=bu
noncomputable abbrev IH:Stmt:=top 26
theorem aK0:bf ["field","table"] ["field","table"] (aP IH):=bu
noncomputable abbrev II:Stmt:=eZ (top 46) 1
theorem ar2:bf ["self"] ["self"] (aP II):=bu
noncomputable abbrev IJ:Stmt:=top 71
theorem wF:bf ["_law_told_here","_law_wide","_law_rows","_law_cell_here","_law_many_here","_law_table","_law_i","_law_at","_law_by"] ["_law_told_here","_law_wide","_law_rows","_law_cell_here"] (aP IJ):=bu
noncomputable abbrev IK:Stmt:=top 72
theorem Du:bf ["_law_told_here","_law_wide","_law_rows","_law_cell_here","_law_kind","_law_table","_law_at","_law_bad"] ["_law_told_here","_law_wide","_law_rows","_law_cell_here","_law_kind"] (aP IK):=bu
noncomputable abbrev IL:Stmt:=eZ (top 31) 1
theorem aC4:bf ["self"] ["self"] (aP IL):=bu
noncomputable abbrev Rc:Stmt:=eZ (top 59) 8
noncomputable abbrev IM:Stmt:=eZ (top 46) 3
theorem Rh:bf ["self","rows"] ["self"] (aP IM):=bu
noncomputable abbrev Ri:Stmt:=eZ (top 60) 8
noncomputable abbrev IQ:Stmt:=eZ (top 31) 3
theorem aC5:bf ["self"] ["self"] (aP IQ):=bu
noncomputable abbrev ou:Stmt:=top 74
theorem jy:bf ["_law_script","_law_told_here","_law_field_here","_law_kind","_law_wide","_law_rows","_law_cell_here","_law_table","_law_handed","_law_code","_law_shown","_law_bound"] ["_law_script"] (aP ou):=bu
set_option genInjectivity false in
set_option genSizeOf false in
structure fF where
 Rj:Addr
 Rk:FuncData
 Rl:Addr
 Rm:FuncData
 Rn:Addr
 Ro:FuncData
 Rp:Addr
 Rq:FuncData
 zQ:Addr
 Rt:FuncData
 IS:Addr
 Ru:FuncData
 Rw:Addr
 Rx:FuncData
 IT:Addr
 IU:FuncData
 Ry:Addr
 Rz:FuncData
 RA:Addr
 RB:FuncData
 RC:Addr
 RD:FuncData
 RE:Addr
 RF:FuncData
 RG:Addr
 RH:FuncData
 IV:Addr
 IW:FuncData
 RI:Addr
 RJ:FuncData
 RK:Addr
 RL:FuncData
 RM:Addr
 RN:FuncData
 RO:Addr
 RP:FuncData
 RQ:Addr
 RU:FuncData
 RV:Addr
 RW:FuncData
 RX:Addr
 RY:FuncData
 IY:Addr
 RZ:FuncData
 IZ:Addr
 R0:FuncData
 I0:Addr
 R1:FuncData
 Ja:Addr
 R3:FuncData
 R4:Addr
 R5:FuncData
 Dv:Addr
 R6:FuncData
 R7:Addr
 R8:FuncData
 R9:Addr
 Sa:FuncData
 Sb:Addr
 Sd:FuncData
 Se:Addr
 Sf:FuncData
 Jb:Addr
 Sg:FuncData
 Jc:Addr
 Sh:FuncData
 Si:Addr
 Sj:FuncData
 Jd:Addr
 Sk:FuncData
 Dw:Addr
 Sl:FuncData
 Sm:Addr
 Sn:FuncData
 So:Addr
 Sq:FuncData
 Sr:Addr
 Ss:FuncData
 Su:Addr
 Sv:FuncData
 Je:Addr
 Sw:FuncData
 Jf:Addr
 Sx:FuncData
 Sy:Addr
 Sz:FuncData
 SA:Addr
 SD:FuncData
 Dx:Addr
 Jg:FuncData
 SE:Addr
 SF:FuncData
 SG:Addr
 SH:FuncData
 SI:Addr
 SJ:FuncData
 Jh:Addr
 SK:FuncData
 SM:Addr
 SN:FuncData
 Ji:Addr
 SO:FuncData
 SQ:Addr
 SR:FuncData
 SS:Addr
 SU:FuncData
 Jj:Addr
 SV:FuncData
 SW:Addr
 aA5:FuncData
 Jk:Addr
 SX:FuncData
 SY:Addr
 aw6:FuncData
 Jl:Addr
 S1:FuncData
 S2:Addr
 S3:FuncData
 S4:Addr
 jT:Addr
 S5:Addr
 jU:Addr
 aN:Addr
 eI:Addr
 bJ:Addr
 kq:Addr
 kr:Addr
 jz:Addr
 dw:Addr
 jA:Addr
 aR:Addr
structure Txt(K:Frag)(mg:Str->Option Value)(t:fF):Prop where
 S6:Fk K mg "_law_told" HA ["_law_cell_here"] t.Rj t.Rk
 Jm:Fk K mg "powers_of" HC ["a","product"] t.Rl t.Rm
 Dy:Fk K mg "step_powers" HD ["many","product"] t.Rn t.Ro
 Dz:Fk K mg "logs_of" HE ["powers"] t.Rp t.Rq
 DA:Fm K "step_power" "Field.step_power" HG ["self","n"] t.zQ t.Rt
 Jn:Fm K "__init__" "Field.__init__" HH ["self","many","product"] t.IS t.Ru
 DB:Fk K mg "makes_prime_field" HI ["prime"] t.Rw t.Rx
 S7:Fm K "__init__" "PrimeField.__init__" oq ["self","prime"] t.IT t.IU
 DC:Fk K mg "product_rows" HJ ["powers","logs"] t.Ry t.Rz
 sD:Fk K mg "bits_divided" HK ["a","b"] t.RA t.RB
 S8:Fk K mg "stands_alone" HL ["a"] t.RC t.RD
 DD:Fk K mg "makes_bit_field" HN ["bits"] t.RE t.RF
 DE:Fk K mg "bits_times" HP ["a","b"] t.RG t.RH
 S9:Fm K "__init__" "BitField.__init__" ot ["self","bits"] t.IV t.IW
 DF:Fk K mg "_law_field" HQ ["_law_told_here"] t.RI t.RJ
 mG:Fk K mg "_law_cell" HR ["_law_script","_law_k"] t.RK t.RL
 wG:Fk K mg "_law_many" HS ["_law_told_here"] t.RM t.RN
 Ta:Fk K mg "_law_times" HU ["_law_told_here","_law_a","_law_b"] t.RO t.RP
 sE:Fk K mg "_law_dependent" HV ["_law_told_here","_law_table","_law_cell_here"] t.RQ t.RU
 qj:Fk K mg "width_of" HW ["table"] t.RV t.RW
 Tc:Fk K mg "first_with" HX ["rows","place"] t.RX t.RY
 Td:Fm K "scaled" "BitField.scaled" HY ["self","a","row"] t.IY t.RZ
 Te:Fm K "scaled" "PrimeField.scaled" HZ ["self","a","row"] t.IZ t.R0
 Tf:Fm K "lessened" "BitField.lessened" Ia ["self","row","a","other"] t.I0 t.R1
 Tg:Fm K "lessened" "PrimeField.lessened" Ib ["self","row","a","other"] t.Ja t.R3
 Jo:Fk K mg "cleared" Ic ["field","rows","lead_row","place"] t.R4 t.R5
 Jp:Fm K "over" "Field.over" Ie ["self","a","b"] t.Dv t.R6
 sF:Fk K mg "reduced" Ig ["field","table"] t.R7 t.R8
 wH:Fk K mg "copied" Ih ["table"] t.R9 t.Sa
 DG:Fk K mg "leads" Ii ["rows"] t.Sb t.Sd
 zR:Fk K mg "free_places" Ij ["rows","width"] t.Se t.Sf
 Th:Fm K "minus" "BitField.minus" Ik ["self","a","b"] t.Jb t.Sg
 Ti:Fm K "minus" "PrimeField.minus" Il ["self","a","b"] t.Jc t.Sh
 zS:Fk K mg "kernel_of_reduced" Im ["field","rows","width"] t.Si t.Sj
 Tj:Fm K "__init__" "Code.__init__" Io ["self","field","checks"] t.Jd t.Sk
 Jq:Fm K "holds" "Field.holds" Ip ["self","x"] t.Dw t.Sl
 zT:Fk K mg "is_small_table" Iq ["field","table"] t.Sm t.Sn
 zU:Fk K mg "rank" Ir ["field","table"] t.So t.Sq
 Tn:Fk K mg "turned" Iu ["table"] t.Sr t.Ss
 To:Fk K mg "is_nought" Iw ["column"] t.Su t.Sv
 Tp:Fm K "times" "BitField.times" Iy ["self","a","b"] t.Je t.Sw
 Tq:Fm K "times" "PrimeField.times" Iz ["self","a","b"] t.Jf t.Sx
 Tr:Fk K mg "past" IA ["field","column","others"] t.Sy t.Sz
 zV:Fk K mg "first_bound" IB ["field","table"] t.SA t.SD
 DH:Fm K "__init__" "CheckCode.__init__" IC ["self","field","table"] t.Dx t.Jg
 DI:Fk K mg "_law_refused" ID ["_law_field_here","_law_table"] t.SE t.SF
 DJ:Fk K mg "_law_mixed" IE ["_law_cell_here","_law_k"] t.SG t.SH
 wI:Fk K mg "_law_free" IF ["_law_told_here","_law_rows","_law_wide","_law_cell_here","_law_kind"] t.SI t.SJ
 Ts:Fm K "rows" "Code.rows" IG ["self"] t.Jh t.SK
 Tt:Fk K mg "kernel" IH ["field","table"] t.SM t.SN
 Tu:Fm K "distance" "CheckCode.distance" II ["self"] t.Ji t.SO
 Tv:Fk K mg "_law_independent" IJ ["_law_told_here","_law_wide","_law_rows","_law_cell_here"] t.SQ t.SR
 Tw:Fk K mg "_law_none" IK ["_law_told_here","_law_wide","_law_rows","_law_cell_here","_law_kind"] t.SS t.SU
 Tx:Fm K "checks" "Code.checks" IL ["self"] t.Jj t.SV
 aL6:Fm K "told" "BitField.told" Rc ["self"] t.SW t.aA5
 Tz:Fm K "told" "CheckCode.told" IM ["self"] t.Jk t.SX
 aK9:Fm K "told" "PrimeField.told" Ri ["self"] t.SY t.aw6
 TB:Fm K "places" "Code.places" IQ ["self"] t.Jl t.S1
 c35:Fk K mg "law" ou ["_law_script"] t.S2 t.S3
 aw8:t.IU.code=.ref t.S4
 aw9:codeHdIn K t.S4 t.jT=true
 aA6:t.IW.code=.ref t.S5
 aA7:codeHdIn K t.S5 t.jU=true
 gz:cY K t.aN
 Jr:Mk K t.aN t.IV
 Js:bt K t.aN "bits"
 wJ:bt K t.aN "logs"
 zW:bt K t.aN "many"
 zX:bt K t.aN "powers"
 wK:bt K t.aN "products"
 Jt:bt K t.aN "step"
 Ju:bt K t.aN "wide"
 Jv:Meth K t.aN "holds" t.Dw
 as5:Meth K t.aN "lessened" t.I0
 az0:Meth K t.aN "minus" t.Jb
 Jw:Meth K t.aN "over" t.Dv
 ax0:Meth K t.aN "scaled" t.IY
 DK:Meth K t.aN "step_power" t.zQ
 az1:Meth K t.aN "times" t.Je
 aL2:Meth K t.aN "told" t.SW
 lC:cY K t.bJ
 DL:Mk K t.bJ t.Dx
 DM:bt K t.bJ "bound"
 wL:bt K t.bJ "check_rows"
 Jx:bt K t.bJ "field"
 wM:bt K t.bJ "length"
 wN:bt K t.bJ "message_places"
 wO:bt K t.bJ "size"
 wQ:bt K t.bJ "word_rows"
 Jy:Meth K t.bJ "checks" t.Jj
 c44:Meth K t.bJ "distance" t.Ji
 Jz:Meth K t.bJ "places" t.Jl
 JA:Meth K t.bJ "rows" t.Jh
 c45:Meth K t.bJ "told" t.Jk
 gU:cY K t.aR
 JB:Mk K t.aR t.IT
 zY:bt K t.aR "logs"
 zZ:bt K t.aR "many"
 DN:bt K t.aR "powers"
 sG:bt K t.aR "prime"
 JC:bt K t.aR "step"
 JE:bt K t.aR "wide"
 JF:Meth K t.aR "holds" t.Dw
 aq8:Meth K t.aR "lessened" t.Ja
 au7:Meth K t.aR "minus" t.Jc
 JG:Meth K t.aR "over" t.Dv
 as6:Meth K t.aR "scaled" t.IZ
 DO:Meth K t.aR "step_power" t.zQ
 au8:Meth K t.aR "times" t.Jf
 aK1:Meth K t.aR "told" t.SY
 c50:vI K t.kq "__init__" t.Jd
 TC:vI K t.kr "__init__" t.IS
 c51:mg "ValueError"=none
 DP:mg "all"=none
 c52:mg "any"=none
 c53:mg "bool"=none
 wR:mg "enumerate"=none
 c54:mg "int"=none
 z9:mg "isinstance"=none
 fA:mg "len"=none
 sH:mg "list"=none
 c55:mg "min"=none
 jV:mg "range"=none
 TF:mg "str"=none
 JH:mg "zip"=none
 JI:mg "BitField"=some (.ref t.aN)
 JJ:mg "ByNought"=some (.ref t.eI)
 DQ:mg "CheckCode"=some (.ref t.bJ)
 JK:mg "Code"=some (.ref t.kq)
 DR:mg "Field"=some (.ref t.kr)
 JL:mg "MendError"=some (.ref t.jz)
 DS:mg "NoCode"=some (.ref t.dw)
 JM:mg "NoSign"=some (.ref t.jA)
 JN:mg "PrimeField"=some (.ref t.aR)
 TH:Ci K mg "ByNought" t.eI
 aL8:tY K t.eI
 aJ3:kitOne K (.ref t.eI) (.ref t.jz)=some true
 aL0:kitOne K (.ref t.eI) (.ref t.jA)=some false
 aL1:PySem.W.exmOne K (.ref t.eI) (.ref t.dw)=some false
 aJ1:kitOne K (.ref t.eI) (.type "ValueError")=some true
 TJ:Ci K mg "NoCode" t.dw
 JO:tY K t.dw
 ax1:kitOne K (.ref t.dw) (.ref t.jz)=some true
 c57:kitOne K (.ref t.dw) (.ref t.jA)=some false
 c59:PySem.W.exmOne K (.ref t.dw) (.ref t.dw)=some true
 c60:kitOne K (.ref t.dw) (.type "ValueError")=some true
 aL3:kitOne K (.type "NoneType") (.ref t.jz)=some false
 dJ0:kitOne K (.type "NoneType") (.ref t.jA)=some false
section
variable{P:Program}{w:World}{K:Frag}{mg:Str->Option Value}{base:Heap}{t:fF}
noncomputable abbrev ku(t:fF)(m:Bool × Nat)(G:List (List Nat))(k:Kd):D:=FC t.aN t.aR t.bJ t.bJ t.bJ m G k
theorem Aa(T:Txt K mg t)(m:Bool × Nat)(G:List (List Nat))(k:Kd){a:Str}{v:D}(n1:bt K t.bJ a)(n2:bt K t.bJ a)(n3:bt K t.bJ a)(ha:a∈sA)(h:(sA.zip (qf t.aN t.aR false m G)).lookup a=some v){Q:D->Prop}(q:Q v):∃C ns xs v,ku t m G k=.obj C ns xs/\cY K C/\bt K C a/\(ns.zip xs).lookup a=some v/\Q v:=by
 have ha:a="field"\/a="length"\/a="check_rows"\/a="word_rows"\/a="message_places"\/a="size":=by simpa only[cq,jC,or_false]using ha
 rcases ha with rfl | rfl | rfl | rfl | rfl | rfl<;>cases k
 all_goals first | exact⟨_,_,_,v,rfl,T.lC,n1,h,q⟩ | exact⟨_,_,_,v,rfl,T.lC,n2,h,q⟩ | exact⟨_,_,_,v,rfl,T.lC,n3,h,q⟩
theorem bN6(T:Txt K mg t)(m:Bool × Nat)(G:List (List Nat))(k:Kd){Q:D->Prop}(q:Q (.int (ak G:Nat))):∃C ns xs v,ku t m G k=.obj C ns xs/\cY K C/\bt K C "length"/\(ns.zip xs).lookup ("length":Str)=some v/\Q v:=Aa T m G k T.wM T.wM T.wM (by decide) rfl q
theorem TK(T:Txt K mg t)(m:Bool × Nat)(G:List (List Nat))(k:Kd){Q:D->Prop}(q:Q (.lst false (au false G))):∃C ns xs v,ku t m G k=.obj C ns xs/\cY K C/\bt K C "check_rows"/\(ns.zip xs).lookup ("check_rows":Str)=some v/\Q v:=Aa T m G k T.wL T.wL T.wL (by decide) rfl q
theorem ce2(T:Txt K mg t)(m:Bool × Nat)(G:List (List Nat))(k:Kd){Q:D->Prop}(q:Q (.lst false (au false (wb m G)))):∃C ns xs v,ku t m G k=.obj C ns xs/\cY K C/\bt K C "word_rows"/\(ns.zip xs).lookup ("word_rows":Str)=some v/\Q v:=Aa T m G k T.wQ T.wQ T.wQ (by decide) rfl q
theorem bT5(T:Txt K mg t)(m:Bool × Nat)(G:List (List Nat))(k:Kd){Q:D->Prop}(q:Q (.lst false (aw (eA m G)))):∃C ns xs v,ku t m G k=.obj C ns xs/\cY K C/\bt K C "message_places"/\(ns.zip xs).lookup ("message_places":Str)=some v/\Q v:=Aa T m G k T.wN T.wN T.wN (by decide) rfl q
theorem ch3(T:Txt K mg t)(m:Bool × Nat)(G:List (List Nat))(k:Kd){Q:D->Prop}(q:Q (.int ((eA m G).length:Nat))):∃C ns xs v,ku t m G k=.obj C ns xs/\cY K C/\bt K C "size"/\(ns.zip xs).lookup ("size":Str)=some v/\Q v:=Aa T m G k T.wO T.wO T.wO (by decide) rfl q
noncomputable abbrev aF9:aZ:=λds Q=>∃c:Int,ds=[.int c]/\Q (dW (pP c))
theorem aG0(T:Txt K mg t):aM P w K mg base aT 1 t.Rj t.Rk ["_law_cell_here"] (bo (aF9 )):=by
 refine bQ T.S6.F HB ?_ ?_
 ·intro ds Q h
  obtain⟨c,rfl,q⟩:=h<;>rfl
 ·intro aG A outer s H E hr
  refine⟨_,(aB (aX (i:=1) HB.nd rfl (ay rfl) (Ov (ns:=[7,11,13,19,25,31,37,41,47,55,59,61,67,73,87,91,97,103,109,115,117]) (by decide +kernel)))
   (aB (aX (i:=2) HB.nd rfl (ay rfl) (Ov (ns:=[2,3,5,7,11,13,17,19,23,29,31,37,41,43,47,53,59,61]) (by decide +kernel)))
   (aB (cM (bM (ff (cy hr)) (aa (aA bY (bv 0) (aa ao))) (aa ao) (bE _)) (aH (aV (yg (di kR (di (cR (bG (bv 1) (aa (aA bY (aa (aA jo (bv 0) (aa ao))) (aa ao))) (λ_ _=>rfl))) du))))) cL)
   (aH (aV (yg (di kR (di (cR (bG (bv 2) (aa (aA bY (aa (aA jo (bv 0) (aa ao))) (aa ao))) (λ_ _=>rfl))) du)))))))),λds Q h=>?_⟩
  obtain⟨c,rfl,q⟩:=h
  refine aC λU hU=>?_
  walk_at"l3"
  refine⟨by decide,hU _ ?_⟩
  clear hU U
  refine aC λU hU=>?_
  walk_at"l3"
  refine⟨by decide,hU _ ?_⟩
  clear hU U
  refine aC λU hU=>?_
  walk_at"l3"
  refine⟨by decide,?_⟩
  have n1:=fm (c/2) (show(21:Int)≠0 by decide)
  have n2:=fE (c/2) (show(0:Int)<21 by decide)
  have n3:=fm (c/2) (show(18:Int)≠0 by decide)
  have n4:=fE (c/2) (show(0:Int)<18 by decide)
  split
  ·rename_i hc
   refine⟨jn (by decide) (by decide),by decide,_,mn n1 (by simpa using n2),rfl,by decide,?_⟩
   have e:dW (pP c)=.tup [.bl true,.int (([7,11,13,19,25,31,37,41,47,55,59,61,67,73,87,91,97,103,109,115,117]:List Int).getD (c/2%21).toNat 0)]:=by
    unfold pP dW
    rw[if_pos hc]
    have:∀k:Nat,((gS.getD k 0:Nat):Int)=([7,11,13,19,25,31,37,41,47,55,59,61,67,73,87,91,97,103,109,115,117]:List Int).getD k 0:=λk=>by
     show _=(gS.map (λ(n:Nat)=>(n:Int))).getD k ((0:Nat):Int)
     rw[aW,aW,cU]
     cases gS[k]?<;>rfl
    rw[<-this]
   rw[<-e];exact q
  ·rename_i hc
   refine hU _ ?_
   walk_at"l3"
   refine⟨jn (by decide) (by decide),by decide,_,mn n3 (by simpa using n4),rfl,by decide,?_⟩
   have e:dW (pP c)=.tup [.bl false,.int (([2,3,5,7,11,13,17,19,23,29,31,37,41,43,47,53,59,61]:List Int).getD (c/2%18).toNat 0)]:=by
    unfold pP dW
    rw[if_neg hc]
    have:∀k:Nat,((nQ.getD k 0:Nat):Int)=([2,3,5,7,11,13,17,19,23,29,31,37,41,43,47,53,59,61]:List Int).getD k 0:=λk=>by
     show _=(nQ.map (λ(n:Nat)=>(n:Int))).getD k ((0:Nat):Int)
     rw[aW,aW,cU]
     cases nQ[k]?<;>rfl
    rw[<-this]
   rw[<-e];exact q
noncomputable abbrev aG1(L:Obj->Obj->Addr->Addr->vG->Prop):aZ:=λds Q=>∃(a:Nat) (of oc:Obj) (c k:Addr) (g:Nat->Nat->Nat) (l:List Int),ds=[.int a,.bx (.lam of oc c k)]/\L of oc c k (zj g)/\a<64/\GY g a=some l/\Q (.lst true (aF l))
theorem TL(T:Txt K mg t):aM P w K mg base aT 5 t.Rl t.Rm ["a","product"] (bo (aG1 (za P w K mg base 4))):=by
 refine bQ T.Jm.F Dq ?_ ?_
 ·intro ds Q h
  obtain⟨a,of,oc,c,k,g,l,rfl,hL,ha,hp,q⟩:=h<;>rfl
 ·intro aG A outer s H E hr
  refine⟨_,(aB (aX (i:=2) Dq.nd rfl (ay rfl) (fc (di ao du)))
   (aB (aX (i:=3) Dq.nd rfl (ay rfl) (O3 (n:=4) (i:=1) rfl (by first | exact ay rfl | exact bV (ay rfl)) (hr.mono (by decide)) (ah (aa ao) (ah (bv 0) az))))
   (aB (uB fM (bM (iK (cy hr)) (bv 3) (aa ao) (bE _))
    (aB (pq (i:=2) rfl (by first | exact ay rfl | exact bV (ay rfl)) (cR (bv 3)))
    (aH (aX (i:=3) Dq.nd rfl (ay rfl) (O3 (n:=4) (i:=1) rfl (by first | exact ay rfl | exact bV (ay rfl)) (hr.mono (by decide)) (ah (bv 3) (ah (bv 0) az)))))))
   (aH (aV (em 2)))))),λds Q h=>?_⟩
  obtain⟨a,of,oc,c,k,g,l,rfl,hL,ha,hp,q⟩:=h
  refine aC λU hU=>?_
  walk_at"l3"
  refine⟨by decide,hU _ ?_⟩
  clear hU U
  refine aC λU hU=>?_
  walk_at"l3"
  refine⟨of,oc,c,k,zj g,rfl,hL,1,a,⟨rfl,rfl⟩,1,a,rfl,rfl,by decide,ha,hU _ ?_⟩
  clear hU U
  refine aC λU hU=>?_
  walk_at"l3"
  refine⟨λm δ=>∃(p:Nat) (acc:List Int),δ=[some (.int a),some (.bx (.lam of oc c k)),some (.lst true (aF acc)),some (.int p)]/\acc.length+m<=70/\CC g a m p acc=some l,⟨64,_,[1],rfl,by decide,hp⟩,?_⟩
  rintro m δ ⟨p,acc,rfl,hn,hg⟩
  walk_at"l3"
  cases m with
  | zero=>cases hg
  | succ m =>
   unfold CC at hg
   split at hg
   ·rename_i h1
    subst h1
    cases hg
    rw[if_neg (by simp)]
    refine hU _ ?_
    walk_at"l3"
    exact q
   ·rename_i h1
    rw[if_pos (by simp;omega)]
    split at hg
    ·rename_i h2
     clear hU
     refine aC λU hU=>?_
     walk_at"l3"
     refine⟨⟨_,rfl⟩,by omega,hU _ ?_⟩
     clear hU
     walk_at"l3"
     exact⟨of,oc,c,k,zj g,rfl,hL,p,a,⟨rfl,rfl⟩,p,a,rfl,rfl,h2,ha,m,by omega,g p a,acc++[(p:Int)],⟨by rw[<-rQ];rfl,rfl⟩,by simp;omega,hg⟩
    ·cases hg
noncomputable abbrev aC6(L:Obj->Obj->Addr->Addr->vG->Prop):aZ:=λds Q=>∃(n:Nat) (of oc:Obj) (c k:Addr) (g:Nat->Nat->Nat) (l:List Int),ds=[.int n,.bx (.lam of oc c k)]/\L of oc c k (zj g)/\zi g n=some l/\Q (.lst true (aF l))
theorem aC7(T:Txt K mg t):aM P w K mg base aT 6 t.Rn t.Ro ["many","product"] (bo (aC6 (za P w K mg base 4))):=by
 refine bQ T.Dy.F zP ?_ ?_
 ·intro ds Q h
  obtain⟨n,of,oc,c,k,g,l,rfl,hL,hp,q⟩:=h<;>rfl
 ·intro aG A outer s H E hr
  refine⟨_,(aB (aX (i:=2) zP.nd rfl (ay rfl) ao)
   (aB (aX (i:=3) zP.nd rfl (ay rfl) (bB T.Jm (TL T) hr (ah (bv 2) (ah (bv 1) az))))
   (aB (uB fM (bM rD (aa (dU (fI) (by rfl) T.fA ft (ah (bv 3) az))) (aa (aA jm (bv 0) (aa ao))) (bE _))
    (aB (BZ (i:=2) zP.nd rfl (ay rfl) (aa ao) ct0)
    (aH (aX (i:=3) zP.nd rfl (ay rfl) (bB T.Jm (TL T) hr (ah (bv 2) (ah (bv 1) az)))))))
   (aH (aV (em 3)))))),λds Q h=>?_⟩
  obtain⟨n,of,oc,c,k,g,l,rfl,hL,hp,q⟩:=h
  unfold zi at hp
  split at hp
  ·rename_i l0 h0
   refine aC λU hU=>?_
   walk_at"l3"
   refine hU _ ?_
   clear hU U
   refine aC λU hU=>?_
   walk_at"l3"
   refine⟨1,of,oc,c,k,g,l0,rfl,hL,by decide,h0,hU _ ?_⟩
   clear hU U
   refine aC λU hU=>?_
   walk_at"l3"
   refine⟨λm δ=>∃(st:Nat) (l1:List Int),δ=[some (.int n),some (.bx (.lam of oc c k)),some (.int st),some (.lst true (aF l1))]/\st+m<=63/\CD g n m st l1=some l,⟨62,1,l0,rfl,by decide,hp⟩,?_⟩
   rintro m δ ⟨st,l1,rfl,hn,hg⟩
   walk_at"l3"
   cases m with
   | zero=>cases hg
   | succ m =>
    unfold CD at hg
    split at hg
    ·rename_i h1
     rw[if_pos (by omega)]
     split at hg
     ·rename_i l2 h2
      clear hU
      refine aC λU hU=>?_
      walk_at"l3"
      refine hU _ ?_
      clear hU
      walk_at"l3"
      exact⟨st+1,of,oc,c,k,g,l2,rfl,hL,by omega,h2,m,by omega,st+1,l2,⟨rfl,rfl⟩,by omega,hg⟩
     ·cases hg
    ·rename_i h1
     rw[if_neg (by omega)]
     cases hg
     refine hU _ ?_
     walk_at"l3"
     exact q
  ·cases hp
noncomputable abbrev aJ4:aZ:=λds Q=>∃(l:List Int),ds=[.lst false (aF l)]/\l.length<=64/\(∀x∈l,0<=x/\x.toNat<=l.length)/\Q (.lst true (aF (eO l)))
theorem aJ5(T:Txt K mg t):aM P w K mg base aT 1 t.Rp t.Rq ["powers"] (bo (aJ4 )):=by
 refine bQ T.Dz.F HF ?_ ?_
 ·intro ds Q h
  obtain⟨l,rfl,hl,hx,q⟩:=h<;>rfl
 ·intro aG A outer s H E hr
  refine⟨_,(aB (aX (i:=1) HF.nd rfl (ay rfl) (aA iJ (aa (fc (di ao du))) (aa (aA cT (aa (dU (fI) (by rfl) T.fA ft (ah (bv 0) az))) (aa ao)))))
   (aB (ji fM rfl (vx rfl T.wR (ah (bv 0) az)) (vz (i1:=2) (i2:=3) rfl HF.nd rfl (ay rfl) rfl (ay rfl))
    (aH (Cd (i:=1) rfl (by first | exact ay rfl | exact bV (ay rfl)) (cR (bv 2)) (bv 3))))
   (aH (aV (em 1))))),λds Q h=>?_⟩
  obtain⟨l,rfl,hl,hx,q⟩:=h
  refine aC λU hU=>?_
  walk_at"l3"
  refine⟨by decide,⟨by omega,by omega,by omega⟩,hU _ ?_⟩
  clear hU U
  refine aC λU hU=>?_
  walk_at"l3"
  refine jh.mk (λi δ=>∃o1 o2,δ=[some (.lst false (aF l)),some (.lst true (aF (nR l i))),o1,o2]) ⟨none,none,?_⟩ ?_ ?_
  ·rw[show((l.length:Int)+1).toNat=l.length+1 by omega];rfl
  ·rintro i d δ hd ⟨o1,o2,rfl⟩
   obtain⟨hi,rfl⟩:∃h:i<l.length,d=.tup [.int i,.int l[i]]:=by
    unfold gQ aF at hd
    rw[EC,cU]at hd
    by_cases hi:i<l.length
    ·rw[bc hi]at hd
     simp at hd
     exact⟨hi,hd.symm⟩
    ·rw[iy (by omega)]at hd;simp at hd
   have cO:=hx l[i] (eN _)
   walk_at"l3"
   refine⟨_,(l[i]).toNat,rfl,?_,_,_,?_,rfl,rfl⟩
   ·unfold gL
    rw[nK,zk,if_pos cO.1,if_pos (by omega)]
   ·unfold aF
    rw[<-AO]
    congr 1
    show _=(nR l i).set (l.getD i 0).toNat (i:Int)
    rw[aW,bc hi];rfl
  ·rintro δ ⟨o1,o2,rfl⟩
   refine hU _ ?_
   simp only[uu,rp,uv,uw,dT,m9,m8,oW,dC,kQ,oZ,oY,oX,rh,uq,nB,u5,rN,u7,u9,ug,uh,uj,uk,uo,q9,u3,rH,ph,ii,rB,uK,rC,uL,uM,uN,uO,uQ,uR,uS,iI,ik,uT,uU,uV,uW,rE,pd,uZ,u0,gN,va,u4,uz,uD,uE,uF,uG,uH,vd,ve,rz,kT,gq,jN,jk,s9,sW,AW,AX,rj,jL,ke,rK,rL,vj,vk,vm,vn,vp,pF,mq,vB,rR,yZ,rS,vv,jr,mr,yX,yY,cN,jY,jZ,qt,ix,AY,bg,tD,tE,iT,iU,xt,exists_eq_left',exists_eq_left,D.bl.injEq,D.int.injEq,D.lst.injEq,D.fz.injEq,D.str.injEq,D.tup.injEq,AZ,and_true,true_and,dh,tf,mP,lJ,yu,yv,yw,yx,yy,yA,ig,kP,nJ,yF,yG,yH,yI,yJ,cP,l9,yB,yC,yD,yE,fG,qY,A6,A8,sT,iz,Ba,Bb,xf,yN,yO,yP,yQ,yR,yS,yT,nK,pz,rP,jq,rQ,yL,vi,yK,mm,yM,kh,vh,if_true,qv,if_false,reduceIte,yU,decide_eq_true_eq,eV,ki,pG,y7,rT,y0,y6,uA,vH,si,vw,rX,rY,rZ,vJ,vQ,vW,vX,dv,vS,gw,zF,sq,v9,wa,wc,we,wg,wk,wm,wo,vt]
   exact q
noncomputable abbrev JP(K:Frag):aZ:=λds Q=>∃(C:Addr) (ns:List Str) (xs:List D) (n:Int) (many:Nat) (l:List Int) (r:Int),ds=[.obj C ns xs,.int n]/\cY K C/\bt K C "powers"/\bt K C "many"/\(ns.zip xs).lookup ("powers":Str)=some (.lst false (aF l))/\(ns.zip xs).lookup ("many":Str)=some (.int many)/\2<=many/\l[(n%((many:Int)-1)).toNat]?=some r/\Q (.int r)
theorem JQ(T:Txt K mg t):aM P w K mg base aT 1 t.zQ t.Rt ["self","n"] (bo (JP K)):=by
 refine bQ T.DA.F au4 ?_ ?_
 ·intro ds Q h
  obtain⟨C,ns,xs,n,many,l,r,rfl,hC,h1,h2,h3,h4,h5,h6,q⟩:=h<;>rfl
 ·intro aG A outer s H E hr
  refine⟨_,(aH (aV (cR (bG (gu (K:=K) (bv 0)) (aa (aA bY (bv 1) (aa (aA jm (gu (K:=K) (bv 0)) (aa ao))))) (λ_ _=>rfl))))),λds Q h=>?_⟩
  obtain⟨C,ns,xs,n,many,l,r,rfl,hC,h1,h2,h3,h4,h5,h6,q⟩:=h
  walk_at"l3"
  refine⟨C,ns,xs,_,rfl,hC,h1,h3,C,ns,xs,_,rfl,hC,h2,h4,?_⟩
  refine⟨by omega,_,lY (d:=.int r) (fm _ (by omega)) ?_,rfl,q⟩
  unfold aF
  rw[cU,h6];rfl
noncomputable abbrev aD7(P:Program)(w:World)(K:Frag)(mg:Str->Option Value)(base:Heap)(fs:Addr):Sp:=λvs H Q _=>∃(x dx f C:Addr) (b:Str) (n0:Int) (many:Nat) (of oc:Obj) (c k:Addr) (g:Nat->Nat->Nat) (l:List Int) (st:Int),
 vs=[.ref x,.int many,.ref f]/\H x=some (.ins C dx [(b,.int n0)])/\(∀n∈(["many","wide","powers","logs","step","step_power"]:List Str),b≠n)/\cO9 K C fs/\ka H f of oc c k/\za P w K mg base 4 of oc c k (zj g)/\Pn g many l st /\
 ∀H' p1 p2,bS x H H'->H' x=some (.ins C dx ((iu b).zip (CF n0 many p1 p2 st)))->LI H' p1 l->LI H' p2 (eO l)->p1≠p2->H p1=none->H p2=none->Q .aq H'
theorem TM(T:Txt K mg t):aM P w K mg base aT 7 t.IS t.Ru ["self","many","product"] (aD7 P w K mg base t.zQ):=by
 refine T.Jn.F.ok aD3 (λvs H Q E h=>?_) λaG A outer s H vs Q E hr h=>?_
 ·obtain⟨x,dx,f,C,b,n0,many,of,oc,c,k,g,l,st,rfl,_⟩:=h;rfl
 obtain⟨x,dx,f,C,b,n0,many,of,oc,c,k,g,l,st,rfl,hx,hb,hC,c73,hL,hF,q⟩:=h
 refine⟨_,fP (iC (pv 0) (pv 1) rfl) (fP (iC (pv 0) (xO E5 (Fu (pv 1)) tK) rfl)
  (fP (iC (pv 0) (iD ((aC7 T).mono (by decide)) hr rfl T.Dy.g T.Dy.F.kp T.Dy.b .nil eE (cE (pv 1) (cE (pv 2) fo))) rfl)
  (fP (iC (pv 0) (iD ((aJ5 T).mono (by decide)) hr rfl T.Dz.g T.Dz.F.kp T.Dz.b .nil eE (cE (qO (pv 0) rfl) fo)) rfl)
  (kI (iC (pv 0) (XS (pv 0) hC.cls hC.sp ((JQ T).mono (by decide)) hr T.DA.b .nil eE (cE tK fo)) rfl))))),?_⟩
 try dsimp only[mq,mr]
 have nb:∀n∈(["many","wide","powers","logs","step","step_power"]:List Str),b≠n:=hb
 refine⟨.int many,rfl,.ref x,rfl,x,C,dx,_,rfl,hx,hC.cls,hC.many,mL (bD 1) (by decide),?_⟩
 rw[vL (by simpa using nb "many" (by simp))]
 generalize e1:upd H x (HO.ins C dx ([(b,V.int n0)]++[(("many":Str),V.int many)]))=H1
 have cO:H1 x=some (.ins C dx [(b,V.int n0),(("many":Str),V.int many)]):=by rw[<-e1,br];rfl
 have s1:bS x H H1:=by rw[<-e1];exact bS.upd (C:=C) (dx:=dx) hx rfl
 have l1:ka H1 f of oc c k:=by rw[<-e1];exact c73.se hx
 have n1:∀p,H1 p=none->H p=none:=λp h=>zo hx (by rw[e1];exact h)
 refine⟨_,rfl,rfl,_,rfl,rfl,_,_,rfl,rfl,.ref x,rfl,x,C,dx,_,rfl,cO,hC.cls,hC.wide,mL (bD 2) (by decide),?_⟩
 rw[vL (by simp;exact⟨nb "wide" (by simp),by decide⟩),iV]
 generalize e2:upd H1 x (HO.ins C dx ([(b,V.int n0),(("many":Str),V.int many)]++[(("wide":Str),V.int ((bl many:Nat)-1))]))=H2
 have dJ:H2 x=some (.ins C dx [(b,V.int n0),(("many":Str),V.int many),(("wide":Str),V.int ((bl many:Nat)-1))]):=by rw[<-e2,br];rfl
 have s2:bS x H H2:=by rw[<-e2];exact s1.trans (bS.upd (C:=C) (dx:=dx) cO rfl)
 have l2:ka H2 f of oc c k:=by rw[<-e2];exact l1.se cO
 have n2:∀p,H2 p=none->H p=none:=λp h=>n1 p (zo cO (by rw[e2];exact h))
 refine⟨_,rfl,_,rfl,H2,[.int many,.bx (.lam of oc c k)],λd=>d=.lst true (aF l),ae.refl _,.int (.bx l2 .nil),⟨many,of,oc,c,k,g,l,rfl,hL,hF.step,rfl⟩,λd v F' H3 A' hd hs hf he h3 r nd fr=>?_⟩
 subst hd
 obtain⟨p1,rfl,hp1,Ab⟩:=Pm r fr
 have gI:=hs.get _ _ dJ
 have s3:=s2.trans (hs.x (x:=x))
 refine⟨.ref x,rfl,x,C,dx,_,rfl,gI,hC.cls,hC.GZ,mL (bD 3) (by decide),?_⟩
 rw[vL (by simp;exact⟨nb "powers" (by simp),by decide,by decide⟩)]
 generalize e4:upd H3 x (HO.ins C dx ([(b,V.int n0),(("many":Str),V.int many),(("wide":Str),V.int ((bl many:Nat)-1))]++[(("powers":Str),V.ref p1)]))=H4
 have ky:H4 x=some (.ins C dx [(b,V.int n0),(("many":Str),V.int many),(("wide":Str),V.int ((bl many:Nat)-1)),(("powers":Str),V.ref p1)]):=by rw[<-e4,br];rfl
 have s4:bS x H H4:=by rw[<-e4];exact s3.trans (bS.upd (C:=C) (dx:=dx) gI rfl)
 have p4:LI H4 p1 l:=by rw[<-e4];exact hp1.upd gI (λws z=>by cases z)
 have n4:∀p,H4 p=none->H p=none:=λp h=>n2 p (hs.free (zo gI (by rw[e4];exact h)))
 refine⟨.ref x,rfl,x,C,dx,_,.ref p1,rfl,ky,hC.cls,hC.GZ,by rw[CG (nb "powers" (by simp))];rfl,H4,[.lst false (aF l)],λd=>d=.lst true (aF (eO l)),ae.refl _,.shr p4 (kY l) .nil,⟨l,rfl,by have:=hF.len;have:=hF.hi;omega,hF.ins,rfl⟩,λd v F' H5 A' hd kz hf he h3 r nd fr=>?_⟩
 subst hd
 obtain⟨p2,rfl,wj,oo⟩:=Pm r fr
 have iO:=kz.get _ _ ky
 have s5:=s4.trans (kz.x (x:=x))
 have c75:p1≠p2:=λz=>by rw[<-z]at oo;unfold LI at p4;rw[oo]at p4;cases p4
 refine⟨.ref x,rfl,x,C,dx,_,rfl,iO,hC.cls,hC.cP0,mL (bD 4) (by decide),?_⟩
 rw[vL (by simp;exact⟨nb "logs" (by simp),by decide,by decide,by decide⟩)]
 generalize e6:upd H5 x (HO.ins C dx ([(b,V.int n0),(("many":Str),V.int many),(("wide":Str),V.int ((bl many:Nat)-1)),(("powers":Str),V.ref p1)]++[(("logs":Str),V.ref p2)]))=H6
 have qk:H6 x=some (.ins C dx (([b,"many","wide","powers","logs"]:List Str).zip [V.int n0,V.int many,V.int ((bl many:Nat)-1),V.ref p1,V.ref p2])):=by rw[<-e6,br];rfl
 have s6:bS x H H6:=by rw[<-e6];exact s5.trans (bS.upd (C:=C) (dx:=dx) iO rfl)
 have p6:LI H6 p1 l:=by rw[<-e6];exact(p4.same kz).upd iO (λws z=>by cases z)
 have q6:LI H6 p2 (eO l):=by rw[<-e6];exact wj.upd iO (λws z=>by cases z)
 refine⟨.ref x,rfl,x,dx,_,rfl,qk,by show mI ("step_power":Str) ((b,V.int n0)::_)=none;rw[CG (nb "step_power" (by simp))];rfl,H6,[.obj C [b,"many","wide","powers","logs"] [.int n0,.int many,.int ((bl many:Nat)-1),.lst false (aF l),.lst false (aF (eO l))],.int 1],λd=>d=.int st,ae.refl _,
  .obj qk rfl (.int (.int (.int (.shr p6 (kY l) (.shr q6 (kY _) .nil))))) (.int .nil),⟨C,_,_,1,many,l,st,rfl,hC.cls,hC.GZ,hC.many,by show mI ("powers":Str) ((b,D.int n0)::_)=_;rw[CG (nb "powers" (by simp))];rfl,by show mI ("many":Str) ((b,D.int n0)::_)=_;rw[CG (nb "many" (by simp))];rfl,hF.lo,hF.st,rfl⟩,λd v F' H7 A' hd ow hf he h3 r nd fr=>?_⟩
 subst hd
 cases r
 have mH:=ow.get _ _ qk
 refine⟨.ref x,rfl,x,C,dx,_,rfl,mH,hC.cls,hC.step,mL (bD 5) (by decide),?_⟩
 rw[vL (by simp;exact⟨nb "step" (by simp),by decide,by decide,by decide,by decide⟩)]
 refine q _ p1 p2 ((s6.trans (ow.x (x:=x))).trans (bS.upd (C:=C) (dx:=dx) mH rfl)) (by rw[br];rfl) ((p6.same ow).upd mH (λws z=>by cases z)) ((q6.same ow).upd mH (λws z=>by cases z)) c75 (n2 p1 Ab) (n4 p2 oo)
noncomputable abbrev as9:aZ:=λds Q=>∃a:Int,ds=[.int a]/\Q (.bl (decide (2<=a)&&decide (a<=61)&&(bh (a.toNat-2)).all λi=>a%(2+(i:Int)) != 0))
theorem at0(T:Txt K mg t):aM P w K mg base aT 1 t.Rw t.Rx ["prime"] (bo (as9 )):=by
 refine bQ T.DB.F as4 ?_ ?_
 ·intro ds Q h
  obtain⟨a,rfl,q⟩:=h<;>rfl
 ·intro aG A outer s H E hr
  refine⟨_,(aH (aV (um (aa (Ge yo yo (aa ao) (bv 0) (aa ao))) (Bl (dU (Cb rfl) (by rfl) T.DP BN (ah (aa (dZ [("prime",0)] ["d"] rfl (B5 rfl T.jV (ah (aa ao) (ah (bv 0) az))) (λ_ _ _ _=>(eH (i:=1) (show(["prime","d"]:List Str).Nodup by decide +kernel))) (λ_ _ _ _=>dS) (λ_ _ _ _=>(BY (iK (cy hr)) (aa (aA bY (bv 0) (bv 1))) (aa ao) (bE _))) rfl)) az)))))),λds Q h=>?_⟩
  obtain⟨a,rfl,q⟩:=h
  walk_at"l3"
  split
  ·rename_i h1
   split
   ·rename_i h2
    refine⟨2,a,⟨rfl,rfl⟩,⟨by decide,by decide,by omega,by omega⟩,?_⟩
    have e0:(a-2).toNat=a.toNat-2:=by omega
    rw[e0]
    refine fv (bh (a.toNat-2)) (λ(k:Nat)=>D.int (2+(k:Int))) (λ(k:Nat)=>D.bl (a%(2+(k:Int)) != 0)) (by rw[yj]) (λx y h=>by injection h with h;omega) (λk hk=>?_) (.inr λ_ _=>rfl) (by rw[fk,sL];omega) ?_
    ·walk_at"l3"
     refine⟨by omega,?_⟩
     by_cases z:a%(2+(k:Int))=0<;>simp[z]
    ·refine⟨(bh (a.toNat-2)).map λ(k:Nat)=>a%(2+(k:Int)) != 0,?_,?_⟩
     ·unfold pj;rw[b8];rfl
     ·have e:(decide (2<=a)&&decide (a<=61)&&(bh (a.toNat-2)).all λi=>a%(2+(i:Int)) != 0)=((bh (a.toNat-2)).map λ(k:Nat)=>a%(2+(k:Int)) != 0).all id:=by
       simp[h1,h2,lL]
      rw[<-e];exact q
   ·rename_i h2
    have e:(decide (2<=a)&&decide (a<=61)&&(bh (a.toNat-2)).all λi=>a%(2+(i:Int)) != 0)=false:=by simp[h2]
    rw[e]at q;exact q
  ·rename_i h1
   have e:(decide (2<=a)&&decide (a<=61)&&(bh (a.toNat-2)).all λi=>a%(2+(i:Int)) != 0)=false:=by simp[h1]
   rw[e]at q;exact q
noncomputable abbrev aC8:List D->List Str->List D->Prop:=λds ns xs=>∃p:Nat,ds=[.int p]/\p∈nQ/\ns=iu "prime"/\xs=[.int p,.int p,.int ((bl p:Nat)-1),.lst true (aF (fl (false,p))),.lst true (aF (eO (fl (false,p)))),.int (fst (false,p))]
theorem ax3(T:Txt K mg t)(hB:Bm mg base):aM P w K mg base aT 8 t.IT t.IU ["self","prime"] (GX [t.jT,t.jU] t.aR aC8):=by
 refine Pk T.S7.F T.aw8 av5 (λvs H Q E h=>?_) λA outer s H vs Q E hr h=>?_
 ·obtain⟨x,dx,bW,ds,ns,xs,rfl,_,_,r,⟨p,rfl,_⟩,_⟩:=h
  have:=r.length
  simp at this
  simp[this]
 obtain⟨x,dx,bW,ds,ns,xs,rfl,tb,hx,r,⟨p,rfl,hp,rfl,rfl⟩,q⟩:=h
 obtain rfl:bW=[.int p]:=by
  cases r with
  | int r=>cases r;rfl
 have hm:(false,p)∈aJ:=cI _ (EF hp)
 have hF:=cW hm
 refine⟨_,fP (xD (Bk (Bi (iD ((at0 T).mono (by decide)) hr rfl T.DB.g T.DB.F.kp T.DB.b .nil eE (cE (pv 1) fo)))) (kI Bq) tL)
  (fP (iC (pv 0) (pv 1) rfl)
  (kI (Bp (Pc (E:=E0) (i:=1) T.TC ((TM T).mono (by decide)) hr T.Jn.b rfl T.DR rfl rfl rfl rfl (cE (pv 0) (cE (pv 1) (cE (O4 rfl rfl T.aw9 hB) fo))))))),?_⟩
 try dsimp only[mq,mr]
 refine⟨_,rfl,H,[.int p],λd=>d=.bl true,ae.refl _,.int .nil,⟨p,rfl,by rw[bW8 p hp]⟩,λd v F' H1 A1 hd fX hf he h3 r nd fr=>?_⟩
 subst hd
 cases r
 refine⟨true,rfl,?_⟩
 refine kN ?_
 have cO:=fX.get _ _ hx
 refine⟨.int p,rfl,.ref x,rfl,x,t.aR,dx,_,rfl,cO,T.gU,T.sG,by decide,?_⟩
 generalize e2:upd H1 x (HO.ins t.aR dx (bK "prime" (.int p) []))=H2
 have dJ:H2 x=some (.ins t.aR dx [(("prime":Str),.int p)]):=by rw[<-e2,br];rfl
 have s2:bS x H H2:=by rw[<-e2];exact(fX.x (x:=x)).trans (bS.upd (C:=x) (dx:=dx) cO rfl)
 have n2:∀p,H2 p=none->H p=none:=λp h=>fX.free (zo cO (by rw[e2];exact h))
 obtain⟨ps,hP⟩:=tb t.jT (by simp)
 obtain⟨more,JR⟩:=s2.tb _ ps hP
 refine⟨.ref x,rfl,.int p,rfl,⟨_,JR⟩,λf k qn pm jt H3 nf Ac hk kf gW hl3=>?_⟩
 refine⟨f,_,_,.int p,Ac,rfl,rfl,λoc u iZ hu nc pK=>?_⟩
 obtain⟨tm,rfl⟩:∃tm,u=wX p tm:=hu
 have gI:=gW.get _ _ dJ
 refine⟨x,dx,f,t.aR,"prime",p,p,_,oc,_,k,gm (false,p),fl (false,p),fst (false,p),rfl,zr gI (λz=>by rw[z,nf]at dJ;cases dJ) nc,by decide,⟨T.gU,T.zZ,T.JE,T.DN,T.zY,T.JC,T.DO⟩,Pp pK nc hk kf,?_,hF,λH' p1 p2 sx dD JS BK ne Ab oo=>?_⟩
 ·refine Ph (n:=3) ⟨rfl,rfl,rfl,by decide,rfl,rfl,by decide,by decide,rfl⟩ iZ (λu1 u2=>rfl) λq f A outer s H E hr=>?_
  refine⟨_,aA bY (aa (aA iJ (bv 0) (bv 1))) (bv 2),λi j Qd h=>?_⟩
  obtain⟨a,b,rfl,rfl,ha,hb,hq⟩:=h
  walk_at"l3"
  have hp0:2<=p:=hF.lo
  refine⟨jG.ok (.inr ⟨by omega,by omega⟩),by omega,?_⟩
  have e:((gm (false,p) a b:Nat):Int)=(a:Int)*b%p:=by
   show((a*b%p:Nat):Int)=_
   rw[tu,xu]
  rw[<-e];exact hq
 ·have gf:H' f=some (.ext (jJ _ oc _ f)):=sx.get f _ (λz=>by rw[z]at nf;rw[nf]at dJ;cases dJ) (by rw[aL pK.symm,br]) rfl
  have gc:=sx.get _ _ (dH gI nc).symm br rfl
  refine⟨gf,gc,?_⟩
  refine q _ (CF p p p1 p2 (fst (false,p))) [p1,p2] (s2.trans (Po gW nf nc sx)) ?_ rfl ?_ (by simp[ne]) (λa ha=>?_)
  ·rw[ir (λz=>by rw[z,gf]at dD;cases dD) (λz=>by rw[z,gc]at dD;cases dD)];exact dD
  ·exact .int (.int (.int (.own (JS.rem gf gc) rfl (kY _) (.own (BK.rem gf gc) rfl (kY _) (.int .nil)))))
  ·simp at ha
   rcases ha with rfl | rfl
   ·exact n2 _ (CH gW Ab)
   ·exact n2 _ (CH gW oo)
noncomputable abbrev aB5:aZ:=λds Q=>∃(l g:List Int),ds=[.lst false (aF l),.lst false (aF g)]/\1<=l.length/\l.length<=63/\g.length=l.length+1/\(∀x∈g,0<=x)/\Q (.lst true (pO l g))
theorem aB6(T:Txt K mg t):aM P w K mg base aT 1 t.Ry t.Rz ["powers","logs"] (bo (aB5 )):=by
 refine bQ T.DC.F Dr ?_ ?_
 ·intro ds Q h
  obtain⟨l,g,rfl,h1,h2,h3,h4,q⟩:=h<;>rfl
 ·intro aG A outer s H E hr
  refine⟨_,(aB (aX (i:=2) Dr.nd rfl (bV rfl) (aA cT (aa (dU (fI) (by rfl) T.fA ft (ah (bv 0) az))) (aa ao)))
   (aB (aX (i:=3) Dr.nd rfl (ay rfl) (fc (di (aA iJ (aa (fc (di ao du))) (bv 2)) du)))
   (aB (ji fM rfl (B5 rfl T.jV (ah (aa ao) (ah (bv 2) az))) (mf (i:=4) Dr.nd rfl (bV rfl))
    (aH (pq (i:=3) rfl (by first | exact ay rfl | exact bV (ay rfl)) (aA cT (aa (fc (di ao du))) (aa (dZ [("powers",0),("many",2),("logs",1),("a",4)] ["b"] rfl (B5 rfl T.jV (ah (aa ao) (ah (bv 2) az))) (λ_ _ _ _=>(eH (i:=4) (show(["powers","many","logs","a","b"]:List Str).Nodup by decide +kernel))) (λ_ _ _ _=>dS) (λ_ _ _ _=>(cR (bG (bv 0) (aa (aA bY (aa (aA cT (bG (bv 2) (bv 3) (λ_ _=>rfl)) (bG (bv 2) (bv 4) (λ_ _=>rfl)))) (aa (aA jm (bv 1) (aa ao))))) (λ_ _=>rfl)))) rfl))))))
   (aH (aV (em 3)))))),λds Q h=>?_⟩
  obtain⟨l,g,rfl,h1,h2,h3,h4,q⟩:=h
  refine aC λU hU=>?_
  walk_at"l3"
  refine hU _ ?_
  clear hU U
  refine aC λU hU=>?_
  walk_at"l3"
  refine⟨by decide,⟨by omega,by omega,by omega⟩,by decide,hU _ ?_⟩
  clear hU U
  refine aC λU hU=>?_
  walk_at"l3"
  refine⟨1,(l.length:Int)+1,⟨rfl,rfl⟩,⟨by decide,by decide,by omega,by omega⟩,?_⟩
  have en:((l.length:Int)+1-1).toNat=l.length:=by omega
  rw[en]
  refine jh.mk (λi δ=>∃o,δ=[some (.lst false (aF l)),some (.lst false (aF g)),some (.int ((l.length:Int)+1)),some (.lst true (vK l g (i+1))),o]) ⟨none,?_⟩ ?_ ?_
  ·rw[show((l.length:Int)+1).toNat=l.length+1 by omega];rfl
  ·rintro i d δ hd ⟨o,rfl⟩
   obtain⟨hi,rfl⟩:i<l.length/\d=.int (1+(i:Int)):=by
    rw[cU]at hd
    by_cases hi:i<l.length
    ·rw[mO hi]at hd
     exact⟨hi,(dq hd).symm⟩
    ·rw[iy (by simpa using hi)]at hd;cases hd
   walk_at"l3"
   refine⟨⟨_,rfl⟩,by decide,1,(l.length:Int)+1,⟨rfl,rfl⟩,⟨by decide,by decide,by omega,by omega⟩,?_⟩
   rw[en]
   refine fv (bh l.length) (λ(k:Nat)=>D.int (1+(k:Int))) (λ(k:Nat)=>D.int (l.getD ((g.getD (i+1) 0+g.getD (k+1) 0)%(l.length:Int)).toNat 0)) (by rw[yj]) (λx y h=>by injection h with h;omega) (λk hk=>?_) (.inr λ_ _=>rfl) (by rw[fk,sL];omega) ?_
   ·have Qe:=eJ.mp hk
    walk_at"l3"
    have e1:(1+(i:Int)).toNat=i+1:=by omega
    have e2:(1+(k:Int)).toNat=k+1:=by omega
    have e3:(l.length:Int)+1-1=l.length:=by omega
    have n0:=fm (g.getD (i+1) 0+g.getD (k+1) 0) (show(l.length:Int)≠0 by omega)
    have n1:=fE (g.getD (i+1) 0+g.getD (k+1) 0) (show(0:Int)<l.length by omega)
    refine⟨_,mn (by omega) (by omega),_,mn (by omega) (by omega),?_⟩
    rw[e1,e2,e3]
    exact⟨by omega,_,mn n0 n1,rfl,rfl⟩
   ·walk_at"l3"
    refine⟨⟨by simp;omega,by rw[lL,cX];intro x _;rfl⟩,by simp[vK];omega,_,?_,rfl⟩
    unfold vK
    rw[LM (n:=i+1),dy]
    congr 1
    show _=[D.lst true (aF (pM l g (i+1)))]
    unfold pM
    rw[if_neg (by omega)]
    unfold aF
    rw[cN,b8];rfl
  ·rintro δ ⟨o,rfl⟩
   refine hU _ ?_
   simp only[uu,rp,uv,uw,dT,m9,m8,oW,dC,kQ,oZ,oY,oX,rh,uq,nB,u5,rN,u7,u9,ug,uh,uj,uk,uo,q9,u3,rH,ph,ii,rB,uK,rC,uL,uM,uN,uO,uQ,uR,uS,iI,ik,uT,uU,uV,uW,rE,pd,uZ,u0,gN,va,u4,uz,uD,uE,uF,uG,uH,vd,ve,rz,kT,gq,jN,jk,s9,sW,AW,AX,rj,jL,ke,rK,rL,vj,vk,vm,vn,vp,pF,mq,vB,rR,yZ,rS,vv,jr,mr,yX,yY,cN,jY,jZ,qt,ix,AY,bg,tD,tE,iT,iU,xt,exists_eq_left',exists_eq_left,D.bl.injEq,D.int.injEq,D.lst.injEq,D.fz.injEq,D.str.injEq,D.tup.injEq,AZ,and_true,true_and,dh,tf,mP,lJ,yu,yv,yw,yx,yy,yA,ig,kP,nJ,yF,yG,yH,yI,yJ,cP,l9,yB,yC,yD,yE,fG,qY,A6,A8,sT,iz,Ba,Bb,xf,yN,yO,yP,yQ,yR,yS,yT,nK,pz,rP,jq,rQ,yL,vi,yK,mm,yM,kh,vh,if_true,qv,if_false,reduceIte,yU,decide_eq_true_eq,eV,ki,pG,y7,rT,y0,y6,uA,vH,si,vw,rX,rY,rZ,vJ,vQ,vW,vX,dv,vS,gw,zF,sq,v9,wa,wc,we,wg,wk,wm,wo,aS,fk]
   exact q
noncomputable abbrev aB7(t:fF):kZ:=λds Q Ex=>∃a b:Nat,ds=[.int a,.int b]/\bl a<=1000000/\bl b<=1000000/\(b=0->Ex t.eI)/\(b≠0->∀q r:Nat,a=cl q b ^^^ r->bl r<bl b->Q (.tup [.int q,.int r]))
theorem TN(T:Txt K mg t):aM P w K mg base (j8 P w) 1 t.RA t.RB ["a","b"] (pB (aB7 t )):=by
 refine Gq T.sD.F wt ?_ ?_
 ·intro ds Q Ex h
  obtain⟨a,b,rfl,ha,hb,qx,q⟩:=h<;>rfl
 ·intro aG A outer s H E hr
  refine⟨_,(aB (cM (bM (ff (cy hr)) (bv 1) (aa ao) (bE _)) (aH (Ck T.TH rfl (by rfl) (ah (aa ue) az))) cL)
   (aB (aX (i:=2) wt.nd rfl (ay rfl) ao)
   (aB (aX (i:=3) wt.nd rfl (ay rfl) (em 0))
   (aB (cw6 (uB fM (bM cD3 (aa (nH (bv 3))) (aa (nH (bv 1))) (bE _))
    (aB (aX (i:=4) wt.nd rfl (ay rfl) (aA jm (aa (nH (bv 3))) (aa (nH (bv 1)))))
    (aB (BZ (i:=2) wt.nd rfl (ay rfl) (aa (aA uP (aa ao) (bv 4))) FZ)
    (aH (BZ (i:=3) wt.nd rfl (ay rfl) (aa (aA uP (bv 1) (bv 4))) FZ))))))
   (aH (aV (yg (di (em 2) (di (em 3) du))))))))),λds Q Ex h=>?_⟩
  obtain⟨a,b,rfl,ha,hb,qx,q⟩:=h
  refine aC λU hU=>?_
  walk_at"l3"
  split
  ·rename_i h0
   exact⟨by decide,qx (by omega)⟩
  ·rename_i h0
   have b0:b≠0:=by omega
   refine hU _ ?_
   clear hU U
   refine aC λU hU=>?_
   walk_at"l3"
   refine hU _ ?_
   clear hU U
   refine aC λU hU=>?_
   walk_at"l3"
   refine hU _ ?_
   clear hU U
   refine aC λU hU=>?_
   walk_at"l3"
   refine⟨λm δ=>∃(x r:Nat) (o sh:Option D),δ=[o,some (.int b),some (.int (x:Nat)),some (.int (r:Nat)),sh]/\a=cl x b ^^^ r/\bl r<=bl a/\m=bl r,
    ⟨bl a,0,a,_,none,rfl,by rw[oQ,oG],bD _,rfl⟩,?_⟩
   rintro m δ ⟨x,r,o,sh,rfl,inv,hra,rfl⟩
   simp only[uu,rp,uv,uw,dT,m9,m8,oW,dC,kQ,oZ,oY,oX,rh,uq,nB,u5,rN,u7,u9,ug,uh,uj,uk,uo,q9,u3,rH,ph,ii,rB,uK,rC,uL,uM,uN,uO,uQ,uR,uS,iI,ik,uT,uU,uV,uW,rE,pd,uZ,u0,gN,va,u4,uz,uD,uE,uF,uG,uH,vd,ve,rz,kT,gq,jN,jk,s9,sW,AW,AX,rj,jL,ke,rK,rL,vj,vk,vm,vn,vp,pF,mq,vB,rR,yZ,rS,vv,jr,mr,yX,yY,cN,jY,jZ,qt,ix,AY,bg,tD,tE,iT,iU,xt,exists_eq_left',exists_eq_left,D.bl.injEq,D.int.injEq,D.lst.injEq,D.fz.injEq,D.str.injEq,D.tup.injEq,AZ,and_true,true_and,dh,tf,mP,lJ,yu,yv,yw,yx,yy,yA,ig,kP,nJ,yF,yG,yH,yI,yJ,cP,l9,yB,yC,yD,yE,fG,qY,A6,A8,sT,iz,Ba,Bb,xf,yN,yO,yP,yQ,yR,yS,yT,nK,pz,rP,jq,rQ,yL,vi,yK,mm,yM,kh,vh,if_true,qv,if_false,reduceIte,yU,decide_eq_true_eq,eV,ki,pG,y7,rT,y0,y6,uA,vH,si,vw,rX,rY,rZ,vJ,vQ,vW,vX,dv,vS,gw,zF,sq,v9,wa,wc,we,wg,wk,wm,wo,iV]
   split
   ·rename_i hc
    have hle:bl b<=bl r:=by omega
    have gM:=Nf b0 hle
    have es:(((bl r:Nat):Int)-((bl b:Nat):Int))=((bl r-bl b:Nat):Int):=by omega
    clear hU
    refine aC λU hU=>?_
    walk_at"l3"
    simp only[iV,es]
    refine hU _ ?_
    clear hU
    refine aC λU hU=>?_
    walk_at"l3"
    have o1:bl (1:Int).natAbs=1:=by decide
    refine⟨⟨by omega,by omega⟩,hU _ ?_⟩
    clear hU
    simp only[uu,rp,uv,uw,dT,m9,m8,oW,dC,kQ,oZ,oY,oX,rh,uq,nB,u5,rN,u7,u9,ug,uh,uj,uk,uo,q9,u3,rH,ph,ii,rB,uK,rC,uL,uM,uN,uO,uQ,uR,uS,iI,ik,uT,uU,uV,uW,rE,pd,uZ,u0,gN,va,u4,uz,uD,uE,uF,uG,uH,vd,ve,rz,kT,gq,jN,jk,s9,sW,AW,AX,rj,jL,ke,rK,rL,vj,vk,vm,vn,vp,pF,mq,vB,rR,yZ,rS,vv,jr,mr,yX,yY,cN,jY,jZ,qt,ix,AY,bg,tD,tE,iT,iU,xt,exists_eq_left',exists_eq_left,D.bl.injEq,D.int.injEq,D.lst.injEq,D.fz.injEq,D.str.injEq,D.tup.injEq,AZ,and_true,true_and,dh,tf,mP,lJ,yu,yv,yw,yx,yy,yA,ig,kP,nJ,yF,yG,yH,yI,yJ,cP,l9,yB,yC,yD,yE,fG,qY,A6,A8,sT,iz,Ba,Bb,xf,yN,yO,yP,yQ,yR,yS,yT,nK,pz,rP,jq,rQ,yL,vi,yK,mm,yM,kh,vh,if_true,qv,if_false,reduceIte,yU,decide_eq_true_eq,eV,ki,pG,y7,rT,y0,y6,uA,vH,si,vw,rX,rY,rZ,vJ,vQ,vW,vX,dv,vS,gw,zF,sq,v9,wa,wc,we,wg,wk,wm,wo,iV]
    refine⟨⟨by omega,by rw[iV];omega⟩,_,gM,x ^^^ 2 ^ (bl r-bl b),r ^^^ b <<< (bl r-bl b),o,_,⟨rfl,?_,?_,rfl⟩,YQ inv,by omega,rfl⟩
    ·rw[show(1:Int)=((1:Nat):Int) from rfl,tV,qS,EL]
    ·rw[tV,qS]
   ·rename_i hc
    refine hU _ ?_
    walk_at"l3"
    refine⟨by decide,q b0 x r inv (by omega)⟩
noncomputable abbrev aB8:aZ:=λds Q=>∃a:Nat,ds=[.int a]/\bl a<=60/\Q (.bl (al a))
theorem aB9(T:Txt K mg t):aM P w K mg base aT 2 t.RC t.RD ["a"] (bo (aB8 )):=by
 refine bQ T.S8.F HM ?_ ?_
 ·intro ds Q h
  obtain⟨a,rfl,ha,q⟩:=h<;>rfl
 ·intro aG A outer s H E hr
  refine⟨_,(aB (cM (bM rD (bv 0) (aa ao) (bE _)) (aH (aV kR)) cL)
   (aB (aX (i:=1) HM.nd rfl (ay rfl) (aA jo (aa (aA jm (aa (nH (bv 0))) (aa ao))) (aa ao)))
   (aB (ji fM rfl (B5 rfl T.jV (ah (aa ao) (ah (aa (aA uP (aa ao) (aa (aA cT (bv 1) (aa ao))))) az))) (mf (i:=2) HM.nd rfl (ay rfl))
    (aH (cM (bM (ff (cy hr)) (bG (aa (ur (GA ((TN T).mono (by decide))) hr rfl T.sD.g T.sD.F.kp T.sD.b Gz (ah (bv 0) (ah (bv 2) az)))) (aa ao) (λ_ _=>rfl)) (aa ao) (bE _)) (aH (aV kR)) cL)))
   (aH (aV kR))))),λds Q h=>?_⟩
  obtain⟨a,rfl,ha,q⟩:=h
  refine aC λU hU=>?_
  walk_at"l3"
  split
  ·rename_i h2
   rw[Y4 (by omega)]at q;exact q
  ·rename_i h2
   have h2:2<=a:=by omega
   have hp:=ia (show a≠0 by omega)
   refine hU _ ?_
   clear hU U
   refine aC λU hU=>?_
   walk_at"l3"
   simp only[iV]
   refine⟨jn (by omega) (by omega),hU _ ?_⟩
   clear hU U
   have eh:((((bl a:Nat):Int)-1)/2+1)=(((bl a-1)/2+1:Nat):Int):=by omega
   have e1:(1:Int)*2 ^ ((((bl a:Nat):Int)-1)/2+1).toNat=((2 ^ ((bl a-1)/2+1):Nat):Int):=by
    rw[eh,show(1:Int)=((1:Nat):Int) from rfl,tV,EL]
   have big:2 ^ ((bl a-1)/2+1)<=2 ^ 40:=xh (by decide) (by omega)
   have o1:bl (1:Int).natAbs=1:=by decide
   refine aC λU hU=>?_
   walk_at"l3"
   rw[e1]
   have dJ3:((2 ^ ((bl a-1)/2+1):Nat):Int)<=2 ^ 40:=by exact_mod_cast big
   have nn:(0:Int)<=((2 ^ ((bl a-1)/2+1):Nat):Int):=Lf _
   refine⟨⟨by omega,by omega⟩,_,_,⟨rfl,rfl⟩,⟨by decide,by decide,by omega,by omega⟩,?_⟩
   have en:(((2 ^ ((bl a-1)/2+1):Nat):Int)-2).toNat=2 ^ ((bl a-1)/2+1)-2:=by omega
   rw[en]
   refine jh.mk (λi δ=>(∃o1 o2,δ=[some (.int a),o1,o2])/\∀j,j<i->md a (2+j)≠0) ⟨⟨_,_,rfl⟩,λj hj=>absurd hj (by omega)⟩ ?_ ?_
   ·rintro i d δ hd ⟨⟨o1,o2,rfl⟩,inv⟩
    obtain⟨hi,rfl⟩:i<2 ^ ((bl a-1)/2+1)-2/\d=.int (2+(i:Int)):=by
     rw[cU]at hd
     by_cases hi:i<2 ^ ((bl a-1)/2+1)-2
     ·rw[mO hi]at hd
      exact⟨hi,(dq hd).symm⟩
     ·rw[iy (by simpa using hi)]at hd;cases hd
    have bi:bl (2+i)<=60:=by
     have:=(Y7 h2 (show 2+i<2 ^ ((bl a-1)/2+1) by omega)).2
     omega
    walk_at"l3"
    refine⟨a,2+i,by rw[show((2+i:Nat):Int)=2+(i:Int) by omega],by omega,by omega,by omega,λ_ x r e l=>?_⟩
    have em:md a (2+i)=r:=x6 e l
    refine⟨.int r,rfl,rfl,?_⟩
    rw[kh]
    split
    ·rename_i hz
     have r0:r=0:=by have:=of_decide_eq_true hz;omega
     rw[Y6 hi (em.trans r0)]at q
     exact q
    ·rename_i hz
     refine⟨⟨_,_,rfl,rfl⟩,λj hj=>?_⟩
     by_cases ej:j=i
     ·rw[ej,em]
      intro r0
      exact hz (decide_eq_true (by omega))
     ·exact inv j (by omega)
   ·rintro δ ⟨⟨o1,o2,rfl⟩,inv⟩
    rw[aS,fk]at inv
    rw[Y5 h2 inv]at q
    refine hU _ ?_
    walk_at"l3"
    exact q
noncomputable abbrev ax4:aZ:=λds Q=>∃a:Int,ds=[.int a]/\Q (.bl (decide (4<=a)&&decide (a<=127)&&al a.toNat))
theorem ax5(T:Txt K mg t):aM P w K mg base aT 3 t.RE t.RF ["bits"] (bo (ax4 )):=by
 refine bQ T.DD.F av6 ?_ ?_
 ·intro ds Q h
  obtain⟨a,rfl,q⟩:=h<;>rfl
 ·intro aG A outer s H E hr
  refine⟨_,(aH (aV (um (aa (Ge yo yo (aa ao) (bv 0) (aa ao))) (Bl (bB T.S8 (aB9 T) hr (ah (bv 0) az)))))),λds Q h=>?_⟩
  obtain⟨a,rfl,q⟩:=h
  walk_at"l3"
  split
  ·rename_i h1
   split
   ·rename_i h2
    refine⟨a.toNat,by rw[xq (by omega)],?_,?_⟩
    ·have:bl a.toNat<=bl 127:=Ft (by omega)
     exact eK this (by decide)
    ·have e:(decide (4<=a)&&decide (a<=127)&&al a.toNat)=al a.toNat:=by simp[h1,h2]
     rw[e]at q;exact q
   ·rename_i h2
    have e:(decide (4<=a)&&decide (a<=127)&&al a.toNat)=false:=by simp[h2]
    rw[e]at q;exact q
  ·rename_i h1
   have e:(decide (4<=a)&&decide (a<=127)&&al a.toNat)=false:=by simp[h1]
   rw[e]at q;exact q
noncomputable abbrev aD8:aZ:=λds Q=>∃a b:Nat,ds=[.int a,.int b]/\bl a<=1000/\bl b<=1000/\Q (.int (cl a b:Nat))
theorem aD9(T:Txt K mg t):aM P w K mg base aT 1 t.RG t.RH ["a","b"] (bo (aD8 )):=by
 refine bQ T.DE.F Ds ?_ ?_
 ·intro ds Q h
  obtain⟨a,b,rfl,ha,hb,q⟩:=h<;>rfl
 ·intro aG A outer s H E hr
  refine⟨_,(aB (aX (i:=2) Ds.nd rfl (ay rfl) ao)
   (aB (ji fM rfl (nj rfl T.jV (ah (aa (nH (bv 1))) az)) (mf (i:=3) Ds.nd rfl (ay rfl))
    (aH (cM (bM (ff (cy hr)) (aa (aA N2 (aa (aA N1 (bv 1) (bv 3))) (aa ao))) (aa ao) (bE _)) (aH (BZ (i:=2) Ds.nd rfl (ay rfl) (aa (aA uP (bv 0) (bv 3))) FZ)) cL)))
   (aH (aV (em 2))))),λds Q h=>?_⟩
  obtain⟨a,b,rfl,ha,hb,q⟩:=h
  refine aC λU hU=>?_
  walk_at"l3"
  refine hU _ ?_
  clear hU U
  refine aC λU hU=>?_
  walk_at"l3"
  simp only[iV]
  refine⟨⟨by omega,by omega⟩,yV (λi δ=>∃o,δ=[some (.int a),some (.int b),some (.int (Mf.P a b i:Nat)),o]) ⟨none,rfl⟩ ?_ ?_⟩
  ·rintro i δ hi ⟨o,rfl⟩
   walk_at"l3"
   refine⟨by omega,?_⟩
   have DT:(oB ((b:Int)/2 ^ ((i:Int)).toNat) 1=1)↔b.testBit i=true:=by
    have h:=Zh b i
    rw[LC]at h
    rw[<-h,dI]
   split
   ·rename_i hc
    have h:=Zi (a:=a) (DT.mp hc)
    rw[LC]at h
    exact⟨⟨by omega,by rw[iV];omega⟩,_,h,rfl⟩
   ·rename_i hc
    exact⟨_,by rw[Zj (λz=>hc (DT.mpr z))],rfl⟩
  ·rintro δ ⟨o,rfl⟩
   refine hU _ ?_
   walk_at"l3"
   exact q
noncomputable abbrev aG2:List D->List Str->List D->Prop:=λds ns xs=>∃p:Nat,ds=[.int p]/\p∈gS/\ns=iu "bits"++[("products":Str)]/\xs=[.int p,.int (af (true,p)),.int ((bl (af (true,p)):Nat)-1),.lst true (aF (fl (true,p))),.lst true (aF (eO (fl (true,p)))),.int (fst (true,p)),.lst true (pO (fl (true,p)) (eO (fl (true,p))))]
theorem aA8(T:Txt K mg t)(hB:Bm mg base):aM P w K mg base aT 8 t.IV t.IW ["self","bits"] (GX [t.jT,t.jU] t.aN aG2):=by
 refine Pk T.S9.F T.aA6 Q2 (λvs H Q E h=>?_) λA outer s H vs Q E hr h=>?_
 ·obtain⟨x,dx,bW,ds,ns,xs,rfl,_,_,r,⟨p,rfl,_⟩,_⟩:=h
  have:=r.length
  simp at this
  simp[this]
 obtain⟨x,dx,bW,ds,ns,xs,rfl,tb,hx,r,⟨p,rfl,hp,rfl,rfl⟩,q⟩:=h
 obtain rfl:bW=[.int p]:=by
  cases r with
  | int r=>cases r;rfl
 have hm:(true,p)∈aJ:=df _ (EF hp)
 have hF:=cW hm
 refine⟨_,fP (xD (Bk (Bi (iD ((ax5 T).mono (by decide)) hr rfl T.DD.g T.DD.F.kp T.DD.b .nil eE (cE (pv 1) fo)))) (kI Bq) tL)
  (fP (iC (pv 0) (pv 1) rfl)
  (fP (Bu (i:=2) Q2.nd rfl (ay rfl) (xO Nq tK (xO E5 (Fu (pv 1)) tK)))
  (fP (Bp (Pc (E:=E0) (i:=1) T.TC ((TM T).mono (by decide)) hr T.Jn.b rfl T.DR rfl rfl rfl rfl (cE (pv 0) (cE (pv 2) (cE (O4 rfl rfl T.aA7 hB) fo)))))
  (kI (iC (pv 0) (iD ((aB6 T).mono (by decide)) hr rfl T.DC.g T.DC.F.kp T.DC.b .nil eE (cE (qO (pv 0) rfl) (cE (qO (pv 0) rfl) fo))) rfl))))),?_⟩
 try dsimp only[mq,mr]
 refine⟨_,rfl,H,[.int p],λd=>d=.bl true,ae.refl _,.int .nil,⟨p,rfl,by rw[cf4 p hp]⟩,λd v F' H1 A1 hd fX hf he h3 r nd fr=>?_⟩
 subst hd
 cases r
 refine⟨true,rfl,?_⟩
 refine kN ?_
 have cO:=fX.get _ _ hx
 refine⟨.int p,rfl,.ref x,rfl,x,t.aN,dx,_,rfl,cO,T.gz,T.Js,by decide,?_⟩
 generalize e2:upd H1 x (HO.ins t.aN dx (bK "bits" (.int p) []))=H2
 have dJ:H2 x=some (.ins t.aN dx [(("bits":Str),.int p)]):=by rw[<-e2,br];rfl
 have s2:bS x H H2:=by rw[<-e2];exact(fX.x (x:=x)).trans (bS.upd (C:=x) (dx:=dx) cO rfl)
 have n2:∀p,H2 p=none->H p=none:=λp h=>fX.free (zo cO (by rw[e2];exact h))
 obtain⟨ps,hP⟩:=tb t.jU (by simp)
 obtain⟨more,JR⟩:=s2.tb _ ps hP
 have bp:bl p<=7:=Pu p hp
 have DU:1<=bl p:=Pw p hp
 refine⟨.int p,rfl,rfl,p,rfl,rfl,_,_,rfl,rfl,_,_,rfl,rfl,?_,?_⟩
 ·have o1:bl (1:Int).natAbs=1:=by decide
  rw[iV]
  exact⟨by omega,by omega⟩
 have em:(1:Int)*2 ^ (((bl ((p:Int)).natAbs:Nat):Int)-1).toNat=((af (true,p):Nat):Int):=by
  rw[iV,show(((bl p:Nat):Int)-1)=((bl p-1:Nat):Int) by omega,show(1:Int)=((1:Nat):Int) from rfl,tV,EL];rfl
 show Bt 2 (.int ((1:Int)*2 ^ (((bl ((p:Int)).natAbs:Nat):Int)-1).toNat)) _ _ _
 rw[em]
 refine⟨.ref x,rfl,.int (af (true,p)),rfl,⟨_,JR⟩,λf k qn pm jt H3 nf Ac hk kf gW hl3=>?_⟩
 refine⟨f,_,_,.int p,Ac,rfl,rfl,λoc u iZ hu nc pK=>?_⟩
 obtain⟨tm,rfl⟩:∃tm,u=wX p tm:=hu
 have gI:=gW.get _ _ dJ
 refine⟨x,dx,f,t.aN,"bits",p,af (true,p),_,oc,_,k,gm (true,p),fl (true,p),fst (true,p),rfl,zr gI (λz=>by rw[z,nf]at dJ;cases dJ) nc,by decide,⟨T.gz,T.zW,T.Ju,T.zX,T.wJ,T.Jt,T.DK⟩,Pp pK nc hk kf,?_,hF,λH' p1 p2 sx dD JS BK ne Ab oo=>?_⟩
 ·refine Ph (n:=3) ⟨rfl,rfl,rfl,by decide,rfl,rfl,by decide,by decide,rfl⟩ iZ (λu1 u2=>rfl) λq f A outer s H E hr=>?_
  refine⟨_,cR (bG (aa (ur (GA ((TN T).mono (by decide))) hr rfl T.sD.g T.sD.F.kp T.sD.b Gz (ah (aa (ur ((aD9 T).mono (by decide)) hr rfl T.DE.g T.DE.F.kp T.DE.b eE (ah (bv 0) (ah (bv 1) az)))) (ah (bv 2) az)))) (aa ao) (λ_ _=>rfl)),λi j Qd h=>?_⟩
  obtain⟨a,b,rfl,rfl,ha,hb,hq⟩:=h
  walk_at"l3"
  have b1:bl a<=6:=by
   have:bl a<=bl 63:=Ft (by omega)
   exact eK this (by decide)
  have b2:bl b<=6:=by
   have:bl b<=bl 63:=Ft (by omega)
   exact eK this (by decide)
  have p0:p≠0:=by
   intro z
   rw[z]at DU
   exact absurd DU (by decide)
  refine⟨a,b,rfl,by omega,by omega,cl a b,p,rfl,eK (bW4 a b) (by omega),by omega,λz=>p0 z,λ_ x r e l=>⟨by simp[D.pl],.int r,rfl,rfl,r,rfl,?_⟩⟩
  have er:gm (true,p) a b=r:=x6 e l
  rw[<-er];exact hq
 ·have gf:H' f=some (.ext (jJ _ oc _ f)):=sx.get f _ (λz=>by rw[z]at nf;rw[nf]at dJ;cases dJ) (by rw[aL pK.symm,br]) rfl
  have gc:=sx.get _ _ (dH gI nc).symm br rfl
  refine⟨gf,gc,?_⟩
  have s4:=s2.trans (Po gW nf nc sx)
  have f1:=n2 _ (CH gW Ab)
  have f2:=n2 _ (CH gW oo)
  have l1:=JS.rem gf gc
  have l2:=BK.rem gf gc
  have ky:rem H' f (s.heap.objs.size+1) x=some (.ins t.aN dx ((iu "bits").zip (CF p (af (true,p)) p1 p2 (fst (true,p))))):=by
   rw[ir (λz=>by rw[z,gf]at dD;cases dD) (λz=>by rw[z,gc]at dD;cases dD)];exact dD
  generalize rem H' f (s.heap.objs.size+1)=H4 at s4 l1 l2 ky
  refine⟨.ref x,rfl,x,t.aN,dx,_,.ref p1,rfl,ky,T.gz,T.zX,rfl,.ref x,rfl,x,t.aN,dx,_,.ref p2,rfl,ky,T.gz,T.wJ,rfl,H4,[.lst false (aF (fl (true,p))),.lst false (aF (eO (fl (true,p))))],λd=>d=.lst true (pO (fl (true,p)) (eO (fl (true,p)))),ae.refl _,.shr l1 (kY _) (.shr l2 (kY _) .nil),
   ⟨_,_,rfl,by have:=hF.len;have:=hF.lo;omega,by have:=hF.len;have:=hF.hi;omega,zk _ _,Pt _ _,rfl⟩,λd v F' H5 A' hd kz hf he h3 r nd fr=>?_⟩
  subst hd
  obtain⟨p3,rfl⟩:∃p3,v=.ref p3:=by cases r;exact⟨_,rfl⟩
  have iO:=kz.get _ _ ky
  have nA:∀{a ws},H4 a=some (.lst ws)->a ∉ A':=λ{a ws} e z=>by rw[fr a z]at e;cases e
  refine⟨.ref x,rfl,x,t.aN,dx,_,rfl,iO,T.gz,T.wK,mL (bD 6) (by decide),?_⟩
  refine q _ (CF p (af (true,p)) p1 p2 (fst (true,p))++[.ref p3]) (p1::p2::A') ((s4.trans (kz.x (x:=x))).trans (bS.upd (C:=x) (dx:=dx) iO rfl)) (by rw[br];rfl) rfl ?_ ?_ ?_
  ·exact .int (.int (.int (.own ((l1.same kz).upd iO (λws z=>by cases z)) rfl (kY _) (.own ((l2.same kz).upd iO (λws z=>by cases z)) rfl (kY _) (.int ((r.yc (by simp[fG,Pr]) (ae.of λb o e=>by cases e)).se iO (by simp[fG,Pr])))))))
  ·exact iQ.mpr ⟨by simp[ne];exact nA l1,iQ.mpr ⟨nA l2,nd⟩⟩
  ·intro a ha
   rcases cq.mp ha with rfl | ha
   ·exact f1
   ·rcases cq.mp ha with rfl | ha
    ·exact f2
    ·exact s4.free (by rw[ky];simp) (fr a ha)
noncomputable abbrev aE0(cb cp:Addr):aZ:=λds Q=>∃m:Bool × Nat,ds=[dW m]/\m∈aJ/\Q (fD cb cp m)
theorem aE1(T:Txt K mg t)(hB:Bm mg base):aM P w K mg base aT 10 t.RI t.RJ ["_law_told_here"] (vE [t.jT,t.jU] (bo (aE0 t.aN t.aR))):=by
 refine GU T.DF.F aD4 ?_ ?_
 ·intro ds Q h
  obtain⟨m,rfl,hm,q⟩:=h<;>rfl
 ·intro aG A outer s H E hT hr
  refine⟨_,(aB (cM (uf (bG (bv 0) (aa ao) (λ_ _=>rfl))) (aH (aV (Pl hT T.Jr ((aA8 T hB).mono (by decide)) hr rfl T.JI T.S9.b eE (ah (bG (bv 0) (aa ao) (λ_ _=>rfl)) az)))) cL)
   (aH (aV (Pl hT T.JB ((ax3 T hB).mono (by decide)) hr rfl T.JN T.S7.b eE (ah (bG (bv 0) (aa ao) (λ_ _=>rfl)) az))))),λds Q h=>?_⟩
  obtain⟨m,rfl,hm,q⟩:=h
  unfold dW at *
  refine aC λU hU=>?_
  walk_at"l3"
  obtain⟨b,n⟩:=m
  cases b with
  | true =>
   refine⟨_,rfl,true,rfl,?_⟩
   rw[if_pos rfl]
   refine⟨_,rfl,_,_,⟨n,rfl,zw hm,rfl,rfl⟩,?_⟩
   rw[cm0];exact q
  | false =>
   refine⟨_,rfl,false,rfl,?_⟩
   rw[if_neg (by decide)]
   refine hU _ ?_
   walk_at"l3"
   refine⟨_,rfl,_,_,⟨n,rfl,by9 hm,rfl,rfl⟩,?_⟩
   rw[b15];exact q
noncomputable abbrev aG3:aZ:=λds Q=>∃(ns:List Int) (k:Int),ds=[.fz (aF ns),.int k]/\0<=k/\Q (.int (ns.getD k.toNat 0))
theorem oy(T:Txt K mg t):aM P w K mg base aT 1 t.RK t.RL ["_law_script","_law_k"] (bo (aG3 )):=by
 refine bQ T.mG.F aF5 ?_ ?_
 ·intro ds Q h
  obtain⟨ns,k,rfl,hk,q⟩:=h<;>rfl
 ·intro aG A outer s H E hr
  refine⟨_,(aB (cM (bM rD (bv 1) (aa (dU (fI) (by rfl) T.fA ft (ah (bv 0) az))) (bE _)) (aH (aV (cR (bG (bv 0) (bv 1) (λ_ _=>rfl))))) cL)
   (aH (aV ao))),λds Q h=>?_⟩
  obtain⟨ns,k,rfl,hk,q⟩:=h
  refine aC λU hU=>?_
  walk_at"l3"
  split
  ·rename_i h
   exact⟨_,mn hk h,rfl,q⟩
  ·rename_i h
   refine hU _ ?_
   walk_at"l3"
   rw[aW,iy (by omega)]at q
   exact q
noncomputable abbrev aG4:aZ:=λds Q=>∃m:Bool × Nat,ds=[dW m]/\bl m.2<=1000/\1<=bl m.2/\Q (.int (af m:Nat))
theorem Ad(T:Txt K mg t):aM P w K mg base aT 1 t.RM t.RN ["_law_told_here"] (bo (aG4 )):=by
 refine bQ T.wG.F aF6 ?_ ?_
 ·intro ds Q h
  obtain⟨m,rfl,h1,h2,q⟩:=h<;>rfl
 ·intro aG A outer s H E hr
  refine⟨_,(aB (cM (uf (bG (bv 0) (aa ao) (λ_ _=>rfl))) (aH (aV (aA uP (aa ao) (aa (aA jm (aa (nH (bG (bv 0) (aa ao) (λ_ _=>rfl)))) (aa ao)))))) cL)
   (aH (aV (cR (bG (bv 0) (aa ao) (λ_ _=>rfl)))))),λds Q h=>?_⟩
  obtain⟨m,rfl,h1,h2,q⟩:=h
  unfold dW at *
  refine aC λU hU=>?_
  walk_at"l3"
  obtain⟨b,n⟩:=m
  cases b with
  | true =>
   refine⟨_,rfl,true,rfl,?_⟩
   rw[if_pos rfl]
   refine⟨_,rfl,?_⟩
   have o1:bl (1:Int).natAbs=1:=by decide
   have e:(1:Int)*2 ^ (((bl ((n:Int)).natAbs:Nat):Int)-1).toNat=((af (true,n):Nat):Int):=by
    have jH:1<=bl n:=h2
    rw[iV,show(((bl n:Nat):Int)-1)=((bl n-1:Nat):Int) by omega,show(1:Int)=((1:Nat):Int) from rfl,tV,EL];rfl
   refine⟨?_,by rw[e];exact q⟩
   rw[iV]
   have j9:bl n<=1000:=h1
   have jH:1<=bl n:=h2
   exact⟨by omega,by omega⟩
  | false =>
   refine⟨_,rfl,false,rfl,?_⟩
   rw[if_neg (by decide)]
   refine hU _ ?_
   walk_at"l3"
   exact⟨_,rfl,rfl,q⟩
noncomputable abbrev aE2:aZ:=λds Q=>∃(m:Bool × Nat) (a b:Nat),ds=[dW m,.int a,.int b]/\m∈aJ/\a<af m/\b<af m/\Q (.int (gm m a b:Nat))
theorem aE3(T:Txt K mg t):aM P w K mg base aT 1 t.RO t.RP ["_law_told_here","_law_a","_law_b"] (bo (aE2 )):=by
 refine bQ T.Ta.F wu ?_ ?_
 ·intro ds Q h
  obtain⟨m,a,b,rfl,hm,ha,hb,q⟩:=h<;>rfl
 ·intro aG A outer s H E hr
  refine⟨_,(aB (cM (NN (uf (bG (bv 0) (aa ao) (λ_ _=>rfl)))) (aH (aV (aA bY (aa (aA iJ (bv 1) (bv 2))) (bG (bv 0) (aa ao) (λ_ _=>rfl))))) cL)
   (aB (aX (i:=3) wu.nd rfl (ay rfl) ao)
   (aB (uB fM (bM B9 (bv 2) (aa ao) (bE _))
    (aB (cM (bM (ff (cy hr)) (aa (aA N2 (bv 2) (aa ao))) (aa ao) (bE _)) (aH (aX (i:=3) wu.nd rfl (ay rfl) (aA B8 (bv 3) (bv 1)))) cL)
    (aB (aX (i:=1) wu.nd rfl (ay rfl) (aA uP (bv 1) (aa ao)))
    (aB (cM (bM (ff (cy hr)) (aa (nH (bv 1))) (aa (nH (bG (bv 0) (aa ao) (λ_ _=>rfl)))) (bE _)) (aH (aX (i:=1) wu.nd rfl (ay rfl) (aA B8 (bv 1) (bG (bv 0) (aa ao) (λ_ _=>rfl))))) cL)
    (aH (aX (i:=2) wu.nd rfl (ay rfl) (aA N1 (bv 2) (aa ao))))))))
   (aH (aV (em 3)))))),λds Q h=>?_⟩
  obtain⟨m,a,b,rfl,hm,ha,hb,q⟩:=h
  unfold dW at *
  obtain⟨k,n⟩:=m
  refine aC λU hU=>?_
  walk_at"l3"
  have hF:=cW hm
  cases k with
  | false =>
   refine⟨_,rfl,false,rfl,?_⟩
   have sI:n<=64:=hF.hi
   have l2:2<=n:=hF.lo
   have Cm:a<n:=ha
   have pJ:b<n:=hb
   rw[if_pos (by decide)]
   refine⟨jG.ok (.inr ⟨by omega,by omega⟩),_,rfl,by omega,?_⟩
   have e:((gm (false,n) a b:Nat):Int)=(a:Int)*b%n:=by
    show((a*b%n:Nat):Int)=_
    rw[tu,xu]
   rw[<-e];exact q
  | true =>
   refine⟨_,rfl,true,rfl,?_⟩
   rw[if_neg (by decide)]
   have hp:=zw hm
   have bp:=Pu n hp
   have DU:=Pw n hp
   have p0:n≠0:=λz=>by rw[z,mX]at DU;omega
   have kg:bl a<bl n:=by
    have:=eR.mpr (show a<2 ^ (bl n-1) from ha)
    omega
   have hy0:bl b<bl n:=by
    have:=eR.mpr (show b<2 ^ (bl n-1) from hb)
    omega
   refine hU _ ?_
   clear hU U
   refine aC λU hU=>?_
   walk_at"l3"
   refine hU _ ?_
   clear hU U
   refine aC λU hU=>?_
   walk_at"l3"
   refine⟨λm δ=>∃(x y z:Nat),δ=[some (.tup [.bl true,.int n]),some (.int (x:Nat)),some (.int (y:Nat)),some (.int (z:Nat))]/\z ^^^ md (cl x y) n=gm (true,n) a b/\bl x<bl n/\bl y<bl n/\m=bl y,
    ⟨bl b,a,b,0,rfl,by rw[oG];rfl,kg,hy0,rfl⟩,?_⟩
   rintro m δ ⟨x,y,z,rfl,inv,hx,hy,rfl⟩
   walk_at"l3"
   split
   ·rename_i hy1
    have wj:=ia (show y≠0 by omega)
    have DV:bl (y/2)=bl y-1:=Y0 y
    have e1:((x:Int)*2 ^ (1:Int).toNat)=((2*x:Nat):Int):=by
     show(x:Int)*(2:Int) ^ 1=_
     omega
    have e2:((y:Int)/2 ^ (1:Int).toNat)=((y/2:Nat):Int):=by
     show(y:Int)/(2:Int) ^ 1=_
     omega
    have a1:oB (y:Int) 1=((y%2:Nat):Int):=by
     rw[show(1:Int)=((1:Nat):Int) from rfl,Nh,Nat.and_one_is_mod]
    have tm:=cf8 (y:=y) p0 hx
    have tb:=cc4 p0 hx
    clear hU
    refine aC λU hU=>?_
    walk_at"l3"
    have fin:∀z':Nat,z'=z ^^^ (if y%2=1 then x else 0)->U [some (.tup [.bl true,.int n]),some (.int x),some (.int y),some (.int z')]:=by
     intro z' hz
     have da0:z' ^^^ md (cl (if bl (2*x)=bl n then 2*x ^^^ n else 2*x) (y/2)) n=gm (true,n) a b:=by
      rw[hz,qu,<- tm];exact inv
     refine hU _ ?_
     clear hU
     refine aC λU hU=>?_
     walk_at"l3"
     refine⟨⟨by decide,by simp only[iV];omega⟩,hU _ ?_⟩
     clear hU
     rw[e1]
     refine aC λU hU=>?_
     walk_at"l3"
     have last:∀x':Nat,x'=(if bl (2*x)=bl n then 2*x ^^^ n else 2*x)->U [some (.tup [.bl true,.int n]),some (.int (x':Nat)),some (.int y),some (.int z')]:=by
      intro x' dD
      refine hU _ ?_
      walk_at"l3"
      exact⟨by decide,bl (y/2),by omega,x',y/2,z',⟨rfl,e2,rfl⟩,by rw[dD];exact da0,by rw[dD];exact tb,by omega,rfl⟩
     refine⟨_,rfl,?_⟩
     show(if(((bl (((2*x:Nat):Int)).natAbs:Nat):Int)=((bl ((n:Int)).natAbs:Nat):Int))then _ else _)
     rw[iV,iV]
     split
     ·rename_i hc
      refine⟨_,rfl,?_⟩
      have g:=last (2*x ^^^ n) (by rw[if_pos (by omega)])
      rw[<-qS]at g
      exact g
     ·rename_i hc
      exact last (2*x) (by rw[if_neg (by omega)])
    rw[a1]
    split
    ·rename_i DT
     have odd:y%2=1:=by omega
     have g:=fin (z ^^^ x) (by rw[if_pos odd])
     rw[<-qS]at g
     exact g
    ·rename_i DT
     exact fin z (by rw[if_neg (by omega),lH])
   ·rename_i hy1
    have hy:y=0:=by omega
    subst hy
    rw[YJ,zu (by rw[mX];exact ia p0),lH]at inv
    subst inv
    refine hU _ ?_
    walk_at"l3"
    exact q
noncomputable abbrev az2:aZ:=λds Q=>∃(m:Bool × Nat) (n:Nat) (B:List (List Nat)) (c:Int),ds=[dW m,.lst true (au true B),.int c]/\m∈aJ/\2<=n/\n<=20/\B≠[]/\B.length<=20/\RT (af m) n B/\∀B':List (List Nat),B'.length=B.length->RT (af m) n B'->0<(eA m B').length->Q (.lst true (au true B'))
theorem cs3{a r n:Int}(a0:0<=a)(an:a<n)(r0:0<=r)(rn:r<n-1):∃o:Nat,(a+1+r)%n=o/\(o:Int)<n/\(o:Int)≠a:=by
 by_cases h:a+1+r<n
 ·exact⟨(a+1+r).toNat,by rw[EG (by omega) h];omega,by omega,by omega⟩
 ·refine⟨(a+1+r-n).toNat,?_,by omega,by omega⟩
  rw[show a+1+r=(a+1+r-n)+n by omega,Int.add_emod_right,EG (by omega) (by omega)];omega
noncomputable def p9(m:Bool × Nat)(a o b:Nat)(r:List Nat):List Nat:=r.set a (gm m b (r.getD o 0))
noncomputable def Ae(m:Bool × Nat)(a o b:Nat)(xs:List D):List D:=xs.set a (match xs[o]? with | some (.int i)=>.int (gm m b i.toNat:Nat) | _=>.aq)
theorem TQ{m:Bool × Nat}{a o b:Nat}{r:List Nat}(h:o<r.length):Ae m a o b (aw r)=(aw r).set a (.int (gm m b (r.getD o 0):Nat)):=by
 unfold Ae
 have:(aw r)[o]?=some (.int ((r.getD o 0:Nat):Int)):=by
  unfold aw aF
  rw[b8,cU,bc h,aW,bc h];rfl
 rw[this];rfl
theorem TR(T:List (List Nat)):au true T=(T.map aw).map (D.lst true):=by unfold au;rw[b8];rfl
theorem TU(T:Txt K mg t):aM P w K mg base aT 2 t.RQ t.RU ["_law_told_here","_law_table","_law_cell_here"] (vY (az2 )):=by
 refine cr6 T.sE.F wz ?_ ?_
 ·intro ds Q h
  obtain⟨m,n,B,c,rfl,hm,n2,n20,B0,lB,hB,q⟩:=h<;>rfl
 ·intro aG A outer s H E hr
  refine⟨_,(aB (aX (i:=3) wz.nd rfl (ay rfl) (dU (fI) (by rfl) T.fA ft (ah (bG (bv 1) (aa ao) (λ_ _=>rfl)) az)))
   (aB (cM (bM B9 (bv 3) (aa (dU (fI) (by rfl) T.fA ft (ah (bv 1) az))) (bE _)) (aH (aV (em 1))) cL)
   (aB (aX (i:=4) wz.nd rfl (ay rfl) (aA bY (bv 2) (bv 3)))
   (aB (aX (i:=5) wz.nd rfl (ay rfl) (aA bY (aa (aA cT (aa (aA cT (bv 4) (aa ao))) (aa (aA bY (aa (aA jo (bv 2) (aa ao))) (aa (aA jm (bv 3) (aa ao))))))) (bv 3)))
   (aB (aX (i:=6) wz.nd rfl (ay rfl) (aA bY (aa (aA jo (bv 2) (aa ao))) (aa (bB T.wG (Ad T) hr (ah (bv 0) az)))))
   (aB (bZ6 (i:=1) (j:=7) rfl fM wz.nd rfl (by first | exact ay rfl | exact bV (ay rfl)) rfl (ay rfl) (by first | exact ay rfl | exact bV (ay rfl)) (bB T.Ta (aE3 T) hr (ah (bv 0) (ah (bv 6) (ah (bG (bv 7) (bv 5) (λ_ _=>rfl)) az)))) (bv 4))
   (aH (aV (em 1))))))))),λds Q h=>?_⟩
  obtain⟨m,n,B,c,rfl,hm,n2,n20,B0,lB,hB,q⟩:=h
  have gg:=(cW hm).lo
  have ql:=(cW hm).hi
  have DW:=zy m hm
  have wB:=vV hB B0
  obtain⟨g,vT,TV⟩:∃g,eQ (au true B) 0=some (.lst true (aw g))/\g.length=n:=by
   cases B with
   | nil=>exact absurd rfl B0
   | cons g B'=>exact⟨g,nW true (T:=g::B') (i:=0) (LS _),(hB g jB).1⟩
  refine aC λU hU=>?_
  walk_at"l3"
  refine⟨_,vT,?_⟩
  show U [some (dW m),some (.lst true (au true B)),some (.int c),some (.int ((aw g).length:Nat)),none,none,none,none]
  rw[eV,TV]
  refine hU _ ?_
  clear hU U vT TV
  refine aC λU hU=>?_
  walk_at"l3"
  split
  ·exact q B rfl hB (bV7 hm (by rw[wB];exact hB) (by rw[wB];omega))
  refine hU _ ?_
  clear hU U
  refine aC λU hU=>?_
  walk_at"l3"
  refine⟨by omega,hU _ ?_⟩
  clear hU U
  refine aC λU hU=>?_
  walk_at"l3"
  obtain⟨o,eo,on,oa⟩:=cs3 (fm c (show(n:Int)≠0 by omega)) (fE c (show(0:Int)<n by omega)) (fm (c/8) (show(n:Int)-1≠0 by omega)) (fE (c/8) (show(0:Int)<(n:Int)-1 by omega))
  obtain⟨a,ea⟩:∃a:Nat,c%(n:Int)=a:=⟨(c%(n:Int)).toNat,by have:=fm c (show(n:Int)≠0 by omega);omega⟩
  have an:a<n:=by have:=fE c (show(0:Int)<n by omega);omega
  refine⟨jn (by decide) (by decide),by omega,by omega,?_⟩
  rw[eo,ea]
  rw[ea]at oa
  refine hU _ ?_
  clear hU U eo ea
  refine aC λU hU=>?_
  walk_at"l3"
  obtain⟨b,eb,bm⟩:∃b:Nat,c/64%(af m:Int)=b/\b<af m:=⟨(c/64%(af m:Int)).toNat,by have:=fm (c/64) (show(af m:Int)≠0 by omega);omega,by have:=fE (c/64) (show(0:Int)<af m by omega);omega⟩
  refine⟨jn (by decide) (by decide),m,rfl,by omega,by omega,by omega,?_⟩
  rw[eb]
  refine hU _ ?_
  clear hU U eb
  refine aC λU hU=>?_
  walk_at"l3"
  refine⟨B.map aw,Ae m a o b,by rw[<-TR],by decide,by decide,λxs hx=>?_,?_⟩
  ·obtain⟨r,aU,rfl⟩:=bI.mp hx
   obtain⟨rl,ra⟩:=hB r aU
   have ox:o<r.length:=by omega
   have rm:r.getD o 0<af m:=ra.getD (by omega) o
   refine⟨.int ((r.getD o 0:Nat):Int),by rw[nV (by omega) (by omega),gY],m,b,r.getD o 0,rfl,hm,bm,rm,rfl,a,a,rfl,by rw[eV,pU (by omega) (by omega),gY],TQ ox⟩
  have ed:xm (λxs=>D.lst true (Ae m a o b xs)) (xm aw B)=au true (B.map (p9 m a o b)):=by
   rw[TR,b8,b8,b8]
   refine mQ λr aU=>?_
   show D.lst true (Ae m a o b (aw r))=D.lst true (aw (p9 m a o b r))
   rw[TQ (by have:=(hB r aU).1;omega),CO];rfl
  rw[ed]
  refine hU _ ?_
  clear hU U ed
  have JT:RT (af m) n (B.map (p9 m a o b)):=λx hx=>by
   obtain⟨r,aU,rfl⟩:=bI.mp hx
   obtain⟨rl,ra⟩:=hB r aU
   unfold p9
   refine⟨by rw[gZ];exact rl,λy hy=>?_⟩
   rcases qB hy with h | h
   ·exact ra y h
   ·rw[h];exact cS hm _ _
  have wB':=vV JT (by simpa using B0)
  walk_at"l3"
  refine q _ (aS _) JT (cg6 hm (a:=a) (o:=o) (b:=b) (by rw[wB'];exact JT) (by omega) (by omega) bm (by omega) λx hx=>?_)
  obtain⟨r,aU,rfl⟩:=bI.mp hx
  have rl:=(hB r aU).1
  unfold p9 cf
  simp only[aW]
  rw[oA (by omega),lF (by omega)];rfl
noncomputable abbrev aI2:aZ:=λds Q=>∃T:List (List Nat),ds=[.lst false (au false T)]/\T.length<=1000/\(∀r∈T,r.length<=1000)/\Q (.int (ak T:Nat))
theorem Af(T:Txt K mg t):aM P w K mg base aT 1 t.RV t.RW ["table"] (bo (aI2 )):=by
 refine bQ T.qj.F aI1 ?_ ?_
 ·intro ds Q h
  obtain⟨G,rfl,hG,hr,q⟩:=h<;>rfl
 ·intro aG A outer s H E hr
  refine⟨_,(aH (aV (χ (bM (iK (cy hr)) (bv 0) (aa (fc du)) (bE _)) (dU (fI) (by rfl) T.fA ft (ah (bG (bv 0) (aa ao) (λ_ _=>rfl)) az)) ao))),λds Q h=>?_⟩
  obtain⟨G,rfl,hG,hr,q⟩:=h
  walk_at"l3"
  refine⟨by decide,⟨pZ 4 _ _ _,rfl⟩,?_⟩
  rw[show(D.lst true ([]:List D))=D.lst true (au true []) from rfl,CQ]
  cases G with
  | nil=>rw[if_neg (by simp)];exact q
  | cons r G =>
   rw[if_pos (by simp)]
   refine⟨.lst false (aw r),nW false (T:=r::G) (i:=0) (LS _),?_⟩
   show Q (D.int ((aw r).length:Nat))
   rw[eV];exact q
noncomputable abbrev aE4:aZ:=λds Q=>∃(T:List (List Nat)) (j:Nat),ds=[.lst false (au false T),.int j]/\T.length<=1000/\(∀r∈T,j<r.length)/\Q (match jQ T j with | some i=>.int (i:Nat) | none=>.aq)
theorem aE5(T:Txt K mg t):aM P w K mg base aT 1 t.RX t.RY ["rows","place"] (bo (aE4 )):=by
 refine bQ T.Tc.F Q3 ?_ ?_
 ·intro ds Q h
  obtain⟨G,j,rfl,hG,hr,q⟩:=h<;>rfl
 ·intro aG A outer s H E hr
  refine⟨_,(aB (ji fM rfl (vx rfl T.wR (ah (bv 0) az)) (vz (i1:=2) (i2:=3) rfl Q3.nd rfl (ay rfl) rfl (ay rfl))
    (aH (cM (bM (iK (cy hr)) (bG (bv 3) (bv 1) (λ_ _=>rfl)) (aa ao) (bE _)) (aH (aV (em 2))) cL)))
   (aH (aV BW))),λds Q h=>?_⟩
  obtain⟨G,j,rfl,hG,hr,q⟩:=h
  refine aC λU hU=>?_
  walk_at"l3"
  refine jh.mk (λi δ=>∃o1 o2,δ=[some (D.lst false (au false G)),some (D.int j),o1,o2]/\∀k,k<i->(G.getD k []).getD j 0=0) ⟨_,_,rfl,λk hk=>absurd hk (Nat.not_lt_zero k)⟩ ?_ ?_
  ·rintro i d δ hd ⟨o1,o2,rfl,hz⟩
   obtain⟨hi,rfl⟩:=P5 hd
   have hj:=hr _ (eN hi)
   have eg:G.getD i []=G[i]:=by rw[aW,bc hi];rfl
   walk_at"l3"
   refine⟨.int (G[i].getD j 0:Nat),by rw[nV (by omega) (by omega),gY],rfl,?_⟩
   rw[kh]
   by_cases h0:G[i].getD j 0=0
   ·rw[if_neg (by rw[h0];decide)]
    refine⟨_,_,⟨rfl,rfl⟩,λk hk=>?_⟩
    by_cases e:k=i
    ·rw[e,eg];exact h0
    ·exact hz k (by omega)
   ·rw[if_pos (by rw[decide_eq_false (by omega)];rfl)]
    have ef:jQ G j=some i:=by
     unfold jQ
     rw[VO]
     refine⟨hi,by simpa using h0,λk hk=>?_⟩
     have:=hz k hk
     rw[aW (l:=G),bc (by omega)]at this
     simpa using this
    rw[ef]at q
    exact q
  ·rintro δ ⟨o1,o2,rfl,hz⟩
   refine hU _ ?_
   walk_at"l3"
   have ef:jQ G j=none:=by
    unfold jQ
    rw[VP]
    intro r aU
    obtain⟨i,hi,rfl⟩:=lK aU
    have:=hz i (by rw[vt,gw];exact hi)
    rw[aW (l:=G),bc hi]at this
    simpa using this
   rw[ef]at q
   exact q
noncomputable abbrev TX(K:Frag):aZ:=λds Q=>∃(C:Addr) (p a:Nat) (xs:List Nat),ds=[zt C p,.int a,.lst false (aw xs)]/\cY K C/\bt K C "products"/\p∈gS/\a<af (true,p)/\(∀y∈xs,y<af (true,p))/\xs.length<=1000/\Q (.lst true (aw (xs.map (gm (true,p) a))))
theorem ax6(T:Txt K mg t):aM P w K mg base aT 1 t.IY t.RZ ["self","a","row"] (bo (TX K)):=by
 refine bQ T.Td.F Q4 ?_ ?_
 ·intro ds Q h
  obtain⟨C,p,a,xs,rfl,hC,hn,hp,ha,hy,hl,q⟩:=h<;>rfl
 ·intro aG A outer s H E hr
  refine⟨_,(aB (aX (i:=3) Q4.nd rfl (bV rfl) (cR (bG (gu (K:=K) (bv 0)) (bv 1) (λ_ _=>rfl))))
   (aH (aV (dZ [("by_a",3)] ["x"] rfl (fU (bv 2)) (λ_ _ _ _=>(eH (i:=1) (show(["by_a","x"]:List Str).Nodup by decide +kernel))) (λ_ _ _ _=>dS) (λ_ _ _ _=>(cR (bG (bv 0) (bv 1) (λ_ _=>rfl)))) rfl)))),λds Q h=>?_⟩
  obtain⟨C,p,a,xs,rfl,hC,hn,hp,ha,hy,hl,q⟩:=h
  refine aC λU hU=>?_
  walk_at"l3"
  refine⟨C,_,_,_,rfl,hC,hn,rfl,_,G3 hp ha,?_⟩
  refine⟨by rw[ig,pz];rfl,hU _ ?_⟩
  clear hU U
  walk_at"l3"
  refine fv xs (λ(i:Nat)=>D.int (i:Int)) (λx=>D.int ((gm (true,p) a x:Nat):Int)) (vC xs) nM (λx hx=>?_) (.inr λ_ _=>rfl) (by rw[sL];omega) ?_
  ·walk_at"l3"
   exact⟨_,G2 hp ha (hy x hx),rfl,rfl⟩
  ·rw[fJ,b8]at q
   exact q
noncomputable abbrev TY(K:Frag):aZ:=λds Q=>∃(C:Addr) (p a:Nat) (xs:List Nat),ds=[vO C p,.int a,.lst false (aw xs)]/\cY K C/\bt K C "prime"/\0<p/\a<64/\(∀y∈xs,y<64)/\xs.length<=1000/\Q (.lst true (aw (xs.map (gm (false,p) a))))
theorem at1(T:Txt K mg t):aM P w K mg base aT 1 t.IZ t.R0 ["self","a","row"] (bo (TY K)):=by
 refine bQ T.Te.F Q5 ?_ ?_
 ·intro ds Q h
  obtain⟨C,p,a,xs,rfl,hC,hn,hp,ha,hy,hl,q⟩:=h<;>rfl
 ·intro aG A outer s H E hr
  refine⟨_,(aB (aX (i:=3) Q5.nd rfl (bV rfl) (cR (gu (K:=K) (bv 0))))
   (aH (aV (dZ [("prime",3),("a",1)] ["x"] rfl (fU (bv 2)) (λ_ _ _ _=>(eH (i:=2) (show(["prime","a","x"]:List Str).Nodup by decide +kernel))) (λ_ _ _ _=>dS) (λ_ _ _ _=>(aA bY (aa (aA iJ (bv 1) (bv 2))) (bv 0))) rfl)))),λds Q h=>?_⟩
  obtain⟨C,p,a,xs,rfl,hC,hn,hp,ha,hy,hl,q⟩:=h
  refine aC λU hU=>?_
  walk_at"l3"
  refine⟨C,_,_,.int p,rfl,hC,hn,rfl,rfl,hU _ ?_⟩
  clear hU U
  walk_at"l3"
  refine fv xs (λ(i:Nat)=>D.int (i:Int)) (λx=>D.int ((gm (false,p) a x:Nat):Int)) (vC xs) nM (λx hx=>?_) (.inr λ_ _=>rfl) (by rw[sL];omega) ?_
  ·have h2:=hy x hx
   walk_at"l3"
   refine⟨jG.ok (.inr ⟨by omega,by omega⟩),by omega,?_⟩
   show _=((a*x%p:Nat):Int)
   rw[tu,xu]
  ·rw[fJ,b8]at q
   exact q
theorem bY5(T:Txt K mg t){m:Bool × Nat}(hm:m∈aJ):∃C ns zs sp,fD t.aN t.aR m=.obj C ns zs/\k9 P w K mg base 1 "scaled" C sp/\("scaled":Str) ∉ ns/\∀(xs:List Nat) (a:Nat) (Q:D->Prop),a<af m->(∀y∈xs,y<af m)->xs.length<=1000->Q (.lst true (aw (xs.map (gm m a))))->sp [.obj C ns zs,.int a,.lst false (aw xs)] Q:=by
 have hF:=cW hm
 obtain⟨k,n⟩:=m
 cases k with
 | true=>exact⟨_,_,_,TX K,rfl,⟨T.gz,_,_,_,T.ax0,ax6 T,T.Td.b⟩,by decide,λxs a Q ha hy hl q=>⟨_,n,a,xs,rfl,T.gz,T.wK,zw hm,ha,hy,hl,q⟩⟩
 | false =>
  have sI:n<=64:=hF.hi
  have l2:2<=n:=hF.lo
  exact⟨_,_,_,TY K,rfl,⟨T.gU,_,_,_,T.as6,at1 T,T.Te.b⟩,by decide,λxs a Q ha hy hl q=>⟨_,n,a,xs,rfl,T.gU,T.sG,by omega,cH (show a<n from ha) sI,λy h=>cH (show y<n from hy y h) sI,hl,q⟩⟩
noncomputable abbrev TZ(K:Frag):aZ:=λds Q=>∃(C:Addr) (p a:Nat) (xs ys:List Nat),ds=[zt C p,.lst false (aw xs),.int a,.lst false (aw ys)]/\cY K C/\bt K C "products"/\p∈gS/\a<af (true,p)/\(∀y∈ys,y<af (true,p))/\xs.length<=1000/\Q (.lst true (aw (eX (λx y=>cj (true,p) x (gm (true,p) a y)) xs ys)))
theorem at2(T:Txt K mg t):aM P w K mg base aT 1 t.I0 t.R1 ["self","row","a","other"] (bo (TZ K)):=by
 refine bQ T.Tf.F Q6 ?_ ?_
 ·intro ds Q h
  obtain⟨C,p,a,xs,ys,rfl,hC,hn,hp,ha,hy,hl,q⟩:=h<;>rfl
 ·intro aG A outer s H E hr
  refine⟨_,(aB (aX (i:=4) Q6.nd rfl (bV rfl) (cR (bG (gu (K:=K) (bv 0)) (bv 2) (λ_ _=>rfl))))
   (aH (aV (dZ [("by_a",4)] ["x","y"] rfl (GG rfl T.JH (ah (bv 1) (ah (bv 3) az))) (λ_ _ _ _=>(zO (i1:=1) (i2:=2) (show(["by_a","x","y"]:List Str).Nodup by decide +kernel))) (λ_ _ _ _=>dS) (λ_ _ _ _=>(aA B8 (bv 1) (bG (bv 0) (bv 2) (λ_ _=>rfl)))) rfl)))),λds Q h=>?_⟩
  obtain⟨C,p,a,xs,ys,rfl,hC,hn,hp,ha,hy,hl,q⟩:=h
  refine aC λU hU=>?_
  walk_at"l3"
  refine⟨C,_,_,_,rfl,hC,hn,rfl,_,G3 hp ha,?_⟩
  refine⟨by rw[ig,pz];rfl,hU _ ?_⟩
  clear hU U
  walk_at"l3"
  refine⟨_,_,rfl,rfl,PY (λx y=>cj (true,p) x (gm (true,p) a y)) (λx hx y DV=>?_) (by omega) q⟩
  walk_at"l3"
  refine⟨_,G2 hp ha (hy y DV),?_⟩
  show oE (x:Int) ((gm (true,p) a y:Nat):Int)=_
  rw[qS];rfl
noncomputable abbrev T1(K:Frag):aZ:=λds Q=>∃(C:Addr) (p a:Nat) (xs ys:List Nat),ds=[vO C p,.lst false (aw xs),.int a,.lst false (aw ys)]/\cY K C/\bt K C "prime"/\0<p/\a<64/\(∀y∈ys,y<64)/\xs.length<=1000/\Q (.lst true (aw (eX (λx y=>cj (false,p) x (gm (false,p) a y)) xs ys)))
theorem ar0(T:Txt K mg t):aM P w K mg base aT 1 t.Ja t.R3 ["self","row","a","other"] (bo (T1 K)):=by
 refine bQ T.Tg.F Q7 ?_ ?_
 ·intro ds Q h
  obtain⟨C,p,a,xs,ys,rfl,hC,hn,hp,ha,hy,hl,q⟩:=h<;>rfl
 ·intro aG A outer s H E hr
  refine⟨_,(aB (aX (i:=4) Q7.nd rfl (bV rfl) (cR (gu (K:=K) (bv 0))))
   (aH (aV (dZ [("prime",4),("a",2)] ["x","y"] rfl (GG rfl T.JH (ah (bv 1) (ah (bv 3) az))) (λ_ _ _ _=>(zO (i1:=2) (i2:=3) (show(["prime","a","x","y"]:List Str).Nodup by decide +kernel))) (λ_ _ _ _=>dS) (λ_ _ _ _=>(aA bY (aa (aA jm (bv 2) (aa (aA iJ (bv 1) (bv 3))))) (bv 0))) rfl)))),λds Q h=>?_⟩
  obtain⟨C,p,a,xs,ys,rfl,hC,hn,hp,ha,hy,hl,q⟩:=h
  refine aC λU hU=>?_
  walk_at"l3"
  refine⟨C,_,_,.int p,rfl,hC,hn,rfl,rfl,hU _ ?_⟩
  clear hU U
  walk_at"l3"
  refine⟨_,_,rfl,rfl,PY (λx y=>cj (false,p) x (gm (false,p) a y)) (λx hx y DV=>?_) (by omega) q⟩
  have h2:=hy y DV
  walk_at"l3"
  refine⟨jG.ok (.inr ⟨by omega,by omega⟩),by omega,?_⟩
  have e:((x:Int)-((a*y%p:Nat):Int))%(p:Int)=((x:Int)-(a:Int)*y)%p:=by
   rw[tu,xu,Int.sub_emod,Int.emod_emod,<- Int.sub_emod]
  show _=(((((x:Int)-((a*y%p:Nat):Int))%(p:Int)).toNat:Nat):Int)
  rw[e,xq (fm _ (by omega))]
theorem T3(T:Txt K mg t){m:Bool × Nat}(hm:m∈aJ):∃C ns zs sp,fD t.aN t.aR m=.obj C ns zs/\k9 P w K mg base 1 "lessened" C sp/\("lessened":Str) ∉ ns/\∀(xs ys:List Nat) (a:Nat) (Q:D->Prop),a<af m->(∀y∈ys,y<af m)->xs.length<=1000->Q (.lst true (aw (eX (λx y=>cj m x (gm m a y)) xs ys)))->sp [.obj C ns zs,.lst false (aw xs),.int a,.lst false (aw ys)] Q:=by
 have hF:=cW hm
 obtain⟨k,n⟩:=m
 cases k with
 | true=>exact⟨_,_,_,TZ K,rfl,⟨T.gz,_,_,_,T.as5,at2 T,T.Tf.b⟩,by decide,λxs ys a Q ha hy hl q=>⟨_,n,a,xs,ys,rfl,T.gz,T.wK,zw hm,ha,hy,hl,q⟩⟩
 | false =>
  have sI:n<=64:=hF.hi
  have l2:2<=n:=hF.lo
  exact⟨_,_,_,T1 K,rfl,⟨T.gU,_,_,_,T.aq8,ar0 T,T.Tg.b⟩,by decide,λxs ys a Q ha hy hl q=>⟨_,n,a,xs,ys,rfl,T.gU,T.sG,by omega,cH (show a<n from ha) sI,λy h=>cH (show y<n from hy y h) sI,hl,q⟩⟩
noncomputable abbrev aJ6(cb cp:Addr):aZ:=λds Q=>∃(m:Bool × Nat) (T:List (List Nat)) (l:List Nat) (j:Nat),ds=[fD cb cp m,.lst false (au false T),.lst false (aw l),.int j]/\m∈aJ/\T.length<=1000/\AllLt (af m) l/\(∀r∈T,j<r.length/\r.length<=1000/\AllLt (af m) r)/\Q (.lst true (au true (T.map λr=>eX (λx y=>cj m x (gm m (r.getD j 0) y)) r l)))
theorem T4(T:Txt K mg t):aM P w K mg base aT 2 t.R4 t.R5 ["field","rows","lead_row","place"] (bo (aJ6 t.aN t.aR)):=by
 refine bQ T.Jo.F aJ2 ?_ ?_
 ·intro ds Q h
  obtain⟨m,G,l,j,rfl,hm,hG,hl,hr,q⟩:=h<;>rfl
 ·intro aG A outer s H E hr
  refine⟨_,(aH (aV (dZ [("lead_row",2),("field",0),("place",3)] ["row"] rfl (fU (bv 1)) (λ_ _ _ _=>(eH (i:=3) (show(["lead_row","field","place","row"]:List Str).Nodup by decide +kernel))) (λ_ _ _ _=>dS) (λ_ _ _ _=>(sk (P:=P) (w:=w) (K:=K) (mg:=mg) (base:=base) (n:=1) (bv 1) (hr.mono (by decide)) (ah (bv 3) (ah (bG (bv 3) (bv 2) (λ_ _=>rfl)) (ah (bv 0) az))))) rfl))),λds Q h=>?_⟩
  obtain⟨m,G,l,j,rfl,hm,hG,hl,hr,q⟩:=h
  walk_at"l3"
  refine fv G (λr=>D.lst false (aw r)) (λr=>D.lst true (aw (eX (λx y=>cj m x (gm m (r.getD j 0) y)) r l))) (by rw[dv];rfl) (λa b h=>my a b h) (λr aU=>?_) (.inr λr _=>kj _) (by rw[sL];omega) ?_
  ·obtain⟨h1,h2,h3⟩:=hr r aU
   obtain⟨C,ns,zs,sp,e1,e2,e3,e4⟩:=T3 (P:=P) (w:=w) (base:=base) T hm
   walk_at"l3"
   refine⟨C,ns,zs,sp,e1,e2,e3,.int (r.getD j 0:Nat),by rw[nV (by omega) (by omega),gY],e4 _ _ _ _ (h3.getD (by have:=(cW hm).lo;omega) j) hl h2 ⟨rfl,rfl⟩⟩
  ·rw[au,b8]at q
   exact q
noncomputable abbrev T5(t:fF)(P:Program)(w:World)(K:Frag)(mg:Str->Option Value)(base:Heap):kZ:=λds Q Ex=>∃(m:Bool × Nat) (a b:Nat),ds=[fD t.aN t.aR m,.int a,.int b]/\m∈aJ/\a<af m/\b<af m/\(b=0->Ex t.eI)/\(b≠0->∀r:Nat,r<af m->gm m r b=a->Q (.int (r:Nat)))
theorem T6(T:Txt K mg t):aM P w K mg base (j8 P w) 2 t.Dv t.R6 ["self","a","b"] (pB (T5 t P w K mg base)):=by
 refine Gq T.Jp.F aD5 ?_ ?_
 ·intro ds Q Ex h
  obtain⟨m,a,b,rfl,hm,ha,hb,qx,q⟩:=h<;>rfl
 ·intro aG A outer s H E hr
  refine⟨_,(aB (cM (bM (ff (cy hr)) (bv 2) (aa ao) (bE _)) (aH (Ck T.TH rfl (by rfl) (ah (aa ue) az))) cL)
   (aB (cM (bM (ff (cy hr)) (bv 1) (aa ao) (bE _)) (aH (aV ao)) cL)
   (aH (aV (sk (P:=P) (w:=w) (K:=K) (mg:=mg) (base:=base) (n:=1) (bv 0) (hr.mono (by decide)) (ah (aa (aA jm (bG (gu (K:=K) (bv 0)) (bv 1) (λ_ _=>rfl)) (bG (gu (K:=K) (bv 0)) (bv 2) (λ_ _=>rfl)))) az)))))),λds Q Ex h=>?_⟩
  obtain⟨m,a,b,rfl,hm,ha,hb,qx,q⟩:=h
  refine aC λU hU=>?_
  walk_at"l3"
  split
  ·rename_i h0
   exact⟨by decide,qx (by omega)⟩
  ·rename_i h0
   have b0:b≠0:=by omega
   refine hU _ ?_
   clear hU U
   refine aC λU hU=>?_
   walk_at"l3"
   split
   ·rename_i h1
    have a0:a=0:=by omega
    subst a0
    exact q b0 0 ha (iM m b (dM m hm))
   ·rename_i h1
    have a0:a≠0:=by omega
    refine hU _ ?_
    clear hU U
    have hF:=cW hm
    obtain⟨r,e,C5,Gm⟩:=PK hm (show 1<=a by omega) ha (show 1<=b by omega) hb
    have qr:=q b0 r C5 Gm
    obtain⟨k,n⟩:=m
    cases k with
    | true =>
     walk_at"l3"
     have ll:(eO (fl (true,n))).length=af (true,n):=(zk _ _).trans hF.len
     have n0:=fm (lg (true,n) a-lg (true,n) b) (show(af (true,n):Int)-1≠0 by have:=hF.lo;omega)
     have n1:=fE (lg (true,n) a-lg (true,n) b) (show(0:Int)<(af (true,n):Int)-1 by have:=hF.lo;omega)
     refine⟨_,_,_,JP K,rfl,⟨T.gz,_,_,_,T.DK,JQ T,T.DA.b⟩,by decide,_,_,_,_,rfl,T.gz,T.wJ,rfl,_,mn (by omega) (by rw[ll];omega),_,_,_,_,rfl,T.gz,T.wJ,rfl,_,mn (by omega) (by rw[ll];omega),?_⟩
     refine⟨_,_,_,_,af (true,n),fl (true,n),r,rfl,T.gz,T.zX,T.zW,rfl,rfl,hF.lo,?_,qr⟩
     have hk:((lg (true,n) a-lg (true,n) b)%((af (true,n):Int)-1)).toNat<(fl (true,n)).length:=by have:=hF.len;omega
     show(fl (true,n))[((lg (true,n) a-lg (true,n) b)%((af (true,n):Int)-1)).toNat]?=some (r:Int)
     rw[<-e]
     unfold pw
     rw[aW,bc hk];rfl
    | false =>
     walk_at"l3"
     have ll:(eO (fl (false,n))).length=af (false,n):=(zk _ _).trans hF.len
     have n0:=fm (lg (false,n) a-lg (false,n) b) (show(af (false,n):Int)-1≠0 by have:=hF.lo;omega)
     have n1:=fE (lg (false,n) a-lg (false,n) b) (show(0:Int)<(af (false,n):Int)-1 by have:=hF.lo;omega)
     refine⟨_,_,_,JP K,rfl,⟨T.gU,_,_,_,T.DO,JQ T,T.DA.b⟩,by decide,_,_,_,_,rfl,T.gU,T.zY,rfl,_,mn (by omega) (by rw[ll];omega),_,_,_,_,rfl,T.gU,T.zY,rfl,_,mn (by omega) (by rw[ll];omega),?_⟩
     refine⟨_,_,_,_,af (false,n),fl (false,n),r,rfl,T.gU,T.DN,T.zZ,rfl,rfl,hF.lo,?_,qr⟩
     have hk:((lg (false,n) a-lg (false,n) b)%((af (false,n):Int)-1)).toNat<(fl (false,n)).length:=by have:=hF.len;omega
     show(fl (false,n))[((lg (false,n) a-lg (false,n) b)%((af (false,n):Int)-1)).toNat]?=some (r:Int)
     rw[<-e]
     unfold pw
     rw[aW,bc hk];rfl
theorem T7(T:Txt K mg t)(m:Bool × Nat):CL P w K mg base 2 "over" (if m.1 then t.aN else t.aR) (T5 t P w K mg base):=by
 obtain⟨k,n⟩:=m
 cases k with
 | true=>exact⟨T.gz,_,_,_,T.Jw,T6 T,T.Jp.b⟩
 | false=>exact⟨T.gU,_,_,_,T.JG,T6 T,T.Jp.b⟩
noncomputable abbrev aJ7(t:fF)(P:Program)(w:World)(K:Frag)(mg:Str->Option Value)(base:Heap):aZ:=λds Q=>∃(m:Bool × Nat) (G:List (List Nat)),ds=[fD t.aN t.aR m,.lst false (au false G)]/\m∈aJ/\G.length<=900/\RT (af m) (ak G) G/\ak G<=900/\Q (.lst true (au true (bO m G)))
theorem DX(T:Txt K mg t):aM P w K mg base aT 3 t.R7 t.R8 ["field","table"] (bo (aJ7 t P w K mg base)):=by
 refine bQ T.sF.F qh ?_ ?_
 ·intro ds Q h
  obtain⟨m,G,rfl,hm,hG,hR,hw,q⟩:=h<;>rfl
 ·intro aG A outer s H E hr
  refine⟨_,(aB (aX (i:=2) qh.nd rfl (ay rfl) (fc du))
   (aB (aX (i:=3) qh.nd rfl (ay rfl) (cR (bv 1)))
   (aB (ji fM rfl (nj rfl T.jV (ah (aa (bB T.qj (Af T) hr (ah (bv 1) az))) az)) (mf (i:=4) qh.nd rfl (ay rfl))
    (yi 3 (aB (aX (i:=5) qh.nd rfl (ay rfl) (bB T.Tc (aE5 T) hr (ah (bv 3) (ah (bv 4) az))))
    (aH (cM (bM cm5 (bv 5) (aa BW) (bE _)) (aB (aX (i:=6) qh.nd rfl (ay rfl) (sk (P:=P) (w:=w) (K:=K) (mg:=mg) (base:=base) (n:=1) (bv 0) (hr.mono (by decide)) (ah (aa (PL (P:=P) (w:=w) (K:=K) (mg:=mg) (base:=base) (n:=2) (bv 0) (hr.mono (by decide)) (ah (aa ao) (ah (bG (bG (bv 3) (bv 5) (λ_ _=>rfl)) (bv 4) (λ_ _=>rfl)) az)))) (ah (bG (bv 3) (bv 5) (λ_ _=>rfl)) az))))
     (aB (aX (i:=3) qh.nd rfl (ay rfl) (bB T.Jo (T4 T) hr (ah (bv 0) (ah (aa (aA cT (aa (nL (bv 3) nF (nG (bv 5)))) (aa (nL (bv 3) (nG (aa (aA cT (bv 5) (aa ao)))) nF)))) (ah (bv 6) (ah (bv 4) az))))))
     (aH (aX (i:=2) qh.nd rfl (ay rfl) (cm6 (bB T.Jo (T4 T) hr (ah (bv 0) (ah (bv 2) (ah (bv 6) (ah (bv 4) az))))) (fc (di (em 6) du))))))) cL)))))
   (aH (aV (em 2)))))),λds Q h=>?_⟩
  obtain⟨m,G,rfl,hm,hG,hR,hw,q⟩:=h
  have gg:=(cW hm).lo
  refine aC λU hU=>?_
  walk_at"l3"
  refine⟨by decide,hU _ ?_⟩
  clear hU U
  refine aC λU hU=>?_
  walk_at"l3"
  refine hU _ ?_
  clear hU U
  refine aC λU hU=>?_
  walk_at"l3"
  refine⟨G,rfl,by omega,λr aU=>?_,?_⟩
  ·rw[(hR r aU).1];omega
  refine⟨_,rfl,⟨by omega,by omega⟩,?_⟩
  refine yV (λk δ=>∃(o:Bool) (o1 o2 o3:Option D),δ=[some (fD t.aN t.aR m),some (D.lst false (au false G)),some (D.lst true (au true (jw m G k).1)),some (D.lst o (au o (jw m G k).2)),o1,o2,o3]) ⟨false,none,none,none,rfl⟩ ?_ ?_
  ·rintro k δ hk ⟨o,o1,o2,o3,rfl⟩
   have I:=zH hm hR k
   rw[G9]
   generalize jw m G k=s at I ⊢
   simp only[gN,rj,iU,iT,tE,tD,xt,exists_eq_left',cP,dv]
   clear hU
   have il:=I.l
   refine aC λU hU=>?_
   walk_at"l3"
   refine⟨s.2,k,rfl,by omega,λr aU=>by rw[(I.b r aU).1];omega,?_⟩
   cases e:jQ s.2 k with
   | none =>
    rw[show iw m s k=s by unfold iw;rw[e]]at hU
    refine hU _ ?_
    walk_at"l3"
    exact⟨false,_,_,_,⟨rfl,rfl⟩,rfl,rfl,rfl⟩
   | some i =>
    obtain⟨hi,h1,h2⟩:=CU e
    have er:iw m s k=(gG m s.1 (dX m s.2 i k) k++[dX m s.2 i k],gG m (s.2.take i++s.2.drop (i+1)) (dX m s.2 i k) k):=by unfold iw;rw[e]
    rw[er]at hU
    refine hU _ ?_
    clear hU
    walk_at"l3"
    obtain⟨C,ns,xs,sp,e1,e2,e3,e4⟩:=bY5 (P:=P) (w:=w) (base:=base) T hm
    refine aC λU hU=>?_
    walk_at"l3"
    obtain⟨lw,lr⟩:=I.b _ (eN hi)
    have bk:=lr.getD (show 0<af m by omega) k
    refine⟨C,ns,xs,sp,e1,e2,e3,_,_,_,_,vP _ _ m,T7 T m,PM m _ (by decide),.lst false (aw s.2[i]),nW false hi,?_⟩
    dsimp only
    refine⟨.int (s.2[i].getD k 0:Nat),by rw[nV (by omega) (by omega),gY],m,1,s.2[i].getD k 0,by rw[vP];rfl,hm,gg,bk,λz=>absurd z h1,λ_ f hf hfo=>⟨rfl,.lst false (aw s.2[i]),nW false hi,?_⟩⟩
    have ef:mB m (s.2[i].getD k 0)=f:=CT hm hf hfo
    rw[zD]
    refine e4 _ _ _ hf lr (by omega) ⟨by rw[kj,iz],hU _ ?_⟩
    have el:s.2[i].map (gm m f)=dX m s.2 i k:=by unfold dX;rw[h2,ef]
    rw[el]
    have ll:(dX m s.2 i k).length=ak G:=by rw[<-el,aS];exact lw
    have la:AllLt (af m) (dX m s.2 i k):=λx hx=>by
     rw[<-el]at hx
     obtain⟨y,_,rfl⟩:=bI.mp hx
     exact cS hm _ _
    generalize dX m s.2 i k=ld at ll la ⊢
    clear hU
    refine aC λU hU=>?_
    walk_at"l3"
    have JU:∀r∈s.2.take i++s.2.drop (i+1),r.length=ak G/\AllLt (af m) r:=λr aU=>by
     rcases bA.mp aU with h | h
     ·exact I.b r (xk h)
     ·exact I.b r (qA h)
    have T8:∀X:List (List Nat),(D.lst true (au true X)).fr=true:=λX=>by rw[fG,pX];rfl
    rw[y8,show((i:Int)+1)=((i+1:Nat):Int) by omega,Cp,pY,dv]
    refine⟨by rw[eC,iS];omega,m,_,ld,k,rfl,hm,by rw[eM,eC,iS];omega,la,λr aU=>⟨by rw[(JU r aU).1];exact hk,by rw[(JU r aU).1];omega,(JU r aU).2⟩,T8 _,hU _ ?_⟩
    clear hU
    walk_at"l3"
    refine⟨m,s.1,ld,k,rfl,hm,by omega,la,λr aU=>⟨by rw[(I.a r aU).1];exact hk,by rw[(I.a r aU).1];omega,(I.a r aU).2⟩,T8 _,by decide,_,_,rfl,rfl,?_,true,_,_,_,pY true _ [ld],⟨rfl,rfl⟩,rfl,rfl,rfl⟩
    rw[gw,aS]
    show s.1.length+1<=_
    omega
  ·rintro δ ⟨o,o1,o2,o3,rfl⟩
   refine hU _ ?_
   walk_at"l3"
   exact q
noncomputable abbrev aK2:aZ:=λds Q=>∃T:List (List Nat),ds=[.lst false (au false T)]/\T.length<=1000/\Q (.lst true (au true T))
theorem JV(T:Txt K mg t):aM P w K mg base aT 1 t.R9 t.Sa ["table"] (bo (aK2 )):=by
 refine bQ T.wH.F aJ8 ?_ ?_
 ·intro ds Q h
  obtain⟨G,rfl,hG,q⟩:=h<;>rfl
 ·intro aG A outer s H E hr
  refine⟨_,(aH (aV (dZ [] ["row"] rfl (fU (bv 0)) (λ_ _ _ _=>(eH (i:=0) (show(["row"]:List Str).Nodup by decide +kernel))) (λ_ _ _ _=>dS) (λ_ _ _ _=>(nC (rJ) (by rfl) T.sH qT (ah (bv 0) az))) rfl))),λds Q h=>?_⟩
  obtain⟨G,rfl,hG,q⟩:=h
  walk_at"l3"
  refine fv G (λr=>D.lst false (aw r)) (λr=>D.lst true (aw r)) (by rw[dv];rfl) (λa b h=>my a b h) (λr aU=>?_) (.inr λr _=>kj r) (by rw[sL];omega) q
  walk_at"l3"
noncomputable abbrev bV9:aZ:=λds Q=>∃T:List (List Nat),ds=[.lst false (au false T)]/\T.length<=1000/\(∀r∈T,r.length<=1000/\∃x∈r,x≠0)/\Q (.lst true (aw (T.map aQ)))
theorem JW(T:Txt K mg t):aM P w K mg base aT 1 t.Sb t.Sd ["rows"] (bo (bV9 )):=by
 refine bQ T.DG.F b27 ?_ ?_
 ·intro ds Q h
  obtain⟨G,rfl,hG,hr,q⟩:=h<;>rfl
 ·intro aG A outer s H E hr
  refine⟨_,(aH (aV (dZ [] ["row"] rfl (fU (bv 0)) (λ_ _ _ _=>(eH (i:=0) (show(["row"]:List Str).Nodup by decide +kernel))) (λ_ _ _ _=>dS) (by exact λ_ _ _ _=>(cR (bG (aa (dZ [] ["place","x"] rfl (vx rfl T.wR (ah (bv 0) az)) (λ_ _ _ _=>(zO (i1:=0) (i2:=1) (show(["place","x"]:List Str).Nodup by decide +kernel))) (λ_ _ _ _=>(B7 (bM (iK (cy hr)) (bv 1) (aa ao) (bE _)))) (λ_ _ _ _=>(cR (bv 0))) rfl)) (aa ao) (λ_ _=>rfl)))) rfl))),λds Q h=>?_⟩
  obtain⟨G,rfl,hG,hr,q⟩:=h
  walk_at"l3"
  refine fv G (λr=>D.lst false (aw r)) (λr=>D.int (aQ r:Nat)) (by rw[dv];rfl) (λa b h=>my a b h) (λr aU=>?_) (.inr λr _=>rfl) (by rw[sL];omega) ?_
  ·obtain⟨h1,x,hx,h3⟩:=hr r aU
   walk_at"l3"
   refine CS (bh r.length) (λ(i:Nat)=>D.tup [.int (i:Int),.int ((r.getD i 0:Nat):Int)]) (λ(i:Nat)=>D.int (i:Int)) (λi=>r.getD i 0 != 0) (G8 r) (λa b h=>by injection h with h;simp at h;omega) (λi hi=>?_) (.inr λ_ _ _=>rfl) (by rw[fk,sL];omega) ?_
   ·walk_at"l3"
    refine⟨?_,λ_=>trivial⟩
    by_cases h0:r.getD i 0=0
    ·rw[h0];rfl
    ·rw[decide_eq_false (by omega),bne_iff_ne.mpr h0];rfl
   ·refine⟨.int (aQ r:Nat),L3.vy (k:=0) ?_,rfl,rfl⟩
    rw[cU,P6 ⟨x,hx,h3⟩];rfl
  ·rw[fJ,b8]at q
   exact q
noncomputable abbrev aC9:aZ:=λds Q=>∃(T:List (List Nat)) (w:Nat),ds=[.lst false (au false T),.int w]/\T.length<=1000/\w<=1000/\(∀r∈T,r.length<=1000/\∃x∈r,x≠0)/\Q (.lst true (aw (cu T w)))
theorem T9(T:Txt K mg t):aM P w K mg base aT 2 t.Se t.Sf ["rows","width"] (bo (aC9 )):=by
 refine bQ T.zR.F Q8 ?_ ?_
 ·intro ds Q h
  obtain⟨G,w,rfl,hG,hw,hr,q⟩:=h<;>rfl
 ·intro aG A outer s H E hr
  refine⟨_,(aB (aX (i:=2) Q8.nd rfl (bV rfl) (bB T.DG (JW T) hr (ah (bv 0) az)))
   (aH (aV (dZ [("taken",2)] ["place"] rfl (nj rfl T.jV (ah (bv 1) az)) (λ_ _ _ _=>(eH (i:=1) (show(["taken","place"]:List Str).Nodup by decide +kernel))) (λ_ _ _ _=>(B7 (bM P2 (bv 1) (bv 0) (by with_unfolding_all rfl)))) (λ_ _ _ _=>(cR (bv 1))) rfl)))),λds Q h=>?_⟩
  obtain⟨G,w,rfl,hG,hw,hr,q⟩:=h
  refine aC λU hU=>?_
  walk_at"l3"
  refine⟨G,rfl,hG,hr,?_⟩
  refine hU _ ?_
  clear hU U
  walk_at"l3"
  refine⟨⟨by omega,by omega⟩,CS (bh w) (λ(i:Nat)=>D.int (i:Int)) (λ(i:Nat)=>D.int (i:Int)) (λj=>!(G.map aQ).contains j) (CN _ rfl) nM (λj hj=>?_) (.inr λ_ _ _=>rfl) (by rw[fk,sL];omega) ?_⟩
  ·walk_at"l3"
   exact⟨_,rfl,by rw[P8],λ_=>trivial⟩
  ·rw[fJ]at q
   exact q
noncomputable abbrev Ua:aZ:=λds Q=>∃(d:D) (a b:Nat),ds=[d,.int a,.int b]/\Q (.int (a ^^^ b:Nat))
theorem az3(T:Txt K mg t):aM P w K mg base aT 1 t.Jb t.Sg ["self","a","b"] (bo (Ua )):=by
 refine bQ T.Th.F ay8 ?_ ?_
 ·intro ds Q h
  obtain⟨d,a,b,rfl,q⟩:=h<;>rfl
 ·intro aG A outer s H E hr
  refine⟨_,(aH (aV (aA B8 (bv 1) (bv 2)))),λds Q h=>?_⟩
  obtain⟨d,a,b,rfl,q⟩:=h
  walk_at"l3"
  rw[qS];exact q
noncomputable abbrev Ub(K:Frag):aZ:=λds Q=>∃(C:Addr) (p:Nat) (a b:Int),ds=[vO C p,.int a,.int b]/\cY K C/\bt K C "prime"/\0<p/\Q (.int ((a-b)%p))
theorem au9(T:Txt K mg t):aM P w K mg base aT 1 t.Jc t.Sh ["self","a","b"] (bo (Ub K)):=by
 refine bQ T.Ti.F au5 ?_ ?_
 ·intro ds Q h
  obtain⟨C,p,a,b,rfl,hC,hn,hp,q⟩:=h<;>rfl
 ·intro aG A outer s H E hr
  refine⟨_,(aH (aV (aA bY (aa (aA jm (bv 1) (bv 2))) (gu (K:=K) (bv 0))))),λds Q h=>?_⟩
  obtain⟨C,p,a,b,rfl,hC,hn,hp,q⟩:=h
  walk_at"l3"
  refine⟨C,_,_,.int p,rfl,hC,hn,rfl,?_⟩
  exact⟨by omega,q⟩
theorem b98(T:Txt K mg t){m:Bool × Nat}(h0:0<m.2):∃C ns xs sp,fD t.aN t.aR m=.obj C ns xs/\k9 P w K mg base 1 "minus" C sp/\("minus":Str) ∉ ns/\∀(a b:Nat) (Q:D->Prop),Q (.int (gl m a b))->sp [.obj C ns xs,.int a,.int b] Q:=by
 obtain⟨k,n⟩:=m
 cases k with
 | true=>exact⟨_,_,_,Ua,rfl,⟨T.gz,_,_,_,T.az0,az3 T,T.Th.b⟩,by decide,λa b Q q=>⟨_,a,b,rfl,q⟩⟩
 | false=>exact⟨_,_,_,Ub K,rfl,⟨T.gU,_,_,_,T.au7,au9 T,T.Ti.b⟩,by decide,λa b Q q=>⟨_,n,a,b,rfl,T.gU,T.sG,h0,q⟩⟩
noncomputable abbrev at3(cb cp:Addr):aZ:=λds Q=>∃(m:Bool × Nat) (T:List (List Nat)) (w:Nat),ds=[fD cb cp m,.lst false (au false T),.int w]/\m∈aJ/\T.length<=1000/\w<=1000/\RT (af m) w T/\(∀r∈T,∃x∈r,x≠0)/\Q (.lst true (au true (mC m T w)))
theorem Uc(T:Txt K mg t):aM P w K mg base aT 3 t.Si t.Sj ["field","rows","width"] (bo (at3 t.aN t.aR)):=by
 refine bQ T.zS.F wA ?_ ?_
 ·intro ds Q h
  obtain⟨m,G,wi,rfl,hm,hG,hw,hR,hr,q⟩:=h<;>rfl
 ·intro aG A outer s H E hr
  refine⟨_,(aB (aX (i:=3) wA.nd rfl (ay rfl) (bB T.DG (JW T) hr (ah (bv 1) az)))
   (aB (aX (i:=4) wA.nd rfl (ay rfl) (fc du))
   (yi 3 (aB (ji fM rfl (FU (bB T.zR (T9 T) hr (ah (bv 1) (ah (bv 2) az)))) (mf (i:=5) wA.nd rfl (ay rfl))
    (aB (aX (i:=6) wA.nd rfl (ay rfl) (aA iJ (aa (fc (di ao du))) (bv 2)))
    (aB (Cd (i:=6) rfl (by first | exact ay rfl | exact bV (ay rfl)) ao (bv 5))
    (aB (ji fM rfl (GG rfl T.JH (ah (bv 3) (ah (bv 1) az))) (vz (i1:=7) (i2:=8) rfl wA.nd rfl (ay rfl) rfl (ay rfl))
     (aH (Cd (i:=6) rfl (by first | exact ay rfl | exact bV (ay rfl)) (sk (P:=P) (w:=w) (K:=K) (mg:=mg) (base:=base) (n:=1) (bv 0) (hr.mono (by decide)) (ah (aa ao) (ah (bG (bv 8) (bv 5) (λ_ _=>rfl)) az))) (bv 7))))
    (aH (pq (i:=4) rfl (by first | exact ay rfl | exact bV (ay rfl)) (em 6)))))))
   (aH (aV (em 4))))))),λds Q h=>?_⟩
  obtain⟨m,G,wi,rfl,hm,hG,hw,hR,hr,q⟩:=h
  have m0:=dM m hm
  have gg:=(cW hm).lo
  refine aC λU hU=>?_
  walk_at"l3"
  refine⟨G,rfl,hG,λr aU=>⟨by rw[(hR r aU).1];exact hw,hr r aU⟩,hU _ ?_⟩
  clear hU U
  refine aC λU hU=>?_
  walk_at"l3"
  refine⟨by decide,hU _ ?_⟩
  clear hU U
  refine⟨_,rfl,?_⟩
  rw[zD]
  simp only[iU,iT]
  refine aC λU hU=>?_
  walk_at"l3"
  refine⟨G,wi,rfl,hG,hw,λr aU=>⟨by rw[(hR r aU).1];exact hw,hr r aU⟩,?_⟩
  refine⟨_,rfl,?_⟩
  have hfp:∀j∈cu G wi,j<wi:=λj hj=>eJ.mp (wY.mp hj).1
  have lfp:(cu G wi).length<=wi:=by
   have:=VW (λj=>!(G.map aQ).contains j) (bh wi)
   rw[fk]at this
   exact this
  rw[pG]
  refine jh.mk (λi δ=>∃o1 o2 o3 o4,δ=[some (fD t.aN t.aR m),some (D.lst false (au false G)),some (D.int wi),some (D.lst false (aw (G.map aQ))),some (D.lst true (au true (((cu G wi).take i).map (fw m G wi)))),o1,o2,o3,o4]) ⟨_,_,_,_,rfl⟩ ?_ ?_
  ·rintro i d δ hd ⟨o1,o2,o3,o4,rfl⟩
   rw[fJ,cU]at hd
   obtain⟨f,hf,rfl⟩:=Ez.mp hd
   have hfw:=hfp f (sV hf)
   clear hd
   refine aC λU hU=>?_
   walk_at"l3"
   have er:aF (bg wi 0)=aw (bg wi 0):=by
    rw[fJ,VX];unfold aF;rw[VX];rfl
   rw[gY,er]
   refine⟨by decide,⟨by omega,by omega,by omega⟩,hU _ ?_⟩
   clear hU
   refine aC λU hU=>?_
   walk_at"l3"
   refine⟨_,f,rfl,?_,?_⟩
   ·rw[pU (by omega) (by rw[eV,xb];omega)];rfl
   rw[show(aw (bg wi 0)).set f (D.int 1)=aw ((bg wi 0).set f 1) from CO _ _ 1]
   refine hU _ ?_
   clear hU
   refine aC λU hU=>?_
   walk_at"l3"
   refine⟨_,_,rfl,rfl,?_⟩
   refine jh.mk (λk δ=>∃o3 o4,δ=[some (fD t.aN t.aR m),some (D.lst false (au false G)),some (D.int wi),some (D.lst false (aw (G.map aQ))),some (D.lst true (au true (((cu G wi).take i).map (fw m G wi)))),some (D.int f),some (D.lst true (aw ((((G.map aQ).zip G).take k).foldl (λx z=>x.set z.1 (cj m 0 (z.2.getD f 0))) ((bg wi 0).set f 1)))),o3,o4]) ⟨_,_,rfl⟩ ?_ ?_
   ·rintro k d δ hd ⟨o3,o4,rfl⟩
    obtain⟨hk,rfl⟩:=ci2 hd
    clear hd
    obtain⟨lw,la⟩:=hR _ (eN hk)
    have xl:=P9 (λz:Nat × List Nat=>z.1) (λz=>cj m 0 (z.2.getD f 0)) (((G.map aQ).zip G).take k) ((bg wi 0).set f 1)
    rw[gZ,xb]at xl
    obtain⟨C,ns,xs,sp,e1,e2,e3,e4⟩:=b98 (P:=P) (w:=w) (base:=base) T m0
    have hld:aQ G[k]<wi:=by
     rw[<-lw]
     obtain⟨x,hx,h0⟩:=hr _ (eN hk)
     exact LK ⟨x,hx,by simpa using h0⟩
    have ga:=pV hm (a:=0) (b:=G[k].getD f 0) (by omega) (la.getD (by omega) f)
    walk_at"l3"
    refine⟨C,ns,xs,sp,e1,e2,e3,.int (G[k].getD f 0:Nat),by rw[nV (by omega) (by omega),gY],e4 0 (G[k].getD f 0) _ ⟨rfl,_,aQ G[k],rfl,?_,_,_,?_,rfl,rfl⟩⟩
    ·rw[pU (by omega) (by rw[eV,xl];omega)];rfl
    ·rw[ga.1,CO,qy,List.foldl_append]
     have ez:((G.map aQ).zip G)[k]?=some (aQ G[k],G[k]):=by
      rw[List.zip,LN,cU,bc hk];rfl
     rw[ez];rfl
   ·rintro δ ⟨o3,o4,rfl⟩
    refine hU _ ?_
    walk_at"l3"
    refine⟨⟨_,rfl⟩,by rw[aS,eC];omega,_,_,_,_,?_,rfl,rfl,rfl,rfl⟩
    rw[show((G.map aQ).zip G).take (gr (aw (G.map aQ)) (au false G)).length=(G.map aQ).zip G from AM (by unfold gr;rw[LH,tw,eV,gw];exact bD _),qy,hf,dy]
    exact pY true _ [fw m G wi f]
  ·rintro δ ⟨o1,o2,o3,o4,rfl⟩
   refine hU _ ?_
   walk_at"l3"
   rw[xj]
   exact q
noncomputable abbrev aG5(t:fF)(K:Frag):L2.Sp:=λvs H Q _=>∃(F H0:Hp) (x dx C:Addr) (vf vc:V) (m:Bool × Nat) (G:List (List Nat)) (pre:List (Str × V)),vs=[.ref x,vf,vc]/\L3.ae F H0/\H0 x=none/\L3.ae H0 H/\H x=some (.ins C dx (pre++[]))/\zN pre/\cX9 K C /\
 R F H0 [fD t.aN t.aR m] [vf] []/\R F H0 [.lst false (au false G)] [vc] []/\m∈aJ/\RT (af m) (ak G) G/\G.length<=64/\ak G<=64 /\
 ∀H' p1 p2 p3 A1 A2 A3,bS x H H'->H' x=some (.ins C dx (pre++sA.zip [vf,.int (ak G:Nat),.ref p1,.ref p2,.ref p3,.int ((cu (bO m G) (ak G)).length:Nat)]))->R (λ_=>none) H' [.lst true (au true G)] [.ref p1] A1->R (λ_=>none) H' [.lst true (au true (mC m (bO m G) (ak G)))] [.ref p2] A2->R (λ_=>none) H' [.lst true (aw (cu (bO m G) (ak G)))] [.ref p3] A3->(A1++(A2++A3)).Nodup->(∀a∈A1++(A2++A3),H a=none)->Q .aq H'
theorem aG6(T:Txt K mg t):aM P w K mg base aT 4 t.Jd t.Sk ["self","field","checks"] (aG5 t K):=by
 refine T.Tj.F.ok Q9 (λvs H Q E h=>?_) λaG A outer s H vs Q E hr h=>?_
 ·obtain⟨F,H0,x,dx,C,vf,vc,m,G,pre,rfl,_⟩:=h;rfl
 obtain⟨F,H0,x,dx,C,vf,vc,m,G,pre,rfl,e0,kg,s0,hx,hp,hC,rf,rc,hm,hG,hGl,hGw,q⟩:=h
 refine⟨_,fP (Bu (i:=3) Q9.nd rfl (ay rfl) (iD ((DX T).mono (by decide)) hr rfl T.sF.g T.sF.F.kp T.sF.b .nil eE (cE (pv 1) (cE (pv 2) fo))))
  (fP (iC (pv 0) (pv 1) rfl)
  (fP (iC (pv 0) (iD ((Af T).mono (by decide)) hr rfl T.qj.g T.qj.F.kp T.qj.b .nil eE (cE (pv 2) fo)) rfl)
  (fP (iC (pv 0) (iD ((JV T).mono (by decide)) hr rfl T.wH.g T.wH.F.kp T.wH.b .nil eE (cE (pv 2) fo)) rfl)
  (fP (iC (pv 0) (iD ((Uc T).mono (by decide)) hr rfl T.zS.g T.zS.F.kp T.zS.b .nil eE (cE (pv 1) (cE (pv 3) (cE (qO (pv 0) rfl) fo)))) rfl)
  (fP (iC (pv 0) (iD ((T9 T).mono (by decide)) hr rfl T.zR.g T.zR.F.kp T.zR.b .nil eE (cE (pv 3) (cE (qO (pv 0) rfl) fo))) rfl)
  (kI (iC (pv 0) (BF MM rfl T.fA ft (cE (qO (pv 0) rfl) fo)) rfl))))))),?_⟩
 try dsimp only[mq,mr]
 have hn:=QR hm hG
 have hk:=QQ hm hG
 obtain⟨_,iR,iL,_⟩:=km hm hG
 have fR:∀X:List (List Nat),[D.lst true (au true X)].all D.fr=true:=λX=>by rw[dh,fG,pX];rfl
 have fN:∀X:List Nat,[D.lst true (aw X)].all D.fr=true:=λX=>by rw[dh,kj];rfl
 refine⟨_,rfl,_,rfl,F,[fD t.aN t.aR m,.lst false (au false G)],λd=>d=.lst true (au true (bO m G)),e0.trans s0,R.cons (A:=[]) (rf.shared (L3.ae.refl _) s0) (rc.shared (L3.ae.refl _) s0),⟨m,G,rfl,hm,by omega,hG,by omega,rfl⟩,λd v F1 H1 A1 hd fX Ud he1 h31 r1 nd1 fr1=>?_⟩
 subst hd
 obtain⟨p0,rfl⟩:=Dh r1
 have cO:=fX.get _ _ hx rfl
 have z1:bS x H H1:=fX.x
 have r1:=r1.yc (fR _) Ud
 have Ue:∀X:List (List Nat),[D.lst true (au true X)].map D.sh=[D.lst false (au false X)]:=λX=>by rw[cN,cP,dv];rfl
 have aq:∀{F' H':Hp} {d:D} {v:V} {A':List Addr},R F' H' [d] [v] A'->[d].all D.fr=true->R (λ_=>none) H' [d] [v] A':=λr h=>r.yc h (L3.ae.of λb o e=>by cases e)
 have mv:∀{F' H' wU:Hp} {ds:List D} {vs:List V} {A':List Addr} {fs fs':List (Str × V)},R F' H' ds vs A'->L3.ae H' wU->wU x=some (.ins C dx fs)->ds.all D.fr=true->R F' (upd wU x (.ins C dx fs')) ds vs A':=λr h dD hd=>(r.grow (L3.ae.refl _) h λa ha=>(r.lists a ha).2).se dD hd
 refine⟨vf,rfl,.ref x,rfl,x,C,dx,_,rfl,cO,hC.cls,hC.field,hp.lt (by decide),?_⟩
 have r2:=mv r1 (L3.ae.refl _) cO (fR _) (fs':=bK "field" vf (pre++[]))
 have z2:=z1.trans (bS.upd (C:=x) (dx:=dx) cO rfl (o':=.ins C dx (bK "field" vf (pre++[]))))
 have dJ:upd H1 x (.ins C dx (bK "field" vf (pre++[]))) x=some (.ins C dx (pre++([("field",vf)]:List (Str × V)))):=by rw[br,hp.put _ _ _ (by decide)];rfl
 generalize upd H1 x (.ins C dx (bK "field" vf (pre++[])))=H2 at r2 z2 dJ ⊢
 have t2:=bS.of0 kg s0 z2
 refine⟨_,rfl,F,[.lst false (au false G)],λd=>d=.int (ak G:Nat),e0.trans t2,rc.shared (L3.ae.refl _) t2,⟨G,rfl,by omega,λr aU=>by rw[(hG r aU).1];omega,rfl⟩,λd v F3 H3 A3 hd gW Ac he3 h33 r3 nd3 E1=>?_⟩
 subst hd
 cases r3
 have gI:=gW.get _ _ dJ rfl
 refine⟨.ref x,rfl,x,C,dx,_,rfl,gI,hC.cls,hC.length,hp.lt (by show 1<=6;decide),?_⟩
 have r4:=mv r2 gW gI (fR _) (fs':=bK "length" (.int (ak G:Nat)) (pre++([("field",vf)]:List (Str × V))))
 have z4:=(z2.trans (gW.x (x:=x))).trans (bS.upd (C:=x) (dx:=dx) gI rfl (o':=.ins C dx (bK "length" (.int (ak G:Nat)) (pre++([("field",vf)]:List (Str × V))))))
 have ky:upd H3 x (.ins C dx (bK "length" (.int (ak G:Nat)) (pre++([("field",vf)]:List (Str × V))))) x=some (.ins C dx (pre++([("field",vf),("length",.int (ak G:Nat))]:List (Str × V)))):=by rw[br,hp.put _ _ _ (by decide)];rfl
 generalize upd H3 x (.ins C dx (bK "length" (.int (ak G:Nat)) (pre++([("field",vf)]:List (Str × V)))))=H4 at r4 z4 ky ⊢
 have t4:=bS.of0 kg s0 z4
 refine⟨_,rfl,F,[.lst false (au false G)],λd=>d=.lst true (au true G),e0.trans t4,rc.shared (L3.ae.refl _) t4,⟨G,rfl,by omega,rfl⟩,λd v F5 H5 A5 hd kz hf5 he5 h35 r5 nd5 xM=>?_⟩
 subst hd
 obtain⟨p1,rfl⟩:=Dh r5
 have iO:=kz.get _ _ ky rfl
 refine⟨.ref x,rfl,x,C,dx,_,rfl,iO,hC.cls,hC.cY0,hp.lt (by show 2<=6;decide),?_⟩
 have r6:=mv r4 kz iO (fR _) (fs':=bK "check_rows" (.ref p1) (pre++([("field",vf),("length",.int (ak G:Nat))]:List (Str × V))))
 have k6:=mv (aq r5 (fR _)) (L3.ae.refl _) iO (fR _) (fs':=bK "check_rows" (.ref p1) (pre++([("field",vf),("length",.int (ak G:Nat))]:List (Str × V))))
 have z6:=(z4.trans (kz.x (x:=x))).trans (bS.upd (C:=x) (dx:=dx) iO rfl (o':=.ins C dx (bK "check_rows" (.ref p1) (pre++([("field",vf),("length",.int (ak G:Nat))]:List (Str × V))))))
 have qk:upd H5 x (.ins C dx (bK "check_rows" (.ref p1) (pre++([("field",vf),("length",.int (ak G:Nat))]:List (Str × V))))) x=some (.ins C dx (pre++([("field",vf),("length",.int (ak G:Nat)),("check_rows",.ref p1)]:List (Str × V)))):=by rw[br,hp.put _ _ _ (by decide)];rfl
 generalize upd H5 x (.ins C dx (bK "check_rows" (.ref p1) (pre++([("field",vf),("length",.int (ak G:Nat))]:List (Str × V)))))=H6 at r6 k6 z6 qk ⊢
 have n5:∀a∈A5,H a=none:=λa ha=>z4.free (by rw[ky];simp) (xM a ha)
 have t6:=bS.of0 kg s0 z6
 have e6:=e0.trans t6
 refine⟨_,rfl,_,rfl,.ref x,rfl,x,C,dx,_,.int (ak G:Nat),rfl,qk,hC.cls,hC.length,(hp.look _ _ (by decide)).trans rfl,L3.bC F H6 A1,[fD t.aN t.aR m,.lst false (au false (bO m G)),.int (ak G:Nat)],λd=>d=.lst true (au true (mC m (bO m G) (ak G))),yb e6,R.cons (A:=[]) (rf.shared (kb e6) t6) (R.cons (A:=[]) (Ue _ ▸ r6.bC e6 A1 λ_ h=>h) (.int .nil)),⟨m,bO m G,ak G,rfl,hm,by omega,by omega,iR,hn,rfl⟩,λd v F7 H7 A7 hd ow hf7 he7 h37 r7 nd7 Ug=>?_⟩
 subst hd
 obtain⟨p2,rfl⟩:=Dh r7
 have mH:=ow.get _ _ qk rfl
 refine⟨.ref x,rfl,x,C,dx,_,rfl,mH,hC.cls,hC.cY1,hp.lt (by show 3<=6;decide),?_⟩
 have r8:=mv r6 ow mH (fR _) (fs':=bK "word_rows" (.ref p2) (pre++([("field",vf),("length",.int (ak G:Nat)),("check_rows",.ref p1)]:List (Str × V))))
 have k8:=mv k6 ow mH (fR _) (fs':=bK "word_rows" (.ref p2) (pre++([("field",vf),("length",.int (ak G:Nat)),("check_rows",.ref p1)]:List (Str × V))))
 have w8:=mv (aq r7 (fR _)) (L3.ae.refl _) mH (fR _) (fs':=bK "word_rows" (.ref p2) (pre++([("field",vf),("length",.int (ak G:Nat)),("check_rows",.ref p1)]:List (Str × V))))
 have z8:=(z6.trans (ow.x (x:=x))).trans (bS.upd (C:=x) (dx:=dx) mH rfl (o':=.ins C dx (bK "word_rows" (.ref p2) (pre++([("field",vf),("length",.int (ak G:Nat)),("check_rows",.ref p1)]:List (Str × V))))))
 have DY:upd H7 x (.ins C dx (bK "word_rows" (.ref p2) (pre++([("field",vf),("length",.int (ak G:Nat)),("check_rows",.ref p1)]:List (Str × V))))) x=some (.ins C dx (pre++([("field",vf),("length",.int (ak G:Nat)),("check_rows",.ref p1),("word_rows",.ref p2)]:List (Str × V)))):=by rw[br,hp.put _ _ _ (by decide)];rfl
 generalize upd H7 x (.ins C dx (bK "word_rows" (.ref p2) (pre++([("field",vf),("length",.int (ak G:Nat)),("check_rows",.ref p1)]:List (Str × V)))))=H8 at r8 k8 w8 z8 DY ⊢
 have n7:∀a∈A7,H a=none:=λa ha=>z6.free (by rw[qk];simp) (Ug a ha)
 have d57:∀a∈A5,a ∉ A7:=λa ha hb=>by
  obtain⟨⟨ws,e⟩,_⟩:=k6.lists a ha
  rw[Ug a hb]at e;cases e
 have t8:=bS.of0 kg s0 z8
 have e8:=e0.trans t8
 refine⟨_,rfl,.ref x,rfl,x,C,dx,_,.int (ak G:Nat),rfl,DY,hC.cls,hC.length,(hp.look _ _ (by decide)).trans rfl,L3.bC F H8 A1,[.lst false (au false (bO m G)),.int (ak G:Nat)],λd=>d=.lst true (aw (cu (bO m G) (ak G))),yb e8,R.cons (A:=[]) (Ue _ ▸ r8.bC e8 A1 λ_ h=>h) (.int .nil),⟨bO m G,ak G,rfl,by omega,by omega,λr aU=>⟨by rw[(iR r aU).1];omega,hn r aU⟩,rfl⟩,λd v F9 H9 A9 hd DZ hf9 he9 h39 r9 nd9 JX=>?_⟩
 subst hd
 obtain⟨p3,rfl⟩:=Dh r9
 have Ag:=DZ.get _ _ DY rfl
 refine⟨.ref x,rfl,x,C,dx,_,rfl,Ag,hC.cls,hC.QS,hp.lt (by show 4<=6;decide),?_⟩
 have Uh:=mv k8 DZ Ag (fR _) (fs':=bK "message_places" (.ref p3) (pre++([("field",vf),("length",.int (ak G:Nat)),("check_rows",.ref p1),("word_rows",.ref p2)]:List (Str × V))))
 have Ui:=mv w8 DZ Ag (fR _) (fs':=bK "message_places" (.ref p3) (pre++([("field",vf),("length",.int (ak G:Nat)),("check_rows",.ref p1),("word_rows",.ref p2)]:List (Str × V))))
 have JY:=mv (aq r9 (fN _)) (L3.ae.refl _) Ag (fN _) (fs':=bK "message_places" (.ref p3) (pre++([("field",vf),("length",.int (ak G:Nat)),("check_rows",.ref p1),("word_rows",.ref p2)]:List (Str × V))))
 have Uj:=(z8.trans (DZ.x (x:=x))).trans (bS.upd (C:=x) (dx:=dx) Ag rfl (o':=.ins C dx (bK "message_places" (.ref p3) (pre++([("field",vf),("length",.int (ak G:Nat)),("check_rows",.ref p1),("word_rows",.ref p2)]:List (Str × V))))))
 have sJ:upd H9 x (.ins C dx (bK "message_places" (.ref p3) (pre++([("field",vf),("length",.int (ak G:Nat)),("check_rows",.ref p1),("word_rows",.ref p2)]:List (Str × V))))) x=some (.ins C dx (pre++([("field",vf),("length",.int (ak G:Nat)),("check_rows",.ref p1),("word_rows",.ref p2),("message_places",.ref p3)]:List (Str × V)))):=by rw[br,hp.put _ _ _ (by decide)];rfl
 generalize upd H9 x (.ins C dx (bK "message_places" (.ref p3) (pre++([("field",vf),("length",.int (ak G:Nat)),("check_rows",.ref p1),("word_rows",.ref p2)]:List (Str × V)))))=H10 at Uh Ui JY Uj sJ ⊢
 have n9:∀a∈A9,H a=none:=λa ha=>z8.free (by rw[DY];simp) (JX a ha)
 have d59:∀a∈A5,a ∉ A9:=λa ha hb=>by
  obtain⟨⟨ws,e⟩,_⟩:=k8.lists a ha
  rw[JX a hb]at e;cases e
 have d79:∀a∈A7,a ∉ A9:=λa ha hb=>by
  obtain⟨⟨ws,e⟩,_⟩:=w8.lists a ha
  rw[JX a hb]at e;cases e
 obtain⟨ws,lw,ew⟩:∃ws,ws.length=(cu (bO m G) (ak G)).length/\H10 p3=some (.lst ws):=by
  cases JY with
  | own h _ r _=>exact⟨_,by rw[<-r.length,eV],h⟩
 refine⟨.ref x,rfl,x,C,dx,_,.ref p3,rfl,sJ,hC.cls,hC.QS,(hp.look _ _ (by decide)).trans rfl,p3,ws,rfl,.inl (bw.of ew),.ref x,rfl,x,C,dx,_,rfl,sJ,hC.cls,hC.size,hp.lt (by show 5<=6;decide),?_⟩
 rw[lw]
 refine q _ p1 p2 p3 A5 A7 A9 (Uj.trans (bS.upd (C:=x) (dx:=dx) sJ rfl)) (by rw[br,hp.put _ _ _ (by decide)];rfl) (mv Uh (L3.ae.refl _) sJ (fR _)) (mv Ui (L3.ae.refl _) sJ (fR _)) (mv JY (L3.ae.refl _) sJ (fN _)) ?_ ?_
 ·exact dE.mpr ⟨nd5,dE.mpr ⟨nd7,nd9,d79⟩,λa ha hb=>(bA.mp hb).elim (d57 a ha) (d59 a ha)⟩
 ·intro a ha
  rcases bA.mp ha with ha | ha
  ·exact n5 a ha
  ·exact(bA.mp ha).elim (n7 a) (n9 a)
noncomputable abbrev JZ(K:Frag):aZ:=λds Q=>∃(C:Addr) (ns:List Str) (xs:List D) (n:Nat) (x:D),ds=[.obj C ns xs,x]/\cY K C/\bt K C "many"/\(ns.zip xs).lookup ("many":Str)=some (.int n)/\((∃i,x=.int i/\Q (.bl (decide (0<=i)&&decide (i<n))))\/(x=.aq/\Q (.bl false)))
theorem Uk(T:Txt K mg t):aM P w K mg base aT 1 t.Dw t.Sl ["self","x"] (bo (JZ K)):=by
 refine bQ T.Jq.F aC3 ?_ ?_
 ·intro ds Q h
  obtain⟨C,ns,xs,n,x,rfl,h1,h2,h3,q⟩:=h<;>rfl
 ·intro aG A outer s H E hr
  refine⟨_,(aH (aV (um (aa (Oe (by rfl) T.z9 (by rfl) T.c54 Za (bv 1))) (um (aa (NO (aa (Oe (by rfl) T.z9 (by rfl) T.c53 Zb (bv 1))))) (Bl (Ge yo rD (aa ao) (bv 1) (gu (K:=K) (bv 0)))))))),λds Q h=>?_⟩
  obtain⟨C,ns,xs,n,x,rfl,h1,h2,h3,q⟩:=h
  rcases q with⟨i,rfl,q⟩ | ⟨rfl,q⟩
  ·walk_at"l3"
   split
   ·rename_i h0
    refine⟨C,ns,xs,_,rfl,h1,h2,h3,?_⟩
    dsimp only
    rw[decide_eq_true h0,lJ]at q
    exact q
   ·rename_i h0
    rw[decide_eq_false h0,sT]at q
    exact q
  ·walk_at"l3"
   exact q
theorem cf7(T:Txt K mg t)(m:Bool × Nat){x:D}{Q:D->Prop}(h:(∃i,x=.int i/\Q (.bl (decide (0<=i)&&decide (i<af m))))\/(x=.aq/\Q (.bl false))):MOf P w K mg base 1 t.aN t.aR m "holds" [x] Q:=by
 obtain⟨k,n⟩:=m
 cases k with
 | true=>exact⟨_,_,_,JZ K,rfl,⟨T.gz,_,_,_,T.Jv,Uk T,T.Jq.b⟩,by decide,_,_,_,af (true,n),x,rfl,T.gz,T.zW,rfl,h⟩
 | false=>exact⟨_,_,_,JZ K,rfl,⟨T.gU,_,_,_,T.JF,Uk T,T.Jq.b⟩,by decide,_,_,_,af (false,n),x,rfl,T.gU,T.zZ,rfl,h⟩
noncomputable def tabI(o:Bool)(T:List (List Int)):List D:=T.map λr=>.lst o (aF r)
theorem Ah(o:Bool)(T:List (List Int)):(tabI o T).map D.sh=tabI false T:=by
 unfold tabI
 rw[b8]
 exact mQ λr _=>by show(D.lst o (aF r)).sh=_;rw[cP,jq]
theorem Ul(a b:List Int)(h:D.lst false (aF a)=D.lst false (aF b)):a=b:=by
 injection h with _ h
 have:∀a b:List Int,aF a=aF b->a=b:=λa=>by
  induction a with
  | nil=>intro b h;cases b with
   | nil=>rfl
   | cons y b=>cases h
  | cons x a ih=>intro b h;cases b with
   | nil=>cases h
   | cons y b =>
    have h:D.int x::aF a=D.int y::aF b:=h
    injection h with h1 h2
    injection h1 with h1
    rw[h1,ih b h2]
 exact this a b h
noncomputable def kA(M:Nat)(B:List (List Int)):Prop:=1<=B.length/\B.length<=12/\2<=(B.headD []).length/\(B.headD []).length<=12/\(∀r∈B,r.length=(B.headD []).length)/\∀r∈B,∀x∈r,0<=x/\x<(M:Int)
noncomputable abbrev az4(t:fF):aZ:=λds Q=>∃(m:Bool × Nat) (B:List (List Int)),ds=[fD t.aN t.aR m,.lst false (tabI false B)]/\B.length<=1000/\(∀r∈B,r.length<=1000)/\∀b:Bool,(b=true↔kA (af m) B)->Q (.bl b)
theorem Um(T:Txt K mg t):aM P w K mg base aT 2 t.Sm t.Sn ["field","table"] (bo (az4 t)):=by
 refine bQ T.zT.F Ra ?_ ?_
 ·intro ds Q h
  obtain⟨m,B,rfl,lB,lr,q⟩:=h<;>rfl
 ·intro aG A outer s H E hr
  refine⟨_,(aB (cM (PW.pt (ui (bM rD (aa (dU (fI) (by rfl) T.fA ft (ah (bv 1) az))) (aa ao) (bE _)) (Bj (bM B9 (aa (dU (fI) (by rfl) T.fA ft (ah (bv 1) az))) (aa ao) (bE _))))) (aH (aV kR)) cL)
   (aB (aX (i:=2) Ra.nd rfl (bV rfl) (dU (fI) (by rfl) T.fA ft (ah (bG (bv 1) (aa ao) (λ_ _=>rfl)) az)))
   (aB (cM (PW.pt (ui (bM rD (bv 2) (aa ao) (bE _)) (ui (bM B9 (bv 2) (aa ao) (bE _)) (Bj (uf (aa (dU (cz3 rfl) (by rfl) T.c52 Y9 (ah (aa (dZ [("width",2)] ["row"] rfl (fU (bv 1)) (λ_ _ _ _=>(eH (i:=1) (show(["width","row"]:List Str).Nodup by decide +kernel))) (λ_ _ _ _=>dS) (λ_ _ _ _=>(BY (iK (cy hr)) (aa (dU (fI) (by rfl) T.fA ft (ah (bv 1) az))) (bv 0) (bE _))) rfl)) az)))))))) (aH (aV kR)) cL)
   (aH (aV (dU (Cb rfl) (by rfl) T.DP BN (ah (aa (dZ [("field",0)] ["row"] rfl (fU (bv 1)) (λ_ _ _ _=>(eH (i:=1) (show(["field","row"]:List Str).Nodup by decide +kernel))) (λ_ _ _ _=>dS) (by exact λ_ _ _ _=>(dU (Cb rfl) (by rfl) T.DP BN (ah (aa (dZ [("field",0)] ["x"] rfl (fU (bv 1)) (λ_ _ _ _=>(eH (i:=1) (show(["field","x"]:List Str).Nodup by decide +kernel))) (λ_ _ _ _=>dS) (λ_ _ _ _=>(sk (P:=P) (w:=w) (K:=K) (mg:=mg) (base:=base) (n:=1) (bv 0) (hr.mono (by decide)) (ah (bv 1) az))) rfl)) az))) rfl)) az))))))),λds Q h=>?_⟩
  obtain⟨m,B,rfl,lB,lr,q⟩:=h
  have lt:(tabI false B).length=B.length:=by unfold tabI;rw[aS]
  have no:¬ kA (af m) B->Q (.bl false):=λh=>q false ⟨(λz=>nomatch z),λz=>absurd z h⟩
  refine aC λU hU=>?_
  walk_at"l3"
  rw[lt]
  split
  ·exact no λh=>by unfold kA at h;omega
  split
  ·exact no λh=>by unfold kA at h;omega
  refine hU _ ?_
  clear hU U
  obtain⟨g,B',rfl⟩:∃g B',B=g::B':=by
   cases B with
   | nil=>rename_i h _;exact absurd (show(([]:List (List Int)).length:Int)<1 by decide) h
   | cons g G'=>exact⟨g,G',rfl⟩
  refine aC λU hU=>?_
  walk_at"l3"
  refine⟨.lst false (aF g),lY (k:=0) (by decide) rfl,?_⟩
  show U [some (fD t.aN t.aR m),some (.lst false (tabI false (g::B'))),some (.int ((aF g).length:Nat))]
  have gl:(aF g).length=((g::B').headD []).length:=by unfold aF;rw[aS];rfl
  rw[gl]
  generalize g::B'=B at *
  refine hU _ ?_
  clear hU U
  refine aC λU hU=>?_
  walk_at"l3"
  split
  ·exact no λh=>by unfold kA at h;omega
  split
  ·exact no λh=>by unfold kA at h;omega
  refine fv B (λr=>D.lst false (aF r)) (λr=>D.bl (!decide (r.length=(B.headD []).length))) (Ah false B) Ul (λr aU=>?_) (.inr λr _=>rfl) (by rw[sL];omega) ?_
  ·walk_at"l3"
   congr 1
   exact decide_eq_decide.mpr ⟨λh=>by omega,λh=>by omega⟩
  refine⟨B.map λr=>!decide (r.length=(B.headD []).length),by unfold pj;rw[b8];rfl,?_⟩
  by_cases e:∀r∈B,r.length=(B.headD []).length
  case neg =>
   rw[if_pos ?_]
   ·exact no λh=>e h.2.2.2.2.1
   ·rw[LJ,AJ]
    obtain⟨r,hr,hn⟩:∃r,r∈B/\r.length≠(B.headD []).length:=xi λz=>e λr hr=>xi λy=>z ⟨r,hr,y⟩
    exact⟨r,hr,by show(!decide _)=true;rw[decide_eq_false hn];rfl⟩
  case pos =>
   rw[if_neg ?_]
   ·refine hU _ ?_
    clear hU U
    walk_at"l3"
    refine fv B (λr=>D.lst false (aF r)) (λr=>D.bl (r.all λx=>decide (0<=x)&&decide (x<(af m:Int)))) (Ah false B) Ul (λr aU=>?_) (.inr λr _=>rfl) (by rw[sL];omega) ?_
    ·have:=lr r aU
     walk_at"l3"
     refine fv r (λ(x:Int)=>D.int x) (λ(x:Int)=>D.bl (decide (0<=x)&&decide (x<(af m:Int)))) (jq r) (λa b h=>by injection h) (λx hx=>?_) (.inr λ_ _=>rfl) (by rw[sL];omega) ?_
     ·walk_at"l3"
      exact cf7 T m (.inl ⟨_,rfl,rfl⟩)
     ·exact⟨r.map λx=>decide (0<=x)&&decide (x<(af m:Int)),by unfold pj;rw[b8];rfl,by rw[lL];rfl⟩
    refine⟨B.map λr=>r.all λx=>decide (0<=x)&&decide (x<(af m:Int)),by unfold pj;rw[b8];rfl,?_⟩
    refine q _ ?_
    rw[lL,cX]
    unfold kA
    constructor
    ·intro h
     refine⟨by omega,by omega,by omega,by omega,e,λr hr x hx=>?_⟩
     have:=cX.mp (h r hr) x hx
     rw[dP,decide_eq_true_eq,decide_eq_true_eq]at this
     exact this
    ·rintro⟨_,_,_,_,_,h⟩ r hr
     refine cX.mpr λx hx=>?_
     rw[dP,decide_eq_true_eq,decide_eq_true_eq]
     exact h r hr x hx
   ·rw[LJ,AJ]
    rintro⟨r,hr,hn⟩
    have hn:(!decide (r.length=(B.headD []).length))=true:=hn
    rw[decide_eq_true (e r hr)]at hn
    cases hn
noncomputable abbrev cb6(t:fF)(P:Program)(w:World)(K:Frag)(mg:Str->Option Value)(base:Heap):aZ:=λds Q=>∃(m:Bool × Nat) (G:List (List Nat)),ds=[fD t.aN t.aR m,.lst false (au false G)]/\m∈aJ/\G.length<=900/\RT (af m) (ak G) G/\ak G<=900/\Q (.int (bO m G).length)
theorem Uo(T:Txt K mg t):aM P w K mg base aT 4 t.So t.Sq ["field","table"] (bo (cb6 t P w K mg base)):=by
 refine bQ T.zU.F cg5 ?_ ?_
 ·intro ds Q h
  obtain⟨m,G,rfl,hm,hG,hR,hw,q⟩:=h<;>rfl
 ·intro aG A outer s H E hr
  refine⟨_,(aH (aV (dU (fI) (by rfl) T.fA ft (ah (aa (bB T.sF (DX T) hr (ah (bv 0) (ah (bv 1) az)))) az)))),λds Q h=>?_⟩
  obtain⟨m,G,rfl,hm,hG,hR,hw,q⟩:=h
  walk_at"l3"
  refine⟨m,G,rfl,hm,hG,hR,hw,?_⟩
  dsimp only
  rw[gw];exact q
noncomputable abbrev aK3:aZ:=λds Q=>∃T:List (List Nat),ds=[.lst false (au false T)]/\T.length<=1000/\(∀r∈T,r.length=ak T)/\ak T<=1000/\Q (.lst true (au true (fh T)))
theorem aK4(T:Txt K mg t):aM P w K mg base aT 2 t.Sr t.Ss ["table"] (bo (aK3 )):=by
 refine bQ T.Tn.F aJ9 ?_ ?_
 ·intro ds Q h
  obtain⟨G,rfl,hG,hr,hw,q⟩:=h<;>rfl
 ·intro aG A outer s H E hr
  refine⟨_,(aH (aV (dZ [("table",0)] ["j"] rfl (nj rfl T.jV (ah (aa (bB T.qj (Af T) hr (ah (bv 0) az))) az)) (λ_ _ _ _=>(eH (i:=1) (show(["table","j"]:List Str).Nodup by decide +kernel))) (λ_ _ _ _=>dS) (by exact λ_ _ _ _=>(dZ [("j",1)] ["row"] rfl (fU (bv 0)) (λ_ _ _ _=>(eH (i:=1) (show(["j","row"]:List Str).Nodup by decide +kernel))) (λ_ _ _ _=>dS) (λ_ _ _ _=>(cR (bG (bv 1) (bv 0) (λ_ _=>rfl)))) rfl)) rfl))),λds Q h=>?_⟩
  obtain⟨G,rfl,hG,hr,hw,q⟩:=h
  walk_at"l3"
  refine⟨G,rfl,hG,λr aU=>by rw[hr r aU];exact hw,?_⟩
  dsimp only
  refine⟨_,rfl,⟨by omega,by omega⟩,?_⟩
  refine fv (bh (ak G)) (λ(i:Nat)=>D.int (i:Int)) (λj=>D.lst true (aw (G.map λr=>r.getD j 0))) (CN _ rfl) nM (λj hj=>?_) (.inr λj _=>kj _) (by rw[fk,sL];omega) ?_
  ·have hj:=eJ.mp hj
   walk_at"l3"
   refine fv G (λr=>D.lst false (aw r)) (λr=>D.int ((r.getD j 0:Nat):Int)) (by rw[dv];rfl) (λa b h=>my a b h) (λr aU=>?_) (.inr λr _=>rfl) (by rw[sL];omega) ?_
   ·walk_at"l3"
    have hl:=hr r aU
    exact⟨.int (r.getD j 0:Nat),by rw[nV (by omega) (by omega),gY],rfl,rfl⟩
   ·rw[fJ,b8];rfl
  ·unfold fh au at q
   rw[b8]at q
   exact q
noncomputable abbrev aG7:aZ:=λds Q=>∃c:List Nat,ds=[.lst false (aw c)]/\c.length<=1000/\Q (.bl (nul c))
theorem aG8(T:Txt K mg t):aM P w K mg base aT 1 t.Su t.Sv ["column"] (bo (aG7 )):=by
 refine bQ T.To.F aF7 ?_ ?_
 ·intro ds Q h
  obtain⟨c,rfl,hc,q⟩:=h<;>rfl
 ·intro aG A outer s H E hr
  refine⟨_,(aH (aV (dU (Cb rfl) (by rfl) T.DP BN (ah (aa (dZ [] ["x"] rfl (fU (bv 0)) (λ_ _ _ _=>(eH (i:=0) (show(["x"]:List Str).Nodup by decide +kernel))) (λ_ _ _ _=>dS) (λ_ _ _ _=>(BY (ff (cy hr)) (bv 0) (aa ao) (bE _))) rfl)) az)))),λds Q h=>?_⟩
  obtain⟨c,rfl,hc,q⟩:=h
  walk_at"l3"
  refine fv c (λ(i:Nat)=>D.int (i:Int)) (λ(x:Nat)=>D.bl (x==0)) (vC _) nM (λx hx=>?_) (.inr λ_ _=>rfl) (by rw[sL];omega) ?_
  ·walk_at"l3"
   congr 1
   exact propext (by omega)
  dsimp only
  refine⟨c.map (·==0),by unfold pj;rw[b8];rfl,?_⟩
  rw[lL]
  exact q
noncomputable abbrev Up(K:Frag):aZ:=λds Q=>∃(C:Addr) (p a b:Nat),ds=[zt C p,.int a,.int b]/\cY K C/\bt K C "products"/\p∈gS/\a<af (true,p)/\b<af (true,p)/\Q (.int (gm (true,p) a b:Nat))
theorem az5(T:Txt K mg t):aM P w K mg base aT 1 t.Je t.Sw ["self","a","b"] (bo (Up K)):=by
 refine bQ T.Tp.F ay9 ?_ ?_
 ·intro ds Q h
  obtain⟨C,p,a,b,rfl,hC,hn,hp,ha,hb,q⟩:=h<;>rfl
 ·intro aG A outer s H E hr
  refine⟨_,(aH (aV (cR (bG (bG (gu (K:=K) (bv 0)) (bv 1) (λ_ _=>rfl)) (bv 2) (λ_ _=>rfl))))),λds Q h=>?_⟩
  obtain⟨C,p,a,b,rfl,hC,hn,hp,ha,hb,q⟩:=h
  walk_at"l3"
  refine⟨C,_,_,_,rfl,hC,hn,rfl,?_⟩
  exact⟨_,G3 hp ha,_,G2 hp ha hb,rfl,q⟩
noncomputable abbrev Uq(K:Frag):aZ:=λds Q=>∃(C:Addr) (p:Nat) (a b:Int),ds=[vO C p,.int a,.int b]/\cY K C/\bt K C "prime"/\0<p/\IntMulOk a b/\Q (.int (a*b%p))
theorem av0(T:Txt K mg t):aM P w K mg base aT 1 t.Jf t.Sx ["self","a","b"] (bo (Uq K)):=by
 refine bQ T.Tq.F au6 ?_ ?_
 ·intro ds Q h
  obtain⟨C,p,a,b,rfl,hC,hn,hp,hm,q⟩:=h<;>rfl
 ·intro aG A outer s H E hr
  refine⟨_,(aH (aV (aA bY (aa (aA iJ (bv 1) (bv 2))) (gu (K:=K) (bv 0))))),λds Q h=>?_⟩
  obtain⟨C,p,a,b,rfl,hC,hn,hp,hm,q⟩:=h
  walk_at"l3"
  exact⟨hm,C,_,_,.int p,rfl,hC,hn,rfl,by omega,q⟩
theorem ca1(T:Txt K mg t){m:Bool × Nat}(hm:m∈aJ):∃C ns xs sp,fD t.aN t.aR m=.obj C ns xs/\k9 P w K mg base 1 "times" C sp/\("times":Str) ∉ ns/\∀(a b:Nat) (Q:D->Prop),a<af m->b<af m->Q (.int (gm m a b:Nat))->sp [.obj C ns xs,.int a,.int b] Q:=by
 have hF:=cW hm
 obtain⟨k,n⟩:=m
 cases k with
 | true=>exact⟨_,_,_,Up K,rfl,⟨T.gz,_,_,_,T.az1,az5 T,T.Tp.b⟩,by decide,λa b Q ha hb q=>⟨_,n,a,b,rfl,T.gz,T.wK,zw hm,ha,hb,q⟩⟩
 | false =>
  have sI:n<=64:=hF.hi
  refine⟨_,_,_,Uq K,rfl,⟨T.gU,_,_,_,T.au8,av0 T,T.Tq.b⟩,by decide,λa b Q ha hb q=>?_⟩
  have Cm:a<n:=ha
  have pJ:b<n:=hb
  refine⟨_,n,a,b,rfl,T.gU,T.sG,by omega,jG.ok (.inr ⟨by omega,by omega⟩),?_⟩
  have e:((gm (false,n) a b:Nat):Int)=(a:Int)*b%n:=by
   show((a*b%n:Nat):Int)=_
   rw[tu,xu]
  rw[<-e];exact q
noncomputable abbrev cc1(t:fF)(P:Program)(w:World)(K:Frag)(mg:Str->Option Value)(base:Heap):aZ:=λds Q=>∃(m:Bool × Nat) (c:List Nat) (os:List (List Nat)),ds=[fD t.aN t.aR m,.lst false (aw c),.lst false (au false os)]/\m∈aJ/\nul c=false/\c.length<=64/\AllLt (af m) c/\RT (af m) c.length os/\os.length<=1000/\Q (.lst true (au true (gx m c os)))
theorem cb9(T:Txt K mg t):aM P w K mg base aT 3 t.Sy t.Sz ["field","column","others"] (bo (cc1 t P w K mg base)):=by
 refine bQ T.Tr.F wC ?_ ?_
 ·intro ds Q h
  obtain⟨m,c,os,rfl,hm,hn,hc,J0,ly,hol,q⟩:=h<;>rfl
 ·intro aG A outer s H E hr
  refine⟨_,(aB (aX (i:=3) wC.nd rfl (ay rfl) (cR (bG (aa (dZ [] ["k","x"] rfl (vx rfl T.wR (ah (bv 1) az)) (λ_ _ _ _=>(zO (i1:=0) (i2:=1) (show(["k","x"]:List Str).Nodup by decide +kernel))) (λ_ _ _ _=>(B7 (bM (iK (cy hr)) (bv 1) (aa ao) (bE _)))) (λ_ _ _ _=>(cR (bv 0))) rfl)) (aa ao) (λ_ _=>rfl))))
   (aB (aX (i:=4) wC.nd rfl (ay rfl) (PL (P:=P) (w:=w) (K:=K) (mg:=mg) (base:=base) (n:=2) (bv 0) (hr.mono (by decide)) (ah (aa ao) (ah (bG (bv 1) (bv 3) (λ_ _=>rfl)) az))))
   (aB (aX (i:=5) wC.nd rfl (ay rfl) (fc du))
   (aB (ji fM rfl (FU (cR (bv 2))) (mf (i:=6) wC.nd rfl (ay rfl))
    (aB (aX (i:=7) wC.nd rfl (ay rfl) (sk (P:=P) (w:=w) (K:=K) (mg:=mg) (base:=base) (n:=1) (bv 0) (hr.mono (by decide)) (ah (bv 6) (ah (aa (sk (P:=P) (w:=w) (K:=K) (mg:=mg) (base:=base) (n:=1) (bv 0) (hr.mono (by decide)) (ah (bG (bv 6) (bv 3) (λ_ _=>rfl)) (ah (bv 4) az)))) (ah (bv 1) az)))))
    (aH (pq (i:=5) rfl (by first | exact ay rfl | exact bV (ay rfl)) (aA cT (aa (nL (bv 7) nF (nG (bv 3)))) (aa (nL (bv 7) (nG (aa (aA cT (bv 3) (aa ao)))) nF)))))))
   (aH (aV (em 5))))))),λds Q h=>?_⟩
  obtain⟨m,c,os,rfl,hm,hn,hc,J0,ly,hol,q⟩:=h
  have gg:=(cW hm).lo
  obtain⟨pl,pn⟩:=Hs hn
  have cp:=J0.getD (show 0<af m by omega) (aQ c)
  have cx:∃x∈c,x≠0:=⟨_,de pl 0,pn⟩
  refine aC λU hU=>?_
  walk_at"l3"
  refine CS (bh c.length) (λ(i:Nat)=>D.tup [.int (i:Int),.int ((c.getD i 0:Nat):Int)]) (λ(i:Nat)=>D.int (i:Int)) (λi=>c.getD i 0 != 0) (G8 c) (λa b h=>by injection h with h;simp at h;omega) (λi hi=>?_) (.inr λ_ _ _=>rfl) (by rw[fk,sL];omega) ?_
  ·walk_at"l3"
   refine⟨?_,λ_=>trivial⟩
   by_cases h0:c.getD i 0=0
   ·rw[h0];rfl
   ·rw[decide_eq_false (by omega),bne_iff_ne.mpr h0];rfl
  dsimp only
  refine⟨.int (aQ c:Nat),L3.vy (k:=0) (by rw[cU,P6 cx];rfl),rfl,hU _ ?_⟩
  clear hU U
  refine aC λU hU=>?_
  walk_at"l3"
  refine⟨_,_,_,_,vP _ _ m,T7 T m,PM m _ (by decide),.int (c.getD (aQ c) 0:Nat),by rw[nV (by omega) (by omega),gY],m,1,c.getD (aQ c) 0,by rw[vP];rfl,hm,gg,cp,λz=>absurd z pn,λ_ iv Ur Ht=>?_⟩
  have ei:mB m (c.getD (aQ c) 0)=iv:=CT hm Ur Ht
  refine⟨rfl,hU _ ?_⟩
  clear hU U
  refine aC λU hU=>?_
  walk_at"l3"
  refine⟨by decide,hU _ ?_⟩
  clear hU U
  refine aC λU hU=>?_
  walk_at"l3"
  refine jh.mk (λi δ=>∃o6 o7,δ=[some (fD t.aN t.aR m),some (D.lst false (aw c)),some (D.lst false (au false os)),some (D.int (aQ c)),some (D.int iv),some (D.lst true (au true (gx m c (os.take i)))),o6,o7]) ⟨_,_,rfl⟩ ?_ ?_
  ·rintro i d δ hd ⟨o6,o7,rfl⟩
   obtain⟨hi,rfl⟩:=b18 hd
   clear hd hU
   obtain⟨ol,oa⟩:=ly _ (eN hi)
   have op:=oa.getD (show 0<af m by omega) (aQ c)
   obtain⟨C,ns,xs,sp,e1,e2,e3,e4⟩:=T3 (P:=P) (w:=w) (base:=base) T hm
   refine aC λU hU=>?_
   walk_at"l3"
   obtain⟨C1,n1,x1,sp1,g1,g2,g3,g4⟩:=ca1 (P:=P) (w:=w) (base:=base) T hm
   refine⟨C,ns,xs,sp,e1,e2,e3,C1,n1,x1,sp1,g1,g2,g3,.int (os[i].getD (aQ c) 0:Nat),by rw[nV (by omega) (by omega),gY],g4 _ iv _ op Ur ⟨rfl,e4 os[i] c (gm m (os[i].getD (aQ c) 0) iv) _ (cS hm _ _) J0 (by omega) ⟨rfl,hU _ ?_⟩⟩⟩
   clear hU
   have ep:gx m c (os.take (i+1))=gx m c (os.take i)++[(eX (λx y=>cj m x (gm m (gm m (os[i].getD (aQ c) 0) iv) y)) os[i] c).take (aQ c)++(eX (λx y=>cj m x (gm m (gm m (os[i].getD (aQ c) 0) iv) y)) os[i] c).drop (aQ c+1)]:=by
    unfold gx
    rw[qy,bc hi,Lq,dy,cN,jY,ei]
   rw[ep]
   have ll:(eX (λx y=>cj m x (gm m (gm m (os[i].getD (aQ c) 0) iv) y)) os[i] c).length<=64:=by rw[tw];omega
   generalize eX (λx y=>cj m x (gm m (gm m (os[i].getD (aQ c) 0) iv) y)) os[i] c=lf at ll ⊢
   have pl2:(gx m c (os.take i)).length<=1000:=by rw[Hv,eC];omega
   walk_at"l3"
   rw[y8,show((aQ c:Int)+1)=((aQ c+1:Nat):Int) by omega,Cp]
   exact⟨⟨_,rfl⟩,by rw[eC,iS];omega,by omega,_,_,pY true _ [lf.take (aQ c)++lf.drop (aQ c+1)],rfl,rfl⟩
  ·rintro δ ⟨o6,o7,rfl⟩
   refine hU _ ?_
   walk_at"l3"
   rw[xj]
   exact q
noncomputable def fB(o:Bool)(l:List Cs):List D:=l.map λs=>.tup [.lst o (aw s.1),.lst o (au o s.2)]
theorem Us(o:Bool)(l:List Cs):(fB o l).map D.sh=fB false l:=by
 unfold fB
 rw[b8]
 refine mQ λs _=>?_
 show(D.tup [.lst o (aw s.1),.lst o (au o s.2)]).sh=_
 rw[l9,cN,cN,jY,zD,cP,dv]
theorem cg1(l:List Cs):(fB false l).all D.pl=true:=by
 rw[cX]
 intro d hd
 obtain⟨s,_,rfl⟩:=bI.mp hd
 show(D.tup [.lst false (aw s.1),.lst false (au false s.2)]).pl=true
 rw[kP,dh,dh,ig,ig,ki,vS];rfl
theorem bX2(o:Bool)(a b:List Cs):fB o a++fB o b=fB o (a++b):=by unfold fB;rw[dy]
theorem cj0{o:Bool}{l:List Cs}{i:Nat}{d:D}(hd:(fB o l)[i]?=some d):∃hi:i<l.length,d=.tup [.lst o (aw l[i].1),.lst o (au o l[i].2)]:=by
 unfold fB at hd
 rw[cU]at hd
 by_cases hi:i<l.length
 ·rw[bc hi]at hd
  exact⟨hi,(dq hd).symm⟩
 ·rw[iy (by omega)]at hd;cases hd
theorem b09(o:Bool)(l:List Cs):dF 6 (.lst o (fB o l))=true:=by
 show(fB o l).all (dF 5)=true
 rw[cX]
 intro d hd
 obtain⟨s,_,rfl⟩:=bI.mp hd
 show([D.lst o (aw s.1),.lst o (au o s.2)]).all (dF 4)=true
 rw[dh,dh,zB 3 o s.1,pZ 2 o o s.2];rfl
theorem bQ4{m:Bool × Nat}{c:List Nat}{os:List (List Nat)}{N:Nat}(h:∀o∈os,o.length<=N):∀x∈gx m c os,x.length<=N:=λx hx=>by
 obtain⟨o,ho,rfl⟩:=bI.mp hx
 have:=h o ho
 rw[eM,eC,iS,tw]
 omega
noncomputable def jW(l:List Cs):Nat:=(l.map λs=>2 ^ s.2.length).sum
theorem J4(a b:List Cs):jW (a++b)=jW a+jW b:=by unfold jW;rw[dy,List.sum_append]
theorem Ut:∀l:List Cs,(dj l).length<=jW l
 | []=>jX _
 | s::l=>by
  have ih:=Ut l
  have h1:=Nat.lt_two_pow_self (n:=s.2.length)
  show(fi s++dj l).length<=2 ^ s.2.length+jW l
  rw[eM,show(fi s).length=s.2.length by unfold fi;rw[aS,fk]]
  omega
theorem Uu(m:Bool × Nat)(w:Nat)(s:Cs):∀i,i<=s.2.length->jW (((bh i).map λi=>(s,i)).map (gy m w))+2 ^ (s.2.length-i)=2 ^ s.2.length
 | 0,_=>LG _
 | i+1,h=>by
  have ih:=Uu m w s i (by omega)
  rw[LM,dy,dy,J4]
  have e:jW (([i].map λi=>(s,i)).map (gy m w))=2 ^ (s.2.length-(i+1)):=by
   show 2 ^ (gx m _ (s.2.drop (i+1))).length+0=_
   rw[Hv,iS];rfl
  rw[e]
  have:2 ^ (s.2.length-i)=2 ^ (s.2.length-(i+1))*2:=by rw[<-oF];congr 1;omega
  omega
theorem Uv(m:Bool × Nat)(w:Nat):∀l:List Cs,jW ((dj l).map (gy m w))<=jW l
 | []=>bD _
 | s::l=>by
  have ih:=Uv m w l
  have h1:=Uu m w s s.2.length (bD _)
  show jW ((fi s++dj l).map (gy m w))<=2 ^ s.2.length+jW l
  rw[dy,J4]
  exact Nat.add_le_add (by rw[<-h1];exact Nat.le_add_right ..) ih
noncomputable def cE4:Option (List Nat)->D
 | some l=>.lst true (aw l)
 | none=>.aq
noncomputable abbrev aD0(t:fF)(P:Program)(w:World)(K:Frag)(mg:Str->Option Value)(base:Heap):aZ:=λds Q=>∃(m:Bool × Nat) (G:List (List Nat)),ds=[fD t.aN t.aR m,.lst false (au false G)]/\m∈aJ/\G.length<=64/\RT (af m) (ak G) G/\0<ak G/\ak G<=12/\Q (cE4 (oj m G))
theorem Uw(T:Txt K mg t):aM P w K mg base aT 4 t.SA t.SD ["field","table"] (bo (aD0 t P w K mg base)):=by
 refine bQ T.zV.F qi ?_ ?_
 ·intro ds Q h
  obtain⟨m,G,rfl,hm,hG,hR,D0,hw,q⟩:=h<;>rfl
 ·intro aG A outer s H E hr
  refine⟨_,(aB (aX (i:=2) qi.nd rfl (ay rfl) (bB T.qj (Af T) hr (ah (bv 1) az)))
   (aB (aX (i:=3) qi.nd rfl (ay rfl) (fc (di (yg (di (fc du) (di (bB T.Tn (aK4 T) hr (ah (bv 1) az)) du))) du)))
   (aB (uB fM (bM (iK (cy hr)) (bv 3) (aa (fc du)) (bE _))
    (aB (aX (i:=4) qi.nd rfl (ay rfl) (fc du))
    (yi 3 (aB (ji fM rfl (FU (cR (bv 3))) (vz (i1:=5) (i2:=6) rfl qi.nd rfl (ay rfl) rfl (ay rfl))
     (aH (ji fM rfl (vx rfl T.wR (ah (bv 6) az)) (vz (i1:=7) (i2:=8) rfl qi.nd rfl (ay rfl) rfl (ay rfl))
      (aB (aX (i:=9) qi.nd rfl (ay rfl) (aA cT (bv 5) (aa (fc (di (aA cT (aa (aA jm (bv 2) (aa (dU (fI) (by rfl) T.fA ft (ah (bv 6) az))))) (bv 7)) du)))))
      (aB (cM (uf (aa (bB T.To (aG8 T) hr (ah (bv 8) az)))) (aH (aV (em 9))) cL)
      (aH (pq (i:=4) rfl (by first | exact ay rfl | exact bV (ay rfl)) (yg (di (em 9) (di (bB T.Tr (cb9 T) hr (ah (bv 0) (ah (bv 8) (ah (aa (nL (bv 6) (nG (aa (aA cT (bv 7) (aa ao)))) nF)) az)))) du))))))))))
    (aH (aX (i:=3) qi.nd rfl (ay rfl) (em 4)))))))
   (aH (aV BW))))),λds Q h=>?_⟩
  obtain⟨m,G,rfl,hm,hG,hR,D0,hw,q⟩:=h
  have gg:=(cW hm).lo
  refine aC λU hU=>?_
  walk_at"l3"
  refine⟨G,rfl,by omega,λr aU=>by rw[(hR r aU).1];omega,hU _ ?_⟩
  clear hU U
  refine aC λU hU=>?_
  walk_at"l3"
  refine⟨by decide,G,rfl,by omega,λr aU=>(hR r aU).1,by omega,by decide,by decide,hU _ ?_⟩
  clear hU U
  have Ls:=Lv.start hm D0 hR
  refine aC λU hU=>?_
  walk_at"l3"
  refine⟨λn δ=>∃(l:List Cs) (k:Nat) (o4 o5 o6 o7 o8 o9:Option D),δ=[some (fD t.aN t.aR m),some (D.lst false (au false G)),some (D.int (ak G)),some (D.lst true (fB true l)),o4,o5,o6,o7,o8,o9]/\Lv m (qe G) (ak G) k l/\k+n=ak G+1/\su m (ak G) n l=oj m G/\jW l<=4096/\∀s∈l,∀r∈s.2,r.length<=64,⟨ak G+1,[([],fh G)],0,_,_,_,_,_,_,rfl,Ls,by omega,rfl,?_,λs hs r aU=>?_⟩,?_⟩
  ·show 2 ^ (fh G).length+0<=4096
   rw[(Hl (by omega) D0 hR).1]
   exact xh (by decide) hw
  ·rw[dG.mp hs]at aU
   have:=((Hl (by omega) D0 hR).2.2 r aU).1
   omega
  rintro n δ ⟨l,k,o4,o5,o6,o7,o8,o9,rfl,L,hk,J5,hll,Ux⟩
  walk_at"l3"
  refine⟨by decide,⟨b09 true l,rfl⟩,?_⟩
  by_cases l0:l=[]
  ·subst l0
   rw[show bF (D.lst true (fB true [])) (D.lst true [])=true from rfl,if_neg (by decide)]
   refine hU _ ?_
   walk_at"l3"
   have e0:oj m G=none:=by
    rw[<-J5]
    cases n with
    | zero=>rfl
    | succ n=>rfl
   rw[e0]at q
   exact q
  have d0:bF (D.lst true (fB true l)) (D.lst true [])=false:=by
   cases l with
   | nil=>exact absurd rfl l0
   | cons s l=>rfl
  rw[d0,if_pos (by decide)]
  have J6:∀s∈l,jx (ak G) s.1/\s.2.length<=12:=λs hs=>by
   have g:=(L.gs s hs).1
   have gl:=g.le
   exact⟨⟨g.inc,λx hx=>by have:=g.off x hx;omega⟩,by omega⟩
  obtain⟨n,rfl⟩:∃n',n=n'+1:=by
   cases n with
   | succ n=>exact⟨n,rfl⟩
   | zero =>
    exfalso
    cases l with
    | nil=>exact l0 rfl
    | cons s l =>
     have h1:=(J6 s (jB ..)).1.len
     have h2:=(L.gs s (jB ..)).2
     omega
  clear hU
  have dg0:∀a,(dj (l.take a)).length<=4096:=λa=>by
   have h1:=Ut (l.take a)
   have h2:=J4 (l.take a) (l.drop a)
   rw[AV]at h2
   omega
  refine aC λU hU=>?_
  walk_at"l3"
  refine⟨by decide,hU _ ?_⟩
  clear hU
  refine⟨_,rfl,?_⟩
  rw[cP,Us]
  simp only[iU,iT]
  refine aC λU hU=>?_
  walk_at"l3"
  refine⟨cg1 l,?_⟩
  rw[Us]
  refine jh.mk (λa δ=>(∀z∈dj (l.take a),oi z=false)/\∃o5 o6 o7 o8 o9,δ=[some (fD t.aN t.aR m),some (D.lst false (au false G)),some (D.int (ak G)),some (D.lst false (fB false l)),some (D.lst true (fB true ((dj (l.take a)).map (gy m (ak G))))),o5,o6,o7,o8,o9]) ⟨λz hz=>absurd hz jC,_,_,_,_,_,rfl⟩ ?_ ?_
  ·rintro a d δ hd ⟨qa,o5,o6,o7,o8,o9,rfl⟩
   obtain⟨ha,rfl⟩:=cj0 hd
   clear hd hU
   have hs:=eN ha
   obtain⟨gs,gk⟩:=L.gs _ hs
   obtain⟨hh,J7⟩:=gs.rt
   have g6:=(J6 _ hs).2
   have et:dj (l.take (a+1))=dj (l.take a)++fi l[a]:=by
    unfold dj
    rw[qy,bc ha,Lq,VY,List.flatMap_cons,List.flatMap_nil,fj]
   rw[et]
   have Uy:=dg0 (a+1)
   rw[et,eM]at Uy
   generalize hS:l[a]=s0 at hs gs gk J7 g6 et Uy ⊢
   have l1:(fi s0).length=s0.2.length:=by unfold fi;rw[aS,fk]
   walk_at"l3"
   refine jh.mk (λi δ=>(∀z∈(fi s0).take i,oi z=false)/\∃o7 o8 o9,δ=[some (fD t.aN t.aR m),some (D.lst false (au false G)),some (D.int (ak G)),some (D.lst false (fB false l)),some (D.lst true (fB true ((dj (l.take a)++(fi s0).take i).map (gy m (ak G))))),some (D.lst false (aw s0.1)),some (D.lst false (au false s0.2)),o7,o8,o9]) ⟨λz hz=>absurd hz jC,_,_,_,by rw[List.take_zero,fj]⟩ ?_ ?_
   ·rintro i d δ hd ⟨Ai,o7,o8,o9,rfl⟩
    obtain⟨hi,rfl⟩:=P5 hd
    clear hd
    obtain⟨cl,ca⟩:=J7 _ (eN hi)
    have gc:s0.2.getD i []=s0.2[i]:=by rw[aW,bc hi];rfl
    have gle:=gs.le
    have ei:(fi s0).take (i+1)=(fi s0).take i++[(s0,i)]:=by
     rw[qy]
     congr 1
     unfold fi
     rw[cU,mO hi];rfl
    have hh6:hh<=64:=by have:=Ux _ hs _ (eN hi);omega
    have il1:=(J6 _ hs).1.len
    simp only[jr,iU,iT]
    refine aC λU hU=>?_
    walk_at"l3"
    have eb:aw s0.1++[D.int ((ak G:Int)-(s0.2.length:Int)+(i:Int))]=aw (jS (ak G) (s0,i)):=by
     unfold jS
     rw[fJ,fJ,dy]
     show _=_++[D.int ((ak G-s0.2.length+i:Nat):Int)]
     rw[show(ak G:Int)-(s0.2.length:Int)+(i:Int)=((ak G-s0.2.length+i:Nat):Int) by omega]
    rw[eb]
    refine⟨by decide,by omega,hU _ ?_⟩
    clear hU
    refine aC λU hU=>?_
    walk_at"l3"
    refine⟨s0.2[i],rfl,by omega,nul s0.2[i],rfl,?_⟩
    cases hz:nul s0.2[i]with
    | true =>
     rw[if_pos rfl]
     have ef:oj m G=some (jS (ak G) (s0,i)):=by
      rw[<-J5,su,if_neg l0]
      have:(dj l).find? oi=some (s0,i):=by
       refine VV.mpr ⟨by show nul (s0.2.getD i [])=true;rw[gc];exact hz,dj (l.take a)++(fi s0).take i,(fi s0).drop (i+1)++dj (l.drop (a+1)),?_,λz zK=>?_⟩
       ·have e1:dj l=dj (l.take (a+1))++dj (l.drop (a+1)):=by
         conv=>lhs;rw[<-AV (a+1) l]
         unfold dj
         rw[VY]
        have e2:fi s0=(fi s0).take i++(s0,i)::(fi s0).drop (i+1):=by
         conv=>lhs;rw[<-AV (i+1) (fi s0),ei,cJ]
         rfl
        rw[e1,et]
        conv=>lhs;rw[e2]
        simp only[cJ,jZ]
       ·have:=(bA.mp zK).elim (qa z) (Ai z)
        rw[this];rfl
      rw[this];rfl
     rw[ef]at q
     exact q
    | false =>
     rw[if_neg (by decide)]
     refine hU _ ?_
     clear hU
     walk_at"l3"
     rw[show((i:Int)+1)=((i+1:Nat):Int) by omega,Cp,ei]
     refine⟨⟨_,rfl⟩,m,s0.2[i],s0.2.drop (i+1),rfl,hm,hz,by omega,ca,λr aU=>by rw[cl];exact J7 r (qA aU),by rw[iS];omega,by rw[fG,pX];rfl,by decide,?_,λz zK=>?_,_,_,_,?_,rfl,rfl,rfl⟩
     ·unfold fB
      rw[aS,aS,eM,eC]
      omega
     ·rcases bA.mp zK with y | y
      ·exact Ai z y
      ·rw[dG.mp y]
       show nul (s0.2.getD i [])=false
       rw[gc];exact hz
     ·rw[<-cJ,dy (l₁:=dj (l.take a)++(fi s0).take i),<- bX2]
      congr 1
      show _=[D.tup [.lst true (aw (gy m (ak G) (s0,i)).1),.lst true (au true (gy m (ak G) (s0,i)).2)]]
      show _=[D.tup [.lst true (aw (jS (ak G) (s0,i))),.lst true (au true (gx m (s0.2.getD i []) (s0.2.drop (i+1))))]]
      rw[gc]
   ·rintro δ ⟨Ai,o7,o8,o9,rfl⟩
    rw[show(gQ (au false s0.2)).length=(fi s0).length by rw[vt,gw,l1],xj]at Ai ⊢
    exact⟨λz hz=>(bA.mp hz).elim (qa z) (Ai z),_,_,_,_,_,rfl⟩
  ·rintro δ ⟨qa,o5,o6,o7,o8,o9,rfl⟩
   refine hU _ ?_
   clear hU
   rw[show(fB false l).length=l.length by unfold fB;rw[aS],xj]at qa ⊢
   walk_at"l3"
   have hf:(dj l).find? oi=none:=LL.mpr λz hz=>by rw[qa z hz];decide
   refine⟨n,by omega,_,k+1,_,_,_,_,_,_,⟨rfl,rfl,rfl,rfl,rfl,rfl,rfl⟩,L.next hm (QP hm hR) qa,by omega,?_,?_,λs hs r aU=>?_⟩
   ·rw[<-J5,su,if_neg l0,hf]
   ·exact eK (Uv m (ak G) l) hll
   ·obtain⟨z,hz,rfl⟩:=bI.mp hs
    exact bQ4 (λo ho=>Ux _ (v7.mp hz).1 o (qA ho)) r aU
theorem sM(o:Bool)(G:List (List Nat)):tabI o (G.map λr=>r.map λ(n:Nat)=>(n:Int))=au o G:=by
 unfold tabI au
 rw[b8];rfl
theorem kC{α β:Type}{f:α->β}{B:List α}{p:β->Prop}(h:∀x∈B,p (f x)):∀y∈B.map f,p y:=λy hy=>by
 obtain⟨x,hx,rfl⟩:=bI.mp hy
 exact h x hx
theorem cu0{M:Nat}{G:List (List Nat)}(g1:1<=G.length)(J8:G.length<=12)(w2:2<=ak G)(w12:ak G<=12)(hG:RT M (ak G) G):kA M (G.map λr=>r.map λ(n:Nat)=>(n:Int)):=by
 have hd:((G.map λr=>r.map λ(n:Nat)=>(n:Int)).headD []).length=ak G:=by
  cases G with
  | nil=>exact absurd g1 (by decide)
  | cons g G=>rw[cN,List.headD_cons,aS];rfl
 refine⟨by rw[aS];exact g1,by rw[aS];exact J8,by rw[hd];exact w2,by rw[hd];exact w12,kC λr hr=>by rw[hd,aS,(hG r hr).1],kC λr hr x hx=>?_⟩
 obtain⟨y,hy,rfl⟩:=bI.mp hx
 have:=(hG r hr).2 y hy
 omega
noncomputable abbrev bo8(t:fF):List D->List Str->List D->Prop:=λds ns xs=>∃(m:Bool × Nat) (G:List (List Nat)) (Fb:List Nat),ds=[fD t.aN t.aR m,.lst false (au false G)]/\qg m G/\1<=G.length/\G.length<=12/\2<=ak G/\ak G<=12/\oj m G=some Fb/\ns=(["field","length","check_rows","word_rows","message_places","size","bound"]:List Str)/\xs=qf t.aN t.aR true m G++[.int (Fb.length:Nat)]
theorem az6(T:Txt K mg t)(hB:Bm mg base):aM P w K mg base aT 5 t.Dx t.Jg ["self","field","table"] (Q0 [t.jT,t.jU] t.bJ (bo8 t)):=by
 refine T.DH.F.ok Rb (λvs H Q E h=>?_) λaG A outer s H vs Q E hr h=>?_
 ·obtain⟨Fk,F,H0,x,dx,v0,bW,d0,ds,ns,xs,rfl,_,_,_,_,_,_,_,r,⟨m,G,Fb,hd,_⟩,_⟩:=h
  obtain⟨rfl,rfl⟩:=kG hd
  have:=r.length
  simp at this
  simp[this]
 obtain⟨Fk,F,H0,x,dx,v0,bW,d0,ds,ns,xs,rfl,tb,Uz,e0,kg,s0,hx,UA,r2,⟨m,G,Fb,hd,hc,g1,J8,w2,w6,hF,rfl,rfl⟩,q⟩:=h
 obtain⟨rfl,rfl⟩:=kG hd
 have rf:=UA.shared Uz (L3.ae.refl _)
 have hm:=hc.hm
 have hG:=hc.rt
 obtain⟨vc,FL,B1,B2,rfl,dg5,rc,r3⟩:=R.cQ r2
 obtain⟨rfl,rfl⟩:=AL.mp dg5.symm
 cases r3
 refine⟨_,fP (xD (Bk (Bi (iD ((Um T).mono (by decide)) hr rfl T.zT.g T.zT.F.kp T.zT.b .nil eE (cE (pv 1) (cE (pv 2) fo))))) (kI Bq) tL)
  (fP (xD (bM (ff (cy hr)) (aa (ur ((Uo T).mono (by decide)) hr rfl T.zU.g T.zU.F.kp T.zU.b eE (ah (bv 1) (ah (bv 2) az)))) (aa (dU (fI) (by rfl) T.fA ft (ah (bG (bv 2) (aa ao) (λ_ _=>rfl)) az))) (bE _)) (kI Bq) tL)
  (fP (Bp (cz2 (E:=E0) T.c50 ((aG6 T).mono (by decide)) hr T.Tj.b eE rfl T.JK (cE (pv 0) (cE (pv 1) (cE (pv 2) fo)))))
  (kI (iC (pv 0) (dU (fI) (by rfl) T.fA ft (ah (aa (ur ((Uw T).mono (by decide)) hr rfl T.zV.g T.zV.F.kp T.zV.b eE (ah (bv 1) (ah (bv 2) az)))) az)) rfl)))),?_⟩
 try dsimp only[mq,mr]
 refine⟨_,rfl,_,rfl,F,[fD t.aN t.aR m,.lst false (au false G)],λd=>d=.bl true,e0.trans s0,R.cons (A:=[]) (rf.shared (L3.ae.refl _) s0) (rc.shared (L3.ae.refl _) s0),⟨m,G.map λr=>r.map λ(n:Nat)=>(n:Int),by rw[sM],by rw[aS];omega,kC λr hr=>by rw[aS,(hG r hr).1];omega,λb hb=>by rw[hb.2 (cu0 g1 J8 w2 w6 hG)]⟩,λd v F1 H1 A1 hd fX Ud he1 h31 r1 nd1 fr1=>?_⟩
 subst hd
 cases r1
 refine⟨true,rfl,?_⟩
 refine kN ?_
 have s1:=s0.trans fX
 have cO:=fX.get _ _ hx rfl
 have nr:(bO m G).length≠ak G:=λz=>by
  obtain⟨⟨Hd,I⟩,iR⟩:=hc.red
  have:=I.C7 hm iR
  have h0:=hc.sz
  unfold eA at h0
  omega
 refine⟨⟨H1,F⟩,F,[none,some (fD t.aN t.aR m),some (.lst false (au false G))],[],λb _=>b=false,ai.self (e0.trans s1) (.fu (A:=[]) (C:=[]) (rf.shared (L3.ae.refl _) s1) (.fu (A:=[]) (C:=[]) (rc.shared (L3.ae.refl _) s1) .nil)),?_,λb ag F2 H2 hb hf2 eD c2=>?_⟩
 ·walk_at"l3"
  refine⟨m,G,rfl,hm,by omega,hG,by omega,?_⟩
  obtain⟨g,G',rfl⟩:∃g G',G=g::G':=by
   cases G with
   | nil=>exact absurd g1 (by decide)
   | cons g G'=>exact⟨g,G',rfl⟩
  refine⟨.lst false (aw g),nW false (T:=g::G') (i:=0) (LS _),mm 5 ((bO m (g::G')).length:Nat),?_⟩
  rw[kh,eV]
  exact decide_eq_false λz=>nr (Int.ofNat.inj z)
 subst hb
 refine kN ?_
 have s2:=s1.trans eD
 have dJ:=eD.get _ _ cO rfl
 refine⟨.ref x,rfl,v0,rfl,vc,rfl,F,H0,x,dx,t.bJ,v0,vc,m,G,[],rfl,e0,kg,s2,dJ,.nil,⟨T.lC,T.Jx,T.wM,T.wL,T.wQ,T.wN,T.wO⟩,rf,rc,hm,hG,by omega,by omega,λH' p1 p2 p3 B1 B2 B3 sx dD k1 k2 k3 nd fr=>?_⟩
 have so:=bS.of0 kg s2 sx
 refine⟨⟨H',F⟩,F,[none,some (fD t.aN t.aR m),some (.lst false (au false G))],[],λd _=>d=.int (Fb.length:Nat),ai.self (e0.trans so) (.fu (A:=[]) (C:=[]) (rf.shared (L3.ae.refl _) so) (.fu (A:=[]) (C:=[]) (rc.shared (L3.ae.refl _) so) .nil)),?_,λd ag v F3 H3 hd Ac gW c3=>?_⟩
 ·walk_at"l3"
  refine⟨m,G,rfl,hm,by omega,hG,by omega,w6,?_⟩
  rw[hF]
  show(((aw Fb).length:Nat):Int)=_
  rw[eV]
 subst hd
 obtain⟨A3,C3,r3,_,nd3,_⟩:=c3.own
 obtain rfl:v=.int (Fb.length:Nat):=by cases r3;rfl
 have gI:=gW.get _ _ dD rfl
 refine⟨.ref x,rfl,x,t.bJ,dx,_,rfl,gI,T.lC,T.DM,by show 6<1000;decide,?_⟩
 have mv:∀{ds:List D} {vs:List V} {A':List Addr} {fs':List (Str × V)},R (λ_=>none) H' ds vs A'->ds.all D.fr=true->R (λ_=>none) (upd H3 x (.ins t.bJ dx fs')) ds vs A':=λr hd=>(r.grow (L3.ae.refl _) gW λa ha=>(r.lists a ha).2).se gI hd
 have fR:∀X:List (List Nat),[D.lst true (au true X)].all D.fr=true:=λX=>by rw[dh,fG,pX];rfl
 have fN:∀X:List Nat,[D.lst true (aw X)].all D.fr=true:=λX=>by rw[dh,kj];rfl
 have z:=((((fX.trans eD).x (x:=x)).trans sx).trans (gW.x (x:=x))).trans (bS.upd (C:=x) (dx:=dx) gI rfl (o':=.ins t.bJ dx (bK "bound" (.int (Fb.length:Nat)) ([]++sA.zip [v0,.int (ak G:Nat),.ref p1,.ref p2,.ref p3,.int ((eA m G).length:Nat)]))))
 refine q _ [v0,.int (ak G:Nat),.ref p1,.ref p2,.ref p3,.int ((eA m G).length:Nat),.int (Fb.length:Nat)] (B1++(B2++(B3++[]))) z (by rw[br];rfl) rfl ?_ ?_ ?_
 ·have e:=e0.trans s0
  have up:∀{wU:Hp} {ds:List D} {vs:List V} {B:List Addr},R (λ_=>none) wU ds vs B->(∀a∈B,H2 a=none)->R Fk wU ds vs B:=λr h=>r.keep (L3.ae.of λb o e=>by cases e) (fH.same (L3.ae.refl _)) gi.nil (λa ha=>Uz.free (e.free ((fX.trans eD).free (h a ha)))) (by simp)
  exact R.cons (A:=[]) (UA.shared (L3.ae.refl _) (bS.of0 kg s0 z)) (.int (R.cons (up (mv k1 (fR _)) λa ha=>fr a (df _ ha)) (R.cons (up (mv k2 (fR _)) λa ha=>fr a (cI _ (df _ ha))) (R.cons (up (mv k3 (fN _)) λa ha=>fr a (cI _ (cI _ ha))) (.int (.int .nil))))))
 ·rw[fj];exact nd
 ·rw[fj]
  intro a ha
  exact(fX.trans eD).free (fr a ha)
noncomputable def cm9(t:fF):kZ:=λds _ Ex=>∃(m:Bool × Nat) (B:List (List Int)),ds=[.obj t.bJ [] [],fD t.aN t.aR m,.lst false (tabI false B)]/\m∈aJ/\B.length<=1000/\(∀r∈B,r.length<=1000)/\(kA (af m) B->∃G:List (List Nat),B=(G.map λr=>r.map λ(n:Nat)=>(n:Int))/\RT (af m) (ak G) G/\(bO m G).length=ak G)/\Ex t.dw
theorem cn0(T:Txt K mg t):aM P w K mg base (j8 P w) 5 t.Dx t.Jg ["self","field","table"] (pB (cm9 t)):=by
 refine Gq T.DH.F Rb (λds Q E ⟨m,B,h,_⟩=>by rw[h];rfl) λaG A outer s H E hr=>⟨_,aB (cM (NN (uf (aa (bB T.zT (Um T) hr (ah (bv 1) (ah (bv 2) az)))))) (aH (Ck T.TJ rfl (by rfl) (ah (aa ue) az))) cL)
  (aB (cM (bM (ff (cy hr)) (aa (bB T.zU (Uo T) hr (ah (bv 1) (ah (bv 2) az)))) (aa (dU (fI) (by rfl) T.fA ft (ah (bG (bv 2) (aa ao) (λ_ _=>rfl)) az))) (bE _)) (aH (Ck T.TJ rfl (by rfl) (ah (aa ue) az))) cL) ω),λds Q Ex h=>?_⟩
 obtain⟨m,B,rfl,hm,lB,lr,hs,hx⟩:=h
 refine aC λU hU=>?_
 walk_at"l3"
 rw[Ah]
 refine⟨m,B,rfl,lB,lr,λb hb=>?_⟩
 refine⟨by show(_||true)=true;rw[iz],b,rfl,?_⟩
 cases b with
 | false=>exact⟨by decide,hx⟩
 | true =>
  have hS:=hb.1 rfl
  obtain⟨G,rfl,hR,hn⟩:=hs hS
  unfold kA at hS
  rw[aS]at hS
  have hw:ak G<=12:=by
   cases G with
   | nil=>exact absurd hS.1 (by decide)
   | cons g G=>have:=hS.2.2.2.1;rw[cN,List.headD_cons,aS]at this;exact this
  refine hU _ ?_
  clear hU U
  rw[sM]
  walk_at"l3"
  refine⟨m,G,by show [D.sh _,D.sh _]=_;rw[G4,cP,dv],hm,by omega,hR,by omega,by show(_||true)=true;rw[iz],?_⟩
  rw[hn]
  clear hn hR hs hb lB lr
  obtain⟨g,G',rfl⟩:∃g G',G=g::G':=by
   cases G with
   | nil=>exact absurd hS.1 (by decide)
   | cons g G=>exact⟨g,G,rfl⟩
  dsimp only
  walk_at"l3"
  refine⟨.lst false (aw g),lY (k:=0) (by decide) rfl,?_⟩
  dsimp only
  rw[eV g]
  rw[show ak (g::G')=g.length from rfl,if_pos rfl]
  exact⟨by decide,hx⟩
noncomputable abbrev aC1(t:fF):aZ:=λds Q=>∃(m:Bool × Nat) (B:List (List Int)),ds=[fD t.aN t.aR m,.lst false (tabI false B)]/\m∈aJ/\B.length<=1000/\(∀r∈B,r.length<=1000)/\(kA (af m) B->∃G:List (List Nat),B=(G.map λr=>r.map λ(n:Nat)=>(n:Int))/\RT (af m) (ak G) G/\(bO m G).length=ak G)/\Q (.bl true)
theorem aC2(T:Txt K mg t)(hB:Bm mg base):aM P w K mg base aT 7 t.SE t.SF ["_law_field_here","_law_table"] (vE [t.jT,t.jU] (bo (aC1 t))):=by
 refine GU T.DI.F Dt ?_ ?_
 ·intro ds Q h
  obtain⟨m,B,rfl,hm,lB,lr,hs,q⟩:=h<;>rfl
 ·intro aG A outer s H E hT hr
  refine⟨_,(aB (aX (i:=2) Dt.nd rfl (ay rfl) BW)
   (aB (cy5 (i:=3) (λ_ _=>(aH (ci0 (cb8 T.DL ((cn0 T).mono (by decide)) hr rfl T.DQ T.DH.b rfl (ah (bv 0) (ah (bv 1) az))))))
    (λ_ _=>(aH (aX (i:=2) Dt.nd rfl (ay rfl) (em 3)))) (by rfl) T.DS Dt.nd rfl rfl rfl rfl rfl)
   (aH (aV (um (aa (OG (by rfl) T.z9 (by rfl) T.JL (bv 2))) (um (aa (co7 (by rfl) T.z9 (by rfl) T.c51 Zc (bv 2))) (Bl (NO (aa (OG (by rfl) T.z9 (by rfl) T.JM (bv 2))))))))))),λds Q h=>?_⟩
  obtain⟨m,B,rfl,hm,lB,lr,hs,q⟩:=h
  refine aC λU hU=>?_
  walk_at"l3"
  refine hU _ ?_
  clear hU U
  refine aC λU hU=>?_
  walk_at"l3"
  rw[Ah]
  refine⟨m,B,rfl,hm,lB,lr,hs,T.c59,hU _ ?_⟩
  clear hU U
  walk_at"l3"
  refine⟨_,GB T.JO T.ax1,?_⟩
  rw[if_pos rfl]
  refine⟨_,GB T.JO T.c60,?_⟩
  rw[if_pos rfl]
  exact⟨_,GB T.JO T.c57,q⟩
noncomputable def kD(c k:Int):Int:=(c%999983+7*k+1)*(k*k+48271)%1000003
noncomputable abbrev aE6:aZ:=λds Q=>∃(c k:Int),ds=[.int c,.int k]/\0<=k/\k<=100000/\Q (.int (kD c k))
theorem J9(T:Txt K mg t):aM P w K mg base aT 1 t.SG t.SH ["_law_cell_here","_law_k"] (bo (aE6 )):=by
 refine bQ T.DJ.F aD6 ?_ ?_
 ·intro ds Q h
  obtain⟨c,k,rfl,k0,k1,q⟩:=h<;>rfl
 ·intro aG A outer s H E hr
  refine⟨_,(aH (aV (aA bY (aa (aA iJ (aa (aA cT (aa (aA cT (aa (aA bY (bv 0) (aa ao))) (aa (aA iJ (aa ao) (bv 1))))) (aa ao))) (aa (aA cT (aa (aA iJ (bv 1) (bv 1))) (aa ao))))) (aa ao)))),λds Q h=>?_⟩
  obtain⟨c,k,rfl,k0,k1,q⟩:=h
  walk_at"l3"
  have c0:=fm c (show(999983:Int)≠0 by decide)
  have c1:=fE c (show(0:Int)<999983 by decide)
  exact⟨by decide,jG.ok (.inl ⟨by decide,by decide⟩),jG.ok (.inl ⟨by omega,by omega⟩),jG.ok (.inl ⟨by omega,by omega⟩),by decide,q⟩
noncomputable abbrev aG9:aZ:=λds Q=>∃(m:Bool × Nat) (n e:Nat) (c kd:Int),ds=[dW m,.int e,.int n,.int c,.int kd]/\m∈aJ/\n<=20/\e<=20/\∀B:List (List Nat),B.length=e->RT (af m) n B->Q (.lst true (au true B))
theorem Aj(T:Txt K mg t):aM P w K mg base aT 2 t.SI t.SJ ["_law_told_here","_law_rows","_law_wide","_law_cell_here","_law_kind"] (bo (aG9 )):=by
 refine bQ T.wI.F wD ?_ ?_
 ·intro ds Q h
  obtain⟨m,n,e,c,kd,rfl,hm,hn,he,q⟩:=h<;>rfl
 ·intro aG A outer s H E hr
  refine⟨_,(aB (aX (i:=5) wD.nd rfl (bV rfl) (bB T.wG (Ad T) hr (ah (bv 0) az)))
   (aB (aX (i:=6) wD.nd rfl (ay rfl) (fc du))
   (aB (ji fM rfl (nj rfl T.jV (ah (bv 1) az)) (mf (i:=7) wD.nd rfl (bV rfl))
    (aB (CY (i:=8) wD.nd rfl (ay rfl) [("_law_many_here",5),("_law_cell_here",3),("_law_i",7)] ["_law_at"] rfl (nj rfl T.jV (ah (bv 2) az)) (λ_ _ _ _=>(eH (i:=3) (show(["_law_many_here","_law_cell_here","_law_i","_law_at"]:List Str).Nodup by decide +kernel))) (λ_ _ _ _=>dS) (λ_ _ _ _=>(aA bY (aa (aA jo (aa (bB T.DJ (J9 T) hr (ah (bv 1) (ah (aa (aA cT (aa (aA iJ (bv 2) (aa ao))) (bv 3))) az)))) (aa ao))) (bv 0))) rfl)
    (aB (cM (bM (ff (cy hr)) (aa (aA bY (bv 4) (aa ao))) (aa ao) (bE _)) (aH (CY (i:=8) wD.nd rfl (ay rfl) [("_law_cell_here",3),("_law_i",7)] ["_law_at","_law_x"] rfl (vx rfl T.wR (ah (bv 8) az)) (λ_ _ _ _=>(zO (i1:=2) (i2:=3) (show(["_law_cell_here","_law_i","_law_at","_law_x"]:List Str).Nodup by decide +kernel))) (λ_ _ _ _=>dS) (λ_ _ _ _=>(aA iJ (bv 3) (aa (aA bY (aa (aA jo (aa (bB T.DJ (J9 T) hr (ah (aa (aA cT (bv 0) (aa ao))) (ah (aa (aA cT (aa (aA iJ (bv 1) (aa ao))) (bv 2))) az)))) (aa ao))) (aa ao))))) rfl)) cL)
    (aH (pq (i:=6) rfl (by first | exact ay rfl | exact bV (ay rfl)) (em 8))))))
   (aH (aV (em 6)))))),λds Q h=>?_⟩
  obtain⟨m,n,e,c,kd,rfl,hm,hn,he,q⟩:=h
  have gg:=(cW hm).lo
  have dL4:=(cW hm).hi
  have DW:=zy m hm
  refine aC λU hU=>?_
  walk_at"l3"
  refine⟨m,rfl,by omega,by omega,hU _ ?_⟩
  clear hU U
  generalize af m=M at *
  have hM:1<=M:=by omega
  have dh2:∀z:Int,z%(M:Int)=(((z%(M:Int)).toNat:Nat):Int):=λz=>by
   have n0:=fm z (show(M:Int)≠0 by omega)
   omega
  have dh3:∀z:Int,(z%(M:Int)).toNat<M:=λz=>by
   have n1:=fE z (show(0:Int)<(M:Int) by omega)
   omega
  refine aC λU hU=>?_
  walk_at"l3"
  refine⟨by decide,hU _ ?_⟩
  clear hU U
  refine aC λU hU=>?_
  walk_at"l3"
  refine⟨⟨by omega,by omega⟩,yV (λi δ=>∃(G:List (List Nat)) (o1 o2:Option D),δ=[some (dW m),some (.int e),some (.int n),some (.int c),some (.int kd),some (.int M),some (.lst true (au true G)),o1,o2]/\G.length=i/\RT M n G) ⟨[],_,_,rfl,rfl,λ_ h=>nomatch h⟩ ?_ ?_⟩
  ·rintro i δ hi ⟨G,o1,o2,rfl,hG,hR⟩
   simp only[gN,iU,iT]
   clear hU
   refine aC λU hU=>?_
   walk_at"l3"
   refine⟨⟨by omega,by omega⟩,fv (bh n) (λ(i:Nat)=>D.int (i:Int)) (λk=>D.int (((kD c ((i:Int)*16+(k:Int))/5%(M:Int)).toNat:Nat):Int)) (CN _ rfl) nM (λk hk=>?_) (.inr λ_ _=>rfl) (by rw[fk,sL];omega) ?_⟩
   ·have hk:=eJ.mp hk
    walk_at"l3"
    exact⟨jG.ok (.inl ⟨by omega,by omega⟩),_,_,rfl,by omega,by omega,jn (by decide) (by decide),by omega,dh2 _⟩
   obtain⟨row,er,Ak,Al⟩:∃wd:List Nat,((bh n).map λ(k:Nat)=>D.int (((kD c ((i:Int)*16+(k:Int))/5%(M:Int)).toNat:Nat):Int))=aw wd/\AllLt M wd/\wd.length=n:=by
    refine⟨(bh n).map λ(k:Nat)=>(kD c ((i:Int)*16+(k:Int))/5%(M:Int)).toNat,by rw[fJ,b8];rfl,λa ha=>?_,by simp⟩
    obtain⟨k,_,rfl⟩:=bI.mp ha
    exact dh3 _
   rw[er]
   refine hU _ ?_
   clear hU
   refine aC λU hU=>?_
   walk_at"l3"
   have fin:∀row:List Nat,AllLt M row->row.length=n->U [some (dW m),some (D.int e),some (D.int n),some (D.int c),some (D.int kd),some (D.int M),some (D.lst true (au true G)),some (D.int i),some (D.lst true (aw row))]:=by
    clear er Ak Al row
    intro row Ak Al
    refine hU _ ?_
    walk_at"l3"
    refine⟨⟨_,rfl⟩,by omega,G++[row],_,_,⟨pY true G [row],rfl,rfl⟩,by rw[eM,hG];rfl,hR.app λx hx=>?_⟩
    rw[dG]at hx
    rw[hx];exact⟨Al,Ak⟩
   clear hU
   refine⟨by decide,?_⟩
   split
   ·have e2:∀z:Int,z%2=0\/z%2=1:=λz=>by omega
    refine PH (bh row.length) (λ(k:Nat)=>D.tup [.int (k:Int),.int ((row.getD k 0:Nat):Int)]) (λk=>D.int ((row.getD k 0*(kD (c+7) ((i:Int)*16+(k:Int))/3%2).toNat:Nat):Int)) (G8 row) (λa b h=>by injection h with h;simp at h;omega) (λk hk=>?_) PJ (.inr λ_ _=>rfl) (by rw[fk,sL];omega) ?_
    ·have hk:=eJ.mp hk
     walk_at"l3"
     refine⟨jG.ok (.inl ⟨by omega,by omega⟩),_,_,rfl,by omega,by omega,jn (by decide) (by decide),by decide,jG.ok (.inr ⟨by omega,by omega⟩),?_⟩
     rw[xu,xq (by omega)]
    dsimp only[iU,iT]
    rw[show((bh row.length).map λ(k:Nat)=>D.int ((row.getD k 0*(kD (c+7) ((i:Int)*16+(k:Int))/3%2).toNat:Nat):Int))=aw ((bh row.length).map λk=>row.getD k 0*(kD (c+7) ((i:Int)*16+(k:Int))/3%2).toNat) by rw[fJ,b8];rfl]
    refine fin _ (λa ha=>?_) (by rw[aS,fk,Al])
    obtain⟨k,_,rfl⟩:=bI.mp ha
    have h1:=Ak.getD (show 0<M by omega) k
    rcases e2 (kD (c+7) ((i:Int)*16+(k:Int))/3)with h | h
    ·rw[h];show row.getD k 0*0<M;omega
    ·rw[h];show row.getD k 0*1<M;omega
   ·exact fin row Ak Al
  ·rintro δ ⟨G,o1,o2,rfl,hG,hR⟩
   refine hU _ ?_
   walk_at"l3"
   exact q G hG hR
noncomputable abbrev UB(t:fF):aZ:=λds Q=>∃(m:Bool × Nat) (G:List (List Nat)) (k:Kd),ds=[ku t m G k]/\qg m G/\Q (.lst true (au true (wb m G)))
theorem aH0(T:Txt K mg t):aM P w K mg base aT 2 t.Jh t.SK ["self"] (bo (UB t)):=by
 refine bQ T.Ts.F aF8 ?_ ?_
 ·intro ds Q h
  obtain⟨m,G,k,rfl,hc,q⟩:=h<;>rfl
 ·intro aG A outer s H E hr
  refine⟨_,(aH (aV (bB T.wH (JV T) hr (ah (gu (K:=K) (bv 0)) az)))),λds Q h=>?_⟩
  obtain⟨m,G,k,rfl,hc,q⟩:=h
  have hw:=hc.wid
  have hf:=hc.few
  walk_at"l3"
  refine ce2 T m G k ⟨_,by rw[cP,dv],by rw[QT];omega,by rw[fG,pX,lJ,iz],q⟩
noncomputable abbrev aK5(t:fF)(P:Program)(w:World)(K:Frag)(mg:Str->Option Value)(base:Heap):aZ:=λds Q=>∃(m:Bool × Nat) (G:List (List Nat)),ds=[fD t.aN t.aR m,.lst false (au false G)]/\m∈aJ/\G.length<=900/\RT (af m) (ak G) G/\ak G<=900/\(∀r∈bO m G,∃x∈r,x≠0)/\Q (.lst true (au true (mC m (bO m G) (ak G))))
theorem aK6(T:Txt K mg t):aM P w K mg base aT 4 t.SM t.SN ["field","table"] (bo (aK5 t P w K mg base)):=by
 refine bQ T.Tt.F aK0 ?_ ?_
 ·intro ds Q h
  obtain⟨m,G,rfl,hm,hG,hR,hw,hn,q⟩:=h<;>rfl
 ·intro aG A outer s H E hr
  refine⟨_,(aH (aV (bB T.zS (Uc T) hr (ah (bv 0) (ah (aa (bB T.sF (DX T) hr (ah (bv 0) (ah (bv 1) az)))) (ah (aa (bB T.qj (Af T) hr (ah (bv 1) az))) az)))))),λds Q h=>?_⟩
  obtain⟨m,G,rfl,hm,hG,hR,hw,hn,q⟩:=h
  walk_at"l3"
  refine⟨m,G,rfl,hm,hG,hR,hw,?_⟩
  have I:=zH hm hR (ak G)
  refine⟨G,rfl,by omega,λr aU=>by rw[(hR r aU).1];omega,m,bO m G,ak G,by rw[cP,dv,nJ],hm,?_,by omega,I.a,hn,?_,q⟩
  ·show(jw m G (ak G)).1.length<=1000
   have:=I.l
   omega
  ·rw[show ∀X:List (List Nat),(D.lst true (au true X)).fr=true from λX=>by rw[fG,pX];rfl,iz]
noncomputable abbrev UC(t:fF):aZ:=λds Q=>∃(m:Bool × Nat) (G:List (List Nat)) (b:Nat),ds=[ku t m G (.mF b)]/\Q (.int (b:Nat))
theorem ar8(T:Txt K mg t):aM P w K mg base aT 1 t.Ji t.SO ["self"] (bo (UC t)):=by
 refine bQ T.Tu.F ar2 ?_ ?_
 ·intro ds Q h
  obtain⟨m,G,b,rfl,q⟩:=h<;>rfl
 ·intro aG A outer s H E hr
  refine⟨_,(aH (aV (cR (gu (K:=K) (bv 0))))),λds Q h=>?_⟩
  obtain⟨m,G,b,rfl,q⟩:=h
  walk_at"l3"
  exact⟨_,_,_,_,rfl,T.lC,T.DM,rfl,rfl,q⟩
noncomputable def Am(M n l k:Nat)(S:List (List Nat)):Prop:=RT M n S/\S.length=l/\∀i,i<k->cf (S.getD i []) i≠0/\∀j,j<i->cf (S.getD i []) j=0
theorem Am.put{M n l k:Nat}{S:List (List Nat)}(h:Am M n l k S){i j v:Nat}(hk:k<=i)(hi:i<l)(hj:j<n)(hv:v<M):Am M n l k (mD S i j v):=by
 obtain⟨h1,h2,h3⟩:=h
 have cZ:i<S.length:=by omega
 have hw:=(h1 _ (de cZ [])).1
 refine⟨cd0 h1 cZ hv,by rw[bX5,h2],λa ha=>?_⟩
 have e:∀b,cf ((mD S i j v).getD a []) b=cf (S.getD a []) b:=λb=>by rw[Dc cZ (by omega),if_neg (by omega)]
 exact⟨by rw[e];exact(h3 a ha).1,λb hb=>by rw[e];exact(h3 a ha).2 b hb⟩
noncomputable abbrev av1:aZ:=λds Q=>∃(m:Bool × Nat) (n e:Nat) (c:Int),ds=[dW m,.int n,.int e,.int c]/\m∈aJ/\2<=n/\n<=12/\e<=8/\∀B:List (List Nat),B.length=e+n->RT (af m) n B->(bO m B).length=n->Q (.lst true (au false B))
theorem av2(T:Txt K mg t):aM P w K mg base aT 3 t.SQ t.SR ["_law_told_here","_law_wide","_law_rows","_law_cell_here"] (bo (av1 )):=by
 refine bQ T.Tv.F wF ?_ ?_
 ·intro ds Q h
  obtain⟨m,n,e,c,rfl,hm,n2,sN,he,q⟩:=h<;>rfl
 ·intro aG A outer s H E hr
  refine⟨_,(aB (aX (i:=4) wF.nd rfl (ay rfl) (bB T.wG (Ad T) hr (ah (bv 0) az)))
   (aB (aX (i:=5) wF.nd rfl (ay rfl) (bB T.wI (Aj T) hr (ah (bv 0) (ah (aa (aA cT (bv 2) (bv 1))) (ah (bv 1) (ah (bv 3) (ah (bv 3) az)))))))
   (aB (ji fM rfl (nj rfl T.jV (ah (bv 1) az)) (mf (i:=6) wF.nd rfl (ay rfl))
    (aB (ji fM rfl (nj rfl T.jV (ah (bv 6) az)) (mf (i:=7) wF.nd rfl (ay rfl))
     (aH (Qw (i:=5) (j:=6) rfl (by first | exact ay rfl | exact bV (ay rfl)) rfl (by first | exact ay rfl | exact bV (ay rfl)) ao (bv 7))))
    (aH (Qw (i:=5) (j:=6) rfl (by first | exact ay rfl | exact bV (ay rfl)) rfl (by first | exact ay rfl | exact bV (ay rfl)) (aA cT (aa ao) (aa (aA bY (aa (bB T.DJ (J9 T) hr (ah (bv 3) (ah (aa (aA cT (bv 6) (aa ao))) az)))) (aa (aA jm (bv 4) (aa ao)))))) (bv 6)))))
   (aB (aX (i:=8) wF.nd rfl (ay rfl) (aA bY (bv 3) (aa (dU (fI) (by rfl) T.fA ft (ah (bv 5) az)))))
   (yi 5 (aH (aV (aA cT (aa (nL (bv 5) (nG (bv 8)) nF)) (aa (nL (bv 5) nF (nG (bv 8)))))))))))),λds Q h=>?_⟩
  obtain⟨m,n,e,c,rfl,hm,n2,sN,he,q⟩:=h
  have gg:=(cW hm).lo
  have ql:=(cW hm).hi
  have DW:=zy m hm
  refine aC λU hU=>?_
  walk_at"l3"
  refine⟨m,rfl,by omega,by omega,hU _ ?_⟩
  clear hU U
  refine aC λU hU=>?_
  walk_at"l3"
  refine⟨m,n,e+n,c,c,by rw[LF],hm,by omega,by omega,λB lB hB=>hU _ ?_⟩
  clear hU U
  refine aC λU hU=>?_
  walk_at"l3"
  refine⟨⟨by omega,by omega⟩,yV (λi δ=>∃(S:List (List Nat)) (o1 o2:Option D),δ=[some (dW m),some (.int n),some (.int e),some (.int c),some (.int (af m:Nat)),some (.lst true (au true S)),o1,o2,none]/\Am (af m) n (e+n) i S) ⟨B,_,_,rfl,hB,lB,λi h=>nomatch h⟩ ?_ ?_⟩
  ·rintro i δ hi ⟨S,o1,o2,rfl,I⟩
   simp only[gN,iU,iT]
   clear hU
   refine aC λU hU=>?_
   walk_at"l3"
   refine⟨⟨by omega,by omega⟩,yV (λj δ=>∃(S:List (List Nat)) (o2:Option D),δ=[some (dW m),some (.int n),some (.int e),some (.int c),some (.int (af m:Nat)),some (.lst true (au true S)),some (.int i),o2,none]/\Am (af m) n (e+n) i S/\∀a,a<j->cf (S.getD i []) a=0) ⟨S,_,rfl,I,λj h=>nomatch h⟩ ?_ ?_⟩
   ·rintro j δ hj ⟨S,o2,rfl,I,hz⟩
    have cZ:i<S.length:=by rw[I.2.1];omega
    have hw:=(I.1 _ (de cZ [])).1
    simp only[gN,iU,iT]
    clear hU
    walk_at"l3"
    refine⟨_,_,_,mE true cZ,by rw[gw,eC];omega,j,mE true cZ,?_,mD S i j 0,_,⟨Qx true cZ,rfl⟩,I.put (bD _) (by omega) (by omega) (by omega),λa ha=>?_⟩
    ·rw[pU (by omega) (by rw[eV];omega)];rfl
    ·rw[Dc cZ (by omega)]
     split
     ·rfl
     ·exact hz a (by omega)
   ·rintro δ ⟨S,o2,rfl,I,hz⟩
    refine hU _ ?_
    clear hU
    have cZ:i<S.length:=by rw[I.2.1];omega
    have hw:=(I.1 _ (de cZ [])).1
    obtain⟨v,ev,v0,vM⟩:∃v:Nat,(1:Int)+kD c ((i:Int)+900)%((af m:Int)-1)=v/\v≠0/\v<af m:=by
     have h1:=fm (kD c ((i:Int)+900)) (show(af m:Int)-1≠0 by omega)
     have h2:=fE (kD c ((i:Int)+900)) (show(0:Int)<(af m:Int)-1 by omega)
     exact⟨(1+kD c ((i:Int)+900)%((af m:Int)-1)).toNat,by omega,by omega,by omega⟩
    walk_at"l3"
    refine⟨c,_,rfl,by omega,by omega,?_⟩
    dsimp only
    rw[ev]
    refine⟨by omega,_,_,_,mE true cZ,by rw[gw,eC];omega,i,mE true cZ,by rw[pU (by omega) (by rw[eV];omega)];rfl,mD S i i v,_,_,⟨Qx true cZ,rfl,rfl⟩,?_⟩
    obtain⟨J1,J2,J3⟩:=I.put (j:=i) (v:=v) (bD _) (by omega) (by omega) vM
    refine⟨J1,J2,λa ha=>?_⟩
    by_cases h:a<i
    ·exact J3 a h
    ·obtain rfl:a=i:=by omega
     exact⟨by rw[Dc cZ (by omega),if_pos ⟨rfl,rfl⟩];exact v0,λb hb=>by rw[Dc cZ (by omega),if_neg (by omega)];exact hz b hb⟩
  ·rintro δ ⟨S,o1,o2,rfl,I⟩
   refine hU _ ?_
   clear hU U
   obtain⟨J1,J2,J3⟩:=I
   obtain⟨k,ek,lk⟩:∃k:Nat,c%(S.length:Int)=k/\k<S.length:=⟨(c%(S.length:Int)).toNat,by have:=fm c (show(S.length:Int)≠0 by omega);omega,by have:=fE c (show(0:Int)<S.length by omega);omega⟩
   refine aC λU hU=>?_
   walk_at"l3"
   rw[ek]
   refine⟨by omega,hU _ ?_⟩
   clear hU U ek
   walk_at"l3"
   rw[Cp,y8,pY]
   have pm:∀r,r∈S.drop k++S.take k↔r∈S:=λr=>by rw[bA,or_comm,<- bA,AV]
   have ln:(S.drop k++S.take k).length=S.length:=by rw[eM,iS,eC];omega
   have hR:RT (af m) n (S.drop k++S.take k):=λr aU=>J1 r ((pm r).mp aU)
   have hw:=vV hR λz=>by rw[z]at ln;simp at ln;omega
   refine⟨by rw[iS,eC];omega,q _ (by omega) hR ((cm3 hm (by rw[hw];exact hR) λi hi=>?_).trans hw)⟩
   rw[hw]at hi
   exact⟨_,(pm _).mpr (de (by omega) []),J3 i hi⟩
noncomputable def UD(m:Bool × Nat)(B:List (List Int)):Prop:=kA (af m) B->∃G:List (List Nat),B=(G.map λr=>r.map λ(n:Nat)=>(n:Int))/\RT (af m) (ak G) G/\(bO m G).length=ak G
theorem Ka{m:Bool × Nat}{B:List (List Int)}(h0:B≠[])(h:∀r∈B,r.length<2\/12<r.length):UD m B:=λhs=>by
 cases B with
 | nil=>exact absurd rfl h0
 | cons g B' =>
  have h1:=h g jB
  have h2:2<=g.length:=hs.2.2.1
  have h3:g.length<=12:=hs.2.2.2.1
  omega
theorem Kb{α β:Type}{f:α->β}{B:List α}(h:B≠[]):B.map f≠[]:=λz=>h (List.map_eq_nil_iff.mp z)
noncomputable abbrev aH1:aZ:=λds Q=>∃(m:Bool × Nat) (n e:Nat) (c kd:Int),ds=[dW m,.int n,.int e,.int c,.int kd]/\m∈aJ/\2<=n/\n<=12/\1<=e/\e<=5/\∀(B:List (List Int)) (d:D),d.sh=.lst false (tabI false B)->B.length<=1000->(∀r∈B,r.length<=1000)->UD m B->Q d
theorem aH2(T:Txt K mg t):aM P w K mg base aT 4 t.SS t.SU ["_law_told_here","_law_wide","_law_rows","_law_cell_here","_law_kind"] (bo (aH1 )):=by
 refine bQ T.Tw.F Du ?_ ?_
 ·intro ds Q h
  obtain⟨m,n,e,c,kd,rfl,hm,n2,sN,e1,e5,q⟩:=h<;>rfl
 ·intro aG A outer s H E hr
  refine⟨_,(aB (aX (i:=5) Du.nd rfl (ay rfl) (bB T.wI (Aj T) hr (ah (bv 0) (ah (bv 2) (ah (bv 1) (ah (bv 3) (ah (aa ao) az)))))))
   (aB (cM (bM (ff (cy hr)) (aa (aA bY (bv 4) (aa ao))) (aa ao) (bE _)) (aH (aV (fc du))) cL)
   (aB (cM (bM (ff (cy hr)) (aa (aA bY (bv 4) (aa ao))) (aa ao) (bE _)) (aH (aV (dZ [] ["_law_row"] rfl (fU (bv 5)) (λ_ _ _ _=>(eH (i:=0) (show(["_law_row"]:List Str).Nodup by decide +kernel))) (λ_ _ _ _=>dS) (λ_ _ _ _=>(fc du)) rfl))) cL)
   (aB (cM (bM (ff (cy hr)) (aa (aA bY (bv 4) (aa ao))) (aa ao) (bE _)) (aH (aV (dZ [] ["_law_row"] rfl (fU (bv 5)) (λ_ _ _ _=>(eH (i:=0) (show(["_law_row"]:List Str).Nodup by decide +kernel))) (λ_ _ _ _=>dS) (λ_ _ _ _=>(nL (bv 0) nF (nG (aa ao)))) rfl))) cL)
   (aB (cM (bM (ff (cy hr)) (aa (aA bY (bv 4) (aa ao))) (aa ao) (bE _)) (aH (aV (bB T.wI (Aj T) hr (ah (bv 0) (ah (bv 2) (ah (aa ao) (ah (bv 3) (ah (aa ao) az)))))))) cL)
   (aB (cM (bM (ff (cy hr)) (aa (aA bY (bv 4) (aa ao))) (aa ao) (bE _)) (aH (ce5 ((TU T).mono (by decide)) hr rfl T.sE.g T.sE.F.kp T.sE.b eE (di (cR (bv 0)) (di (bB T.wI (Aj T) hr (ah (bv 0) (ah (aa ao) (ah (bv 1) (ah (bv 3) (ah (aa ao) az)))))) (di (cR (bv 3)) du))))) cL)
   (aB (cM (bM (ff (cy hr)) (aa (aA bY (bv 4) (aa ao))) (aa ao) (bE _)) (aB (aX (i:=6) Du.nd rfl (ay rfl) (aA bY (bv 3) (bv 2)))
    (aB (Cd (i:=5) rfl (by first | exact ay rfl | exact bV (ay rfl)) (aA cT (bG (bv 5) (bv 6) (λ_ _=>rfl)) (aa (fc (di ao du)))) (bv 6))
    (yi 5 (aH (aV (aA cT (bv 5) (cq0 (ah (ct9 (nL (bG (bv 5) (bv 6) (λ_ _=>rfl)) nF (nG (bv 1)))) az)))))))) cL)
   (aB (cM (bM (ff (cy hr)) (aa (aA bY (bv 4) (aa ao))) (aa ao) (bE _)) (aB (aX (i:=7) Du.nd rfl (ay rfl) (fc (di (cz4 (aa ao)) (di (bB T.wG (Ad T) hr (ah (bv 0) az)) (di (aA cT (aa (bB T.wG (Ad T) hr (ah (bv 0) az))) (aa (aA bY (bv 3) (aa (aA cA5 (aa ao) (aa ao)))))) du)))))
    (aB (cf3 (i:=5) rfl (by first | exact ay rfl | exact bV (ay rfl)) (cR (bG (bv 7) (aa (aA bY (aa (aA jo (bv 3) (aa ao))) (aa ao))) (λ_ _=>rfl))) (aa (aA bY (bv 3) (bv 2))) (aa (aA bY (aa (aA jo (bv 3) (aa ao))) (bv 1))))
    (aH (aV (em 5))))) cL)
   (aH (aV (bB T.Tv (av2 T) hr (ah (bv 0) (ah (bv 1) (ah (bv 2) (ah (bv 3) az))))))))))))))),λds Q h=>?_⟩
  obtain⟨m,n,e,c,kd,rfl,hm,n2,sN,e1,e5,q⟩:=h
  have gg:=(cW hm).lo
  have ql:=(cW hm).hi
  have DW:=zy m hm
  refine aC λU hU=>?_
  walk_at"l3"
  refine⟨m,n,e,c,1,rfl,hm,by omega,by omega,λB lB hB=>hU _ ?_⟩
  clear hU U
  have B0:B≠[]:=λz=>by rw[z]at lB;simp at lB;omega
  refine aC λU hU=>?_
  walk_at"l3"
  refine⟨by decide,?_⟩
  split
  ·exact⟨by decide,q [] _ rfl (by decide) (λr h=>nomatch h) λh=>absurd h.1 (by decide)⟩
  refine hU _ ?_
  clear hU U
  refine aC λU hU=>?_
  walk_at"l3"
  refine⟨by decide,?_⟩
  split
  ·refine fv B (λr=>D.lst false (aw r)) (λ_=>D.lst true []) (by rw[dv];rfl) (λa b h=>my a b h) (λr aU=>?_) (.inr λr _=>rfl) (by rw[sL];omega) ?_
   ·walk_at"l3"
    decide
   ·refine q (B.map λ_=>[]) _ (by rw[cP,b8];unfold tabI;rw[b8];rfl) (by rw[aS];omega) (kC λ_ _=>by decide) (Ka (Kb B0) (kC λ_ _=>.inl (by decide)))
  refine hU _ ?_
  clear hU U
  refine aC λU hU=>?_
  walk_at"l3"
  refine⟨by decide,?_⟩
  split
  ·refine fv B (λr=>D.lst false (aw r)) (λr=>D.lst true (aw (r.take 1))) (by rw[dv];rfl) (λa b h=>my a b h) (λr aU=>?_) (.inr λr _=>kj _) (by rw[sL];omega) ?_
   ·walk_at"l3"
    rw[show fg r none (some 1)=r.take 1 from y8 r 1]
   ·refine q (B.map λr=>(r.take 1).map λ(n:Nat)=>(n:Int)) _ (by rw[cP,b8];unfold tabI;rw[b8];exact congrArg _ (mQ λr _=>zD true _)) (by rw[aS];omega) (kC λr _=>by rw[aS,eC];omega) (Ka (Kb B0) (kC λr _=>.inl (by rw[aS,eC];omega)))
  refine hU _ ?_
  clear hU U
  refine aC λU hU=>?_
  walk_at"l3"
  refine⟨by decide,?_⟩
  split
  ·refine⟨m,13,e,c,1,rfl,hm,by decide,by omega,λS lS hS=>?_⟩
   refine q (S.map λr=>r.map λ(n:Nat)=>(n:Int)) _ (by rw[cP,dv,sM]) (by rw[aS];omega) (kC λr h=>by rw[aS,(hS r h).1];decide) (Ka (Kb λz=>by rw[z]at lS;simp at lS;omega) (kC λr h=>.inr (by rw[aS,(hS r h).1];decide)))
  refine hU _ ?_
  clear hU U
  refine aC λU hU=>?_
  walk_at"l3"
  refine⟨by decide,?_⟩
  split
  ·refine⟨m,n,13,c,1,rfl,hm,by omega,by decide,λS lS hS=>⟨m,n,S,c,rfl,hm,n2,by omega,(λz=>by rw[z]at lS;cases lS),by omega,hS,λS' lS' hS' _=>?_⟩⟩
   refine q (S'.map λr=>r.map λ(n:Nat)=>(n:Int)) _ (by rw[cP,dv,sM]) (by rw[aS];omega) (kC λr h=>by rw[aS,(hS' r h).1];omega) λh=>absurd h.2.1 (by rw[aS];omega)
  refine hU _ ?_
  clear hU U
  refine aC λU hU=>?_
  walk_at"l3"
  refine⟨by decide,?_⟩
  split
  ·clear hU
   obtain⟨k,ek,lk⟩:∃k:Nat,c%(e:Int)=k/\k<e:=⟨(c%(e:Int)).toNat,by have:=fm c (show(e:Int)≠0 by omega);omega,by have:=fE c (show(0:Int)<e by omega);omega⟩
   refine aC λU hU=>?_
   walk_at"l3"
   rw[ek]
   refine⟨by omega,hU _ ?_⟩
   clear hU ek
   have kB:k<B.length:=by omega
   have rk:=(hB _ (eN kB)).1
   refine aC λU hU=>?_
   walk_at"l3"
   refine⟨.lst true (aw B[k]),nW true kB,by decide,⟨by rw[eV];show _+1<=_;omega,ki _,rfl⟩,_,k,rfl,by rw[gw,pU (by omega) (by omega),gY],?_⟩
   have es:(au true B).set k (.lst true (aw B[k]++[D.int 0]))=au true (B.set k (B[k]++[0])):=by
    unfold au
    rw[AO];exact congrArg _ (congrArg _ (rT _ [0]))
   rw[es]
   refine hU _ ?_
   clear hU es
   walk_at"l3"
   have kS:k<(B.set k (B[k]++[0])).length:=by rw[gZ];exact kB
   refine⟨.lst false (aw (B[k]++[0])),by rw[nW false kS,List.getElem_set_self],?_⟩
   dsimp only
   have ec:(fg (aw (B[k]++[0])) none (some (n:Int))).map D.sh=aw B[k]:=by
    rw[y8,<- rT,List.take_append_of_le_length (by rw[eV];omega),AM (by rw[eV];omega),pG]
   rw[ec]
   have ef:au false (B.set k (B[k]++[0]))++[D.lst false (aw B[k])]=au false (B.set k (B[k]++[0])++[B[k]]):=pY false _ [B[k]]
   rw[ef]
   refine⟨ki _,by decide,⟨by rw[gZ];omega,ki _⟩,?_⟩
   have hl:∀r∈B.set k (B[k]++[0])++[B[k]],r.length<=1000:=λr h=>by
    rcases bA.mp h with h | h
    ·rcases qB h with h | h
     ·rw[(hB r h).1];omega
     ·rw[h,eM,rk];show n+1<=_;omega
    ·rw[dG.mp h,rk];omega
   refine q ((B.set k (B[k]++[0])++[B[k]]).map λr=>r.map λ(n:Nat)=>(n:Int)) _ (by rw[cP,dv,sM]) (by rw[aS,eM,gZ];show _+1<=_;omega) (kC λr h=>by rw[aS];exact hl r h) λh=>?_
   have h5:=h.2.2.2.2.1
   have z1:=h5 _ (bI.mpr ⟨_,df _ (LU kB (B[k]++[0])),rfl⟩)
   have z2:=h5 _ (bI.mpr ⟨_,cI _ (dG.mpr rfl),rfl⟩)
   rw[<-z2,aS,aS,eM]at z1
   exact absurd z1 (by show B[k].length+1≠_;omega)
  refine hU _ ?_
  clear hU U
  refine aC λU hU=>?_
  walk_at"l3"
  refine⟨by decide,?_⟩
  split
  ·clear hU
   obtain⟨k,ek,lk⟩:∃k:Nat,c%(e:Int)=k/\k<e:=⟨(c%(e:Int)).toNat,by have:=fm c (show(e:Int)≠0 by omega);omega,by have:=fE c (show(0:Int)<e by omega);omega⟩
   obtain⟨a,ea,la⟩:∃a:Nat,c/8%(n:Int)=a/\a<n:=⟨(c/8%(n:Int)).toNat,by have:=fm (c/8) (show(n:Int)≠0 by omega);omega,by have:=fE (c/8) (show(0:Int)<n by omega);omega⟩
   refine aC λU hU=>?_
   walk_at"l3"
   refine⟨m,rfl,by omega,by omega,m,rfl,by omega,by omega,⟨by decide,by decide,by decide⟩,by decide,by decide,?_⟩
   refine hU _ ?_
   clear hU
   obtain⟨v,ev,vb⟩:∃v:Int,eQ [D.int (-1),D.int (af m:Nat),D.int ((af m:Nat)+c%10 ^ jD 20)] (c/64%3)=some (.int v)/\¬ (0<=v/\v<(af m:Nat)):=by
    have h1:=fm (c/64) (show(3:Int)≠0 by decide)
    have h2:=fE (c/64) (show(0:Int)<3 by decide)
    have h3:=fm c (show(10:Int) ^ jD 20≠0 by decide)
    generalize c/64%3=z at h1 h2
    generalize c%10 ^ jD 20=y at h3
    have:z=0\/z=1\/z=2:=by omega
    rcases this with rfl | rfl | rfl
    ·exact⟨-1,rfl,by omega⟩
    ·exact⟨_,rfl,by omega⟩
    ·exact⟨_,rfl,by omega⟩
   have kB:k<B.length:=by omega
   have rk:=(hB _ (de kB [])).1
   refine aC λU hU=>?_
   walk_at"l3"
   refine⟨jn (by decide) (by decide),by decide,_,ev,rfl,_,_,_,mE true kB,by omega,by rw[ek,gw,eC];omega,mE true kB,jn (by decide) (by decide),by omega,a,mE true kB,by rw[ea,pU (by omega) (by rw[eV];omega),gY],hU _ ?_⟩
   clear hU ev ek ea
   walk_at"l3"
   have eP:au true (List.take k B)++D.lst true ((aw (B.getD k [])).set a (D.int v))::au true (List.drop (k+1) B)=tabI true ((B.map λr=>r.map λ(n:Nat)=>(n:Int)).set k (((B.getD k []).map λ(n:Nat)=>(n:Int)).set a v)):=by
    have e1:∀(L:List Int),(aF L).set a (D.int v)=aF (L.set a v):=λL=>by unfold aF;rw[AO]
    unfold tabI
    rw[AO,<- tabI.eq_1 true,sM,show aw (B.getD k [])=aF ((B.getD k []).map λ(n:Nat)=>(n:Int)) from rfl,e1]
    conv=>rhs;rw[mE true kB]
    rw[List.set_append_right _ _ (by rw[gw,eC];omega),gw,eC,show k-min k B.length=0 by omega];rfl
   rw[eP]
   refine q _ _ (by rw[cP,Ah]) (by rw[gZ,aS];omega) (λr h=>?_) λh=>?_
   ·rcases qB h with h | h
    ·obtain⟨x,hx,rfl⟩:=bI.mp h
     rw[aS,(hB x hx).1];omega
    ·rw[h,gZ,aS,rk];omega
   ·exact absurd (h.2.2.2.2.2 _ (LU (by rw[aS];exact kB) _) v (LU (by rw[aS];omega) _)) vb
  refine hU _ ?_
  clear hU U
  walk_at"l3"
  refine⟨m,n,e,c,rfl,hm,n2,sN,by omega,λS lS hS hr=>?_⟩
  have hw:=vV hS λz=>by rw[z]at lS;simp at lS;omega
  exact q (S.map λr=>r.map λ(n:Nat)=>(n:Int)) _ (by rw[cP,dv,sM]) (by rw[aS];omega) (kC λr h=>by rw[aS,(hS r h).1];omega) λ_=>⟨S,rfl,by rw[hw];exact hS,by rw[hw];exact hr⟩
noncomputable abbrev UE(t:fF):aZ:=λds Q=>∃(m:Bool × Nat) (G:List (List Nat)) (k:Kd),ds=[ku t m G k]/\qg m G/\Q (.lst true (au true G))
theorem aD1(T:Txt K mg t):aM P w K mg base aT 2 t.Jj t.SV ["self"] (bo (UE t)):=by
 refine bQ T.Tx.F aC4 ?_ ?_
 ·intro ds Q h
  obtain⟨m,G,k,rfl,hc,q⟩:=h<;>rfl
 ·intro aG A outer s H E hr
  refine⟨_,(aH (aV (bB T.wH (JV T) hr (ah (gu (K:=K) (bv 0)) az)))),λds Q h=>?_⟩
  obtain⟨m,G,k,rfl,hc,q⟩:=h
  have hl:=hc.len
  walk_at"l3"
  exact TK T m G k ⟨_,by rw[cP,dv],by omega,by rw[fG,pX,lJ,iz],q⟩
theorem Ke{n:Nat}(h:n<=64):(qC (toString (n:Int))).length<=2/\(n:Int).natAbs.log2<1920:=by
 have:∀k,k<65->(qC (toString ((k:Nat):Int))).length<=2/\((k:Nat):Int).natAbs.log2<1920:=by decide +kernel
 exact this n (by omega)
noncomputable def mx(x:Nat):Str:=toString (x:Int)
noncomputable def lD(r:List Nat):Str:=Txt.join " " (r.map mx)
noncomputable def ctx(G:List (List Nat)):Str:=Txt.join "/" (G.map lD)
theorem Kf(sep:Str)(zs:List Str):(Txt.join sep zs).length<=(zs.map (·.length)).sum+zs.length*sep.length:=by
 have key:∀(r:List Str) (a:Array Nat),(r.foldl (λacc p=>acc++sep.cps++p.cps) a).size=a.size+((r.map (·.length)).sum+r.length*sep.length):=λr=>by
  induction r with
  | nil=>intro a;simp
  | cons y r ih =>
   intro a
   rw[sY,ih,cN,LV,ix,EH,ED,VZ,VZ]
   show a.size+sep.length+y.length+_=_
   omega
 show((zs.drop 1).foldl (λacc p=>acc++sep.cps++p.cps) (zs.headD AA).cps).size<=_
 rw[key]
 cases zs with
 | nil=>show 0+(0+0*sep.length)<=_;omega
 | cons y zs =>
  show y.length+((zs.map (·.length)).sum+zs.length*sep.length)<=_
  rw[cN,LV,ix,EH,ED]
  omega
theorem Kg{α:Type}(f:α->Nat)(b:Nat):∀l:List α,(∀x∈l,f x<=b)->(l.map f).sum<=l.length*b
 | [],_=>jX _
 | a::l,h=>by
  rw[cN,LV,ix,EH,ED]
  have:=Kg f b l λx hx=>h x (gB _ hx)
  have:=h a (jB ..)
  omega
theorem Kh{M:Nat}(hM:M<=64){r:List Nat}(hr:r.length<=12)(ha:AllLt M r):((r.map mx).map (·.length)).sum+(r.map mx).length*(qC " ").length<=36:=by
 have h1:=Kg (λx=>x.length) 2 (r.map mx) λx hx=>by
  obtain⟨a,h,rfl⟩:=bI.mp hx
  exact(Ke (n:=a) (by have:=ha a h;omega)).1
 rw[aS]at h1 ⊢
 rw[show(qC " ").length=1 from rfl]
 omega
theorem UG{M w:Nat}(hM:M<=64){G:List (List Nat)}(hG:G.length<=12)(hw:w<=12)(hR:RT M w G):((G.map lD).map (·.length)).sum+(G.map lD).length*(qC "/").length<=500:=by
 have h1:=Kg (λx=>x.length) 36 (G.map lD) λx hx=>by
  obtain⟨r,h,rfl⟩:=bI.mp hx
  exact eK (Kf ..) (Kh hM (by rw[(hR r h).1];exact hw) (hR r h).2)
 rw[aS]at h1 ⊢
 rw[show(qC "/").length=1 from rfl]
 omega
noncomputable abbrev UH(t:fF):aZ:=λds Q=>∃(m:Bool × Nat) (G:List (List Nat)) (b:Nat),ds=[ku t m G (.mF b)]/\m∈aJ/\RT (af m) (ak G) G/\G.length<=12/\ak G<=12/\Q (.str ("checks "++ctx G))
theorem az7(T:Txt K mg t):aM P w K mg base aT 1 t.Jk t.SX ["self"] (bo (UH t)):=by
 refine bQ T.Tz.F Rh ?_ ?_
 ·intro ds Q h
  obtain⟨m,G,b,rfl,hm,hR,hl,hw,q⟩:=h<;>rfl
 ·intro aG A outer s H E hr
  refine⟨_,(aB (CY (i:=1) Rh.nd rfl (ay rfl) [] ["row"] rfl (fU (gu (K:=K) (bv 0))) (λ_ _ _ _=>(eH (i:=0) (show(["row"]:List Str).Nodup by decide +kernel))) (λ_ _ _ _=>dS) (by exact λ_ _ _ _=>(Di (aa (dZ [] ["x"] rfl (fU (bv 0)) (λ_ _ _ _=>(eH (i:=0) (show(["x"]:List Str).Nodup by decide +kernel))) (λ_ _ _ _=>dS) (λ_ _ _ _=>(nC (OQ) (by rfl) T.TF Nl (ah (bv 0) az))) rfl)))) rfl)
   (aH (aV (aA cT (aa ue) (aa (Di (bv 1))))))),λds Q h=>?_⟩
  obtain⟨m,G,b,rfl,hm,hR,hl,hw,q⟩:=h
  have ql:=(cW hm).hi
  refine aC λU hU=>?_
  walk_at"l3"
  refine TK T m G (.mF b) ?_
  dsimp only
  refine⟨_,rfl,fv G (λr=>D.lst false (aw r)) (λr=>D.str (lD r)) (by rw[dv];rfl) (λa b h=>my a b h) (λr aU=>?_) (.inr λ_ _=>rfl) (by rw[sL];omega) ?_⟩
  ·obtain⟨rl,ra⟩:=hR r aU
   walk_at"l3"
   refine fv r (λ(x:Nat)=>D.int (x:Int)) (λ(x:Nat)=>D.str (mx x)) (vC _) nM (λx hx=>?_) (.inr λ_ _=>rfl) (by rw[sL];omega) ?_
   ·have:=Ke (n:=x) (by have:=ra x hx;omega)
    walk_at"l3"
    exact⟨this.2,rfl⟩
   ·exact⟨r.map mx,by rw[b8];rfl,eK (Kh ql (by omega) ra) (by decide),rfl⟩
  simp only[iU,iT]
  refine hU _ ?_
  clear hU U
  walk_at"l3"
  have cl:=UG ql hl hw hR
  refine⟨G.map lD,by rw[b8];rfl,by omega,?_,q⟩
  have:=Kf "/" (G.map lD)
  have e7:(qC "checks ").length=7:=rfl
  omega
noncomputable abbrev UI(t:fF):aZ:=λds Q=>∃(m:Bool × Nat) (G:List (List Nat)) (k:Kd),ds=[ku t m G k]/\Q (.lst true (aw (eA m G)))
theorem aD2(T:Txt K mg t):aM P w K mg base aT 1 t.Jl t.S1 ["self"] (bo (UI t)):=by
 refine bQ T.TB.F aC5 ?_ ?_
 ·intro ds Q h
  obtain⟨m,G,k,rfl,q⟩:=h<;>rfl
 ·intro aG A outer s H E hr
  refine⟨_,(aH (aV (nC (rJ) (by rfl) T.sH qT (ah (gu (K:=K) (bv 0)) az)))),λds Q h=>?_⟩
  obtain⟨m,G,k,rfl,q⟩:=h
  walk_at"l3"
  exact bT5 T m G k ⟨ki _,q⟩
theorem cp0(T:Txt K mg t)(hB:Bm mg base):aM P w K mg base aT 11 t.S2 t.S3 ["_law_script"] (vE [t.jT,t.jU] (bo (Oh ))):=by
 refine GU T.c35.F jy ?_ ?_
 ·intro ds Q h
  obtain⟨ns,rfl,hl,q⟩:=h<;>rfl
 ·intro aG A outer s H E hT hr
  refine⟨_,(aB (aX (i:=1) jy.nd rfl (ay rfl) (bB T.S6 (aG0 T) hr (ah (aa (bB T.mG (oy T) hr (ah (bv 0) (ah (aa ao) az)))) az)))
   (aB (aX (i:=2) jy.nd rfl (ay rfl) (Pj hT ((aE1 T hB).mono (by decide)) hr rfl T.DF.g T.DF.F.kp T.DF.b eE (ah (bv 1) az)))
   (aB (aX (i:=3) jy.nd rfl (ay rfl) (bB T.mG (oy T) hr (ah (bv 0) (ah (aa ao) az))))
   (aB (aX (i:=4) jy.nd rfl (ay rfl) (aA cT (aa ao) (aa (aA bY (aa (bB T.mG (oy T) hr (ah (bv 0) (ah (aa ao) az)))) (aa ao)))))
   (aB (aX (i:=5) jy.nd rfl (ay rfl) (aA cT (aa ao) (aa (aA bY (aa (bB T.mG (oy T) hr (ah (bv 0) (ah (aa ao) az)))) (aa ao)))))
   (aB (cM (bM (ff (cy hr)) (aa (aA bY (aa (aA jo (bv 3) (aa ao))) (aa ao))) (aa ao) (bE _)) (aB (aX (i:=4) jy.nd rfl (ay rfl) (aA cT (aa ao) (aa (aA bY (aa (bB T.mG (oy T) hr (ah (bv 0) (ah (aa ao) az)))) (aa ao)))))
    (aH (aX (i:=5) jy.nd rfl (ay rfl) (aA cT (aa ao) (aa (aA bY (aa (bB T.mG (oy T) hr (ah (bv 0) (ah (aa ao) az)))) (aa ao))))))) cL)
   (aB (aX (i:=6) jy.nd rfl (ay rfl) (bB T.mG (oy T) hr (ah (bv 0) (ah (aa ao) az))))
   (aB (cM (bM (ff (cy hr)) (aa (aA bY (bv 3) (aa ao))) (aa ao) (bE _)) (aH (aV (Pj hT ((aC2 T hB).mono (by decide)) hr rfl T.DI.g T.DI.F.kp T.DI.b eE (ah (bv 2) (ah (aa (bB T.Tw (aH2 T) hr (ah (bv 1) (ah (bv 4) (ah (bv 5) (ah (bv 6) (ah (aa (aA jo (bv 3) (aa ao))) az))))))) az))))) cL)
   (aB (cd8 (i:=7) jy.nd rfl (ay rfl) ((TU T).mono (by decide)) hr rfl T.sE.g T.sE.F.kp T.sE.b eE (di (cR (bv 1)) (di (bB T.wI (Aj T) hr (ah (bv 1) (ah (bv 5) (ah (bv 4) (ah (bv 6) (ah (aa (aA jo (bv 3) (aa ao))) az)))))) (di (bB T.mG (oy T) hr (ah (bv 0) (ah (aa ao) az))) du))))
   (aB (cM (bM (ff (cy hr)) (aa (aA bY (aa (aA jo (bv 3) (aa ao))) (aa ao))) (aa ao) (bE _)) (aH (uB fM (bM rD (aa (dU (fI) (by rfl) T.fA ft (ah (bv 7) az))) (aa (aA cT (aa ao) (aa (aA bY (aa (bB T.mG (oy T) hr (ah (bv 0) (ah (aa ao) az)))) (aa ao))))) (bE _))
     (aH (pq (i:=7) rfl (by first | exact ay rfl | exact bV (ay rfl)) (nC (rJ) (by rfl) T.sH qT (ah (bG (bv 7) (aa (aA jo (aa (dU (fI) (by rfl) T.fA ft (ah (bv 7) az))) (aa ao))) (λ_ _=>rfl)) az)))))) cL)
   (aB (CY (i:=8) jy.nd rfl (ay rfl) [] ["_law_row"] rfl (fU (bv 7)) (λ_ _ _ _=>(eH (i:=0) (show(["_law_row"]:List Str).Nodup by decide +kernel))) (λ_ _ _ _=>dS) (λ_ _ _ _=>(nC (rJ) (by rfl) T.sH qT (ah (bv 0) az))) rfl)
   (aB (aX (i:=9) jy.nd rfl (ay rfl) (cb4 hT T.DL ((az6 T hB).mono (by decide)) hr rfl T.DQ T.DH.b eE (ah (bv 2) (ah (bv 8) az))))
   (aB (cM (bM (iK (cy hr)) (bv 8) (bv 7) (bE _)) (aH (aV kR)) cL)
   (aB (cf5 (i:=8) rfl (by first | exact ay rfl | exact bV (ay rfl)) (aA jm (aa ao) (aa (dU (cy7 rfl) (by rfl) T.c55 Y8 (ah (aa ao) (ah (bG (bG (bv 7) (aa ao) (λ_ _=>rfl)) (aa ao) (λ_ _=>rfl)) az))))) (aa ao))
   (aB (pq (i:=8) rfl (by first | exact ay rfl | exact bV (ay rfl)) (aA iJ (aa (fc (di ao du))) (bv 4)))
   (aB (aX (i:=10) jy.nd rfl (ay rfl) (Di (aa (dZ [] ["_law_row"] rfl (fU (bv 7)) (λ_ _ _ _=>(eH (i:=0) (show(["_law_row"]:List Str).Nodup by decide +kernel))) (λ_ _ _ _=>dS) (by exact λ_ _ _ _=>(Di (aa (dZ [] ["_law_x"] rfl (fU (bv 0)) (λ_ _ _ _=>(eH (i:=0) (show(["_law_x"]:List Str).Nodup by decide +kernel))) (λ_ _ _ _=>dS) (λ_ _ _ _=>(nC (OQ) (by rfl) T.TF Nl (ah (bv 0) az))) rfl)))) rfl))))
   (aB (cM (PW.pt (ui (bM (iK (cy hr)) (aa (zx (P:=P) (w:=w) (K:=K) (mg:=mg) (base:=base) (n:=2) (bv 9) (hr.mono (by decide)))) (bv 7) (bE _)) (ui (bM (iK (cy hr)) (gu (K:=K) (bv 9)) (bv 4) (bE _)) (Bj (bM (iK (cy hr)) (aa (zx (P:=P) (w:=w) (K:=K) (mg:=mg) (base:=base) (n:=1) (bv 9) (hr.mono (by decide)))) (aa (aA cT (aa ue) (bv 10))) (bE _)))))) (aH (aV kR)) cL)
   (aB (aX (i:=11) jy.nd rfl (bV rfl) (bB T.DG (JW T) hr (ah (aa (bB T.sF (DX T) hr (ah (bv 2) (ah (aa (dZ [] ["_law_row"] rfl (fU (bv 7)) (λ_ _ _ _=>(eH (i:=0) (show(["_law_row"]:List Str).Nodup by decide +kernel))) (λ_ _ _ _=>dS) (λ_ _ _ _=>(nC (rJ) (by rfl) T.sH qT (ah (bv 0) az))) rfl)) az)))) az)))
   (aB (cM (PW.pt (ui (bM (iK (cy hr)) (aa (zx (P:=P) (w:=w) (K:=K) (mg:=mg) (base:=base) (n:=1) (bv 9) (hr.mono (by decide)))) (aa (dZ [("_law_bound",11)] ["_law_at"] rfl (nj rfl T.jV (ah (bv 4) az)) (λ_ _ _ _=>(eH (i:=1) (show(["_law_bound","_law_at"]:List Str).Nodup by decide +kernel))) (λ_ _ _ _=>(B7 (bM P2 (bv 1) (bv 0) (by with_unfolding_all rfl)))) (λ_ _ _ _=>(cR (bv 1))) rfl)) (bE _)) (Bj (bM (iK (cy hr)) (gu (K:=K) (bv 9)) (aa (aA jm (bv 4) (aa (dU (fI) (by rfl) T.fA ft (ah (bv 11) az))))) (bE _))))) (aH (aV kR)) cL)
   (aB (cM (bM (iK (cy hr)) (aa (zx (P:=P) (w:=w) (K:=K) (mg:=mg) (base:=base) (n:=2) (bv 9) (hr.mono (by decide)))) (aa (bB T.Tt (aK6 T) hr (ah (bv 2) (ah (aa (dZ [] ["_law_row"] rfl (fU (bv 7)) (λ_ _ _ _=>(eH (i:=0) (show(["_law_row"]:List Str).Nodup by decide +kernel))) (λ_ _ _ _=>dS) (λ_ _ _ _=>(nC (rJ) (by rfl) T.sH qT (ah (bv 0) az))) rfl)) az)))) (bE _)) (aH (aV kR)) cL)
   (aH (aV (BY (ff (cy hr)) (aa (zx (P:=P) (w:=w) (K:=K) (mg:=mg) (base:=base) (n:=1) (bv 9) (hr.mono (by decide)))) (aa (dU (fI) (by rfl) T.fA ft (ah (aa (bB T.zV (Uw T) hr (ah (bv 2) (ah (aa (dZ [] ["_law_row"] rfl (fU (bv 7)) (λ_ _ _ _=>(eH (i:=0) (show(["_law_row"]:List Str).Nodup by decide +kernel))) (λ_ _ _ _=>dS) (λ_ _ _ _=>(nC (rJ) (by rfl) T.sH qT (ah (bv 0) az))) rfl)) az)))) az))) (bE _)))))))))))))))))))))))),λds Q h=>?_⟩
  obtain⟨ns,rfl,hl,q⟩:=h
  refine aC λU hU=>?_
  walk_at"l3"
  refine⟨ns,0,rfl,by decide,_,rfl,rfl,hU _ ?_⟩
  clear hU U
  generalize UJ:pP (ns.getD (jD 0) 0)=m
  have hm:m∈aJ:=by rw[<-UJ];exact b01 _
  clear UJ
  have gg:=(cW hm).lo
  have ql:=(cW hm).hi
  have DW:=zy m hm
  refine aC λU hU=>?_
  walk_at"l3"
  refine⟨m,rfl,hm,hU _ ?_⟩
  clear hU U
  refine aC λU hU=>?_
  walk_at"l3"
  refine⟨ns,1,rfl,by decide,hU _ ?_⟩
  clear hU U
  generalize ns.getD (jD 1) 0=kd
  refine aC λU hU=>?_
  walk_at"l3"
  refine⟨ns,2,rfl,by decide,by decide,hU _ ?_⟩
  clear hU U
  refine aC λU hU=>?_
  walk_at"l3"
  refine⟨ns,3,rfl,by decide,by decide,hU _ ?_⟩
  clear hU U
  have nat:∀(k z N:Int),0<=k->0<N->∃n:Nat,k+z%N=n/\k<=(n:Int)/\(n:Int)<k+N:=λk z N k0 N0=>by
   have h1:=fm z (show N≠0 by omega)
   have h2:=fE z N0
   exact⟨(k+z%N).toNat,by omega,by omega,by omega⟩
  refine aC λU hU=>?_
  walk_at"l3"
  have fin:∀n e:Nat,2<=n->n<=12->1<=e->e<=5->U [some (D.fz (aF ns)),some (dW m),some (fD t.aN t.aR m),some (.int kd),some (.int n),some (.int e),none,none,none,none,none,none]:=by
   intro n e n2 sN e1 e5
   refine hU _ ?_
   clear hU U
   refine aC λU hU=>?_
   walk_at"l3"
   refine⟨ns,4,rfl,by decide,hU _ ?_⟩
   clear hU U
   generalize ns.getD (jD 4) 0=c
   refine aC λU hU=>?_
   walk_at"l3"
   refine⟨by decide,?_⟩
   split
   ·refine⟨jn (by decide) (by decide),m,n,e,c,kd/3,rfl,hm,n2,sN,e1,e5,λB d hd lB lr hb=>⟨m,B,by rw[hd],hm,lB,lr,hb,by rw[show(D.bl true).fr=true from rfl,iz],q⟩⟩
   refine hU _ ?_
   clear hU U
   refine aC λU hU=>?_
   walk_at"l3"
   refine⟨jn (by decide) (by decide),m,n,e,c,kd/3,rfl,hm,by omega,by omega,λB1 UK hB1=>⟨ns,5,rfl,by decide,m,n,B1,_,rfl,hm,n2,by omega,(λz=>by rw[z]at UK;simp at UK;omega),by omega,hB1,λB lB hB hp=>hU _ ?_⟩⟩
   clear hU U
   have B0:B≠[]:=λz=>by rw[z]at lB;simp at lB;omega
   have wB:=vV hB B0
   refine aC λU hU=>?_
   walk_at"l3"
   have fin:∀S:List (List Nat),S≠[]->S.length<=12->RT (af m) n S->(∀r∈S,r∈B)->U [some (D.fz (aF ns)),some (dW m),some (fD t.aN t.aR m),some (D.int kd),some (D.int n),some (D.int e),some (D.int c),some (.lst true (au true S)),none,none,none,none]:=by
    intro S S0 lS hS sS
    have wS:=vV hS S0
    have hR:RT (af m) (ak S) S:=by rw[wS];exact hS
    have pS:=ch6 hm (by rw[wB];exact hB) hR (by rw[wS,wB]) sS hp
    refine hU _ ?_
    clear hU U
    refine aC λU hU=>?_
    walk_at"l3"
    refine fv S (λr=>D.lst false (aw r)) (λr=>D.lst true (aw r)) (by rw[dv];rfl) (λa b h=>my a b h) (λr aU=>?_) (.inr λr _=>kj _) (by rw[sL];omega) ?_
    ·walk_at"l3"
    refine hU _ ?_
    clear hU U
    rw[show(S.map λr=>D.lst true (aw r))=au true S from rfl]
    have l0:=V0.mpr S0
    obtain⟨Fb,eF⟩:=cn5 hm hR (by omega) pS
    have hc:qg m S:=⟨hm,hR,by omega,by omega,pS⟩
    refine aC λU hU=>?_
    walk_at"l3"
    refine⟨_,_,_,_,⟨rfl,rfl⟩,PN ..,⟨m,S,Fb,by rw[cN,jY,cP,dv],hc,by omega,lS,by omega,by omega,eF,rfl,rfl⟩,?_⟩
    rw[dy,bW1]
    show U [some (D.fz (aF ns)),some (dW m),some (fD t.aN t.aR m),some (D.int kd),some (D.int n),some (D.int e),some (D.int c),some (D.lst true (au true S)),some (D.lst true (au true S)),some (ku t m S (.mF Fb.length)),none,none]
    refine hU _ ?_
    clear hU U
    refine aC λU hU=>?_
    walk_at"l3"
    refine⟨⟨pZ 4 ..,pZ 4 ..⟩,?_⟩
    rw[CQ,decide_eq_true rfl,if_neg (by decide)]
    refine hU _ ?_
    clear hU U
    have h0:=eN l0
    have w0:=(hS _ h0).1
    refine aC λU hU=>?_
    walk_at"l3"
    refine⟨.lst true (aw S[0]),nW true l0,.int ((S[0].getD 0 0:Nat):Int),by rw[nV (by omega) (by omega)];rfl,?_⟩
    dsimp only
    refine⟨_,_,_,mE true l0,by rw[gw,eC];rfl,0,mE true l0,by rw[C8 l0,pU (by omega) (by rw[eV];show 0<_;omega)];rfl,?_⟩
    have lh:(au true (S.take 0)++D.lst true ((aw (S.getD 0 [])).set 0 (D.int (1-if((S[0].getD 0 0:Nat):Int)<1 then((S[0].getD 0 0:Nat):Int)else 1)))::au true (S.drop (0+1))).length<=1000:=by
     rw[eM,ix,gw,gw,eC,iS];omega
    generalize (au true (S.take 0)++D.lst true ((aw (S.getD 0 [])).set 0 (D.int (1-if((S[0].getD 0 0:Nat):Int)<1 then((S[0].getD 0 0:Nat):Int)else 1)))::au true (S.drop (0+1)))=hd at lh ⊢
    refine hU _ ?_
    clear hU U
    refine aC λU hU=>?_
    walk_at"l3"
    refine⟨⟨_,rfl⟩,by decide,⟨by omega,by omega,by omega⟩,by omega,?_⟩
    generalize D.lst true (hd++[D.lst true (aF (bg (jD n) 0))])=hd
    refine hU _ ?_
    clear hU U lh
    refine aC λU hU=>?_
    walk_at"l3"
    refine fv S (λr=>D.lst false (aw r)) (λr=>D.str (lD r)) (by rw[dv];rfl) (λa b h=>my a b h) (λr aU=>?_) (.inr λ_ _=>rfl) (by rw[sL];omega) ?_
    ·obtain⟨rl,ra⟩:=hS r aU
     walk_at"l3"
     refine fv r (λ(x:Nat)=>D.int (x:Int)) (λ(x:Nat)=>D.str (mx x)) (vC _) nM (λx hx=>?_) (.inr λ_ _=>rfl) (by rw[sL];omega) ?_
     ·have:=Ke (n:=x) (by have:=ra x hx;omega)
      walk_at"l3"
      exact⟨this.2,rfl⟩
     ·exact⟨r.map mx,by rw[b8];rfl,eK (Kh ql (by omega) ra) (by decide),rfl⟩
    have cl:=UG ql lS sN hS
    have jl:=Kf "/" (S.map lD)
    refine⟨S.map lD,by rw[b8];rfl,by omega,?_⟩
    rw[show Txt.join "/" (S.map lD)=ctx S from rfl]at jl ⊢
    refine hU _ ?_
    clear hU U
    refine aC λU hU=>?_
    walk_at"l3"
    refine⟨_,_,_,UE t,rfl,⟨T.lC,_,_,_,T.Jy,aD1 T,T.Tx.b⟩,by decide,m,S,.mF Fb.length,rfl,hc,⟨pZ 4 ..,pZ 4 ..⟩,?_⟩
    rw[CQ,decide_eq_true rfl,if_neg (by decide)]
    refine bN6 T m S (.mF Fb.length) ⟨mm 5 (ak S:Nat),?_⟩
    rw[kh,wS,decide_eq_true rfl,if_neg (by decide)]
    refine⟨_,_,_,UH t,rfl,⟨T.lC,_,_,_,T.c45,az7 T,T.Tz.b⟩,by decide,m,S,Fb.length,rfl,hm,hR,lS,by omega,?_⟩
    have e7:(qC "checks ").length=7:=rfl
    refine⟨by omega,rfl,?_⟩
    rw[show ∀x:Str,bF (D.str x) (D.str x)=true from λx=>decide_eq_true rfl,if_neg (by decide)]
    refine hU _ ?_
    clear hU U e7 jl cl
    refine aC λU hU=>?_
    walk_at"l3"
    obtain⟨⟨Hd,I⟩,iR,il,_⟩:=km hm hR
    have nz:=QR hm hR
    have cp:∀{δ:Dl} {Q:D->Dl->Prop},Q (.lst true (au true S)) δ->rq false (au true S) [] (0+1) (gN 0) kT (nB ph (oY (m8 0) oX)) δ Q:=λ{δ Q} hq=>by
     refine fv S (λr=>D.lst false (aw r)) (λr=>D.lst true (aw r)) (by rw[dv];rfl) (λa b h=>my a b h) (λr aU=>?_) (.inr λr _=>kj _) (by rw[sL];omega) hq
     walk_at"l3"
    have sR:∀X:List (List Nat),(D.lst true (au true X)).sh=.lst false (au false X):=λX=>by rw[cP,dv]
    have fR:∀X:List (List Nat),(D.lst true (au true X)).fr=true:=λX=>by rw[fG,pX];rfl
    refine cp ⟨m,S,by rw[sR],hm,by omega,hR,by omega,by rw[fR,iz],bO m S,by rw[sR],by omega,λr h=>⟨by rw[(iR r h).1];omega,nz r h⟩,by rw[kj,iz],?_⟩
    simp only[iU,iT]
    refine hU _ ?_
    clear hU U
    refine aC λU hU=>?_
    walk_at"l3"
    have fl:=I.C7 hm iR
    rw[wS]at fl iR
    have lm:(eA m S).length+(bO m S).length=n:=by unfold eA;rw[wS];exact fl
    refine⟨_,_,_,UI t,rfl,⟨T.lC,_,_,_,T.Jz,aD2 T,T.TB.b⟩,by decide,m,S,.mF Fb.length,rfl,⟨by omega,by omega⟩,CS (bh n) (λ(i:Nat)=>D.int (i:Int)) (λ(i:Nat)=>D.int (i:Int)) (λj=>!((bO m S).map aQ).contains j) (CN _ rfl) nM (λj hj=>?_) (.inr λ_ _ _=>rfl) (by rw[fk,sL];omega) ?_⟩
    ·walk_at"l3"
     exact⟨_,rfl,by rw[P8],λ_=>trivial⟩
    have em:(List.filter (λj=>!((bO m S).map aQ).contains j) (bh n)).map (λ(i:Nat)=>D.int (i:Int))=aw (eA m S):=by
     rw[fJ];unfold eA cu;rw[wS]
    rw[em]
    refine⟨⟨zB 5 true _,zB 5 true _⟩,?_⟩
    rw[(zC true true _ _).trans (decide_eq_true rfl),if_neg (by decide)]
    dsimp only[tE,tD]
    refine ch3 T m S (.mF Fb.length) ?_
    rw[eV,aS]
    refine⟨mm 5 ((eA m S).length:Nat),?_⟩
    rw[kh,decide_eq_true (by omega),if_neg (by decide)]
    refine hU _ ?_
    clear hU U em
    refine aC λU hU=>?_
    walk_at"l3"
    rw[<-wS]at iR
    refine⟨_,_,_,UB t,rfl,⟨T.lC,_,_,_,T.JA,aH0 T,T.Ts.b⟩,by decide,m,S,.mF Fb.length,rfl,hc,cp ⟨m,S,by rw[sR],hm,by omega,hR,by omega,nz,by rw[fR,iz],⟨pZ 4 ..,pZ 4 ..⟩,?_⟩⟩
    rw[CQ,decide_eq_true (show wb m S=mC m (bO m S) (ak S) from rfl),if_neg (by decide)]
    refine hU _ ?_
    clear hU U
    walk_at"l3"
    refine⟨_,_,_,UC t,rfl,⟨T.lC,_,_,_,T.c44,ar8 T,T.Tu.b⟩,by decide,m,S,Fb.length,rfl,cp ⟨m,S,by rw[sR],hm,by omega,hR,by omega,by omega,?_⟩⟩
    rw[eF]
    refine⟨by show(_||(D.lst true (aw Fb)).fr)=true;rw[kj,iz],mm 5 (Fb.length:Nat),?_⟩
    rw[kh,eV,decide_eq_true rfl]
    exact q
   refine⟨jn (by decide) (by decide),by decide,?_⟩
   split
   ·clear hU
    obtain⟨z,ez,z7,z12⟩:=nat 7 (ns.getD (jD 5) 0) 6 (by decide) (by decide)
    refine⟨λk δ=>∃S:List (List Nat),δ=[some (D.fz (aF ns)),some (dW m),some (fD t.aN t.aR m),some (D.int kd),some (D.int n),some (D.int e),some (D.int c),some (.lst true (au true S)),none,none,none,none]/\S≠[]/\S.length<=12/\RT (af m) n S/\(∀r∈S,r∈B)/\k=12-S.length,⟨_,B,rfl,B0,by omega,hB,(λr h=>h),rfl⟩,?_⟩
    rintro k δ ⟨S,rfl,S0,lS,hS,sS,rfl⟩
    have l0:=V0.mpr S0
    walk_at"l3"
    refine⟨ns,5,rfl,by decide,by decide,?_⟩
    rw[ez]
    split
    ·have lk:S.length/2<S.length:=by omega
     have rk:=eN lk
     refine⟨⟨_,rfl⟩,jn (by decide) (by decide),.lst true (aw S[S.length/2]),nW true lk,ki _,by omega,_,?_,S++[S[S.length/2]],pY true S [S[S.length/2]],by simp,?_,hS.app λr h=>?_,λr h=>?_,rfl⟩
     ·rw[eM];show 12-(_+1)<_;omega
     ·rw[eM];show _+1<=_;omega
     ·rw[dG.mp h];exact hS _ rk
     ·rcases bA.mp h with h | h
      ·exact sS r h
      ·rw[dG.mp h];exact sS _ rk
    ·exact fin S S0 lS hS sS
   ·exact fin B B0 (by omega) hB λr h=>h
  refine⟨jn (by decide) (by decide),by decide,?_⟩
  split
  ·clear hU
   refine aC λU hU=>?_
   walk_at"l3"
   refine⟨ns,2,rfl,by decide,by decide,hU _ ?_⟩
   clear hU
   walk_at"l3"
   refine⟨ns,3,rfl,by decide,by decide,?_⟩
   obtain⟨n,en,h1,h2⟩:=nat 7 (ns.getD (jD 2) 0) 6 (by decide) (by decide)
   obtain⟨e,ee,h3,h4⟩:=nat 1 (ns.getD (jD 3) 0) 2 (by decide) (by decide)
   rw[en,ee]
   exact fin n e (by omega) (by omega) (by omega) (by omega)
  ·obtain⟨n,en,h1,h2⟩:=nat 2 (ns.getD (jD 2) 0) 5 (by decide) (by decide)
   obtain⟨e,ee,h3,h4⟩:=nat 1 (ns.getD (jD 3) 0) 5 (by decide) (by decide)
   rw[en,ee]
   exact fin n e (by omega) (by omega) (by omega) (by omega)
end
set_option maxHeartbeats 0 in
theorem all_mk{l:PySem.W.OpenLaw}{w:World}{K:Frag}{h:Heap}{mg:Str->Option Value}{fa:Addr}{ts:List Addr}(X:K.In h)(G:h.Ns mainGlobals mg)(hfa:mg "law"=some (.ref fa))
  {od7 an7:Option Addr} {sl7:Array (Option Value)} {oc7 kV7 dc7 pm7 ct7:Value} {f7:Addr}
  {An jT:Addr} {ax9:Option Addr} {ay0:Array (Option Value)} {UL:Array Value} {ay1:Value}
  {dk0 dk1:Option Addr} {dk2:Array (Option Value)} {dk3 dk4 dk5 dk6 dk7:Value} {Ao:Addr}
  {Ap jU:Addr} {aA9:Option Addr} {aB0:Array (Option Value)} {UM:Array Value} {aB1:Value}
  {dl1 UN:Option Addr} {dl2:Array (Option Value)} {dl3 UO UP UQ Ki UR:Value} {Kj:Addr}
  {f0 f1 f2 f3 f4 f5 f6 f8 f9 Kk Kl nq Km Kn Ko Kp Kq Kr Ks D1 D2 D3 uI Kt wV Ku Kv Kw Kx D4 D6 Ky Aq wW Kz KA KC KD D7 D8 KG KH D9 KI KJ KL Ar KN Ea KO KP As Eb Ec Ee Au:Addr} {fd0 fd1 fd2 fd3 fd4 fd5 fd6 fd8 fd9 dm3 dm4 dm5 dm6 dm7 dm8 dm9 dn0 dn1 dn2 dn3 dn4 dn5 dn6 dn7 dn8 dn9 do0 do1 do2 do3 do4 do5 do6 do7 do8 do9 dp0 dp1 dp2 dp3 dp4 dp5 dp6 dp7 dp8 dp9 dq0 dq1 dq2 dq3 dq4 dq5 dq6 dq7 dq8 dq9:FuncData}
  {aN eI bJ kq kr jz dw jA aR:Addr}
  (JI:nsIn K mainGlobals "BitField"=some (some (.ref aN)))
  (JJ:nsIn K mainGlobals "ByNought"=some (some (.ref eI)))
  (DQ:nsIn K mainGlobals "CheckCode"=some (some (.ref bJ)))
  (JK:nsIn K mainGlobals "Code"=some (some (.ref kq)))
  (DR:nsIn K mainGlobals "Field"=some (some (.ref kr)))
  (JL:nsIn K mainGlobals "MendError"=some (some (.ref jz)))
  (DS:nsIn K mainGlobals "NoCode"=some (some (.ref dw)))
  (JM:nsIn K mainGlobals "NoSign"=some (some (.ref jA)))
  (JN:nsIn K mainGlobals "PrimeField"=some (some (.ref aR)))
  (a0:nsIn K mainGlobals "_law_told"=some (some (.ref f0)))
  (a1:nsIn K mainGlobals "powers_of"=some (some (.ref f1)))
  (a2:nsIn K mainGlobals "step_powers"=some (some (.ref f2)))
  (a3:nsIn K mainGlobals "logs_of"=some (some (.ref f3)))
  (a4:findIn K (.ref kr) "step_power"=some (some (.ref f4)))
  (US:isFn K (.ref f4)=true)
  (a5:findIn K (.ref kr) "__init__"=some (some (.ref f5)))
  (mf5:isFn K (.ref f5)=true)
  (a6:nsIn K mainGlobals "makes_prime_field"=some (some (.ref f6)))
  (a7:findIn K (.ref aR) "__init__"=some (some (.ref f7)))
  (mf7:isFn K (.ref f7)=true)
  (a8:nsIn K mainGlobals "product_rows"=some (some (.ref f8)))
  (a9:nsIn K mainGlobals "bits_divided"=some (some (.ref f9)))
  (a10:nsIn K mainGlobals "stands_alone"=some (some (.ref Kk)))
  (a11:nsIn K mainGlobals "makes_bit_field"=some (some (.ref Kl)))
  (a12:nsIn K mainGlobals "bits_times"=some (some (.ref nq)))
  (a13:findIn K (.ref aN) "__init__"=some (some (.ref Ao)))
  (dr5:isFn K (.ref Ao)=true)
  (a14:nsIn K mainGlobals "_law_field"=some (some (.ref Km)))
  (a15:nsIn K mainGlobals "_law_cell"=some (some (.ref Kn)))
  (a16:nsIn K mainGlobals "_law_many"=some (some (.ref Ko)))
  (a17:nsIn K mainGlobals "_law_times"=some (some (.ref Kp)))
  (a18:nsIn K mainGlobals "_law_dependent"=some (some (.ref Kq)))
  (a19:nsIn K mainGlobals "width_of"=some (some (.ref Kr)))
  (a20:nsIn K mainGlobals "first_with"=some (some (.ref Ks)))
  (a21:findIn K (.ref aN) "scaled"=some (some (.ref D1)))
  (ds4:isFn K (.ref D1)=true)
  (a22:findIn K (.ref aR) "scaled"=some (some (.ref D2)))
  (ds6:isFn K (.ref D2)=true)
  (a23:findIn K (.ref aN) "lessened"=some (some (.ref D3)))
  (ds8:isFn K (.ref D3)=true)
  (a24:findIn K (.ref aR) "lessened"=some (some (.ref uI)))
  (dt0:isFn K (.ref uI)=true)
  (a25:nsIn K mainGlobals "cleared"=some (some (.ref Kt)))
  (a26:findIn K (.ref kr) "over"=some (some (.ref wV)))
  (UT:isFn K (.ref wV)=true)
  (a27:nsIn K mainGlobals "reduced"=some (some (.ref Ku)))
  (a28:nsIn K mainGlobals "copied"=some (some (.ref Kv)))
  (a29:nsIn K mainGlobals "leads"=some (some (.ref Kw)))
  (a30:nsIn K mainGlobals "free_places"=some (some (.ref Kx)))
  (a31:findIn K (.ref aN) "minus"=some (some (.ref D4)))
  (dt7:isFn K (.ref D4)=true)
  (a32:findIn K (.ref aR) "minus"=some (some (.ref D6)))
  (dt9:isFn K (.ref D6)=true)
  (a33:nsIn K mainGlobals "kernel_of_reduced"=some (some (.ref Ky)))
  (a34:findIn K (.ref kq) "__init__"=some (some (.ref Aq)))
  (dM0:isFn K (.ref Aq)=true)
  (a35:findIn K (.ref kr) "holds"=some (some (.ref wW)))
  (UU:isFn K (.ref wW)=true)
  (a36:nsIn K mainGlobals "is_small_table"=some (some (.ref Kz)))
  (a37:nsIn K mainGlobals "rank"=some (some (.ref KA)))
  (a38:nsIn K mainGlobals "turned"=some (some (.ref KC)))
  (a39:nsIn K mainGlobals "is_nought"=some (some (.ref KD)))
  (a40:findIn K (.ref aN) "times"=some (some (.ref D7)))
  (du6:isFn K (.ref D7)=true)
  (a41:findIn K (.ref aR) "times"=some (some (.ref D8)))
  (du8:isFn K (.ref D8)=true)
  (a42:nsIn K mainGlobals "past"=some (some (.ref KG)))
  (a43:nsIn K mainGlobals "first_bound"=some (some (.ref KH)))
  (a44:findIn K (.ref bJ) "__init__"=some (some (.ref D9)))
  (dv2:isFn K (.ref D9)=true)
  (a45:nsIn K mainGlobals "_law_refused"=some (some (.ref KI)))
  (a46:nsIn K mainGlobals "_law_mixed"=some (some (.ref KJ)))
  (a47:nsIn K mainGlobals "_law_free"=some (some (.ref KL)))
  (a48:findIn K (.ref kq) "rows"=some (some (.ref Ar)))
  (dv6:isFn K (.ref Ar)=true)
  (a49:nsIn K mainGlobals "kernel"=some (some (.ref KN)))
  (a50:findIn K (.ref bJ) "distance"=some (some (.ref Ea)))
  (dv9:isFn K (.ref Ea)=true)
  (a51:nsIn K mainGlobals "_law_independent"=some (some (.ref KO)))
  (a52:nsIn K mainGlobals "_law_none"=some (some (.ref KP)))
  (a53:findIn K (.ref kq) "checks"=some (some (.ref As)))
  (dw2:isFn K (.ref As)=true)
  (a54:findIn K (.ref aN) "told"=some (some (.ref Eb)))
  (dw4:isFn K (.ref Eb)=true)
  (a55:findIn K (.ref bJ) "told"=some (some (.ref Ec)))
  (dw6:isFn K (.ref Ec)=true)
  (a56:findIn K (.ref aR) "told"=some (some (.ref Ee)))
  (dw8:isFn K (.ref Ee)=true)
  (a57:findIn K (.ref kq) "places"=some (some (.ref Au)))
  (dw9:isFn K (.ref Au)=true)
  (UW:nsIn K mainGlobals "law"=some (some (.ref Kj)))
  (aI3:plainGet K aN AA=true)
  (aI4:hasDictIn K aN=true)
  (aI5:plainOver K aN=true)
  (aI6:findIn K (.ref aN) "__setattr__"=some (some (.builtin "object.__setattr__")))
  (Jr:makesIn K aN=true)
  (aI7:keepIn K (.ref aN)=true)
  (Js:findIn K (.ref aN) "bits"=some none)
  (wJ:findIn K (.ref aN) "logs"=some none)
  (zW:findIn K (.ref aN) "many"=some none)
  (zX:findIn K (.ref aN) "powers"=some none)
  (wK:findIn K (.ref aN) "products"=some none)
  (Jt:findIn K (.ref aN) "step"=some none)
  (Ju:findIn K (.ref aN) "wide"=some none)
  (Jv:findIn K (.ref aN) "holds"=some (some (.ref wW)))
  (Jw:findIn K (.ref aN) "over"=some (some (.ref wV)))
  (DK:findIn K (.ref aN) "step_power"=some (some (.ref f4)))
  (dx5:plainGet K bJ AA=true)
  (dx6:hasDictIn K bJ=true)
  (dx7:plainOver K bJ=true)
  (dx8:findIn K (.ref bJ) "__setattr__"=some (some (.builtin "object.__setattr__")))
  (DL:makesIn K bJ=true)
  (dx9:keepIn K (.ref bJ)=true)
  (DM:findIn K (.ref bJ) "bound"=some none)
  (wL:findIn K (.ref bJ) "check_rows"=some none)
  (Jx:findIn K (.ref bJ) "field"=some none)
  (wM:findIn K (.ref bJ) "length"=some none)
  (wN:findIn K (.ref bJ) "message_places"=some none)
  (wO:findIn K (.ref bJ) "size"=some none)
  (wQ:findIn K (.ref bJ) "word_rows"=some none)
  (Jy:findIn K (.ref bJ) "checks"=some (some (.ref As)))
  (Jz:findIn K (.ref bJ) "places"=some (some (.ref Au)))
  (JA:findIn K (.ref bJ) "rows"=some (some (.ref Ar)))
  (aE7:plainGet K aR AA=true)
  (aE8:hasDictIn K aR=true)
  (aE9:plainOver K aR=true)
  (aF0:findIn K (.ref aR) "__setattr__"=some (some (.builtin "object.__setattr__")))
  (JB:makesIn K aR=true)
  (aF1:keepIn K (.ref aR)=true)
  (zY:findIn K (.ref aR) "logs"=some none)
  (zZ:findIn K (.ref aR) "many"=some none)
  (DN:findIn K (.ref aR) "powers"=some none)
  (sG:findIn K (.ref aR) "prime"=some none)
  (JC:findIn K (.ref aR) "step"=some none)
  (JE:findIn K (.ref aR) "wide"=some none)
  (JF:findIn K (.ref aR) "holds"=some (some (.ref wW)))
  (JG:findIn K (.ref aR) "over"=some (some (.ref wV)))
  (DO:findIn K (.ref aR) "step_power"=some (some (.ref f4)))
  (dy5:specialIn K (.ref kq) "__getattribute__"=some (some (.builtin "type.__getattribute__")))
  (dy6:PySem.W.readsIn K kq (.type "type")=true)
  (dy7:PySem.W.findCls K (.ref kq) (.type "type") "__init__"=some (.val (.ref Aq)))
  (aF2:specialIn K (.ref kr) "__getattribute__"=some (some (.builtin "type.__getattribute__")))
  (aF3:PySem.W.readsIn K kr (.type "type")=true)
  (aF4:PySem.W.findCls K (.ref kr) (.type "type") "__init__"=some (.val (.ref f5)))
  (dz1:nsIn K mainGlobals "ValueError"=some none)
  (dz2:nsIn K mainGlobals "all"=some none)
  (dz3:nsIn K mainGlobals "any"=some none)
  (dz4:nsIn K mainGlobals "bool"=some none)
  (dz5:nsIn K mainGlobals "enumerate"=some none)
  (dz6:nsIn K mainGlobals "int"=some none)
  (dz7:nsIn K mainGlobals "isinstance"=some none)
  (dz8:nsIn K mainGlobals "len"=some none)
  (dz9:nsIn K mainGlobals "list"=some none)
  (dA0:nsIn K mainGlobals "min"=some none)
  (dA1:nsIn K mainGlobals "range"=some none)
  (dA2:nsIn K mainGlobals "str"=some none)
  (dA3:nsIn K mainGlobals "zip"=some none)
  (aL7:typeIn K (.ref eI)=some (.type "type"))
  (KQ:typeIn K (.ref jz)=some (.type "type"))
  (UX:typeIn K (.ref dw)=some (.type "type"))
  (KR:typeIn K (.ref jA)=some (.type "type"))
  (UY:subIn K (.ref dw) (.type "BaseException")=some true)
  (aH3:findIn K (.ref eI) "__getattribute__"=some (some (.builtin "BaseException.__getattribute__")))
  (aH4:findIn K (.ref eI) "__getattr__"=some none)
  (aH5:findIn K (.ref eI) "__class__"=some (some (.builtin "object.__class__")))
  (aH6:specialIn K (.builtin "object.__class__") "__get__"=some (some (.builtin "getset_descriptor.__get__")))
  (aH7:PySem.W.takesIn K (.builtin "object.__class__")=some true)
  (aH8:mroIn K eI (.type "object")=some true)
  (aH9:mroIn K eI (.type "BaseException")=some true)
  (as1:subIn K (.ref eI) (.ref jz)=some true)
  (ay2:subIn K (.ref eI) (.ref jA)=some false)
  (ay3:subIn K (.ref eI) (.ref dw)=some false)
  (aI8:subIn K (.ref eI) (.type "ValueError")=some true)
  (dB5:findIn K (.ref dw) "__getattribute__"=some (some (.builtin "BaseException.__getattribute__")))
  (dB6:findIn K (.ref dw) "__getattr__"=some none)
  (dB7:findIn K (.ref dw) "__class__"=some (some (.builtin "object.__class__")))
  (dB8:specialIn K (.builtin "object.__class__") "__get__"=some (some (.builtin "getset_descriptor.__get__")))
  (dB9:PySem.W.takesIn K (.builtin "object.__class__")=some true)
  (dC0:mroIn K dw (.type "object")=some true)
  (dC1:mroIn K dw (.type "BaseException")=some true)
  (av3:subIn K (.ref dw) (.ref jz)=some true)
  (dC3:subIn K (.ref dw) (.ref jA)=some false)
  (dC4:subIn K (.ref dw) (.ref dw)=some true)
  (dC5:subIn K (.ref dw) (.type "ValueError")=some true)
  (aI0:subIn K (.type "NoneType") (.ref jz)=some false)
  (dC7:subIn K (.type "NoneType") (.ref jA)=some false)
  (F0:aY K "_law_told" "_law_told" HA f0 fd0)
  (F1:aY K "powers_of" "powers_of" HC f1 fd1)
  (F2:aY K "step_powers" "step_powers" HD f2 fd2)
  (F3:aY K "logs_of" "logs_of" HE f3 fd3)
  (F4:aY K "step_power" "Field.step_power" HG f4 fd4)
  (F5:aY K "__init__" "Field.__init__" HH f5 fd5)
  (F6:aY K "makes_prime_field" "makes_prime_field" HI f6 fd6)
  (F8:aY K "product_rows" "product_rows" HJ f8 fd8)
  (F9:aY K "bits_divided" "bits_divided" HK f9 fd9)
  (UZ:aY K "stands_alone" "stands_alone" HL Kk dm3)
  (U0:aY K "makes_bit_field" "makes_bit_field" HN Kl dm4)
  (U1:aY K "bits_times" "bits_times" HP nq dm5)
  (U2:aY K "_law_field" "_law_field" HQ Km dm6)
  (U3:aY K "_law_cell" "_law_cell" HR Kn dm7)
  (U4:aY K "_law_many" "_law_many" HS Ko dm8)
  (U5:aY K "_law_times" "_law_times" HU Kp dm9)
  (U6:aY K "_law_dependent" "_law_dependent" HV Kq dn0)
  (U7:aY K "width_of" "width_of" HW Kr dn1)
  (U8:aY K "first_with" "first_with" HX Ks dn2)
  (KS:aY K "scaled" "BitField.scaled" HY D1 dn3)
  (KU:aY K "scaled" "PrimeField.scaled" HZ D2 dn4)
  (KW:aY K "lessened" "BitField.lessened" Ia D3 dn5)
  (KY:aY K "lessened" "PrimeField.lessened" Ib uI dn6)
  (U9:aY K "cleared" "cleared" Ic Kt dn7)
  (Ef:aY K "over" "Field.over" Ie wV dn8)
  (Va:aY K "reduced" "reduced" Ig Ku dn9)
  (Vb:aY K "copied" "copied" Ih Kv do0)
  (Vc:aY K "leads" "leads" Ii Kw do1)
  (Vd:aY K "free_places" "free_places" Ij Kx do2)
  (KZ:aY K "minus" "BitField.minus" Ik D4 do3)
  (K0:aY K "minus" "PrimeField.minus" Il D6 do4)
  (Ve:aY K "kernel_of_reduced" "kernel_of_reduced" Im Ky do5)
  (K1:aY K "__init__" "Code.__init__" Io Aq do6)
  (Eg:aY K "holds" "Field.holds" Ip wW do7)
  (Vf:aY K "is_small_table" "is_small_table" Iq Kz do8)
  (Vg:aY K "rank" "rank" Ir KA do9)
  (Vh:aY K "turned" "turned" Iu KC dp0)
  (Vi:aY K "is_nought" "is_nought" Iw KD dp1)
  (K2:aY K "times" "BitField.times" Iy D7 dp2)
  (K3:aY K "times" "PrimeField.times" Iz D8 dp3)
  (Vj:aY K "past" "past" IA KG dp4)
  (Vk:aY K "first_bound" "first_bound" IB KH dp5)
  (Vl:aY K "__init__" "CheckCode.__init__" IC D9 dp6)
  (Vm:aY K "_law_refused" "_law_refused" ID KI dp7)
  (Vn:aY K "_law_mixed" "_law_mixed" IE KJ dp8)
  (Vo:aY K "_law_free" "_law_free" IF KL dp9)
  (K4:aY K "rows" "Code.rows" IG Ar dq0)
  (Vp:aY K "kernel" "kernel" IH KN dq1)
  (K5:aY K "distance" "CheckCode.distance" II Ea dq2)
  (Vq:aY K "_law_independent" "_law_independent" IJ KO dq3)
  (Vr:aY K "_law_none" "_law_none" IK KP dq4)
  (K6:aY K "checks" "Code.checks" IL As dq5)
  (K7:aY K "told" "BitField.told" Rc Eb dq6)
  (K8:aY K "told" "CheckCode.told" IM Ec dq7)
  (K9:aY K "told" "PrimeField.told" Ri Ee dq8)
  (La:aY K "places" "Code.places" IQ Au dq9)
  (l7:K.lookup f7=some ⟨oc7,od7,.func (fnOf "__init__" "PrimeField.__init__" (l6 oq) (hW oq) (aP oq) .none kV7 dc7 pm7 an7 (.ref An) ct7),sl7⟩)
  (c7:codeIn K (.ref An) "PrimeField.__init__"=true)
  (k7:keepIn K (.ref f7)=true)
  (aK7:K.lookup An=some ⟨ay1,ax9,.fields UL,ay0⟩)
  (aK8:UL[11]?=some (.ref jT))
  (ay4:codeHdIn K An jT=true)
  (l13:K.lookup Ao=some ⟨dk3,dk0,.func (fnOf "__init__" "BitField.__init__" (l6 ot) (hW ot) (aP ot) .none dk4 dk5 dk6 dk1 (.ref Ap) dk7),dk2⟩)
  (c13:codeIn K (.ref Ap) "BitField.__init__"=true)
  (k13:keepIn K (.ref Ao)=true)
  (aL4:K.lookup Ap=some ⟨aB1,aA9,.fields UM,aB0⟩)
  (aL5:UM[11]?=some (.ref jU))
  (aB2:codeHdIn K Ap jU=true)
  (l58:K.lookup Kj=some ⟨dl3,dl1,.func (fnOf "law" "law" (l6 ou) (hW ou) (aP ou) .none UO UP UQ UN Ki UR),dl2⟩)
  (c58:codeIn K Ki "law"=true)
  (k58:keepIn K (.ref Kj)=true)
  (aI9:(clsIn K eI).isSome=true)
  (Lb:(clsIn K jz).isSome=true)
  (Lc:(clsIn K dw).isSome=true)
  (Ld:(clsIn K jA).isSome=true)
  (aJ0:PySem.W.excIn K eI [.type "ValueError",.type "Exception",.type "BaseException",.type "object"] "ValueError.__new__"=true)
  (as2:(cA eI==cA jz)=false)
  (ay5:(cA eI==cA jA)=false)
  (dE0:PySem.W.excIn K dw [.type "ValueError",.type "Exception",.type "BaseException",.type "object"] "ValueError.__new__"=true)
  (av4:(cA dw==cA jz)=false)
  (dE2:(cA dw==cA jA)=false)
  (nl:K.all (λp=>Gi p.2)=true)
  (sub:∀P∈[jT,jU],P∈ts) :
  ∃fd:FuncData,(∀(s:Shared) (v:Value),BindsTo s fd ⟨[v],[]⟩ [("_law_script",v)])/\∀base:Heap,K.In base->base.Ns mainGlobals mg->Bm mg base->aM l.prog w K mg base aT 11 fa fd ["_law_script"] (Ct ts K):=by
 have e:=hfa.symm.trans (mg_of X G UW)
 cases e
 have F7:=BM (st:=oq) l7 c7 k7
 have b7:=F7.binds (ps:=["self","prime"]) λ_ _ _ _ _ _=>fW (λ_ _=>rfl)
 have Vs:=BM (st:=ot) l13 c13 k13
 have b13:=Vs.binds (ps:=["self","bits"]) λ_ _ _ _ _ _=>fW (λ_ _=>rfl)
 have Vt:=BM (st:=ou) l58 c58 k58
 have b58:=Vt.binds (ps:=["_law_script"]) λ_ _ _ _ _ _=>fL (λ_=>rfl)
 have T:Txt K mg ⟨f0,_,f1,_,f2,_,f3,_,f4,_,f5,_,f6,_,f7,_,f8,_,f9,_,Kk,_,Kl,_,nq,_,Ao,_,Km,_,Kn,_,Ko,_,Kp,_,Kq,_,Kr,_,Ks,_,D1,_,D2,_,D3,_,uI,_,Kt,_,wV,_,Ku,_,Kv,_,Kw,_,Kx,_,D4,_,D6,_,Ky,_,Aq,_,wW,_,Kz,_,KA,_,KC,_,KD,_,D7,_,D8,_,KG,_,KH,_,D9,_,KI,_,KJ,_,KL,_,Ar,_,KN,_,Ea,_,KO,_,KP,_,As,_,Eb,_,Ec,_,Ee,_,Au,_,fa,_,An,jT,Ap,jU,aN,eI,bJ,kq,kr,jz,dw,jA,aR⟩:=⟨⟨F0,mg_of X G a0,F0.binds λ_ _ _ _ _ _=>fL λ_=>rfl⟩,⟨F1,mg_of X G a1,F1.binds λ_ _ _ _ _ _=>fW λ_ _=>rfl⟩,⟨F2,mg_of X G a2,F2.binds λ_ _ _ _ _ _=>fW λ_ _=>rfl⟩,⟨F3,mg_of X G a3,F3.binds λ_ _ _ _ _ _=>fL λ_=>rfl⟩,⟨F4,F4.binds λ_ _ _ _ _ _=>fW λ_ _=>rfl⟩,⟨F5,F5.binds λ_ _ _ _ _ _=>iN λ_ _ _=>rfl⟩,⟨F6,mg_of X G a6,F6.binds λ_ _ _ _ _ _=>fL λ_=>rfl⟩,⟨F7,b7⟩,⟨F8,mg_of X G a8,F8.binds λ_ _ _ _ _ _=>fW λ_ _=>rfl⟩,⟨F9,mg_of X G a9,F9.binds λ_ _ _ _ _ _=>fW λ_ _=>rfl⟩,⟨UZ,mg_of X G a10,UZ.binds λ_ _ _ _ _ _=>fL λ_=>rfl⟩,⟨U0,mg_of X G a11,U0.binds λ_ _ _ _ _ _=>fL λ_=>rfl⟩,⟨U1,mg_of X G a12,U1.binds λ_ _ _ _ _ _=>fW λ_ _=>rfl⟩,⟨Vs,b13⟩,⟨U2,mg_of X G a14,U2.binds λ_ _ _ _ _ _=>fL λ_=>rfl⟩,⟨U3,mg_of X G a15,U3.binds λ_ _ _ _ _ _=>fW λ_ _=>rfl⟩,⟨U4,mg_of X G a16,U4.binds λ_ _ _ _ _ _=>fL λ_=>rfl⟩,⟨U5,mg_of X G a17,U5.binds λ_ _ _ _ _ _=>iN λ_ _ _=>rfl⟩,⟨U6,mg_of X G a18,U6.binds λ_ _ _ _ _ _=>iN λ_ _ _=>rfl⟩,⟨U7,mg_of X G a19,U7.binds λ_ _ _ _ _ _=>fL λ_=>rfl⟩,⟨U8,mg_of X G a20,U8.binds λ_ _ _ _ _ _=>fW λ_ _=>rfl⟩,⟨KS,KS.binds λ_ _ _ _ _ _=>iN λ_ _ _=>rfl⟩,⟨KU,KU.binds λ_ _ _ _ _ _=>iN λ_ _ _=>rfl⟩,⟨KW,KW.binds λ_ _ _ _ _ _=>zL λ_ _ _ _=>rfl⟩,⟨KY,KY.binds λ_ _ _ _ _ _=>zL λ_ _ _ _=>rfl⟩,⟨U9,mg_of X G a25,U9.binds λ_ _ _ _ _ _=>zL λ_ _ _ _=>rfl⟩,⟨Ef,Ef.binds λ_ _ _ _ _ _=>iN λ_ _ _=>rfl⟩,⟨Va,mg_of X G a27,Va.binds λ_ _ _ _ _ _=>fW λ_ _=>rfl⟩,⟨Vb,mg_of X G a28,Vb.binds λ_ _ _ _ _ _=>fL λ_=>rfl⟩,⟨Vc,mg_of X G a29,Vc.binds λ_ _ _ _ _ _=>fL λ_=>rfl⟩,⟨Vd,mg_of X G a30,Vd.binds λ_ _ _ _ _ _=>fW λ_ _=>rfl⟩,⟨KZ,KZ.binds λ_ _ _ _ _ _=>iN λ_ _ _=>rfl⟩,⟨K0,K0.binds λ_ _ _ _ _ _=>iN λ_ _ _=>rfl⟩,⟨Ve,mg_of X G a33,Ve.binds λ_ _ _ _ _ _=>iN λ_ _ _=>rfl⟩,⟨K1,K1.binds λ_ _ _ _ _ _=>iN λ_ _ _=>rfl⟩,⟨Eg,Eg.binds λ_ _ _ _ _ _=>fW λ_ _=>rfl⟩,⟨Vf,mg_of X G a36,Vf.binds λ_ _ _ _ _ _=>fW λ_ _=>rfl⟩,⟨Vg,mg_of X G a37,Vg.binds λ_ _ _ _ _ _=>fW λ_ _=>rfl⟩,⟨Vh,mg_of X G a38,Vh.binds λ_ _ _ _ _ _=>fL λ_=>rfl⟩,⟨Vi,mg_of X G a39,Vi.binds λ_ _ _ _ _ _=>fL λ_=>rfl⟩,⟨K2,K2.binds λ_ _ _ _ _ _=>iN λ_ _ _=>rfl⟩,⟨K3,K3.binds λ_ _ _ _ _ _=>iN λ_ _ _=>rfl⟩,⟨Vj,mg_of X G a42,Vj.binds λ_ _ _ _ _ _=>iN λ_ _ _=>rfl⟩,⟨Vk,mg_of X G a43,Vk.binds λ_ _ _ _ _ _=>fW λ_ _=>rfl⟩,⟨Vl,Vl.binds λ_ _ _ _ _ _=>iN λ_ _ _=>rfl⟩,⟨Vm,mg_of X G a45,Vm.binds λ_ _ _ _ _ _=>fW λ_ _=>rfl⟩,⟨Vn,mg_of X G a46,Vn.binds λ_ _ _ _ _ _=>fW λ_ _=>rfl⟩,⟨Vo,mg_of X G a47,Vo.binds λ_ _ _ _ _ _=>Qz λ_ _ _ _ _=>rfl⟩,⟨K4,K4.binds λ_ _ _ _ _ _=>fL λ_=>rfl⟩,⟨Vp,mg_of X G a49,Vp.binds λ_ _ _ _ _ _=>fW λ_ _=>rfl⟩,⟨K5,K5.binds λ_ _ _ _ _ _=>fL λ_=>rfl⟩,⟨Vq,mg_of X G a51,Vq.binds λ_ _ _ _ _ _=>zL λ_ _ _ _=>rfl⟩,⟨Vr,mg_of X G a52,Vr.binds λ_ _ _ _ _ _=>Qz λ_ _ _ _ _=>rfl⟩,⟨K6,K6.binds λ_ _ _ _ _ _=>fL λ_=>rfl⟩,⟨K7,K7.binds λ_ _ _ _ _ _=>fL λ_=>rfl⟩,⟨K8,K8.binds λ_ _ _ _ _ _=>fL λ_=>rfl⟩,⟨K9,K9.binds λ_ _ _ _ _ _=>fL λ_=>rfl⟩,⟨La,La.binds λ_ _ _ _ _ _=>fL λ_=>rfl⟩,⟨Vt,mg_of X G UW,b58⟩,rfl,ay4,rfl,aB2,⟨aI3,aI4,aI5,aI6⟩,⟨Jr,a13,dr5,aI7⟩,Js,wJ,zW,zX,wK,Jt,Ju,⟨Jv,UU,Eg.kp⟩,⟨a23,ds8,KW.kp⟩,⟨a31,dt7,KZ.kp⟩,⟨Jw,UT,Ef.kp⟩,⟨a21,ds4,KS.kp⟩,⟨DK,US,F4.kp⟩,⟨a40,du6,K2.kp⟩,⟨a54,dw4,K7.kp⟩,⟨dx5,dx6,dx7,dx8⟩,⟨DL,a44,dv2,dx9⟩,DM,wL,Jx,wM,wN,wO,wQ,⟨Jy,dw2,K6.kp⟩,⟨a50,dv9,K5.kp⟩,⟨Jz,dw9,La.kp⟩,⟨JA,dv6,K4.kp⟩,⟨a55,dw6,K8.kp⟩,⟨aE7,aE8,aE9,aF0⟩,⟨JB,a7,mf7,aF1⟩,zY,zZ,DN,sG,JC,JE,⟨JF,UU,Eg.kp⟩,⟨a24,dt0,KY.kp⟩,⟨a32,dt9,K0.kp⟩,⟨JG,UT,Ef.kp⟩,⟨a22,ds6,KU.kp⟩,⟨DO,US,F4.kp⟩,⟨a41,du8,K3.kp⟩,⟨a56,dw8,K9.kp⟩,⟨dy5,dy6,dy7,K1.kp⟩,⟨aF2,aF3,aF4,F5.kp⟩,mg_none_of X G dz1,mg_none_of X G dz2,mg_none_of X G dz3,mg_none_of X G dz4,mg_none_of X G dz5,mg_none_of X G dz6,mg_none_of X G dz7,mg_none_of X G dz8,mg_none_of X G dz9,mg_none_of X G dA0,mg_none_of X G dA1,mg_none_of X G dA2,mg_none_of X G dA3,mg_of X G JI,mg_of X G JJ,mg_of X G DQ,mg_of X G JK,mg_of X G DR,mg_of X G JL,mg_of X G DS,mg_of X G JM,mg_of X G JN,OH (mg_of X G JJ) aJ0,⟨aI9,aH3,aH4,aH5,aH6,aH7,aH8,aH9⟩,vq as2 Lb KQ as1,vq ay5 Ld KR ay2,OK Lc UX UY ay3,OJ rfl (by decide +kernel) aI8,OH (mg_of X G DS) dE0,⟨Lc,dB5,dB6,dB7,dB8,dB9,dC0,dC1⟩,vq av4 Lb KQ av3,vq dE2 Ld KR dC3,OK Lc UX UY dC4,OJ rfl (by decide +kernel) dC5,vq rfl Lb KQ aI0,vq rfl Ld KR dC7⟩
 exact⟨fnOf "law" "law" (l6 ou) (hW ou) (aP ou) .none UO UP UQ UN Ki UR,λs v=>.of_eq rfl,λbase _ _ hB=>(cp0 T hB).imp λvs H Q E h=>let z:=b02 nl h;⟨λP hP=>z.1 P (sub P hP),z.2⟩⟩
theorem ay6{K:Frag}{h:Heap}{c f k P:Addr}{od an:Option Addr}{sl:Array (Option Value)}{oc kV dc pm ct kt:Value}{ko:Option Addr}{ks:Array (Option Value)}{kf:Array Value}(X:K.In h)(a:nsIn K mainGlobals "PrimeField"=some (some (.ref c)))(b:findIn K (.ref c) "__init__"=some (some (.ref f)))
  (l:K.lookup f=some ⟨oc,od,.func (fnOf "__init__" "PrimeField.__init__" (l6 oq) (hW oq) (aP oq) .none kV dc pm an (.ref k) ct),sl⟩) (lk:K.lookup k=some ⟨kt,ko,.fields kf,ks⟩) (lp:kf[11]?=some (.ref P)) (n:K.lookup P=none) (e:codeHdIn K k P=true):K.lookup P=none/\∃c,CodeHd h c P:=⟨n,k,PySem.W.codeHd_of_K X e⟩
theorem aB3{K:Frag}{h:Heap}{c f k P:Addr}{od an:Option Addr}{sl:Array (Option Value)}{oc kV dc pm ct kt:Value}{ko:Option Addr}{ks:Array (Option Value)}{kf:Array Value}(X:K.In h)(a:nsIn K mainGlobals "BitField"=some (some (.ref c)))(b:findIn K (.ref c) "__init__"=some (some (.ref f)))
  (l:K.lookup f=some ⟨oc,od,.func (fnOf "__init__" "BitField.__init__" (l6 ot) (hW ot) (aP ot) .none kV dc pm an (.ref k) ct),sl⟩) (lk:K.lookup k=some ⟨kt,ko,.fields kf,ks⟩) (lp:kf[11]?=some (.ref P)) (n:K.lookup P=none) (e:codeHdIn K k P=true):K.lookup P=none/\∃c,CodeHd h c P:=⟨n,k,PySem.W.codeHd_of_K X e⟩
theorem walk{l:PySem.W.OpenLaw}{q:Program}{loose:List Str}{XP:(Str->Option Value)->Heap->Prop}{YP:World->Heap->Prop}{d:DefRec}{K:Params->Frag}{ts:List Addr}(hn:l.most=some 63)(xV:d.params.defaults=[])
  (hY:∀(w:World) (h:Heap),YP w h->(K w.params).In h/\∀P∈ts,h.get? P=some (PySem.W.tabObj #[]))
  (hC:∀(w:World) (h:Heap),(K w.params).In h->∀P∈ts,(K w.params).lookup P=none/\∃c,CodeHd h c P)
  (F:∀(w:World) (mg:Str->Option Value) (fa:Addr) (h:Heap),(K w.params).In h->h.Ns mainGlobals mg->mg d.name=some (.ref fa) ->
   ∃fd:FuncData,(∀(s:Shared) (u:Value),BindsTo s fd ⟨[u],[]⟩ [("_law_script",u)])/\∀base:Heap,(K w.params).In base->base.Ns mainGlobals mg->Bm mg base->aM l.prog w (K w.params) mg base aT 11 fa fd ["_law_script"] (Ct ts (K w.params))) :
  PySem.W.WalkO q loose XP YP l.row.toRowW d [] (λf vs=>PySem.call f vs) :=
 L2.cL7 (n:=63) (k:=11) (x:="_law_script") (CX:=λ_=>aT) (sp:=λw=>Ct ts (K w.params)) hn (by decide) xV ⟨rfl,by decide,by decide⟩ hY hC F (λ_ _ a ns hl hO hS=>⟨a,ns,rfl,hO,hS,hl,λ_=>rfl⟩) λ_ _ _ _ _ z=>z
end HK37
set_option genInjectivity false in
set_option genSizeOf false in
structure PySem.W.Fast:Prop where
 (tw14656158409995657280 tw3705162912125116512 tw11815188950743029888 tw9392411367906003072 tw1729156837455908992 tw13591658741559272640 tw7046145485130451136 tw14913104476504590624 tw16229263827466958112 tw4324102946648400224 tw716562167144026528 tw14459451472646142368 tw15975005106479237600 tw4920767865343928832 tw12966227623000486432 tw16348753930619914816 tw11511591143501838912 tw6876425269186566752 tw9889356301797042784 tw11272608125877770880 tw7365433481153791648 tw5959355983895654048 tw12849890036340573984 tw1080138196106781632 tw11109402341386007488 tw7632768717484419008 tw11766537968598816769 tw2296621398603341825 tw4118639176181361729 tw9587032728584982625 tw8363714883198309505 tw10362665567534855297 tw15827168495154657473 tw8244981493345756385 tw6570611469862485281 tw1104190202134387041 tw3780344818938013025 tw5546533270565790081 tw9621909164944105889 tw14709130543911856577:True)
 (tw3791324479708071393 tw10394053049775232481 tw1445886554945645089 tw6269468480717919841 tw489662860693645921 tw1891974147186931297 tw11343575066037500513 tw8309460957874236033 tw9524017242928429697 tw1311837698838132353 tw2760203366976198433 tw16232907511118437185 tw3780975093756973921 tw8796257825472745345 tw14278781964755646337 tw3170703933572270977 tw13983305061508004801 tw17883223404515212225 tw5315008342897903553 tw6091640641218204609 tw17252931249115820001 tw656153185541655521 tw10337998037114790082 tw2366118368832899298 tw10375851541868546338 tw17198362374065227106 tw14023538439308348802 tw3866664878197059970 tw13255806565392590306 tw11699762515832166946 tw13950068996615662114 tw9057714679369617026 tw11491386079144738434 tw1168643164138773154 tw8472876140069645986 tw3491200881603333858 tw14336574874739678978 tw14189799609816032002 tw14888337879932570402 tw10251174938188715874:True)
 (tw12822658843576150914 tw18087689116702027650 tw15983470768719290306 tw17811825466969920482 tw3143964887397495907 tw6009337922063491203 tw10713353946391222435 tw10255075728565638339 tw5014801927034944707 tw7529518121576221891 tw12092520730289549539 tw3932276972531172579 tw145260119500213475 tw5238858195341457667 tw534511982701320515 tw8491758949070183747 tw11412347436036510019 tw11564591326820597059 tw5123811133062016355 tw15294068154949372323 tw1643381491405535651 tw3327909366843824547 tw3308804412935523779 tw10816611104991367747 tw5797411632826199651 tw8638301630939063907 tw728982974581830339 tw1985478495499697923 tw10205904734421435171 tw16571061937633573699 tw14487500443127477059 tw16304445614556366723 tw13417438417161485187 tw16034938842964218787 tw18424789006271222852 tw14773635452014569572 tw14939822575545481316 tw7730312403690785924 tw6154199395377264772 tw13103169519478042756:True)
 (tw7382307726801872132 tw10295396036800835876 tw10405621412417557796 tw17904671236144158020 tw10817421231695352196 tw12674376724595105188 tw5142541978562161060 tw13629789679355258308 tw17424912497234149860 tw7158191907895224804 tw15495973859519517156 tw9919590905077242372 tw10518773145538417156 tw2276379259760061988 tw4336466140595721828 tw15737827785064049252 tw1627607756263856772 tw1638352292912581252 tw18331261166892838564 tw10752809590850369188 tw3079764518813166276 tw7474633233554762532 tw8295153534498570020 tw7327318415164370820 tw7426316048104337348 tw13106500645341991908 tw17762730503252184036 tw5666047943361878053 tw6047503170163435589 tw4963701773344479333 tw6938539073509219429 tw1563753638615417989 tw16408713159160203397 tw4670781947894572165 tw14120500472511585605 tw9621086958964532549 tw3947013973630821733 tw15883132491222796645 tw18107081516421246309 tw14426585421920893285:True)
 (tw4909115117927855493 tw13205190068266141093 tw7050328304512422373 tw17870968339931160037 tw9385783616068362789 tw15264969334447033893 tw8719721190002182789 tw4469877570887073413 tw13000237305955041957 tw17760899296923939525 tw15504255197038476997 tw14547585808706919141 tw5780522198684984069 tw7141750393128008485 tw2956334072170093381 tw3508586507558965061 tw1785504838396746597 tw16197601235964209093 tw14860812679560533989 tw8658989967380949030 tw4841345055848322086 tw6571747268482717734 tw12661872414875383846 tw7324610488566316070 tw17156398892317521990 tw5201169606417508422 tw444677823497630790 tw9126842310672890982 tw2289604852517752934 tw10352659767254200454 tw15056012367094144134 tw16685612713404930214 tw15397241577493330086 tw7909313971391699142 tw7108596151981127910 tw16484749160311938342 tw16014072172185664934 tw17562837748944445926 tw3106570807576320486 tw6472989123441532422:True)
 (tw2527789901591423590 tw11341776358681778822 tw3834236261711554182 tw7053769868091045542 tw1309038359330832038 tw15376696496009923238 tw15037674668418780838 tw17878518345327083174 tw16258788234485554886 tw9944073816917161926 tw2951318934437350342 tw2189328421169974214 tw6449798481993885703 tw14332732878397909031 tw3189867544692931623 tw8801249534505368615 tw14917779366788080711 tw3812529823793511527 tw15584477741857497255 tw14496970093529447623 tw6143913336990999815 tw11983054757218305383 tw11677338779878967655 tw6163748767610651015 tw15994995824276071879 tw7997443051896007111 tw12415216744219545063 tw12545404824398926343 tw2075262581002121767 tw13267151243600086567 tw5445534659485263399 tw8090270588860663367 tw827553459232745031 tw6951675600879957575 tw5058572570371050055 tw7855076966825498215 tw16664757060435621479 tw4713254994760649383 tw14201547397584100039 tw5080188332854754023:True)
 (tw18418677586443138791 tw547408751665214215 tw13907013838984467335 tw12741013948234880903 tw7304938652540267399 tw15463598372757242791 tw16541220030418322343 tw4267145968607826855 tw12669319627083441063 tw8345093232923310055 tw10181040416783843336 tw17156598922973139976 tw10070611720450936872 tw461220161396015176 tw9237841238420037736 tw12921099782136453224 tw4318406885261276296 tw16235794074778963208 tw4647923369876472072 tw17671604265742931272 tw12337475415687305544 tw448535614679368008 tw4785121614358622568 tw6651295503129218408 tw7150593452181102024 tw15317493344273423816 tw3654729799527981512 tw5375352339570515432 tw685168085481652744 tw17940096483873937928 tw5886601200563359272 tw15392058752177968712 tw51812710138420840 tw6401216439417410184 tw11324757022576569000 tw6098539724159837896 tw679786639983262472 tw13431747548832074536 tw13198421057032461192 tw7239722316006006664:True)
 (tw11436945949494897544 tw17091202456876477352 tw10910496909862088777 tw991802064882618441 tw13006701059118251177 tw15682318832863926441 tw7613433315369605321 tw14711617734518957257 tw4503105673864348009 tw11085963873286739369 tw7247385726535818665 tw16817566874033651113 tw14300245712465634793 tw1536442563922779689 tw12928023371159349865 tw5564337565664897705 tw8713477538442912521 tw7609012804842308521 tw7982320818131566602 tw8466621264447384618 tw5606724496674518090 tw8628563680254236746 tw6810268926161723498 tw15321077027215793258 tw3006989110644085962 tw368740254854908138 tw13184767472301847818 tw16366145962656010538 tw12566121566688035114 tw15319773409038423370 tw2919693556103670090 tw17222511548439473514 tw16332346425324204394 tw9973177402041956746 tw11659767094147518890 tw6761279200634846634 tw5626533616054950314 tw17343226703966868938 tw17766306574886213162 tw3606495719507887690:True)
 (tw12236124982777685610 tw16513314124186820234 tw9808484796239227530 tw16914085125195228810 tw17964525453500342954 tw8383382951093913290 tw10205459608272614122 tw15183767215469551370 tw3499218635425466154 tw14886027843636825962 tw7615134457469678442 tw14893345562242459562 tw10965164251103504330 tw17084726027450188843 tw9384511943203014731 tw13639477498729181355 tw5595624806193583275 tw1491543458453798091 tw10587506717147058379 tw16360863823369277707 tw14950625171196817675 tw12625793152616288523 tw11822134806862006603 tw15963171811070056843 tw1178640865289899435 tw2778242456879952363 tw11333644785051401707 tw8319553274532902411 tw10518525148202204683 tw4211799114382305867 tw17618955770502020715 tw15483193143644312235 tw11542720051122902731 tw16523824647134312139 tw10472332310135096043 tw16427409997994851115 tw2364054868362921803 tw6056292597604296587 tw17947395418487843755 tw11390834482209425355:True)
 (tw1426027808132108235 tw1894846507825946571 tw631295025339594731 tw6313735940993974284 tw3179620280951065612 tw3276399605460102188 tw17702320335714221100 tw12168957980245969996 tw10107249834913558636 tw17239129932966332556 tw4172491897950935276 tw3621456382004623596 tw3997622653975441676 tw16525883987739851020 tw8444785241450233100 tw14573835510120376620 tw240050652336442700 tw9346179800030946764 tw7137728851148322252 tw692451986725904876 tw5724287919221454316 tw6718956684966111756 tw15654711008458731020 tw10395754267918890540 tw11206976061918282316 tw11452347617513129548 tw13618614632056364652 tw192834997197570700 tw10967308479498801868 tw16850903630908585804 tw507116986026340236 tw17465614154136215500 tw992436467896123340 tw8744101625716127757 tw12540218910056375309 tw16654021682961707021 tw2267774166043009101 tw4553365199095064653 tw15998668183790459085 tw4858730976079125709:True)
 (tw939671018249644237 tw2141386800000922829 tw14089374043434255597 tw10362399909589255437 tw1682686524348974349 tw15271418113138149645 tw16941082648100575533 tw6034768080631841069 tw17396032986745845069 tw1811612484325697869 tw2191709516378734957 tw6070125454957368685 tw4063372894921121133 tw2584907640699514221 tw11242983807375546957 tw3548720829373671021 tw3089135286672280205 tw18127495244311525133 tw458010826998044461 tw4359531631160786733 tw8627748471370005357 tw4130024333532503949 tw18189192290925411213 tw9663823342335560621 tw1024250828945696685 tw9444613091345001421 tw7105069501880932333 tw10837262705754322925 tw8817174729544966158 tw16474951535899119694 tw5650223958089717838 tw4348616011399808110 tw4428343944960895086 tw16686528227372453006 tw12133256186024959150 tw16756654069727333614 tw7512527510109622542 tw15239996654000711950 tw15796493379128044814 tw6416960956166746382:True)
 (tw15223817844725928206 tw17404739371388312878 tw1707858147693208910 tw14178868031020710254 tw11345624864455801198 tw2092295770998159822 tw174634259313759726 tw2537991459710357006 tw9726761440198389294 tw8578256736321626798 tw7059193994750424878 tw973065089620590414 tw6432724331280599950 tw9011309424272412558 tw2853680623116295054 tw3255714665092373390 tw12577055968147261358 tw1211705459853317038 tw156358403317703630 tw9128225201006181326 tw7323998125389089807 tw14344327457950587951 tw1345395231783573583 tw17486668498064414959 tw11672152001787376879 tw13846094916705233167 tw17800555816468031759 tw15161124350156039439 tw251344025442968879 tw9729239660603452751 tw7196670325217079631 tw5998374735402714543 tw4390368898792220143 tw13145124045381033455 tw5717277108850671119 tw13174064327489204783 tw3822044877203248719 tw2745638524839879247 tw3018367280958732047 tw2205672180181436207:True)
 (tw13821756350823826255 tw1029347299510207375 tw3098508508158641071 tw8456648527774277583 tw14233457829868756048 tw5505052951016670320 tw14926372945211009136 tw4718934150587188400 tw12043310357550239952 tw1246685451495901424 tw7048010405440089360 tw14246128252357760368 tw5142117053674088848 tw3054873449284948400 tw3226885784750602736 tw16665516543934841328 tw13139342638832092688 tw5146889267966356016 tw8770656491666832944 tw3577043220188899920 tw11750288720804914800 tw6028591852614876816 tw2078800629780239056 tw1700764148072665808 tw8648750369534500560 tw5428320603957092080 tw8590343133271236368 tw676331909955859216 tw13239622725252601680 tw6885651655542814576 tw6296412347677336464 tw16266321944055361488 tw7465610626984738768 tw10992995143378872304 tw5091880488881146864 tw6644331240925714416 tw6908885790425123857 tw2198820294625619985 tw956059276791413777 tw5209901455795499057:True)
 (tw6951064010599817265 tw5261806502965587057 tw14059699209332774097 tw17935501494619443505 tw16754693749233134929 tw16178276292705268113 tw68337267618308561 tw12960712720013215185 tw16629503494594243089 tw2093116613103152689 tw11350681223271378481 tw7969949689564568273 tw17519170101112527633 tw15600656497396842289 tw12305696478906750801 tw18278032180706431857 tw14323487004245307281 tw10022290465402910609 tw6740659572025499569 tw16154290705704928274 tw16934854965562891282 tw883001329020384306 tw18265887611941733426 tw6976443675957525554 tw12914088331488164946 tw17414959135296778354 tw11799402360984573074 tw9253155766258990258 tw15240784070148852978 tw3369174519857079538 tw3120091607574159634 tw18002918624132191506 tw3980211234650290482 tw5735590116217852242 tw10116813629182517586 tw7369008300139283858 tw7999794930018507154 tw8650042941347450290 tw7268019406776963570 tw2317452254188010994:True)
 (tw10246691862443888146 tw17365876521522802194 tw12559280665213565458 tw235962234712291858 tw10977108436136783410 tw3084401526989823634 tw5264999602510811794 tw4494815871072792210 tw782110343559596722 tw13024804598370729682 tw12967823917921715954 tw2312877048042299154 tw12238310381416473394 tw61556351800640370 tw13631138247173630834 tw6833444039340415890 tw7454507009079207826 tw4502215403247846354 tw15445441712502851538 tw12147182056907204562 tw5258764649587440594 tw5898651456117189618 tw4934366683798847474 tw14998060248881821682 tw8036973921070479346 tw7307344072912785427 tw4857206715626742803 tw4173492399083533363 tw15780615606531262579 tw3693334165678626003 tw8793096646353691891 tw378511519391335699 tw17748538790226067763 tw12203613203986188627 tw17424687527400186259 tw12983188445748586931 tw15906696837168534995 tw1512347470980215315 tw9486648186844102227 tw3908198706901849715:True)
 (tw657792412204292723 tw1522654537385157267 tw6303299724884542131 tw9315037482247130835 tw6915661311859238643 tw15422449110986039059 tw7717869109058201363 tw7834852290076930899 tw8723491614299681651 tw17446315562911051828 tw6500899088258285652 tw12855868592954722452 tw9535601881053737140 tw15346385664596194580 tw95334420341687572 tw18166158048951151924 tw13349588716441554420 tw16453308925269742100 tw6505499000641455668 tw17862259827818073652 tw13447300648789109300 tw6611758545705122452 tw5206108468452423316 tw7968353435379684052 tw9642261889160821492 tw423542843434474260 tw13421345051448591124 tw4665501179159865204 tw4181269065794258900 tw3632963942881437652 tw10006453269109378036 tw11165471490391256052 tw2864196778376259572 tw1793213314569611285 tw14875761120357737493 tw14674407017797873685 tw12595515936325927989 tw8812880599559441461 tw16117787223183276085 tw5828295613943275573:True)
 (tw11290279538457164885 tw2009511883971579989 tw10169708646189456501 tw12789327958138818869 tw9585975276358603061 tw7755813127389064533 tw4562454132679147925 tw13485175121262691733 tw13124729085228447125 tw14551172095922864565 tw6073187836769689077 tw4104229504634164757 tw1595229309608866325 tw3249547837713174069 tw11270659027850692181 tw3326317477009059413 tw13957686003182054005 tw3994636784912947861 tw10051899766186119861 tw17068059414115246773 tw1893593894463827637 tw5518466885235542805 tw916170210606567349 tw6922554333334336437 tw4068242869853112374 tw16131798480414723126 tw17920421074895144054 tw857007955550083190 tw4655397342686643414 tw6138049581639947574 tw11240347703122202038 tw4777720037233183158 tw1641108422021174710 tw13392048927928634838 tw11144002097384921590 tw10694498181799275062 tw6235044599756386870 tw6712412431220205462 tw12890422198065410103 tw4654680977592773687:True)
 (tw10561184103077934167 tw16835513698669318263 tw17734831764819004599 tw1645601915153495287 tw6789549346706330903 tw940894733476744471 tw8967353249428096311 tw13003923857699213655 tw18333262129437758839 tw10249894160978495895 tw17962405342825209239 tw5980807957443122711 tw978218078448352887 tw16192178842030478999 tw9946578765023422103 tw5189234646448703159 tw1778610497035145015 tw4349355477361897271 tw11941136588842141591 tw5859108374334909335 tw6756252198251999127 tw9851494188170214295 tw7913236777895645143 tw7021680202466152407 tw4914592762549249015 tw4107545717282648055 tw9261671399765570551 tw5779250201311934488 tw1848390775441488920 tw9378441544049384568 tw16640453293537743160 tw6414838747846909336 tw4328934798244189624 tw3778418928415970776 tw8762799434201078232 tw102960061315189240 tw11280166784656046584 tw7036650555703597720 tw9837256236469952184 tw5537328770648560344:True)
 (tw8983069679763769112 tw15701943683915458392 tw13071410319043375000 tw14348352503821678488 tw8783626373030443960 tw822266082392731640 tw1537558287745578009 tw14281948548956025913 tw14738889817042216025 tw10906979544813503609 tw17978509965792987257 tw1321420812414358681 tw17800986236611027161 tw11656308305010114809 tw4355655938089207033 tw16358048572188028153 tw14648511256493989145 tw11547281129454864761 tw7798183651086393721 tw10612271875950249401 tw1524498394343906777 tw8007703742397665753 tw9506457419889151481 tw5936631194813118969 tw1176866727986192889 tw7185769738334028313 tw2640729816349408889 tw5283047404158911129 tw11267740423933985465 tw12818052983984564953 tw10256458037361144665 tw7330382443884862361 tw137293016949455769 tw17680004011023339449 tw9716605581404839865 tw6336494969375420377 tw1574394619622874170 tw17761132224461914 tw251093561955009722 tw14493291801148955930:True)
 (tw4154597599482709306 tw7580661038543640954 tw5182137521642488186 tw16364018730503506330 tw16464520820112644506 tw3897334974055041498 tw10377973263659564538 tw1222516471301380666 tw2327410712922251834 tw1040253683021784666 tw6580960419110874810 tw13271474162351231706 tw7560872583633844986 tw10271544290143779578 tw746581130784576282 tw15314489327006792474 tw15827313023243637530 tw6545493999537765178 tw10612783962237176730 tw1768866265221135290 tw11918966922450041786 tw17311313595792692186 tw14554721555212291131 tw3066333490239579 tw2643955662348206235 tw4608545498586434715 tw5596020439970237627 tw16214647685809761467 tw12817054599567056123 tw8564922530658476283 tw10350977824759248123 tw10519862890896825627 tw10421987820318602555 tw1013913624191293787 tw7206176500513922459 tw6908031813915240955 tw4245172280592131611 tw600522863864379963 tw12163020647539862107 tw13116237046999702107:True)
 (tw17473478989119692411 tw15460282672755622523 tw15738934322975700635 tw287797153570640571 tw249123153375204059 tw2741725910247109371 tw6870321512707688283 tw7149203805956935515 tw4043092420457344859 tw4940020088250117979 tw11031165548677444443 tw15218959353174285147 tw14336187028946920443 tw8765649072288501820 tw7766551421160888380 tw4089271546710714428 tw5311592904480648252 tw11925525471027884092 tw1228824050026088540 tw8647343884833638492 tw2652172258179827804 tw6929710988351529052 tw7780670143985589404 tw10147217434146644252 tw2665165062442209596 tw4039359269789051228 tw13709412701794378108 tw4717885129652662652 tw4730411653187322364 tw9205460744325162492 tw16906257169801930236 tw14964613510932068860 tw17331720977796838972 tw1781393599725018716 tw9082243513406918268 tw2094123132008077948 tw1757958079294397084 tw7987519756624863932 tw6971505670575796924 tw4821850817409448636:True)
 (tw2252141733830267612 tw876032355899924220 tw491921473333624572 tw5495973230932746076 tw8717045984898196316 tw11833466905084834684 tw258312912235672508 tw7734760881597469660 tw8885131760291385405 tw3924492813655285949 tw13191798828237859037 tw7345011052030455005 tw3089541499767456029 tw3046620360114982173 tw2446765700144388413 tw7874836888004013501 tw3569836608504957405 tw15924883520703125981 tw10615191991750847965 tw18248036704873226749 tw17153250740175740445 tw11943312836646576669 tw11321120738580058685 tw18188807826483369725 tw138380126599307005 tw12725898469766760221 tw677160232995054365 tw14205217037701836605 tw8249792394807669693 tw10026333814794904509 tw17999677114942062557 tw2271106933026605118 tw11858230921494530110 tw3162331806709191774 tw12124273786074835038 tw928149861189006462 tw5299270151063059614 tw8083117563306092766 tw17321844003973032254 tw18353332285151566302:True)
 (tw17005774976068773374 tw5730165968555961854 tw12850677609955436062 tw9323312530240392798 tw5938686361339682430 tw8714053640030106302 tw5937270607428482750 tw15113808528570873566 tw11260025148680870654 tw7742477673708024638 tw1082747374944200638 tw3957664205193705406 tw6653866176354086943 tw8925659479808440351 tw1994554008650523807 tw14994073558980016287 tw7094060140693317823 tw2141405431386533055 tw10537802272878724383 tw14611884121741678879 tw14918109040096540991 tw11384449518240132511 tw13230593757334396415 tw13967188436064405023 tw1610004072083219999 tw7158419327189385887 tw16334156414527305375 tw14631954069638152895 tw8504333929937303359 tw18240928977234721599 tw16044704185115049823 tw11587791296522301311 tw14349041394081048447 tw4526738422562214847 tw6447076769907238879 tw12025700259678654463 tw14666408324609640583:True)
open PySem PySem.W PyProof.Rows
set_option maxRecDepth 100000 in
set_option maxHeartbeats 0 in
theorem PySem.Challenge.cw_mendfield_k37_code_by_checks_holds : PySem.Challenge.rw_mendfield_k37_code_by_checks.Holds := by
 w_on;o_law;k_head;(case hw=>w_witness2)
 k_fill
 refine HK37.walk (l:=PySem.Challenge.rw_mendfield_k37_code_by_checks) rfl rfl (λw h Y=>⟨PySem.W.km_in_of Y,PySem.W.km_tabs_of Y⟩) ?C ?F
 case C =>
  intro w h hX
  repeat' (first | exact List.forall_mem_nil _ | refine List.forall_mem_cons.mpr ⟨?_,?_⟩)
  all_goals first | (refine' HK37.ay6 hX ?a ?b ?l ?lk ?lp ?n ?e;(case a=>k_is);(case b=>k_is);(case l=>k_is);(case lk=>k_is);(case lp=>first | rfl | with_unfolding_all rfl);(case n=>kernel_rfl);(case e=>kernel_rfl)) | (refine' HK37.aB3 hX ?a ?b ?l ?lk ?lp ?n ?e;(case a=>k_is);(case b=>k_is);(case l=>k_is);(case lk=>k_is);(case lp=>first | rfl | with_unfolding_all rfl);(case n=>kernel_rfl);(case e=>kernel_rfl))
 case F =>
  intro w mg fa h KX G xW
  apply HK37.all_mk KX G xW
  iterate 186 (k_is)
  iterate 56 (apply L2.BM<;>k_is)
  iterate 4 (k_is)
  (first | rfl | with_unfolding_all rfl)
  (kernel_rfl)
  iterate 4 (k_is)
  (first | rfl | with_unfolding_all rfl)
  (kernel_rfl)
  iterate 3 (k_is)
  iterate 4 (first | k_is | rfl | decide)
  (k_exc)
  iterate 2 (first | k_is | rfl | decide)
  (k_exc)
  iterate 3 (first | k_is | rfl | decide)
  (decide)
