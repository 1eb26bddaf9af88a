import PyProof.Rows.All
import Wide.All
import OpenK.AllK
import Wide.FinOn
import Lean
import PyProof.EqAt
import PyProof.EqKinds
import PyProof.TupleCall
import PyProof.NeKinds
import PyProof.Rows.Range3
import PyProof.FitsBits
import PyProof.StationsW
import PyProof.NsDelKeeps
import PyProof.Rows.CatchOwn
import KE.KTryMore
import PyProof.ExcArgsOwn
import PyProof.ExcAttrAll.ValueError
import OpenK.KOwn
import PyProof.ZipIter
import PyProof.WalksEnum
import PyProof.EnumMake
import KE.KIntText
import PyProof.Conv_int
import PyProof.StrWalks
import PyProof.StrLawsFirst
import KE.KLam
import KE.KNestM
import KE.KRevIter
import PyProof.ListRange
import PyProof.Rows.SortWalk
import PyProof.Rows.SetFrom
import PyProof.FactsAll.set
import PyProof.Rows.SeqMore
import PyProof.FString
import PySem.Challenge.RW_mendfield_k42_paper_told
open Array renaming append_assoc→vK,length_toList→vL,toList_append→WZ
open Bool renaming and_eq_true→eZ,false_ne_true→iZ,or_true→jx,true_and→kS,and_true→kT,false_and→qg,or_false→tf,eq_iff_iff→tD,false_eq_true→tK,not_false→vX,not_true→vY,true_or→vZ,false_or→v3,and_false→Mh
open Classical renaming byContradiction→xM
open Decidable renaming byContradiction→MH
open False renaming elim→gF
open ForInStep renaming yield→Ef
open Int renaming toNat_natCast→iE,emod_nonneg→jv,emod_lt_of_pos→jw,natAbs_natCast→jy,natCast_emod→tF,natCast_mul→xW,toNat_of_nonneg→AN,natCast_add→Eu,emod_eq_of_lt→Ew,natCast_nonneg→Md,zero_add→Mt,fdiv_eq_ediv_of_nonneg→WL
open List renaming range→aF,getD_eq_getElem?_getD→aM,getElem?_eq_getElem→aO,replicate→bg,length_map→bt,mem_map→bE,getElem?_map→bO,map_map→bP,length_range→bS,mem_append→cg,mem_cons→cj,mem_range→cA,map_cons→cK,all_cons→cL,getElem_mem→cT,mem_append_right→cY,append_assoc→cZ,length_append→di,size_toArray→dj,all_eq_true→dG,mem_append_left→dZ,map_append→eo,mem_cons_of_mem→eG,append_nil→eH,zipWith→eI,getElem?_eq_none→fF,length_cons→fU,length_take→fV,length_replicate→gj,mem_singleton→gn,lookup_cons→gq,mem_cons_self→gE,getElem_of_mem→gX,not_mem_nil→hJ,getElem?_range→hW,nodup_cons→iD,length_drop→iF,map_nil→i6,set_cons_zero→i7,set_cons_succ→i8,cons_append→ju,getElem?_eq_some_iff→ky,lookup→mi,range'→mm,getElem?_append_right→nB,nil_append→nC,cons.inj→nI,perm_append_comm→nJ,take_add_one→nK,mem_of_mem_drop→nL,length_zipWith→nM,mem_filter→qf,getElem?_replicate→qj,length_set→qk,length_singleton→qm,take_length→qq,append_eq_nil_iff→qt,all_map→qu,all_nil→qv,map_congr_left→qw,getElem?_set_ne→sZ,getElem?_append_left→s8,mem_of_getElem?→s9,replicate_succ→tu,mem_of_mem_take→tE,getElem?_cons_zero→tG,getElem?_cons_succ→tH,cons.injEq→tJ,flatten_cons→vO,append_inj→vQ,mem_replicate→vR,getElem?_mapIdx→vS,take_append_drop→vT,length_nil→vW,getElem?_set_self→xF,foldl_cons→xI,ext_getElem?→xO,getElem?_zipWith→xS,pairwise_cons→xT,length_eq_zero_iff→xU,of_mem_zip→AD,length→AE,take_of_length_le→AJ,getElem?_take→AL,mem_map_of_mem→AO,getElem_map→AR,pairwise_append→AS,Pairwise.nil→Eb,set_set→Ei,Perm.swap→Ej,getElem?_drop→El,drop_eq_nil_of_le→Em,map→Eo,map_zipWith→Ep,zipWith_map→Er,mem_or_eq_of_mem_set→Es,foldl_append→Ex,contains_iff_mem→Ey,getElem_range→EC,pairwise_iff_getElem→ED,nodup_range→EE,drop_eq_getElem_cons→EF,flatMap_cons→EG,flatMap_append→EH,filterMap_cons→Mc,any_eq_true→Ml,Sublist.refl→Mm,perm_middle→Mn,eq_nil_iff_forall_not_mem→Mo,mem_of_find?_eq_some→Mq,map_drop→Mr,map_take→Ms,ext_getElem→Mv,length_zip→Mx,sublist_cons_self→Mz,findIdx_lt_length_of_exists→MA,find?_eq_none→MB,range_succ→MC,range'_succ→ME,pairwise_singleton→MF,pairwise_lt_range→MG,flatMap_singleton→MI,map_replicate→MK,mem_filterMap→WK,getElem?_take_of_lt→WN,set_eq_of_length_le→WU,filter_eq_self→WV,range_succ_eq_map→WW,dropLast_cons_of_ne_nil→WX,length_pos_iff→WY,zip_cons_cons→W0,findIdx_getElem→W2,findIdx?_eq_some_iff_getElem→W3,findIdx?_eq_none_iff→W4,Pairwise.filter→W5,countP_eq_length_filter→W6,find?_eq_some_iff_append→W8,length_filter_le→W9
open Nat renaming le_refl→bL,lt_of_lt_of_le→dz,le_trans→fE,ne_of_lt→gh,lt_irrefl→gU,zero_le→iC,shiftLeft_eq→kR,xor_zero→mj,mul_comm→nD,pow_succ→nE,testBit_xor→nF,pow_le_pow_right→nG,lt_of_le_of_lt→nH,zero_xor→qo,xor_assoc→tw,mul_assoc→vP,add_comm→xJ,two_pow_pos→xK,not_lt→xP,mul_mod→xQ,mod_lt→xR,succ.inj→xV,le_of_lt→AA,le_of_eq→AB,eq_of_testBit_eq→AG,testBit_zero→AH,xor_self→AI,min_self→AK,mod_eq_of_lt→AM,le_of_succ_le→AQ,lt_succ_self→D7,le_of_not_lt→Ea,testBit_lt_two_pow→Ec,testBit_succ→Ed,strongRecOn→Ee,add_assoc→Ek,mod_add_mod→Et,lt_or_ge→EA,sub_self→EB,one_shiftLeft→EI,xor_comm→Mi,testBit_and→Mj,mod_mod→Mu,zero_add→Mw,lt_trichotomy→MD,succ_pos→MJ,testBit_eq_decide_div_mod_eq→WO,shiftLeft_xor_distrib→WQ,mul_lt_mul_right→WR,testBit_shiftLeft→WS,shiftRight_eq_div_pow→WT,add_sub_cancel_left→W7
open Ne renaming symm→gW
open Option renaming some.inj→dh,getD_none→ql,getD_some→qp,some.injEq→tI,map_some→vU,map_none→vV,map_eq_some_iff→xN,toList_some→Mp,isSome_iff_exists→WM
open Or renaming inl→az,inr→bY
open PyProof renaming Rows.callWith_type1→vM
open PySem renaming Heap.lt_size→b9,PassesOwn.never→fo,Heap.get?_push_of_some→gG,Value.ref→gT,Heap.get?_push_size→i5,Builtin.bitAnd→qh,Builtin.bitXor→qi,Value.int→sY,Str.empty→xG,Heap.size_push→xH,Obj.mapSeq→AF,Value.none→D4,Value.bool→D6,SeqAt.EqAt→D8,Builtin.List.listTooLong→D9,Value.type.inj→Eg,Builtin.Str.strSliceIndices→Eh,NameKind.cell→Ez,Calls.spliced_nil→Me,Calls.spliced_cons→Mg,Calls.Name_function_global→WJ
open Sum renaming inl→vI,inr→vJ
open True renaming intro→vN
set_option Elab.async false
set_option linter.all false
set_option maxRecDepth 100000
local macro_rules | `(tactic| omega)=>`(tactic| lia)
namespace L2
open PySem PySem.Spec PyProof.Rows
noncomputable abbrev Key:=Sum Int Str
noncomputable def ML:Key->Value->Bool
 | .inl k,v=>Value.isInt k v
 | .inr x,v=>Value.isStrOf x v
noncomputable def Xa(w:World):Key->Int
 | .inl k=>hashInt k
 | .inr x=>hashStr w x
theorem nN:∀{k:Key} {v:Value},ML k v=true->(∃i t,k=vI i/\v=sY i t)\/(∃x t,k=vJ x/\v=Value.str x t)
 | .inl i,v,h=>by
  obtain⟨t,e⟩:=Value.isInt_shape (k:=i) (v:=v) h
  exact .inl ⟨i,t,rfl,e⟩
 | .inr x,v,h=>by
  obtain⟨t,e⟩:=Value.isStrOf_shape (x:=x) (v:=v) h
  exact .inr ⟨x,t,rfl,e⟩
theorem Xb(a b:Int):decide ((vI a:Key)=vI b)=(a==b):=by
 by_cases e:a=b
 ·subst e;simp
 ·have h:¬ (vI a:Key)=vI b:=λq=>e (Sum.inl.inj q)
  rw[decide_eq_false h]
  exact(beq_eq_false_iff_ne.mpr e).symm
theorem Xc(a b:Str):decide ((vJ a:Key)=vJ b)=decide (a=b):=by
 by_cases e:a=b
 ·subst e;simp
 ·have h:¬ (vJ a:Key)=vJ b:=λq=>e (Sum.inr.inj q)
  rw[decide_eq_false h,decide_eq_false e]
theorem Xd(a:Int)(b:Str):decide ((vI a:Key)=vJ b)=false:=decide_eq_false (λq=>nomatch q)
theorem Xe(a:Str)(b:Int):decide ((vJ a:Key)=vI b)=false:=decide_eq_false (λq=>nomatch q)
noncomputable def MM(prog:Program)(w:World):PySem.KeyKind prog w Key where
 is:=ML
 hash:=Xa w
 inj:=λv a b ha hb=>by
  rcases nN ha with⟨i,t,rfl,rfl⟩ | ⟨x,t,rfl,rfl⟩
  ·rcases nN hb with⟨j,u,rfl,e⟩ | ⟨y,u,rfl,e⟩
   ·injection e with e1 _;rw[e1]
   ·exact nomatch e
  ·rcases nN hb with⟨j,u,rfl,e⟩ | ⟨y,u,rfl,e⟩
   ·exact nomatch e
   ·injection e with e1 _;rw[e1]
 byValue:=λk v h=>by
  rcases nN h with⟨i,t,rfl,rfl⟩ | ⟨x,t,rfl,rfl⟩<;>rfl
 pyHash:=λhv h=>by
  rcases nN hv with⟨i,t,rfl,rfl⟩ | ⟨x,t,rfl,rfl⟩
  ·exact wpAny_pyHash_int h
  ·exact wpAny_pyHash_str h
 eqBool:=λhu hv h=>by
  rcases nN hu with⟨i,t,rfl,rfl⟩ | ⟨x,t,rfl,rfl⟩
  ·rcases nN hv with⟨j,u,rfl,rfl⟩ | ⟨y,u,rfl,rfl⟩
   ·rw[Xb]at h;exact wpAny_eqBool_int h
   ·rw[Xd]at h;exact SeqAt.EqAt.int_str i t y u _ _ _ _ h
  ·rcases nN hv with⟨j,u,rfl,rfl⟩ | ⟨y,u,rfl,rfl⟩
   ·rw[Xe]at h;exact SeqAt.EqAt.str_int x t j u _ _ _ _ h
   ·rw[Xc]at h;exact wpAny_eqBool_str h
 «strs»:=λk x t v h=>by
  rcases nN h with⟨i,u,rfl,e⟩ | ⟨y,u,rfl,e⟩
  ·exact nomatch e
  ·injection e with e1 _
   subst e1
   cases v<;>rfl
end L2
namespace L2
open PySem PySem.Spec PyProof.Rows
inductive V where
 | av | bl (b:Bool) | int (i:Int) | str (x:Str) | AU (b:Array UInt8) | tL (b:UInt64) | ref (a:Addr) | ty (n:String)
 deriving DecidableEq
noncomputable def RelV:V->Value->Prop
 | .av,u=>u=D4
 | .bl b,u=>u=D6 b
 | .int i,u=>∃t,u=sY i t
 | .str x,u=>∃t,u=Value.str x t
 | .AU b,u=>∃t,u=Value.bytes b t
 | .tL b,u=>∃t,u=Value.float b t
 | .ref a,u=>u=gT a
 | .ty n,u=>u=Value.type n
noncomputable abbrev Vals:List V->List Value->Prop:=Paired RelV
theorem Vals.length{xs:List V}{us:List Value}(r:Vals xs us):xs.length=us.length:=Paired.length r
theorem Vals.get:∀{xs:List V} {us:List Value} {i:Nat} {x:V},Vals xs us->xs[i]?=some x->∃u,us[i]?=some u/\RelV x u
 | _,_,_,_,.nil,e=>by simp at e
 | _,_,0,_,.cons r _,e=>by simp at e;subst e;exact⟨_,rfl,r⟩
 | _,_,i+1,x,.cons _ t,e=>by
  obtain⟨u,h1,h2⟩:=Vals.get (i:=i) (x:=x) t (by simpa using e)
  exact⟨u,by simpa using h1,h2⟩
theorem Vals.set{x:V}{u:Value}(r:RelV x u):∀{xs:List V} {us:List Value} (i:Nat),Vals xs us->Vals (xs.set i x) (us.set i u)
 | _,_,_,.nil=>.nil
 | _,_,0,.cons _ t=>.cons r t
 | _,_,i+1,.cons q t=>.cons q (Vals.set r i t)
theorem Vals.append:∀{xs ys:List V} {us ws:List Value},Vals xs us->Vals ys ws->Vals (xs++ys) (us++ws)
 | _,_,_,_,.nil,s=>s
 | _,_,_,_,.cons r t,s=>.cons r (Vals.append t s)
theorem Vals.take:∀{xs:List V} {us:List Value} (n:Nat),Vals xs us->Vals (xs.take n) (us.take n)
 | _,_,0,_=>.nil
 | _,_,_+1,.nil=>.nil
 | _,_,n+1,.cons r t=>.cons r (Vals.take n t)
theorem Vals.drop:∀{xs:List V} {us:List Value} (n:Nat),Vals xs us->Vals (xs.drop n) (us.drop n)
 | _,_,0,r=>r
 | _,_,_+1,.nil=>.nil
 | _,_,n+1,.cons _ t=>Vals.drop n t
noncomputable def mn:Option V->Option Value->Prop
 | some v,some u=>RelV v u
 | none,none=>True
 | _,_=>False
noncomputable def KV{κ:Type}:List (κ × V)->List (κ × Value)->Prop:=Paired λ(p:κ × V) (q:κ × Value)=>p.1=q.1/\RelV p.2 q.2
noncomputable def kV:Key->V
 | .inl i=>.int i
 | .inr x=>.str x
inductive HO where
 | lst (xs:List V)
 | tup (xs:List V)
 | dK (dS:List (Key × V)) | dT (dS:List (List Key × V))
 | set (S:Int->Bool) (n:Nat)
 | ins (C dx:Addr) (fs:List (Str × V))
 | own (x:Addr)
 | xd (fs:List (Str × V))
 | met (f x:Addr)
 | AV (lo hi:Int)
 | bu (o:Obj) (u:HO)
 | dN (ps:Array Value)
 | ext (φ:Heap->Prop)
noncomputable abbrev Hp:=Addr->Option HO
noncomputable def upd(H:Hp)(a:Addr)(o:HO):Hp:=λb=>if b=a then some o else H b
theorem bA{H:Hp}{a:Addr}{o:HO}:upd H a o a=some o:=by unfold upd;rw[if_pos rfl]
theorem aV{H:Hp}{a b:Addr}{o:HO}(h:b≠a):upd H a o b=H b:=by unfold upd;rw[if_neg h]
theorem dU{H:Hp}{a b:Addr}{o:HO}(h:H a=some o)(h':H b=none):a≠b:=by
 intro e;subst e;rw[h]at h';cases h'
section
variable(P:Program)(w:World)
noncomputable def eJ(H:Hp)(h:Heap)(a:Addr):HO->Prop
 | .lst xs=>xs.length<=sizeLine/\∃(its:List Value) (n:Nat),Vals xs its/\h.get? a=some { cls:=.type "list",data:=.seq its.toArray n }
 | .tup xs=>xs.length<=sizeLine/\∃its:List Value,Vals xs its/\IsTup h a its.toArray
 | .dK dS=>dS.length<=sizeLine/\(a==sysModules)=false/\∃vs,KV dS vs/\h.DictOf (MM P w) a vs
 | .dT dS=>dS.length<=sizeLine/\(a==sysModules)=false/\∃xs:List (List Key × Addr × Value),
   Paired (λ(p:List Key × V) (q:List Key × Addr × Value)=>p.1=q.1/\H q.2.1=some (.tup (p.1.map kV))/\RelV p.2 q.2.2) dS xs /\
   ∃o es ep,h.get? a=some o/\o.ExactDict/\o.data=.dict es ep/\es.toList=xs.map (entryOfKey (tupleKind (MM P w)))/\(xs.map (·.1)).Nodup
 | .set S n=>h.SetOf (intKind P w) a S n
 | .ins C dx fs=>H dx=some (.own a)/\fs.length<=1000/\dx≠a/\h.get? a=some (PySem.W.instObj C dx) /\
   ∃mA,h.Ns1 dx mA/\(∀f,mn (fs.lookup f) (mA f))/\PySem.Within mA (fs.map (·.1))
 | .own _=>∃o,h.get? a=some o
 | .xd fs=>∃mA,h.Ns1 a mA/\∀f,mn (fs.lookup f) (mA f)
 | .AV lo hi=>∃t u v,h.get? a=some { cls:=.type "range",data:=.fields #[.int lo t,.int hi u,.int 1 v] }
 | .bu o u=>h.get? a=some o/\eJ H h a u
 | .dN ps=>h.get? a=some { cls:=.none,data:=.fields ps }/\TriplesOk ps.toList/\∀pos cv,codeAmong pos ps.toList=some cv->∃c φ,cv=.ref c/\H c=some (.ext φ)/\∀h',φ h'->∃q,h'.CodeRec (.ref c) q
 | .met f x=>h.get? a=some (PySem.W.methodObj (.ref f) (.ref x))
 | .ext φ=>φ h/\(∃o,h.get? a=some o)/\∀h1 h2:Heap,φ h1->(∀b o,(b=a\/H b=some (.own a))->h1.get? b=some o->h2.get? b=some o)->φ h2
noncomputable def dA(H:Hp)(h:Heap):Prop:=∀a o,H a=some o->eJ P w H h a o
end
section
variable{P:Program}{w:World}{H H':Hp}{h h':Heap}{a:Addr}{o:HO}
theorem eJ.lt(x:eJ P w H h a o):a<h.objs.size:=by
 cases o with
 | lst xs=>obtain⟨_,_,_,_,e⟩:=x;exact b9 e
 | tup xs=>obtain⟨_,_,_,p⟩:=x;exact p.lt
 | dK dS=>obtain⟨_,_,_,_,o,_,_,e,_⟩:=x;exact b9 e
 | dT dS=>obtain⟨_,_,_,_,o,_,_,e,_⟩:=x;exact b9 e
 | set S n=>obtain⟨o,_,_,_,e,_⟩:=x;exact b9 e
 | ins C dx fs=>obtain⟨_,_,_,e,_⟩:=x;exact b9 e
 | own y=>obtain⟨_,e⟩:=x;exact b9 e
 | xd fs=>obtain⟨_,⟨_,_,_,e,_⟩,_⟩:=x;exact b9 e
 | AV lo hi=>obtain⟨_,_,_,e⟩:=x;exact b9 e
 | bu ob u=>obtain⟨e,_⟩:=x;exact b9 e
 | dN ps=>exact b9 (show h.get? a=some _ from x.1)
 | met f y=>exact b9 (show h.get? a=some _ from x)
 | ext φ=>obtain⟨_,⟨_,e⟩,_⟩:=x;exact b9 e
theorem Paired.EJ{α β:Type}{F G:α->β->Prop}:∀{l₁:List α} {l₂:List β},Paired F l₁ l₂->(∀a b,F a b->G a b)->Paired G l₁ l₂
 | _,_,.nil,_=>.nil
 | _,_,.cons r t,f=>.cons (f _ _ r) (Paired.EJ t f)
theorem eJ.mq(x:eJ P w H h a o)(k:∀b u,(b=a\/H b=some (.own a))->h.get? b=some u->h'.get? b=some u)
  (ho:∀b,H b=some (.own a)->H' b=some (.own a)) (ht:∀b xs,H b=some (.tup xs)->H' b=some (.tup xs)) (hx:∀b φ,H b=some (.ext φ)->H' b=some (.ext φ)):eJ P w H' h' a o:=by
 induction o with
 | lst xs=>obtain⟨z,its,n,r,e⟩:=x;exact⟨z,its,n,r,k _ _ (.inl rfl) e⟩
 | tup xs=>obtain⟨z,its,r,ob,e,c⟩:=x;exact⟨z,its,r,ob,k _ _ (.inl rfl) e,c⟩
 | dK dS=>obtain⟨z,y,vs,r,ob,es,ep,e,c⟩:=x;exact⟨z,y,vs,r,ob,es,ep,k _ _ (.inl rfl) e,c⟩
 | dT dS =>
  obtain⟨z,y,xs,r,ob,es,ep,e,c⟩:=x
  exact⟨z,y,xs,Paired.EJ r λp q z=>⟨z.1,ht _ _ z.2.1,z.2.2⟩,ob,es,ep,k _ _ (.inl rfl) e,c⟩
 | set S n=>obtain⟨ob,es,ep,t,e,c⟩:=x;exact⟨ob,es,ep,t,k _ _ (.inl rfl) e,c⟩
 | ins C dx fs =>
  obtain⟨d,z,ne,e,mA,⟨od,es,ep,e2,c⟩,r⟩:=x
  exact⟨ho _ d,z,ne,k _ _ (.inl rfl) e,mA,⟨od,es,ep,k _ _ (.inr d) e2,c⟩,r⟩
 | own y=>obtain⟨ob,e⟩:=x;exact⟨ob,k _ _ (.inl rfl) e⟩
 | xd fs=>obtain⟨mA,⟨od,es,ep,e,c⟩,r⟩:=x;exact⟨mA,⟨od,es,ep,k _ _ (.inl rfl) e,c⟩,r⟩
 | AV lo hi=>obtain⟨t,u,v,e⟩:=x;exact⟨t,u,v,k _ _ (.inl rfl) e⟩
 | bu ob u ih=>obtain⟨e,q⟩:=x;exact⟨k _ _ (.inl rfl) e,ih q⟩
 | dN ps =>
  obtain⟨e,t,c⟩:=x
  refine⟨k a _ (.inl rfl) e,t,λpos cv q=>?_⟩
  obtain⟨d,φ,e1,e2,e3⟩:=c pos cv q
  exact⟨d,φ,e1,hx _ _ e2,e3⟩
 | met f y =>
  have e:h.get? a=some (PySem.W.methodObj (.ref f) (.ref y)):=x
  show h'.get? a=some (PySem.W.methodObj (.ref f) (.ref y))
  exact k a _ (.inl rfl) e
 | ext φ=>obtain⟨p,⟨o,e⟩,st⟩:=x;exact⟨st _ _ p λb o hb q=>k _ _ hb q,⟨o,k _ _ (.inl rfl) e⟩,λh1 h2 p1 kk=>st h1 h2 p1 λb o hb q=>kk b o (hb.imp id (ho b)) q⟩
theorem dA.lt(x:dA P w H h)(e:H a=some o):a<h.objs.size:=(x a o e).lt
theorem dA.fresh(x:dA P w H h)(e:h.objs.size<=a):H a=none:=by
 cases q:H a with
 | none=>rfl
 | some u=>exact absurd (dz (x.lt q) e) (gU _)
theorem dA.kept(x:dA P w H h)(k:∀b u,h.get? b=some u->h'.get? b=some u):dA P w H h':=λa o e =>
 (x a o e).mq (λb u _ q=>k b u q) (λ_ q=>q) (λ_ _ q=>q) λ_ _ q=>q
theorem dA.laid(x:dA P w H h)(k:∀b u,h.get? b=some u->h'.get? b=some u)(hp:h.objs.size<=a)(new:eJ P w (upd H a o) h' a o):dA P w (upd H a o) h':=λb u e=>by
 have hn:=x.fresh hp
 by_cases hb:b=a
 ·subst hb;rw[bA]at e;cases e;exact new
 ·rw[aV hb]at e
  exact(x b u e).mq (λc v _ q=>k c v q) (λc q=>by rw[aV (dU q hn)];exact q) (λc xs q=>by rw[aV (dU q hn)];exact q) λc xs q=>by rw[aV (dU q hn)];exact q
end
noncomputable def Rd(H:Hp)(a:Addr)(u:HO):Prop:=H a=some u\/∃o,H a=some (.bu o u)
theorem Rd.ok{P:Program}{w:World}{H:Hp}{h:Heap}{a:Addr}{u:HO}(r:Rd H a u)(x:dA P w H h):eJ P w H h a u:=by
 rcases r with r | ⟨o,r⟩
 ·exact x a u r
 ·obtain⟨_,q⟩:=x a _ r
  exact q
noncomputable def AW:Option HO->Prop
 | some (.lst _)=>True
 | some (.dK _)=>True
 | some (.dT _)=>True
 | some (.set _ _)=>True
 | some (.ins _ _ _)=>True
 | _=>False
section
variable{P:Program}{w:World}{H:Hp}{h h':Heap}{x e:Addr}{o':HO}
theorem dA.write(ok:dA P w H h)(mu:AW (H x))(he:e=x\/H e=some (.own x))(k:∀b u,b≠e->h.get? b=some u->h'.get? b=some u)(v7:∃u,h'.get? e=some u)
  (new:eJ P w (upd H x o') h' x o'):dA P w (upd H x o') h':=λb u q=>by
 have MN:∀c y,H c=some (.own y)->c≠x:=λc y r z=>by subst z;rw[r]at mu;exact mu
 have Xf:∀c xs,H c=some (.tup xs)->c≠x:=λc xs r z=>by subst z;rw[r]at mu;exact mu
 by_cases hb:b=x
 ·subst hb;rw[bA]at q;cases q;exact new
 ·rw[aV hb]at q
  by_cases tM:b=e
  ·have q':H b=some (.own x):=by
    rcases he with z | z
    ·exact absurd (tM.trans z) hb
    ·rw[tM];exact z
   rw[q]at q';cases q'
   obtain⟨v,hv⟩:=v7
   exact⟨v,by rw[tM];exact hv⟩
  ·refine(ok b u q).mq (λc v hc r=>k c v ?_ r) (λc r=>by rw[aV (MN c b r)];exact r) (λc xs r=>by rw[aV (Xf c xs r)];exact r) λc φ r=>by rw[aV (λz=>by rw[z]at r;rw[r]at mu;exact mu)];exact r
   rcases hc with rfl | hc
   ·exact tM
   ·rintro rfl
    rcases he with z | z
    ·exact MN c b hc z
    ·rw[hc]at z;cases z;exact hb rfl
end
structure Un(fs ex:List Addr)(H H':Hp)(h h':Heap):Prop where
 keep:∀b o,h.get? b=some o->H b=none->b ∉ fs->b ∉ ex->h'.get? b=some o
 slot:∀b o,h.get? b=some o->H b=none->b∈fs->b ∉ ex->∃sl,h'.get? b=some { o with slots:=sl }
 free:∀b o,h.get? b=some o->H b=none->b ∉ ex->H' b=none
 there:∀b o,h.get? b=some o->b ∉ ex->∃o',h'.get? b=some o'
 kU:∀b xs,H b=some (.tup xs)->H' b=some (.tup xs)
 kz:∀b o u,H b=some (.bu o u)->H' b=some (.bu o u)
 jz:∀b ps,H b=some (.dN ps)->∃more,H' b=some (.dN (ps++more))
section
variable{fs fs' ex ex':List Addr}{H H1 H2:Hp}{h h1 h2 h':Heap}{a x e:Addr}{o:HO}
theorem Un.any(u:Un fs ex H H1 h h1){b:Addr}{ob:Obj}(q:h.get? b=some ob)(n:H b=none)(hx:b ∉ ex):∃sl,h1.get? b=some { ob with slots:=sl }:=by
 by_cases hb:b∈fs
 ·exact u.slot b ob q n hb hx
 ·exact⟨ob.slots,u.keep b ob q n hb hx⟩
theorem Un.kept(k:∀b u,h.get? b=some u->h'.get? b=some u):Un fs ex H H h h' :=
 ⟨λb ob q _ _ _=>k b ob q,λb ob q _ _ _=>⟨ob.slots,k b ob q⟩,λ_ _ _ n _=>n,λb ob q _=>⟨ob,k b ob q⟩,λ_ _ q=>q,λ_ _ _ q=>q,λ_ ps q=>⟨#[],by rw[q];simp⟩⟩
theorem Un.refl:Un fs ex H H h h:=Un.kept λ_ _ q=>q
theorem Un.laid(k:∀b u,h.get? b=some u->h'.get? b=some u)(hp:h.objs.size<=a)(hn:H a=none):Un fs ex H (upd H a o) h h' where
 keep:=λb u q _ _ _=>k b u q
 slot:=λb u q _ _ _=>⟨u.slots,k b u q⟩
 free:=λb u q n _=>by rw[aV (gh (dz (b9 q) hp))];exact n
 there:=λb u q _=>⟨u,k b u q⟩
 kU:=λb xs q=>by rw[aV (dU q hn)];exact q
 kz:=λb u xs q=>by rw[aV (dU q hn)];exact q
 jz:=λb ps q=>⟨#[],by rw[aV (dU q hn),q];simp⟩
theorem Un.write(mu:AW (H x))(he:e=x\/H e=some (.own x))(k:∀b u,b≠e->h.get? b=some u->h'.get? b=some u)(v7:∃u,h'.get? e=some u):Un fs ex H (upd H x o) h h':=by
 have hx:∀b,H b=none->b≠x:=λb n z=>by subst z;rw[n]at mu;exact mu
 have hb:∀b,H b=none->b≠e:=λb n z=>by
  subst z
  rcases he with r | r
  ·exact hx b n r
  ·rw[n]at r;cases r
 have hm:∀b u,H b=some u->¬ AW (some u)->b≠x:=λb u q nm z=>by subst z;rw[q]at mu;exact nm mu
 refine⟨λb u q n _ _=>k b u (hb b n) q,λb u q n _ _=>⟨u.slots,k b u (hb b n) q⟩,λb u q n _=>by rw[aV (hx b n)];exact n,λb u q _=>?_,
  λb xs q=>by rw[aV (hm b _ q λz=>z)];exact q,λb u xs q=>by rw[aV (hm b _ q λz=>z)];exact q,λb ps q=>⟨#[],by rw[aV (hm b _ q λz=>z),q];simp⟩⟩
 by_cases tM:b=e
 ·subst tM;exact v7
 ·exact⟨u,k b u tM q⟩
end
noncomputable def AX(h:Heap)(H:Hp):List Addr:=(aF h.objs.size).filter λa=>(H a).isSome
noncomputable def mw(h:Heap)(H:Hp):Heap:=PySem.W.hideAll h (AX h H)
theorem Xg(h:Heap)(H:Hp):(mw h H).objs.size=h.objs.size:=PySem.W.hideAll_size _ _
theorem Xh{h:Heap}{H:Hp}{b:Addr}{o:Obj}(e:h.get? b=some o)(n:H b=none):(mw h H).get? b=some o :=
 PySem.W.hideAll_get _ e λhm=>by
  have q:(H b).isSome=true:=(qf.mp hm).2
  rw[n]at q;simp at q
theorem Xi{h:Heap}{H:Hp}{b:Addr}{o:Obj}(e:(mw h H).get? b=some o):h.get? b=some o/\H b=none:=by
 have e':h.get? b=some o:=PySem.W.of_hideAll (AX h H) e
 refine⟨e',?_⟩
 cases q:H b with
 | none=>rfl
 | some x =>
  have hm:b∈AX h H:=qf.mpr ⟨cA.mpr (b9 e'),by simp[q]⟩
  have z:(mw h H).get? b=none:=PySem.W.hideAll_none (AX h H) hm
  rw[z]at e;cases e
end L2
namespace L2
open PySem PySem.Spec PyProof.Rows
structure Mod(K:PySem.W.Frag)(mg:Str->Option Value)(base:Heap):Prop where
 tN:K.In base
 glob:base.Ns mainGlobals mg
 blt:∃mb,base.Ns builtinsNs mb/\∀x:Str,x≠"__name__"->mb x=bootBuiltins x
 nolimit:base.NoLimit
structure Cx where
 prog:Program
 w:World
 K:PySem.W.Frag
 mg:Str->Option Value
 base:Heap
 A:Around
 N:List Str
 eA:Shared
 mx:Hp
 env:Env
 outer:List Env
 stack:List Env
 ex:List Addr
 fn:Str->Bool
 calm:Bool
 pn:List (Addr × Obj)
 xe:Value->Shared->Prop
noncomputable def jA(l:List Env):List Addr:=l.filterMap (·.frame)
noncomputable abbrev Cx.fs(X:Cx):List Addr:=jA X.outer
noncomputable def jY(sc:Scope)(x:Str):Prop:=sc.names.lookup x=some .local\/sc.names.lookup x=some .cell\/sc.names.lookup x=some .free
noncomputable def Loc(sc:Scope)(x:Str):Prop:=sc.names.lookup x=some .local\/sc.names.lookup x=some .cell
noncomputable def Xj(env:Env)(h:Heap)(m:Str->Option Value)(x:Str)(u:Value):Prop :=
 (env.kindOf x=some .local/\m x=some u)\/((env.kindOf x=some .cell\/env.kindOf x=some .free)/\∃c,env.cells.lookup x=some c/\h.IsCell c (some u))
structure Cx.Ok(X:Cx):Prop where
 mod:Mod X.K X.mg X.base
 kind:X.env.scope.kind=.function
 glob:X.env.globals=mainGlobals
 blt:X.env.builtins=builtinsNs
 above:X.eA.heap.objs.size<=X.env.locals
 inj:∀x y c,X.env.cells.lookup x=some c->X.env.cells.lookup y=some c->x=y
 has:∀x,(X.env.kindOf x=some .cell\/X.env.kindOf x=some .free)->∃c,X.env.cells.lookup x=some c
 tO:∀x c,X.fn x=true->X.env.cells.lookup x=some c->X.eA.heap.objs.size<=c
 hd:X.calm=true->X.A.handled=none
 frames:X.A.frames=some X.stack
 xX:X.stack=X.outer\/(X.stack=X.env::X.outer/\X.env.frame=some X.env.locals)
 xY:∀b∈X.ex,b≠X.env.locals/\∀x c,X.env.cells.lookup x=some c->c≠b
 bs:∀b o,X.base.get? b=some o->X.eA.heap.get? b=some o/\X.mx b=none
 kA:X.base.objs.size<=X.eA.heap.objs.size
 v9:∀b o,X.base.get? b=some o->b ∉ X.ex
 wa:∀b∈X.ex,b ∉ X.fs
 hZ:X.eA.heap.FunFrames X.base X.outer
 kB:∀b∈X.fs,X.mx b=none
structure Inv(X:Cx)(pins:List (Addr × Obj))(σ:List (Option V))(H:Hp)(s:Shared):Prop where
 ok:X.Ok
 os:s.os=X.eA.os
 bare:AllBare s.gens
 base:Un X.fs X.ex X.mx H X.eA.heap s.heap
 loc:∃m,s.heap.Ns X.env.locals m/\∀(i:Nat) (x:Str) (v:V),X.N[i]?=some x->σ[i]?=some (some v)->jY X.env.scope x->∃u,RelV v u/\Xj X.env s.heap m x u
 cell:∀x c,X.env.cells.lookup x=some c->∃v,s.heap.IsCell c v
 free:H X.env.locals=none
 jZ:∀x c,X.env.cells.lookup x=some c->H c=none
 pin:∀p∈X.pn++pins,s.heap.get? p.1=some p.2/\H p.1=none/\p.1≠X.env.locals/\p.1 ∉ X.fs/\∀v,p.2.data≠.cell v
 aS:dA X.prog X.w H s.heap
 len:σ.length=X.N.length
section
variable{X:Cx}{pins:List (Addr × Obj)}{σ:List (Option V)}{H H':Hp}{s:Shared}{h':Heap}
theorem Cx.Ok.Xk(ok:X.Ok){b:Addr}{o:Obj}(e:X.base.get? b=some o):b ∉ X.fs:=λhb=>by
 have:=(ok.hZ.mem hb).1
 rw[e]at this;cases this
theorem Inv.bs(I:Inv X pins σ H s):∀b o,X.base.get? b=some o->s.heap.get? b=some o/\H b=none:=λb o e =>
 ⟨I.base.keep b o (I.ok.bs b o e).1 (I.ok.bs b o e).2 (I.ok.Xk e) (I.ok.v9 b o e),I.base.free b o (I.ok.bs b o e).1 (I.ok.bs b o e).2 (I.ok.v9 b o e)⟩
theorem Inv.bk(I:Inv X pins σ H s):∀b o,X.base.get? b=some o->s.heap.get? b=some o:=λb o e=>(I.bs b o e).1
theorem Inv.mod(I:Inv X pins σ H s):Mod X.K X.mg X.base:=I.ok.mod
theorem Inv.dB(I:Inv X pins σ H s):X.K.In s.heap:=I.ok.mod.tN.keeps I.bk
theorem Inv.lt(I:Inv X pins σ H s):X.env.locals<s.heap.objs.size:=let⟨_,hn,_⟩:=I.loc;hn.lt
theorem Inv.sz(I:Inv X pins σ H s):X.eA.heap.objs.size<=s.heap.objs.size:=fE I.ok.above (AA I.lt)
theorem Inv.MP(I:Inv X pins σ H s){a:Addr}(h:s.heap.objs.size<=a):a ∉ X.fs:=λhb=>by
 obtain⟨_,o,ho,_⟩:=I.ok.hZ.mem hb
 exact absurd (dz (b9 ho) (fE I.sz h)) (gU _)
theorem Inv.qy(I:Inv X pins σ H s):∀x c,X.env.cells.lookup x=some c->c≠X.env.locals:=λx c e z=>by
 obtain⟨v,o,ho,hd⟩:=I.cell x c e
 obtain⟨m,⟨o',es,ep,kW,xZ,_⟩,_⟩:=I.loc
 rw[z,kW]at ho;cases ho;rw[xZ]at hd;cases hd
theorem Inv.hZ(I:Inv X pins σ H s):s.heap.FunFrames X.base X.outer:=by
 have all:∀(l:List Env),(∀b∈jA l,b∈X.fs)->X.eA.heap.FunFrames X.base l->s.heap.FunFrames X.base l:=by
  intro l
  induction l with
  | nil=>intro _ _;trivial
  | cons env r ih =>
   intro hs hl
   obtain⟨hk,⟨L,o,hf,hn,ho,hd⟩,hr⟩:=hl
   have hL:L∈X.fs:=hs L (by unfold jA;rw[Mc,hf];exact gE)
   obtain⟨sl,e⟩:=I.base.slot L o ho (I.ok.kB L hL) hL λz=>I.ok.wa L z hL
   exact⟨hk,⟨L,_,hf,hn,e,hd⟩,ih (λb hb=>hs b (by unfold jA;rw[Mc,hf];exact eG _ hb)) hr⟩
 exact all X.outer (λ_ hb=>hb) I.ok.hZ
theorem Inv.stack(I:Inv X pins σ H s):s.heap.FunFrames X.base X.stack:=by
 rcases I.ok.xX with e | ⟨e,hf⟩
 ·rw[e];exact I.hZ
 ·rw[e]
  obtain⟨m,hn,_⟩:=I.loc
  refine .cons (by rw[I.ok.kind];decide) hf hn ?_ I.hZ
  exact Heap.get?_none_of_le (fE I.ok.kA I.ok.above)
theorem Inv.AY(I:Inv X pins σ H s):∀b∈jA X.stack,b∈X.env.locals::X.fs:=λb hb=>by
 rcases I.ok.xX with e | ⟨e,hf⟩
 ·rw[e]at hb;exact eG _ hb
 ·rw[e]at hb
  unfold jA at hb
  rw[Mc,hf]at hb
  exact hb
theorem Inv.MQ(I:Inv X pins σ H s):∀b∈jA X.stack,H b=none:=λb hb=>by
 rcases cj.mp (I.AY b hb)with e | hb
 ·rw[e];exact I.free
 ·obtain⟨_,o,ho,_⟩:=I.ok.hZ.mem hb
  exact I.base.free b o ho (I.ok.kB b hb) λz=>I.ok.wa b z hb
theorem Inv.step{g':Array GenState}{t':Nat}{d':Drawn}{ch:List Addr}(I:Inv X pins σ H s)
  (my:∀b∈ch,(b∈X.ex\/X.eA.heap.objs.size<=b)/\b≠X.env.locals/\(∀x c,X.env.cells.lookup x=some c->c≠b)/\∀p∈X.pn++pins,p.1≠b)
  (keep:∀b o,b≠X.env.locals->b ∉ X.fs->b ∉ ch->s.heap.get? b=some o->H b=none->h'.get? b=some o)
  (slot:∀b o,b≠X.env.locals->b∈X.fs->b ∉ ch->s.heap.get? b=some o->H b=none->∃sl,h'.get? b=some { o with slots:=sl }) (free:∀b o,b ∉ ch->s.heap.get? b=some o->H b=none->H' b=none)
  (there:∀b o,b ∉ ch->s.heap.get? b=some o->∃o',h'.get? b=some o')
  (kU:∀b xs,H b=some (.tup xs)->H' b=some (.tup xs)) (kz:∀b o u,H b=some (.bu o u)->H' b=some (.bu o u)) (jz:∀b ps,H b=some (.dN ps)->∃more,H' b=some (.dN (ps++more)))
  (ns:∀m,s.heap.Ns X.env.locals m->h'.Ns X.env.locals m) (aS:dA X.prog X.w H' h') (hg:AllBare g') :
  Inv X pins σ H' { s with heap:=h',gens:=g',drawn:=d',toks:=t' }:=by
 have MR:∀b o,X.eA.heap.get? b=some o->b≠X.env.locals:=λb o e=>gh (dz (b9 e) I.ok.above)
 have wb:∀b o,X.eA.heap.get? b=some o->b ∉ X.ex->b ∉ ch:=λb o e hx hb=>by
  rcases(my b hb).1 with z | z
  ·exact hx z
  ·exact absurd (dz (b9 e) z) (gU _)
 have cellK:∀x c,X.env.cells.lookup x=some c->∀v,s.heap.IsCell c v->h'.IsCell c v:=λx c e v ⟨o,ho,hd⟩=>by
  have x6:c ∉ ch:=λz=>(my c z).2.2.1 x c e rfl
  by_cases hc:c∈X.fs
  ·obtain⟨sl,q⟩:=slot c o (I.qy x c e) hc x6 ho (I.jZ x c e)
   exact⟨_,q,hd⟩
  ·exact⟨o,keep c o (I.qy x c e) hc x6 ho (I.jZ x c e),hd⟩
 refine⟨I.ok,I.os,hg,⟨λb o e n hb hx=>?_,λb o e n hb hx=>?_,λb o e n hx=>?_,λb o e hx=>?_,λb xs e=>kU b xs (I.base.kU b xs e),λb o xs e=>kz b o xs (I.base.kz b o xs e),λb ps e=>?_⟩,?_,λx c e=>?_,?_,λx c e=>?_,λp hp=>?_,aS,I.len⟩
 ·exact keep b o (MR b o e) hb (wb b o e hx) (I.base.keep b o e n hb hx) (I.base.free b o e n hx)
 ·obtain⟨sl,e1⟩:=I.base.slot b o e n hb hx
  obtain⟨Xl,e2⟩:=slot b _ (MR b o e) hb (wb b o e hx) e1 (I.base.free b o e n hx)
  exact⟨Xl,e2⟩
 ·obtain⟨o',e1⟩:=I.base.there b o e hx
  exact free b o' (wb b o e hx) e1 (I.base.free b o e n hx)
 ·obtain⟨o',e1⟩:=I.base.there b o e hx
  exact there b o' (wb b o e hx) e1
 ·obtain⟨m1,e1⟩:=I.base.jz b ps e
  obtain⟨m2,e2⟩:=jz b _ e1
  exact⟨m1++m2,by rw[e2,vK]⟩
 ·obtain⟨m,hn,hl⟩:=I.loc
  refine⟨m,ns m hn,λi x v e1 e2 e3=>?_⟩
  obtain⟨u,r,l⟩:=hl i x v e1 e2 e3
  refine⟨u,r,?_⟩
  rcases l with l | ⟨k,c,e,z⟩
  ·exact .inl l
  ·exact .inr ⟨k,c,e,cellK x c e _ z⟩
 ·obtain⟨v,z⟩:=I.cell x c e
  exact⟨v,cellK x c e v z⟩
 ·obtain⟨m,⟨o,_,_,ho,_⟩,_⟩:=I.loc
  exact free _ o (λz=>(my _ z).2.1 rfl) ho I.free
 ·obtain⟨v,o,ho,hd⟩:=I.cell x c e
  exact free c o (λz=>(my c z).2.2.1 x c e rfl) ho (I.jZ x c e)
 ·obtain⟨e,n,ne,nf,d⟩:=I.pin p hp
  have x6:p.1 ∉ ch:=λz=>(my p.1 z).2.2.2 p hp rfl
  exact⟨keep p.1 p.2 ne nf x6 e n,free p.1 p.2 x6 e n,ne,nf,d⟩
theorem Inv.un{t':Nat}(I:Inv X pins σ H s)(u:Un X.fs [] H H' s.heap h')(aS:dA X.prog X.w H' h'):Inv X pins σ H' { s with heap:=h',toks:=t' }:=by
 obtain⟨m,⟨o,es,ep,ho,r⟩,_⟩:=id I.loc
 obtain⟨sl,hL⟩:=u.any ho I.free (by simp)
 exact I.step (g':=s.gens) (d':=s.drawn) (ch:=[]) (λ_ z=>nomatch z) (λb o _ hb _ e n=>u.keep b o e n hb (by simp)) (λb o _ hb _ e n=>u.slot b o e n hb (by simp)) (λb o _ e n=>u.free b o e n (by simp)) (λb o _ e=>u.there b o e (by simp)) u.kU u.kz u.jz (λm' hm=>by
  obtain⟨o',EK,EL,kW,r'⟩:=hm
  rw[ho]at kW;cases kW
  exact⟨_,EK,EL,hL,r'⟩) aS I.bare
theorem Inv.call{g':Array GenState}{t':Nat}{d':Drawn}{ch:List Addr}(I:Inv X pins σ H s)(u:Un (jA X.stack) ch H H' s.heap h')(aS:dA X.prog X.w H' h')(hg:AllBare g')
  (my:∀b∈ch,(b∈X.ex\/X.eA.heap.objs.size<=b)/\b≠X.env.locals/\(∀x c,X.env.cells.lookup x=some c->c≠b)/\∀p∈X.pn++pins,p.1≠b) :
  Inv X pins σ H' { s with heap:=h',gens:=g',drawn:=d',toks:=t' }:=by
 obtain⟨m,⟨o,es,ep,ho,r⟩,_⟩:=id I.loc
 obtain⟨sl,hL⟩:=u.any ho I.free λz=>(my _ z).2.1 rfl
 exact I.step (ch:=ch) my (λb o hL hb hc e n=>u.keep b o e n (λz=>(cj.mp (I.AY b z)).elim hL hb) hc) (λb o _ _ hc e n=>u.any e n hc) (λb o hc e n=>u.free b o e n hc) (λb o hc e=>u.there b o e hc) u.kU u.kz u.jz (λm' hm=>by
  obtain⟨o',EK,EL,kW,r'⟩:=hm
  rw[ho]at kW;cases kW
  exact⟨_,EK,EL,hL,r'⟩) aS hg
theorem Inv.turned{t':Nat}{it:Addr}(I:Inv X pins σ H s)(k:∀b o,b≠it->s.heap.get? b=some o->h'.get? b=some o)(hn:H it=none)(hL:it≠X.env.locals)
  (h1:it∈X.ex\/X.eA.heap.objs.size<=it) (h2:∀x c,X.env.cells.lookup x=some c->c≠it) (h3:∀p∈X.pn++pins,p.1≠it):Inv X pins σ H { s with heap:=h',toks:=t' }:=by
 have qA:∀b u,H b=some u->b≠it:=λb u e z=>by rw[z,hn]at e;cases e
 refine I.step (g':=s.gens) (d':=s.drawn) (ch:=[it]) (λb hb=>?_) (λb o _ _ hc e _=>k b o (λz=>hc (by simp[z])) e) (λb o _ _ hc e _=>⟨o.slots,k b o (λz=>hc (by simp[z])) e⟩) (λ_ _ _ _ n=>n)
  (λb o hc e=>⟨o,k b o (λz=>hc (by simp[z])) e⟩) (λ_ _ e=>e) (λ_ _ _ e=>e) (λb ps e=>⟨#[],by rw[e];simp⟩) (λm hm=>?_) (λb u e=>?_) I.bare
 ·have e:b=it:=by simpa using hb
  subst e
  exact⟨h1,hL,h2,h3⟩
 ·obtain⟨o,es,ep,ho,r⟩:=hm
  exact⟨o,es,ep,k _ o (gW hL) ho,r⟩
 ·refine(I.aS b u e).mq (λc v hc q=>k c v ?_ q) (λ_ q=>q) (λ_ _ q=>q) λ_ _ q=>q
  rcases hc with z | z
  ·rw[z];exact qA b u e
  ·exact qA c _ z
theorem Inv.tok(I:Inv X pins σ H s)(t:Nat):Inv X pins σ H { s with toks:=t }:=I.un (h':=s.heap) (t':=t) Un.refl I.aS
theorem Inv.kept{t':Nat}(I:Inv X pins σ H s)(k:∀b u,s.heap.get? b=some u->h'.get? b=some u):Inv X pins σ H { s with heap:=h',toks:=t' }:=I.un (Un.kept k) (I.aS.kept k)
theorem Inv.laid{a:Addr}{o:HO}{t':Nat}(I:Inv X pins σ H s)(k:∀b u,s.heap.get? b=some u->h'.get? b=some u)(hp:s.heap.objs.size<=a)(new:eJ X.prog X.w (upd H a o) h' a o) :
  Inv X pins σ (upd H a o) { s with heap:=h',toks:=t' }:=I.un (Un.laid k hp (I.aS.fresh hp)) (I.aS.laid k hp new)
theorem Inv.write{x e:Addr}{o:HO}{t':Nat}(I:Inv X pins σ H s)(mu:AW (H x))(he:e=x\/H e=some (.own x))(k:∀b u,b≠e->s.heap.get? b=some u->h'.get? b=some u)(v7:∃u,h'.get? e=some u)
  (new:eJ X.prog X.w (upd H x o) h' x o):Inv X pins σ (upd H x o) { s with heap:=h',toks:=t' }:=I.un (Un.write mu he k v7) (I.aS.write mu he k v7 new)
theorem Inv.weak{aK:List (Option V)}(I:Inv X pins σ H s)(hl:aK.length=σ.length)(w:∀(i:Nat) v,aK[i]?=some (some v)->σ[i]?=some (some v)):Inv X pins aK H s :=
 ⟨I.ok,I.os,I.bare,I.base,let⟨m,hn,nO⟩:=I.loc;⟨m,hn,λi x v e1 e2 e3=>nO i x v e1 (w i v e2) e3⟩,I.cell,I.free,I.jZ,I.pin,I.aS,hl.trans I.len⟩
theorem Inv.MS{EM:List (Addr × Obj)}(I:Inv X pins σ H s)(h:∀p∈EM,s.heap.get? p.1=some p.2/\H p.1=none/\p.1≠X.env.locals/\p.1 ∉ X.fs/\∀v,p.2.data≠.cell v):Inv X EM σ H s :=
 ⟨I.ok,I.os,I.bare,I.base,I.loc,I.cell,I.free,I.jZ,λp hp=>(cg.mp hp).elim (λz=>I.pin p (dZ _ z)) (h p),I.aS,I.len⟩
theorem MT{N:List Str}(hN:N.Nodup){i j:Nat}{x:Str}(a:N[i]?=some x)(b:N[j]?=some x):i=j:=by
 obtain⟨h1,e1⟩:=ky.mp a
 obtain⟨h2,e2⟩:=ky.mp b
 exact(List.getElem_inj hN).mp (e1.trans e2.symm)
theorem Xm{M:Model}{A:Around}{E:Value->Shared->Prop}{i:Nat}{x:Str}{v:V}{u:Value}{Q:Unit->Shared->Prop}(I:Inv X pins σ H s)(hN:X.N.Nodup)(hi:X.N[i]?=some x)(hx:Loc X.env.scope x)(r:RelV v u)
  (h:∀s',Inv X pins (σ.set i (some v)) H s'->(∃a,Heap.SameBut a s.heap s'.heap/\(a=X.env.locals\/X.env.cells.lookup x=some a))->Q () s') (hf:X.fn x=true\/X.env.scope.names.lookup x=some .local:=by first | exact .inl rfl | exact .inr rfl | assumption):wpAny M A (storeName X.env x u) Q E s:=by
 obtain⟨m,hn,hl⟩:=id I.loc
 have Xn:(X.env.scope.kind==.class||(X.env.scope.kind==.module&&X.env.locals != X.env.globals))=false:=by rw[I.ok.kind];rfl
 have MU:i<σ.length:=by rw[I.len];exact(ky.mp hi).1
 have qy:=I.qy
 have tracked:∀{a:Addr} {h':Heap},(∃o,s.heap.get? a=some o/\H a=none)->Heap.SameBut a s.heap h'->dA X.prog X.w H h':=λ{a h'} ha hs b ob e=>by
  obtain⟨_,_,MV⟩:=ha
  refine(I.aS b ob e).mq (λc w' hc q=>(hs.2 c ?_).trans q) (λ_ q=>q) (λ_ _ q=>q) λ_ _ q=>q
  rintro rfl
  rcases hc with rfl | hc
  ·rw[MV]at e;cases e
  ·rw[MV]at hc;cases hc
 rcases hx with hk | hk
 ·refine wpAny_storeName_local hk hn (λh' Xo hs=>?_) Xn
  obtain⟨oL,_,_,Xp,_⟩:=id hn
  refine h _ ⟨I.ok,I.os,I.bare,⟨λb o e n hb hx=>?_,λb o e n hb hx=>?_,I.base.free,λb o e hx=>?_,I.base.kU,I.base.kz,I.base.jz⟩,⟨_,Xo,λj y v' e1 e2 e3=>?_⟩,λy c e=>?_,I.free,I.jZ,λp hp=>?_,tracked ⟨oL,Xp,I.free⟩ hs,by simpa using I.len⟩ ⟨_,hs,.inl rfl⟩
  ·exact(hs.2 b (gh (dz (b9 e) I.ok.above))).trans (I.base.keep b o e n hb hx)
  ·obtain⟨sl,e1⟩:=I.base.slot b o e n hb hx
   exact⟨sl,(hs.2 b (gh (dz (b9 e) I.ok.above))).trans e1⟩
  ·obtain⟨o',e1⟩:=I.base.there b o e hx
   exact⟨o',(hs.2 b (gh (dz (b9 e) I.ok.above))).trans e1⟩
  ·by_cases hj:j=i
   ·subst hj
    rw[hi]at e1;cases e1
    rw[xF MU]at e2
    cases e2
    exact⟨u,r,.inl ⟨hk,by simp⟩⟩
   ·rw[sZ (gW hj)]at e2
    obtain⟨u',r',q⟩:=hl j y v' e1 e2 e3
    refine⟨u',r',?_⟩
    rcases q with⟨k,e⟩ | ⟨k,c,e,z⟩
    ·refine .inl ⟨k,?_⟩
     have:y≠x:=λe=>hj (MT hN e1 (e ▸ hi))
     simp[this,e]
    ·exact .inr ⟨k,c,e,z.sameBut hs (qy y c e)⟩
  ·obtain⟨w',z⟩:=I.cell y c e
   exact⟨w',z.sameBut hs (qy y c e)⟩
  ·obtain⟨e,n,ne,nf,d⟩:=I.pin p hp
   exact⟨(hs.2 p.1 ne).trans e,n,ne,nf,d⟩
 ·have x8:X.fn x=true:=by
   rcases hf with z | z
   ·exact z
   ·rw[z]at hk;cases hk
  obtain⟨c,hc⟩:=I.ok.has x (.inl hk)
  obtain⟨w',z⟩:=I.cell x c hc
  refine wpAny_storeName_cell I.ok.kind hk hc z (λh' x9 hs=>?_)
  obtain⟨oc,jB,Xq⟩:=id z
  refine h { s with heap:=h' } ⟨I.ok,I.os,I.bare,⟨λb o e n hb hx=>?_,λb o e n hb hx=>?_,I.base.free,λb o e hx=>?_,I.base.kU,I.base.kz,I.base.jz⟩,⟨m,hn.sameBut hs (gW (qy x c hc)),λj y v' e1 e2 e3=>?_⟩,λy c' e=>?_,I.free,I.jZ,λp hp=>?_,tracked ⟨oc,jB,I.jZ x c hc⟩ hs,by simpa using I.len⟩ ⟨c,hs,.inr hc⟩
  ·exact(hs.2 b (gh (dz (b9 e) (I.ok.tO x c x8 hc)))).trans (I.base.keep b o e n hb hx)
  ·obtain⟨sl,e1⟩:=I.base.slot b o e n hb hx
   exact⟨sl,(hs.2 b (gh (dz (b9 e) (I.ok.tO x c x8 hc)))).trans e1⟩
  ·obtain⟨o',e1⟩:=I.base.there b o e hx
   exact⟨o',(hs.2 b (gh (dz (b9 e) (I.ok.tO x c x8 hc)))).trans e1⟩
  ·by_cases hj:j=i
   ·subst hj
    rw[hi]at e1;cases e1
    rw[xF MU]at e2
    cases e2
    exact⟨u,r,.inr ⟨.inl hk,c,hc,x9⟩⟩
   ·rw[sZ (gW hj)]at e2
    obtain⟨u',r',q⟩:=hl j y v' e1 e2 e3
    refine⟨u',r',?_⟩
    rcases q with q | ⟨k,c',e,z'⟩
    ·exact .inl q
    ·refine .inr ⟨k,c',e,z'.sameBut hs ?_⟩
     rintro rfl
     exact hj (MT hN e1 (I.ok.inj _ _ _ e hc ▸ hi))
  ·by_cases MW:c'=c
   ·subst MW;exact⟨_,x9⟩
   ·obtain⟨w2,z2⟩:=I.cell y c' e
    exact⟨w2,z2.sameBut hs MW⟩
  ·obtain⟨e,n,ne,nf,d⟩:=I.pin p hp
   refine⟨(hs.2 p.1 ?_).trans e,n,ne,nf,d⟩
   intro q
   rw[q,jB]at e
   have q':oc=p.2:=dh e
   exact d w' (by rw[<-q'];exact Xq)
theorem EN{M:Model}{A:Around}{E:Value->Shared->Prop}{i:Nat}{x:Str}{v:V}{u:Value}{Q:Unit->Shared->Prop}(I:Inv X pins σ H s)(hN:X.N.Nodup)(hi:X.N[i]?=some x)(hx:Loc X.env.scope x)(r:RelV v u)
  (h:∀s',Inv X pins (σ.set i (some v)) H s'->Q () s') (hf:X.fn x=true\/X.env.scope.names.lookup x=some .local:=by first | exact .inl rfl | exact .inr rfl | assumption):wpAny M A (storeName X.env x u) Q E s :=
 Xm I hN hi hx r (λs' I' _=>h s' I') hf
theorem Inv.Xr{s':Shared}{ch:List Addr}(I:Inv X pins σ H s)(ho:s'.os=s.os)(u:Un (jA X.stack) ch H H' s.heap s'.heap)(aS:dA X.prog X.w H' s'.heap)(hg:AllBare s'.gens)
  (my:∀b∈ch,(b∈X.ex\/X.eA.heap.objs.size<=b)/\b≠X.env.locals/\(∀x c,X.env.cells.lookup x=some c->c≠b)/\∀p∈X.pn++pins,p.1≠b):Inv X pins σ H' s':=by
 obtain⟨h',g',d',t',o'⟩:=s'
 have e:o'=s.os:=ho
 subst e
 exact I.call (g':=g') (t':=t') (d':=d') u aS hg my
end
noncomputable abbrev XK:=Value->Option Addr->Hp->Prop
noncomputable abbrev St:=List (Option V)
noncomputable abbrev VK:=V->Hp->Prop
noncomputable abbrev TE:=St->Hp->VK->Prop
noncomputable abbrev TT:=St->Hp->(Bool->Hp->Prop)->Prop
noncomputable abbrev TA:=St->Hp->(List V->Hp->Prop)->Prop
structure Ends where
 nx:St->Hp->Prop
 rt:VK
 bk:St->Hp->Prop:=λ_ _=>False
 ct:St->Hp->Prop:=λ_ _=>False
noncomputable abbrev TS:=Ends->St->Hp->Prop
inductive EP(X:Cx)(pins:List (Addr × Obj))(σ:St)(Q:VK)(u:Value)(s':Shared):Prop
 | mk (v H') (I:Inv X pins σ H' s') (r:RelV v u) (q:Q v H')
noncomputable def TP(X:Cx)(pins:List (Addr × Obj))(σ:St)(Q:Bool->Hp->Prop)(b:Bool)(s':Shared):Prop:=∃H',Inv X pins σ H' s'/\Q b H'
inductive AP(X:Cx)(pins:List (Addr × Obj))(σ:St)(Q:List V->Hp->Prop)(us:List Value)(s':Shared):Prop
 | mk (vs H') (I:Inv X pins σ H' s') (r:Vals vs us) (q:Q vs H')
noncomputable def SP(X:Cx)(pins:List (Addr × Obj))(D:Ends)(f:Flow)(s':Shared):Prop :=
 match f with
 | .next=>∃aK H',Inv X pins aK H' s'/\D.nx aK H'
 | .brk=>∃aK H',Inv X pins aK H' s'/\D.bk aK H'
 | .cont=>∃aK H',Inv X pins aK H' s'/\D.ct aK H'
 | .ret u=>∃v aK H',Inv X pins aK H' s'/\RelV v u/\D.rt v H'
noncomputable def PE(X:Cx)(e:Expr)(t:TE):Prop :=
 ∀(pins:List (Addr × Obj)) (s:Shared) (σ:St) (H:Hp) (Q:VK),Inv X pins σ H s->t σ H Q->wpAny (model X.prog X.w) X.A (eval e X.env) (EP X pins σ Q) X.xe s
noncomputable def PT(X:Cx)(e:Expr)(t:TT):Prop :=
 ∀(pins:List (Addr × Obj)) (s:Shared) (σ:St) (H:Hp) (Q:Bool->Hp->Prop),Inv X pins σ H s->t σ H Q->wpAny (model X.prog X.w) X.A (isTrue e X.env (eval e X.env)) (TP X pins σ Q) X.xe s
noncomputable def PW(X:Cx)(e:Expr)(t:TT):Prop :=
 ∀(whole:Sem Value) (pins:List (Addr × Obj)) (s:Shared) (σ:St) (H:Hp) (Q:Bool->Hp->Prop),Inv X pins σ H s->t σ H Q->wpAny (model X.prog X.w) X.A (isTrue e X.env whole) (TP X pins σ Q) X.xe s
theorem PW.pt{X:Cx}{e:Expr}{t:TT}(h:PW X e t):PT X e t:=h _
noncomputable def PA(X:Cx)(es:List Expr)(t:TA):Prop :=
 ∀(pos:Pos) (pins:List (Addr × Obj)) (s:Shared) (σ:St) (H:Hp) (Q:List V->Hp->Prop),Inv X pins σ H s->t σ H Q->wpAny (model X.prog X.w) X.A (spliced (backTo pos (starEach es X.env))) (AP X pins σ Q) X.xe s
noncomputable def PS(X:Cx)(st:Stmt)(t:TS):Prop :=
 ∀(pins:List (Addr × Obj)) (s:Shared) (σ:St) (H:Hp) (D:Ends),Inv X pins σ H s->t D σ H->wpAny (model X.prog X.w) X.A (exec st X.env) (SP X pins D) X.xe s
noncomputable def PSs(X:Cx)(st:List Stmt)(t:TS):Prop :=
 ∀(pins:List (Addr × Obj)) (s:Shared) (σ:St) (H:Hp) (D:Ends),Inv X pins σ H s->t D σ H->wpAny (model X.prog X.w) X.A (execs st X.env) (SP X pins D) X.xe s
theorem aT{α:Type}{t:Sem α}{Q Q':α->Shared->Prop}{M:Model}{A:Around}{E:Value->Shared->Prop}{s:Shared}(h:wpAny M A t Q E s)(hQ:∀a s,Q a s->Q' a s):wpAny M A t Q' E s:=wpAny_mono h hQ λ_ _ x=>x
end L2
namespace L2
open PySem PySem.Spec PyProof.Rows
section
variable{X:Cx}
noncomputable def EO(i:Nat):TE:=λσ H Q=>∃v,σ[i]?=some (some v)/\Q v H
noncomputable def tC(v:V):TE:=λ_ H Q=>Q v H
theorem mB{i:Nat}{x:Str}{pos:Pos}(hN:X.N[i]?=some x)(hv:jY X.env.scope x)(hd:(x==("__debug__":Str))=false:=by decide)(cq:(x==("__classdict__":Str))=false:=by decide):PE X (.Name x pos) (EO i):=by
 intro pins s σ H Q I h
 obtain⟨v,e,h⟩:=h
 obtain⟨m,hn,hl⟩:=I.loc
 obtain⟨u,r,l⟩:=hl i x v hN e hv
 have fin:EP X pins σ Q u s:=⟨v,H,I,r,h⟩
 rcases l with⟨hk,hm⟩ | ⟨hk,c,hc,AZ⟩
 ·exact wpAny_Name (wpAny_loadName_local I.ok.kind hk hn hm fin) hd
 ·rcases hk with hk | hk
  ·exact wpAny_Name (wpAny_loadName_cell I.ok.kind hk hc AZ fin) hd
  ·exact wpAny_Name (wpAny_loadName_free I.ok.kind hk hc AZ fin cq) hd
theorem nQ{i j pos}:PE X (.Constant (.int i) j pos) (tC (.int i)):=λ_ _ _ H _ I h=>wpAny_Constant_int ⟨.int i,H,I.tok _,⟨_,rfl⟩,h⟩
theorem Xs{b j pos}:PE X (.Constant (.bool b) j pos) (tC (.bl b)):=λ_ _ _ H _ I h=>Constant_bool ⟨.bl b,H,I,rfl,h⟩
theorem Xt{j pos}:PE X (.Constant .none j pos) (tC .av):=λ_ _ _ H _ I h=>Constant_none ⟨.av,H,I,rfl,h⟩
noncomputable def Gl(X:Cx)(x:Str):Prop:=X.env.kindOf x=some .globalImplicit
theorem ER{E:Value->Shared->Prop}{pins:List (Addr × Obj)}{s:Shared}{σ:St}{H:Hp}{x:Str}{u:Value}{pos:Pos}{Q:Value->Shared->Prop}(I:Inv X pins σ H s)(hg:Gl X x)(hm:X.mg x=some u)(h:Q u s)
  (hd:(x==("__debug__":Str))=false:=by decide):wpAny (model X.prog X.w) X.A (eval (.Name x pos) X.env) Q E s :=
 WJ I.ok.kind hg (Calls.loadGlobal_global (by rw[I.ok.glob];exact I.mod.glob.keeps I.bk) hm h) hd
theorem nR{E:Value->Shared->Prop}{pins:List (Addr × Obj)}{s:Shared}{σ:St}{H:Hp}{x:Str}{u:Value}{pos:Pos}{Q:Value->Shared->Prop}(I:Inv X pins σ H s)(hg:Gl X x)(hm:X.mg x=none)(hv:bootBuiltins x=some u)(h:Q u s)
  (hn:x≠"__name__":=by decide) (hd:(x==("__debug__":Str))=false:=by decide):wpAny (model X.prog X.w) X.A (eval (.Name x pos) X.env) Q E s:=by
 obtain⟨mb,h1,h2⟩:=I.mod.blt
 exact WJ I.ok.kind hg (Calls.loadGlobal_builtin (by rw[I.ok.glob];exact I.mod.glob.keeps I.bk) hm (by rw[I.ok.blt];exact h1.keeps I.bk) ((h2 x hn).trans hv) h) hd
theorem Xu{x:Str}{v:V}{u:Value}{pos:Pos}(hg:Gl X x)(hm:X.mg x=none)(hv:bootBuiltins x=some u)(r:RelV v u)(hn:x≠"__name__":=by decide)(hd:(x==("__debug__":Str))=false:=by decide):PE X (.Name x pos) (tC v) :=
 λ_ _ _ H _ I h=>nR I hg hm hv ⟨v,H,I,r,h⟩ hn hd
variable{a b:Expr}{ta tb:TE}{pos:Pos}
noncomputable def tB(t:TE):TT:=λσ H Q=>t σ H λx H1=>∃c,x=.bl c/\Q c H1
theorem A6{e:Expr}{t:TE}(h:PE X e t)(he:∀whole,isTrue e X.env whole=(do let v<-whole;standAt e.pos;holding [v] (truthy v)):=by intro _;rfl):PT X e (tB t):=by
 intro pins s σ H Q I hw
 refine isTrue_plain (aT (h pins s σ H _ I hw) λv s1 ⟨x,H1,I1,r1,q1⟩=>?_) (he _)
 obtain⟨d,rfl,q⟩:=q1
 cases r1
 exact wpAny_truthy_bool ⟨H1,I1,q⟩
variable{tA A8:TT}{rest:List Expr}
noncomputable def Xv(t u:TT):TT:=λσ H Q=>t σ H λc H1=>if c=true then u σ H1 Q else Q false H1
noncomputable def Xw(t u:TT):TT:=λσ H Q=>t σ H λc H1=>if c=true then Q true H1 else u σ H1 Q
noncomputable def Xx(t:TT):TT:=λσ H Q=>t σ H λc H1=>Q (!c) H1
theorem ES(ha:PT X a tA):PW X (.BoolOp .And [a] pos) tA:=by
 intro wh pins s σ H Q I h
 refine isTrue_and (aT (ha pins s σ H Q I h) λc s1 e=>?_)
 cases c with
 | true=>exact isTrue_and_nil e
 | false=>exact e
theorem qB(ha:PT X a tA):PW X (.BoolOp .Or [a] pos) tA:=by
 intro wh pins s σ H Q I h
 refine isTrue_or (aT (ha pins s σ H Q I h) λc s1 e=>?_)
 cases c with
 | false=>exact isTrue_or_nil e
 | true=>exact e
theorem Xy(ha:PT X a tA)(hb:PW X (.BoolOp .And (b::rest) pos) A8):PW X (.BoolOp .And (a::b::rest) pos) (Xv tA A8):=by
 intro wh pins s σ H Q I h
 refine isTrue_and (aT (ha pins s σ H _ I h) λc s1 ⟨H1,I1,q1⟩=>?_)
 cases c with
 | true=>exact hb wh pins s1 σ H1 Q I1 q1
 | false=>exact⟨H1,I1,q1⟩
theorem MX(ha:PT X a tA)(hb:PW X (.BoolOp .Or (b::rest) pos) A8):PW X (.BoolOp .Or (a::b::rest) pos) (Xw tA A8):=by
 intro wh pins s σ H Q I h
 refine isTrue_or (aT (ha pins s σ H _ I h) λc s1 ⟨H1,I1,q1⟩=>?_)
 cases c with
 | true=>exact⟨H1,I1,q1⟩
 | false=>exact hb wh pins s1 σ H1 Q I1 q1
theorem Ba(ha:PT X a tA):PT X (.UnaryOp .Not a pos) (Xx tA):=by
 intro pins s σ H Q I h
 exact isTrue_not (ha pins s σ H (λc H1=>Q (!c) H1) I h)
noncomputable def Xz(ta tb:TE):TE:=λσ H Q=>ta σ H λx H1=>∃c,x=.bl c/\if c=true then tb σ H1 Q else Q (.bl false) H1
noncomputable def XA(ta:TE):TE:=λσ H Q=>ta σ H λx H1=>∃c,x=.bl c/\Q (.bl (!c)) H1
theorem wc{op}{t:TE}(h:PE X a t):PE X (.BoolOp op [a] pos) t:=λpins s σ H Q I hw=>BoolOp_one (h pins s σ H Q I hw)
theorem XB(ha:PE X a ta)(hb:PE X (.BoolOp .And (b::rest) pos) tb):PE X (.BoolOp .And (a::b::rest) pos) (Xz ta tb):=by
 intro pins s σ H Q I h
 refine BoolOp_and (aT (ha pins s σ H _ I h) λv s1 ⟨x,H1,I1,r1,q1⟩=>?_)
 obtain⟨c,rfl,q1⟩:=q1
 cases r1
 refine wpAny_truthy_bool ?_
 cases c with
 | true=>exact hb pins s1 σ H1 Q I1 q1
 | false=>exact⟨.bl false,H1,I1,rfl,q1⟩
theorem XC(ha:PE X a ta):PE X (.UnaryOp .Not a pos) (XA ta):=by
 intro pins s σ H Q I h
 refine UnaryOp_ (aT (ha pins s σ H _ I h) λv s1 ⟨x,H1,I1,r1,q1⟩=>?_)
 obtain⟨c,rfl,q1⟩:=q1
 cases r1
 exact not_of (wpAny_truthy_bool ⟨.bl (!c),H1,I1,rfl,q1⟩)
noncomputable def XD(t:TT)(ta tb:TE):TE:=λσ H Q=>t σ H λc H1=>if c=true then ta σ H1 Q else tb σ H1 Q
theorem XE{c:Expr}(hc:PT X c tA)(ha:PE X a ta)(hb:PE X b tb):PE X (.IfExp c a b pos) (XD tA ta tb):=by
 intro pins s σ H Q I h
 refine wpAny_IfExp (aT (hc pins s σ H _ I h) λd s1 ⟨H1,I1,q1⟩=>?_)
 cases d with
 | true=>exact ha pins s1 σ H1 Q I1 q1
 | false=>exact hb pins s1 σ H1 Q I1 q1
end
end L2
namespace L2
open PySem PySem.Spec PyProof.Rows
noncomputable def bF(K:PySem.W.Frag)(H:Hp)(a:Addr)(xs:List V):Prop :=
 Rd H a (.lst xs) \/
  ∃(o:Obj) (its:Array Value) (n:Nat),K.lookup a=some o/\o.cls=.type "list"/\o.dict=none/\o.data=.seq its n/\its.size<=sizeLine/\Vals xs its.toList
noncomputable def h7(K:PySem.W.Frag)(H:Hp)(a:Addr)(xs:List V):Prop :=
 Rd H a (.tup xs) \/
  ∃(o:Obj) (its:Array Value) (n:Nat),K.lookup a=some o/\o.cls=.type "tuple"/\o.data=.seq its n/\its.size<=sizeLine/\Vals xs its.toList
noncomputable def XF:Value->Option V
 | .none=>some .av
 | .bool b=>some (.bl b)
 | .int i _=>some (.int i)
 | .str x _=>some (.str x)
 | .bytes b _=>some (.AU b)
 | .float b _=>some (.tL b)
 | .ref a=>some (.ref a)
 | .type n=>some (.ty n)
 | _=>none
theorem RelV.abs{x:V}{u:Value}(r:RelV x u):XF u=some x:=by
 cases x with
 | av=>cases r;rfl
 | bl _=>cases r;rfl
 | int _=>obtain⟨t,rfl⟩:=r;rfl
 | str _=>obtain⟨t,rfl⟩:=r;rfl
 | AU _=>obtain⟨t,rfl⟩:=r;rfl
 | tL _=>obtain⟨t,rfl⟩:=r;rfl
 | ref _=>cases r;rfl
 | ty _=>cases r;rfl
theorem RelV.inj{x y:V}{u:Value}(r:RelV x u)(q:RelV y u):x=y:=dh (r.abs.symm.trans q.abs)
theorem Vals.inj:∀{xs ys:List V} {us:List Value},Vals xs us->Vals ys us->xs=ys
 | _,_,_,.nil,.nil=>rfl
 | _,_,_,.cons r t,.cons r' t'=>by rw[r.inj r',Vals.inj t t']
section
variable{X:Cx}{pins:List (Addr × Obj)}{σ:St}{H:Hp}{s:Shared}{a:Addr}{xs ys:List V}
theorem bF.of{K:PySem.W.Frag}(h:H a=some (.lst xs)):bF K H a xs:=.inl (.inl h)
theorem h7.of{K:PySem.W.Frag}(h:H a=some (.tup xs)):h7 K H a xs:=.inl (.inl h)
theorem Inv.list(I:Inv X pins σ H s)(h:bF X.K H a xs):∃its:List Value,Vals xs its/\PlainL s.heap a its.toArray/\xs.length<=sizeLine:=by
 rcases h with h | ⟨o,its,n,hk,hc,hd,hs,hz,r⟩
 ·obtain⟨z,its,n,r,e⟩:=h.ok I.aS
  exact⟨its,r,⟨_,n,e,rfl,rfl,rfl⟩,z⟩
 ·refine⟨its.toList,r,⟨o,n,I.dB a o hk,hc,hd,by simpa using hs⟩,?_⟩
  have e:=r.length
  simp only[vL]at e
  omega
theorem Inv.tuple(I:Inv X pins σ H s)(h:h7 X.K H a xs):∃its:List Value,Vals xs its/\IsTup s.heap a its.toArray/\xs.length<=sizeLine:=by
 rcases h with h | ⟨o,its,n,hk,hc,hs,hz,r⟩
 ·obtain⟨z,its,r,p⟩:=h.ok I.aS
  exact⟨its,r,p,z⟩
 ·refine⟨its.toList,r,⟨o,I.dB a o hk,hc,n,by simpa using hs⟩,?_⟩
  have e:=r.length
  simp only[vL]at e
  omega
theorem Inv.Bb(I:Inv X pins σ H s)(h:bF X.K H a xs)(h':bF X.K H a ys):xs=ys:=by
 obtain⟨its,r,⟨o,n,e,_,_,d⟩,_⟩:=I.list h
 obtain⟨its',r',⟨o',n',e',_,_,d'⟩,_⟩:=I.list h'
 rw[e]at e';cases e'
 rw[d]at d'
 injection d' with d1 _
 have:its=its':=by simpa using congrArg Array.toList d1
 subst this
 exact r.inj r'
end
noncomputable abbrev Cx.kX(X:Cx)(E:Value->Shared->Prop):Cx:={ X with xe:=E }
noncomputable abbrev Cx.h8(X:Cx):Cx:=X.kX λ_ _=>False
theorem Cx.Ok.kX{X:Cx}(ok:X.Ok)(E:Value->Shared->Prop):(X.kX E).Ok :=
 ⟨ok.mod,ok.kind,ok.glob,ok.blt,ok.above,ok.inj,ok.has,ok.tO,ok.hd,ok.frames,ok.xX,ok.xY,ok.bs,ok.kA,ok.v9,ok.wa,ok.hZ,ok.kB⟩
theorem Cx.Ok.nS{X:Cx}{E:Value->Shared->Prop}(ok:(X.kX E).Ok):X.Ok :=
 ⟨ok.mod,ok.kind,ok.glob,ok.blt,ok.above,ok.inj,ok.has,ok.tO,ok.hd,ok.frames,ok.xX,ok.xY,ok.bs,ok.kA,ok.v9,ok.wa,ok.hZ,ok.kB⟩
section
variable{X:Cx}{pins:List (Addr × Obj)}{σ:St}{H:Hp}{s:Shared}{E:Value->Shared->Prop}
theorem Inv.kX(I:Inv X pins σ H s)(E:Value->Shared->Prop):Inv (X.kX E) pins σ H s:=⟨I.ok.kX E,I.os,I.bare,I.base,I.loc,I.cell,I.free,I.jZ,I.pin,I.aS,I.len⟩
theorem Inv.nS(I:Inv (X.kX E) pins σ H s):Inv X pins σ H s:=⟨I.ok.nS,I.os,I.bare,I.base,I.loc,I.cell,I.free,I.jZ,I.pin,I.aS,I.len⟩
theorem SP.nS{D:Ends}{f:Flow}{s':Shared}(h:SP (X.kX E) pins D f s'):SP X pins D f s':=by
 cases f with
 | next=>obtain⟨aK,H',I,q⟩:=h;exact⟨aK,H',I.nS,q⟩
 | brk=>obtain⟨aK,H',I,q⟩:=h;exact⟨aK,H',I.nS,q⟩
 | cont=>obtain⟨aK,H',I,q⟩:=h;exact⟨aK,H',I.nS,q⟩
 | ret u=>obtain⟨v,aK,H',I,r,q⟩:=h;exact⟨v,aK,H',I.nS,r,q⟩
theorem PE.h8{e:Expr}{t:TE}(h:PE X.h8 e t):PE X e t:=λpins s σ H Q I hw =>
 wpAny_mono (h pins s σ H Q (I.kX _) hw) (λ_ _ ⟨v,H',I',r,q⟩=>⟨v,H',I'.nS,r,q⟩) λ_ _ z=>gF z
theorem PSs.h8{st:List Stmt}{t:TS}(h:PSs X.h8 st t):PSs X st t:=λpins s σ H D I hw =>
 wpAny_mono (h pins s σ H D (I.kX _) hw) (λ_ _ q=>q.nS) λ_ _ z=>gF z
end
section
variable{X:Cx}{st:Stmt}{rest:List Stmt}{t u:TS}{e:Expr}{te:TE}{pos:Pos}
noncomputable def XG:TS:=λD σ H=>D.nx σ H
noncomputable def XH(t u:TS):TS:=λD σ H=>t { D with nx:=u D } σ H
theorem tP:PSs X [] XG:=λ_ _ σ H _ I h=>wpAny_execs_nil ⟨σ,H,I,h⟩
theorem eK(h1:PS X st t)(h2:PSs X rest u):PSs X (st::rest) (XH t u):=by
 intro pins s σ H D I h
 refine wpAny_execs_cons (aT (h1 pins s σ H { D with nx:=u D } I h) λf s1 q=>?_)
 cases f with
 | next =>
  obtain⟨aK,H',I',q⟩:=q
  exact h2 pins s1 aK H' D I' q
 | ret v=>exact q
 | brk=>exact q
 | cont=>exact q
theorem jC(h1:PS X st t):PSs X [st] t:=by
 intro pins s σ H D I h
 refine wpAny_execs_cons (aT (h1 pins s σ H D I h) λf s1 q=>?_)
 cases f with
 | next=>exact wpAny_execs_nil q
 | ret v=>exact q
 | brk=>exact q
 | cont=>exact q
theorem Inv.quiet{pins:List (Addr × Obj)}{σ:St}{H:Hp}{s:Shared}(I:Inv X pins σ H s):interactive X.env=false:=by simp[interactive,I.ok.kind]
noncomputable def XI(te:TE):TS:=λD σ H=>te σ H λ_ H1=>D.nx σ H1
theorem mC(he:PE X e te)(hs:swapsWith e none pos.line X.env=pure false:=by rfl):PS X (.Expr e pos) (XI te):=by
 intro pins s σ H D I h
 exact wpAny_Expr_any (aT (he pins s σ H _ I h) λv s1 ⟨x,H1,I1,r1,q1⟩=>⟨σ,H1,I1,q1⟩) I.quiet hs
noncomputable def XJ(te:TE):TS:=λD σ H=>te σ H D.rt
theorem XM(he:PE X e te):PS X (.Return (some e) pos) (XJ te):=by
 intro pins s σ H D I h
 exact wpAny_Return_some (aT (he pins s σ H _ I h) λv s1 ⟨x,H1,I1,r1,q1⟩=>⟨x,σ,H1,I1,r1,q1⟩)
noncomputable def XN(c:TT)(t u:TS):TS:=λD σ H=>c σ H λb H1=>if b=true then t D σ H1 else u D σ H1
theorem tQ{c:Expr}{a b:List Stmt}{tc:TT}(hc:PT X c tc)(ha:PSs X a t)(hb:PSs X b u):PS X (.If c a b pos) (XN tc t u):=by
 intro pins s σ H D I h
 refine wpAny_If (aT (hc pins s σ H _ I h) λd s1 ⟨H1,I1,q1⟩=>?_)
 cases d with
 | true=>exact ha pins s1 σ H1 D I1 q1
 | false=>exact hb pins s1 σ H1 D I1 q1
noncomputable def XO:TS:=λ_ _ _=>False
theorem tR:PS X st XO:=λ_ _ _ _ _ _ h=>h.elim
end
noncomputable abbrev TG:=V->St->Hp->(St->Hp->Prop)->Prop
noncomputable abbrev tS:=List V->St->Hp->(St->Hp->Prop)->Prop
noncomputable def PG(X:Cx)(target:Expr)(t:TG):Prop :=
 ∀(pins:List (Addr × Obj)) (s:Shared) (σ:St) (H:Hp) (v:V) (u:Value) (Q:St->Hp->Prop),Inv X pins σ H s->RelV v u->t v σ H Q ->
  wpAny (model X.prog X.w) X.A (assign target X.env u) (λ_ s'=>∃aK H',Inv X pins aK H' s'/\Q aK H') X.xe s
noncomputable def Bc(X:Cx)(ts:List Expr)(t:tS):Prop :=
 ∀(pins:List (Addr × Obj)) (s:Shared) (σ:St) (H:Hp) (vs:List V) (us:List Value) (Q:St->Hp->Prop),Inv X pins σ H s->Vals vs us->t vs σ H Q ->
  wpAny (model X.prog X.w) X.A (assignInOrder ((assignEach ts X.env).map (·.2)) us) (λ_ s'=>∃aK H',Inv X pins aK H' s'/\Q aK H') X.xe s
noncomputable abbrev ET:=V->V->V->Hp->(Hp->Prop)->Prop
noncomputable def MY(X:Cx)(t:ET):Prop :=
 ∀(pins:List (Addr × Obj)) (s:Shared) (σ:St) (H:Hp) (o i v:V) (ov iv u:Value) (Q:Hp->Prop),Inv X pins σ H s->RelV o ov->RelV i iv->RelV v u->t o i v H Q ->
  wpAny (model X.prog X.w) X.A (setItem ov iv u) (λ_ s'=>∃H',Inv X pins σ H' s'/\Q H') X.xe s
noncomputable abbrev EU:=V->V->Hp->VK->Prop
noncomputable def XQ(X:Cx)(op:Operator)(t:EU):Prop :=
 ∀(pins:List (Addr × Obj)) (s:Shared) (σ:St) (H:Hp) (x y:V) (v u:Value) (Q:VK),Inv X pins σ H s->RelV x v->RelV y u->t x y H Q ->
  wpAny (model X.prog X.w) X.A (inplaceOp op v u) (EP X pins σ Q) X.xe s
section
variable{X:Cx}{pos:Pos}
noncomputable def we(i:Nat):TG:=λv σ H Q=>Q (σ.set i (some v)) H
theorem ya{i:Nat}{x:Str}(hN:X.N.Nodup)(hi:X.N[i]?=some x)(hx:Loc X.env.scope x)(hf:X.fn x=true\/X.env.scope.names.lookup x=some .local:=by first | exact .inl rfl | exact .inr rfl | assumption):PG X (.Name x pos) (we i):=by
 intro pins s σ H v u Q I r h
 exact wpAny_assign_Name (EN I hN hi hx r (λs' I'=>⟨_,H,I',h⟩) hf)
noncomputable def XR:tS:=λvs σ H Q=>vs=[]/\Q σ H
noncomputable def XS(t:TG)(u:tS):tS:=λvs σ H Q=>∃v r,vs=v::r/\t v σ H λaK H'=>u r aK H' Q
theorem XT:Bc X [] XR:=by
 intro pins s σ H vs us Q I r h
 obtain⟨e,h⟩:=h
 subst e
 cases r
 exact assignInOrder_nil ⟨σ,H,I,h⟩
theorem MZ{e:Expr}{es:List Expr}{t:TG}{u:tS}(h1:PG X e t)(h2:Bc X es u)
  (hs:(assignEach (e::es) X.env).map (·.2)=assign e X.env::(assignEach es X.env).map (·.2):=by rfl):Bc X (e::es) (XS t u):=by
 intro pins s σ H vs us Q I r h
 obtain⟨v,vr,e1,h⟩:=h
 subst e1
 cases r with
 | cons r rr =>
  rw[hs]
  refine assignInOrder_cons (aT (h1 pins s σ H _ _ _ I r h) λ_ s1 ⟨h9,H1,I1,q1⟩=>?_)
  exact h2 pins s1 h9 H1 _ _ Q I1 rr q1
noncomputable def XU(K:PySem.W.Frag)(n:Nat)(t:tS):TG:=λv σ H Q=>∃a xs,v=.ref a/\h7 K H a xs/\xs.length=n/\t xs σ H Q
theorem XW{es:List Expr}{k:Nat}{t:tS}{n:Nat}(hc:X.calm=true)(h:Bc X es t)
  (hn:(assignEach es X.env).length=n:=by rfl) (ia:(assignEach es X.env).findIdx? (·.1)=none:=by rfl):PG X (.Tuple es k pos) (XU X.K n t):=by
 intro pins s σ H v u Q I r hw
 obtain⟨a,xs,e1,hq,hl,hw⟩:=hw
 subst e1
 cases r
 obtain⟨its,rv,ht,hz⟩:=I.tuple hq
 refine assign_Tuple_tuple (I.ok.hd hc) ht (by simp[hn,<- hl,rv.length]) ia λh' hx=>?_
 have I1:Inv X pins σ H { s with heap:=h' }:=I.kept (t':=s.toks) λb o e=>hx b o (gh (b9 e)) e
 exact h pins _ σ H xs _ Q I1 (by simpa using rv) hw
noncomputable def XX(to ti:TE)(t:ET):TG:=λv σ H Q=>to σ H λo H1=>ti σ H1 λi H2=>t o i v H2 λH3=>Q σ H3
theorem XY{o i:Expr}{to ti:TE}{t:ET}(ho:PE X o to)(hi:PE X i ti)(hs:MY X t)
  (ha:∀v,assign (.Subscript o i pos) X.env v=(do
   let ov<-holding [v] (eval o X.env)
   let iv<-holding [v,ov] (eval i X.env)
   standAt pos
   holding [v,ov,iv] (setItem ov iv v)
   release [v,ov,iv] []):=by intro _;rfl):PG X (.Subscript o i pos) (XX to ti t):=by
 intro pins s σ H v u Q I r h
 rw[ha]
 refine wpAny_bind (wpAny_holding (aT (ho pins s σ H _ I h) λov s1 ⟨x,H1,I1,r1,q1⟩=>?_))
 refine wpAny_bind (wpAny_holding (aT (hi pins s1 σ H1 _ I1 q1) λiv s2 ⟨y,H2,I2,r2,q2⟩=>?_))
 refine wpAny_bind (wpAny_standAt (wpAny_bind (wpAny_holding (aT (hs pins s2 σ H2 x y v ov iv u _ I2 r1 r2 r q2) λ_ s3 ⟨H3,I3,q3⟩=>?_))))
 exact wpAny_release ⟨σ,H3,I3,q3⟩
noncomputable def EV(te:TE)(g:TG):TS:=λD σ H=>te σ H λx H1=>g x σ H1 D.nx
theorem XZ{tg e:Expr}{te:TE}{g:TG}(he:PE X e te)(hg:PG X tg g)(hs:swapsWithSole [tg] e pos.line X.env=pure false:=by rfl)(hw:swappedStores [tg] e X.env=pure none:=by rfl)
  (h1:(assignEach [tg] X.env).map (·.2)=[assign tg X.env]:=by rfl):PS X (.Assign [tg] e pos) (EV te g):=by
 intro pins s σ H D I h
 refine wpAny_Assign_stores (aT (he pins s σ H _ I h) λv s1 ⟨x,H1,I1,r1,q1⟩=>?_) hs hw
 rw[h1]
 exact aT (hg pins s1 σ H1 x v _ I1 r1 q1) λ_ s2 q=>q
theorem EW{i:Nat}{x:Str}{e:Expr}{te:TE}{pos':Pos}(hN:X.N.Nodup)(hi:X.N[i]?=some x)(hx:Loc X.env.scope x)(he:PE X e te)(hs:swapsWith e (some (.Name x pos')) pos.line X.env=pure false:=by rfl)(hf:X.fn x=true\/X.env.scope.names.lookup x=some .local:=by first | exact .inl rfl | exact .inr rfl | assumption) :
  PS X (.Assign [.Name x pos'] e pos) (EV te (we i)):=by
 intro pins s σ H D I h
 refine wpAny_Assign_Name (aT (he pins s σ H _ I h) λv s1 ⟨y,H1,I1,r1,q1⟩=>?_) hs
 exact EN I1 hN hi hx r1 (λs2 I2=>⟨_,H1,I2,q1⟩) hf
noncomputable def X0(i:Nat)(te:TE)(ti:EU):TS:=λD σ H=>∃x,σ[i]?=some (some x)/\te σ H λy H1=>ti x y H1 λz H2=>D.nx (σ.set i (some z)) H2
theorem X1{i:Nat}{x:Str}{e:Expr}{te:TE}{op:Operator}{ti:EU}{pos':Pos}(hN:X.N.Nodup)(hi:X.N[i]?=some x)(hx:Loc X.env.scope x)(he:PE X e te)(ho:XQ X op ti)(hf:X.fn x=true\/X.env.scope.names.lookup x=some .local:=by first | exact .inl rfl | exact .inr rfl | assumption) :
  PS X (.AugAssign (.Name x pos') op e pos) (X0 i te ti):=by
 intro pins s σ H D I h
 obtain⟨v,e1,h⟩:=h
 obtain⟨m,hn,hl⟩:=I.loc
 have X2:jY X.env.scope x:=by rcases hx with k | k;exact .inl k;exact .inr (.inl k)
 obtain⟨u,r,l⟩:=hl i x v hi e1 X2
 refine wpAny_AugAssign_Name ?_
 have go:wpAny (model X.prog X.w) X.A (eval e X.env) (λw tT=>wpAny (model X.prog X.w) X.A (inplaceOp op u w) (λr X3=>wpAny (model X.prog X.w) X.A (storeName X.env x r) (λ_=>SP X pins D .next) X.xe X3) X.xe tT) X.xe s:=by
  refine aT (he pins s σ H _ I h) λw s1 ⟨y,H1,I1,r1,q1⟩=>?_
  refine aT (ho pins s1 σ H1 v y u w _ I1 r r1 q1) λz s2 ⟨zv,H2,I2,r2,q2⟩=>?_
  exact EN I2 hN hi hx r2 (λs3 I3=>⟨_,H2,I3,q2⟩) hf
 rcases l with⟨hk,hm⟩ | ⟨hk,c,hc,AZ⟩
 ·exact wpAny_loadName_local I.ok.kind hk hn hm go
 ·rcases hk with hk | hk
  ·exact wpAny_loadName_cell I.ok.kind hk hc AZ go
  ·rcases hx with k | k
   ·have:X.env.scope.names.lookup x=some .free:=hk
    rw[k]at this;cases this
   ·have:X.env.scope.names.lookup x=some .free:=hk
    rw[k]at this;cases this
end
section
variable{X:Cx}{pos:Pos}
noncomputable def X4(c:TT)(tb:TS):TS:=λD σ H=>∃W:Nat->St->Hp->Prop,(∃m,W m σ H)/\∀m σ H,W m σ H ->
 c σ H λb H1=>if b=true then ∃N:St->Hp->Prop,(∀aK H',N aK H'->∃m',m'<m/\W m' aK H')/\tb { D with nx:=N,ct:=N,bk:=D.nx } σ H1 else D.nx σ H1
theorem X5{c:Expr}{body:List Stmt}{tc:TT}{tb:TS}(hp:PassesOwn (model X.prog X.w) X.A X.env X.xe)(hc:PT X c tc)(hb:PSs X body tb):PS X (.While c body [] pos) (X4 tc tb):=by
 intro pins s σ H D I h
 obtain⟨W,⟨m0,w0⟩,turn⟩:=h
 refine wpAny_While (codeAny_whileLoop (λn s'=>∃aK H',Inv X pins aK H' s'/\W n aK H') ?_ m0 ⟨σ,H,I,w0⟩)
 rintro n s1 ⟨h9,H1,I1,w1⟩
 refine wpAny_passesOwn hp (aT (hc pins s1 h9 H1 _ I1 (turn n h9 H1 w1)) λb s2 ⟨H2,I2,q2⟩=>?_)
 cases b with
 | true =>
  obtain⟨N,hN,q2⟩:=q2
  rw[if_pos rfl]
  refine wpAny_passesOwn hp (aT (hb pins s2 h9 H2 _ I2 q2) λf s3 q3=>?_)
  cases f with
  | next =>
   obtain⟨kY,H3,I3,n3⟩:=q3
   obtain⟨m',hm,w3⟩:=hN kY H3 n3
   exact⟨m',hm,kY,H3,I3,w3⟩
  | cont =>
   obtain⟨kY,H3,I3,n3⟩:=q3
   obtain⟨m',hm,w3⟩:=hN kY H3 n3
   exact⟨m',hm,kY,H3,I3,w3⟩
  | brk=>exact q3
  | ret v=>exact q3
 | false =>
  rw[if_neg iZ]
  exact wpAny_execs_nil ⟨h9,H2,I2,q2⟩
end
structure It where
 go:Nat->Hp->Prop
 kC:Nat->Hp->V->Hp->Prop
 stop:Nat->Hp->Prop
noncomputable def jD(X:Cx)(pins:List (Addr × Obj))(H:Hp)(b:Addr):Prop :=
 H b=none/\b≠X.env.locals/\b ∉ X.fs/\(b∈X.ex\/X.eA.heap.objs.size<=b)/\(∀x c,X.env.cells.lookup x=some c->c≠b)/\∀p∈X.pn++pins,p.1≠b
theorem Inv.Bd{X:Cx}{pins:List (Addr × Obj)}{σ:St}{H H':Hp}{s:Shared}{b:Addr}(I:Inv X pins σ H s)(hb:s.heap.objs.size<=b)(hn:H' b=none):jD X pins H' b:=by
 refine⟨hn,Nat.ne_of_gt (dz I.lt hb),I.MP hb,.inr (fE I.sz hb),λx c e z=>?_,λp hp z=>?_⟩
 ·obtain⟨v,q⟩:=I.cell x c e
  exact absurd (dz q.lt (by rw[z];exact hb)) (gU _)
 ·exact absurd (dz (b9 (I.pin p hp).1) (by rw[z];exact hb)) (gU _)
structure Turn(P:Program)(w:World)(K:PySem.W.Frag)(tg:Expr)(J:It)(fp:List Addr)(it:Addr)(tn:Nat->Heap->Prop):Prop where
 mem:it∈fp
 obj:∀i h,tn i h->∀b∈fp,∃o,h.get? b=some o/\∀v,o.data≠.cell v
 keep:∀i h h',tn i h->(∀b∈fp,∀o,h.get? b=some o->h'.get? b=some o)->tn i h'
 item:∀(X:Cx),X.prog=P->X.w=w->X.K=K->X.calm=true->∀(i:Nat) (pins:List (Addr × Obj)) (s:Shared) (σ:St) (H:Hp) (E:Value->Shared->Prop),Inv X pins σ H s->(∀b∈fp,jD X pins H b)->tn i s.heap->J.go i H ->
  wpAny (model P w) X.A (pyNext (.ref it)) (λr s1=>∃u,r=some u /\
   wpAny (model P w) X.A (letOwnedTupleGo tg (.ref it) u) (λ_ s2=>∃x H',Inv X pins σ H' s2/\RelV x u/\J.kC i H x H'/\tn (i+1) s2.heap/\∀b∈fp,H' b=none) E s1) E s
 done:∀(X:Cx),X.prog=P->X.w=w->X.K=K->X.calm=true->∀(i:Nat) (pins:List (Addr × Obj)) (s:Shared) (σ:St) (H:Hp) (E:Value->Shared->Prop),Inv X pins σ H s->(∀b∈fp,jD X pins H b)->tn i s.heap->J.stop i H ->
  wpAny (model P w) X.A (pyNext (.ref it)) (λr s1=>r=none/\Inv X pins σ H s1) E s
 self:∀(A:Around) (i:Nat) (s:Shared) (Q:Value->Shared->Prop) (E:Value->Shared->Prop),tn i s.heap->Q (.ref it) s->wpAny (model P w) A (pyIter (.ref it)) Q E s
noncomputable abbrev TI:=St->Hp->(It->Hp->Prop)->Prop
noncomputable def M0(X:Cx)(pins:List (Addr × Obj))(σ:St)(tg:Expr)(R:It->Hp->Prop)(EX:Value)(s2:Shared):Prop :=
 ∃(it:Addr) (fp:List Addr) (tn:Nat->Heap->Prop) (J:It) (H':Hp),EX=.ref it/\Inv X pins σ H' s2/\Turn X.prog X.w X.K tg J fp it tn/\tn 0 s2.heap/\(∀b∈fp,jD X pins H' b)/\R J H'
noncomputable def PI(X:Cx)(tg iter:Expr)(wi:TI):Prop :=
 ∀(pins:List (Addr × Obj)) (s:Shared) (σ:St) (H:Hp) (R:It->Hp->Prop),Inv X pins σ H s->wi σ H R ->
  wpAny (model X.prog X.w) X.A (eval iter X.env) (λv s1=>wpAny (model X.prog X.w) X.A (pyIter v) (M0 X pins σ tg R) X.xe s1) X.xe s
theorem M1{M:Model}{A:Around}{E:Value->Shared->Prop}{s:Shared}{tg:Expr}{it:Addr}{u:Value}{o:Obj}{n:String}{vs:Array Value}{Q:Unit->Shared->Prop}(ho:s.heap.get? it=some o)(hc:o.cls=.type n)(hd:o.data=.fields vs)
  (hn:["enumerate","zip","dict_itemiterator","dict_reverseitemiterator","odict_iterator","itertools.zip_longest","itertools.pairwise"].contains n=false) (hQ:Q () s):wpAny M A (letOwnedTupleGo tg (.ref it) u) Q E s:=by
 unfold letOwnedTupleGo
 cases tg<;>first
  | exact wpAny_pure hQ
  | (cases u<;>first
    | exact wpAny_pure hQ
    | (refine wpAny_bind (wpAny_load ho ?_)
       rw[hc,hd]
       show wpAny M A (if(["enumerate","zip","dict_itemiterator","dict_reverseitemiterator","odict_iterator","itertools.zip_longest","itertools.pairwise"].contains n&&vs[0]?==some (rawInt _))=true then _ else _) Q E s
       rw[if_neg (by intro h;rw[hn,qg]at h;cases h)]
       exact wpAny_pure hQ))
noncomputable def EY(K:PySem.W.Frag)(a:Addr):It :=
 ⟨λi H=>∃xs x,bF K H a xs/\xs[i]?=some x,λi H x H'=>H'=H/\∀xs,bF K H a xs->xs[i]?=some x,λi H=>∃xs,bF K H a xs/\xs.length<=i⟩
noncomputable def yb(lo:Int)(n:Nat):It:=⟨λi _=>i<n,λi H x H'=>H'=H/\x=.int (lo+i),λi _=>n<=i⟩
theorem X6{P:Program}{w:World}{K:PySem.W.Frag}{tg:Expr}(a it:Addr):Turn P w K tg (EY K a) [it] it (λi h=>h.IsListIter it a i) where
 mem:=by simp
 obj:=λi h st b hb=>by
  have e:b=it:=by simpa using hb
  subst e
  obtain⟨o,e,c,d⟩:=st
  exact⟨o,e,λv z=>by rw[d]at z;cases z⟩
 keep:=λi h h' st k=>st.at λo e=>k it (by simp) o e
 item:=by
  intro X hP hw hK hc i pins s σ H E I hf st hg
  subst hP hw hK
  obtain⟨xs,x,hq,hx⟩:=hg
  obtain⟨its,rv,p,hz⟩:=I.list hq
  obtain⟨u,hu,ru⟩:=rv.get hx
  obtain⟨f0,f1,f2,f3,f4,f5⟩:=hf it (by simp)
  refine wpAny_pyNext_list_item st p.isList (x:=u) (by simpa using hu) λh' qC sb=>?_
  have I1:Inv X pins σ H { s with heap:=h' }:=I.turned (t':=s.toks) (λb o hb e=>(sb.2 b hb).trans e) f0 f1 f3 f4 f5
  obtain⟨o,e,c,d⟩:=id qC
  exact⟨u,rfl,M1 (s:={ s with heap:=h' }) e c d (by decide) ⟨x,H,I1,ru,⟨rfl,λys hy=>by rw[I.Bb hy hq];exact hx⟩,qC,λb hb=>(hf b hb).1⟩⟩
 done:=by
  intro X hP hw hK hc i pins s σ H E I hf st hg
  subst hP hw hK
  obtain⟨xs,hq,hx⟩:=hg
  obtain⟨its,rv,p,hz⟩:=I.list hq
  obtain⟨f0,f1,f2,f3,f4,f5⟩:=hf it (by simp)
  have hl:=rv.length
  exact wpAny_pyNext_list_end (I.ok.hd hc) st p.isList (by simp;omega) λh' eb=>⟨rfl,I.turned (t':=s.toks) (λb o hb e=>eb b o hb e) f0 f1 f3 f4 f5⟩
 self:=λ_ _ _ _ _ st h=>wpAny_pyIter_listiter st h
theorem X7{P:Program}{w:World}{K:PySem.W.Frag}{tg:Expr}(it:Addr)(lo:Int)(n:Nat):Turn P w K tg (yb lo n) [it] it (λi h=>IsRangeIter h it (lo+(i:Nat)*1) ((n:Int)-(i:Nat)) 1) where
 mem:=by simp
 obj:=λi h st b hb=>by
  have e:b=it:=by simpa using hb
  subst e
  exact⟨_,st,λv z=>by
   have z':Data.fields _=Data.cell v:=z
   cases z'⟩
 keep:=λi h h' st k=>k it (by simp) _ st
 item:=by
  intro X hP hw hK hc i pins s σ H E I hf st hg
  subst hP hw hK
  obtain⟨f0,f1,f2,f3,f4,f5⟩:=hf it (by simp)
  have W:=Walks.range (prog:=X.prog) (w:=X.w) (I.ok.hd hc) it lo 1 n
  refine W.item i s _ _ hg st λv h' tk hv qC kk=>?_
  obtain⟨t,rfl⟩:=hv
  have I1:Inv X pins σ H { s with heap:=h',toks:=tk }:=I.turned (λb o hb e=>kk b o (by simpa using hb) e) f0 f1 f3 f4 f5
  refine⟨_,rfl,M1 (s:={ s with heap:=h',toks:=tk }) (n:="range_iterator") qC rfl rfl (by decide) ⟨.int (lo+i),H,I1,⟨t,?_⟩,⟨rfl,rfl⟩,qC,λb hb=>(hf b hb).1⟩⟩
  rw[Int.mul_one]
 done:=by
  intro X hP hw hK hc i pins s σ H E I hf st hg
  subst hP hw hK
  obtain⟨f0,f1,f2,f3,f4,f5⟩:=hf it (by simp)
  exact wpAny_pyNext_range_end (I.ok.hd hc) st (by have:n<=i:=hg;omega) λh' eb=>⟨rfl,I.turned (t':=s.toks) (λb o hb e=>eb b o hb e) f0 f1 f3 f4 f5⟩
 self:=λ_ _ _ _ _ st h=>wpAny_pyIter_rangeiter st h
end L2
namespace L2
open PySem PySem.Spec PyProof.Rows
section
variable{X:Cx}{tg:Expr}
noncomputable def X8(K:PySem.W.Frag)(tl:TE):TI:=λσ H R=>tl σ H λx H1=>∃a,x=.ref a/\(∃xs,bF K H1 a xs)/\R (EY K a) H1
theorem EZ{l:Expr}{tl:TE}(hl:PE X l tl):PI X tg l (X8 X.K tl):=by
 intro pins s σ H R I h
 refine aT (hl pins s σ H _ I h) λv s1 ⟨x,H1,I1,r1,q1⟩=>?_
 obtain⟨a,e,⟨xs,hq⟩,q⟩:=q1
 subst e
 cases r1
 obtain⟨its,rv,p,hz⟩:=I1.list hq
 refine wpAny_pyIter_list p.isList ?_
 refine⟨s1.heap.objs.size,[s1.heap.objs.size],_,_,H1,rfl,I1.kept (t':=s1.toks) λb o e=>gG _ e,X6 a _,⟨_,i5 _ rfl,rfl,rfl⟩,λb hb=>?_,q⟩
 have e:b=s1.heap.objs.size:=by simpa using hb
 subst e
 exact I1.Bd (bL _) (I1.aS.fresh (bL _))
theorem M3{pins:List (Addr × Obj)}{σ:St}{H:Hp}{s:Shared}{R:It->Hp->Prop}{E:Value->Shared->Prop}{lo hi:Int}{t u v:Tok}{tk:Nat}(I:Inv X pins σ H s)(h1:-(2 ^ 62)<=lo)(h2:lo<2 ^ 62)(h3:-(2 ^ 62)<=hi)(h4:hi<2 ^ 62)
  (q:R (yb lo (hi-lo).toNat) H):wpAny (model X.prog X.w) X.A (pyIter (.ref s.heap.objs.size)) (M0 X pins σ tg R) E { s with heap:=s.heap.push { cls:=.type "range",data:=.fields #[.int lo t,.int hi u,.int 1 v] },toks:=tk }:=by
 refine wpAny_pyIter_range (IsRange.new ..) (small_one h1 h2 h3 h4) ?_
 have I1:Inv X pins σ H { s with heap:=s.heap.push { cls:=.type "range",data:=.fields #[.int lo t,.int hi u,.int 1 v] },toks:=tk }:=I.kept λb o e=>gG _ e
 refine⟨(s.heap.push { cls:=.type "range",data:=.fields #[.int lo t,.int hi u,.int 1 v] }).objs.size,[(s.heap.push { cls:=.type "range",data:=.fields #[.int lo t,.int hi u,.int 1 v] }).objs.size],_,_,H,rfl,
  I1.kept (t':=tk) λb o e=>gG _ e,X7 _ lo (hi-lo).toNat,?_,λb hb=>?_,q⟩
 ·have e1:lo+((0:Nat):Int)*1=lo:=by simp
  have e2:(((hi-lo).toNat:Nat):Int)-((0:Nat):Int)=Builtin.Range.rangeSize lo hi 1:=by rw[rangeSize_one];split<;>omega
  show IsRangeIter _ _ (lo+((0:Nat):Int)*1) ((((hi-lo).toNat:Nat):Int)-((0:Nat):Int)) 1
  rw[e1,e2]
  exact i5 _ rfl
 ·have e:b=(s.heap.push { cls:=.type "range",data:=.fields #[.int lo t,.int hi u,.int 1 v] }).objs.size:=by simpa using hb
  subst e
  exact I1.Bd (bL _) (I1.aS.fresh (bL _))
noncomputable def X9(ta:TA):TI:=λσ H R=>ta σ H λvs H1=>∃j:Int,vs=[.int j]/\-(2 ^ 62)<=j/\j<2 ^ 62/\R (yb 0 j.toNat) H1
noncomputable def Ya(ta:TA):TI:=λσ H R=>ta σ H λvs H1=>∃i j:Int,vs=[.int i,.int j]/\(-(2 ^ 62)<=i/\i<2 ^ 62/\-(2 ^ 62)<=j/\j<2 ^ 62)/\R (yb i (j-i).toNat) H1
theorem Yb{a:Expr}{ta:TA}{p pos:Pos}(hg:Gl X "range")(hm:X.mg "range"=none)(ha:PA X [a] ta)(hs:starEach [a] X.env=[(false,eval a X.env)]:=by rfl):PI X tg (.Call (.Name "range" p) [a] [] pos) (X9 ta):=by
 intro pins s σ H R I h
 refine Call_ (nR I hg hm boot_range (vM (aT (ha pos pins s σ H _ I h) λus s1 ⟨vs,H1,I1,r1,q1⟩=>?_) hs rfl))
 obtain⟨j,e,q1,q2,q⟩:=q1
 subst e
 cases r1 with
 | cons r rr =>
  cases rr
  obtain⟨t,rfl⟩:=r
  exact call_range_1 (M3 I1 (by omega) (by omega) q1 q2 (by simpa using q))
theorem Yc{a b:Expr}{ta:TA}{p pos:Pos}(hg:Gl X "range")(hm:X.mg "range"=none)(ha:PA X [a,b] ta)(hs:starEach [a,b] X.env=[(false,eval a X.env),(false,eval b X.env)]:=by rfl)(eM:starEach [b] X.env=[(false,eval b X.env)]:=by rfl) :
  PI X tg (.Call (.Name "range" p) [a,b] [] pos) (Ya ta):=by
 intro pins s σ H R I h
 refine Call_ (nR I hg hm boot_range (vM (aT (ha pos pins s σ H _ I h) λus s1 ⟨vs,H1,I1,r1,q1⟩=>?_) (by rw[hs,eM]) (by rw[eM];rfl)))
 obtain⟨i,j,e,⟨q1,q2,q3,q4⟩,q⟩:=q1
 subst e
 cases r1 with
 | cons r rr =>
  cases rr with
  | cons r' rr =>
   cases rr
   obtain⟨t,rfl⟩:=r
   obtain⟨t',rfl⟩:=r'
   exact call_range_2 (M3 I1 q1 q2 q3 q4 q)
noncomputable def Yd(wi:TI)(g:TG)(tb:TS):TS:=λD σ H=>wi σ H λJ H1=>∃W:Nat->Nat->St->Hp->Prop,(∃m,W 0 m σ H1)/\∀i m σ H,W i m σ H ->
 (J.stop i H/\D.nx σ H)\/(J.go i H/\∃N:St->Hp->Prop,(∀aK H',N aK H'->∃m',m'<m/\W (i+1) m' aK H')/\∀x H',J.kC i H x H'->g x σ H' λmD H2=>tb { D with nx:=N,ct:=N,bk:=D.nx } mD H2)
noncomputable def yc(fp:List Addr)(h:Heap):List (Addr × Obj):=fp.filterMap λb=>(h.get? b).map λo=>(b,o)
theorem Be{fp:List Addr}{h:Heap}{b:Addr}{o:Obj}(hb:b∈fp)(e:h.get? b=some o):(b,o)∈yc fp h:=WK.mpr ⟨b,hb,by rw[e];rfl⟩
theorem Ye{fp:List Addr}{h:Heap}{p:Addr × Obj}(hp:p∈yc fp h):p.1∈fp/\h.get? p.1=some p.2:=by
 obtain⟨b,hb,e⟩:=WK.mp hp
 cases q:h.get? b with
 | none=>rw[q]at e;cases e
 | some o =>
  rw[q]at e
  have e':(b,o)=p:=dh e
  subst e'
  exact⟨hb,q⟩
theorem Inv.pinned{pins:List (Addr × Obj)}{σ:St}{H:Hp}{s:Shared}{fp:List Addr}(I:Inv X pins σ H s)(hf:∀b∈fp,jD X pins H b)(ho:∀b∈fp,∃o,s.heap.get? b=some o/\∀v,o.data≠.cell v):Inv X (pins++yc fp s.heap) σ H s :=
 I.MS λp hp=>(cg.mp hp).elim (λz=>I.pin p (cY _ z)) λz=>by
  obtain⟨hb,e⟩:=Ye z
  obtain⟨f0,f1,f2,_⟩:=hf p.1 hb
  obtain⟨o,e',d⟩:=ho p.1 hb
  rw[e]at e';cases e'
  exact⟨e,f0,f1,f2,d⟩
theorem Inv.yd{pins pl:List (Addr × Obj)}{σ:St}{H:Hp}{s:Shared}(I:Inv X (pins++pl) σ H s):Inv X pins σ H s:=I.MS λp hp=>I.pin p (cY _ (dZ _ hp))
theorem Yf{iter:Expr}{body:List Stmt}{wi:TI}{g:TG}{tb:TS}{pos:Pos}(hp:PassesOwn (model X.prog X.w) X.A X.env X.xe)(hc:X.calm=true)(hi:PI X tg iter wi)(hg:PG X tg g)(hb:PSs X body tb)
  (hs:∀x,foldedSetIterable iter X.env x=pure x:=by intro _;rfl):PS X (.For tg iter body [] pos) (Yd wi g tb):=by
 intro pins s σ H D I h
 refine wpAny_For (aT (hi pins s σ H _ I h) λv s1 h1=>aT h1 λEX s2 h2=>?_) hs
 obtain⟨it,fp,tn,J,H2,e,I2,T,ye,f2,W,⟨m0,w0⟩,turn⟩:=h2
 subst e
 have E1:∀{H':Hp},(∀b∈fp,H' b=none)->∀b∈fp,jD X pins H' b:=λhn b hb=>⟨hn b hb,(f2 b hb).2⟩
 refine codeAny_forLoop_any (λn s'=>∃i aK H',Inv X pins aK H' s'/\tn i s'.heap/\(∀b∈fp,H' b=none)/\W i n aK H') ?_ m0 ⟨0,σ,H2,I2,ye,λb hb=>(f2 b hb).1,w0⟩
 rintro n s3 ⟨i,kY,H3,I3,M4,E2,w3⟩
 rcases turn i n kY H3 w3 with⟨stop,qn⟩ | ⟨go,N,hN,step⟩
 ·refine wpAny_passesOwn hp (aT (T.done X rfl rfl rfl hc i pins s3 kY H3 X.xe I3 (E1 E2) M4 stop) λr s4 ⟨hr,I4⟩=>?_)
  subst hr
  exact wpAny_execs_nil ⟨kY,H3,I4,qn⟩
 ·refine wpAny_passesOwn hp (aT (T.item X rfl rfl rfl hc i pins s3 kY H3 X.xe I3 (E1 E2) M4 go) λr s4 ⟨u,hr,h4⟩=>?_)
  subst hr
  refine wpAny_passesOwn hp (aT h4 λ_ s5 ⟨x,H5,I5,r5,y5,tU,yf⟩=>?_)
  have E3:=I5.pinned (E1 yf) (T.obj _ _ tU)
  refine wpAny_passesOwn hp (aT (hg _ s5 kY H5 x u _ E3 r5 (step x H5 y5)) λ_ s6 ⟨E4,H6,I6,q6⟩=>?_)
  refine wpAny_passesOwn hp (aT (hb _ s6 E4 H6 _ I6 q6) λf s7 q7=>?_)
  have again:∀{kZ:St} {H7:Hp},Inv X (pins++yc fp s5.heap) kZ H7 s7->N kZ H7->∃m,m<n/\∃i aK H',Inv X pins aK H' s7/\tn i s7.heap/\(∀b∈fp,H' b=none)/\W i m aK H':=λ{kZ H7} I7 n7=>by
   obtain⟨m',hm,w7⟩:=hN kZ H7 n7
   refine⟨m',hm,i+1,kZ,H7,I7.yd,T.keep _ _ _ tU λb hb o e=>(I7.pin (b,o) (cY _ (cY _ (Be hb e)))).1,λb hb=>?_,w7⟩
   obtain⟨o,e,d⟩:=T.obj _ _ tU b hb
   exact(I7.pin (b,o) (cY _ (cY _ (Be hb e)))).2.1
  cases f with
  | next=>obtain⟨kZ,H7,I7,n7⟩:=q7;exact again I7 n7
  | cont=>obtain⟨kZ,H7,I7,n7⟩:=q7;exact again I7 n7
  | brk=>obtain⟨kZ,H7,I7,q7⟩:=q7;exact⟨kZ,H7,I7.yd,q7⟩
  | ret v=>obtain⟨x7,kZ,H7,I7,r7,q7⟩:=q7;exact⟨x7,kZ,H7,I7.yd,r7,q7⟩
end
end L2
namespace L2
open PySem PySem.Spec PyProof.Rows
noncomputable abbrev R2:=V->V->Hp->VK->Prop
noncomputable def cM(X:Cx)(f:Value->Value->Sem Value)(r:R2):Prop :=
 ∀(pins:List (Addr × Obj)) (s:Shared) (σ:St) (H:Hp) (x y:V) (v u:Value) (Q:VK),Inv X pins σ H s->RelV x v->RelV y u->r x y H Q ->
  wpAny (model X.prog X.w) X.A (f v u) (EP X pins σ Q) X.xe s
noncomputable def E5(X:Cx)(f:Value->Sem Value)(r:V->Hp->VK->Prop):Prop :=
 ∀(pins:List (Addr × Obj)) (s:Shared) (σ:St) (H:Hp) (x:V) (v:Value) (Q:VK),Inv X pins σ H s->RelV x v->r x H Q ->
  wpAny (model X.prog X.w) X.A (f v) (EP X pins σ Q) X.xe s
noncomputable def ib(X:Cx)(f:Value)(r:List V->Hp->VK->Prop):Prop :=
 ∀(pins:List (Addr × Obj)) (s:Shared) (σ:St) (H:Hp) (xs:List V) (us:List Value) (Q:VK),Inv X pins σ H s->Vals xs us->r xs H Q ->
  wpAny (model X.prog X.w) X.A (call f us) (EP X pins σ Q) X.xe s
noncomputable def yg(r:R2)(ta tb:TE):TE:=λσ H Q=>ta σ H λx H1=>tb σ H1 λy H2=>r x y H2 Q
noncomputable def Yg(r:V->Hp->VK->Prop)(ta:TE):TE:=λσ H Q=>ta σ H λx H1=>r x H1 Q
noncomputable def rI(C:Int->Int->Prop)(g:Int->Int->V):R2:=λx y H Q=>∃i j,x=.int i/\y=.int j/\C i j/\Q (g i j) H
noncomputable def j3(g:Int->Int->V):R2:=λx y H Q=>∃i j,x=.int i/\y=.int j/\Q (g i j) H
noncomputable def rU(g:Int->V):V->Hp->VK->Prop:=λx H Q=>∃i,x=.int i/\Q (g i) H
section
variable{X:Cx}{a b c:Expr}{ta tb tc:TE}{pos:Pos}
theorem E6(ha:PE X a ta)(hb:PE X b tb){pins:List (Addr × Obj)}{s:Shared}{σ:St}{H:Hp}{R:V->V->Hp->Prop}(I:Inv X pins σ H s)
  (h:ta σ H λx H1=>tb σ H1 λy H2=>R x y H2) {Q:Value->Shared->Prop} {f:Value->Value->Sem Value}
  (hf:∀v u s2 x y H2,Inv X pins σ H2 s2->RelV x v->RelV y u->R x y H2->wpAny (model X.prog X.w) X.A (f v u) Q X.xe s2) :
  wpAny (model X.prog X.w) X.A (eval a X.env) (λv bG=>wpAny (model X.prog X.w) X.A (eval b X.env) (λu tT=>wpAny (model X.prog X.w) X.A (f v u) Q X.xe tT) X.xe bG) X.xe s:=by
 refine aT (ha pins s σ H _ I h) λv s1 ⟨x,H1,I1,r1,q1⟩=>?_
 refine aT (hb pins s1 σ H1 _ I1 q1) λu s2 ⟨y,H2,I2,r2,q2⟩=>?_
 exact hf v u s2 x y H2 I2 r1 r2 q2
theorem yh{op:Operator}{r:R2}(ho:cM X (binaryOp op) r)(ha:PE X a ta)(hb:PE X b tb):PE X (.BinOp a op b pos) (yg r ta tb):=by
 intro pins s σ H Q I h
 exact wpAny_BinOp (E6 ha hb I h λv u s2 x y H2 I2 rx ry q=>ho pins s2 σ H2 x y v u Q I2 rx ry q)
theorem Yh{op:UnaryOp}{r:V->Hp->VK->Prop}(ho:E5 X (unaryOp op) r)(ha:PE X a ta):PE X (.UnaryOp op a pos) (Yg r ta):=by
 intro pins s σ H Q I h
 exact UnaryOp_ (aT (ha pins s σ H _ I h) λv s1 ⟨x,H1,I1,r1,q1⟩=>ho pins s1 σ H1 x v Q I1 r1 q1)
theorem yi{f:Value->Value->Sem Value}{C:Int->Int->Prop}{g:Int->Int->Int}
  (rule:∀(i j:Int) (t u:Tok) (s:Shared) (Q:Value->Shared->Prop) (E:Value->Shared->Prop),C i j->Q (.int (g i j) s.toks) { s with toks:=s.toks+1 }->wpAny (model X.prog X.w) X.A (f (.int i t) (.int j u)) Q E s) :
  cM X f (rI C λi j=>.int (g i j)):=by
 intro pins s σ H x y v u Q I rx ry h
 obtain⟨i,j,rfl,rfl,hc,q⟩:=h
 obtain⟨t,rfl⟩:=rx
 obtain⟨t',rfl⟩:=ry
 exact rule i j t t' s _ _ hc ⟨.int (g i j),H,I.tok _,⟨_,rfl⟩,q⟩
theorem wg{f:Value->Value->Sem Value}{g:Int->Int->Int}
  (rule:∀(i j:Int) (t u:Tok) (s:Shared) (Q:Value->Shared->Prop) (E:Value->Shared->Prop),Q (.int (g i j) s.toks) { s with toks:=s.toks+1 }->wpAny (model X.prog X.w) X.A (f (.int i t) (.int j u)) Q E s) :
  cM X f (j3 λi j=>.int (g i j)):=by
 intro pins s σ H x y v u Q I rx ry h
 obtain⟨i,j,rfl,rfl,q⟩:=h
 obtain⟨t,rfl⟩:=rx
 obtain⟨t',rfl⟩:=ry
 exact rule i j t t' s _ _ ⟨.int (g i j),H,I.tok _,⟨_,rfl⟩,q⟩
theorem Bf{f:Value->Value->Sem Value}{g:Int->Int->Bool}
  (rule:∀(i j:Int) (t u:Tok) (s:Shared) (Q:Value->Shared->Prop) (E:Value->Shared->Prop),Q (.bool (g i j)) s->wpAny (model X.prog X.w) X.A (f (.int i t) (.int j u)) Q E s) :
  cM X f (j3 λi j=>.bl (g i j)):=by
 intro pins s σ H x y v u Q I rx ry h
 obtain⟨i,j,rfl,rfl,q⟩:=h
 obtain⟨t,rfl⟩:=rx
 obtain⟨t',rfl⟩:=ry
 exact rule i j t t' s _ _ ⟨.bl (g i j),H,I,rfl,q⟩
noncomputable def j4(i j:Int):Prop:=(-(2 ^ 64)<i/\i<2 ^ 64)\/(-(2 ^ 64)<j/\j<2 ^ 64)
theorem j4.ok{i j:Int}(h:j4 i j):IntMulOk i j:=by
 rcases h with⟨h1,h2⟩ | ⟨h1,h2⟩
 ·exact .of_left (intBits_le_64 h1 h2)
 ·exact .of_right (intBits_le_64 h1 h2)
theorem Yi(k:Nat):(0:Int)<=2 ^ k:=by
 rw[two_pow_cast]
 exact Md _
theorem Yj:cM X (binaryOp .Add) (j3 λi j=>.int (i+j)):=wg λ_ _ _ _ _ _ _ q=>add_int q
theorem E7:cM X (binaryOp .Sub) (j3 λi j=>.int (i-j)):=wg λ_ _ _ _ _ _ _ q=>sub_int q
theorem Yk:cM X (binaryOp .Mod) (rI (λ_ j=>0<j) λi j=>.int (i%j)):=yi λi j _ _ _ _ _ hc q=>by
 have h1:(0:Int)<j:=hc
 exact mod_int' (by omega) (by rw[Int.fmod_eq_emod_of_nonneg i (by omega)];exact q)
theorem Yl:cM X (binaryOp .RShift) (rI (λ_ j=>0<=j) λi j=>.int (i/2 ^ j.toNat)):=yi λi j _ _ _ _ _ hc q =>
 rshift_int hc (by rw[WL i (Yi _)];exact q)
theorem Ym:cM X (binaryOp .BitAnd) (j3 λi j=>.int (qh i j)):=wg λ_ _ _ _ _ _ _ q=>and_int q
theorem Yn:cM X (binaryOp .BitXor) (j3 λi j=>.int (qi i j)):=wg λ_ _ _ _ _ _ _ q=>xor_int q
theorem Yo:cM X (inplaceOp .Add) (j3 λi j=>.int (i+j)):=wg λ_ _ _ _ _ _ _ q=>iadd_int q
theorem Yp:cM X (inplaceOp .BitXor) (j3 λi j=>.int (qi i j)):=wg λ_ _ _ _ _ _ _ q=>ixor_int q
theorem Yq{f:Value->Sem Value}{g:Int->Int}
  (rule:∀(i:Int) (t:Tok) (s:Shared) (Q:Value->Shared->Prop) (E:Value->Shared->Prop),Q (.int (g i) s.toks) { s with toks:=s.toks+1 }->wpAny (model X.prog X.w) X.A (f (.int i t)) Q E s) :
  E5 X f (rU λi=>.int (g i)):=by
 intro pins s σ H x v Q I rx h
 obtain⟨i,rfl,q⟩:=h
 obtain⟨t,rfl⟩:=rx
 exact rule i t s _ _ ⟨.int (g i),H,I.tok _,⟨_,rfl⟩,q⟩
theorem Yr:E5 X (unaryOp .USub) (rU λi=>.int (-i)):=Yq λ_ _ _ _ _ q=>neg_int q
end
section
variable{X:Cx}{a b c:Expr}{ta tb tc:TE}{pos:Pos}
theorem Ys{pins:List (Addr × Obj)}{σ:St}{H:Hp}{s:Shared}{Q:VK}{k k':Bool}(I:Inv X pins σ H s)(q:Q (.bl k) H)(e:k=k'):EP X pins σ Q (.bool k') s:=by
 subst e
 exact⟨.bl k,H,I,rfl,q⟩
theorem M5:cM X (compareOp .Lt) (j3 λi j=>.bl (decide (i<j))):=Bf λ_ _ _ _ _ _ _ q=>lt_int q
theorem Yt:cM X (compareOp .LtE) (j3 λi j=>.bl (decide (i<=j))):=Bf λ_ _ _ _ _ _ _ q=>le_int q
theorem M6:cM X (compareOp .Gt) (j3 λi j=>.bl (decide (j<i))):=Bf λ_ _ _ _ _ _ _ q=>gt_int q
theorem Yu:cM X (compareOp .GtE) (j3 λi j=>.bl (decide (j<=i))):=Bf λ_ _ _ _ _ _ _ q=>ge_int q
theorem Yv:cM X (compareOp .IsNot) (λx y H Q=>y=.av/\Q (.bl (!decide (x=.av))) H):=by
 intro pins s σ H x y v u Q I rx ry h
 obtain⟨rfl,q⟩:=h
 cases ry
 refine isnot_none_gen (Ys I q ?_)
 cases x<;>first
  | (cases rx;rfl)
  | (obtain⟨t,rfl⟩:=rx;rfl)
theorem cM.or{f:Value->Value->Sem Value}{r r':R2}(h:cM X f r)(h':cM X f r'):cM X f (λx y H Q=>r x y H Q\/r' x y H Q):=by
 intro pins s σ H x y v u Q I rx ry q
 rcases q with q | q
 ·exact h pins s σ H x y v u Q I rx ry q
 ·exact h' pins s σ H x y v u Q I rx ry q
theorem bH(b:Expr){op:CmpOp}(h:op≠.In:=by decide)(h2:op≠.NotIn:=by decide):behindInMarks op b=false:=by
 have e1:(op==CmpOp.In)=false:=by cases op<;>first | rfl | exact absurd rfl h
 have e2:(op==CmpOp.NotIn)=false:=by cases op<;>first | rfl | exact absurd rfl h2
 cases b<;>simp[behindInMarks,e1,e2]
theorem Yw{op:CmpOp}{r:R2}(ho:cM X (compareOp op) r)(ha:PE X a ta)(hb:PE X b tb)(hm:behindInMarks op b=false):PE X (.Compare a [op] [b] pos) (yg r ta tb):=by
 intro pins s σ H Q I h
 exact wpAny_Compare1 (E6 ha hb I h λv u s2 x y H2 I2 rx ry q=>ho pins s2 σ H2 x y v u Q I2 rx ry q) hm
noncomputable def M7(t:TE):TT:=λσ H Q=>t σ H λx H'=>∃k,x=.bl k/\Q k H'
theorem E8{op:CmpOp}{r:R2}(ho:cM X (compareOp op) r)(ha:PE X a ta)(hb:PE X b tb)(hm:behindInMarks op b=false):PT X (.Compare a [op] [b] pos) (M7 (yg r ta tb)):=by
 intro pins s σ H Q I h
 refine wpAny_isTrue_Compare1 (aT (ha pins s σ H _ I h) λv s1 ⟨x,H1,I1,r1,q1⟩=>aT (hb pins s1 σ H1 _ I1 q1) λu s2 ⟨y,H2,I2,r2,q2⟩ =>
  aT (ho pins s2 σ H2 x y v u _ I2 r1 r2 q2) λc s3 ⟨z,H3,I3,r3,k,e,q3⟩=>?_) hm
 subst e
 cases r3
 exact wpAny_truthy_bool ⟨H3,I3,q3⟩
noncomputable def M8(r r':R2)(ta tb tc:TE):TE:=λσ H Q=>ta σ H λx H1=>tb σ H1 λy H2=>r x y H2 λz H3=>∃k,z=.bl k /\
 (if k=true then tc σ H3 λw' H4=>r' y w' H4 Q else Q (.bl false) H3)
theorem Yx{op tV:CmpOp}{r r':R2}(ho:cM X (compareOp op) r)(kW:cM X (compareOp tV) r')(ha:PE X a ta)(hb:PE X b tb)(hc:PE X c tc)
  (hm:lastMarks [op,tV] [b,c]=false:=by with_unfolding_all rfl):PE X (.Compare a [op,tV] [b,c] pos) (M8 r r' ta tb tc):=by
 intro pins s σ H Q I h
 refine Compare_chain (aT (ha pins s σ H _ I h) λv s1 ⟨x,H1,I1,r1,q1⟩=>chain_link (aT (hb pins s1 σ H1 _ I1 q1) λu s2 ⟨y,H2,I2,r2,q2⟩ =>
  aT (ho pins s2 σ H2 x y v u _ I2 r1 r2 q2) λd s3 ⟨z,H3,I3,r3,k,e,q3⟩=>?_)) hm
 subst e
 cases r3
 refine wpAny_truthy_bool ?_
 cases k with
 | false=>exact ite_ff ⟨.bl false,H3,I3,rfl,q3⟩
 | true=>exact ite_tt (chain_last (aT (hc pins s3 σ H3 _ I3 q3) λw' s4 ⟨z',H4,I4,r4,q4⟩=>kW pins s4 σ H4 y z' u w' Q I4 r2 r4 q4))
theorem tW:(sizeLine:Nat)<2 ^ 63:=by rw[sizeLine_eq];decide
theorem Yy:cM X (binaryOp .Add) (λx y H Q=>∃i j,x=.str i/\y=.str j/\i.length+j.length<=sizeLine/\Q (.str (i++j)) H):=by
 intro pins s σ H x y v u Q I rx ry h
 obtain⟨i,j,rfl,rfl,hz,q⟩:=h
 obtain⟨t,rfl⟩:=rx
 obtain⟨t',rfl⟩:=ry
 exact add_str (λt' tk=>⟨.str (i++j),H,I.tok _,⟨_,rfl⟩,q⟩) hz
theorem yj{x:V}{us:List Value}(r:Vals [x] us):∃u,us=[u]/\RelV x u:=by
 cases r with
 | cons r1 r2=>cases r2;exact⟨_,rfl,r1⟩
theorem Yz{x y:V}{us:List Value}(r:Vals [x,y] us):∃u w',us=[u,w']/\RelV x u/\RelV y w':=by
 cases r with
 | cons r1 r2 =>
  cases r2 with
  | cons r3 r4=>cases r4;exact⟨_,_,rfl,r1,r3⟩
theorem YA(hc:X.calm=true):ib X (.builtin "min") (λxs H Q=>∃i j,xs=[.int i,.int j]/\Q (.int (if j<i then j else i)) H):=by
 intro pins s σ H xs us Q I r h
 obtain⟨i,j,rfl,q⟩:=h
 obtain⟨u,w',rfl,⟨t,rfl⟩,⟨t',rfl⟩⟩:=Yz r
 refine min_two_ints (I.ok.hd hc) λh' tk k=>⟨_,H,I.kept k,?_,q⟩
 by_cases hj:j<i
 ·rw[if_pos hj,if_pos hj];exact⟨_,rfl⟩
 ·rw[if_neg hj,if_neg hj];exact⟨_,rfl⟩
theorem YB:ib X (.type "int") (λxs H Q=>(∃i,xs=[.int i]/\Q (.int i) H)\/∃k,xs=[.bl k]/\Q (.int (if k then 1 else 0)) H):=by
 intro pins s σ H xs us Q I r h
 rcases h with⟨i,rfl,q⟩ | ⟨k,rfl,q⟩
 ·obtain⟨u,rfl,t,rfl⟩:=yj r
  exact call_int_int ⟨.int i,H,I,⟨_,rfl⟩,q⟩
 ·obtain⟨u,rfl,r1⟩:=yj r
  cases r1
  exact call_int_bool ⟨.int (if k then 1 else 0),H,I.tok _,⟨_,rfl⟩,q⟩
end
end L2
namespace L2
open PySem PySem.Spec PyProof.Rows
structure tX(h:Heap)(x dx C:Addr)(mA:Str->Option Value):Prop where
 obj:h.get? x=some (PySem.W.instObj C dx)
 ns:h.Ns1 dx mA
 ne:dx≠x
theorem YC{h:Heap}{dx:Addr}{mA:Str->Option Value}(n:h.Ns1 dx mA):∃od,h.get? dx=some od/\∀name,PySem.W.lookIn name od=some (mA name):=by
 obtain⟨o,es,ep,ho,hd,hk,_,hm⟩:=n
 refine⟨o,ho,λname=>?_⟩
 have e:=hm name
 unfold nsFind findBy at e
 rw[<-Array.find?_toList]at e
 unfold PySem.W.lookIn
 rw[hd]
 dsimp only
 split
 ·rename_i y q
  rw[q]at e
  exact congrArg some e
 ·rename_i q
  rw[q]at e
  have a:es.toList.any (·.refKey)=false:=by
   rw[List.any_eq_false]
   intro y hy
   obtain⟨z,t,YD⟩:=hk y (Array.mem_toList_iff.mp hy)
   simp[DictEntry.refKey,YD]
  have a':¬ es.toList.any (·.refKey)=true:=by rw[a];exact iZ
  rw[if_neg a']
  exact congrArg some e
theorem tX.look{h:Heap}{x dx C:Addr}{mA:Str->Option Value}(I:tX h x dx C mA):∃od,PySem.W.InstAt h x (PySem.W.instObj C dx) C (some od)/\∀name,PySem.W.lookIn name od=some (mA name) :=
 let⟨od,ho,hl⟩:=YC I.ns
 ⟨od,⟨I.obj,rfl,rfl,ho⟩,hl⟩
section
variable{prog:Program}{w:World}{A:Around}{E:Value->Shared->Prop}{s:Shared}{K:PySem.W.Frag}{x dx C f:Addr}{mA:Str->Option Value}{name:Str}{v:Value}
theorem YE{expr:Bool}{Q:Value->Shared->Prop}(X:K.In s.heap)(I:tX s.heap x dx C mA)(hg:PySem.W.plainGet K C name=true)(hh:PySem.W.hasDictIn K C=true)
  (ha:PySem.W.findIn K (.ref C) name=some none) (hv:mA name=some v) (YF:PySem.W.handedIn v=true) (h:Q v { s with toks:=s.toks+1 }) :
  wpAny (model prog w) A (getAttr (.ref x) name expr) Q E s:=by
 obtain⟨od,J,hl⟩:=I.look
 exact PySem.W.get_value X J (PySem.W.plainGet_of hg).1 (PySem.W.findObj_own hh ha rfl (by rw[hl,hv])) YF h
theorem YG{pl:Sem Bool}{Q:Value × List Value->Shared->Prop}(X:K.In s.heap)(I:tX s.heap x dx C mA)(hg:PySem.W.plainGet K C name=true)
  (hf:PySem.W.findIn K (.ref C) name=some (some (.ref f))) (ht:PySem.W.isFn K (.ref f)=true) (hv:mA name=none) (h:Q (.ref f,[.ref x]) s) :
  wpAny (model prog w) A (getMethod (.ref x) name pl) Q E s:=by
 obtain⟨od,J,hl⟩:=I.look
 exact PySem.W.method_fn X J (PySem.W.plainGet_of hg).1 (PySem.W.plainGet_of hg).2 hf (beq_iff_eq.mp ht) (by show(PySem.W.lookIn name od).map (·.isSome)=some false;rw[hl,hv];rfl) h
theorem YH{ns:List Str}{Q:Unit->Shared->Prop}(X:K.In s.heap)(I:tX s.heap x dx C mA)
  (hs:PySem.W.findIn K (.ref C) "__setattr__"=some (some (.builtin "object.__setattr__"))) (hp:PySem.W.plainOver K C=true) (ht:PySem.W.takerIn K C name=some none) (hh:PySem.W.hasDictIn K C=true)
  (hw:PySem.Within mA ns) (qD:ns.length<=sizeLine)
  (h:∀h',tX h' x dx C (λy=>if y=name then some v else mA y)->Heap.SameBut dx s.heap h'->Q () { s with heap:=h',toks:=s.toks+2 }) :
  wpAny (model prog w) A (setAttr (.ref x) name v) Q E s:=by
 obtain⟨od,J,hl⟩:=I.look
 refine PySem.W.set_plain X J hs (PySem.W.osa_open (s:={ s with toks:=s.toks+1 }) (r:=none) X J hp ht λb=>?_)
 obtain⟨cd,hc,xZ⟩:=PySem.W.any_some hh
 have hx:s.heap.get? x=some ⟨.ref C,some dx,.plain,#[]⟩:=I.obj
 refine wpAny_bind (wpAny_pure (wpAny_bind (wpAny_bind (wpAny_loadPart hx (wpAny_bind (PySem.W.Looks.here (s:={ s with toks:=s.toks+1 }) (PySem.W.looks_clsIn X hc) ?_))))))
 rw[xZ]
 refine wpAny_pure (a:=some dx) (wpAny_bind (wpAny_pure (wpAny_bind ?_)))
 refine wpAny_nsSet1 (s:={ s with toks:=s.toks+1 }) I.ns λh' yk eM=>?_
 obtain⟨oD,esD,epD,YI,YJ,YK⟩:=yk.count (PySem.Within.cons name v hw)
 refine wpAny_bind (wpAny_lookBehind YI (by rw[YJ];exact pastItsLine_dict (fE YK (by rw[fU];omega))) ?_)
 exact wpAny_pure (h _ ⟨(eM.2 _ (gW I.ne)).trans I.obj,yk,I.ne⟩ eM)
theorem YL{R:Result->Shared->Prop}{vs:List Value}{kw:List (Str × Value)}(X:K.In s.heap)(hm:PySem.W.makesIn K C=true)
  (hi:PySem.W.findIn K (.ref C) "__init__"=some (some (.ref f))) (hf:PySem.W.typeIn K (.ref f)=some (.type "function"))
  (h:codeAny (model prog w) (A.under (.builtin "type.__call__" ⟨.ref C::vs,kw⟩)) (.call (.ref f) ⟨.ref (s.heap.objs.size+1)::vs,kw⟩) (PySem.W.InitBack (s.heap.objs.size+1) R)
   { s with heap:=(s.heap.push PySem.W.emptyDict).push (PySem.W.instObj C s.heap.objs.size) }) :
  codeAny (model prog w) A (.call (.ref C) ⟨vs,kw⟩) R s:=by
 obtain⟨hh,g,d,t,os⟩:=s
 exact PySem.W.make_core (PySem.W.makes_of X hm) (PySem.W.looks_findIn X hi) (λself=>PySem.W.bind_fn X self hf) (.inl rfl) h
end
noncomputable def bC(f:Str)(v:V):List (Str × V)->List (Str × V)
 | []=>[(f,v)]
 | (g,x)::r=>if g=f then(g,v)::r else(g,x)::bC f v r
theorem M9(f g:Str)(v:V):∀fs:List (Str × V),(bC f v fs).lookup g=if g=f then some v else fs.lookup g
 | []=>by
  show mi g [(f,v)]=_
  by_cases h:g=f
  ·have hb:(g==f)=true:=beq_iff_eq.mpr h
   simp only[mi,hb,if_pos h]
  ·have hb:(g==f)=false:=beq_eq_false_iff_ne.mpr h
   simp only[mi,hb,if_neg h]
 | (k,x)::r=>by
  have ih:=M9 f g v r
  rw[show bC f v ((k,x)::r)=(if k=f then(k,v)::r else(k,x)::bC f v r) from rfl]
  by_cases hk:k=f
  ·rw[if_pos hk]
   by_cases h:g=k
   ·have hb:(g==k)=true:=beq_iff_eq.mpr h
    simp only[mi,hb,if_pos (h.trans hk)]
   ·have hb:(g==k)=false:=beq_eq_false_iff_ne.mpr h
    simp only[mi,hb,if_neg (λe:g=f=>h (e.trans hk.symm))]
  ·rw[if_neg hk]
   by_cases h:g=k
   ·have hb:(g==k)=true:=beq_iff_eq.mpr h
    simp only[mi,hb,if_neg (λe:g=f=>hk (h.symm.trans e))]
   ·have hb:(g==k)=false:=beq_eq_false_iff_ne.mpr h
    simp only[mi,hb]
    exact ih
theorem E9(f:Str)(v:V):∀fs:List (Str × V),f∈(bC f v fs).map (·.1)/\∀g,g∈fs.map (·.1)->g∈(bC f v fs).map (·.1)
 | []=>⟨by simp[bC],λg h=>by simp at h⟩
 | (k,x)::r=>by
  obtain⟨i1,i2⟩:=E9 f v r
  rw[show bC f v ((k,x)::r)=(if k=f then(k,v)::r else(k,x)::bC f v r) from rfl]
  by_cases hk:k=f
  ·rw[if_pos hk]
   subst hk
   exact⟨by simp,λg h=>by simpa using h⟩
  ·rw[if_neg hk]
   refine⟨?_,λg h=>?_⟩
   ·rw[cK]
    exact eG _ i1
   ·rw[cK]at h ⊢
    rcases cj.mp h with e | e
    ·exact cj.mpr (.inl e)
    ·exact eG _ (i2 g e)
theorem Na(f:Str)(v:V):∀fs:List (Str × V),(bC f v fs).length<=fs.length+1
 | []=>by simp[bC]
 | (k,x)::r=>by
  have ih:=Na f v r
  rw[show bC f v ((k,x)::r)=(if k=f then(k,v)::r else(k,x)::bC f v r) from rfl]
  by_cases hk:k=f
  ·rw[if_pos hk,fU,fU];omega
  ·rw[if_neg hk,fU,fU];omega
theorem mn.some_of{v:V}{o:Option Value}(r:mn (some v) o):∃u,o=some u/\RelV v u:=by
 cases o with
 | none=>exact(show False from r).elim
 | some u=>exact⟨u,rfl,r⟩
theorem mn.none_of{o:Option Value}(r:mn none o):o=none:=by
 cases o with
 | none=>rfl
 | some u=>exact(show False from r).elim
theorem YM{v:V}{u:Value}(r:RelV v u):PySem.W.handedIn u=true:=by
 cases v with
 | av=>cases(show u=D4 from r);rfl
 | bl b=>cases(show u=D6 b from r);rfl
 | int i=>obtain⟨t,e⟩:=(show ∃t,u=sY i t from r);cases e;rfl
 | str x=>obtain⟨t,e⟩:=(show ∃t,u=Value.str x t from r);cases e;rfl
 | AU b=>obtain⟨t,e⟩:=(show ∃t,u=Value.bytes b t from r);cases e;rfl
 | tL b=>obtain⟨t,e⟩:=(show ∃t,u=Value.float b t from r);cases e;rfl
 | ref a=>cases(show u=gT a from r);rfl
 | ty n=>cases(show u=Value.type n from r);rfl
section
variable{P:Program}{w:World}{H H':Hp}{h h':Heap}{a C dx:Addr}{fs fs':List (Str × V)}
theorem Bg(aS:dA P w H h)(e:H a=some (.ins C dx fs)):∃mA,tX h a dx C mA/\(∀f,mn (fs.lookup f) (mA f))/\PySem.Within mA (fs.map (·.1))/\fs.length<=1000/\H dx=some (.own a):=by
 obtain⟨d,z,ne,ob,mA,n,r,q⟩:=(show eJ P w H h a (.ins C dx fs) from aS a _ e)
 exact⟨mA,⟨ob,n,ne⟩,r,q,z,d⟩
end
structure dk(K:PySem.W.Frag)(C:Addr):Prop where
 pg:PySem.W.plainGet K C xG=true
 hd:PySem.W.hasDictIn K C=true
 po:PySem.W.plainOver K C=true
 sa:PySem.W.findIn K (.ref C) "__setattr__"=some (some (.builtin "object.__setattr__"))
theorem dk.get{K:PySem.W.Frag}{C:Addr}(c:dk K C)(f:Str):PySem.W.plainGet K C f=true:=c.pg
noncomputable def br(K:PySem.W.Frag)(C:Addr)(f:Str):Prop:=PySem.W.findIn K (.ref C) f=some none
theorem br.YN{K:PySem.W.Frag}{C:Addr}{f:Str}(n:br K C f):PySem.W.takerIn K C f=some none:=by
 unfold PySem.W.takerIn
 rw[show PySem.W.findIn K (.ref C) f=some none from n]
 rfl
structure Meth(K:PySem.W.Frag)(C:Addr)(m:Str)(f:Addr):Prop where
 at_:PySem.W.findIn K (.ref C) m=some (some (.ref f))
 fn:PySem.W.isFn K (.ref f)=true
 kp:PySem.W.keepIn K (.ref f)=true
section
variable{X:Cx}{pins:List (Addr × Obj)}{σ:St}{H:Hp}{s:Shared}{a C dx:Addr}{fs:List (Str × V)}{f:Str}{v:V}{A:Around}{E:Value->Shared->Prop}
theorem YO{b:Bool}{Q:Value->Shared->Prop}(I:Inv X pins σ H s)(e:H a=some (.ins C dx fs))(c:dk X.K C)(n:br X.K C f)(l:fs.lookup f=some v)
  (h:∀u s',Inv X pins σ H s'->RelV v u->Q u s'):wpAny (model X.prog X.w) A (getAttr (.ref a) f b) Q E s:=by
 obtain⟨mA,O,r,_,_,_⟩:=Bg I.aS e
 obtain⟨u,hu,ru⟩:=mn.some_of (v:=v) (o:=mA f) (by rw[<-l];exact r f)
 exact YE I.dB O (c.get f) c.hd n hu (YM ru) (h u _ (I.tok _) ru)
theorem Fc{m:Str}{g:Addr}{pl:Sem Bool}{Q:Value × List Value->Shared->Prop}(I:Inv X pins σ H s)(e:H a=some (.ins C dx fs))(c:dk X.K C)(k:Meth X.K C m g)(l:fs.lookup m=none)
  (h:Q (.ref g,[.ref a]) s):wpAny (model X.prog X.w) A (getMethod (.ref a) m pl) Q E s:=by
 obtain⟨mA,O,r,_,_,_⟩:=Bg I.aS e
 have hn:mA m=none:=mn.none_of (by rw[<-l];exact r m)
 exact YG I.dB O (c.get m) k.at_ k.fn hn h
theorem YQ{y:V}{u:Value}{Q:Unit->Shared->Prop}(I:Inv X pins σ H s)(e:H a=some (.ins C dx fs))(c:dk X.K C)(n:br X.K C f)(hl:fs.length<1000)(ry:RelV y u)
  (h:∀s',Inv X pins σ (upd H a (.ins C dx (bC f y fs))) s'->Q () s'):wpAny (model X.prog X.w) A (setAttr (.ref a) f u) Q E s:=by
 obtain⟨mA,O,r,wi,_,ho⟩:=Bg I.aS e
 have hz:(fs.map (·.1)).length<=sizeLine:=by rw[bt,sizeLine_eq];omega
 refine YH I.dB O c.sa c.po n.YN c.hd wi hz λh' O' sb=>h _ ?_
 have hd:∃o,h'.get? dx=some o:=let⟨o,_,_,e',_⟩:=O'.ns;⟨o,e'⟩
 refine I.write (x:=a) (e:=dx) (by rw[e];exact vN) (.inr ho) (λb q hb z=>(sb.2 b hb).trans z) hd ?_
 refine⟨by rw[aV O.ne];exact ho,?_,O.ne,O'.obj,_,O'.ns,λg=>?_,λg hg=>?_⟩
 ·have:=Na f y fs;omega
 ·show mn ((bC f y fs).lookup g) (if g=f then some u else mA g)
  rw[M9]
  by_cases q:g=f
  ·rw[if_pos q,if_pos q];exact ry
  ·rw[if_neg q,if_neg q];exact r g
 ·by_cases q:g=f
  ·rw[q];exact(E9 f y fs).1
  ·refine(E9 f y fs).2 g (wi g λz=>hg ?_)
   show(if g=f then some u else mA g)=none
   rw[if_neg q];exact z
theorem Inv.made(I:Inv X pins σ H s):Inv X pins σ (upd (upd H s.heap.objs.size (.own (s.heap.objs.size+1))) (s.heap.objs.size+1) (.ins C s.heap.objs.size []))
  { s with heap:=(s.heap.push PySem.W.emptyDict).push (PySem.W.instObj C s.heap.objs.size) }:=by
 have e1:(s.heap.push PySem.W.emptyDict).get? s.heap.objs.size=some PySem.W.emptyDict:=i5 s.heap rfl
 have e2:((s.heap.push PySem.W.emptyDict).push (PySem.W.instObj C s.heap.objs.size)).get? (s.heap.objs.size+1)=some (PySem.W.instObj C s.heap.objs.size):=by
  have:=i5 (s.heap.push PySem.W.emptyDict) (o:=PySem.W.instObj C s.heap.objs.size) rfl
  rwa [xH]at this
 have e3:(s.heap.push PySem.W.emptyDict).Ns s.heap.objs.size (λ_=>none):=⟨PySem.W.emptyDict,#[],_,e1,rfl,(λe he=>absurd he (by simp)),λ_=>rfl⟩
 have I1:=I.laid (a:=s.heap.objs.size) (o:=.own (s.heap.objs.size+1)) (h':=s.heap.push PySem.W.emptyDict) (t':=s.toks) (λb u q=>gG _ q) (bL _) ⟨_,e1⟩
 refine I1.laid (a:=s.heap.objs.size+1) (o:=.ins C s.heap.objs.size []) (t':=s.toks) (λb u q=>gG _ q) (AB (xH _ _)) ?_
 have ne:s.heap.objs.size≠s.heap.objs.size+1:=gh (D7 _)
 refine⟨by rw[aV ne,bA],iC _,ne,e2,λ_=>none,(Heap.Ns1.of_empty e3).at λo q=>gG _ q,λ_=>vN,λy hy=>absurd rfl hy⟩
theorem YR{prog:Program}{w:World}{env:Env}{e:Expr}{f:Str}{pos:Pos}{s:Shared}{Q:Value->Shared->Prop}(hb:attributeBase e f env (eval e env)=eval e env)
  (h:wpAny (model prog w) A (eval e env) (λo bG=>wpAny (model prog w) A (getAttr o f true) Q E bG) E s):wpAny (model prog w) A (eval (.Attribute e f pos) env) Q E s :=
 Attribute_any_ h (by rw[arm_eval_Attribute,hb])
end
noncomputable def YS(K:PySem.W.Frag)(ta:TE)(f:Str):TE:=λσ H Q=>ta σ H λx H1=>∃a C dx fs v,x=.ref a/\H1 a=some (.ins C dx fs)/\dk K C/\br K C f/\fs.lookup f=some v/\Q v H1
noncomputable def YT(K:PySem.W.Frag)(ta tv:TE)(f:Str):TS:=λD σ H=>tv σ H λy H1=>ta σ H1 λx H2=>∃a C dx fs,x=.ref a/\H2 a=some (.ins C dx fs)/\dk K C/\br K C f/\fs.length<1000 /\
 D.nx σ (upd H2 a (.ins C dx (bC f y fs)))
section
variable{X:Cx}{o e value:Expr}{f:Str}{pos pos' mE:Pos}{ta tv:TE}
theorem tY(he:PE X e ta)(hb:attributeBase e f X.env (eval e X.env)=eval e X.env):PE X (.Attribute e f pos) (YS X.K ta f):=by
 intro pins s σ H Q I h
 refine YR hb (aT (he pins s σ H _ I h) λu s1 ⟨x,H1,I1,rx,a,C,dx,fs,v,ex,ea,c,n,l,q⟩=>?_)
 subst ex
 obtain rfl:u=gT a:=rx
 exact YO I1 ea c n l λu' s2 I2 ru=>⟨v,H1,I2,ru,q⟩
theorem ie(ha:PE X o ta)(hv:PE X value tv)(hs:swapsWith value (some (.Attribute o f pos')) pos.line X.env=pure false):PS X (.Assign [.Attribute o f pos'] value pos) (YT X.K ta tv f):=by
 intro pins s σ H D I h
 refine plainObj_wpAny_Assign_Attribute (aT (hv pins s σ H _ I h) λu s1 ⟨y,H1,I1,ry,q⟩=>aT (ha pins s1 σ H1 _ I1 q) λov s2 ⟨x,H2,I2,rx,a,C,dx,fs,ex,ea,c,n,l,q2⟩=>?_) hs
 subst ex
 obtain rfl:ov=gT a:=rx
 exact YQ I2 ea c n l ry λs3 I3=>⟨σ,_,I3,q2⟩
end
section
variable{X:Cx}{pins:List (Addr × Obj)}{σ:St}{H:Hp}{s:Shared}{A:Around}{E:Value->Shared->Prop}{Q:Value->Shared->Prop}{c:Value}{b:Bool}
inductive i9(K:PySem.W.Frag)(H:Hp):V->Value->Prop where
 | av:i9 K H .av (.type "NoneType")
 | bl (x:Bool):i9 K H (.bl x) (.type "bool")
 | int (i:Int):i9 K H (.int i) (.type "int")
 | str (x:Str):i9 K H (.str x) (.type "str")
 | tL (x:UInt64):i9 K H (.tL x) (.type "float")
 | lst {a:Addr} {xs:List V} (e:H a=some (.lst xs)):i9 K H (.ref a) (.type "list")
 | bu {a:Addr} {o:Obj} {xs:List V} (e:H a=some (.bu o (.lst xs))):i9 K H (.ref a) (.type "list")
 | tup {a:Addr} {xs:List V} (e:H a=some (.tup xs)):i9 K H (.ref a) (.type "tuple")
 | dK {a:Addr} {dS:List (Key × V)} (e:H a=some (.dK dS)):i9 K H (.ref a) (.type "dict")
 | dT {a:Addr} {dS:List (List Key × V)} (e:H a=some (.dT dS)):i9 K H (.ref a) (.type "dict")
 | ins {a C dx:Addr} {fs:List (Str × V)} (e:H a=some (.ins C dx fs)) (cl:dk K C) (ha:PySem.W.findIn K (.ref C) "__class__"=some (some (.builtin "object.__class__")))
   (hn:PySem.W.specialIn K (.builtin "object.__class__") "__get__"=some (some (.builtin "getset_descriptor.__get__"))) (Nb:PySem.W.takesIn K (.builtin "object.__class__")=some true)
   (hm:PySem.W.mroIn K C (.type "object")=some true):i9 K H (.ref a) (.ref C)
theorem YU{x:V}{u t:Value}(I:Inv X pins σ H s)(rx:RelV x u)(ty:i9 X.K H x t)(e:PySem.W.kitOne X.K t c=some b)(h:∀tk,Q (.bool b) { s with toks:=tk }) :
  wpAny (model X.prog X.w) A (call (.builtin "isinstance") [u,c]) Q E s:=by
 cases ty with
 | av=>cases(show u=D4 from rx);exact PySem.W.kia_one PySem.W.kitx_none I.dB vN e (λz=>nomatch z) h
 | bl y=>cases(show u=D6 y from rx);exact PySem.W.kia_one PySem.W.kitx_bool I.dB vN e (λz=>nomatch z) h
 | int i=>obtain⟨t,q⟩:=(show ∃t,u=sY i t from rx);cases q;exact PySem.W.kia_one PySem.W.kitx_int I.dB vN e (λz=>nomatch z) h
 | str y=>obtain⟨t,q⟩:=(show ∃t,u=Value.str y t from rx);cases q;exact PySem.W.kia_one PySem.W.kitx_str I.dB vN e (λz=>nomatch z) h
 | tL y=>obtain⟨t,q⟩:=(show ∃t,u=Value.float y t from rx);cases q;exact PySem.W.kia_one PySem.W.kitx_float I.dB vN e (λz=>nomatch z) h
 | @lst a xs ea =>
  cases(show u=gT a from rx)
  obtain⟨_,_,n,_,h1⟩:=(show eJ X.prog X.w H s.heap a (.lst xs) from I.aS a _ ea)
  exact PySem.W.kia_one PySem.W.kitx_list I.dB ⟨_,h1,rfl⟩ e (λz=>nomatch z) h
 | @bu a ob xs ea =>
  cases(show u=gT a from rx)
  obtain⟨_,_,_,n,_,h1⟩:=(show eJ X.prog X.w H s.heap a (.bu ob (.lst xs)) from I.aS a _ ea)
  exact PySem.W.kia_one PySem.W.kitx_list I.dB ⟨_,h1,rfl⟩ e (λz=>nomatch z) h
 | @tup a xs ea =>
  cases(show u=gT a from rx)
  obtain⟨_,_,_,p⟩:=(show eJ X.prog X.w H s.heap a (.tup xs) from I.aS a _ ea)
  obtain⟨o,h1,h2,_⟩:=p
  exact PySem.W.kia_one PySem.W.kitx_tuple I.dB ⟨o,h1,h2⟩ e (λz=>nomatch z) h
 | @dK a dS ea =>
  cases(show u=gT a from rx)
  obtain⟨_,_,vs,_,p⟩:=(show eJ X.prog X.w H s.heap a (.dK dS) from I.aS a _ ea)
  obtain⟨o,es,ep,h1,h2,_⟩:=p
  exact PySem.W.kia_one PySem.W.kitx_dict I.dB ⟨o,h1,h2.1⟩ e (λz=>nomatch z) h
 | @dT a dS ea =>
  cases(show u=gT a from rx)
  obtain⟨_,_,xs,_,o,es,ep,h1,h2,_⟩:=(show eJ X.prog X.w H s.heap a (.dT dS) from I.aS a _ ea)
  exact PySem.W.kia_one PySem.W.kitx_dict I.dB ⟨o,h1,h2.1⟩ e (λz=>nomatch z) h
 | @ins a C dx fs ea cl ha hn Nb hm =>
  cases(show u=gT a from rx)
  obtain⟨mA,O,_⟩:=Bg I.aS ea
  obtain⟨od,J,_⟩:=O.look
  exact PySem.W.kia_one (PySem.W.kitx_own (cl.get _) cl.hd ha hn Nb hm) I.dB J e (λz=>nomatch z) h
end
end L2
namespace L2
open PySem PySem.Spec PyProof.Rows
structure cu(k:Nat)(A:Around):Prop where
 hd:A.handled=none
 dp:A.depth+3*k+5<recursionLimit
 un:A.units+16*k+200<cLine
theorem cu.mono{j k:Nat}{A:Around}(r:cu k A)(h:j<=k):cu j A:=⟨r.hd,by have:=r.dp;omega,by have:=r.un;omega⟩
theorem cu.deeper{k:Nat}{A:Around}(r:cu (k+1) A)(env:Env):cu k (A.deeper env) :=
 ⟨r.hd,by have:=r.dp;show A.depth+1+3*k+5<_;omega,by have:=r.un;show A.units+3+16*k+200<_;omega⟩
theorem YV{A:Around}{C:Addr}{us:List Value}{kw:List (Str × Value)}:(A.under (.builtin "type.__call__" ⟨.ref C::us,kw⟩)).depth=A.depth+1:=by
 first | rfl | simp[Around.under,Code.weight,Code.isCreation,Code.isGuard,Code.isCaller,Code.frames,Code.isFrame,guardIds]
theorem YW{A:Around}{C:Addr}{us:List Value}{kw:List (Str × Value)}:(A.under (.builtin "type.__call__" ⟨.ref C::us,kw⟩)).units=A.units+1:=by
 first | rfl | simp[Around.under,Code.cUnits,Code.frames,Code.isFrame]
theorem cu.make{k:Nat}{A:Around}(r:cu (k+1) A)(C:Addr)(us:List Value)(kw:List (Str × Value)):cu k (A.under (.builtin "type.__call__" ⟨.ref C::us,kw⟩)) :=
 ⟨r.hd,by have:=r.dp;rw[YV];omega,by have:=r.un;rw[YW];omega⟩
theorem cu.depth{k:Nat}{A:Around}(r:cu k A):A.depth<recursionLimit:=by have:=r.dp;omega
noncomputable def Nc:TA:=λ_ H Q=>Q [] H
noncomputable def Fd(ta:TE)(tr:TA):TA:=λσ H Q=>ta σ H λx H1=>tr σ H1 λxs H2=>Q (x::xs) H2
section
variable{X:Cx}{e:Expr}{es:List Expr}{te:TE}{t:TA}{pos:Pos}
theorem eB:PA X [] Nc:=λ_ _ _ _ H Q I h=>Me ⟨[],H,I,.nil,h⟩
theorem bV(ha:PE X e te)(hr:PA X es t)(hs:starEach (e::es) X.env=(false,eval e X.env)::starEach es X.env:=by rfl):PA X (e::es) (Fd te t):=by
 intro pos pins s σ H Q I h
 rw[hs]
 show wpAny _ _ (spliced ((false,eval e X.env)::backTo pos (starEach es X.env))) _ _ s
 refine Mg (aT (ha pins s σ H _ I h) λu s1 ⟨x,H1,I1,r1,q1⟩=>?_)
 exact aT (hr pos pins s1 σ H1 _ I1 q1) λus s2 ⟨xs,H2,I2,r2,q2⟩=>⟨x::xs,H2,I2,.cons r1 r2,q2⟩
noncomputable def YX(t:TA):TE:=λσ H Q=>t σ H λxs H1=>xs.length<=sizeLine/\∀p,H1 p=none->Q (.ref p) (upd H1 p (.tup xs))
noncomputable def YY(t:TA):TE:=λσ H Q=>t σ H λxs H1=>xs.length<=sizeLine/\∀p,H1 p=none->Q (.ref p) (upd H1 p (.lst xs))
theorem Nd{x1}(h:PA X es t):PE X (.Tuple es x1 pos) (YX t):=by
 intro pins s σ H Q I hq
 refine wpAny_Tuple_spliced (aT (h pos pins s σ H _ I hq) λus s1 ⟨xs,H1,I1,r,z,q⟩=>⟨by rw[<-r.length];exact z,?_⟩)
 have hf:H1 s1.heap.objs.size=none:=I1.aS.fresh (bL _)
 refine⟨.ref s1.heap.objs.size,upd H1 s1.heap.objs.size (.tup xs),I1.laid (t':=s1.toks) (λb u e=>gG _ e) (bL _) ?_,rfl,q _ hf⟩
 exact⟨z,us,r,⟨_,i5 _ rfl,rfl,_,rfl⟩⟩
theorem Nf(h:PA X es t):PE X (.List es pos) (YY t):=by
 intro pins s σ H Q I hq
 refine wpAny_List_spliced (aT (h pos pins s σ H _ I hq) λus s1 ⟨xs,H1,I1,r,z,q⟩=>⟨by rw[<-r.length];exact z,?_⟩)
 have hf:H1 s1.heap.objs.size=none:=I1.aS.fresh (bL _)
 refine⟨.ref s1.heap.objs.size,upd H1 s1.heap.objs.size (.lst xs),I1.laid (t':=s1.toks) (λb u e=>gG _ e) (bL _) ?_,rfl,q _ hf⟩
 exact⟨z,us,0,r,i5 _ rfl⟩
end
noncomputable abbrev Sp:=List V->Hp->VK->XK->Prop
noncomputable abbrev e7:=List Env->Hp->Shared->XK->Value->Shared->Prop
structure jE(P:Program)(w:World)(K:PySem.W.Frag)(mg:Str->Option Value)(base:Heap)(A:Around)(outer:List Env)(s:Shared)(H:Hp):Prop where
 frames:A.frames=some outer
 mod:Mod K mg base
 bs:∀b o,base.get? b=some o->s.heap.get? b=some o/\H b=none
 kA:base.objs.size<=s.heap.objs.size
 hZ:s.heap.FunFrames base outer
 kB:∀b∈jA outer,H b=none
 aS:dA P w H s.heap
 bare:AllBare s.gens
noncomputable def CE(outer:List Env)(P:Program)(w:World)(H:Hp)(s:Shared)(Q:VK)(u:Value)(s':Shared):Prop :=
 ∃v H',s'.os=s.os/\AllBare s'.gens/\Un (jA outer) [] H H' s.heap s'.heap/\dA P w H' s'.heap/\RelV v u/\Q v H'
noncomputable def CR(CX:e7)(outer:List Env)(P:Program)(w:World)(H:Hp)(s:Shared)(Q:VK)(E:XK)(r:Result)(s':Shared):Prop :=
 match r with
 | .ok (.ret u)=>CE outer P w H s Q u s'
 | .ok _=>False
 | .error e=>CX outer H s E e s'
structure aJ(P:Program)(w:World)(K:PySem.W.Frag)(mg:Str->Option Value)(base:Heap)(CX:e7)(k:Nat)(f:Addr)(fd:FuncData)(ps:List Str)(sp:Sp):Prop where
 len:∀vs H Q E,sp vs H Q E->vs.length=ps.length
 run:∀(A:Around) (outer:List Env) (s:Shared) (H:Hp) (args:Args) (us:List Value) (vs:List V) (Q:VK) (E:XK),cu k A->jE P w K mg base A outer s H->BindsTo s fd args (ps.zip us)->Vals vs us->sp vs H Q E ->
  codeAny (model P w) A (.call (.ref f) args) (CR CX outer P w H s Q E) s
theorem aJ.mono{P:Program}{w:World}{K:PySem.W.Frag}{mg:Str->Option Value}{base:Heap}{CX:e7}{j k:Nat}{f:Addr}{fd:FuncData}{ps:List Str}{sp:Sp}(F:aJ P w K mg base CX j f fd ps sp)(h:j<=k) :
  aJ P w K mg base CX k f fd ps sp:=⟨F.len,λA outer s H args us vs Q E hr=>F.run A outer s H args us vs Q E (hr.mono h)⟩
theorem aJ.imp{P:Program}{w:World}{K:PySem.W.Frag}{mg:Str->Option Value}{base:Heap}{CX:e7}{k:Nat}{f:Addr}{fd:FuncData}{ps:List Str}{sp Ng:Sp}(F:aJ P w K mg base CX k f fd ps sp)
  (h:∀vs H Q E,Ng vs H Q E->sp vs H Q E):aJ P w K mg base CX k f fd ps Ng :=
 ⟨λvs H Q E q=>F.len vs H Q E (h _ _ _ _ q),λA outer s H args us vs Q E hr he hb hv hs=>F.run A outer s H args us vs Q E hr he hb hv (h _ _ _ _ hs)⟩
theorem jE.make{P:Program}{w:World}{K:PySem.W.Frag}{mg:Str->Option Value}{base:Heap}{A:Around}{outer:List Env}{s:Shared}{H:Hp}(e:jE P w K mg base A outer s H)(C:Addr)(us:List Value)(kw:List (Str × Value)) :
  jE P w K mg base (A.under (.builtin "type.__call__" ⟨.ref C::us,kw⟩)) outer s H:=⟨by first | exact e.frames | (simpa[Around.under,Code.envs,Code.isFrame,pushEnvs]using e.frames),e.mod,e.bs,e.kA,e.hZ,e.kB,e.aS,e.bare⟩
section
variable{X:Cx}{pins:List (Addr × Obj)}{σ:St}{H:Hp}{s s':Shared}
theorem Inv.ym(I:Inv X pins σ H s):jE X.prog X.w X.K X.mg X.base X.A X.stack s H :=
 ⟨I.ok.frames,I.ok.mod,I.bs,fE I.ok.kA I.sz,I.stack,I.MQ,I.aS,I.bare⟩
theorem Inv.after{Q:VK}{u:Value}(I:Inv X pins σ H s)(h:CE X.stack X.prog X.w H s Q u s'):EP X pins σ Q u s':=by
 obtain⟨v,H',os,bare,un,aS,r,q⟩:=h
 obtain⟨hh,g,d,t,YZ⟩:=s'
 obtain rfl:YZ=s.os:=os
 exact⟨v,H',I.call (h':=hh) (g':=g) (d':=d) (t':=t) (ch:=[]) un aS bare (λb z=>absurd z (by simp)),r,q⟩
end
noncomputable def Y0(sp:Sp)(fG:List V)(E:XK)(t:TA):TE:=λσ H Q=>t σ H λvs H1=>sp (vs++fG) H1 Q E
noncomputable def Y1(C:Addr)(m:Str)(sp:Sp)(fG:List V)(E:XK)(ta:TE)(t:TA):TE:=λσ H Q=>ta σ H λx H1=>∃a dx fs,x=.ref a/\H1 a=some (.ins C dx fs)/\fs.lookup m=none /\
 t σ H1 λvs H2=>sp (x::(vs++fG)) H2 Q E
noncomputable def Y2(C:Addr)(sp:Sp)(fG:List V)(E:XK)(t:TA):TE:=λσ H Q=>t σ H λvs H1=>∀x dx,H1 x=none->H1 dx=none->dx≠x ->
 sp (.ref x::(vs++fG)) (upd (upd H1 dx (.own x)) x (.ins C dx [])) (λv H2=>v=.av/\Q (.ref x) H2) E
noncomputable def Binds(K:PySem.W.Frag)(fd:FuncData)(ps:List Str)(ds:List Value):Prop :=
 ∀(s:Shared) (us:List Value),K.In s.heap->(us++ds).length=ps.length->BindsTo s fd ⟨us,[]⟩ (ps.zip (us++ds))
theorem Binds.all{K:PySem.W.Frag}{fd:FuncData}{ps:List Str}(h:∀us:List Value,us.length=ps.length->bindArgs fd ⟨us,[]⟩=pure (ps.zip us)):Binds K fd ps []:=λs us _ hl=>by
 rw[eH]at hl ⊢
 exact .of_eq (h us hl)
noncomputable def k0(CX:e7)(X:Cx)(E:XK):Prop:=∀(pins:List (Addr × Obj)) (σ:St) (H:Hp) (s:Shared) (e:Value) (s':Shared),Inv X pins σ H s->CX X.stack H s E e s'->X.xe e s'
section
variable{X:Cx}{CX:e7}{k:Nat}{f C:Addr}{fd:FuncData}{ps:List Str}{sp:Sp}{fG:List V}{ds:List Value}{E:XK}{x m:Str}{p pos apos:Pos}{e o:Expr}{es:List Expr}{ta:TE}{t:TA}
theorem yn{pins:List (Addr × Obj)}{σ:St}{H:Hp}{s:Shared}{Q:VK}{us:List Value}{vs:List V}(F:aJ X.prog X.w X.K X.mg X.base CX k f fd ps sp)(hr:cu k X.A)(hb:Binds X.K fd ps ds)(hd:Vals fG ds)(hx:k0 CX X E)
  (I:Inv X pins σ H s) (r:Vals vs us) (h:sp (vs++fG) H Q E):wpAny (model X.prog X.w) X.A (call (.ref f) us) (EP X pins σ Q) X.xe s:=by
 have r2:Vals (vs++fG) (us++ds):=r.append hd
 have hl:(us++ds).length=ps.length:=by rw[<-r2.length];exact F.len _ _ _ _ h
 refine wpAny_call (codeAny_mono (F.run X.A X.stack s H ⟨us,[]⟩ (us++ds) (vs++fG) Q E hr I.ym (hb s us I.dB hl) r2 h) λr s' hq=>?_)
 cases r with
 | error e=>exact hx pins σ H s e s' I hq
 | ok fl =>
  cases fl with
  | ret u=>exact I.after hq
  | next=>exact gF hq
  | brk=>exact gF hq
  | cont=>exact gF hq
theorem jF(F:aJ X.prog X.w X.K X.mg X.base CX k f fd ps sp)(hr:cu k X.A)(hg:Gl X x)(hm:X.mg x=some (.ref f))(hk:PySem.W.keepIn X.K (.ref f)=true)(hb:Binds X.K fd ps ds)(hd:Vals fG ds)(hx:k0 CX X E)
  (ha:PA X (e::es) t) (dW:(x==("__debug__":Str))=false:=by decide) (he:starEach (e::es) X.env=(false,eval e X.env)::starEach es X.env:=by rfl) (bT:(backTo pos (starEach es X.env)).any (·.1)=false:=by rfl) :
  PE X (.Call (.Name x p) (e::es) [] pos) (Y0 sp fG E t):=by
 intro pins s σ H Q I h
 refine wpAny_Call_Name_kw (ER I hg hm ?_ dW)
 refine PySem.W.callWith_K (h₀:=X.base) I.ok.mod.tN hk (aT (ha pos pins s σ H _ I h) λus s1 ⟨vs,H1,I1,r,q⟩=>⟨I1.dB,?_⟩) he bT
 exact yn F hr hb hd hx I1 r q
theorem Y3{pl:Sem Bool}(he:PE X o ta)(c:dk X.K C)(hm:Meth X.K C m f)(F:aJ X.prog X.w X.K X.mg X.base CX k f fd ps sp)(hr:cu k X.A)(hb:Binds X.K fd ps ds)(hd:Vals fG ds)(hx:k0 CX X E)(ha:PA X (e::es) t)
  (ia:starEach (e::es) X.env=(false,eval e X.env)::starEach es X.env:=by rfl) (bT:(backTo pos (starEach es X.env)).any (·.1)=false:=by rfl)
  (ht:eval (.Call (.Attribute o m apos) (e::es) [] pos) X.env=(do
   let ov<-eval o X.env
   standAt apos.atName
   let (f,first)<-holding [ov] (getMethod ov m pl)
   callWith pos f first (backTo pos (starEach (e::es) X.env)) (backToKw pos (keywordEach [] X.env))):=by rfl) :
  PE X (.Call (.Attribute o m apos) (e::es) [] pos) (Y1 C m sp fG E ta t):=by
 intro pins s σ H Q I h
 refine PySem.W.methodCall_KW (pl:=pl) (aT (he pins s σ H _ I h) λu s1 ⟨x,H1,I1,rx,a,dx,fs,ex,ea,l,q⟩=>?_) ht
 subst ex
 obtain rfl:u=gT a:=rx
 refine Fc I1 ea c hm l ?_
 refine PySem.W.callWith_K (first:=[.ref a]) (h₀:=X.base) I.ok.mod.tN hm.kp (aT (ha pos pins s1 σ H1 _ I1 q) λus s2 ⟨vs,H2,I2,r,q2⟩=>⟨I2.dB,?_⟩) ia bT
 exact yn (us:=.ref a::us) (vs:=.ref a::vs) F hr hb hd hx I2 (.cons rfl r) q2
structure Mk(K:PySem.W.Frag)(C f:Addr):Prop where
 makes:PySem.W.makesIn K C=true
 init:PySem.W.findIn K (.ref C) "__init__"=some (some (.ref f))
 fn:PySem.W.isFn K (.ref f)=true
 kp:PySem.W.keepIn K (.ref C)=true
theorem Y4{pins:List (Addr × Obj)}{σ:St}{H:Hp}{s:Shared}{Q:VK}{us:List Value}{vs:List V}(M:Mk X.K C f)(F:aJ X.prog X.w X.K X.mg X.base CX k f fd ps sp)(hr:cu (k+1) X.A)(hb:Binds X.K fd ps ds)(hd:Vals fG ds)
  (hx:k0 CX X E) (I:Inv X pins σ H s) (r:Vals vs us)
  (h:∀x dx,H x=none->H dx=none->dx≠x->sp (.ref x::(vs++fG)) (upd (upd H dx (.own x)) x (.ins C dx [])) (λv H2=>v=.av/\Q (.ref x) H2) E) :
  wpAny (model X.prog X.w) X.A (call (.ref C) us) (EP X pins σ Q) X.xe s:=by
 have hq:=h (s.heap.objs.size+1) s.heap.objs.size (I.aS.fresh (Nat.le_succ _)) (I.aS.fresh (bL _)) (gh (D7 _))
 have I2:=Inv.made (C:=C) I
 have r2:Vals (V.ref (s.heap.objs.size+1)::(vs++fG)) (gT (s.heap.objs.size+1)::(us++ds)):=.cons rfl (r.append hd)
 have hl:(gT (s.heap.objs.size+1)::us++ds).length=ps.length:=by
  have e:=r2.length
  rw[F.len _ _ _ _ hq]at e
  exact e.symm
 refine wpAny_call (YL (f:=f) I.dB M.makes M.init (beq_iff_eq.mp M.fn) (codeAny_mono (F.run _ X.stack _ _ ⟨gT (s.heap.objs.size+1)::us,[]⟩ (gT (s.heap.objs.size+1)::(us++ds)) _ _ E (hr.make C us [])
  (I2.ym.make C us []) (hb _ (gT (s.heap.objs.size+1)::us) I2.dB hl) r2 hq) λr s' nU=>?_))
 cases r with
 | error e=>exact hx pins σ _ _ e s' I2 nU
 | ok fl =>
  cases fl with
  | ret u =>
   obtain⟨v,H',I3,rv,ev,q3⟩:=I2.after nU
   subst ev
   exact⟨rv,⟨V.ref (s.heap.objs.size+1),H',I3,rfl,q3⟩⟩
  | next=>exact gF nU
  | brk=>exact gF nU
  | cont=>exact gF nU
theorem Nh(M:Mk X.K C f)(F:aJ X.prog X.w X.K X.mg X.base CX k f fd ps sp)(hr:cu (k+1) X.A)(hg:Gl X x)(hm:X.mg x=some (.ref C))(hb:Binds X.K fd ps ds)(hd:Vals fG ds)(hx:k0 CX X E)
  (ha:PA X (e::es) t) (dW:(x==("__debug__":Str))=false:=by decide) (he:starEach (e::es) X.env=(false,eval e X.env)::starEach es X.env:=by rfl) (bT:(backTo pos (starEach es X.env)).any (·.1)=false:=by rfl) :
  PE X (.Call (.Name x p) (e::es) [] pos) (Y2 C sp fG E t):=by
 intro pins s σ H Q I h
 refine wpAny_Call_Name_kw (ER I hg hm ?_ dW)
 refine PySem.W.callWith_K (h₀:=X.base) I.ok.mod.tN M.kp (aT (ha pos pins s σ H _ I h) λus s1 ⟨vs,H1,I1,r,q⟩=>⟨I1.dB,?_⟩) he bT
 exact Y4 M F hr hb hd hx I1 r q
end
section
variable{X:Cx}{CX:e7}{k:Nat}{f C:Addr}{fd:FuncData}{ps ks:List Str}{sp:Sp}{E:XK}{x m:Str}{p pos apos dT7:Pos}{e o:Expr}{es:List Expr}{kws:List Keyword}{te ta:TE}{t tk:TA}{nm:Option Str}
variable{g:List Value->List Value->List Value}{gV:List V->List V->List V}
end
structure aW(N P:List Str)(sc:Scope):Prop where
 kind:sc.kind=.function
 co:sc.isCoroutine=false
 gen:sc.isGenerator=false
 nd:N.Nodup
 pre:N.take P.length=P
 par:∀x∈P,sc.names.lookup x=some .local\/sc.names.lookup x=some .cell
 Y5:∀y∈sc.names,y.2≠.free
theorem Ni{kindOf:Str->Option NameKind}{x:Str}:∀{binds:List (Str × Value)} {m:Str->Option Value},(∀v,(x,v) ∉ binds)->bindL kindOf binds m x=m x
 | [],_,_=>rfl
 | (n,v)::r,m,h=>by
  unfold bindL
  rw[Ni λw hw=>h w (eG _ hw)]
  split
  ·have:x≠n:=by rintro rfl;exact h v gE
   simp[this]
  ·rfl
theorem Nj{kindOf:Str->Option NameKind}{x:Str}:∀{binds:List (Str × Value)} {m:Str->Option Value},(∀v,(x,v) ∉ binds)->bindC kindOf binds m x=m x
 | [],_,_=>rfl
 | (n,v)::r,m,h=>by
  unfold bindC
  rw[Nj λw hw=>h w (eG _ hw)]
  split
  ·rfl
  ·have:x≠n:=by rintro rfl;exact h v gE
   simp[this]
theorem Nk{kindOf:Str->Option NameKind}{x:Str}{v:Value}:∀{P:List Str} {vs:List Value} {i:Nat} {m:Str->Option Value},P.Nodup->P[i]?=some x->vs[i]?=some v->kindOf x=some .local ->
  bindL kindOf (P.zip vs) m x=some v
 | [],_,_,_,_,h,_,_=>by simp at h
 | _::_,[],_,_,_,_,h,_=>by simp at h
 | p::P,w::vs,0,m,nd,h1,h2,hk=>by
  simp at h1 h2;subst h1;subst h2
  show bindL kindOf ((p,w)::P.zip vs) m p=_
  unfold bindL
  rw[Ni λv hv=>(iD.mp nd).1 (AD hv).1,if_pos hk]
  simp
 | p::P,w::vs,i+1,m,nd,h1,h2,hk=>by
  show bindL kindOf ((p,w)::P.zip vs) m x=_
  unfold bindL
  exact Nk (i:=i) (iD.mp nd).2 (by simpa using h1) (by simpa using h2) hk
theorem Nl{kindOf:Str->Option NameKind}{x:Str}{v:Value}:∀{P:List Str} {vs:List Value} {i:Nat} {m:Str->Option Value},P.Nodup->P[i]?=some x->vs[i]?=some v->kindOf x≠some .local ->
  bindC kindOf (P.zip vs) m x=some v
 | [],_,_,_,_,h,_,_=>by simp at h
 | _::_,[],_,_,_,_,h,_=>by simp at h
 | p::P,w::vs,0,m,nd,h1,h2,hk=>by
  simp at h1 h2;subst h1;subst h2
  show bindC kindOf ((p,w)::P.zip vs) m p=_
  unfold bindC
  rw[Nj λv hv=>(iD.mp nd).1 (AD hv).1,if_neg hk]
  simp
 | p::P,w::vs,i+1,m,nd,h1,h2,hk=>by
  show bindC kindOf ((p,w)::P.zip vs) m x=_
  unfold bindC
  exact Nl (i:=i) (iD.mp nd).2 (by simpa using h1) (by simpa using h2) hk
noncomputable def start(N:List Str)(vs:List V):St:=vs.map some++bg (N.length-vs.length) none
noncomputable def j5(CX:e7)(P:Program)(w:World)(K:PySem.W.Frag)(mg:Str->Option Value)(base:Heap)(N:List Str)(qual:Str)(scope:Scope)(f:Addr)(cd:Value)(A:Around)(outer:List Env)(s:Shared)(H:Hp)(E:XK):Cx where
 prog:=P
 w:=w
 K:=K
 mg:=mg
 base:=base
 A:=A.deeper (envOfC qual scope s.heap.objs.size f cd)
 N:=N
 eA:=s
 mx:=H
 env:=envOfC qual scope s.heap.objs.size f cd
 outer:=outer
 stack:=envOfC qual scope s.heap.objs.size f cd::outer
 ex:=[]
 calm:=true
 fn:=λ_=>true
 pn:=[]
 xe:=λe s'=>wpAny (model P w) (A.deeper (envOfC qual scope s.heap.objs.size f cd)) (leaving (envOfC qual scope s.heap.objs.size f cd) e) (λ_ tZ=>CX outer H s E e tZ) (λe' tZ=>CX outer H s E e' tZ) s'
theorem Nm{sc:Scope}{n:Nat}{x:Str}(h:sc.names.lookup x=some .cell):∃c,(cellsFrom n sc.names []).lookup x=some c:=by
 have q:=PySem.W.cellsFrom_some sc.names n [] (.inl h)
 exact WM.mp q
theorem Y6{CX:e7}{P:Program}{w:World}{K:PySem.W.Frag}{mg:Str->Option Value}{base:Heap}{N ps:List Str}{qual:Str}{scope:Scope}{f:Addr}{cd:Value}{A:Around}{outer:List Env}{s s1:Shared}{H:Hp}{E:XK}{us:List Value}{vs:List V}
  (S:aW N ps scope) (hd:A.handled=none) (e0:jE P w K mg base A outer s H) (hl:vs.length=ps.length) (r:Vals vs us)
  (x:InCallC s s.heap.objs.size (bindL (envOfC qual scope s.heap.objs.size f cd).kindOf (ps.zip us) λ_=>none) (cellsFrom (s.heap.objs.size+1) scope.names []) (bindC (envOfC qual scope s.heap.objs.size f cd).kindOf (ps.zip us) λ_=>none) s1) :
  Inv (j5 CX P w K mg base N qual scope f cd A outer s H E) [] (start N vs) H s1:=by
 have bT:ps.length<=N.length:=by have:=congrArg AE S.pre;rw[fV]at this;omega
 obtain⟨h1,tk,rfl,hk⟩:=x.done
 have yo:∀b:Addr,b ∉ (j5 CX P w K mg base N qual scope f cd A outer s H E).ex:=λb z=>absurd (show b∈([]:List Addr) from z) (by simp)
 refine⟨⟨e0.mod,S.kind,rfl,rfl,bL _,λy z c h1 h2=>?_,λy hy=>?_,λy c _ h=>?_,λ_=>hd,Around.frames_deeper e0.frames,.inr ⟨rfl,rfl⟩,λb z=>absurd z (yo b),e0.bs,e0.kA,λb _ _=>yo b,λb z=>absurd z (yo b),e0.hZ,e0.kB⟩,
  rfl,e0.bare,Un.kept hk,⟨_,x.toInCall.ns,λi y v h1 h2 h3=>?_⟩,λy c h=>⟨_,x.cell y c h⟩,e0.aS.fresh (bL _),λy c h=>?_,λp hp=>absurd (show p∈([]:List (Addr × Obj)) from hp) (by simp),e0.aS.kept hk,?_⟩
 ·exact name_of_addr x.apart (PySem.mem_of_lookup h1) (PySem.mem_of_lookup h2)
 ·have hy:scope.names.lookup y=some .cell\/scope.names.lookup y=some .free:=hy
  rcases hy with hy | hy
  ·exact Nm hy
  ·exact absurd rfl (S.Y5 _ (PySem.mem_of_lookup hy))
 ·exact AA (x.above y c (PySem.mem_of_lookup h))
 ·have hi:i<vs.length:=by
   unfold start at h2
   by_cases hi:i<vs.length
   ·exact hi
   ·rw[nB (by simpa using hi)]at h2
    rw[qj]at h2
    split at h2<;>cases h2
  have ha:vs[i]?=some v:=by
   unfold start at h2
   rw[s8 (by simpa using hi),bO]at h2
   cases e:vs[i]? with
   | none=>rw[e]at h2;cases h2
   | some a=>rw[e]at h2;cases h2;rfl
  obtain⟨u,hu,rv⟩:=r.get ha
  have hp:ps[i]?=some y:=by
   rw[<-S.pre,WN (by omega)];exact h1
  have Nn:ps.Nodup:=by rw[<-S.pre];exact S.nd.sublist (List.take_sublist _ _)
  refine⟨u,rv,?_⟩
  rcases S.par y (s9 hp)with k | k
  ·exact .inl ⟨k,Nk Nn hp hu k⟩
  ·obtain⟨c,e⟩:=Nm (n:=s.heap.objs.size+1) k
   refine .inr ⟨.inl k,c,e,?_⟩
   have q:=x.cell y c e
   rw[Nl Nn hp hu (by show scope.names.lookup y≠_;rw[k];decide)]at q
   exact q
 ·exact e0.aS.fresh (AA (x.above y c (PySem.mem_of_lookup h)))
 ·unfold start
  show _=N.length
  rw[di,bt,gj]
  omega
theorem Fe{CX:e7}{P:Program}{w:World}{K:PySem.W.Frag}{mg:Str->Option Value}{base:Heap}{k:Nat}{f:Addr}{name qual:Str}{params:Arguments}{body:List Stmt}{scope:Scope}{dV kV doc pm aC ct oc:Value}{an od:Option Addr}
  {jc:Array (Option Value)} {N ps:List Str} {sp:Sp} (lk:K.lookup f=some ⟨oc,od,.func (PySem.W.fnOf name qual params body scope dV kV doc pm an aC ct),jc⟩) (cq:PySem.W.codeIn K aC qual=true) (S:aW N ps scope)
  (len:∀vs H Q E,sp vs H Q E->vs.length=ps.length)
  (je:∀(A:Around) (outer:List Env) (s:Shared) (H:Hp) (vs:List V) (Q:VK) (E:XK),cu k (A.deeper (envOfC qual scope s.heap.objs.size f aC))->sp vs H Q E ->
   ∃t,PSs (j5 CX P w K mg base N qual scope f aC A outer s H E) body t/\t { nx:=λ_ H'=>Q .av H',rt:=Q } (start N vs) H) :
  aJ P w K mg base CX (k+1) f (PySem.W.fnOf name qual params body scope dV kV doc pm an aC ct) ps sp:=by
 refine⟨len,λA outer s H args us vs Q E hr e0 hb r jG=>?_⟩
 have hl:=len _ _ _ _ jG
 have KX:K.In s.heap:=e0.mod.tN.keeps λb o e=>(e0.bs b o e).1
 have lim:s.heap.NoLimit:=e0.mod.nolimit.keeps λb o e=>(e0.bs b o e).1
 have gY:∀y∈ps.zip us,scope.names.lookup y.1=some .local\/(scope.names.lookup y.1=some .cell/\((cellsFrom (s.heap.objs.size+1) scope.names []).lookup y.1).isSome=true):=λ⟨n,v⟩ hy=>by
  rcases S.par n (AD hy).1 with q | q
  ·exact .inl q
  ·exact .inr ⟨q,PySem.W.cellsFrom_some _ _ _ (.inl q)⟩
 refine codeAny_call_function hr.depth (KX _ _ lk) rfl S.co S.gen rfl (PySem.W.codeRec_of KX cq) (hb _ _ _ _ ?_)
 refine wpAny_newFunctionEnv_cells S.kind gY λenv he s1 x=>?_
 subst he
 refine⟨lim.keeps x.toInCall.keep,codeAny_func ?_⟩
 obtain⟨t,ht,hq⟩:=je A outer s H vs Q E (hr.deeper _) jG
 have I:Inv (j5 CX P w K mg base N qual scope f aC A outer s H E) [] (start N vs) H s1:=Y6 S hr.hd e0 hl r x
 refine wpAny_mono (ht [] s1 (start N vs) H _ I hq) (λfl s' hs=>?_) λe s' hs=>hs
 have fin:∀{aK:St} {H':Hp} {v:V} {u:Value},Inv (j5 CX P w K mg base N qual scope f aC A outer s H E) [] aK H' s'->RelV v u->Q v H'->CE outer P w H s Q u s' :=
  λ{aK H' v u} J rv q=>⟨v,H',J.os,J.bare,J.base,J.aS,rv,q⟩
 cases fl with
 | ret u =>
  obtain⟨v,aK,H',J,rv,q⟩:=hs
  exact fin J rv q
 | next =>
  obtain⟨aK,H',J,q⟩:=hs
  exact fin (v:=V.av) (u:=D4) J rfl q
 | brk =>
  obtain⟨_,_,_,q⟩:=hs
  exact gF q
 | cont =>
  obtain⟨_,_,_,q⟩:=hs
  exact gF q
end L2
namespace L2
open PySem PySem.Spec PyProof.Rows
section
variable{X:Cx}{x:Str}{p pos:Pos}{e:Expr}{es:List Expr}{t:TA}{id T:String}{r:List V->Hp->VK->Prop}
noncomputable def Ff(r:List V->Hp->VK->Prop)(t:TA):TE:=λσ H Q=>t σ H λvs H1=>r vs H1 Q
theorem Fg(hc:ib X (.builtin id) r)(hg:Gl X x)(hm:X.mg x=none)(hv:bootBuiltins x=some (.builtin id))(ha:PA X (e::es) t)(hn:x≠"__name__":=by decide)(dW:(x==("__debug__":Str))=false:=by decide)
  (he:starEach (e::es) X.env=(false,eval e X.env)::starEach es X.env:=by rfl) (bT:(backTo pos (starEach es X.env)).any (·.1)=false:=by rfl):PE X (.Call (.Name x p) (e::es) [] pos) (Ff r t):=by
 intro pins s σ H Q I h
 refine wpAny_Call_Name_kw (nR I hg hm hv ?_ hn dW)
 exact PyProof.Rows.callWith_builtin1 (aT (ha pos pins s σ H _ I h) λus s1 ⟨vs,H1,I1,r1,q1⟩=>hc pins s1 σ H1 vs us Q I1 r1 q1) he bT
theorem Y7(hc:ib X (.type T) r)(hg:Gl X x)(hm:X.mg x=none)(hv:bootBuiltins x=some (.type T))(ha:PA X (e::es) t)(hn:x≠"__name__":=by decide)(dW:(x==("__debug__":Str))=false:=by decide)
  (he:starEach (e::es) X.env=(false,eval e X.env)::starEach es X.env:=by rfl) (bT:(backTo pos (starEach es X.env)).any (·.1)=false:=by rfl):PE X (.Call (.Name x p) (e::es) [] pos) (Ff r t):=by
 intro pins s σ H Q I h
 refine wpAny_Call_Name_kw (nR I hg hm hv ?_ hn dW)
 exact vM (aT (ha pos pins s σ H _ I h) λus s1 ⟨vs,H1,I1,r1,q1⟩=>hc pins s1 σ H1 vs us Q I1 r1 q1) he bT
end
end L2
namespace HT
open PySem PyProof.Rows
section
open PySem.SeqAt
open PySem.AutoSeq1 (wpAny_loadPart')
open PySem.MeetsSeq PySem.MeetsSeq2 PySem.MeetsSeq3
end
section
variable{prog:Program}{w:World}{A:Around}{E:Value->Shared->Prop}{s:Shared}
noncomputable def cN(n d:Nat):Option Int->Nat
 | none=>d
 | some v=>if v<0 then(v+(n:Int)).toNat else min v.toNat n
theorem Fh(n d k:Nat):cN n d (some (k:Int))=min k n:=by
 show(if(k:Int)<0 then((k:Int)+(n:Int)).toNat else min (k:Int).toNat n)=min k n
 rw[if_neg (by omega),iE]
end
end HT
namespace L2
open PySem PySem.Spec PyProof.Rows
noncomputable abbrev TO:=St->Hp->(Option Int->Hp->Prop)->Prop
noncomputable def PO(X:Cx)(e:Option Expr)(t:TO):Prop :=
 ∀(pins:List (Addr × Obj)) (s:Shared) (σ:St) (H:Hp) (Q:Option Int->Hp->Prop),Inv X pins σ H s->t σ H Q ->
  wpAny (model X.prog X.w) X.A (evalPart e X.env) (λu s'=>∃o H',Inv X pins σ H' s'/\IsPart u o/\Q o H') X.xe s
noncomputable def Y8:TO:=λ_ H Q=>Q none H
noncomputable def Y9(t:TE):TO:=λσ H Q=>t σ H λx H1=>∃i,x=.int i/\Q (some i) H1
section
variable{X:Cx}{e:Expr}{te:TE}{lo hi:Option Expr}{tl th:TO}{pos p2:Pos}
theorem Za:PO X none Y8:=by
 intro pins s σ H Q I h
 rw[evalPart_none]
 exact wpAny_pure ⟨none,H,I,.none,h⟩
theorem Zb(h:PE X e te):PO X (some e) (Y9 te):=by
 intro pins s σ H Q I hw
 rw[evalPart_some]
 refine aT (h pins s σ H _ I hw) λu s1 ⟨x,H1,I1,r1,q1⟩=>?_
 obtain⟨i,rfl,q⟩:=q1
 obtain⟨t,rfl⟩:=r1
 exact⟨some i,H1,I1,.int i t,q⟩
noncomputable def t7(X:Cx)(r:V->Option Int->Option Int->Hp->VK->Prop):Prop :=
 ∀(pins:List (Addr × Obj)) (s:Shared) (σ:St) (H:Hp) (x:V) (v vl vu:Value) (lo hi:Option Int) (sl:Addr) (Q:VK),Inv X pins σ H s->RelV x v->s.heap.IsSliceOf sl vl vu .none->IsPart vl lo->IsPart vu hi->r x lo hi H Q ->
  ∃T id,typeLookup (.type T) "__getitem__"=pure (some (.builtin id))/\s.TypeIs v T/\wpAny (model X.prog X.w) X.A (getItem v (.ref sl)) (EP X pins σ Q) X.xe s
theorem t7.or{r r':V->Option Int->Option Int->Hp->VK->Prop}(h:t7 X r)(h':t7 X r'):t7 X (λx lo hi H Q=>r x lo hi H Q\/r' x lo hi H Q):=by
 intro pins s σ H x v vl vu lo hi sl Q I rx hs pl pu q
 rcases q with q | q
 ·exact h pins s σ H x v vl vu lo hi sl Q I rx hs pl pu q
 ·exact h' pins s σ H x v vl vu lo hi sl Q I rx hs pl pu q
noncomputable def Zc(r:V->Option Int->Option Int->Hp->VK->Prop)(te:TE)(tl th:TO):TE:=λσ H Q=>te σ H λx H1=>tl σ H1 λl H2=>th σ H2 λu H3=>r x l u H3 Q
theorem Np{r:V->Option Int->Option Int->Hp->VK->Prop}(hr:t7 X r)(he:PE X e te)(hl:PO X lo tl)(hu:PO X hi th):PE X (.Subscript e (.Slice lo hi none p2) pos) (Zc r te tl th):=by
 intro pins s σ H Q I h
 refine Subscript_ (aT (he pins s σ H _ I h) λv s1 ⟨x,H1,I1,r1,q1⟩=>?_)
 refine wpAny_Slice (aT (hl pins s1 σ H1 _ I1 q1) λvl s2 ⟨l,H2,I2,pl,q2⟩=>aT (hu pins s2 σ H2 _ I2 q2) λvu s3 ⟨u,H3,I3,pu,q3⟩=>?_)
 rw[evalPart_none]
 refine wpAny_pure ?_
 have I4:Inv X pins σ H3 { s3 with heap:=s3.heap.push { cls:=.type "slice",data:=.fields #[vl,vu,.none] } }:=I3.kept (t':=s3.toks) λb ob q=>gG _ q
 obtain⟨T,id,hT,ht,hg⟩:=hr pins { s3 with heap:=s3.heap.push { cls:=.type "slice",data:=.fields #[vl,vu,.none] } } σ H3 x v vl vu l u s3.heap.objs.size Q I4 r1 (Heap.IsSliceOf.new ..) pl pu q3
 show wpAny (model X.prog X.w) X.A (subscriptTail e (.Slice lo hi none p2) v (.ref s3.heap.objs.size)) (EP X pins σ Q) X.xe { s3 with heap:=s3.heap.push { cls:=.type "slice",data:=.fields #[vl,vu,.none] } }
 exact tail_any (ops:=[.ref s3.heap.objs.size,v]) ht hT hg (by with_unfolding_all rfl)
noncomputable def k9(xs:List V)(lo hi:Option Int):List V:=(xs.drop (HT.cN xs.length 0 lo)).take (HT.cN xs.length xs.length hi-HT.cN xs.length 0 lo)
theorem Zd(xs:List V)(lo hi:Option Int):(k9 xs lo hi).length<=xs.length:=by
 unfold k9
 rw[fV,iF]
 omega
end
end L2
namespace L2
open PySem PySem.Spec PyProof.Rows
noncomputable def jH(n:Nat)(i:Int):Option Nat:=if 0<=i then(if i<n then some i.toNat else none)else if -(n:Int)<=i then some (i+n).toNat else none
noncomputable def eN{α:Type}(xs:List α)(i:Int):Option α:=(jH xs.length i).bind λj=>xs[j]?
theorem Nq{n:Nat}{i:Int}{j:Nat}(h:jH n i=some j):seqIndex? i n=some j/\j<n/\-(n:Int)<=i/\i<n:=by
 unfold jH at h
 by_cases h0:0<=i
 ·rw[if_pos h0]at h
  by_cases h1:i<n
  ·rw[if_pos h1]at h
   have e:i.toNat=j:=dh h
   exact⟨by rw[seqIndex_of h0 h1,e],by omega,by omega,h1⟩
  ·rw[if_neg h1]at h;cases h
 ·rw[if_neg h0]at h
  by_cases h1:-(n:Int)<=i
  ·rw[if_pos h1]at h
   have e:(i+n).toNat=j:=dh h
   exact⟨by rw[seqIndex_neg (by omega) h1,e],by omega,h1,by omega⟩
  ·rw[if_neg h1]at h;cases h
theorem qE{α:Type}{xs:List α}{i:Int}{v:α}(h:eN xs i=some v):∃j,seqIndex? i xs.length=some j/\xs[j]?=some v/\j<xs.length/\-(xs.length:Int)<=i/\i<xs.length:=by
 unfold eN at h
 cases e:jH xs.length i with
 | none=>rw[e]at h;cases h
 | some j =>
  rw[e]at h
  obtain⟨h1,h2,h3,h4⟩:=Nq e
  exact⟨j,h1,h,h2,h3,h4⟩
noncomputable def Nr(b:Expr):Prop:=∀o i,subscripted b false o i=operate [o,i] (getItem o i)
noncomputable def nV(X:Cx)(r:R2):Prop :=
 ∀(value slice:Expr) (pins:List (Addr × Obj)) (s:Shared) (σ:St) (H:Hp) (x y:V) (v u:Value) (Q:VK),Inv X pins σ H s->RelV x v->RelV y u->r x y H Q ->
  subscripted slice false v u=operate [v,u] (getItem v u)->wpAny (model X.prog X.w) X.A (subscriptTail value slice v u) (EP X pins σ Q) X.xe s
noncomputable def Bh(X:Cx)(id:String)(r:V->List V->Hp->VK->Prop):Prop :=
 ∀(pins:List (Addr × Obj)) (s:Shared) (σ:St) (H:Hp) (x:V) (xs:List V) (v:Value) (us:List Value) (Q:VK),Inv X pins σ H s->RelV x v->Vals xs us->r x xs H Q ->
  wpAny (model X.prog X.w) X.A (call (.builtin id) (v::us)) (EP X pins σ Q) X.xe s
section
variable{X:Cx}{a b:Expr}{ta tb:TE}{pos:Pos}
theorem nV.or{r r':R2}(h:nV X r)(h':nV X r'):nV X (λx y H Q=>r x y H Q\/r' x y H Q):=by
 intro value slice pins s σ H x y v u Q I rx ry q hs
 rcases q with q | q
 ·exact h value slice pins s σ H x y v u Q I rx ry q hs
 ·exact h' value slice pins s σ H x y v u Q I rx ry q hs
theorem Fj{r:R2}(hr:nV X r)(ha:PE X a ta)(hb:PE X b tb)(hs:Nr b):PE X (.Subscript a b pos) (yg r ta tb):=by
 intro pins s σ H Q I h
 exact Subscript_ (E6 ha hb I h λv u s2 x y H2 I2 rx ry q=>hr a b pins s2 σ H2 x y v u Q I2 rx ry q (hs _ _))
noncomputable def Nt(K:PySem.W.Frag):R2:=λx y H Q=>∃p xs i v,x=.ref p/\y=.int i/\bF K H p xs/\eN xs i=some v/\Q v H
noncomputable def Nu(K:PySem.W.Frag):R2:=λx y H Q=>∃p xs i v,x=.ref p/\y=.int i/\h7 K H p xs/\eN xs i=some v/\Q v H
noncomputable def Nv:R2:=λx y H Q=>∃z i c,x=.str z/\y=.int i/\z.length<=sizeLine/\eN z.cps.toList i=some c/\Q (.str ⟨#[c]⟩) H
theorem Nw:nV X (Nt X.K):=by
 intro value slice pins s σ H x y v u Q I rx ry h hs
 obtain⟨p,xs,i,z,rfl,rfl,hq,he,q⟩:=h
 cases rx
 obtain⟨t,rfl⟩:=ry
 obtain⟨its,r,pl,hz⟩:=I.list hq
 obtain⟨j,h1,h2,h3,h4,h5⟩:=qE he
 obtain⟨w,ew,gH⟩:=r.get h2
 have hl:=r.length
 have hn:=tW
 have fin:EP X pins σ Q w s:=⟨z,H,I,gH,q⟩
 by_cases h0:0<=i
 ·have hj:i.toNat=j:=by
   rw[seqIndex_of h0 h5]at h1
   exact dh h1
  exact item_listR pl.isList h0 (by omega) (by rw[hj];simpa using ew) fin hs
 ·have hj:(i+(its.toArray.size:Int)).toNat=j:=by
   rw[seqIndex_neg (by omega) h4]at h1
   rw[dj,<- hl]
   exact dh h1
  exact subscriptTail_builtinR (x:=w) pl.isList.typeIs slot_list_getitem.lookup
   (wpAny_getItem_list_neg (Q:=λr s'=>r=w/\EP X pins σ Q r s') pl.isList (by omega) (by rw[dj]<;>omega) (by omega) (by rw[hj];simpa using ew) ⟨rfl,fin⟩) hs
theorem Nx:nV X (Nu X.K):=by
 intro value slice pins s σ H x y v u Q I rx ry h hs
 obtain⟨p,xs,i,z,rfl,rfl,hq,he,q⟩:=h
 cases rx
 obtain⟨t,rfl⟩:=ry
 obtain⟨its,r,pl,hz⟩:=I.tuple hq
 obtain⟨j,h1,h2,h3,h4,h5⟩:=qE he
 obtain⟨w,ew,gH⟩:=r.get h2
 have hl:=r.length
 have hn:=tW
 have fin:EP X pins σ Q w s:=⟨z,H,I,gH,q⟩
 exact subscriptTail_builtinR (x:=w) pl.typeIs slot_tuple_getitem.lookup
  (getItem_tuple (j:=j) (Q:=λr s'=>r=w/\EP X pins σ Q r s') pl (by omega) (by omega) (by rw[dj,<- hl];exact h1) (by simpa using ew) ⟨rfl,fin⟩) hs
theorem Ze:nV X Nv:=by
 intro value slice pins s σ H x y v u Q I rx ry h hs
 obtain⟨z,i,c,rfl,rfl,hz,he,q⟩:=h
 obtain⟨t,rfl⟩:=rx
 obtain⟨t',rfl⟩:=ry
 obtain⟨j,h1,h2,h3,h4,h5⟩:=qE he
 have hl:z.cps.toList.length=z.length:=by simp[Str.length]
 rw[hl]at h1 h4 h5
 have hn:=tW
 exact tail_any (typeIs_str s z t) slot_str_getitem.lookup (getItem_str (c:=c) (by
  have e1:decide (i < -(2 ^ 63:Int))=false:=decide_eq_false (by omega)
  have e2:decide (i ≥ 2 ^ 63)=false:=decide_eq_false (by omega)
  rw[e1,e2,tf]) (by rw[h1];simpa using h2) ⟨.str ⟨#[c]⟩,H,I.tok _,⟨_,rfl⟩,q⟩) hs
noncomputable def Zf(K:PySem.W.Frag):R2:=λx y H Q=>Nt K x y H Q\/Nu K x y H Q\/Nv x y H Q
theorem Zg:nV X (Zf X.K):=Nw.or (Nx.or Ze)
theorem Zh(its:List Value)(n j:Nat)(u:Value):AF (·.setIfInBounds j u) { cls:=.type "list",data:=.seq its.toArray n }={ cls:=.type "list",data:=.seq (its.set j u).toArray n }:=by
 simp[AF]
theorem Inv.lst{pins:List (Addr × Obj)}{σ:St}{H:Hp}{s:Shared}{p:Addr}{xs:List V}(I:Inv X pins σ H s)(h:H p=some (.lst xs)) :
  ∃(its:List Value) (n:Nat),Vals xs its/\s.heap.get? p=some { cls:=.type "list",data:=.seq its.toArray n }/\xs.length<=sizeLine:=by
 obtain⟨z,its,n,r,e⟩:=I.aS p _ h
 exact⟨its,n,r,e,z⟩
theorem Inv.Zi{pins:List (Addr × Obj)}{σ:St}{H:Hp}{s:Shared}{p:Addr}{xs ys:List V}{its its':List Value}{n n':Nat}{f:Obj->Obj}(I:Inv X pins σ H s)(h:H p=some (.lst xs))
  (ho:s.heap.get? p=some { cls:=.type "list",data:=.seq its.toArray n }) (hf:f { cls:=.type "list",data:=.seq its.toArray n }={ cls:=.type "list",data:=.seq its'.toArray n' }) (r:Vals ys its') (hz:ys.length<=sizeLine) (t:Nat) :
  Inv X pins σ (upd H p (.lst ys)) { s with heap:=s.heap.update p f,toks:=t }:=by
 have e:(s.heap.update p f).get? p=some { cls:=.type "list",data:=.seq its'.toArray n' }:=by
  rw[Heap.get?_update_self f ho (by rw[hf]<;>rfl),hf]
 refine I.write (x:=p) (e:=p) (by rw[h];trivial) (.inl rfl) (λb u hb q=>(Heap.get?_update_other _ _ (gW hb)).trans q) ⟨_,e⟩ ?_
 exact⟨hz,its',n',r,e⟩
noncomputable def Zj:V->V->V->Hp->(Hp->Prop)->Prop:=λo i v H Q=>∃p xs k j,o=.ref p/\i=.int k/\H p=some (.lst xs)/\jH xs.length k=some j/\Q (upd H p (.lst (xs.set j v)))
theorem Zk:MY X Zj:=by
 intro pins s σ H o i v ov iv u Q I ro ri rv h
 obtain⟨p,xs,k,j,rfl,rfl,hp,hj,q⟩:=h
 cases ro
 obtain⟨t,rfl⟩:=ri
 obtain⟨its,n,r,ho,hz⟩:=I.lst hp
 obtain⟨h1,h2,h3,h4⟩:=Nq hj
 have hl:=r.length
 have hn:=tW
 have I':Inv X pins σ (upd H p (.lst (xs.set j v))) { s with heap:=s.heap.update p (AF (·.setIfInBounds j u)) } :=
  I.Zi hp ho (Zh its n j u) (r.set rv j) (by rw[qk];exact hz) s.toks
 by_cases h0:0<=k
 ·have hk:k.toNat=j:=by
   rw[seqIndex_of h0 h4]at h1
   exact dh h1
  exact PySem.W.ki_setAt ho h0 (by omega) (by rw[dj,<- hl];exact h4) (by rw[hk];exact⟨_,I',q⟩)
 ·have hk:(k+(its.toArray.size:Int)).toNat=j:=by
   rw[seqIndex_neg (by omega) h3]at h1
   rw[dj,<- hl]
   exact dh h1
  exact PySem.W.ki_setBack ho (by omega) (by rw[dj,<- hl];exact h3) (by omega) (by rw[hk];exact⟨_,I',q⟩)
theorem Fl(lo hi:Option Int)(n:Nat):(sliceBounds lo hi none n).1=((HT.cN n 0 lo:Nat):Int)/\(sliceBounds lo hi none n).2.1=((HT.cN n n hi:Nat):Int)/\(sliceBounds lo hi none n).2.2=1:=by
 refine⟨?_,?_,rfl⟩
 ·cases lo with
  | none=>simp[sliceBounds,HT.cN]
  | some i =>
   simp only[sliceBounds,HT.cN,ql,show(1:Int)>0 by decide,if_true]
   by_cases h:i<0
   ·simp only[h,if_true]<;>omega
   ·simp only[h,if_false]<;>omega
 ·cases hi with
  | none=>simp[sliceBounds,HT.cN]
  | some i =>
   simp only[sliceBounds,HT.cN,ql,show(1:Int)>0 by decide,if_true]
   by_cases h:i<0
   ·simp only[h,if_true]<;>omega
   ·simp only[h,if_false]<;>omega
theorem Zl(its:List Value)(lo hi:Option Int):slicePick its.toArray lo hi none=((its.drop (HT.cN its.length 0 lo)).take (HT.cN its.length its.length hi-HT.cN its.length 0 lo)).toArray:=by
 obtain⟨h1,h2,h3⟩:=Fl lo hi its.toArray.size
 unfold slicePick
 rw[h1,h2,h3]
 simp only[sliceRange_one,pick_run,dj]<;>rfl
noncomputable def Zm(K:PySem.W.Frag):V->Option Int->Option Int->Hp->VK->Prop:=λx lo hi H Q=>∃a xs,x=.ref a/\bF K H a xs/\∀p,H p=none->Q (.ref p) (upd H p (.lst (k9 xs lo hi)))
theorem Ny:t7 X (Zm X.K):=by
 intro pins s σ H x v vl vu lo hi sl Q I rx hs pl pu h
 obtain⟨a,xs,rfl,hx,q⟩:=h
 cases rx
 obtain⟨its,r,ht,hz⟩:=I.list hx
 have hlen:=r.length
 refine⟨"list",_,slot_list_getitem.lookup,ht.isList.typeIs,?_⟩
 refine wpAny_getItem_list_slice ht.isList hs pl pu .none (by simp) ?_ (by rw[dj]<;>omega)
 rw[Zl,<- hlen]
 refine⟨.ref s.heap.objs.size,_,I.laid (t':=s.toks) (o:=.lst (k9 xs lo hi)) (λb ob q=>gG _ q) (bL _) ?_,rfl,q _ (I.aS.fresh (bL _))⟩
 exact⟨fE (Zd xs lo hi) hz,_,0,(r.drop (HT.cN xs.length 0 lo)).take (HT.cN xs.length xs.length hi-HT.cN xs.length 0 lo),i5 _ rfl⟩
noncomputable def nW:V->Bool
 | .av=>true
 | .bl _=>true
 | .int _=>true
 | .str _=>true
 | _=>false
noncomputable def mF:V->V->Bool
 | .av,.av=>true
 | .bl a,.bl b=>a==b
 | .bl a,.int b=>(if a then 1 else 0)==b
 | .int a,.bl b=>a==(if b then 1 else 0)
 | .int a,.int b=>a==b
 | .str a,.str b=>a==b
 | _,_=>false
theorem Zn{A:Around}{s:Shared}{y x:V}{u v:Value}(ry:RelV y u)(rx:RelV x v)(fy:nW y=true)(fx:nW x=true):D8 A s u v (mF y x):=by
 cases y with
 | av =>
  cases ry
  cases x with
  | av=>cases rx;exact SeqAt.EqAt.same _
  | bl b=>cases rx;exact SeqAt.EqAt.none_bool b
  | int b=>obtain⟨t,rfl⟩:=rx;exact SeqAt.EqAt.none_int b t
  | str b=>obtain⟨t,rfl⟩:=rx;exact SeqAt.EqAt.none_str b t
  | _=>exact absurd (show false=true from fx) iZ
 | bl a =>
  cases ry
  cases x with
  | av=>cases rx;exact SeqAt.EqAt.bool_none a
  | bl b=>cases rx;exact SeqAt.EqAt.bool_bool a b
  | int b=>obtain⟨t,rfl⟩:=rx;exact SeqAt.EqAt.bool_int a b t
  | str b=>obtain⟨t,rfl⟩:=rx;exact SeqAt.EqAt.bool_str a b t
  | _=>exact absurd (show false=true from fx) iZ
 | int a =>
  obtain⟨t',rfl⟩:=ry
  cases x with
  | av=>cases rx;exact SeqAt.EqAt.int_none a t'
  | bl b=>cases rx;exact SeqAt.EqAt.int_bool a t' b
  | int b=>obtain⟨t,rfl⟩:=rx;exact SeqAt.EqAt.int_int a t' b t
  | str b=>obtain⟨t,rfl⟩:=rx;exact SeqAt.EqAt.int_str a t' b t
  | _=>exact absurd (show false=true from fx) iZ
 | str a =>
  obtain⟨t',rfl⟩:=ry
  cases x with
  | av=>cases rx;exact SeqAt.EqAt.str_none a t'
  | bl b=>cases rx;exact SeqAt.EqAt.str_bool a t' b
  | int b=>obtain⟨t,rfl⟩:=rx;exact SeqAt.EqAt.str_int a t' b t
  | str b=>obtain⟨t,rfl⟩:=rx;exact SeqAt.EqAt.str_str a t' b t
  | _=>exact absurd (show false=true from fx) iZ
 | _=>exact absurd (show false=true from fy) iZ
noncomputable def nX(x:V)(u:Value):Bool:=match u with
 | .none=>mF .av x
 | .bool b=>mF (.bl b) x
 | .int i _=>mF (.int i) x
 | .str z _=>mF (.str z) x
 | _=>false
theorem Nz{x y:V}{u:Value}(r:RelV y u)(f:nW y=true):nX x u=mF y x:=by
 cases y with
 | av=>cases r;rfl
 | bl b=>cases r;rfl
 | int i=>obtain⟨t,rfl⟩:=r;rfl
 | str z=>obtain⟨t,rfl⟩:=r;rfl
 | _=>exact absurd (show false=true from f) iZ
theorem Fn{x:V}:∀{xs:List V} {us:List Value},Vals xs us->xs.all nW=true->us.any (nX x)=xs.any λy=>mF y x
 | _,_,.nil,_=>rfl
 | y::xs,u::us,.cons r t,f=>by
  rw[cL,eZ]at f
  rw[List.any_cons,List.any_cons,Nz r f.1,Fn t f.2]
theorem Fo{A:Around}{s:Shared}{x:V}{v:Value}(rx:RelV x v)(fx:nW x=true):∀{xs:List V} {us:List Value},Vals xs us->xs.all nW=true->∀u∈us,D8 A s u v (nX x u)
 | _,_,.nil,_=>λu hu=>by cases hu
 | y::xs,u::us,.cons r t,f=>λu' hu=>by
  rw[cL,eZ]at f
  rcases cj.mp hu with rfl | hu
  ·rw[Nz r f.1];exact Zn r rx f.1 fx
  ·exact Fo rx fx t f.2 u' hu
noncomputable def Bi(x:V)(xs:List V):Bool:=xs.any λy=>mF y x
noncomputable def Zo(K:PySem.W.Frag)(neg:Bool):R2:=λx y H Q=>∃p xs,y=.ref p/\(bF K H p xs\/h7 K H p xs)/\nW x=true/\xs.all nW=true/\Q (.bl (if neg then !Bi x xs else Bi x xs)) H
theorem Zp:cM X (compareOp .NotIn) (Zo X.K true):=by
 intro pins s σ H x y v u Q I rx ry h
 obtain⟨p,xs,rfl,hq,fx,fs,q⟩:=h
 cases ry
 rcases hq with hq | hq
 ·obtain⟨its,r,pl,hz⟩:=I.list hq
  refine SeqAt.notIn_listAt (nX x) pl.isList (λw hw=>Fo rx fx r fs w (by simpa using hw)) ⟨.bl _,H,I,rfl,?_⟩
  rw[show its.toArray.any (nX x)=its.any (nX x) by simp,Fn r fs]
  exact q
 ·obtain⟨its,r,pl,hz⟩:=I.tuple hq
  refine SeqAt.notIn_tupleAt (nX x) pl (λw hw=>Fo rx fx r fs w (by simpa using hw)) ⟨.bl _,H,I,rfl,?_⟩
  rw[show its.toArray.any (nX x)=its.any (nX x) by simp,Fn r fs]
  exact q
theorem NA:ib X (.builtin "len") (λxs H Q=>∃p ys,xs=[.ref p]/\(bF X.K H p ys\/h7 X.K H p ys)/\Q (.int ys.length) H):=by
 intro pins s σ H xs us Q I r h
 obtain⟨p,ys,rfl,hq,q⟩:=h
 obtain⟨u,rfl,rx⟩:=yj r
 cases rx
 have hn:=tW
 rcases hq with hq | hq
 ·obtain⟨its,r',pl,hz⟩:=I.list hq
  have hlen:=r'.length
  exact Calls.call_len_list pl.isList (by simp only[dj]<;>omega) ⟨.int ys.length,H,I.tok _,⟨s.toks+1,by rw[dj,hlen]⟩,q⟩
 ·obtain⟨its,r',pl,hz⟩:=I.tuple hq
  have hlen:=r'.length
  exact len_tuple pl (by simp only[dj]<;>omega) ⟨.int ys.length,H,I.tok _,⟨s.toks+1,by rw[dj,hlen]⟩,q⟩
theorem Zq:ib X (.builtin "len") (λxs H Q=>∃z,xs=[.str z]/\z.length<=sizeLine/\Q (.int z.length) H):=by
 intro pins s σ H xs us Q I r h
 obtain⟨z,rfl,hz,q⟩:=h
 obtain⟨u,rfl,t,rfl⟩:=yj r
 have hn:=tW
 exact len_str (by omega) ⟨.int z.length,H,I.tok _,⟨_,rfl⟩,q⟩
theorem ib.or{f:Value}{r r':List V->Hp->VK->Prop}(h:ib X f r)(h':ib X f r'):ib X f (λxs H Q=>r xs H Q\/r' xs H Q):=by
 intro pins s σ H xs us Q I rs q
 rcases q with q | q
 ·exact h pins s σ H xs us Q I rs q
 ·exact h' pins s σ H xs us Q I rs q
theorem Zr:ib X (.type "list") (λxs H Q=>∃p ys,xs=[.ref p]/\(bF X.K H p ys\/h7 X.K H p ys)/\∀l,H l=none->Q (.ref l) (upd H l (.lst ys))):=by
 intro pins s σ H xs us Q I r h
 obtain⟨p,ys,rfl,hq,q⟩:=h
 obtain⟨u,rfl,rx⟩:=yj r
 cases rx
 have fin:∀(its:List Value),Vals ys its->ys.length<=sizeLine->∀(h':Heap) (c':Nat),(∀b o',s.heap.get? b=some o'->h'.get? b=some o') ->
   h'.get? s.heap.objs.size=some { cls:=.type "list",dict:=none,data:=.seq its.toArray c',slots:=#[] }->EP X pins σ Q (.ref s.heap.objs.size) { s with heap:=h' }:=λits r' hz h' c' kp e =>
  ⟨.ref s.heap.objs.size,_,I.laid (t':=s.toks) kp (bL _) (show eJ X.prog X.w _ h' _ (.lst ys) from⟨hz,its,c',r',e⟩),rfl,q _ (I.aS.fresh (bL _))⟩
 rcases hq with hq | hq
 ·obtain⟨its,r',pl,hz⟩:=I.list hq
  have hlen:=r'.length
  obtain⟨o,ho,hc,n,hd⟩:=pl.isList
  exact call_list_seq p (.inl rfl) ho hc hd (λh' c' kp e=>fin its r' hz h' c' kp e) (by simp only[dj]<;>omega)
 ·obtain⟨its,r',pl,hz⟩:=I.tuple hq
  have hlen:=r'.length
  obtain⟨o,ho,hc,n,hd⟩:=pl
  exact call_list_seq p (.inr rfl) ho hc hd (λh' c' kp e=>fin its r' hz h' c' kp e) (by simp only[dj]<;>omega)
noncomputable def Fp(K:PySem.W.Frag)(T:String)(x:V)(H:Hp):Prop:=match x with
 | .str _=>T="str"
 | .int _=>T="int"
 | .ref p=>(T="list"/\∃xs,bF K H p xs)\/(T="tuple"/\∃o,K.lookup p=some o/\o.cls=.type "tuple"/\o.dict=none) \/
   (T="dict"/\((∃dS,H p=some (.dK dS))\/∃dS,H p=some (.dT dS)))\/(T="set"/\∃S n,H p=some (.set S n))
 | _=>False
theorem NB{pins:List (Addr × Obj)}{σ:St}{H:Hp}{s:Shared}{T:String}{x:V}{v:Value}(I:Inv X pins σ H s)(r:RelV x v)(ty:Fp X.K T x H) :
  s.TypeIs v T/\∀a,v=.ref a->∃ob,s.heap.get? a=some ob/\ob.dict=none:=by
 cases x with
 | str z =>
  obtain⟨t,rfl⟩:=r
  cases(show T="str" from ty)
  exact⟨typeIs_str s z t,λ_ e=>nomatch e⟩
 | int i =>
  obtain⟨t,rfl⟩:=r
  cases(show T="int" from ty)
  exact⟨typeIs_int s i t,λ_ e=>nomatch e⟩
 | ref p =>
  cases r
  rcases ty with⟨rfl,xs,hq⟩ | ⟨rfl,o,hk,hc,hd⟩ | ⟨rfl,hk⟩ | ⟨rfl,S,n,hk⟩
  ·obtain⟨its,_,pl,_⟩:=I.list hq
   refine⟨pl.isList.typeIs,λa e=>?_⟩
   cases e
   obtain⟨o,n,e,c,hd,_⟩:=pl
   exact⟨o,e,hd⟩
  ·refine⟨⟨o,I.dB p o hk,hc⟩,λa e=>?_⟩
   cases e
   exact⟨o,I.dB _ o hk,hd⟩
  ·have z:∃o,s.heap.get? p=some o/\o.ExactDict:=by
    rcases hk with⟨dS,hk⟩ | ⟨dS,hk⟩
    ·obtain⟨_,_,_,_,o,_,_,e,ex,_⟩:=I.aS p _ hk
     exact⟨o,e,ex⟩
    ·obtain⟨_,_,_,_,o,_,_,e,ex,_⟩:=I.aS p _ hk
     exact⟨o,e,ex⟩
   obtain⟨o,e,ex⟩:=z
   refine⟨⟨o,e,ex.1⟩,λa e2=>?_⟩
   cases e2
   exact⟨o,e,ex.2.1⟩
  ·obtain⟨o,_,_,_,e,ex,_⟩:=I.aS p _ hk
   refine⟨⟨o,e,ex.1⟩,λa e2=>?_⟩
   cases e2
   exact⟨o,e,ex.2.1⟩
 | _=>exact gF ty
noncomputable def NC(K:PySem.W.Frag)(T:String)(r:V->List V->Hp->VK->Prop)(to:TE):TE:=λσ H Q=>to σ H λx H1=>Fp K T x H1/\r x [] H1 Q
noncomputable def Zs(K:PySem.W.Frag)(T:String)(r:V->List V->Hp->VK->Prop)(to:TE)(t:TA):TE:=λσ H Q=>to σ H λx H1=>Fp K T x H1/\t σ H1 λxs H2=>r x xs H2 Q
variable{o e:Expr}{es:List Expr}{to:TE}{t:TA}{name:Str}{apos bI:Pos}{T id:String}{r:V->List V->Hp->VK->Prop}
theorem ND(pa:PlainAttrs T)(slot:Slot T name id)(Fq:typeOf (.builtin id)=pure (.type "method_descriptor"))(hm:Bh X id r)(ho:PE X o to)
  (jf:attributeBase o name X.env (eval o X.env)=eval o X.env:=by rfl) (jg:(apos.endLine==bI.line)=true:=by rfl):PE X (.Call (.Attribute o name apos) [] [] bI) (NC X.K T r to):=by
 intro pins s σ H Q I h
 refine wpAny_Call_method0_late jf jg (aT (ho pins s σ H _ I h) λv s1 ⟨x,H1,I1,r1,ty,q1⟩=>?_)
 obtain⟨h1,h2⟩:=NB I1 r1 ty
 exact⟨T,id,pa,slot,Fq,h1,h2,Calls.callWith_builtin rfl (PySem.evalArgs_none (hm pins s1 σ H1 x [] v [] Q I1 r1 .nil q1))⟩
theorem Fs(pa:PlainAttrs T)(slot:Slot T name id)(Fq:typeOf (.builtin id)=pure (.type "method_descriptor"))(hm:Bh X id r)(ho:PE X o to)(ha:PA X (e::es) t)
  (jf:attributeBase o name X.env (eval o X.env)=eval o X.env:=by rfl)
  (t9:((backTo bI (starEach (e::es) X.env)).all (λx=>!x.1)&&(backToKw bI (keywordEach [] X.env)).all (λx=>x.1.isSome)
   && decide ((e::es).length+([]:List Keyword).length+(if([]:List Keyword).isEmpty then 0 else 1)<30))=true:=by rfl)
  (jg:(apos.endLine==bI.line)=true:=by rfl) (hs:starEach (e::es) X.env=(false,eval e X.env)::starEach es X.env:=by rfl) (ua:(backTo bI (starEach es X.env)).any (·.1)=false:=by rfl) :
  PE X (.Call (.Attribute o name apos) (e::es) [] bI) (Zs X.K T r to t):=by
 intro pins s σ H Q I h
 refine wpAny_Call_method_late jf t9 jg rfl (aT (ho pins s σ H _ I h) λv s1 ⟨x,H1,I1,r1,ty,q1⟩=>?_)
 obtain⟨h1,h2⟩:=NB I1 r1 ty
 refine⟨T,id,pa,slot,Fq,h1,h2,?_⟩
 have hA:=ha bI pins s1 σ H1 _ I1 q1
 rw[hs]at hA ⊢
 refine Calls.callWith_builtin (by show(false||(backTo bI (starEach es X.env)).any (·.1))=false;rw[ua]<;>rfl) (Calls.evalArgs_plain ?_)
 exact aT hA λus s2 ⟨vs,H2,I2,r2,q2⟩=>hm pins s2 σ H2 x vs v us Q I2 r1 r2 q2
/- xs.append(e),list.index on a dT9 tuple .. are Bh facts of 06m -/
end
end L2
namespace L2
open PySem PySem.Spec PyProof.Rows
noncomputable def Ft(X:Cx)(id:String)(r:V->List V->Hp->VK->Prop):Prop :=
 ∀(pins:List (Addr × Obj)) (s:Shared) (σ:St) (H:Hp) (x:V) (xs:List V) (v:Value) (us:List Value) (Q:VK),Inv X pins σ H s->RelV x v->Vals xs us->r x xs H Q ->
  wpAny (model X.prog X.w) X.A (call (.builtin id) (v::us)) (EP X pins σ Q) X.xe s
theorem Vals.one:∀{x:V} {us:List Value},Vals [x] us->∃u,us=[u]/\RelV x u
 | _,_,h=>by cases h with | cons r h=>cases h;exact⟨_,rfl,r⟩
theorem Vals.two:∀{x y:V} {us:List Value},Vals [x,y] us->∃u v,us=[u,v]/\RelV x u/\RelV y v
 | _,_,_,h=>by cases h with | cons r h=>cases h with | cons q h=>cases h;exact⟨_,_,rfl,r,q⟩
theorem Vals.zero:∀{us:List Value},Vals [] us->us=[]
 | _,.nil=>rfl
theorem Vals.dropLast{xs:List V}{us:List Value}(h:Vals xs us):Vals xs.dropLast us.dropLast:=by
 induction h with
 | nil=>exact .nil
 | cons r t ih =>
  cases t with
  | nil=>exact .nil
  | cons q t'=>exact .cons r ih
theorem Vals.rep{xs:List V}{us:List Value}(h:Vals xs us):∀k:Nat,Vals (bg k xs).flatten (bg k us).flatten
 | 0=>.nil
 | k+1=>by
  rw[tu,tu,vO,vO]
  exact Vals.append h (Vals.rep h k)
theorem Zt{α:Type}(l:List α):l.eraseIdx (l.length-1)=l.dropLast:=by
 induction l with
 | nil=>rfl
 | cons a r ih =>
  cases r with
  | nil=>rfl
  | cons b r =>
   have e:(a::b::r).length-1=((b::r).length-1)+1:=by
    have h1:(a::b::r).length=r.length+2:=rfl
    have h2:(b::r).length=r.length+1:=rfl
    omega
   rw[e,List.eraseIdx_cons_succ,ih]
   all_goals rfl
theorem NF(its:List Value):∀(k:Nat) (acc:List Value),
  List.foldl (λx1 x2=>x1++x2) acc.toArray (bg k its.toArray)=(acc++(bg k its).flatten).toArray
 | 0,acc=>by simp
 | k+1,acc=>by
  have e:acc.toArray++its.toArray=(acc++its).toArray:=by simp
  have e2:(acc++its)++(bg k its).flatten=acc++(bg (k+1) its).flatten:=by
   rw[tu,vO,cZ]
  rw[<-e2,<- NF its k (acc++its),<- e,tu,xI]
section
variable{X:Cx}{pins:List (Addr × Obj)}{σ:St}{H:Hp}{s:Shared}{l b:Addr}{xs ys zs:List V}
theorem Inv.Fu{its its':List Value}{n:Nat}{f:Array Value->Array Value}{t':Nat}(I:Inv X pins σ H s)(hH:H l=some (.lst xs))
  (e:s.heap.get? l=some { cls:=.type "list",data:=.seq its.toArray n }) (hf:f its.toArray=its'.toArray) (hv:Vals ys its') (hz:ys.length<=sizeLine) :
  Inv X pins σ (upd H l (.lst ys)) { s with heap:=s.heap.update l (AF f),toks:=t' }:=by
 have q:=PySem.IsL.update e f
 rw[hf]at q
 refine I.write (x:=l) (e:=l) (by rw[hH];exact trivial) (.inl rfl) (λb' u hb hu=>(Heap.get?_update_other s.heap (AF f) (gW hb)).trans hu) ⟨_,q⟩ ?_
 exact⟨hz,its',_,hv,q⟩
theorem Inv.NG{its:List Value}{t':Nat}(I:Inv X pins σ H s)(hv:Vals ys its)(hz:ys.length<=sizeLine) :
  Inv X pins σ (upd H s.heap.objs.size (.lst ys)) { s with heap:=s.heap.push { cls:=.type "list",data:=.seq its.toArray },toks:=t' } :=
 I.laid (λ_ _ q=>gG _ q) (bL _) ⟨hz,its,0,hv,i5 _ rfl⟩
theorem Inv.fresh(I:Inv X pins σ H s):H s.heap.objs.size=none:=I.aS.fresh (bL _)
theorem Inv.ub(I:Inv X pins σ H s)(hH:H l=some (.lst xs)):xs.length<=sizeLine/\∃(its:List Value) (n:Nat),Vals xs its/\xs.length=its.length/\s.heap.get? l=some { cls:=.type "list",data:=.seq its.toArray n }:=by
 obtain⟨z,its,n,r,e⟩:=I.aS l _ hH
 exact⟨z,its,n,r,r.length,e⟩
theorem NH{n:Nat}(h:n<=sizeLine):D9 n=false:=by
 unfold D9
 exact decide_eq_false (by omega)
end
section
variable{X:Cx}
noncomputable def Zu:V->List V->Hp->VK->Prop:=λx vs H Q=>∃l xs y,x=.ref l/\vs=[y]/\H l=some (.lst xs)/\xs.length<sizeLine/\Q .av (upd H l (.lst (xs++[y])))
theorem Fv:Ft X "list.append" Zu:=by
 intro pins s σ H x vs v us Q I rx rv h
 obtain⟨l,xs,y,rfl,rfl,hH,hz,q⟩:=h
 cases rx
 obtain⟨u,rfl,ru⟩:=rv.one
 obtain⟨z,its,n,r,hl,e⟩:=I.ub hH
 refine call_meets F.slot_list_append ⟨_,e,rfl⟩ F.entry_list_append (F.args_list_append_2 _ _) (PySem.list_append l its.toArray n u (by rw[dj];omega)) ⟨e,?_⟩
 refine⟨.av,_,I.Fu (its':=its++[u]) hH e (by simp) (r.append (.cons ru .nil)) ?_,rfl,q⟩
 rw[di,qm]
 omega
noncomputable def Zv:V->List V->Hp->VK->Prop:=λx vs H Q=>∃l b xs zs,x=.ref l/\vs=[.ref b]/\H l=some (.lst xs)/\H b=some (.lst zs)/\xs.length+zs.length<=sizeLine/\Q .av (upd H l (.lst (xs++zs)))
theorem Zw:Ft X "list.extend" Zv:=by
 intro pins s σ H x vs v us Q I rx rv h
 obtain⟨l,b,xs,zs,rfl,rfl,hH,hB,hz,q⟩:=h
 cases rx
 obtain⟨u,rfl,ru⟩:=rv.one
 cases ru
 obtain⟨z,its,n,r,hl,e⟩:=I.ub hH
 obtain⟨z2,ud,n2,r2,yp,e2⟩:=I.ub hB
 have qD:its.toArray.size+ud.toArray.size<=sizeLine:=by rw[dj,dj];omega
 have Fw:¬ (!its.toArray.isEmpty&&D9 (its.toArray.size+ud.toArray.size))=true:=by
  rw[NH qD,Mh]
  exact iZ
 refine call_meets F.slot_list_extend ⟨_,e,rfl⟩ F.entry_list_extend (F.args_list_extend_2 _ _)
  (AutoSeq1.list_extend_list_list_0 l its.toArray n b ud.toArray n2 Fw (by rw[dj];omega) (by omega)) ⟨e,e2,?_⟩
 refine⟨.av,_,I.Fu (its':=its++ud) hH e (by simp) (r.append r2) ?_,rfl,q⟩
 rw[di]
 omega
noncomputable def Zx:V->List V->Hp->VK->Prop:=λx vs H Q=>∃l xs y,x=.ref l/\vs=[]/\H l=some (.lst xs)/\xs[xs.length-1]?=some y/\Q y (upd H l (.lst xs.dropLast))
theorem Zy:Ft X "list.pop" Zx:=by
 intro pins s σ H x vs v us Q I rx rv h
 obtain⟨l,xs,y,rfl,rfl,hH,hy,q⟩:=h
 cases rx
 have Zz:=rv.zero
 subst Zz
 obtain⟨z,its,n,r,hl,e⟩:=I.ub hH
 obtain⟨u,hu,ru⟩:=r.get hy
 have Fx:its.toArray[its.toArray.size-1]?=some u:=by
  show its.toArray[its.length-1]?=some u
  rw[<-Array.getElem?_toList,<- hl]
  exact hu
 refine call_meets F.slot_list_pop ⟨_,e,rfl⟩ F.entry_list_pop (F.args_list_pop_1 _) (MeetsSeq.list_pop_last l its.toArray n u Fx (by rw[dj];omega)) ⟨e,?_⟩
 refine⟨y,_,I.Fu (its':=its.dropLast) hH e ?_ r.dropLast ?_,ru,q⟩
 ·show its.toArray.eraseIdxIfInBounds (its.toArray.size-1)=its.dropLast.toArray
  rw[dj,List.eraseIdxIfInBounds_toArray,Zt]
 ·rw[List.length_dropLast]
  omega
noncomputable def ZA:R2:=λx y H Q=>∃l b xs zs,x=.ref l/\y=.ref b/\H l=some (.lst xs)/\H b=some (.lst zs)/\xs.length+zs.length<=sizeLine/\∀p,H p=none->Q (.ref p) (upd H p (.lst (xs++zs)))
theorem NI:cM X (binaryOp .Add) ZA:=by
 intro pins s σ H x y v u Q I rx ry h
 obtain⟨l,b,xs,zs,rfl,rfl,hH,hB,hz,q⟩:=h
 cases rx
 cases ry
 obtain⟨z,its,n,r,hl,e⟩:=I.ub hH
 obtain⟨z2,ud,n2,r2,yp,e2⟩:=I.ub hB
 refine PySem.P.add_list e e2 ?_ (by rw[dj,dj];omega)
 have ea:its.toArray++ud.toArray=(its++ud).toArray:=by simp
 rw[ea]
 exact⟨.ref _,_,I.NG (t':=s.toks) (r.append r2) (by rw[di];omega),rfl,q _ I.fresh⟩
noncomputable def ZC:R2:=λx y H Q=>∃l k xs,x=.ref l/\y=.int k/\H l=some (.lst xs)/\-(2 ^ 63)<=k/\k<2 ^ 63/\xs.length*k.toNat<=sizeLine /\
 ∀p,H p=none->Q (.ref p) (upd H p (.lst (bg k.toNat xs).flatten))
theorem ZD{α:Type}(xs:List α)(k:Nat):(bg k xs).flatten.length=k*xs.length:=by
 induction k with
 | zero=>simp
 | succ k ih=>rw[tu,vO,di,ih,Nat.succ_mul,xJ]
theorem ZE:cM X (binaryOp .Mult) ZC:=by
 intro pins s σ H x y v u Q I rx ry h
 obtain⟨l,k,xs,rfl,rfl,hH,h1,h2,hz,q⟩:=h
 cases rx
 obtain⟨t,rfl⟩:=ry
 obtain⟨z,its,n,r,hl,e⟩:=I.ub hH
 have hlen:its.toArray.size*k.toNat<=sizeLine:=by rw[dj,<- hl];exact hz
 have ZF:¬ its.toArray.size*k.toNat>(2 ^ 63-1)/8:=by
  have:(sizeLine:Nat)<=(2 ^ 63-1)/8:=by decide
  omega
 have ZG:¬ (!Builtin.List.listFitsIndex k)=true:=by
  rw[fitsIndex_both h1 h2]
  exact iZ
 have Fw:¬ D9 (its.toArray.size*k.toNat)=true:=by
  rw[NH hlen]
  exact iZ
 have ZH:List.foldl (λx1 x2=>x1++x2) #[] (bg (if its.toArray.isEmpty=true then 0 else k.toNat) its.toArray)=(bg k.toNat its).flatten.toArray:=by
  have f0:∀m:Nat,List.foldl (λx1 x2=>x1++x2) #[] (bg m its.toArray)=(bg m its).flatten.toArray:=λm=>by
   have:=NF its m []
   rw[nC]at this
   exact this
  rw[f0]
  cases its with
  | nil=>simp
  | cons a r'=>rw[if_neg (by simp)]
 refine wpAny_binaryOp_repeat_ref (T:="list") (U:="int") (by decide) ⟨_,e,rfl⟩ (λs'=>typeIs_int s' k t) noFill_list_mul F.fills_int_mul F.slot_int_rmul repeat_list F.slot_int_index.lookup
  (call_meets F.slot_int_rmul (typeIs_int s k t) F.entry_int_rmul (F.args_int_rmul_2 _ _) (int___rmul___int_list k t l its.toArray n)
   ⟨e,rfl,⟨_,e,rfl⟩,call_meets F.slot_list_mul ⟨_,e,rfl⟩ F.entry_list_mul (F.args_list_mul_2 _ _) (AutoListH.list___mul___list_int_3 l its.toArray n k t ZG ZF Fw) ⟨e,?_⟩⟩)
 rw[ZH]
 exact⟨.ref _,_,I.NG (t':=s.toks) (r.rep k.toNat) (by rw[ZD,nD];exact hz),rfl,q _ I.fresh⟩
end
section
variable{prog:Program}{w:World}{A:Around}{E:Value->Shared->Prop}{s:Shared}
end
section
variable{X:Cx}
end
end L2
namespace Att
open PySem PySem.W PySem.Calls PyProof.Rows
theorem ZI{P:Params}{h:Heap}:∀(ns:List Int) (vs:List Value),WellAll P h vs (ns.map WData.int)->IntsAre vs ns:=by
 intro ns
 induction ns with
 | nil =>
  intro vs w
  rw[i6]at w
  cases w
  exact .nil
 | cons n ns ih =>
  intro vs w
  rw[cK]at w
  cases w with
  | cons a b =>
   cases a
   exact .cons _ _ (ih _ b)
theorem ZJ{l:OpenLaw}{n:Nat}(hn:l.most=some n){P:Params}{h:Heap}{args:List WData}{vals:List Value}
  (Bj:l.row.toRowW.claim.pre args=true) (Fy:WellAll P h vals args) :
  ∃a vs ns,vals=[gT a]/\args=[WData.list (ns.map WData.int)]/\h.get? a=some { cls:=.type "list",data:=.seq vs.toArray }/\IntsAre vs ns/\ns.length<=n:=by
 have yq:WShape.hasAll [] args [.list .int]=true:=(pre_splitW Bj).1
 have hc:l.pre.holds [] { args:=args }=true:=(pre_splitW Bj).2
 obtain⟨d,r,rfl,h1,h2⟩:=hasAllW_cons yq
 obtain rfl:=hasAllW_nil h2
 obtain⟨xs,rfl,h3⟩:=hasW_list h1
 obtain⟨ns,rfl⟩:=items_int h3
 have hlen:ns.length<=n:=by
  unfold OpenLaw.pre at hc
  have h4:(WTm.not (.lt (.lit (.int (n:Int))) (.len (.arg 0)))).holds [] { args:=[.list (ns.map .int)] }=true:=by
   have h4:=(holds_andW hc).1
   rw[hn]at h4
   exact h4
  have h5:=condW_of h4 (w_not (w_lt w_lit (w_len_list (w_arg rfl))))
  rw[bt]at h5
  refine Ea λq=>?_
  have q':(n:Int)<((ns.length:Nat):Int):=by omega
  first
   | (rw[decide_eq_true q']at h5;exact absurd h5 (by decide))
   | (simp at h5;omega)
 cases Fy with
 | cons w1 w2 =>
  cases w2
  cases w1 with
  | list ho ZK=>exact⟨_,_,ns,rfl,rfl,ho,ZI ns _ ZK,hlen⟩
theorem ZL(l:OpenLaw)(args:List WData):l.row.toRowW.claim.post args (.bool true) args=true :=
 postW_of (r:=l.row.toRowW) (X:=(true==true))
  (show WShape.has [] (.bool true) .bool=true by first | rfl | decide | simp[WShape.has,WShape.arms,WShape.armsAll])
  (show(WTm.eq .res (.lit (.bool true))).value [] { args:=args,res:=some (.bool true),after:=args }=some (.bool (true==true)) from w_eq_bool (w_res rfl) w_lit) rfl
theorem ZM{l:OpenLaw}{n:Nat}{q:Program}{loose:List Str}{XP:(Str->Option Value)->Heap->Prop}{YP:World->Heap->Prop}{d:DefRec}
  (hn:l.most=some n) (yr:d.params.defaults=[])
  (call:∀(w:World) (eA bG:Shared) (mg mb:Str->Option Value) (fa:Addr) (o:Obj) (pm cd doc:Value) (a:Addr) (vs:List Value) (ns:List Int),
   Ground q loose [] XP w eA mg mb bG.heap->YP w bG.heap ->
   bG.heap.get? fa=some o->o.data=.func (docDef d.name d.params d.body d.scope pm cd doc)->bG.heap.CodeRec cd d.name->mg d.name=some (.ref fa) ->
   bG.heap.get? a=some { cls:=.type "list",data:=.seq vs.toArray }->IntsAre vs ns->ns.length<=n->bG.gens=#[] ->
   codeAny (model l.prog w) callerA (.call (.ref fa) ⟨[.ref a],[]⟩) (λr s'=>r=.ok (.ret (.bool true))/\OldK bG.heap s'.heap/\s'.os=bG.os/\AllBare s'.gens) bG) :
  WalkO q loose XP YP l.row.toRowW d [] (λf vs=>PySem.call f vs):=by
 intro w eA bG mg mb G Y fa o pm cd doc dV kV ho hd cq hD yt hg args vals as Bj dU0 hrd Fy dH
 obtain rfl:dV=.none:=Dflts.none hD yr
 obtain rfl:kV=.none:=Dflts.noKw hD
 obtain⟨a,vs,ns,rfl,rfl,Fz,hints,hlen⟩:=ZJ hn Bj Fy
 refine enter_call (codeAny_mono (call w eA bG mg mb fa o pm cd doc a vs ns G Y ho (fd_plain hd) cq yt Fz hints hlen hg) λr s' hq=>?_)
 obtain⟨rfl,h2,h3,h4⟩:=hq
 exact⟨.inl ⟨.bool true,.bool true,[],rfl,λ_=>rfl,.bool true,ZL l _,λ_=>⟨Eb,λ_ hm=>(nomatch hm)⟩⟩,h2,h3,h4⟩
section
variable{prog:Program}{w:World}{A:Around}{E:Value->Shared->Prop}{s:Shared}{K:Frag}
end
end Att
namespace L2
open PySem PySem.Spec PyProof.Rows
theorem NJ:∀{vs:List Value} {ns:List Int},IntsAre vs ns->Vals (ns.map V.int) vs
 | _,_,.nil=>.nil
 | _,_,.cons n t h=>.cons ⟨t,rfl⟩ (NJ h)
end L2
namespace L2
open PySem PySem.Spec PyProof.Rows
end L2
/- THE dU3 dU4 (shape;LID,My.* are dU6):
   My.eO: a structure of NK addresses dU7 dU8 dU9 names (classes,dV0);My.Txt K t: a structure (Prop) of NK equations over K;
   My.dV1:{K} {implicit addresses ..} (e1:nsIn K mainGlobals "law"=some (some (.ref f))) (e2:K.lookup f=some ⟨oc,od,.func (fnOf "law" "law" params body scope dV kV doc pm an aC ct),sl⟩) (e3:codeIn K aC "law"=true) ..:∃t,My.Txt K t
(NK tactic k_is has no namespace: write k_is) -/
namespace L2
open PySem PySem.Spec PyProof.Rows
noncomputable def fH(s:Stmt)(j:Nat):Stmt:=match s with
 | .ClassDef _ _ _ body _ _ _ _ _ _ _=>body.getD j (.Pass ⟨0,0,0,0⟩)
 | _=>.Pass ⟨0,0,0,0⟩
noncomputable def jh(s:Stmt):Arguments:=match s with
 | .FunctionDef _ a _ _ _ _ _ _ _ _=>a
 | _=>{ posonlyargs:=[],args:=[],vararg:=none,kwonlyargs:=[],kw_defaults:=[],kwarg:=none,defaults:=[] }
noncomputable def gr(s:Stmt):List Stmt:=match s with
 | .FunctionDef _ _ b _ _ _ _ _ _ _=>b
 | _=>[]
noncomputable def aL(s:Stmt):Scope:=match s with
 | .FunctionDef _ _ _ _ _ _ sc _ _ _=>sc
 | _=>{ kind:=.function,names:=[],isGenerator:=false,isCoroutine:=false }
noncomputable abbrev aP:e7:=λ_ _ _ _ _ _=>False
noncomputable abbrev E0:XK:=λ_ _ _=>False
theorem da{X:Cx}:k0 aP X E0:=λ_ _ _ _ _ _ _ h=>h.elim
structure aZ(K:PySem.W.Frag)(x qual:Str)(st:Stmt)(f:Addr)(fd:FuncData):Prop where
 ex:∃(oc:Value) (od:Option Addr) (kV doc pm:Value) (an:Option Addr) (aC ct:Value) (jc:Array (Option Value)),
  fd=PySem.W.fnOf x qual (jh st) (gr st) (aL st) .none kV doc pm an aC ct/\K.lookup f=some ⟨oc,od,.func fd,jc⟩/\PySem.W.codeIn K aC qual=true
 kp:PySem.W.keepIn K (.ref f)=true
section
variable{P:Program}{w:World}{K:PySem.W.Frag}{mg:Str->Option Value}{base:Heap}
theorem aZ.ok{x qual:Str}{st:Stmt}{f:Addr}{fd:FuncData}{N ps:List Str}{k:Nat}{sp:Sp}(F:aZ K x qual st f fd)(S:aW N ps (aL st))(len:∀vs H Q E,sp vs H Q E->vs.length=ps.length)
  (je:∀(aC:Value) (A:Around) (outer:List Env) (s:Shared) (H:Hp) (vs:List V) (Q:VK) (E:XK),cu k (A.deeper (envOfC qual (aL st) s.heap.objs.size f aC))->sp vs H Q E ->
   ∃t,PSs (j5 aP P w K mg base N qual (aL st) f aC A outer s H E).h8 (gr st) t/\t { nx:=λ_ H'=>Q .av H',rt:=Q } (start N vs) H):aJ P w K mg base aP (k+1) f fd ps sp:=by
 obtain⟨oc,od,kV,doc,pm,an,aC,ct,jc,rfl,lk,cq⟩:=F.ex
 refine Fe lk cq S len λA outer s H vs Q E hr jG=>?_
 obtain⟨t,h,q⟩:=je aC A outer s H vs Q E hr jG
 exact⟨t,h.h8,q⟩
theorem aZ.binds{x qual:Str}{st:Stmt}{f:Addr}{fd:FuncData}{ps:List Str}(F:aZ K x qual st f fd)
  (h:∀(kV doc pm:Value) (an:Option Addr) (aC ct:Value) (us:List Value),us.length=ps.length->bindArgs (PySem.W.fnOf x qual (jh st) (gr st) (aL st) .none kV doc pm an aC ct) ⟨us,[]⟩=pure (ps.zip us)):Binds K fd ps []:=by
 obtain⟨oc,od,kV,doc,pm,an,aC,ct,jc,rfl,lk,cq⟩:=F.ex
 exact .all (h kV doc pm an aC ct)
theorem Bk{x qual:Str}{st:Stmt}{f:Addr}{oc:Value}{od an:Option Addr}{jc:Array (Option Value)}{kV doc pm aC ct:Value}(l:K.lookup f=some ⟨oc,od,.func (PySem.W.fnOf x qual (jh st) (gr st) (aL st) .none kV doc pm an aC ct),jc⟩)
  (c:PySem.W.codeIn K aC qual=true) (k:PySem.W.keepIn K (.ref f)=true):aZ K x qual st f (PySem.W.fnOf x qual (jh st) (gr st) (aL st) .none kV doc pm an aC ct):=⟨⟨oc,od,kV,doc,pm,an,aC,ct,jc,rfl,l,c⟩,k⟩
end
section
variable{X:Cx}
theorem pv(i:Nat){x:Str}{pos:Pos}(hN:X.N[i]?=some x:=by rfl)(hv:jY X.env.scope x:=by first | exact az rfl | exact bY (az rfl) | exact bY (bY rfl))(hd:(x==("__debug__":Str))=false:=by decide)
  (cq:(x==("__classdict__":Str))=false:=by decide):PE X (.Name x pos) (EO i):=mB hN hv hd cq
end
theorem ji{A B:Prop}(h:B):if false=true then A else B:=by
 rw[if_neg iZ]
 exact h
theorem nY{A B:Prop}(h:A):if true=true then A else B:=by
 rw[if_pos rfl]
 exact h
end L2
namespace Mf
noncomputable def bl(n:Nat):Nat:=if n=0 then 0 else n.log2+1
theorem fc{n m:Nat}:bl n<=m↔n<2 ^ m:=by
 unfold bl
 by_cases h:n=0
 ·simp[h,xK]
 ·rw[if_neg h]
  rw[<-Nat.log2_lt h]
  omega
theorem FA{n m:Nat}:m<bl n↔2 ^ m<=n:=by
 have:=@fc n m
 omega
theorem jI(n:Nat):n<2 ^ bl n:=fc.mp (bL _)
theorem NL{n:Nat}(h:n≠0):2 ^ (bl n-1)<=n:=by
 have:0<bl n:=by unfold bl;rw[if_neg h];omega
 exact FA.mp (by omega)
theorem iG{n:Nat}(h:n≠0):0<bl n:=by
 unfold bl;rw[if_neg h];omega
theorem nZ:bl 0=0:=rfl
theorem wj{n:Nat}(h:n≠0):n.testBit (bl n-1)=true:=by
 have h1:=NL h
 have h2:=jI n
 have hp:=iG h
 have e:bl n=(bl n-1)+1:=by omega
 rw[e,nE]at h2
 rw[WO]
 have:n/2 ^ (bl n-1)=1:=by
  apply Nat.div_eq_of_lt_le
  ·omega
  ·omega
 rw[this];rfl
theorem ZN{x n:Nat}(h:∀i,n<=i->x.testBit i=false):x<2 ^ n:=by
 apply Nat.lt_pow_two_of_testBit
 intro i hi
 exact h i hi
theorem NM{x y n:Nat}(hx:x<2 ^ (n+1))(hy:y<2 ^ (n+1))(tx:x.testBit n=true)(ty:y.testBit n=true):x ^^^ y<2 ^ n:=by
 apply ZN
 intro i hi
 rw[nF]
 by_cases e:i=n
 ·rw[e,tx,ty];rfl
 ·have fq:n+1<=i:=by omega
  have p:2 ^ (n+1)<=2 ^ i:=nG (by decide) fq
  rw[Ec (dz hx p),Ec (dz hy p)]
  rfl
theorem NN(x y z:Nat):(x ^^^ y) ^^^ (z ^^^ y)=x ^^^ z:=by
 apply AG;intro i;simp only[nF]
 cases x.testBit i<;>cases y.testBit i<;>cases z.testBit i<;>rfl
theorem NO(x y z t:Nat):(x ^^^ y) ^^^ (z ^^^ t)=(x ^^^ z) ^^^ (y ^^^ t):=by
 apply AG;intro i;simp only[nF]
 cases x.testBit i<;>cases y.testBit i<;>cases z.testBit i<;>cases t.testBit i<;>rfl
noncomputable def P(a b:Nat):Nat->Nat
 | 0=>0
 | k+1=>P a b k ^^^ (if b.testBit k then a <<< k else 0)
noncomputable def cl(a b:Nat):Nat:=P a b (bl b)
theorem NP{a b k:Nat}(h:b<2 ^ k):∀j,P a b (k+j)=P a b k
 | 0=>rfl
 | j+1=>by
  show P a b (k+j) ^^^ (if b.testBit (k+j)then a <<< (k+j)else 0)=_
  rw[NP h j]
  have p:2 ^ k<=2 ^ (k+j):=nG (by decide) (by omega)
  rw[Ec (dz h p)]
  simp
theorem wk{a b k:Nat}(h:b<2 ^ k):P a b k=cl a b:=by
 have h1:=fc.mpr h
 have e:k=bl b+(k-bl b):=by omega
 rw[e,NP (jI b)]
 rfl
theorem NQ(a a' b:Nat):∀k,P (a ^^^ a') b k=P a b k ^^^ P a' b k
 | 0=>(mj 0).symm
 | k+1=>by
  show P (a ^^^ a') b k ^^^ _=(P a b k ^^^ _) ^^^ (P a' b k ^^^ _)
  rw[NQ a a' b k]
  by_cases t:b.testBit k=true
  ·rw[if_pos t,if_pos t,if_pos t,WQ]
   ac_rfl
  ·rw[if_neg t,if_neg t,if_neg t]
   simp
theorem NR(a b b':Nat):∀k,P a (b ^^^ b') k=P a b k ^^^ P a b' k
 | 0=>(mj 0).symm
 | k+1=>by
  show P a (b ^^^ b') k ^^^ _=(P a b k ^^^ _) ^^^ (P a b' k ^^^ _)
  rw[NR a b b' k,nF]
  cases b.testBit k<;>cases b'.testBit k<;>simp
  ·ac_rfl
  ·ac_rfl
  ·exact(NN _ _ _).symm
theorem qF(a a' b:Nat):cl (a ^^^ a') b=cl a b ^^^ cl a' b:=NQ a a' b _
theorem wm{x y n:Nat}(hx:x<2 ^ n)(hy:y<2 ^ n):x ^^^ y<2 ^ n:=Nat.xor_lt_two_pow hx hy
theorem ZO(a b b':Nat):cl a (b ^^^ b')=cl a b ^^^ cl a b':=by
 let k:=bl b+bl b'
 have h1:b<2 ^ k:=fc.mp (by omega)
 have h2:b'<2 ^ k:=fc.mp (by omega)
 rw[<-wk (wm h1 h2),<- wk h1,<- wk h2,NR]
theorem ZP(a:Nat):cl a 0=0:=rfl
theorem NS(b:Nat):∀k,P 0 b k=0
 | 0=>rfl
 | k+1=>by
  show P 0 b k ^^^ _=0
  rw[NS b k];simp
theorem qG(b:Nat):cl 0 b=0:=NS b _
theorem ZQ(b k:Nat):(b/2).testBit k=b.testBit (k+1):=by
 rw[Ed]
theorem NT(a b:Nat):∀k,P a b (k+1)=(if b%2=1 then a else 0) ^^^ P (2*a) (b/2) k
 | 0=>by
  show 0 ^^^ _=_ ^^^ 0
  rw[qo,mj,AH]
  simp
 | k+1=>by
  show P a b (k+1) ^^^ _=_ ^^^ (P (2*a) (b/2) k ^^^ _)
  rw[NT a b k,ZQ,tw]
  have e:a <<< (k+1)=(2*a) <<< k:=by
   rw[kR,kR,nE]
   rw[nD 2 a,vP,nD 2]
  rw[e]
theorem NU{b k:Nat}(h:b<2 ^ (k+1)):b/2<2 ^ k:=by
 rw[nE]at h;omega
theorem NV(a b:Nat):cl a b=(if b%2=1 then a else 0) ^^^ cl (2*a) (b/2):=by
 have h:b<2 ^ (bl b+1):=Nat.lt_trans (jI b) (by rw[nE];have:=xK (bl b);omega)
 rw[<-wk h,NT,wk (NU h)]
theorem NW(a b:Nat):∀k,P (2*a) b k=2*P a b k
 | 0=>rfl
 | k+1=>by
  show P (2*a) b k ^^^ _=2*(P a b k ^^^ _)
  rw[NW a b k]
  have d:∀x y:Nat,2*(x ^^^ y)=2*x ^^^ 2*y:=by
   intro x y
   have h:=@WQ 1 x y
   rw[kR,kR,kR,Nat.pow_one]at h
   rw[nD 2 (x ^^^ y),nD 2 x,nD 2 y]
   exact h
  rw[d]
  by_cases t:b.testBit k=true
  ·rw[if_pos t,if_pos t,kR,kR,vP]
  ·rw[if_neg t,if_neg t]
theorem FC(a b:Nat):cl (2*a) b=2*cl a b:=NW a b _
theorem yu(a c t:Nat)(ht:t<2):cl a (2*c+t)=2*cl a c ^^^ (if t=1 then a else 0):=by
 rw[NV,FC,Mi]
 have e1:(2*c+t)/2=c:=by omega
 have e2:(2*c+t)%2=t:=by omega
 rw[e1,e2]
theorem ZR(a c:Nat):cl a (2*c)=2*cl a c:=by
 have h:=yu a c 0 (by decide)
 simpa using h
theorem NX(c t:Nat)(ht:t<2):2*c ^^^ t=2*c+t:=by
 apply AG
 intro i
 cases i with
 | zero =>
  rw[nF,AH,AH,AH]
  have:t=0\/t=1:=by omega
  rcases this with h | h<;>subst h<;>simp<;>omega
 | succ i =>
  rw[nF,Ed,Ed,Ed]
  have e1:2*c/2=c:=by omega
  have e2:t/2=0:=by omega
  have e3:(2*c+t)/2=c:=by omega
  rw[e1,e2,e3];simp
theorem FD:∀b:Nat,cl 1 b=b:=by
 intro b
 induction b using Ee with
 | ind b ih =>
  by_cases h:b=0
  ·subst h;rfl
  ·have e:b=2*(b/2)+b%2:=by omega
   rw[e,yu 1 (b/2) (b%2) (by omega),ih (b/2) (by omega)]
   have:b%2=0\/b%2=1:=by omega
   rcases this with h | h
   ·rw[h];simp
   ·rw[h];rw[if_pos rfl];exact NX _ _ (by decide)
theorem yv:∀b a:Nat,cl a b=cl b a:=by
 intro b
 induction b using Ee with
 | ind b ih =>
  intro a
  by_cases h:b=0
  ·subst h;rw[qG];rfl
  ·have e:b=2*(b/2)+b%2:=by omega
   have lt:b%2<2:=by omega
   have e':cl b a=cl (2*(b/2) ^^^ b%2) a:=by rw[NX _ _ lt,<- e]
   rw[e',qF,FC,<- ih (b/2) (by omega) a]
   have ZS:cl a b=cl a (2*(b/2)+b%2):=by rw[<-e]
   rw[ZS,yu _ _ _ lt]
   have:b%2=0\/b%2=1:=by omega
   rcases this with h | h
   ·rw[h,qG];rfl
   ·rw[h,FD];rfl
theorem FE{a m:Nat}(h:a<2 ^ m)(b:Nat):∀k,P a b (k+1)<2 ^ (m+k)
 | 0=>by
  show 0 ^^^ _<_
  rw[qo,Nat.add_zero]
  by_cases t:b.testBit 0=true
  ·rw[if_pos t];simpa using h
  ·rw[if_neg t];exact xK m
 | k+1=>by
  show P a b (k+1) ^^^ _<_
  have i:=FE h b k
  have p:2 ^ (m+k)<=2 ^ (m+(k+1)):=nG (by decide) (by omega)
  apply wm (dz i p)
  by_cases t:b.testBit (k+1)=true
  ·rw[if_pos t,kR,Nat.pow_add 2 m]
   exact(WR (xK _)).mpr h
  ·rw[if_neg t];exact xK _
theorem ZT{a b m n:Nat}(h:a<2 ^ m)(h':b<2 ^ (n+1)):cl a b<2 ^ (m+n):=by
 rw[<-wk h'];exact FE h b n
theorem ZU{a b:Nat}(ha:a≠0)(hb:b≠0):2 ^ (bl a-1+(bl b-1))<=cl a b:=by
 have e:bl b=(bl b-1)+1:=by have:=iG hb;omega
 have ta:=wj ha
 have tb:=wj hb
 apply Nat.ge_two_pow_of_testBit
 unfold cl
 rw[e]
 show(P a b (bl b-1) ^^^ _).testBit _=true
 have e2:bl b-1+1-1=bl b-1:=by omega
 rw[e2,nF,if_pos tb]
 have f:(P a b (bl b-1)).testBit (bl a-1+(bl b-1))=false:=by
  cases q:bl b-1 with
  | zero=>show Nat.testBit 0 _=false;exact Nat.zero_testBit _
  | succ k =>
   apply Ec
   have l:=FE (jI a) b k
   have p:=iG ha
   have e3:bl a-1+(k+1)=bl a+k:=by omega
   rw[e3];exact l
 rw[f,WS]
 have e4:bl a-1+(bl b-1)-(bl b-1)=bl a-1:=by omega
 rw[e4,ta]
 simp
theorem NY{a b:Nat}(ha:a≠0)(hb:b≠0):bl (cl a b)=bl a+bl b-1:=by
 have p1:=iG ha
 have p2:=iG hb
 have h1:bl (cl a b)<=bl a+(bl b-1):=fc.mpr (ZT (jI a) (by
  have e:bl b-1+1=bl b:=by omega
  rw[e];exact jI b))
 have h2:=FA.mpr (ZU ha hb)
 omega
theorem NZ(s b:Nat):cl (2 ^ s) b=b <<< s:=by
 induction s with
 | zero=>rw[Nat.pow_zero,FD];rfl
 | succ s ih =>
  rw[nE,nD,FC,ih,kR,kR,nE]
  rw[<-vP,nD 2,vP,nD 2,<- vP,vP]
theorem ZV{a q b r s:Nat}(h:a=cl q b ^^^ r):a=cl (q ^^^ 2 ^ s) b ^^^ (r ^^^ b <<< s):=by
 rw[qF,NZ,h,NN]
theorem N0{b r:Nat}(hb:b≠0)(h:bl b<=bl r):bl (r ^^^ b <<< (bl r-bl b))<bl r:=by
 have p:=iG hb
 have hr:r≠0:=by
  intro z;rw[z,nZ]at h;omega
 have:r ^^^ b <<< (bl r-bl b)<2 ^ (bl r-1):=by
  apply NM
  ·have e:bl r-1+1=bl r:=by omega
   rw[e];exact jI r
  ·have e:bl r-1+1=bl b+(bl r-bl b):=by omega
   rw[e,kR,Nat.pow_add]
   exact(WR (xK _)).mpr (jI b)
  ·exact wj hr
  ·rw[WS]
   have e:bl r-1-(bl r-bl b)=bl b-1:=by omega
   rw[e,wj hb]
   simp;omega
 have:=fc.mpr this
 omega
theorem ZW{x y z:Nat}(h:x ^^^ y=z):x=z ^^^ y:=by
 rw[<-h,tw,AI,mj]
theorem FF{x y:Nat}(h:x ^^^ y=0):x=y:=by
 have:=ZW h
 rwa [qo]at this
theorem ZX{b q r q' r':Nat}(h:cl q b ^^^ r=cl q' b ^^^ r')(hr:bl r<bl b)(bf:bl r'<bl b):q=q'/\r=r':=by
 have hb:b≠0:=by intro z;rw[z,nZ]at hr;omega
 have e:cl (q ^^^ q') b=r ^^^ r':=by
  rw[qF]
  have z:(cl q b ^^^ r) ^^^ (cl q' b ^^^ r')=0:=by rw[h,AI]
  rw[NO]at z
  exact FF z
 have lt:bl (r ^^^ r')<bl b:=by
  have h1:r<2 ^ (bl b-1):=fc.mp (by omega)
  have h2:r'<2 ^ (bl b-1):=fc.mp (by omega)
  have:=fc.mpr (wm h1 h2)
  have:=iG hb
  omega
 have z:q ^^^ q'=0:=by
  apply xM
  intro hq
  have h1:=NY hq hb
  have h2:=iG hq
  rw[e]at h1
  omega
 have zq:=FF z
 subst zq
 rw[z,qG]at e
 exact⟨rfl,FF e.symm⟩
end Mf
namespace Mf
open PySem PySem.Builtin.Int
theorem ZY(x y:Nat):(x ^^^ y)+2*(x &&& y)=x+y:=by
 induction x using Ee generalizing y with
 | ind x ih =>
  by_cases h:x=0
  ·subst h;simp
  ·have h1:=ih (x/2) (by omega) (y/2)
   have e1:(x ^^^ y)/2=x/2 ^^^ y/2:=Nat.xor_div_two
   have e2:(x &&& y)/2=x/2 &&& y/2:=Nat.and_div_two
   have t:∀n:Nat,n%2=if n.testBit 0=true then 1 else 0:=by
    intro n
    rw[AH]
    by_cases h:n%2=1
    ·simp[h]
    ·simp[h];omega
   have m1:(x ^^^ y)%2=(x%2+y%2)%2:=by
    rw[t (x ^^^ y),t x,t y,nF]
    cases x.testBit 0<;>cases y.testBit 0<;>rfl
   have m2:(x &&& y)%2=x%2*(y%2):=by
    rw[t (x &&& y),t x,t y,Mj]
    cases x.testBit 0<;>cases y.testBit 0<;>rfl
   have d1:=Nat.div_add_mod (x ^^^ y) 2
   have d2:=Nat.div_add_mod (x &&& y) 2
   rw[e1]at d1
   rw[e2]at d2
   have hx:x%2=0\/x%2=1:=by omega
   have hy:y%2=0\/y%2=1:=by omega
   rcases hx with hx | hx<;>rcases hy with hy | hy<;>rw[hx,hy]at m1 m2<;>omega
theorem N1{x y:Int}(hx:0<=x)(hy:0<=y):qh x y=((x.toNat &&& y.toNat:Nat):Int):=by
 unfold qh
 rw[decide_eq_true hx,decide_eq_true hy]
theorem ZZ{x y:Int}(hx:0<=x)(hy:0<=y):Builtin.bitOr x y=((x.toNat ||| y.toNat:Nat):Int):=by
 unfold Builtin.bitOr qh Builtin.bitNot
 rw[decide_eq_false (by omega),decide_eq_false (by omega)]
 show-(-((((- (-x-1)-1).toNat ||| (-(-y-1)-1).toNat:Nat):Int))-1)-1=_
 have e1:(- (-x-1)-1).toNat=x.toNat:=by omega
 have e2:(- (-y-1)-1).toNat=y.toNat:=by omega
 rw[e1,e2]
 omega
theorem Z0(x y:Nat):(x ||| y)=(x ^^^ y)+(x &&& y):=by
 have d:(x ^^^ y) &&& (x &&& y)=0:=by
  apply AG;intro i
  simp only[nF,Mj,Nat.zero_testBit]
  cases x.testBit i<;>cases y.testBit i<;>rfl
 have e:(x ||| y)=(x ^^^ y) ^^^ (x &&& y):=by
  apply AG;intro i
  simp only[nF,Mj,Nat.testBit_or]
  cases x.testBit i<;>cases y.testBit i<;>rfl
 have h:=ZY (x ^^^ y) (x &&& y)
 rw[d]at h
 rw[e];omega
theorem Z1{x y:Int}(hx:0<=x)(hy:0<=y):qi x y=((x.toNat ^^^ y.toNat:Nat):Int):=by
 unfold qi
 rw[ZZ hx hy,N1 hx hy,Z0]
 omega
theorem qH(x y:Nat):qi (x:Int) (y:Int)=((x ^^^ y:Nat):Int):=by
 rw[Z1 (by omega) (by omega)];rfl
theorem N2(x y:Nat):qh (x:Int) (y:Int)=((x &&& y:Nat):Int):=by
 rw[N1 (by omega) (by omega)];rfl
theorem wo(x k:Nat):(x:Int)*2 ^ ((k:Int)).toNat=((x <<< k:Nat):Int):=by
 rw[kR]
 simp
theorem Z2(x k:Nat):(x:Int)/2 ^ ((k:Int)).toNat=((x >>> k:Nat):Int):=by
 rw[WT]
 simp
theorem Z3(x k:Nat):((x >>> k) &&& 1=1)↔x.testBit k=true:=by
 rw[WO,WT]
 have:(x/2 ^ k) &&& 1=(x/2 ^ k)%2:=Nat.and_two_pow_sub_one_eq_mod _ 1
 rw[this]
 simp
end Mf
namespace Mf
end Mf
namespace Mf
theorem N3(a b:Nat):∀c,cl (cl a b) c=cl a (cl b c):=by
 intro c
 induction c using Ee with
 | ind c ih =>
  by_cases h:c=0
  ·subst h;rfl
  ·have e:c=2*(c/2)+c%2:=by omega
   have lt:c%2<2:=by omega
   have i:=ih (c/2) (by omega)
   rw[e,yu _ _ _ lt,yu _ _ _ lt,i,ZO,ZR]
   have:c%2=0\/c%2=1:=by omega
   rcases this with h | h
   ·rw[h];rfl
   ·rw[h];rfl
noncomputable def wq:Nat->Nat->Nat->Nat
 | 0,a,_=>a
 | n+1,a,b=>if bl a<bl b then a else wq n (a ^^^ b <<< (bl a-bl b)) b
noncomputable def md(a b:Nat):Nat:=wq (bl a+1) a b
theorem N4{b:Nat}(hb:b≠0):∀n a,bl a<n->(∃q,a=cl q b ^^^ wq n a b)/\bl (wq n a b)<bl b
 | 0,_,h=>absurd h (by omega)
 | n+1,a,h=>by
  unfold wq
  by_cases l:bl a<bl b
  ·rw[if_pos l]
   exact⟨⟨0,by rw[qG,qo]⟩,l⟩
  ·rw[if_neg l]
   have less:=N0 hb (show bl b<=bl a by omega)
   obtain⟨⟨q,e⟩,l2⟩:=N4 hb n (a ^^^ b <<< (bl a-bl b)) (by omega)
   refine⟨⟨q ^^^ 2 ^ (bl a-bl b),?_⟩,l2⟩
   rw[qF,NZ]
   have e2:a=(a ^^^ b <<< (bl a-bl b)) ^^^ b <<< (bl a-bl b):=by rw[tw,AI,mj]
   rw[e]at e2
   refine e2.trans ?_
   generalize wq n _ b=r
   rw[tw,Mi r,<- tw]
theorem yw{b:Nat}(hb:b≠0)(a:Nat):(∃q,a=cl q b ^^^ md a b)/\bl (md a b)<bl b:=N4 hb _ a (by omega)
theorem yx{a b q r:Nat}(h:a=cl q b ^^^ r)(hr:bl r<bl b):md a b=r:=by
 have hb:b≠0:=by intro z;rw[z,nZ]at hr;omega
 obtain⟨⟨q',e⟩,l⟩:=yw hb a
 exact(ZX (e.symm.trans h) l hr).2
theorem Z4(q:Nat){b:Nat}(hb:b≠0):md (cl q b) b=0 :=
 yx (q:=q) (by rw[mj]) (by rw[nZ];exact iG hb)
end Mf
namespace Mf
theorem Z5(y:Nat):bl (y/2)=bl y-1:=by
 by_cases h:y=0
 ·subst h;rfl
 ·have p:=iG h
  have h1:bl (y/2)<=bl y-1:=fc.mpr (NU (by
   have e:bl y-1+1=bl y:=by omega
   rw[e];exact jI y))
  have h2:bl y<=bl (y/2)+1:=fc.mpr (by
   have:=jI (y/2)
   rw[nE];omega)
  omega
theorem Z6(x:Nat):bl (2*x)<=bl x+1:=fc.mpr (by
 have:=jI x
 rw[nE];omega)
theorem FG{x y:Nat}(h:x<=y):bl x<=bl y:=fc.mpr (nH h (jI y))
end Mf
namespace Mf
noncomputable def al(a:Nat):Bool:=decide (2<=a)&&(aF (2 ^ ((bl a-1)/2+1)-2)).all λi=>md a (2+i) != 0
theorem Z7{a:Nat}(h:a<2):al a=false:=by
 unfold al;rw[decide_eq_false (by omega)];rfl
theorem Z8{a:Nat}(h:2<=a)(k:∀i,i<2 ^ ((bl a-1)/2+1)-2->md a (2+i)≠0):al a=true:=by
 unfold al
 rw[decide_eq_true h,kS,dG]
 intro i hi
 have:=k i (cA.mp hi)
 simpa using this
theorem Z9{a i:Nat}(k:i<2 ^ ((bl a-1)/2+1)-2)(z:md a (2+i)=0):al a=false:=by
 unfold al
 rw[Bool.and_eq_false_iff]
 right
 rw[List.all_eq_false]
 exact⟨i,cA.mpr k,by simp[z]⟩
theorem γ{a:Nat}(h:2<=a){b:Nat}(hb:b<2 ^ ((bl a-1)/2+1)):b<a/\2*bl b<=bl a+1:=by
 have h2:2<=bl a:=by
  have:=FA.mpr (show 2 ^ 1<=a by omega)
  omega
 have l:=fc.mpr hb
 refine⟨dz hb (fE (nG (by decide) ?_) (NL (by omega))),by omega⟩
 omega
end Mf
namespace L2
open PySem PySem.Spec PyProof.Rows Mf
theorem ft:bootBuiltins "len"=some (.builtin "len"):=by decide +kernel
theorem ε:bootBuiltins "isinstance"=some (.builtin "isinstance"):=by decide +kernel
theorem N5:bootBuiltins "min"=some (.builtin "min"):=by decide +kernel
theorem ue:bootBuiltins "all"=some (.builtin "all"):=by decide +kernel
theorem ζ:bootBuiltins "any"=some (.builtin "any"):=by decide +kernel
theorem FH:bootBuiltins "int"=some (.type "int"):=by decide +kernel
theorem N6:bootBuiltins "bool"=some (.type "bool"):=by decide +kernel
theorem uf:bootBuiltins "list"=some (.type "list"):=by decide +kernel
theorem η:bootBuiltins "tuple"=some (.type "tuple"):=by decide +kernel
theorem θ:bootBuiltins "range"=some (.type "range"):=by decide +kernel
section
variable{X:Cx}{a b o:Expr}{ta tb to:TE}{pos apos bI:Pos}
theorem N7(i:Int):Builtin.Int.intBits i=bl i.natAbs:=by
 unfold Builtin.Int.intBits bl
 by_cases h:i=0
 ·subst h;rfl
 ·have h':¬ i.natAbs=0:=by omega
  rw[if_neg h',if_neg (by simpa using h)]
noncomputable def N8:V->List V->Hp->VK->Prop:=λx vs H Q=>∃i,x=.int i/\vs=[]/\Q (.int (bl i.natAbs:Nat)) H
theorem ι:Bh X "int.bit_length" N8:=by
 intro pins s σ H x xs v us Q I rx rs h
 obtain⟨i,rfl,rfl,q⟩:=h
 obtain⟨t,rfl⟩:=rx
 cases rs
 refine call_int_bit_length ?_
 rw[N7]
 exact⟨.int _,H,I.tok _,⟨_,rfl⟩,q⟩
theorem FI(ho:PE X o to)(jf:attributeBase o "bit_length" X.env (eval o X.env)=eval o X.env:=by rfl)(jg:(apos.endLine==bI.line)=true:=by rfl) :
  PE X (.Call (.Attribute o "bit_length" apos) [] [] bI) (NC X.K "int" N8 to) :=
 ND PySem.F.plainAttrs_int PySem.F.slot_int_bit_length PySem.F.type_int_bit_length ι ho jf jg
noncomputable def N9(i j:Int):Prop:=0<=j/\((bl i.natAbs:Nat):Int)+j<=134217728
theorem Oa:cM X (binaryOp .LShift) (rI N9 λi j=>.int (i*2 ^ j.toNat)):=yi λi j _ _ _ _ _ hc q =>
 lshift_int hc.1 (by rw[N7];exact Int.le_trans hc.2 (by decide)) q
theorem μ{x:Str}{n:String}(hg:Gl X x)(hm:X.mg x=none)(hv:bootBuiltins x=some (.type n))(hn:x≠"__name__":=by decide)(hd:(x==("__debug__":Str))=false:=by decide):PE X (.Name x pos) (tC (.ty n)) :=
 Xu hg hm hv rfl hn hd
noncomputable def ν(K:PySem.W.Frag):List V->Hp->VK->Prop:=λxs H Q=>∃x n t b,xs=[x,.ty n]/\i9 K H x t/\PySem.W.kitOne K t (.type n)=some b/\Q (.bl b) H
theorem ξ:ib X (.builtin "isinstance") (ν X.K):=by
 intro pins s σ H xs us Q I r h
 obtain⟨x,n,t,b,rfl,ty,e,q⟩:=h
 obtain⟨u,v,rfl,ru,rv⟩:=r.two
 cases(show v=Value.type n from rv)
 exact YU I ru ty e λtk=>⟨.bl b,H,I.tok _,rfl,q⟩
end
theorem ο(b i:Nat):decide (V.int (qh ((b:Int)/2 ^ ((0:Int)+(i:Int)).toNat) 1)=V.int 1)=b.testBit i:=by
 have e:((0:Int)+(i:Int)).toNat=((i:Int)).toNat:=by omega
 rw[e,Z2,show(1:Int)=((1:Nat):Int) from rfl,N2,tD,decide_eq_true_iff,<- Z3]
 constructor
 ·intro h;injection h with h;omega
 ·intro h;rw[h]
theorem π{a b i:Nat}(h:b.testBit i=true):qi ((P a b i:Nat):Int) ((a:Int)*2 ^ ((0:Int)+(i:Int)).toNat)=((P a b (i+1):Nat):Int):=by
 have e:((0:Int)+(i:Int)).toNat=((i:Int)).toNat:=by omega
 rw[e,wo,qH]
 show _=((P a b i ^^^ (if b.testBit i then a <<< i else 0):Nat):Int)
 rw[if_pos h]
theorem ρ{a b i:Nat}(h:¬ b.testBit i=true):P a b (i+1)=P a b i:=by
 show P a b i ^^^ (if b.testBit i then a <<< i else 0)=_
 rw[if_neg h,mj]
theorem dI{i j:Int}:decide (V.int i=V.int j)=true↔i=j:=by
 rw[decide_eq_true_iff]
 exact⟨λh=>by injection h,λh=>by rw[h]⟩
end L2
namespace L2
open PySem PySem.Spec PyProof.Rows
section
variable{X:Cx}
end
end L2
namespace L2
open PySem PySem.Spec PyProof.Rows
noncomputable def Bl(X:Cx)(scope:Scope)(N:List Str)(cl:List (Str × Addr))(C:Addr)(s:Shared)(H:Hp)(fp:List Addr):Cx where
 prog:=X.prog
 w:=X.w
 K:=X.K
 mg:=X.mg
 base:=X.base
 A:=X.A
 N:=N
 eA:=s
 mx:=H
 env:=compEnvC scope cl C X.env
 outer:=X.stack
 stack:=X.stack
 ex:=fp
 fn:=λ_=>false
 calm:=X.calm
 pn:=[]
 xe:=λ_ _=>False
noncomputable def lh(X:Cx)(scope:Scope)(cl:List (Str × Addr)):List (Str × Nat)->Prop
 | []=>True
 | (y,i)::r=>(X.N[i]?=some y/\(X.env.scope.names.lookup y=some .cell\/X.env.scope.names.lookup y=some .free)/\((relabel scope X.env).names.lookup y=some .cell\/(relabel scope X.env).names.lookup y=some .free)/\∃c,cl.lookup y=some c/\X.env.cells.lookup y=some c)/\lh X scope cl r
theorem lh.at{X:Cx}{scope:Scope}{cl:List (Str × Addr)}:∀{aw:List (Str × Nat)},lh X scope cl aw->∀p∈aw,X.N[p.2]?=some p.1/\(X.env.scope.names.lookup p.1=some .cell\/X.env.scope.names.lookup p.1=some .free)/\((relabel scope X.env).names.lookup p.1=some .cell\/(relabel scope X.env).names.lookup p.1=some .free)/\∃c,cl.lookup p.1=some c/\X.env.cells.lookup p.1=some c
 | [],_,p,hp=>absurd hp (by simp)
 | (y,i)::r,h,p,hp=>by
  rcases cj.mp hp with e | e
  ·subst e;exact h.1
  ·exact lh.at h.2 p e
noncomputable def mG(Y:Cx)(ifs:List Expr)(t:TT):Prop :=
 ∀(pins:List (Addr × Obj)) (s:Shared) (σ:St) (H:Hp) (Q:Bool->Hp->Prop),Inv Y pins σ H s->t σ H Q ->
  wpAny (model Y.prog Y.w) Y.A (forIn ifs true λc r=>if r=true then do let ok<-isTrue c Y.env (eval c Y.env);pure (Ef ok)else pure (Ef r)) (TP Y pins σ Q) Y.xe s
noncomputable def τ:TT:=λ_ H Q=>Q true H
theorem υ{Y:Cx}:mG Y [] τ:=λ_ _ _ H _ I h=>wpAny_tests_nil ⟨H,I,h⟩
theorem χ{Y:Cx}{c:Expr}{t:TT}(h:PT Y c t):mG Y [c] t:=λpins s σ H Q I q=>wpAny_tests_one (h pins s σ H Q I q)
section
variable{X:Cx}{elt iter:Expr}{x:Str}{px pos:Pos}{ifs:List Expr}{scope:Scope}{cl:List (Str × Addr)}{aw:List (Str × Nat)}{wi:TI}{tt:TT}{te:TE}
end
section
variable{prog:Program}{w:World}{A:Around}{R:Result->Shared->Prop}{s:Shared}
theorem ω{elt target iter:Expr}{ifs:List Expr}{scope:Scope}{pos:Pos}{it acc:Value}{env:Env}(Iv:Nat->Shared->Prop)
  (turn:∀n s,Iv n s->wpAny (model prog w) A (pyNext it) (λr s1=>match r with
   | none=>R (.ok .next) s1
   | some v=>wpAny (model prog w) A (letOwnedTupleGo target it v) (λ_ t1=>wpAny (model prog w) A (assign target env v) (λ_ s2 =>
     wpAny (model prog w) A (forIn ifs true λc r=>if r=true then do let ok<-isTrue c env (eval c env);pure (Ef ok)else pure (Ef r)) (λok s3 =>
      if ok=true then wpAny (model prog w) A (eval elt env) (λy s4=>wpAny (model prog w) A (call (.builtin "list.append") [acc,y]) (λ_ s5=>∃m,m<n/\Iv m s5) (λ_ _=>False) s4) (λ_ _=>False) s3
      else ∃m,m<n/\Iv m s3) (λ_ _=>False) s2) (λ_ _=>False) t1) (λ_ _=>False) s1) (λ_ _=>False) s)
  (n:Nat) (h:Iv n s):codeAny (model prog w) A (.compLoop (.ListComp elt [⟨target,iter,ifs,0⟩] scope pos) 0 it acc env) R s:=by
 refine codeAny_loop rfl Iv (λn s hI=>?_) n h
 change wpAny _ A (Sem.onRaise (compTurn (.ListComp elt [⟨target,iter,ifs,0⟩] scope pos) 0 it acc env) λx=>do noteFrame x env;theTreesLotGoes x) _ _ s
 refine wpAny_noted (wpAny_mono (E:=λ_ _=>False) ?_ (λ_ _ q=>q) λ_ _ z=>z.elim)
 rw[compTurn_list]
 refine wpAny_bind (wpAny_standAt (wpAny_bind (aT (turn n s hI) λr s1 h1=>?_)))
 cases r with
 | none=>exact wpAny_pure h1
 | some v =>
  refine wpAny_bind (aT h1 λ_ t1 k1=>wpAny_bind (aT k1 λ_ s2 h2=>wpAny_bind (aT h2 λok s3 h3=>?_)))
  cases ok with
  | false=>exact wpAny_pure ⟨rfl,h3⟩
  | true=>exact wpAny_bind (wpAny_bind (aT h3 λy s4 h4=>wpAny_bind (aT h4 λ_ s5 h5=>wpAny_pure (wpAny_pure ⟨rfl,h5⟩))))
end
section
variable{X:Cx}{elt iter:Expr}{x:Str}{px pos:Pos}{ifs:List Expr}{scope:Scope}{cl:List (Str × Addr)}{aw:List (Str × Nat)}{wi:TI}{tt:TT}{te:TE}
end
end L2
namespace L2
open PySem PySem.Spec PyProof.Rows
section
variable{X:Cx}
theorem Ob{bs:List Bool}{us:List Value}(r:Vals (bs.map V.bl) us):bs.length=us.length/\∀(i:Nat) (v:Value),us[i]?=some v->∃b,bs[i]?=some b/\v=.bool b:=by
 have l:=r.length
 rw[bt]at l
 refine⟨l,λi v e=>?_⟩
 have hi:i<us.length:=(ky.mp e).1
 have hb:i<bs.length:=by omega
 obtain⟨u,e2,q⟩:=r.get (i:=i) (x:=V.bl bs[i]) (by rw[bO,aO hb];rfl)
 rw[e]at e2
 cases e2
 exact⟨bs[i],aO hb,q⟩
theorem Oc{s:Shared}{h':Heap}{o:Obj}(hk:∀b x,b ∉ [s.heap.objs.size]->(s.heap.push o).get? b=some x->h'.get? b=some x)(b:Addr)(x:Obj)(e:s.heap.get? b=some x):h'.get? b=some x :=
 hk b x (λhm=>gU _ (by have:=b9 e;rw[gn.mp hm]at this;exact this)) (gG _ e)
theorem Γ(bs:List Bool):((aF bs.length).all λi=>(bs[i]?).getD true)=bs.all id:=by
 rw[tD,dG,dG]
 constructor
 ·intro h b hb
  obtain⟨i,hi,rfl⟩:=gX hb
  have:=h i (cA.mpr hi)
  rwa [aO hi]at this
 ·intro h i hi
  have fq:=cA.mp hi
  rw[aO fq]
  exact h _ (cT fq)
theorem Δ(bs:List Bool):((aF bs.length).any λi=>(bs[i]?).getD false)=bs.any id:=by
 rw[tD,Ml,Ml]
 constructor
 ·rintro⟨i,hi,h⟩
  have fq:=cA.mp hi
  rw[aO fq]at h
  exact⟨_,cT fq,h⟩
 ·rintro⟨b,hb,h⟩
  obtain⟨i,hi,rfl⟩:=gX hb
  exact⟨i,cA.mpr hi,by rw[aO hi];exact h⟩
theorem Θ(hc:X.calm=true):ib X (.builtin "all") (λxs H Q=>∃(p:Addr) (bs:List Bool),xs=[.ref p]/\bF X.K H p (bs.map V.bl)/\Q (.bl (bs.all id)) H):=by
 intro pins s σ H xs us Q I r h
 obtain⟨p,bs,rfl,hS,q⟩:=h
 obtain⟨u,rfl,ru⟩:=r.one
 cases ru
 obtain⟨its,rv,pl,hz⟩:=I.list hS
 obtain⟨hlen,FJ⟩:=Ob rv
 have hl:=pl.isList
 have ff:p<s.heap.objs.size:=by obtain⟨_,e,_⟩:=hl;exact b9 e
 refine call_all_walk (wpAny_pyIter_list hl ?_)
 refine⟨s.heap.objs.size,[s.heap.objs.size,p],[s.heap.objs.size],its.toArray.size,_,_,λi=>(bs[i]?).getD true,rfl,Walks.list (A:=X.A.in1) (I.ok.hd hc) _ p (gh ff) its.toArray,
  ⟨⟨_,i5 _ rfl,rfl,rfl⟩,hl.push _⟩,λi v s' Q' E' hP hQ=>?_,λh' tk hk=>?_⟩
 ·obtain⟨b,e,rfl⟩:=FJ i v (by simpa using hP)
  simp only[e,qp]at hQ
  exact wpAny_truthy_bool hQ
 ·have e:((aF its.toArray.size).all λi=>(bs[i]?).getD true)=bs.all id:=by
   rw[dj,<- hlen];exact Γ bs
  rw[e]
  exact⟨.bl _,H,I.kept (h':=h') (t':=tk) (Oc hk),rfl,q⟩
theorem Λ(hc:X.calm=true):ib X (.builtin "any") (λxs H Q=>∃(p:Addr) (bs:List Bool),xs=[.ref p]/\bF X.K H p (bs.map V.bl)/\Q (.bl (bs.any id)) H):=by
 intro pins s σ H xs us Q I r h
 obtain⟨p,bs,rfl,hS,q⟩:=h
 obtain⟨u,rfl,ru⟩:=r.one
 cases ru
 obtain⟨its,rv,pl,hz⟩:=I.list hS
 obtain⟨hlen,FJ⟩:=Ob rv
 have hl:=pl.isList
 have ff:p<s.heap.objs.size:=by obtain⟨_,e,_⟩:=hl;exact b9 e
 refine call_any_walk (wpAny_pyIter_list hl ?_)
 refine⟨s.heap.objs.size,[s.heap.objs.size,p],[s.heap.objs.size],its.toArray.size,_,_,λi=>(bs[i]?).getD false,rfl,Walks.list (A:=X.A.in1) (I.ok.hd hc) _ p (gh ff) its.toArray,
  ⟨⟨_,i5 _ rfl,rfl,rfl⟩,hl.push _⟩,λi v s' Q' E' hP hQ=>?_,λh' tk hk=>?_⟩
 ·obtain⟨b,e,rfl⟩:=FJ i v (by simpa using hP)
  simp only[e,qp]at hQ
  exact wpAny_truthy_bool hQ
 ·have e:((aF its.toArray.size).any λi=>(bs[i]?).getD false)=bs.any id:=by
   rw[dj,<- hlen];exact Δ bs
  rw[e]
  exact⟨.bl _,H,I.kept (h':=h') (t':=tk) (Oc hk),rfl,q⟩
end
noncomputable def lj(X:Cx):List (Str × Addr)->Prop
 | []=>True
 | (y,c)::r=>X.env.cells.lookup y=some c/\lj X r
theorem lj.all{X:Cx}:∀{cl:List (Str × Addr)},lj X cl->∀y c,cl.lookup y=some c->X.env.cells.lookup y=some c
 | [],_,y,c,h=>by simp at h
 | (z,d)::r,h,y,c,e=>by
  rw[gq]at e
  cases q:y==z with
  | true =>
   rw[q]at e
   cases e
   rw[eq_of_beq q]
   exact h.1
  | false =>
   rw[q]at e
   exact lj.all h.2 y c e
noncomputable def ly(cl:List (Str × Addr)):List (Str × NameKind)->Prop
 | []=>True
 | (y,k)::r=>(k=.local\/k=.globalImplicit\/∃c,cl.lookup y=some c)/\ly cl r
theorem ly.all{cl:List (Str × Addr)}:∀{ns:List (Str × NameKind)},ly cl ns->∀y,(ns.lookup y=some .cell\/ns.lookup y=some .free)->∃c,cl.lookup y=some c
 | [],_,y,h=>by simp at h
 | (z,k)::r,h,y,e=>by
  rw[gq]at e
  cases q:y==z with
  | true =>
   rw[q]at e
   rw[eq_of_beq q]
   rcases h.1 with g | g | g
   ·rw[g]at e;rcases e with e | e<;>cases e
   ·rw[g]at e;rcases e with e | e<;>cases e
   ·exact g
  | false =>
   rw[q]at e
   exact ly.all h.2 y e
section
variable{X:Cx}{elt iter:Expr}{x:Str}{px pos:Pos}{ifs:List Expr}{scope:Scope}{cl:List (Str × Addr)}{wi:TI}{tt:TT}{te:TE}
end
end L2
namespace L2
open PySem PySem.Spec PyProof.Rows Mf
end L2
namespace L2
end L2
namespace L2
open PySem PySem.Spec PyProof.Rows
noncomputable def gu(aw:List (Str × Nat))(n:Nat)(σ:L2.St):St:=(aw.map λp=>(σ[p.2]?).getD none)++bg n none
noncomputable def Od(J:It)(aw:List (Str × Nat))(n:Nat)(g:TG)(tt:TT)(te:TE)(σ:L2.St)(H1:Hp)(Q:VK):Prop:=∀D,H1 D=none->∃W:Nat->Nat->List V->Hp->Prop,(∃m,W 0 m [] (upd H1 D (.lst []))) /\
 ∀i m acc H2,W i m acc H2->H2 D=some (.lst acc)/\((J.stop i H2/\Q (.ref D) H2)\/(J.go i H2/\∀x H3,J.kC i H2 x H3->H3 D=some (.lst acc)/\g x (gu aw n σ) H3 λh9 H4 =>
  (h9.length=(gu aw n σ).length/\∀j,j<aw.length->h9[j]?=(gu aw n σ)[j]?)/\tt h9 H4 λb H5=>H5 D=some (.lst acc) /\
  if b=true then te h9 H5 λy H6=>H6 D=some (.lst acc)/\acc.length<sizeLine/\∃m',m'<m/\W (i+1) m' (acc++[y]) (upd H6 D (.lst (acc++[y])))else ∃m',m'<m/\W (i+1) m' acc H5))
noncomputable def Bn(wi:TI)(aw:List (Str × Nat))(n:Nat)(g:TG)(tt:TT)(te:TE):TE:=λσ H Q=>wi σ H λJ H1=>Od J aw n g tt te σ H1 Q
section
variable{X:Cx}{elt iter tg:Expr}{pos:Pos}{ifs:List Expr}{scope:Scope}{cl:List (Str × Addr)}{wi:TI}{tt:TT}{te:TE}{g:TG}
end
end L2
namespace L2
open PySem PySem.Spec PyProof.Rows
section
variable{X:Cx}{tg:Expr}
end
end L2
namespace L2
open PySem PySem.Spec PyProof.Rows
noncomputable def Ξ(h:Heap)(a T:Addr)(cls fl:Value):Prop :=
 ∃oe vs oT ts,h.get? a=some oe/\oe.cls=cls/\oe.dict=none/\oe.data=.fields vs/\vs[1]?=some (.ref T)/\T≠a/\h.get? T=some oT/\oT.data=.fields ts/\ts[3]?=some fl
noncomputable abbrev Φ(h:Heap)(a T:Addr)(cls:Value):Prop:=Ξ h a T cls .none
section
variable{M:Model}{A:Around}{E:Value->Shared->Prop}{s:Shared}{base:Heap}{env:Env}{outer:List Env}{L a T:Addr}{cls:Value}{oe:Obj}{vs:Array Value}{Q:Unit->Shared->Prop}
end
end L2
namespace L2
open PySem PySem.Spec PyProof.Rows
structure Apart(X:Cx)(pins:List (Addr × Obj))(H:Hp)(b:Addr):Prop where
 old:X.eA.heap.get? b=none
 free:H b=none
 loc:b≠X.env.locals
 cell:∀x c,X.env.cells.lookup x=some c->c≠b
 pin:∀p∈X.pn++pins,p.1≠b
 fr:b ∉ jA X.stack
section
variable{X:Cx}{pins:List (Addr × Obj)}{σ:St}{H H':Hp}{s:Shared}{a T b:Addr}{cls:Value}{M:Model}{Q:Unit->Shared->Prop}{E:Value->Shared->Prop}{h':Heap}
end
section
variable{X:Cx}{pins:List (Addr × Obj)}{σ:St}{H H':Hp}{s:Shared}{a T b:Addr}{cls:Value}{M:Model}{Q:Unit->Shared->Prop}{E:Value->Shared->Prop}{h':Heap}
end
end L2
namespace L2
open PySem PySem.W PySem.Spec PySem.Calls PyProof.Rows
section
variable{prog:Program}{w:World}{A:Around}{E:Value->Shared->Prop}{s:Shared}{K:Frag}{x D:Addr}{ox:Obj}{Ψ:Option Obj}
end
end L2
namespace L2
open PySem PySem.W PySem.Spec PySem.Calls PyProof.Rows
section
variable{prog:Program}{w:World}{A:Around}{E:Value->Shared->Prop}{s:Shared}{K:Frag}{x D:Addr}{ox:Obj}{Ψ:Option Obj}
end
end L2
namespace L2
open PySem PySem.Spec PyProof.Rows
section
variable{X:Cx}{pins:List (Addr × Obj)}{σ:St}{H:Hp}{s:Shared}{h':Heap}{its:List Addr}{T:Addr}{o:HO}{t':Nat}
theorem Inv.Bo(I:Inv X pins σ H s)(k:∀b o,b ∉ its->s.heap.get? b=some o->h'.get? b=some o)(hf:∀b∈its,jD X pins H b):Inv X pins σ H { s with heap:=h',toks:=t' }:=by
 have qA:∀b u,H b=some u->b ∉ its:=λb u e z=>by have:=(hf b z).1;rw[this]at e;cases e
 refine I.step (g':=s.gens) (d':=s.drawn) (ch:=its) (λb hb=>?_) (λb o _ _ hc e _=>k b o hc e) (λb o _ _ hc e _=>⟨o.slots,k b o hc e⟩) (λ_ _ _ _ n=>n)
  (λb o hc e=>⟨o,k b o hc e⟩) (λ_ _ e=>e) (λ_ _ _ e=>e) (λb ps e=>⟨#[],by rw[e];simp⟩) (λm hm=>?_) (λb u e=>?_) I.bare
 ·obtain⟨_,h1,_,h2,h3,h4⟩:=hf b hb
  exact⟨h2,h1,h3,h4⟩
 ·obtain⟨o,es,ep,ho,r⟩:=hm
  exact⟨o,es,ep,k _ o (λz=>(hf _ z).2.1 rfl) ho,r⟩
 ·refine(I.aS b u e).mq (λc v hc q=>k c v ?_ q) (λ_ q=>q) (λ_ _ q=>q) λ_ _ q=>q
  rcases hc with z | z
  ·rw[z];exact qA b u e
  ·exact qA c _ z
theorem Inv.Oe(I:Inv X pins σ H s)(k:∀b o,b ∉ its->s.heap.get? b=some o->h'.get? b=some o)(hf:∀b∈its,jD X pins H b)(hT:s.heap.objs.size<=T)(new:eJ X.prog X.w (upd H T o) h' T o) :
  Inv X pins σ (upd H T o) { s with heap:=h',toks:=t' }:=by
 have qA:∀b u,H b=some u->b ∉ its:=λb u e z=>by have:=(hf b z).1;rw[this]at e;cases e
 have fT:H T=none:=I.aS.fresh hT
 have neT:∀b u,H b=some u->b≠T:=λb u e z=>by rw[z,fT]at e;cases e
 have Ω:∀b u,s.heap.get? b=some u->b≠T:=λb u e z=>absurd (dz (b9 e) hT) (by rw[z];exact gU _)
 refine I.step (g':=s.gens) (d':=s.drawn) (ch:=its) (λb hb=>?_) (λb o _ _ hc e _=>k b o hc e) (λb o _ _ hc e _=>⟨o.slots,k b o hc e⟩) (λb u _ e n=>by rw[aV (Ω b u e)];exact n)
  (λb o hc e=>⟨o,k b o hc e⟩) (λb _ e=>by rw[aV (neT b _ e)];exact e) (λb _ _ e=>by rw[aV (neT b _ e)];exact e) (λb ps e=>⟨#[],by rw[aV (neT b _ e),e];simp⟩) (λm hm=>?_) (λb u e=>?_) I.bare
 ·obtain⟨_,h1,_,h2,h3,h4⟩:=hf b hb
  exact⟨h2,h1,h3,h4⟩
 ·obtain⟨o,es,ep,ho,r⟩:=hm
  exact⟨o,es,ep,k _ o (λz=>(hf _ z).2.1 rfl) ho,r⟩
 ·by_cases hb:b=T
  ·subst hb;rw[bA]at e;cases e;exact new
  ·rw[aV hb]at e
   refine(I.aS b u e).mq (λc v hc q=>k c v ?_ q) (λc q=>by rw[aV (neT c _ q)];exact q) (λc _ q=>by rw[aV (neT c _ q)];exact q) λc _ q=>by rw[aV (neT c _ q)];exact q
   rcases hc with z | z
   ·rw[z];exact qA b u e
   ·exact qA c _ z
noncomputable def FK(K:PySem.W.Frag)(a b:Addr):It :=
 ⟨λi H=>∃xs ys x y,bF K H a xs/\bF K H b ys/\xs[i]?=some x/\ys[i]?=some y,
  λi H v H'=>∃T x y,v=.ref T/\H T=none/\H'=upd H T (.tup [x,y])/\(∀xs,bF K H a xs->xs[i]?=some x)/\∀ys,bF K H b ys->ys[i]?=some y,
  λi H=>∃xs ys,bF K H a xs/\bF K H b ys/\(xs.length<=i\/ys.length<=i)⟩
theorem qI{K:PySem.W.Frag}{a c:Addr}{xs:List V}(hk:X.K=K)(I:Inv X pins σ H s)(h:bF K H a xs)(hf:jD X pins H c)(ho:∃o,s.heap.get? c=some o/\o.cls≠.type "list"):a≠c:=by
 subst hk
 obtain⟨its,rv,p,hz⟩:=I.list h
 obtain⟨o,e,d⟩:=ho
 obtain⟨o',e',c',_⟩:=p.isList
 intro z
 subst z
 rw[e]at e';cases e'
 exact d c'
theorem b51{P:Program}{w:World}{K:PySem.W.Frag}{elts:List Expr}{k:Nat}{pos:Pos}(a b z TI TO i1 i2:Addr)(D5:[z,TI,TO,i1,i2].Nodup) :
  Turn P w K (.Tuple elts k pos) (FK K a b) [z,TI,TO,i1,i2] z (λi h=>IsZip h z TI TO .none/\IsPair h TI (.ref i1) (.ref i2)/\(∃u v,IsPair h TO u v)/\h.IsListIter i1 a i/\h.IsListIter i2 b i):=by
 have ap:∀(X:Cx) (pins:List (Addr × Obj)) (s:Shared) (σ:St) (H:Hp) (i:Nat) (xs ys:List V),X.K=K->Inv X pins σ H s->(∀b∈[z,TI,TO,i1,i2],jD X pins H b)->IsZip s.heap z TI TO .none->(∃u v,IsPair s.heap TO u v)->s.heap.IsListIter i1 a i->s.heap.IsListIter i2 b i ->
   bF K H a xs->bF K H b ys->ZipApart z TI TO i1 i2 a b:=by
  intro X pins s σ H i xs ys hK I hf hz jJ h1 h2 hx hy
  simp only[iD,cj,not_or,hJ,not_false_eq_true,and_true]at D5
  obtain⟨⟨d1,d2,d3,d4⟩,⟨d5,d6,d7⟩,⟨d8,d9⟩,d10,_⟩:=D5
  have oz:∃o,s.heap.get? z=some o/\o.cls≠.type "list":=⟨_,hz,by intro q;exact absurd (Eg q) (by decide)⟩
  have Of:∃o,s.heap.get? TO=some o/\o.cls≠.type "list":=by obtain⟨u,v,e⟩:=jJ;exact⟨_,e,by intro q;exact absurd (Eg q) (by decide)⟩
  have o1:∃o,s.heap.get? i1=some o/\o.cls≠.type "list":=by obtain⟨o,e,c,d⟩:=h1;exact⟨_,e,by rw[c];intro q;exact absurd (Eg q) (by decide)⟩
  have o2:∃o,s.heap.get? i2=some o/\o.cls≠.type "list":=by obtain⟨o,e,c,d⟩:=h2;exact⟨_,e,by rw[c];intro q;exact absurd (Eg q) (by decide)⟩
  exact⟨gW d1,gW d2,gW d3,gW d4,d5,d6,d7,d8,d9,d10,
   qI hK I hx (hf z (by simp)) oz,qI hK I hx (hf TO (by simp)) Of,qI hK I hx (hf i1 (by simp)) o1,qI hK I hx (hf i2 (by simp)) o2,
   qI hK I hy (hf z (by simp)) oz,qI hK I hy (hf TO (by simp)) Of,qI hK I hy (hf i1 (by simp)) o1,qI hK I hy (hf i2 (by simp)) o2⟩
 refine⟨by simp,λi h st c hc=>?_,λi h h' st kk=>?_,?_,?_,λ_ _ _ _ _ st h=>wpAny_pyIter_zip st.1 h⟩
 ·obtain⟨hz,lC,⟨u,v,jJ⟩,⟨o1,e1,c1,d1⟩,⟨o2,e2,c2,d2⟩⟩:=st
  simp only[cj,hJ,or_false]at hc
  rcases hc with rfl | rfl | rfl | rfl | rfl
  ·exact⟨_,hz,λv q=>by cases q⟩
  ·exact⟨_,lC,λv q=>by cases q⟩
  ·exact⟨_,jJ,λv q=>by cases q⟩
  ·exact⟨_,e1,λv q=>by rw[d1]at q;cases q⟩
  ·exact⟨_,e2,λv q=>by rw[d2]at q;cases q⟩
 ·obtain⟨hz,lC,⟨u,v,jJ⟩,h1,h2⟩:=st
  exact⟨kk _ (by simp) _ hz,kk _ (by simp) _ lC,⟨u,v,kk _ (by simp) _ jJ⟩,h1.at λo e=>kk _ (by simp) o e,h2.at λo e=>kk _ (by simp) o e⟩
 ·intro X hP hw hK hc i pins s σ H E I hf st hg
  obtain⟨xs,ys,x,y,hx,hy,ex,ey⟩:=hg
  obtain⟨hz,lC,⟨u,v,jJ⟩,h1,h2⟩:=st
  have D:=ap X pins s σ H i xs ys hK I hf hz ⟨u,v,jJ⟩ h1 h2 hx hy
  subst hP hw hK
  obtain⟨as,ra,pa,_⟩:=I.list hx
  obtain⟨bs,rb,pb,_⟩:=I.list hy
  obtain⟨ux,FL,rx⟩:=ra.get ex
  obtain⟨uy,euy,ry⟩:=rb.get ey
  refine wpAny_pyNext_zip_item D hz lC jJ h1 h2 pa.isList pb.isList (x:=ux) (y:=uy) (by simpa using FL) (by simpa using euy) λh' z' TO' kD j6 T' sz kk=>?_
  have fT:H s.heap.objs.size=none:=I.aS.fresh (bL _)
  have I1:Inv X pins σ (upd H s.heap.objs.size (.tup [x,y])) { s with heap:=h',toks:=s.toks }:=I.Oe (its:=[z,TO,i1,i2]) (λc o hc e=>kk c o (λq=>hc (by simp[q])) (λq=>hc (by simp[q])) (λq=>hc (by simp[q])) (λq=>hc (by simp[q])) e)
   (λc hc=>hf c (by simp only[cj,hJ,or_false]at hc ⊢;rcases hc with rfl | rfl | rfl | rfl<;>simp)) (bL _) ⟨by show 2<=sizeLine;decide,[ux,uy],.cons rx (.cons ry .nil),⟨_,T',rfl,_,rfl⟩⟩
  have nT:∀c∈[z,TI,TO,i1,i2],c≠s.heap.objs.size:=λc hc q=>by
   have:∃o,s.heap.get? c=some o:=by
    simp only[cj,hJ,or_false]at hc
    rcases hc with rfl | rfl | rfl | rfl | rfl
    ·exact⟨_,hz⟩
    ·exact⟨_,lC⟩
    ·exact⟨_,jJ⟩
    ·obtain⟨o,e,_⟩:=h1;exact⟨o,e⟩
    ·obtain⟨o,e,_⟩:=h2;exact⟨o,e⟩
   obtain⟨o,e⟩:=this
   exact absurd (b9 e) (by rw[q];exact gU _)
  refine⟨_,rfl,wpAny_letOwnedTupleGo_zip z' λFN FP sb=>?_⟩
  have FQ:∀c∈[z],jD X pins (upd H s.heap.objs.size (.tup [x,y])) c:=λc hc=>by
   have e:c=z:=by simpa using hc
   subst e
   obtain⟨f0,fr⟩:=hf c (by simp)
   exact⟨by rw[aV (nT c (by simp))];exact f0,fr⟩
  have I2:=Inv.Bo (h':=FN) (its:=[z]) (t':=s.toks) I1 (λc o hc e=>sb.extBut _ _ (λq=>hc (by simp[q])) e) FQ
  refine⟨.ref s.heap.objs.size,_,I2,rfl,⟨_,x,y,rfl,fT,rfl,λwu cU=>by rw[I.Bb cU hx];exact ex,λOg Fx=>by rw[I.Bb Fx hy];exact ey⟩,⟨FP,sb.extBut _ _ D.TIz (kk _ _ D.TIz D.TITO D.TIi1 D.TIi2 lC),⟨ux,uy,sb.extBut _ _ D.TOz TO'⟩,kD.extBut sb.extBut D.i1z,j6.extBut sb.extBut D.i2z⟩,λc hc=>?_⟩
  rw[aV (nT c hc)]
  exact(hf c hc).1
 ·intro X hP hw hK hc i pins s σ H E I hf st hg
  obtain⟨xs,ys,hx,hy,hl⟩:=hg
  obtain⟨hz,lC,⟨u,v,jJ⟩,h1,h2⟩:=st
  have D:=ap X pins s σ H i xs ys hK I hf hz ⟨u,v,jJ⟩ h1 h2 hx hy
  subst hP hw hK
  obtain⟨as,ra,pa,_⟩:=I.list hx
  obtain⟨bs,rb,pb,_⟩:=I.list hy
  have la:=ra.length
  have lb:=rb.length
  refine wpAny_pyNext_zip_end (I.ok.hd hc) D hz lC jJ h1 h2 pa.isList pb.isList (hl.imp (λq=>by simp;omega) λq=>by simp;omega) λh' kk=>⟨rfl,?_⟩
  exact I.Bo (its:=[z,TO,i1,i2]) (t':=s.toks) (λc o hc e=>kk c o (λq=>hc (by simp[q])) (λq=>hc (by simp[q])) (λq=>hc (by simp[q])) (λq=>hc (by simp[q])) e)
   (λc hc=>hf c (by simp only[cj,hJ,or_false]at hc ⊢;rcases hc with rfl | rfl | rfl | rfl<;>simp))
noncomputable def FR(K:PySem.W.Frag)(a:Addr):It :=
 ⟨λi H=>∃xs x,bF K H a xs/\xs[i]?=some x,
  λi H v H'=>∃T x,v=.ref T/\H T=none/\H'=upd H T (.tup [.int i,x])/\∀xs,bF K H a xs->xs[i]?=some x,
  λi H=>∃xs,bF K H a xs/\xs.length<=i⟩
theorem bR7{P:Program}{w:World}{K:PySem.W.Frag}{elts:List Expr}{k:Nat}{pos:Pos}(a z it:Addr)(mH:z≠it) :
  Turn P w K (.Tuple elts k pos) (FR K a) [z,it] z (λi h=>(∃old,IsEnum h z it i old)/\h.IsListIter it a i):=by
 refine⟨by simp,λi h st c hc=>?_,λi h h' st kk=>?_,?_,?_,λ_ _ _ _ _ st h=>by obtain⟨⟨old,e⟩,_⟩:=st;exact wpAny_pyIter_enum e h⟩
 ·obtain⟨⟨old,hz⟩,⟨o1,e1,c1,d1⟩⟩:=st
  simp only[cj,hJ,or_false]at hc
  rcases hc with rfl | rfl
  ·exact⟨_,hz,λv q=>by cases q⟩
  ·exact⟨_,e1,λv q=>by rw[d1]at q;cases q⟩
 ·obtain⟨⟨old,hz⟩,h1⟩:=st
  exact⟨⟨old,kk _ (by simp) _ hz⟩,h1.at λo e=>kk _ (by simp) o e⟩
 ·intro X hP hw hK hc i pins s σ H E I hf st hg
  subst hP hw hK
  obtain⟨xs,x,hx,ex⟩:=hg
  obtain⟨⟨old,hz⟩,h1⟩:=st
  obtain⟨as,ra,pa,_⟩:=I.list hx
  obtain⟨ux,FL,rx⟩:=ra.get ex
  refine wpAny_pyNext_enum_item hz h1 pa.isList (x:=ux) (by simpa using FL) mH λh' z' kD T' sz kk=>?_
  have fT:H s.heap.objs.size=none:=I.aS.fresh (bL _)
  have I1:Inv X pins σ (upd H s.heap.objs.size (.tup [.int i,x])) { s with heap:=h',toks:=s.toks+1 }:=I.Oe (its:=[z,it]) (λc o hc e=>kk c o (λq=>hc (by simp[q])) (λq=>hc (by simp[q])) e)
   (λc hc=>hf c hc) (bL _) ⟨by show 2<=sizeLine;decide,[.int i s.toks,ux],.cons ⟨_,rfl⟩ (.cons rx .nil),⟨_,T',rfl,_,rfl⟩⟩
  have nT:∀c∈[z,it],c≠s.heap.objs.size:=λc hc q=>by
   have:∃o,s.heap.get? c=some o:=by
    simp only[cj,hJ,or_false]at hc
    rcases hc with rfl | rfl
    ·exact⟨_,hz⟩
    ·obtain⟨o,e,_⟩:=h1;exact⟨o,e⟩
   obtain⟨o,e⟩:=this
   exact absurd (b9 e) (by rw[q];exact gU _)
  refine⟨_,rfl,wpAny_letOwnedTupleGo_enum z' λFN FP sb=>?_⟩
  have FQ:∀c∈[z],jD X pins (upd H s.heap.objs.size (.tup [.int i,x])) c:=λc hc=>by
   have e:c=z:=by simpa using hc
   subst e
   obtain⟨f0,fr⟩:=hf c (by simp)
   exact⟨by rw[aV (nT c (by simp))];exact f0,fr⟩
  have I2:=Inv.Bo (h':=FN) (its:=[z]) (t':=s.toks+1) I1 (λc o hc e=>sb.extBut _ _ (λq=>hc (by simp[q])) e) FQ
  refine⟨.ref s.heap.objs.size,_,I2,rfl,⟨_,x,rfl,fT,rfl,λwu cU=>by rw[I.Bb cU hx];exact ex⟩,⟨⟨ux,by simpa using FP⟩,kD.extBut sb.extBut (gW mH)⟩,λc hc=>?_⟩
  rw[aV (nT c hc)]
  exact(hf c hc).1
 ·intro X hP hw hK hc i pins s σ H E I hf st hg
  subst hP hw hK
  obtain⟨xs,hx,hl⟩:=hg
  obtain⟨⟨old,hz⟩,h1⟩:=st
  obtain⟨as,ra,pa,_⟩:=I.list hx
  have la:=ra.length
  refine wpAny_pyNext_enum_end (I.ok.hd hc) hz h1 pa.isList (by simp;omega) λh' kk=>⟨rfl,?_⟩
  exact I.Bo (its:=[it]) (t':=s.toks) (λc o hc e=>kk c o (λq=>hc (by simp[q])) e) (λc hc=>hf c (by simp at hc ⊢;simp[hc]))
end
section
variable{X:Cx}{a b:Expr}{ta:TA}{p pos mE:Pos}{elts:List Expr}{x1:Nat}
noncomputable def cJ4(K:PySem.W.Frag)(ta:TA):TI:=λσ H R=>ta σ H λvs H1=>∃a b,vs=[.ref a,.ref b]/\(∃xs,bF K H1 a xs)/\(∃ys,bF K H1 b ys)/\R (FK K a b) H1
theorem b77:bootBuiltins "zip"=some (.type "zip"):=by decide +kernel
theorem cz0(hg:Gl X "zip")(hm:X.mg "zip"=none)(ha:PA X [a,b] ta)(hs:starEach [a,b] X.env=[(false,eval a X.env),(false,eval b X.env)]:=by rfl)(eM:starEach [b] X.env=[(false,eval b X.env)]:=by rfl) :
  PI X (.Tuple elts x1 mE) (.Call (.Name "zip" p) [a,b] [] pos) (cJ4 X.K ta):=by
 intro pins s σ H R I h
 refine Call_ (nR I hg hm b77 (vM (aT (ha pos pins s σ H _ I h) λus s1 zq=>?_) (by rw[hs,eM]) (by rw[eM];rfl)))
 obtain⟨vs,H1,I1,r1,q1⟩:=zq
 obtain⟨a,b,e,⟨xs,hx⟩,⟨ys,hy⟩,q⟩:=q1
 subst e
 cases r1 with
 | cons r rr =>
  cases rr with
  | cons r2 rr =>
   cases rr
   cases r
   cases r2
   obtain⟨as,ra,pa,_⟩:=I1.list hx
   obtain⟨bs,rb,pb,_⟩:=I1.list hy
   refine call_zip_2 pa.isList pb.isList λh' hz lC jJ h1 h2 sz kk=>wpAny_pyIter_zip hz ?_
   refine⟨_,[s1.heap.objs.size+4,s1.heap.objs.size+2,s1.heap.objs.size+3,s1.heap.objs.size,s1.heap.objs.size+1],_,_,H1,rfl,I1.kept (t':=s1.toks) kk,b51 a b _ _ _ _ _ (by simp),⟨hz,lC,⟨_,_,jJ⟩,h1,h2⟩,λc hc=>?_,q⟩
   have hle:s1.heap.objs.size<=c:=by
    simp only[cj,hJ,or_false]at hc
    rcases hc with rfl | rfl | rfl | rfl | rfl<;>omega
   exact I1.Bd hle (I1.aS.fresh hle)
noncomputable def cE4(K:PySem.W.Frag)(ta:TA):TI:=λσ H R=>ta σ H λvs H1=>∃a,vs=[.ref a]/\(∃xs,bF K H1 a xs)/\R (FR K a) H1
theorem br7:bootBuiltins "enumerate"=some (.type "enumerate"):=by decide +kernel
theorem cp6(hg:Gl X "enumerate")(hm:X.mg "enumerate"=none)(ha:PA X [a] ta)(hs:starEach [a] X.env=[(false,eval a X.env)]:=by rfl) :
  PI X (.Tuple elts x1 mE) (.Call (.Name "enumerate" p) [a] [] pos) (cE4 X.K ta):=by
 intro pins s σ H R I h
 refine Call_ (nR I hg hm br7 (vM (aT (ha pos pins s σ H _ I h) λus s1 zq=>?_) hs rfl))
 obtain⟨vs,H1,I1,r1,q1⟩:=zq
 obtain⟨a,e,⟨xs,hx⟩,q⟩:=q1
 subst e
 cases r1 with
 | cons r rr =>
  cases rr
  cases r
  obtain⟨as,ra,pa,_⟩:=I1.list hx
  refine call_enumerate_list pa.isList λh' hz h1 sz kk=>wpAny_pyIter_enum hz ?_
  refine⟨_,[s1.heap.objs.size+1,s1.heap.objs.size],_,_,H1,rfl,I1.kept (t':=s1.toks) kk,bR7 a (s1.heap.objs.size+1) s1.heap.objs.size (Nat.succ_ne_self _),⟨⟨_,hz⟩,h1⟩,λc hc=>?_,q⟩
  have hle:s1.heap.objs.size<=c:=by
   simp only[cj,hJ,or_false]at hc
   rcases hc with rfl | rfl<;>omega
  exact I1.Bd hle (I1.aS.fresh hle)
end
end L2
namespace L2
open PySem PySem.Spec PyProof.Rows PySem.W PySem.Calls
section
variable{X:Cx}
noncomputable def wz{α:Type}(xs:List α)(lo hi:Option Int):List α:=(xs.drop (HT.cN xs.length 0 lo)).take (HT.cN xs.length xs.length hi-HT.cN xs.length 0 lo)
theorem bZ7(x:Str)(lo hi:Option Int):Txt.slice x lo hi=⟨(wz x.cps.toList lo hi).toArray⟩:=by
 have hx:x.length=x.cps.size:=rfl
 have e:(Eh lo hi 1 x.length).filterMap (x.cps[·]?)=wz x.cps.toList lo hi:=by
  obtain⟨h1,h2,h3⟩:=Fl lo hi x.length
  have e0:Eh lo hi 1 x.length=sliceRange (sliceBounds lo hi none x.length).1 (sliceBounds lo hi none x.length).2.1 1:=by
   cases lo<;>cases hi<;>rfl
  rw[e0,h1,h2]
  simp only[sliceRange_one,pick_run]
  unfold wz
  rw[hx,vL]
 unfold Txt.slice
 split
 ·rename_i h
  have hl:(Eh lo hi 1 x.length).length=x.length:=by
   rw[eZ]at h;exact eq_of_beq h.2
  have hs:(wz x.cps.toList lo hi)=x.cps.toList:=by
   have e2:HT.cN x.cps.toList.length x.cps.toList.length hi-HT.cN x.cps.toList.length 0 lo=x.length:=by
    obtain⟨h1,h2,h3⟩:=Fl lo hi x.length
    have e0:Eh lo hi 1 x.length=sliceRange (sliceBounds lo hi none x.length).1 (sliceBounds lo hi none x.length).2.1 1:=by
     cases lo<;>cases hi<;>rfl
    rw[e0,h1,h2]at hl
    simp only[sliceRange_one,bt,bS]at hl
    rw[vL,<- hx]
    omega
   unfold wz
   have le:HT.cN x.cps.toList.length x.cps.toList.length hi<=x.cps.toList.length:=by
    cases hi with
    | none=>simp[HT.cN]
    | some i=>simp only[HT.cN];split<;>omega
   have le2:HT.cN x.cps.toList.length 0 lo<=x.cps.toList.length:=by
    cases lo with
    | none=>simp[HT.cN]
    | some i=>simp only[HT.cN];split<;>omega
   rw[vL,<- hx]at e2 le le2 ⊢
   have z:HT.cN x.length 0 lo=0:=by omega
   have z2:HT.cN x.length x.length hi=x.length:=by omega
   rw[z,z2,List.drop_zero,Nat.sub_zero,hx,<- vL,qq]
  rw[hs]
 ·rw[e]
theorem cA4:t7 X (λx lo hi H Q=>∃z,x=.str z/\z.length<=sizeLine/\Q (.str ⟨(wz z.cps.toList lo hi).toArray⟩) H):=by
 intro pins s σ H x v vl vu lo hi sl Q I rx hs pl pu h
 obtain⟨z,rfl,hz,q⟩:=h
 obtain⟨t,rfl⟩:=rx
 refine⟨"str",_,F.slot_str_getitem.lookup,typeIs_str _ _ _,?_⟩
 have fin:∀(l u:Option (Int × Tok)),l.map (·.1)=lo->u.map (·.1)=hi->partValue l=vl->partValue u=vu->wpAny (model X.prog X.w) X.A (getItem (.str z t) (.ref sl)) (EP X pins σ Q) X.xe s:=by
  intro l u h1 h2 h3 h4
  obtain⟨o,e1,e2,e3⟩:=hs
  refine wpAny_getItem_str_slice (l:=l) (u:=u) (st:=none) ⟨o,e1,e2,by rw[e3,h3,h4];rfl⟩ rfl ?_
  have e:Txt.slice z lo hi=(if(((none:Option (Int × Tok)).map (·.1)).getD 1==1&&(slicePicked z l u none).length==z.length)=true then z else⟨((slicePicked z l u none).filterMap (z.cps[·]?)).toArray⟩):=by
   unfold Txt.slice slicePicked;rw[h1,h2];rfl
  refine post_val_or_str ⟨?_,λt' k=>?_⟩
  ·rw[<-e];exact fE (Txt.slice_le z _ _) hz
  ·rw[<-e,bZ7];exact⟨.str _,H,I.tok _,⟨_,rfl⟩,q⟩
 cases pl with
 | none =>
  cases pu with
  | none=>exact fin none none rfl rfl rfl rfl
  | int j tj=>exact fin none (some (j,tj)) rfl rfl rfl rfl
 | int i ti =>
  cases pu with
  | none=>exact fin (some (i,ti)) none rfl rfl rfl rfl
  | int j tj=>exact fin (some (i,ti)) (some (j,tj)) rfl rfl rfl rfl
end
end L2
namespace L3
open PySem L2
noncomputable def iH:HO->Bool
 | .dN _=>false
 | _=>true
structure ag(H H':Hp):Prop where
 get:∀b o,H b=some o->(h:iH o=true:=by rfl)->H' b=some o
 tb:∀b ps,H b=some (.dN ps)->∃more,H' b=some (.dN (ps++more))
noncomputable instance {H H':Hp}:CoeFun (ag H H') λ_=>∀b o,H b=some o->(h:iH o=true:=by rfl)->H' b=some o:=⟨λs=>@ag.get _ _ s⟩
theorem yA{o:HO}(h:iH o=false):∃ps,o=.dN ps:=by
 cases o with
 | dN ps=>exact⟨ps,rfl⟩
 | _=>cases h
theorem ag.of{H H':Hp}(h:∀b o,H b=some o->H' b=some o):ag H H':=⟨λb o e _=>h b o e,λb ps e=>⟨#[],by rw[h b _ e];simp⟩⟩
theorem ag.refl(H:Hp):ag H H:=.of λ_ _ h=>h
theorem ag.trans{H H1 H2:Hp}(a:ag H H1)(b:ag H1 H2):ag H H2 :=
 ⟨λc o h n=>b.get c o (a.get c o h n) n,λc ps h=>by
  obtain⟨m1,e1⟩:=a.tb c ps h
  obtain⟨m2,e2⟩:=b.tb c _ e1
  exact⟨m1++m2,by rw[e2,vK]⟩⟩
theorem ag.any{H H':Hp}(e:ag H H'){l:Addr}{o:HO}(h:H l=some o):∃o',H' l=some o':=by
 cases n:iH o with
 | true=>exact⟨o,e.get l o h n⟩
 | false =>
  obtain⟨ps,rfl⟩:=yA n
  obtain⟨m,q⟩:=e.tb l ps h
  exact⟨_,q⟩
theorem ag.free{H H':Hp}(e:ag H H'){l:Addr}(h:H' l=Option.none):H l=Option.none:=by
 cases q:H l with
 | none=>rfl
 | some o =>
  obtain⟨o',z⟩:=e.any q
  rw[z]at h
  cases h
inductive wA where
 | ext (φ:Addr->Heap->Prop)
 | lam (of oc:Obj) (c k:Addr)
noncomputable instance:Coe (Addr->Heap->Prop) wA:=⟨.ext⟩
noncomputable def FT(H:Hp)(k:Addr):Prop:=∃ψ,H k=some (.ext ψ)/\∀h,ψ h->∃q,h.CodeRec (.ref k) q
noncomputable def j7(of oc:Obj)(c p:Addr):Heap->Prop:=λh=>h.get? p=some of/\h.get? c=some oc
structure kE(H:Hp)(p:Addr)(of oc:Obj)(c k:Addr):Prop where
 fn:H p=some (.ext (j7 of oc c p))
 cell:H c=some (.own p)
 FU:FT H k
noncomputable def ug(H:Hp)(p:Addr):wA->Prop
 | .ext φ=>H p=some (.ext (φ p))
 | .lam of oc c k=>kE H p of oc c k
theorem ug.mono{H H':Hp}{p:Addr}:∀{z:wA},ug H p z->(∀a o,H a=some o->(∀ws,o≠.lst ws)->iH o=true->H' a=some o)->ug H' p z
 | .ext φ,x,k=>k _ _ x (λws q=>by cases q) rfl
 | .lam of oc c k',x,k=>⟨k _ _ x.fn (λws q=>by cases q) rfl,k _ _ x.cell (λws q=>by cases q) rfl,let⟨ψ,e,h⟩:=x.FU;⟨ψ,k _ _ e (λws q=>by cases q) rfl,h⟩⟩
inductive D where
 | av | bl (b:Bool) | int (i:Int) | str (x:Str)
 | lst (o:Bool) (xs:List D)
 | tup (xs:List D)
 | obj (C:Addr) (ns:List Str) (xs:List D)
 | fz (xs:List D)
 | bJ (z:wA)
 deriving Inhabited
noncomputable def D.pl:D->Bool
 | .lst o xs=>!o&&yB xs
 | .tup xs=>yB xs
 | _=>true
where yB:List D->Bool
 | []=>true
 | d::ds=>d.pl&&yB ds
noncomputable def D.fr:D->Bool
 | .lst o xs=>o&&yC xs
 | .tup xs=>yC xs
 | .obj _ _ _=>false
 | .fz _=>false
 | _=>true
where yC:List D->Bool
 | []=>true
 | d::ds=>d.fr&&yC ds
noncomputable def D.sh:D->D
 | .lst _ xs=>.lst false (yD xs)
 | .tup xs=>.tup (yD xs)
 | d=>d
where yD:List D->List D
 | []=>[]
 | d::ds=>d.sh::yD ds
theorem Oh(ds:List D):D.pl.yB ds=ds.all D.pl:=by induction ds with | nil=>rfl | cons d ds ih=>simp[D.pl.yB,ih]
theorem Oi(ds:List D):D.fr.yC ds=ds.all D.fr:=by induction ds with | nil=>rfl | cons d ds ih=>simp[D.fr.yC,ih]
theorem Oj(ds:List D):D.sh.yD ds=ds.map D.sh:=by induction ds with | nil=>rfl | cons d ds ih=>simp[D.sh.yD,ih]
theorem fW(o:Bool)(xs:List D):(D.lst o xs).pl=(!o&&xs.all D.pl):=by simp[D.pl,Oh]
theorem jK(xs:List D):(D.tup xs).pl=xs.all D.pl:=by simp[D.pl,Oh]
theorem fg(o:Bool)(xs:List D):(D.lst o xs).fr=(o&&xs.all D.fr):=by simp[D.fr,Oi]
theorem n6(xs:List D):(D.tup xs).fr=xs.all D.fr:=by simp[D.fr,Oi]
theorem cV(o:Bool)(xs:List D):(D.lst o xs).sh=.lst false (xs.map D.sh):=by simp[D.sh,Oj]
theorem jL(xs:List D):(D.tup xs).sh=.tup (xs.map D.sh):=by simp[D.sh,Oj]
inductive R(F H:Hp):List D->List V->List Addr->Prop
 | nil:R F H [] [] []
 | av {ds vs B}:R F H ds vs B->R F H (.av::ds) (.av::vs) B
 | bl {b ds vs B}:R F H ds vs B->R F H (.bl b::ds) (.bl b::vs) B
 | int {i ds vs B}:R F H ds vs B->R F H (.int i::ds) (.int i::vs) B
 | str {x ds vs B}:R F H ds vs B->R F H (.str x::ds) (.str x::vs) B
 | shr {p ws xs ds vs B}:F p=some (.lst ws)->R F H xs ws []->R F H ds vs B->R F H (.lst false xs::ds) (.ref p::vs) B
 | own {p ws xs A ds vs B}:H p=some (.lst ws)->F p=none->R F H xs ws A->R F H ds vs B->R F H (.lst true xs::ds) (.ref p::vs) (p::(A++B))
 | tup {p ws xs A ds vs B}:H p=some (.tup ws)->R F H xs ws A->R F H ds vs B->R F H (.tup xs::ds) (.ref p::vs) (A++B)
 | obj {p C dx ns ws xs ds vs B}:H p=some (.ins C dx (ns.zip ws))->ns.length=ws.length->R F H xs ws []->R F H ds vs B->R F H (.obj C ns xs::ds) (.ref p::vs) B
 | fz {p o ws xs ds vs B}:F p=some (.bu o (.lst ws))->R F H xs ws []->R F H ds vs B->R F H (.fz xs::ds) (.ref p::vs) B
 | bJ {p z ds vs B}:ug H p z->R F H ds vs B->R F H (.bJ z::ds) (.ref p::vs) B
inductive S(F H:Hp):List D->List V->Prop
 | nil:S F H [] []
 | av {ds vs}:S F H ds vs->S F H (.av::ds) (.av::vs)
 | bl {b ds vs}:S F H ds vs->S F H (.bl b::ds) (.bl b::vs)
 | int {i ds vs}:S F H ds vs->S F H (.int i::ds) (.int i::vs)
 | str {x ds vs}:S F H ds vs->S F H (.str x::ds) (.str x::vs)
 | shr {p ws xs ds vs}:F p=some (.lst ws)->R F H xs ws []->S F H ds vs->S F H (.lst false xs::ds) (.ref p::vs)
 | own {p ws xs ds vs}:H p=some (.lst ws)->S F H xs ws->S F H ds vs->S F H (.lst true xs::ds) (.ref p::vs)
 | tup {p ws xs ds vs}:H p=some (.tup ws)->S F H xs ws->S F H ds vs->S F H (.tup xs::ds) (.ref p::vs)
 | obj {p C dx ns ws xs ds vs}:H p=some (.ins C dx (ns.zip ws))->ns.length=ws.length->R F H xs ws []->S F H ds vs->S F H (.obj C ns xs::ds) (.ref p::vs)
 | fz {p o ws xs ds vs}:F p=some (.bu o (.lst ws))->R F H xs ws []->S F H ds vs->S F H (.fz xs::ds) (.ref p::vs)
 | bJ {p z ds vs}:ug H p z->S F H ds vs->S F H (.bJ z::ds) (.ref p::vs)
section
variable{F F' H H':Hp}{d:D}{ds es:List D}{v:V}{vs ws:List V}{A B:List Addr}
theorem R.length(r:R F H ds vs A):ds.length=vs.length:=by
 induction r<;>simp_all
theorem S.length(r:S F H ds vs):ds.length=vs.length:=by
 induction r<;>simp_all
theorem R.lD{vs:List V}{A:List Addr}(r:R F H [] vs A):vs=[]/\A=[]:=by cases r;exact⟨rfl,rfl⟩
noncomputable def Rv(F H:Hp)(ds:List D)(v:V)(vs:List V)(B:List Addr):D->Prop
 | .lst true xs=>∃p ws A B',v=.ref p/\H p=some (.lst ws)/\F p=none/\R F H xs ws A/\R F H ds vs B'/\B=p::(A++B')
 | .tup xs=>∃p ws A B',v=.ref p/\H p=some (.tup ws)/\R F H xs ws A/\R F H ds vs B'/\B=A++B'
 | _=>R F H ds vs B
theorem R.rv{d:D}{ds:List D}{v:V}{vs:List V}{B:List Addr}(r:R F H (d::ds) (v::vs) B):Rv F H ds v vs B d:=by
 cases r with
 | av q=>exact q
 | bl q=>exact q
 | int q=>exact q
 | str q=>exact q
 | shr _ _ q=>exact q
 | own h f x q=>exact⟨_,_,_,_,rfl,h,f,x,q,rfl⟩
 | tup h x q=>exact⟨_,_,_,_,rfl,h,x,q,rfl⟩
 | obj _ _ _ q=>exact q
 | fz _ _ q=>exact q
 | bJ _ q=>exact q
theorem R.cons(r:R F H [d] [v] A)(q:R F H ds vs B):R F H (d::ds) (v::vs) (A++B):=by
 cases r with
 | av r=>rw[r.lD.2];exact .av q
 | bl r=>rw[r.lD.2];exact .bl q
 | int r=>rw[r.lD.2];exact .int q
 | str r=>rw[r.lD.2];exact .str q
 | shr h x r=>rw[r.lD.2];exact .shr h x q
 | own h f x r=>rw[r.lD.2,eH];exact R.own h f x q
 | tup h x r=>rw[r.lD.2,eH];exact R.tup h x q
 | obj h l x r=>rw[r.lD.2];exact .obj h l x q
 | fz h x r=>rw[r.lD.2];exact .fz h x q
 | bJ h r=>rw[r.lD.2];exact .bJ h q
theorem R.cE(r:R F H (d::ds) vs A):∃v bW A1 A2,vs=v::bW/\A=A1++A2/\R F H [d] [v] A1/\R F H ds bW A2:=by
 cases r with
 | av r=>exact⟨_,_,[],_,rfl,rfl,.av .nil,r⟩
 | bl r=>exact⟨_,_,[],_,rfl,rfl,.bl .nil,r⟩
 | int r=>exact⟨_,_,[],_,rfl,rfl,.int .nil,r⟩
 | str r=>exact⟨_,_,[],_,rfl,rfl,.str .nil,r⟩
 | shr h x r=>exact⟨_,_,[],_,rfl,rfl,.shr h x .nil,r⟩
 | @own p _ _ A1 _ _ B1 h f x r=>exact⟨_,_,p::A1,B1,rfl,rfl,by simpa using R.own h f x .nil,r⟩
 | @tup p _ _ A1 _ _ B1 h x r=>exact⟨_,_,A1,B1,rfl,rfl,by simpa using R.tup h x .nil,r⟩
 | obj h l x r=>exact⟨_,_,[],_,rfl,rfl,.obj h l x .nil,r⟩
 | fz h x r=>exact⟨_,_,[],_,rfl,rfl,.fz h x .nil,r⟩
 | bJ h r=>exact⟨_,_,[],_,rfl,rfl,.bJ h .nil,r⟩
theorem S.cons(r:S F H [d] [v])(q:S F H ds vs):S F H (d::ds) (v::vs):=by
 cases r with
 | av r=>exact .av q
 | bl r=>exact .bl q
 | int r=>exact .int q
 | str r=>exact .str q
 | shr h x r=>exact .shr h x q
 | own h x r=>exact .own h x q
 | tup h x r=>exact .tup h x q
 | obj h l x r=>exact .obj h l x q
 | fz h x r=>exact .fz h x q
 | bJ h r=>exact .bJ h q
theorem S.cE(r:S F H (d::ds) vs):∃v bW,vs=v::bW/\S F H [d] [v]/\S F H ds bW:=by
 cases r with
 | av r=>exact⟨_,_,rfl,.av .nil,r⟩
 | bl r=>exact⟨_,_,rfl,.bl .nil,r⟩
 | int r=>exact⟨_,_,rfl,.int .nil,r⟩
 | str r=>exact⟨_,_,rfl,.str .nil,r⟩
 | shr h x r=>exact⟨_,_,rfl,.shr h x .nil,r⟩
 | own h x r=>exact⟨_,_,rfl,.own h x .nil,r⟩
 | tup h x r=>exact⟨_,_,rfl,.tup h x .nil,r⟩
 | obj h l x r=>exact⟨_,_,rfl,.obj h l x .nil,r⟩
 | fz h x r=>exact⟨_,_,rfl,.fz h x .nil,r⟩
 | bJ h r=>exact⟨_,_,rfl,.bJ h .nil,r⟩
theorem R.append:∀{ds:List D} {vs:List V} {A:List Addr},R F H ds vs A->R F H es ws B->R F H (ds++es) (vs++ws) (A++B)
 | [],_,_,r,q=>by cases r;exact q
 | d::ds,_,_,r,q=>by
  obtain⟨v,bW,A1,A2,rfl,rfl,h1,h2⟩:=r.cE
  simpa using h1.cons (R.append h2 q)
theorem S.append:∀{ds:List D} {vs:List V},S F H ds vs->S F H es ws->S F H (ds++es) (vs++ws)
 | [],_,r,q=>by cases r;exact q
 | d::ds,_,r,q=>by
  obtain⟨v,bW,rfl,h1,h2⟩:=r.cE
  exact h1.cons (S.append h2 q)
theorem R.split:∀{ds:List D} {vs:List V} {A:List Addr},R F H (ds++es) vs A->∃v1 v2 A1 A2,vs=v1++v2/\A=A1++A2/\R F H ds v1 A1/\R F H es v2 A2
 | [],vs,A,r=>⟨[],vs,[],A,rfl,rfl,.nil,r⟩
 | d::ds,_,_,r=>by
  obtain⟨v,bW,A1,A2,rfl,rfl,h1,h2⟩:=R.cE (ds:=ds++es) r
  obtain⟨v1,v2,B1,B2,rfl,rfl,h3,h4⟩:=R.split (ds:=ds) h2
  exact⟨v::v1,v2,A1++B1,B2,rfl,by simp,h1.cons h3,h4⟩
theorem R.get:∀{ds:List D} {vs:List V} {A:List Addr} {i:Nat},R F H ds vs A->ds[i]?=some d->∃v A1,vs[i]?=some v/\R F H [d] [v] A1/\A1 ⊆ A
 | [],_,_,_,_,e=>by simp at e
 | d'::ds,_,_,i,r,e=>by
  obtain⟨v,bW,A1,A2,rfl,rfl,h1,h2⟩:=r.cE
  cases i with
  | zero=>simp at e;subst e;exact⟨v,A1,rfl,h1,by simp⟩
  | succ i =>
   obtain⟨w,B1,e2,q,sb⟩:=R.get (ds:=ds) (i:=i) h2 (by simpa using e)
   exact⟨w,B1,by simpa using e2,q,λx hx=>cY _ (sb hx)⟩
theorem S.get:∀{ds:List D} {vs:List V} {i:Nat},S F H ds vs->ds[i]?=some d->∃v,vs[i]?=some v/\S F H [d] [v]
 | [],_,_,_,e=>by simp at e
 | d'::ds,_,i,r,e=>by
  obtain⟨v,bW,rfl,h1,h2⟩:=r.cE
  cases i with
  | zero=>simp at e;subst e;exact⟨v,rfl,h1⟩
  | succ i =>
   obtain⟨w,e2,q⟩:=S.get (ds:=ds) (i:=i) h2 (by simpa using e)
   exact⟨w,by simpa using e2,q⟩
theorem S.get':∀{ds:List D} {vs:List V} {i:Nat},S F H ds vs->vs[i]?=some v->∃d,ds[i]?=some d/\S F H [d] [v]
 | [],_,_,r,e=>by cases r;simp at e
 | d'::ds,_,i,r,e=>by
  obtain⟨v,bW,rfl,h1,h2⟩:=r.cE
  cases i with
  | zero=>simp at e;subst e;exact⟨d',rfl,h1⟩
  | succ i =>
   obtain⟨w,e2,q⟩:=S.get' (ds:=ds) (i:=i) h2 (by simpa using e)
   exact⟨w,by simpa using e2,q⟩
theorem S.take:∀{ds:List D} {vs:List V} (n:Nat),S F H ds vs->S F H (ds.take n) (vs.take n)
 | _,_,0,r=>by simpa using S.nil
 | [],_,n+1,r=>by cases r;exact .nil
 | d::ds,_,n+1,r=>by
  obtain⟨v,bW,rfl,h1,h2⟩:=r.cE
  exact h1.cons (S.take n h2)
theorem S.drop:∀{ds:List D} {vs:List V} (n:Nat),S F H ds vs->S F H (ds.drop n) (vs.drop n)
 | _,_,0,r=>by simpa using r
 | [],_,n+1,r=>by cases r;exact .nil
 | d::ds,_,n+1,r=>by
  obtain⟨v,bW,rfl,h1,h2⟩:=r.cE
  exact S.drop n h2
theorem jj{p:Addr}{o:HO}(h:Rd F p o)(s:ag F F')(n:iH o=true:=by rfl):Rd F' p o:=by
 rcases h with h | ⟨u,h⟩
 ·exact .inl (s.get _ _ h n)
 ·exact .inr ⟨u,s _ _ h⟩
theorem R.s(r:R F H ds vs A):S F H ds vs:=by
 induction r with
 | nil=>exact .nil
 | av _ ih=>exact .av ih
 | bl _ ih=>exact .bl ih
 | int _ ih=>exact .int ih
 | str _ ih=>exact .str ih
 | shr h x _ _ ih=>exact .shr h x ih
 | own h f _ _ i1 i2=>exact .own h i1 i2
 | tup h _ _ i1 i2=>exact .tup h i1 i2
 | obj h l x _ _ ih=>exact .obj h l x ih
 | fz h x _ _ ih=>exact .fz h x ih
 | bJ h _ ih=>exact .bJ h ih
structure gw(W:List Addr)(H H':Hp):Prop where
 get:∀a o,H a=some o->a ∉ W->(h:iH o=true:=by rfl)->H' a=some o
noncomputable instance {W:List Addr} {H H':Hp}:CoeFun (gw W H H') λ_=>∀a o,H a=some o->a ∉ W->(h:iH o=true:=by rfl)->H' a=some o:=⟨λs=>@gw.get _ _ _ s⟩
noncomputable def gZ(W:List Addr)(H:Hp):Prop:=∀a∈W,∃ws,H a=some (.lst ws)
theorem R.keep{W:List Addr}(hf:ag F F')(hb:gw W H H')(hl:gZ W H)(r:R F H ds vs A)(hn:∀a∈A,F' a=none)(hd:∀a∈A,a ∉ W):R F' H' ds vs A:=by
 induction r with
 | nil=>exact .nil
 | av _ ih=>exact .av (ih hn hd)
 | bl _ ih=>exact .bl (ih hn hd)
 | int _ ih=>exact .int (ih hn hd)
 | str _ ih=>exact .str (ih hn hd)
 | shr h x _ i1 ih=>exact .shr (hf _ _ h) (i1 (by simp) (by simp)) (ih hn hd)
 | own h f _ _ i1 i2 =>
  refine .own (hb _ _ h (hd _ (by simp))) (hn _ (by simp)) (i1 (λa ha=>hn a ?_) λa ha=>hd a ?_) (i2 (λa ha=>hn a ?_) λa ha=>hd a ?_)<;>simp[ha]
 | @tup p ws _ _ _ _ _ h _ _ i1 i2 =>
  refine .tup (hb _ _ h λz=>?_) (i1 (λa ha=>hn a ?_) λa ha=>hd a ?_) (i2 (λa ha=>hn a ?_) λa ha=>hd a ?_)<;>try simp[ha]
  obtain⟨q,e⟩:=hl _ z
  rw[h]at e;cases e
 | obj h l x _ i1 ih =>
  refine .obj (hb _ _ h λz=>?_) l (i1 (by simp) (by simp)) (ih hn hd)
  obtain⟨q,e⟩:=hl _ z
  rw[h]at e;cases e
 | fz h x _ i1 ih=>exact .fz (hf _ _ h) (i1 (by simp) (by simp)) (ih hn hd)
 | bJ h _ ih =>
  exact .bJ (h.mono λa o e n t=>hb.get a o e (λz=>by
   obtain⟨q,e'⟩:=hl _ z
   rw[e]at e';cases e';exact n _ rfl) t) (ih hn hd)
theorem gw.same(h:ag H H'):gw [] H H':=⟨λa o e _ n=>h.get a o e n⟩
theorem gZ.nil:gZ [] H:=λa h=>absurd h (by simp)
theorem R.grow(hf:ag F F')(hb:ag H H')(r:R F H ds vs A)(hn:∀a∈A,F' a=none):R F' H' ds vs A :=
 r.keep hf (gw.same hb) gZ.nil hn (by simp)
theorem R.shared(hf:ag F F')(hb:ag H H')(r:R F H ds vs []):R F' H' ds vs []:=r.grow hf hb (by simp)
theorem S.mono(hf:ag F F')(hb:ag H H')(r:S F H ds vs):S F' H' ds vs:=by
 induction r with
 | nil=>exact .nil
 | av _ ih=>exact .av ih
 | bl _ ih=>exact .bl ih
 | int _ ih=>exact .int ih
 | str _ ih=>exact .str ih
 | shr h x _ ih=>exact .shr (hf _ _ h) (x.shared hf hb) ih
 | own h _ _ i1 i2=>exact .own (hb _ _ h) i1 i2
 | tup h _ _ i1 i2=>exact .tup (hb _ _ h) i1 i2
 | obj h l x _ ih=>exact .obj (hb _ _ h) l (x.shared hf hb) ih
 | fz h x _ ih=>exact .fz (hf _ _ h) (x.shared hf hb) ih
 | bJ h _ ih=>exact .bJ (h.mono λa o e _ t=>hb.get a o e t) ih
theorem S.r(s:S F H ds vs)(p:ds.all D.pl=true):R F H ds vs []:=by
 induction s with
 | nil=>exact .nil
 | av _ ih=>exact .av (ih (by simpa[D.pl]using p))
 | bl _ ih=>exact .bl (ih (by simpa[D.pl]using p))
 | int _ ih=>exact .int (ih (by simpa[D.pl]using p))
 | str _ ih=>exact .str (ih (by simpa[D.pl]using p))
 | shr h x _ ih=>exact .shr h x (ih (by simp[fW]at p;simpa using p.2))
 | own h _ _ i1 i2=>simp[fW]at p
 | tup h _ _ i1 i2 =>
  rw[cL,jK,eZ]at p
  simpa using R.tup h (i1 p.1) (i2 p.2)
 | obj h l x _ ih=>exact .obj h l x (ih (by simpa[D.pl]using p))
 | fz h x _ ih=>exact .fz h x (ih (by simpa[D.pl]using p))
 | bJ h _ ih=>exact .bJ h (ih (by simpa[D.pl]using p))
theorem R.pl(r:R F H ds vs []):ds.all D.pl=true:=by
 generalize e:([]:List Addr)=A at r
 induction r with
 | nil=>rfl
 | av _ ih=>simp[D.pl];simpa using ih e
 | bl _ ih=>simp[D.pl];simpa using ih e
 | int _ ih=>simp[D.pl];simpa using ih e
 | str _ ih=>simp[D.pl];simpa using ih e
 | shr h x _ i1 ih=>simp only[cL,fW,i1 rfl,ih e];rfl
 | own h f _ _ i1 i2=>cases e
 | tup h _ _ i1 i2 =>
  obtain⟨e1,e2⟩:=qt.mp e.symm
  simp only[cL,jK,i1 e1.symm,i2 e2.symm];rfl
 | obj h l x _ i1 ih=>simp[D.pl];simpa using ih e
 | fz h x _ i1 ih=>simp[D.pl];simpa using ih e
 | bJ h _ ih=>simp[D.pl];simpa using ih e
theorem D.Bp:∀{d:D},d.pl=true->d.sh=d
 | .av,_=>rfl
 | .bl _,_=>rfl
 | .int _,_=>rfl
 | .str _,_=>rfl
 | .obj _ _ _,_=>rfl
 | .fz _,_=>rfl
 | .bJ _,_=>rfl
 | .lst o xs,h=>by
  rw[fW,eZ]at h
  have:∀(l:List D),(∀x∈l,x∈xs)->l.all D.pl=true->l.map D.sh=l:=by
   intro l hl hp
   induction l with
   | nil=>rfl
   | cons x l ih =>
    simp only[cL,eZ]at hp
    have hx:x∈xs:=hl x (by simp)
    rw[cK,D.Bp hp.1,ih (λy hy=>hl y (by simp[hy])) hp.2]
  rw[cV,this xs (λ_ h=>h) h.2]
  cases o<;>simp_all
 | .tup xs,h=>by
  rw[jK]at h
  have:∀(l:List D),(∀x∈l,x∈xs)->l.all D.pl=true->l.map D.sh=l:=by
   intro l hl hp
   induction l with
   | nil=>rfl
   | cons x l ih =>
    simp only[cL,eZ]at hp
    have hx:x∈xs:=hl x (by simp)
    rw[cK,D.Bp hp.1,ih (λy hy=>hl y (by simp[hy])) hp.2]
  rw[jL,this xs (λ_ h=>h) h]
termination_by d=>sizeOf d
theorem mI{l:List D}(h:l.all D.pl=true):l.map D.sh=l:=by
 induction l with
 | nil=>rfl
 | cons x l ih =>
  simp only[cL,eZ]at h
  rw[cK,D.Bp h.1,ih h.2]
theorem S.frozen(e:ag F H)(s:S F H ds vs):R H H (ds.map D.sh) vs []:=by
 induction s with
 | nil=>exact .nil
 | av _ ih=>exact .av ih
 | bl _ ih=>exact .bl ih
 | int _ ih=>exact .int ih
 | str _ ih=>exact .str ih
 | shr h x _ ih =>
  rw[cK,cV,mI x.pl]
  exact .shr (e _ _ h) (x.shared e (ag.refl _)) ih
 | own h _ _ i1 i2=>rw[cK,cV];exact .shr h i1 i2
 | tup h _ _ i1 i2=>rw[cK,jL];simpa using R.tup h i1 i2
 | obj h l x _ ih=>exact .obj h l (x.shared e (ag.refl _)) ih
 | fz h x _ ih=>exact .fz (e _ _ h) (x.shared e (ag.refl _)) ih
 | bJ h _ ih=>exact .bJ h ih
noncomputable def bu(F H:Hp)(A:List Addr):Hp:=λa=>if a∈A then H a else F a
theorem iJ(e:ag F H):ag F (bu F H A):=⟨λa o h n=>by unfold bu;split;exact e.get _ _ h n;exact h,λa ps h=>by unfold bu;split;exact e.tb _ _ h;exact⟨#[],by rw[h];simp⟩⟩
theorem n8(e:ag F H):ag (bu F H A) H:=⟨λa o h n=>by unfold bu at h;split at h;exact h;exact e.get _ _ h n,λa ps h=>by unfold bu at h;split at h;exact⟨#[],by rw[h];simp⟩;exact e.tb _ _ h⟩
theorem qJ{a:Addr}(h:a ∉ A):bu F H A a=F a:=by unfold bu;rw[if_neg h]
theorem cs7{a:Addr}(h:a∈A):bu F H A a=H a:=by unfold bu;rw[if_pos h]
theorem R.bu(e:ag F H)(r:R F H ds vs A):∀A',A ⊆ A'->R (L3.bu F H A') H (ds.map D.sh) vs []:=by
 induction r with
 | nil=>exact λ_ _=>.nil
 | av _ ih=>exact λA' h=>.av (ih A' h)
 | bl _ ih=>exact λA' h=>.bl (ih A' h)
 | int _ ih=>exact λA' h=>.int (ih A' h)
 | str _ ih=>exact λA' h=>.str (ih A' h)
 | shr h x _ i1 ih =>
  intro A' hA
  rw[cK,cV,mI x.pl]
  exact .shr (iJ e _ _ h) (x.shared (iJ e) (ag.refl _)) (ih A' hA)
 | own h f _ _ i1 i2 =>
  intro A' hA
  rw[cK,cV]
  exact .shr ((cs7 (hA (by simp))).trans h) (i1 A' λa ha=>hA (by simp[ha])) (i2 A' λa ha=>hA (by simp[ha]))
 | tup h _ _ i1 i2 =>
  intro A' hA
  rw[cK,jL]
  simpa using R.tup h (i1 A' λa ha=>hA (by simp[ha])) (i2 A' λa ha=>hA (by simp[ha]))
 | obj h l x _ i1 ih=>exact λA' hA=>.obj h l (x.shared (iJ e) (ag.refl _)) (ih A' hA)
 | fz h x _ i1 ih=>exact λA' hA=>.fz (iJ e _ _ h) (x.shared (iJ e) (ag.refl _)) (ih A' hA)
 | bJ h _ ih=>exact λA' hA=>.bJ h (ih A' hA)
theorem R.lists(r:R F H ds vs A):∀a∈A,(∃ws,H a=some (.lst ws))/\F a=none:=by
 induction r with
 | nil=>simp
 | av _ ih=>exact ih
 | bl _ ih=>exact ih
 | int _ ih=>exact ih
 | str _ ih=>exact ih
 | shr h x _ i1 ih=>exact ih
 | own h f _ _ i1 i2 =>
  intro a ha
  rcases cj.mp ha with rfl | ha
  ·exact⟨⟨_,h⟩,f⟩
  ·exact(cg.mp ha).elim (i1 a) (i2 a)
 | tup h _ _ i1 i2=>exact λa ha=>(cg.mp ha).elim (i1 a) (i2 a)
 | obj h l x _ i1 ih=>exact ih
 | fz h x _ i1 ih=>exact ih
 | bJ h _ ih=>exact ih
theorem R.qK(r:R F H ds vs A)(hd:ds.all D.fr=true)(e:ag F' F):R F' H ds vs A:=by
 induction r with
 | nil=>exact .nil
 | av _ ih=>exact .av (ih (by simpa[D.fr]using hd))
 | bl _ ih=>exact .bl (ih (by simpa[D.fr]using hd))
 | int _ ih=>exact .int (ih (by simpa[D.fr]using hd))
 | str _ ih=>exact .str (ih (by simpa[D.fr]using hd))
 | shr h x _ i1 ih=>simp[fg]at hd
 | own h f _ _ i1 i2 =>
  rw[cL,fg,eZ,kS]at hd
  exact .own h (e.free f) (i1 hd.1) (i2 hd.2)
 | tup h _ _ i1 i2 =>
  rw[cL,n6,eZ]at hd
  exact .tup h (i1 hd.1) (i2 hd.2)
 | obj h l x _ i1 ih=>simp[D.fr]at hd
 | fz h x _ i1 ih=>simp[D.fr]at hd
 | bJ h _ ih=>exact .bJ h (ih (by simpa[D.fr]using hd))
theorem R.inj(r:R F H ds vs A):∀{B:List Addr},R F H ds vs B->A=B:=by
 induction r with
 | nil=>exact λq=>q.lD.2.symm
 | av _ ih=>exact λq=>ih q.rv
 | bl _ ih=>exact λq=>ih q.rv
 | int _ ih=>exact λq=>ih q.rv
 | str _ ih=>exact λq=>ih q.rv
 | shr h x _ i1 ih=>exact λq=>ih q.rv
 | own h f _ _ i1 i2 =>
  intro B q
  obtain⟨p,ws,A,B',e,h',f',x',q',rfl⟩:=q.rv
  cases e
  rw[h]at h';cases h'
  rw[i1 x',i2 q']
 | tup h _ _ i1 i2 =>
  intro B q
  obtain⟨p,ws,A,B',e,h',x',q',rfl⟩:=q.rv
  cases e
  rw[h]at h';cases h'
  rw[i1 x',i2 q']
 | obj h l x _ i1 ih=>exact λq=>ih q.rv
 | fz h x _ i1 ih=>exact λq=>ih q.rv
 | bJ h _ ih=>exact λq=>ih q.rv
theorem R.perm{ps qs:List (D × V)}(hp:ps.Perm qs):∀{A:List Addr},R F H (ps.map (·.1)) (ps.map (·.2)) A->∃A',R F H (qs.map (·.1)) (qs.map (·.2)) A'/\A.Perm A':=by
 induction hp with
 | nil=>exact λr=>⟨_,r,.refl _⟩
 | cons x _ ih =>
  intro A r
  obtain⟨v,bW,A1,A2,e,rfl,h1,h2⟩:=R.cE r
  obtain⟨rfl,rfl⟩:=nI e
  obtain⟨A',r',p⟩:=ih h2
  exact⟨A1++A',h1.cons r',p.append_left _⟩
 | swap x y l =>
  intro A r
  obtain⟨v,bW,A1,A2,e,rfl,h1,h2⟩:=R.cE r
  obtain⟨rfl,rfl⟩:=nI e
  obtain⟨v2,FV,B1,B2,e,rfl,h3,h4⟩:=R.cE h2
  obtain⟨rfl,rfl⟩:=nI e
  exact⟨B1++(A1++B2),h3.cons (h1.cons h4),by rw[<-cZ,<- cZ];exact nJ.append_right _⟩
 | trans _ _ i1 i2 =>
  intro A r
  obtain⟨A',r',p⟩:=i1 r
  obtain⟨A2,r2,p2⟩:=i2 r'
  exact⟨A2,r2,p.trans p2⟩
noncomputable def Full(F H:Hp):Prop:=∀a o,H a=some o->(∀ws,o≠.lst ws)->F a=some o
theorem Full.refl(H:Hp):Full H H:=λ_ _ h _=>h
theorem R.full(hF:Full F H)(hs:ag F H')(r:R F H ds vs A)(e:A=[]):R F H' ds vs []:=by
 induction r with
 | nil=>exact .nil
 | av _ ih=>exact .av (ih e)
 | bl _ ih=>exact .bl (ih e)
 | int _ ih=>exact .int (ih e)
 | str _ ih=>exact .str (ih e)
 | shr h x _ i1 ih=>exact .shr h (i1 rfl) (ih e)
 | own h f _ _ i1 i2=>cases e
 | tup h _ _ i1 i2 =>
  obtain⟨e1,e2⟩:=qt.mp e
  exact R.tup (A:=[]) (B:=[]) (hs _ _ (hF _ _ h (by intro ws z;cases z))) (i1 e1) (i2 e2)
 | obj h l x _ i1 ih=>exact .obj (hs _ _ (hF _ _ h (by intro ws z;cases z))) l (i1 rfl) (ih e)
 | fz h x _ i1 ih=>exact .fz h (i1 rfl) (ih e)
 | bJ h _ ih=>exact .bJ (h.mono λa o e n t=>hs.get a o (hF a o e n) t) (ih e)
open Classical in
noncomputable def snap(F H:Hp):Hp:=λa=>if(∃o,H a=some o/\∀ws,o≠.lst ws)then H a else F a
theorem wB:Full (snap F H) H:=λa o h n=>by unfold snap;rw[if_pos ⟨o,h,n⟩];exact h
theorem uh(e:ag F H):ag F (snap F H):=⟨λa o h n=>by
 unfold snap;split
 ·exact e.get a o h n
 ·exact h,λa ps h=>by
 unfold snap;split
 ·exact e.tb a ps h
 ·exact⟨#[],by rw[h];simp⟩⟩
theorem b97(e:ag F H):ag (snap F H) H:=⟨λa o h n=>by
 unfold snap at h;split at h
 ·exact h
 ·exact e.get a o h n,λa ps h=>by
 unfold snap at h;split at h
 ·exact⟨#[],by rw[h];simp⟩
 ·exact e.tb a ps h⟩
theorem bS6(e:ag F H){a:Addr}{ws:List V}(h:snap F H a=some (.lst ws)):F a=some (.lst ws):=by
 unfold snap at h;split at h
 ·rename_i z
  obtain⟨o,h1,h2⟩:=z
  rw[h]at h1;exact absurd (dh h1).symm (h2 ws)
 ·exact h
theorem bQ6{a:Addr}{ws:List V}(h:H a=some (.lst ws))(n:F a=none):snap F H a=none:=by
 unfold snap;split
 ·rename_i z
  obtain⟨o,h1,h2⟩:=z
  rw[h]at h1;exact absurd (dh h1).symm (h2 ws)
 ·exact n
end
end L3
namespace L3
open PySem L2
noncomputable abbrev Dl:=List (Option D)
inductive RS(F H:Hp):Dl->St->List Addr->Prop
 | nil:RS F H [] [] []
 | av {δ σ o C}:RS F H δ σ C->RS F H (none::δ) (o::σ) C
 | dO {d v A δ σ C}:R F H [d] [v] A->RS F H δ σ C->RS F H (some d::δ) (some v::σ) (A++C)
theorem fX{A B:List Addr}:(A++B).Nodup↔A.Nodup/\B.Nodup/\∀a∈A,a ∉ B:=by
 rw[List.nodup_append]
 constructor
 ·rintro⟨h1,h2,h3⟩;exact⟨h1,h2,λa ha hb=>h3 a ha a hb rfl⟩
 ·rintro⟨h1,h2,h3⟩;exact⟨h1,h2,λa ha b hb e=>h3 a ha (e ▸ hb)⟩
section
variable{F F' H H':Hp}{d:D}{v:V}{δ:Dl}{σ:St}{A C:List Addr}{i:Nat}
theorem RS.length(r:RS F H δ σ C):δ.length=σ.length:=by induction r<;>simp_all
theorem RS.pick:∀{δ:Dl} {σ:St} {C:List Addr} {i:Nat},RS F H δ σ C->δ[i]?=some (some d)->∃v A C',σ[i]?=some (some v)/\R F H [d] [v] A/\RS F H (δ.set i none) σ C'/\C.Perm (A++C')
 | _,_,_,_,.nil,e=>by simp at e
 | _,_,_,i,.av r,e=>by
  cases i with
  | zero=>simp at e
  | succ i =>
   obtain⟨v,A,C',e1,h1,h2,p⟩:=RS.pick r (by simpa using e)
   exact⟨v,A,C',by simpa using e1,h1,.av h2,p⟩
 | _,_,_,i,.dO (A:=A0) (C:=C0) h r,e=>by
  cases i with
  | zero =>
   simp at e;subst e
   exact⟨_,A0,C0,rfl,h,.av r,.refl _⟩
  | succ i =>
   obtain⟨v,A,C',e1,h1,h2,p⟩:=RS.pick r (by simpa using e)
   refine⟨v,A,A0++C',by simpa using e1,h1,.dO h h2,(p.append_left A0).trans ?_⟩
   rw[<-cZ,<- cZ]
   exact nJ.append_right _
theorem RS.fill:∀{δ:Dl} {σ:St} {C:List Addr} {i:Nat},RS F H δ σ C->δ[i]?=some none->σ[i]?=some (some v)->R F H [d] [v] A->∃C',RS F H (δ.set i (some d)) σ C'/\C'.Perm (A++C)
 | _,_,_,_,.nil,e,_,_=>by simp at e
 | _,_,_,i,.av r,e,e2,h=>by
  cases i with
  | zero=>simp at e2;subst e2;exact⟨_,.dO h r,.refl _⟩
  | succ i =>
   obtain⟨C',h1,p⟩:=RS.fill r (by simpa using e) (by simpa using e2) h
   exact⟨C',.av h1,p⟩
 | _,_,_,i,.dO (A:=A0) (C:=C0) h0 r,e,e2,h=>by
  cases i with
  | zero=>simp at e
  | succ i =>
   obtain⟨C',h1,p⟩:=RS.fill r (by simpa using e) (by simpa using e2) h
   refine⟨A0++C',.dO h0 h1,(p.append_left A0).trans ?_⟩
   rw[<-cZ,<- cZ]
   exact nJ.append_right _
theorem RS.drop:∀{δ:Dl} {σ:St} {C:List Addr} (i:Nat),RS F H δ σ C->∃C',RS F H (δ.set i none) σ C'/\C'.Sublist C
 | _,_,_,_,.nil=>⟨_,.nil,.refl _⟩
 | _,_,_,i,.av r=>by
  cases i with
  | zero=>exact⟨_,.av r,.refl _⟩
  | succ i=>obtain⟨C',h,s⟩:=RS.drop i r;exact⟨C',.av h,s⟩
 | _,_,_,i,.dO (A:=A0) h0 r=>by
  cases i with
  | zero=>exact⟨_,.av r,List.sublist_append_right _ _⟩
  | succ i=>obtain⟨C',h,s⟩:=RS.drop i r;exact⟨_,.dO h0 h,(Mm A0).append s⟩
theorem RS.yE:∀{δ:Dl} {σ:St} {C:List Addr} {i:Nat} (o:Option V),RS F H δ σ C->(δ[i]?=some none\/δ[i]?=none)->RS F H δ (σ.set i o) C
 | _,_,_,_,_,.nil,_=>.nil
 | _,_,_,i,_,.av r,e=>by
  cases i with
  | zero=>exact .av r
  | succ i=>exact .av (RS.yE _ r (by simpa using e))
 | _,_,_,i,_,.dO h0 r,e=>by
  cases i with
  | zero=>simp at e
  | succ i=>exact .dO h0 (RS.yE _ r (by simpa using e))
theorem RS.keep{W:List Addr}(hf:ag F F')(hb:gw W H H')(hl:gZ W H)(r:RS F H δ σ C)(hn:∀a∈C,F' a=none)(hd:∀a∈C,a ∉ W):RS F' H' δ σ C:=by
 induction r with
 | nil=>exact .nil
 | av _ ih=>exact .av (ih hn hd)
 | dO h _ ih=>exact .dO (h.keep hf hb hl (λa ha=>hn a (by simp[ha])) λa ha=>hd a (by simp[ha])) (ih (λa ha=>hn a (by simp[ha])) λa ha=>hd a (by simp[ha]))
theorem RS.lists(r:RS F H δ σ C):∀a∈C,(∃ws,H a=some (.lst ws))/\F a=none:=by
 induction r with
 | nil=>simp
 | av _ ih=>exact ih
 | dO h _ ih=>exact λa ha=>(cg.mp ha).elim (h.lists a) (ih a)
end
structure Bs where
 H0:Hp
 F0:Hp
inductive cM1(H0 F H:Hp)(σ:St)(δ:Dl)(ts:List (D × V)):Prop
 | mk (A C) (r:R F H (ts.map (·.1)) (ts.map (·.2)) A) (s:RS F H δ σ C) (nd:(A++C).Nodup) (fr:∀a∈A++C,H0 a=none)
structure aj(B:Bs)(F H:Hp)(σ:St)(δ:Dl)(ts:List (D × V)):Prop where
 ext:ag F H
 b1:ag B.H0 H
 b2:ag B.F0 F
 b3:∀a ws,F a=some (.lst ws)->B.F0 a=some (.lst ws)\/B.H0 a=none
 own:cM1 B.H0 F H σ δ ts
section
variable{B:Bs}{F F' H H':Hp}{d:D}{v:V}{δ:Dl}{σ:St}{ts ps:List (D × V)}{A C W:List Addr}{i:Nat}{p:Addr}{xs ys:List D}{vs ws:List V}
theorem aj.look(c:aj B F H σ δ ts)(e:δ[i]?=some (some d)):∃v,σ[i]?=some (some v)/\S F H [d] [v]:=by
 obtain⟨A,C,r,s,nd,fr⟩:=c.own
 obtain⟨v,A',C',e1,h1,h2,p⟩:=s.pick e
 exact⟨v,e1,h1.s⟩
theorem aj.len(c:aj B F H σ δ ts):δ.length=σ.length:=let⟨_,_,_,s,_,_⟩:=c.own;s.length
theorem aj.grow(c:aj B F H σ δ ts)(h:ag H H'):aj B F H' σ δ ts:=by
 obtain⟨A,C,r,s,nd,fr⟩:=c.own
 exact⟨c.ext.trans h,c.b1.trans h,c.b2,c.b3,A,C,r.grow (ag.refl _) h λa ha=>(r.lists a ha).2,s.keep (ag.refl _) (gw.same h) gZ.nil (λa ha=>(s.lists a ha).2) (by simp),nd,fr⟩
theorem aj.pop(c:aj B F H σ δ ((d,v)::ts)):aj B F H σ δ ts:=by
 obtain⟨A,C,r,s,nd,fr⟩:=c.own
 obtain⟨w,bW,A1,A2,e,rfl,h1,h2⟩:=R.cE r
 obtain⟨rfl,rfl⟩:=nI e
 refine⟨c.ext,c.b1,c.b2,c.b3,A2,C,h2,s,?_,λa ha=>fr a (by simp at ha ⊢;exact .inr ha)⟩
 rw[cZ]at nd
 exact(fX.mp nd).2.1
theorem aj.top(c:aj B F H σ δ ((d,v)::ts)):S F H [d] [v]:=by
 obtain⟨A,C,r,s,nd,fr⟩:=c.own
 obtain⟨w,bW,A1,A2,e,rfl,h1,h2⟩:=R.cE r
 obtain⟨rfl,rfl⟩:=nI e
 exact h1.s
theorem aj.pushS(c:aj B F H σ δ ts)(s:S F H [d] [v])(pl:d.pl=true):aj B F H σ δ ((d,v)::ts):=by
 obtain⟨A,C,r,q,nd,fr⟩:=c.own
 exact⟨c.ext,c.b1,c.b2,c.b3,A,C,(s.r (by simp[pl])).cons r,q,nd,fr⟩
theorem ag.upd{o:HO}(h:H p=none):ag H (upd H p o):=.of λb u e=>by rw[aV (dU e h)];exact e
theorem aj.pack(c:aj B F H σ δ (ps++ts))(hs:ag H H')(k:∀A1,R F H' (ps.map (·.1)) (ps.map (·.2)) A1->A1.Nodup->∃A',R F H' [d] [v] A'/\A'.Nodup/\∀a∈A',a∈A1\/H a=none):aj B F H' σ δ ((d,v)::ts):=by
 obtain⟨A,C,r,s,nd,fr⟩:=c.own
 rw[eo,eo]at r
 obtain⟨v1,v2,A1,A2,e,rfl,h1,h2⟩:=R.split r
 have l1:(ps.map (·.2)).length=v1.length:=by rw[<-h1.length];simp
 obtain⟨rfl,rfl⟩:=vQ e l1
 rw[cZ]at nd fr
 obtain⟨n1,n2,n3⟩:=fX.mp nd
 have g1:=h1.grow (ag.refl F) hs λa ha=>(h1.lists a ha).2
 have g2:=h2.grow (ag.refl F) hs λa ha=>(h2.lists a ha).2
 have gs:=s.keep (ag.refl F) (gw.same hs) gZ.nil (λa ha=>(s.lists a ha).2) (by simp)
 obtain⟨A',r',og,sub⟩:=k A1 g1 n1
 refine⟨c.ext.trans hs,c.b1.trans hs,c.b2,c.b3,A'++A2,C,r'.cons g2,gs,?_,?_⟩
 ·rw[cZ]
  refine fX.mpr ⟨og,n2,λa ha hb=>?_⟩
  rcases sub a ha with z | z
  ·exact n3 a z hb
  ·rcases cg.mp hb with y | y
   ·obtain⟨⟨_,q⟩,_⟩:=h2.lists a y;rw[z]at q;cases q
   ·obtain⟨⟨_,q⟩,_⟩:=s.lists a y;rw[z]at q;cases q
 ·intro a ha
  rw[cZ]at ha
  rcases cg.mp ha with y | y
  ·rcases sub a y with z | z
   ·exact fr a (by simp[z])
   ·exact c.b1.free z
  ·exact fr a (cY _ y)
theorem aj.Bq(c:aj B F H σ δ ts)(hs:ag H H')(r:R F H' [d] [v] A)(nd:A.Nodup)(fr:∀a∈A,H a=none):aj B F H' σ δ ((d,v)::ts) :=
 aj.pack (ps:=[]) c hs λ_ _ _=>⟨A,r,nd,λa ha=>.inr (fr a ha)⟩
theorem aj.mJ(c:aj B F H σ δ ts)(hp:H p=none)(s:S F H xs vs)(pl:xs.all D.pl=true):aj B F (upd H p (.lst vs)) σ δ ((.lst true xs,.ref p)::ts) :=
 c.Bq (ag.upd hp) (A:=[p]) (by simpa using R.own bA (c.ext.free hp) ((s.r pl).shared (ag.refl _) (ag.upd hp)) .nil) (by simp) (by simp[hp])
theorem aj.cM2(c:aj B F H σ δ (ps++ts))(hp:H p=none):aj B F (upd H p (.lst (ps.map (·.2)))) σ δ ((.lst true (ps.map (·.1)),.ref p)::ts):=by
 refine c.pack (ag.upd hp) λA1 r nd=>⟨p::A1,by simpa using R.own bA (c.ext.free hp) r .nil,iD.mpr ⟨λh=>?_,nd⟩,λa ha=>?_⟩
 ·obtain⟨A,C,r0,_,_,_⟩:=c.own
  rw[eo,eo]at r0
  obtain⟨v1,v2,B1,B2,e,rfl,h1,h2⟩:=R.split r0
  have l1:(ps.map (·.2)).length=v1.length:=by rw[<-h1.length];simp
  obtain⟨rfl,rfl⟩:=vQ e l1
  have g1:=h1.grow (ag.refl F) (ag.upd (o:=.lst (ps.map (·.2))) hp) λa ha=>(h1.lists a ha).2
  have:A1=B1:=R.inj r g1
  subst this
  obtain⟨⟨_,q⟩,_⟩:=h1.lists p h
  rw[hp]at q;cases q
 ·rcases cj.mp ha with rfl | h
  ·exact .inr hp
  ·exact .inl h
theorem aj.Ol(c:aj B F H σ δ (ps++ts))(hp:H p=none):aj B F (upd H p (.tup (ps.map (·.2)))) σ δ ((.tup (ps.map (·.1)),.ref p)::ts) :=
 c.pack (ag.upd hp) λA1 r nd=>⟨A1,by simpa using R.tup (F:=F) bA r .nil,nd,λa ha=>.inl ha⟩
theorem aj.perm(c:aj B F H σ δ ps)(h:ps.Perm ts):aj B F H σ δ ts:=by
 obtain⟨A,C,r,s,nd,fr⟩:=c.own
 obtain⟨A',r',p⟩:=r.perm h
 have pp:=p.append_right C
 exact⟨c.ext,c.b1,c.b2,c.b3,A',C,r',s,pp.nodup_iff.mp nd,λa ha=>fr a (pp.mem_iff.mpr ha)⟩
theorem aj.move(c:aj B F H σ δ ts)(e:δ[i]?=some (some d)):∃v,σ[i]?=some (some v)/\aj B F H σ (δ.set i none) ((d,v)::ts):=by
 obtain⟨A,C,r,s,nd,fr⟩:=c.own
 obtain⟨v,A',C',e1,h1,h2,p⟩:=s.pick e
 have pp:(A++C).Perm ((A'++A)++C'):=by
  refine(p.append_left A).trans ?_
  rw[<-cZ]
  exact nJ.append_right _
 exact⟨v,e1,c.ext,c.b1,c.b2,c.b3,A'++A,C',h1.cons r,h2,pp.nodup_iff.mp nd,λa ha=>fr a (pp.mem_iff.mpr ha)⟩
theorem aj.forget(c:aj B F H σ δ ts)(i:Nat):aj B F H σ (δ.set i none) ts:=by
 obtain⟨A,C,r,s,nd,fr⟩:=c.own
 obtain⟨C',h,sb⟩:=s.drop i
 exact⟨c.ext,c.b1,c.b2,c.b3,A,C',r,h,nd.sublist ((Mm A).append sb),λa ha=>fr a (((Mm A).append sb).subset ha)⟩
theorem aj.fill(c:aj B F H σ δ ((d,v)::ts))(e:δ[i]?=some none)(e2:σ[i]?=some (some v)):aj B F H σ (δ.set i (some d)) ts:=by
 obtain⟨A,C,r,s,nd,fr⟩:=c.own
 obtain⟨w,bW,A1,A2,e',rfl,h1,h2⟩:=R.cE r
 obtain⟨rfl,rfl⟩:=nI e'
 obtain⟨C',s',p⟩:=s.fill e e2 h1
 have pp:((A1++A2)++C).Perm (A2++C'):=by
  refine((nJ (l₁:=A1) (l₂:=A2)).append_right C).trans ?_
  rw[cZ]
  exact(p.symm).append_left A2
 exact⟨c.ext,c.b1,c.b2,c.b3,A2,C',h2,s',pp.nodup_iff.mp nd,λa ha=>fr a (pp.mem_iff.mpr ha)⟩
theorem aj.yE(c:aj B F H σ δ ts)(o:Option V)(e:δ[i]?=some none\/δ[i]?=none):aj B F H (σ.set i o) δ ts:=by
 obtain⟨A,C,r,s,nd,fr⟩:=c.own
 exact⟨c.ext,c.b1,c.b2,c.b3,A,C,r,s.yE o e,nd,fr⟩
theorem aj.store(c:aj B F H σ δ ((d,v)::ts))(i:Nat):aj B F H (σ.set i (some v)) (δ.set i (some d)) ts:=by
 by_cases hi:i<δ.length
 ·have c1:=c.forget i
  have hs:i<σ.length:=by rw[<-c.len];exact hi
  have e:(δ.set i none)[i]?=some none:=by simp[hi]
  have c2:=(c1.yE (some v) (.inl e)).fill (i:=i) e (by simp[hs])
  rwa [Ei]at c2
 ·have hs:¬ i<σ.length:=by rw[<-c.len];exact hi
  rw[WU (by omega),WU (by omega)]
  exact c.pop
theorem aj.mut(c:aj B F H σ δ (ps++ts))(e:δ[i]?=some (some (.lst true xs)))(e2:σ[i]?=some (some (.ref p)))
  (k:∀ws A1 A2,H p=some (.lst ws)->R F H xs ws A1->R F H (ps.map (·.1)) (ps.map (·.2)) A2->(A1++A2).Nodup->∃A',R F H ys vs A'/\A'.Nodup/\∀a∈A',a∈A1++A2) :
  aj B F (upd H p (.lst vs)) σ (δ.set i (some (.lst true ys))) ts:=by
 have hi:i<δ.length:=(ky.mp e).1
 obtain⟨v,e3,c1⟩:=c.move e
 rw[e2]at e3;cases e3
 obtain⟨A,C,r,s,nd,fr⟩:=c1.own
 have r':R F H (([.lst true xs]++ps.map (·.1))++ts.map (·.1)) ((.ref p::ps.map (·.2))++ts.map (·.2)) A:=by simpa using r
 obtain⟨v1,v2,A1,A2,e4,rfl,h1,h2⟩:=R.split r'
 have l1:(V.ref p::ps.map (·.2)).length=v1.length:=by rw[<-h1.length];simp
 obtain⟨rfl,rfl⟩:=vQ e4 l1
 obtain⟨p',ui,B1,B2,ep,hH,hF,hx,hr,rfl⟩:=h1.rv
 cases ep
 ·skip
  rw[cZ]at nd fr
  obtain⟨n1,n2,n3⟩:=fX.mp nd
  obtain⟨m1,m2⟩:=iD.mp n1
  obtain⟨A',ra,nda,sub⟩:=k ui B1 B2 hH hx hr m2
  have pA:p ∉ A':=λz=>m1 (sub _ z)
  have pR:p ∉ A2++C:=λz=>n3 p (by simp) z
  have but:gw [p] H (upd H p (.lst vs)):=⟨λa o q z _=>by rw[aV (by simpa using z)];exact q⟩
  have hl:gZ [p] H:=λa ha=>by rw[gn.mp ha];exact⟨_,hH⟩
  have g1:=ra.keep (ag.refl F) but hl (λa ha=>(ra.lists a ha).2) λa ha z=>pA (by rw[<-gn.mp z];exact ha)
  have g2:=h2.keep (ag.refl F) but hl (λa ha=>(h2.lists a ha).2) λa ha z=>pR (by rw[<-gn.mp z];exact dZ _ ha)
  have gs:=s.keep (ag.refl F) but hl (λa ha=>(s.lists a ha).2) λa ha z=>pR (by rw[<-gn.mp z];exact cY _ ha)
  have fp:B.H0 p=none:=fr p (by simp)
  have b1:ag B.H0 (upd H p (.lst vs)):=⟨λa o q n=>by
   rw[aV (λz=>by rw[z,fp]at q;cases q)]
   exact c1.b1.get a o q n,λa ps q=>by
   rw[aV (λz=>by rw[z,fp]at q;cases q)]
   exact c1.b1.tb a ps q⟩
  have ext:ag F (upd H p (.lst vs)):=⟨λa o q n=>by
   rw[aV (λz=>by rw[z,hF]at q;cases q)]
   exact c1.ext.get a o q n,λa ps q=>by
   rw[aV (λz=>by rw[z,hF]at q;cases q)]
   exact c1.ext.tb a ps q⟩
  have c2:aj B F (upd H p (.lst vs)) σ (δ.set i none) ((.lst true ys,.ref p)::ts):=by
   refine⟨ext,b1,c1.b2,c1.b3,(p::A')++A2,C,R.cons (by simpa using R.own bA hF g1 .nil) g2,gs,?_,?_⟩
   ·rw[cZ]
    refine fX.mpr ⟨iD.mpr ⟨pA,nda⟩,n2,λa ha hb=>?_⟩
    rcases cj.mp ha with rfl | ha
    ·exact pR hb
    ·exact n3 a (eG _ (sub a ha)) hb
   ·intro a ha
    rw[cZ]at ha
    rcases cg.mp ha with z | z
    ·rcases cj.mp z with rfl | z
     ·exact fp
     ·exact fr a (dZ _ (eG _ (sub a z)))
    ·exact fr a (cY _ z)
  have c3:=c2.fill (i:=i) (by simp[hi]) e2
  rwa [Ei]at c3
theorem aj.FW(c:aj B F H σ δ ((d,v)::ts)):∃F',ag F F'/\aj B F' H σ δ ((d.sh,v)::ts):=by
 obtain⟨A,C,r,s,nd,fr⟩:=c.own
 obtain⟨w,bW,A1,A2,e',rfl,h1,h2⟩:=R.cE r
 obtain⟨rfl,rfl⟩:=nI e'
 rw[cZ]at nd fr
 obtain⟨n1,n2,n3⟩:=fX.mp nd
 have out:∀a∈A2++C,bu F H A1 a=F a:=λa ha=>qJ λz=>n3 a z ha
 have b3:∀a o,bu F H A1 a=some (.lst o)->B.F0 a=some (.lst o)\/B.H0 a=none:=λa o q=>by
  by_cases z:a∈A1
  ·exact .inr (fr a (dZ _ z))
  ·rw[qJ z]at q;exact c.b3 a o q
 refine⟨bu F H A1,iJ c.ext,n8 c.ext,c.b1,c.b2.trans (iJ c.ext),b3,A2,C,?_,?_,n2,λa ha=>fr a (cY _ ha)⟩
 ·have g1:=h1.bu c.ext A1 (λ_ h=>h)
  exact R.cons (A:=[]) g1 (h2.keep (iJ c.ext) (gw.same (ag.refl H)) gZ.nil (λa ha=>by rw[out a (dZ _ ha)];exact(h2.lists a ha).2) (by simp))
 ·exact s.keep (iJ c.ext) (gw.same (ag.refl H)) gZ.nil (λa ha=>by rw[out a (cY _ ha)];exact(s.lists a ha).2) (by simp)
theorem aj.freeze(c:aj B F H σ δ ts)(e:δ[i]?=some (some d)):∃F',ag F F'/\aj B F' H σ (δ.set i (some d.sh)) ts:=by
 have hi:i<δ.length:=(ky.mp e).1
 obtain⟨v,e2,c1⟩:=c.move e
 obtain⟨F',s,c2⟩:=c1.FW
 refine⟨F',s,?_⟩
 have c3:=c2.fill (i:=i) (by simp[hi]) e2
 rwa [Ei]at c3
theorem aj.rebase(c:aj B F H σ δ ts):aj ⟨B.H0,F⟩ F H σ δ ts:=⟨c.ext,c.b1,ag.refl _,λ_ _ q=>.inl q,c.own⟩
theorem aj.cM4{F1:Hp}(c:aj ⟨B.H0,F1⟩ F H σ δ ts)(h:ag B.F0 F1)(h3:∀a ws,F1 a=some (.lst ws)->B.F0 a=some (.lst ws)\/B.H0 a=none):aj B F H σ δ ts :=
 ⟨c.ext,c.b1,h.trans c.b2,λa o q=>(c.b3 a o q).elim (h3 a o) .inr,c.own⟩
theorem aj.call(c:aj B F H σ δ ts)(hs:ag H H')(hf:ag F F')(he:ag F' H')(h3:∀a ws,F' a=some (.lst ws)->F a=some (.lst ws)\/H a=none)(r:R F' H' [d] [v] A)(nd:A.Nodup)(fr:∀a∈A,H a=none) :
  aj B F' H' σ δ ((d,v)::ts):=by
 obtain⟨A0,C,r0,s,nd0,fr0⟩:=c.own
 have no:∀a,(∃ws,H a=some (.lst ws))/\F a=none->F' a=none:=λa zz=>by
  obtain⟨⟨ws,e⟩,n⟩:=zz
  cases q:F' a with
  | none=>rfl
  | some o =>
   have q2:H' a=some o:=by
    cases n:iH o with
    | true=>exact he.get a o q n
    | false =>
     obtain⟨ps,rfl⟩:=yA n
     obtain⟨m,z⟩:=he.tb a ps q
     rw[hs a _ e]at z
     cases z
   rw[hs a _ e]at q2
   cases q2
   rcases h3 a ws q with z | z
   ·rw[n]at z;cases z
   ·rw[e]at z;cases z
 refine⟨he,c.b1.trans hs,c.b2.trans hf,λa o q=>(h3 a o q).elim (c.b3 a o) λz=>.inr (c.b1.free z),A++A0,C,R.cons r (r0.grow hf hs λa ha=>no a (r0.lists a ha)),
  s.keep hf (gw.same hs) gZ.nil (λa ha=>no a (s.lists a ha)) (by simp),?_,?_⟩
 ·rw[cZ]
  refine fX.mpr ⟨nd,nd0,λa ha hb=>?_⟩
  have z:=fr a ha
  rcases cg.mp hb with y | y
  ·obtain⟨⟨_,q⟩,_⟩:=r0.lists a y;rw[z]at q;cases q
  ·obtain⟨⟨_,q⟩,_⟩:=s.lists a y;rw[z]at q;cases q
 ·intro a ha
  rw[cZ]at ha
  rcases cg.mp ha with y | y
  ·exact c.b1.free (fr a y)
  ·exact fr0 a y
theorem aj.inS(c:aj B F H σ δ ((d,v)::ts)):aj B F H (some v::σ) (some d::δ) ts:=by
 obtain⟨A,C,r,s,nd,fr⟩:=c.own
 obtain⟨w,bW,A1,A2,e',rfl,h1,h2⟩:=R.cE r
 obtain⟨rfl,rfl⟩:=nI e'
 have pp:((A1++A2)++C).Perm (A2++(A1++C)):=by
  rw[<-cZ];exact nJ.append_right C
 exact⟨c.ext,c.b1,c.b2,c.b3,A2,A1++C,h2,.dO h1 s,pp.nodup_iff.mp nd,λa ha=>fr a (pp.mem_iff.mpr ha)⟩
theorem aj.cM8{w:V}(c:aj B F H (some w::σ) (some d::δ) ts):aj B F H σ δ ((d,w)::ts):=by
 obtain⟨A,C,r,s,nd,fr⟩:=c.own
 cases s with
 | @dO _ _ A1 _ _ C1 h1 s =>
  have pp:(A++(A1++C1)).Perm ((A1++A)++C1):=by
   rw[<-cZ];exact nJ.append_right C1
  exact⟨c.ext,c.b1,c.b2,c.b3,A1++A,C1,R.cons h1 r,s,pp.nodup_iff.mp nd,λa ha=>fr a (pp.mem_iff.mpr ha)⟩
theorem aj.FX(c:aj B F H σ δ ((d,v)::(.lst true xs,.ref p)::ts))(hp:H p=some (.lst ws)):aj B F (upd H p (.lst (ws++[v]))) σ δ ((.lst true (xs++[d]),.ref p)::ts):=by
 have c1:=(c.perm (Ej _ _ _)).inS
 refine(aj.mut (ps:=[(d,v)]) (i:=0) (ys:=xs++[d]) (vs:=ws++[v]) c1 rfl rfl λdR A1 A2 h r1 r2 nd=>?_).cM8
 rw[hp]at h;cases h
 exact⟨A1++A2,r1.append r2,nd,λa ha=>ha⟩
theorem aj.app(c:aj B F H σ δ ((d,v)::ts))(e:δ[i]?=some (some (.lst true xs)))(e2:σ[i]?=some (some (.ref p)))(hp:H p=some (.lst ws)) :
  aj B F (upd H p (.lst (ws++[v]))) σ (δ.set i (some (.lst true (xs++[d])))) ts :=
 aj.mut (ps:=[(d,v)]) c e e2 λdR A1 A2 h r1 r2 nd=>by
  rw[hp]at h;cases h
  exact⟨A1++A2,r1.append r2,nd,λa ha=>ha⟩
theorem R.Om:∀{xs:List D} {ws:List V} {A1 A2:List Addr} (j:Nat),R F H xs ws A1->R F H [d] [v] A2->(A1++A2).Nodup->∃A',R F H (xs.set j d) (ws.set j v) A'/\A'.Nodup/\∀a∈A',a∈A1++A2
 | [],_,A1,A2,j,r,q,nd=>by cases r;exact⟨[],.nil,by simp,by simp⟩
 | x::xs,_,A1,A2,j,r,q,nd=>by
  obtain⟨w,dR,B1,B2,rfl,rfl,h1,h2⟩:=r.cE
  rw[cZ]at nd
  obtain⟨n1,n2,n3⟩:=fX.mp nd
  cases j with
  | zero =>
   refine⟨A2++B2,q.cons h2,(nJ (l₁:=B2) (l₂:=A2)).nodup_iff.mp n2,λa ha=>?_⟩
   simp only[cg]at ha ⊢
   rcases ha with z | z
   ·exact .inr z
   ·exact .inl (.inr z)
  | succ j =>
   obtain⟨A',r',og,sub⟩:=R.Om j h2 q n2
   refine⟨B1++A',h1.cons r',fX.mpr ⟨n1,og,λa ha hb=>n3 a ha (sub a hb)⟩,λa ha=>?_⟩
   rcases cg.mp ha with z | z
   ·simp[z]
   ·have:=sub a z
    simp only[cg]at this ⊢
    rcases this with z | z
    ·exact .inl (.inr z)
    ·exact .inr z
theorem aj.cM9(c:aj B F H σ δ ((d,v)::ts))(e:δ[i]?=some (some (.lst true xs)))(e2:σ[i]?=some (some (.ref p)))(hp:H p=some (.lst ws))(j:Nat) :
  aj B F (upd H p (.lst (ws.set j v))) σ (δ.set i (some (.lst true (xs.set j d)))) ts :=
 aj.mut (ps:=[(d,v)]) c e e2 λdR A1 A2 h r1 r2 nd=>by
  rw[hp]at h;cases h
  exact r1.Om j r2 nd
theorem aj.ownAt(c:aj B F H σ δ ts)(e:δ[i]?=some (some (.lst true xs))):∃p ws,σ[i]?=some (some (.ref p))/\H p=some (.lst ws)/\xs.length=ws.length:=by
 obtain⟨v,e1,s⟩:=c.look e
 cases s with
 | own h x _=>exact⟨_,_,e1,h,x.length⟩
theorem RS.start{ds:List D}{vs:List V}(r:R F H ds vs [])(n:Nat):RS F H (ds.map some++bg n none) (vs.map some++bg n none) []:=by
 have z:∀n,RS F H (bg n none) (bg n none) []:=λn=>by
  induction n with
  | zero=>exact .nil
  | succ n ih=>exact .av ih
 have:∀(ds:List D) (vs:List V),R F H ds vs []->RS F H (ds.map some++bg n none) (vs.map some++bg n none) []:=by
  intro ds
  induction ds with
  | nil=>intro vs r;cases r;exact z n
  | cons d ds ih =>
   intro vs r
   obtain⟨v,bW,A1,A2,rfl,e,h1,h2⟩:=r.cE
   obtain⟨rfl,rfl⟩:=qt.mp e.symm
   exact .dO (A:=[]) h1 (ih _ h2)
 exact this ds vs r
theorem aj.start{ds:List D}{vs:List V}(e:ag F H)(r:R F H ds vs [])(n:Nat):aj ⟨H,F⟩ F H (vs.map some++bg n none) (ds.map some++bg n none) [] :=
 ⟨e,ag.refl _,ag.refl _,λ_ _ q=>.inl q,[],[],.nil,RS.start r n,by simp,by simp⟩
theorem aj.snap(c:aj B F H σ δ ts):aj B (L3.snap F H) H σ δ ts:=by
 obtain⟨A,C,r,s,nd,fr⟩:=c.own
 have no:∀a,(∃ws,H a=some (.lst ws))/\F a=none->L3.snap F H a=none:=λa ⟨⟨ws,e⟩,n⟩=>bQ6 e n
 exact⟨b97 c.ext,c.b1,c.b2.trans (uh c.ext),λa ws q=>c.b3 a ws (bS6 c.ext q),A,C,r.grow (uh c.ext) (ag.refl _) λa ha=>no a (r.lists a ha),
  s.keep (uh c.ext) (gw.same (ag.refl _)) gZ.nil (λa ha=>no a (s.lists a ha)) (by simp),nd,fr⟩
end
end L3
namespace L3
open PySem L2 PySem.Spec PyProof.Rows
noncomputable abbrev aH:=Dl->(D->Dl->Prop)->Prop
noncomputable abbrev fI:=Dl->(Bool->Dl->Prop)->Prop
noncomputable abbrev cO:=Dl->(List D->Dl->Prop)->Prop
structure qL where
 nx:Dl->Prop
 rt:D->Prop
 bk:Dl->Prop:=λ_=>False
 ct:Dl->Prop:=λ_=>False
 xc:Addr->Dl->Prop:=λ_ _=>False
 xr:Addr->Dl->Prop:=λ_ _=>False
noncomputable abbrev dd:=qL->Dl->Prop
inductive lE(t:aH)(σ:L2.St)(H:Hp)(Q:VK):Prop
 | mk (B F δ ts Qd) (c:aj B F H σ δ ts) (q:t δ Qd) (k:∀d ai v F' H',Qd d ai->ag F F'->ag H H'->aj B F' H' σ ai ((d,v)::ts)->Q v H')
inductive lB(t:aH)(σ:L2.St)(H:Hp)(Q:VK):Prop
 | mk (B F δ ts Qd) (c:aj B F H σ δ ts) (q:t δ Qd) (k:∀d ai v F' H',Qd d ai->ag F F'->ag H H'->aj B F' H' σ ai ts->S F' H' [d] [v]->Q v H')
inductive lT(t:fI)(σ:L2.St)(H:Hp)(Q:Bool->Hp->Prop):Prop
 | mk (B F δ ts Qd) (c:aj B F H σ δ ts) (q:t δ Qd) (k:∀b ai F' H',Qd b ai->ag F F'->ag H H'->aj B F' H' σ ai ts->Q b H')
inductive lA(t:cO)(σ:L2.St)(H:Hp)(Q:List V->Hp->Prop):Prop
 | mk (B F δ ts Qd) (c:aj B F H σ δ ts) (q:t δ Qd) (k:∀ds ai vs F' H',Qd ds ai->ag F F'->ag H H'->aj B F' H' σ ai ts->S F' H' ds vs->Q vs H')
inductive lO(t:cO)(σ:L2.St)(H:Hp)(Q:List V->Hp->Prop):Prop
 | mk (B F δ ts Qd) (c:aj B F H σ δ ts) (q:t δ Qd) (k:∀(ps:List (D × V)) ai F' H',Qd (ps.map (·.1)) ai->ag F F'->ag H H'->aj B F' H' σ ai (ps++ts)->Q (ps.map (·.2)) H')
noncomputable def XL(X:Cx)(B:Bs)(Dd:qL):Prop :=
 (∀C ai pins aK F' H' s' a T,Dd.xc C ai->aj B F' H' aK ai []->Inv X pins aK H' s'->Φ s'.heap a T (.ref C)->Apart X pins H' a->Apart X pins H' T->X.xe (.ref a) s') /\
 (∀C ai pins aK F' H' s' h' e vs,Dd.xr C ai->aj B F' H' aK ai []->Inv X pins aK H' s'->Heap.MadeExcOf s'.heap h' e (.ref C) vs->X.xe (.ref e) { s' with heap:=h' })
theorem XL.none{X:Cx}{B:Bs}{Dd:qL}(h1:∀C δ,¬ Dd.xc C δ)(h2:∀C δ,¬ Dd.xr C δ):XL X B Dd:=⟨λC δ _ _ _ _ _ _ _ h=>absurd h (h1 C δ),λC δ _ _ _ _ _ _ _ _ h=>absurd h (h2 C δ)⟩
structure LK(X:Cx)(B:Bs)(Dd:qL)(D:Ends):Prop where
 k1:∀ai aK F' H',Dd.nx ai->aj B F' H' aK ai []->D.nx aK H'
 k2:∀d v ai aK F' H',Dd.rt d->aj B F' H' aK ai [(d,v)]->D.rt v H'
 k3:∀ai aK F' H',Dd.bk ai->aj B F' H' aK ai []->D.bk aK H'
 k4:(∀ai aK F' H',Dd.ct ai->aj B F' H' aK ai []->D.ct aK H')/\XL X B Dd
inductive lS(X:Cx)(t:dd)(D:Ends)(σ:L2.St)(H:Hp):Prop
 | mk (B F δ Dd) (c:aj B F H σ δ []) (q:t Dd δ) (k:LK X B Dd D)
section
variable{X:Cx}{e a b c:Expr}{es:List Expr}{pos:Pos}{st:Stmt}{yF:List Stmt}
theorem dm{t t':TE}(h:PE X e t)(m:∀σ H Q,t' σ H Q->t σ H Q):PE X e t':=λpins s σ H Q I q=>h pins s σ H Q I (m σ H Q q)
theorem FY{t t':TT}(h:PT X e t)(m:∀σ H Q,t' σ H Q->t σ H Q):PT X e t':=λpins s σ H Q I q=>h pins s σ H Q I (m σ H Q q)
theorem Oo{t t':TT}(h:PW X e t)(m:∀σ H Q,t' σ H Q->t σ H Q):PW X e t':=λwh pins s σ H Q I q=>h wh pins s σ H Q I (m σ H Q q)
theorem yG{t t':TA}(h:PA X es t)(m:∀σ H Q,t' σ H Q->t σ H Q):PA X es t':=λp pins s σ H Q I q=>h p pins s σ H Q I (m σ H Q q)
theorem jk{t t':TS}(h:PS X st t)(m:∀D σ H,t' D σ H->t D σ H):PS X st t':=λpins s σ H D I q=>h pins s σ H D I (m D σ H q)
theorem FZ{t t':TS}(h:PSs X yF t)(m:∀D σ H,t' D σ H->t D σ H):PSs X yF t':=λpins s σ H D I q=>h pins s σ H D I (m D σ H q)
variable{t u ta tb tc:aH}
theorem ae(h:PE X e (lE t)):PE X e (lB t):=dm h λσ H Q zq=>by
 obtain⟨B,F,δ,ts,Qd,c,q,k⟩:=zq
 exact⟨B,F,δ,ts,Qd,c,q,λd ai v F' H' hd sf sh c'=>k d ai v F' H' hd sf sh c'.pop c'.top⟩
noncomputable def oh(t:aH):aH:=λδ Q=>t δ λd ai=>d.pl=true/\Q d ai
theorem dq(h:PE X e (lB t)):PE X e (lE (oh t)):=dm h λσ H Q zq=>by
 obtain⟨B,F,δ,ts,Qd,c,q,k⟩:=zq
 exact⟨B,F,δ,ts,_,c,q,λd ai v F' H' hd sf sh c' s=>k d ai v F' H' hd.2 sf sh (c'.pushS s hd.1)⟩
noncomputable def mK(i:Nat):aH:=λδ Q=>match δ[i]? with
 | some (some d)=>Q d δ
 | _=>False
noncomputable def mL(i:Nat):aH:=λδ Q=>match δ[i]? with
 | some (some d)=>Q d (δ.set i none)
 | _=>False
theorem cm8{i:Nat}{δ:Dl}{Q:D->Dl->Prop}(h:mK i δ Q):∃d,δ[i]?=some (some d)/\Q d δ:=by
 unfold mK at h
 split at h
 ·rename_i d e;exact⟨d,e,h⟩
 ·exact h.elim
theorem b82{i:Nat}{δ:Dl}{Q:D->Dl->Prop}(h:mL i δ Q):∃d,δ[i]?=some (some d)/\Q d (δ.set i none):=by
 unfold mL at h
 split at h
 ·rename_i d e;exact⟨d,e,h⟩
 ·exact h.elim
noncomputable def dC(d:D):aH:=λδ Q=>Q d δ
theorem bv(i:Nat){x:Str}(hN:X.N[i]?=some x:=by rfl)(hv:jY X.env.scope x:=by first | exact az rfl | exact bY (az rfl) | exact bY (bY rfl))(hd:(x==("__debug__":Str))=false:=by decide)
  (cq:(x==("__classdict__":Str))=false:=by decide):PE X (.Name x pos) (lB (mK i)):=dm (mB hN hv hd cq) λσ H Q zq=>by
 obtain⟨B,F,δ,ts,Qd,c,q,k⟩:=zq
 obtain⟨d,e,q⟩:=cm8 q
 obtain⟨v,e1,s⟩:=c.look e
 exact⟨v,e1,k d δ v F H q (ag.refl _) (ag.refl _) c s⟩
theorem em(i:Nat){x:Str}(hN:X.N[i]?=some x:=by rfl)(hv:jY X.env.scope x:=by first | exact az rfl | exact bY (az rfl) | exact bY (bY rfl))(hd:(x==("__debug__":Str))=false:=by decide)
  (cq:(x==("__classdict__":Str))=false:=by decide):PE X (.Name x pos) (lE (mL i)):=dm (mB hN hv hd cq) λσ H Q zq=>by
 obtain⟨B,F,δ,ts,Qd,c,q,k⟩:=zq
 obtain⟨d,e,q⟩:=b82 q
 obtain⟨v,e1,c'⟩:=c.move e
 exact⟨v,e1,k d _ v F H q (ag.refl _) (ag.refl _) c'⟩
theorem Ga{B:Bs}{F H:Hp}{σ:L2.St}{δ:Dl}{ts:List (D × V)}{Qd:D->Dl->Prop}{Q:VK}{d:D}{v:V}(c:aj B F H σ δ ts)(q:Qd d δ)(s:S F H [d] [v])(p:d.pl=true)
  (k:∀d ai v F' H',Qd d ai->ag F F'->ag H H'->aj B F' H' σ ai ((d,v)::ts)->Q v H'):Q v H:=k d δ v F H q (ag.refl _) (ag.refl _) (c.pushS s p)
theorem au{i j}:PE X (.Constant (.int i) j pos) (lE (dC (.int i))):=dm nQ λσ H Q ⟨B,F,δ,ts,Qd,c,q,k⟩=>Ga c q (.int .nil) rfl k
theorem g7{i j}:PE X (.Constant (.bool i) j pos) (lE (dC (.bl i))):=dm Xs λσ H Q ⟨B,F,δ,ts,Qd,c,q,k⟩=>Ga c q (.bl .nil) rfl k
theorem Br{j}:PE X (.Constant .none j pos) (lE (dC .av)):=dm Xt λσ H Q ⟨B,F,δ,ts,Qd,c,q,k⟩=>Ga c q (.av .nil) rfl k
noncomputable abbrev cW:=D->D->(D->Prop)->Prop
noncomputable def Bt(r:R2)(rd:cW):Prop:=∀{B:Bs} {F H:Hp} {σ:L2.St} {δ:Dl} {ts:List (D × V)} {x y:D} {v w:V} {Q:VK} {Qd:D->Prop},aj B F H σ δ ts->S F H [x] [v]->S F H [y] [w]->rd x y Qd ->
 (∀d z H',Qd d->ag H H'->aj B F H' σ δ ((d,z)::ts)->Q z H')->r v w H Q
noncomputable def bZ(X:Cx)(f:Value->Value->Sem Value)(rd:cW):Prop:=∃r,cM X f r/\Bt r rd
theorem bZ.or{f:Value->Value->Sem Value}{r1 r2:cW}(h1:bZ X f r1)(h2:bZ X f r2):bZ X f λx y Q=>r1 x y Q\/r2 x y Q:=by
 obtain⟨q1,a1,b1⟩:=h1
 obtain⟨q2,a2,b2⟩:=h2
 refine⟨_,a1.or a2,λ{B F H σ δ ts x y v w Q Qd} c sx sy h k=>?_⟩
 rcases h with h | h
 ·exact .inl (b1 c sx sy h k)
 ·exact .inr (b2 c sx sy h k)
theorem bZ.imp{f:Value->Value->Sem Value}{r1 r2:cW}(h1:bZ X f r1)(h:∀x y Q,r2 x y Q->r1 x y Q):bZ X f r2:=by
 obtain⟨q1,a1,b1⟩:=h1
 exact⟨q1,a1,λ{B F H σ δ ts x y v w Q Qd} c sx sy h2 k=>b1 c sx sy (h _ _ _ h2) k⟩
noncomputable def lF(rd:cW)(ta tb:aH):aH:=λδ Q=>ta δ λx ak=>tb ak λy bh=>rd x y λd=>Q d bh
theorem Gb{r:R2}{rd:cW}(hl:Bt r rd):∀σ H Q,lE (lF rd ta tb) σ H Q->yg r (lB ta) (lB tb) σ H Q:=λσ H Q ⟨B,F,δ,ts,Qd,c,q,k⟩ =>
 ⟨B,F,δ,ts,_,c,q,λx ak v F1 H1 q1 f1 h1 c1 s1=>⟨B,F1,ak,ts,_,c1,q1,λy bh w F2 H2 q2 f2 h2 c2 s2 =>
  hl c2 (s1.mono f2 h2) s2 q2 λd z H' hd hs c3=>k d bh z F2 H' hd (f1.trans f2) ((h1.trans h2).trans hs) c3⟩⟩
theorem aA{op:Operator}{rd:cW}(ho:bZ X (binaryOp op) rd)(ha:PE X a (lB ta))(hb:PE X b (lB tb)):PE X (.BinOp a op b pos) (lE (lF rd ta tb)):=by
 obtain⟨r,h1,h2⟩:=ho
 exact dm (yh h1 ha hb) (Gb h2)
theorem yH{op:CmpOp}{rd:cW}(ho:bZ X (compareOp op) rd)(ha:PE X a (lB ta))(hb:PE X b (lB tb))(hm:behindInMarks op b=false):PE X (.Compare a [op] [b] pos) (lE (lF rd ta tb)):=by
 obtain⟨r,h1,h2⟩:=ho
 exact dm (Yw h1 ha hb hm) (Gb h2)
noncomputable def dT(t:aH):fI:=λδ Q=>t δ λd ai=>∃k,d=.bl k/\Q k ai
theorem b29{te:TE}(h:∀σ H Q,lE t σ H Q->te σ H Q):∀σ H Q,lT (dT t) σ H Q->M7 te σ H Q:=λσ H Q zz=>by
 obtain⟨B,F,δ,ts,Qd,c,q,k⟩:=zz
 refine h σ H _ ⟨B,F,δ,ts,_,c,q,λd ai v F' H' hd sf sh c'=>?_⟩
 obtain⟨b,rfl,qb⟩:=hd
 have s:=c'.top
 cases s with
 | bl _=>exact⟨b,rfl,k b ai F' H' qb sf sh c'.pop⟩
theorem bU{op:CmpOp}{rd:cW}(ho:bZ X (compareOp op) rd)(ha:PE X a (lB ta))(hb:PE X b (lB tb))(hm:behindInMarks op b=false):PT X (.Compare a [op] [b] pos) (lT (dT (lF rd ta tb))):=by
 obtain⟨r,h1,h2⟩:=ho
 exact FY (E8 h1 ha hb hm) (b29 (Gb h2))
noncomputable def oi(r r':cW)(ta tb tc:aH):aH:=λδ Q=>ta δ λx ak=>tb ak λy bh=>r x y λd=>∃k,d=.bl k/\if k=true then tc bh λz gI=>r' y z λd'=>Q d' gI else Q (.bl false) bh
theorem ig(h:PE X e (lB t))(he:∀whole,isTrue e X.env whole=(do let v<-whole;standAt e.pos;holding [v] (truthy v)):=by intro _;rfl):PT X e (lT (dT t)) :=
 FY (A6 h he) λσ H Q zq=>by
 obtain⟨B,F,δ,ts,Qd,c,q,k⟩:=zq
 exact⟨B,F,δ,ts,_,c,q,λd ai v F' H' hd sf sh c' s=>by
  obtain⟨b,rfl,qb⟩:=hd
  cases s with
  | bl _=>exact⟨b,rfl,k b ai F' H' qb sf sh c'⟩⟩
variable{tA tB:fI}{rest:List Expr}
noncomputable def qM(t u:fI):fI:=λδ Q=>t δ λc ak=>if c=true then u ak Q else Q false ak
noncomputable def qN(t u:fI):fI:=λδ Q=>t δ λc ak=>if c=true then Q true ak else u ak Q
noncomputable def qO(t:fI):fI:=λδ Q=>t δ λc ak=>Q (!c) ak
theorem Bu(ha:PT X a (lT tA))(hb:PW X (.BoolOp .And (b::rest) pos) (lT tB)):PW X (.BoolOp .And (a::b::rest) pos) (lT (qM tA tB)) :=
 Oo (Xy ha hb) λσ H Q zq=>by
 obtain⟨B,F,δ,ts,Qd,c,q,k⟩:=zq
 exact⟨B,F,δ,ts,_,c,q,λb ak F1 H1 q1 f1 h1 c1=>by
  cases b with
  | true=>exact nY ⟨B,F1,ak,ts,Qd,c1,by simpa using q1,λb ai F' H' hd sf sh c'=>k b ai F' H' hd (f1.trans sf) (h1.trans sh) c'⟩
  | false=>exact ji (k false ak F1 H1 (by simpa using q1) f1 h1 c1)⟩
theorem mM(ha:PT X a (lT tA))(hb:PW X (.BoolOp .Or (b::rest) pos) (lT tB)):PW X (.BoolOp .Or (a::b::rest) pos) (lT (qN tA tB)) :=
 Oo (MX ha hb) λσ H Q zq=>by
 obtain⟨B,F,δ,ts,Qd,c,q,k⟩:=zq
 exact⟨B,F,δ,ts,_,c,q,λb ak F1 H1 q1 f1 h1 c1=>by
  cases b with
  | true=>exact nY (k true ak F1 H1 (by simpa using q1) f1 h1 c1)
  | false=>exact ji ⟨B,F1,ak,ts,Qd,c1,by simpa using q1,λb ai F' H' hd sf sh c'=>k b ai F' H' hd (f1.trans sf) (h1.trans sh) c'⟩⟩
theorem kF(ha:PT X a (lT tA)):PT X (.UnaryOp .Not a pos) (lT (qO tA)) :=
 FY (Ba ha) λσ H Q zq=>by
 obtain⟨B,F,δ,ts,Qd,c,q,k⟩:=zq
 exact⟨B,F,δ,ts,_,c,q,λb ak F1 H1 q1 f1 h1 c1=>k _ ak F1 H1 q1 f1 h1 c1⟩
noncomputable def qP(ta tb:aH):aH:=λδ Q=>ta δ λx ak=>∃c,x=.bl c/\if c=true then tb ak Q else Q (.bl false) ak
noncomputable def qQ(ta:aH):aH:=λδ Q=>ta δ λx ak=>∃c,x=.bl c/\Q (.bl (!c)) ak
theorem qR(ha:PE X a (lB ta))(hb:PE X (.BoolOp .And (b::rest) pos) (lE tb)):PE X (.BoolOp .And (a::b::rest) pos) (lE (qP ta tb)) :=
 dm (XB ha hb) λσ H Q zq=>by
 obtain⟨B,F,δ,ts,Qd,c,q,k⟩:=zq
 exact⟨B,F,δ,ts,_,c,q,λd ak v F1 H1 q1 f1 h1 c1 s1=>by
  obtain⟨b,rfl,qb⟩:=q1
  cases s1 with
  | bl _ =>
   refine⟨b,rfl,?_⟩
   cases b with
   | true=>exact nY ⟨B,F1,ak,ts,Qd,c1,by simpa using qb,λd ai v F' H' hd sf sh c'=>k d ai v F' H' hd (f1.trans sf) (h1.trans sh) c'⟩
   | false=>exact ji (k _ ak _ F1 H1 (by simpa using qb) f1 h1 (c1.pushS (.bl .nil) rfl))⟩
theorem Oq(ha:PE X a (lB ta)):PE X (.UnaryOp .Not a pos) (lE (qQ ta)) :=
 dm (XC ha) λσ H Q zq=>by
 obtain⟨B,F,δ,ts,Qd,c,q,k⟩:=zq
 exact⟨B,F,δ,ts,_,c,q,λd ak v F1 H1 q1 f1 h1 c1 s1=>by
  obtain⟨b,rfl,qb⟩:=q1
  cases s1 with
  | bl _=>exact⟨b,rfl,k _ ak _ F1 H1 qb f1 h1 (c1.pushS (.bl .nil) rfl)⟩⟩
noncomputable def qS(t:fI)(ta tb:aH):aH:=λδ Q=>t δ λc ak=>if c=true then ta ak Q else tb ak Q
theorem Gd(hc:PT X c (lT tA))(ha:PE X a (lE ta))(hb:PE X b (lE tb)):PE X (.IfExp c a b pos) (lE (qS tA ta tb)) :=
 dm (XE hc ha hb) λσ H Q zq=>by
 obtain⟨B,F,δ,ts,Qd,c,q,k⟩:=zq
 exact⟨B,F,δ,ts,_,c,q,λb ak F1 H1 q1 f1 h1 c1=>by
  cases b with
  | true=>exact nY ⟨B,F1,ak,ts,Qd,c1,by simpa using q1,λd ai v F' H' hd sf sh c'=>k d ai v F' H' hd (f1.trans sf) (h1.trans sh) c'⟩
  | false=>exact ji ⟨B,F1,ak,ts,Qd,c1,by simpa using q1,λd ai v F' H' hd sf sh c'=>k d ai v F' H' hd (f1.trans sf) (h1.trans sh) c'⟩⟩
noncomputable def oj:cO:=λδ Q=>Q [] δ
noncomputable def om(t:aH)(r:cO):cO:=λδ Q=>t δ λd ak=>r ak λds bh=>Q (d::ds) bh
theorem ax:PA X [] (lA oj):=yG eB λσ H Q ⟨B,F,δ,ts,Qd,c,q,k⟩=>k [] δ [] F H q (ag.refl _) (ag.refl _) c .nil
variable{tr:cO}
theorem ah(ha:PE X e (lB t))(hr:PA X es (lA tr))(hs:starEach (e::es) X.env=(false,eval e X.env)::starEach es X.env:=by rfl):PA X (e::es) (lA (om t tr)) :=
 yG (bV ha hr hs) λσ H Q zq=>by
 obtain⟨B,F,δ,ts,Qd,c,q,k⟩:=zq
 exact⟨B,F,δ,ts,_,c,q,λd ak v F1 H1 q1 f1 h1 c1 s1=>⟨B,F1,ak,ts,_,c1,q1,λds bh vs F2 H2 q2 f2 h2 c2 s2 =>
  k (d::ds) bh (v::vs) F2 H2 q2 (f1.trans f2) (h1.trans h2) c2 ((s1.mono f2 h2).cons s2)⟩⟩
theorem cP:PA X [] (lO oj):=yG eB λσ H Q ⟨B,F,δ,ts,Qd,c,q,k⟩=>k [] δ F H q (ag.refl _) (ag.refl _) c
theorem eQ(ha:PE X e (lE t))(hr:PA X es (lO tr))(hs:starEach (e::es) X.env=(false,eval e X.env)::starEach es X.env:=by rfl):PA X (e::es) (lO (om t tr)) :=
 yG (bV ha hr hs) λσ H Q zq=>by
 obtain⟨B,F,δ,ts,Qd,c,q,k⟩:=zq
 exact⟨B,F,δ,ts,_,c,q,λd ak v F1 H1 q1 f1 h1 c1=>⟨B,F1,ak,(d,v)::ts,_,c1,q1,λps bh F2 H2 q2 f2 h2 c2 =>
  k ((d,v)::ps) bh F2 H2 q2 (f1.trans f2) (h1.trans h2) (c2.perm (Mn))⟩⟩
noncomputable def oo(t:cO):aH:=λδ Q=>t δ λds ai=>ds.length<=sizeLine/\Q (.lst true ds) ai
noncomputable def qT(t:cO):aH:=λδ Q=>t δ λds ai=>ds.length<=sizeLine/\Q (.tup ds) ai
theorem dD(h:PA X es (lO tr)):PE X (.List es pos) (lE (oo tr)) :=
 dm (Nf h) λσ H Q zq=>by
 obtain⟨B,F,δ,ts,Qd,c,q,k⟩:=zq
 exact⟨B,F,δ,ts,_,c,q,λps ak F1 H1 q1 f1 h1 c1=>⟨by simpa using q1.1,λp hp=>k _ ak _ F1 _ q1.2 f1 (h1.trans (ag.upd hp)) (c1.cM2 hp)⟩⟩
theorem yI{x1}(h:PA X es (lO tr)):PE X (.Tuple es x1 pos) (lE (qT tr)) :=
 dm (Nd h) λσ H Q zq=>by
 obtain⟨B,F,δ,ts,Qd,c,q,k⟩:=zq
 exact⟨B,F,δ,ts,_,c,q,λps ak F1 H1 q1 f1 h1 c1=>⟨by simpa using q1.1,λp hp=>k _ ak _ F1 _ q1.2 f1 (h1.trans (ag.upd hp)) (c1.Ol hp)⟩⟩
end
end L3
namespace L3
open PySem L2 PySem.Spec PyProof.Rows
noncomputable abbrev aX:=List D->(D->Prop)->Prop
inductive aY(sp:aX)(vs:List V)(H:Hp)(Q:VK)(E:XK):Prop
 | mk (F ds Qd) (e:ag F H) (r:R F H ds vs []) (q:sp ds Qd) (k:∀d v F' H' A,Qd d->ag H H'->ag F F'->ag F' H'->(∀a ws,F' a=some (.lst ws)->F a=some (.lst ws)\/H a=none)->R F' H' [d] [v] A->A.Nodup->(∀a∈A,H a=none)->Q v H')
noncomputable def mN(sp:aX)(t:cO):aH:=λδ Q=>t δ λds ai=>sp (ds.map D.sh) λd=>(ds.all D.pl||d.fr)=true/\Q d ai
theorem Bv{B:Bs}{F H:Hp}{σ:L2.St}{δ:Dl}{ts:List (D × V)}{Qd:D->Prop}{Q:VK}{E:XK}{ds:List D}{vs:List V}{sp:aX}(c:aj B F H σ δ ts)(s:S F H ds vs)(q:sp (ds.map D.sh) λd=>(ds.all D.pl||d.fr)=true/\Qd d)
  (k:∀d v F' H',Qd d->ag F F'->ag H H'->aj B F' H' σ δ ((d,v)::ts)->Q v H'):aY sp vs H Q E:=by
 by_cases hp:ds.all D.pl=true
 ·rw[mI hp]at q
  exact⟨F,ds,_,c.ext,s.r hp,q,λd v F' H' A hd hs hf he h3 r nd fr=>k d v F' H' hd.2 hf hs (c.call hs hf he h3 r nd fr)⟩
 ·refine⟨H,ds.map D.sh,_,ag.refl _,s.frozen c.ext,q,λd v F' H' A hd hs hf he h3 r nd fr=>?_⟩
  have fJ:d.fr=true:=by
   have:=hd.1
   rw[Bool.or_eq_true]at this
   exact this.resolve_left hp
  exact k d v F H' hd.2 (ag.refl _) hs (c.Bq hs (r.qK (by simp[fJ]) (c.ext.trans hf)) nd fr)
section
variable{X:Cx}{CX:e7}{n:Nat}{f:Addr}{fd:FuncData}{ps:List Str}{sp:aX}{E:XK}{x:Str}{p pos:Pos}{e:Expr}{es:List Expr}{t:cO}
theorem uj(F:aJ X.prog X.w X.K X.mg X.base CX n f fd ps (aY sp))(hr:cu n X.A)(hg:Gl X x)(hm:X.mg x=some (.ref f))(hk:PySem.W.keepIn X.K (.ref f)=true)(hb:Binds X.K fd ps [])(hx:k0 CX X E)
  (ha:PA X (e::es) (lA t)) (dW:(x==("__debug__":Str))=false:=by decide) (he:starEach (e::es) X.env=(false,eval e X.env)::starEach es X.env:=by rfl) (bT:(backTo pos (starEach es X.env)).any (·.1)=false:=by rfl) :
  PE X (.Call (.Name x p) (e::es) [] pos) (lE (mN sp t)) :=
 dm (jF F hr hg hm hk hb .nil hx ha dW he bT) λσ H Q zq=>by
 obtain⟨B,F,δ,ts,Qd,c,q,k⟩:=zq
 exact⟨B,F,δ,ts,_,c,q,λds ak vs F1 H1 q1 f1 h1 c1 s1=>by
  show aY sp (vs++[]) H1 Q E
  rw[eH]
  exact Bv c1 s1 q1 λd v F' H' hd hf hs c'=>k d ak v F' H' hd (f1.trans hf) (h1.trans hs) c'⟩
end
noncomputable def lH(N:List Str)(ds:List D):Dl:=ds.map some++bg (N.length-ds.length) none
section
variable{P:Program}{w:World}{K:PySem.W.Frag}{mg:Str->Option Value}{base:Heap}
theorem bw{x qual:Str}{st:Stmt}{f:Addr}{fd:FuncData}{N ps:List Str}{k:Nat}{sp:aX}(F:aZ K x qual st f fd)(S:aW N ps (aL st))(len:∀ds Q,sp ds Q->ds.length=ps.length)
  (je:∀(aC:Value) (A:Around) (outer:List Env) (s:Shared) (H:Hp) (E:XK),cu k (A.deeper (envOfC qual (aL st) s.heap.objs.size f aC)) ->
   ∃t:dd,PSs (j5 aP P w K mg base N qual (aL st) f aC A outer s H E).h8 (gr st) (lS (j5 aP P w K mg base N qual (aL st) f aC A outer s H E).h8 t)/\∀ds Q,sp ds Q->t { nx:=λ_=>Q .av,rt:=Q } (lH N ds)):aJ P w K mg base aP (k+1) f fd ps (aY sp):=by
 refine F.ok S (λvs H Q E ⟨F,ds,Qd,e,r,h,_⟩=>by rw[<-r.length];exact len ds Qd h) λaC A outer s H vs Q E hr zz=>?_
 obtain⟨F,ds,Qd,e,r,h,k⟩:=zz
 obtain⟨t,ht,hq⟩:=je aC A outer s H E hr
 have fin:∀d v ai aK F' H',Qd d->aj ⟨H,F⟩ F' H' aK ai [(d,v)]->Q v H':=λd v ai aK F' H' hd c=>by
  obtain⟨A,C,r',s',nd,fr⟩:=c.own
  exact k d v F' H' A hd c.b1 c.b2 c.ext c.b3 r' (fX.mp nd).1 λa ha=>fr a (dZ _ ha)
 have e1:L2.start N vs=vs.map some++bg (N.length-ds.length) none:=by unfold L2.start;rw[r.length]
 refine⟨_,ht,⟨H,F⟩,F,lH N ds,_,?_,hq ds Qd h,λai aK F' H' hd c=>fin .av .av ai aK F' H' hd (c.pushS (.av .nil) rfl),fin,λ_ _ _ _ z=>z.elim,λ_ _ _ _ z=>z.elim,XL.none (λ_ _ z=>z) λ_ _ z=>z⟩
 rw[e1]
 exact aj.start e r _
end
section
variable{X:Cx}{e a b c:Expr}{es:List Expr}{pos:Pos}{st:Stmt}{yF rest:List Stmt}{t u:dd}{te:aH}{tt:fI}
noncomputable def qU:dd:=λD δ=>D.nx δ
noncomputable def Bw(t u:dd):dd:=λD δ=>t { D with nx:=u D } δ
theorem aD{t u:dd}{En:qL}{δ:Dl}(h:∀U:Dl->Prop,(∀ai,u En ai->U ai)->t { En with nx:=U } δ):Bw t u En δ:=h (u En) λ_ z=>z
theorem cQ:PSs X [] (lS X qU):=FZ tP λD σ H ⟨B,F,δ,Dd,c,q,k⟩=>k.k1 δ σ F H q c
theorem aE(h1:PS X st (lS X t))(h2:PSs X rest (lS X u)):PSs X (st::rest) (lS X (Bw t u)) :=
 FZ (eK h1 h2) λD σ H zq=>by
 obtain⟨B,F,δ,Dd,c,q,k1,k2,k3,k4⟩:=zq
 exact⟨B,F,δ,{ Dd with nx:=u Dd },c,q,λai aK F' H' hq c'=>⟨B,F',ai,Dd,c',hq,k1,k2,k3,k4⟩,k2,k3,k4⟩
theorem aB(h1:PS X st (lS X t)):PSs X [st] (lS X t):=jC h1
theorem Ge:PS X st (lS X λ_ _=>False):=jk tR λD σ H ⟨_,_,_,_,_,q,_⟩=>q.elim
noncomputable def oq(i:Nat)(t:dd):dd:=λD δ=>∃d,δ[i]?=some (some d)/\t D (δ.set i (some d.sh))
theorem BA(i:Nat)(h:PSs X yF (lS X t)):PSs X yF (lS X (oq i t)):=FZ h λD σ H zz=>by
 obtain⟨B,F,δ,Dd,c,⟨d,e,q⟩,k⟩:=zz
 obtain⟨F',s,c'⟩:=c.freeze e
 exact⟨B,F',_,Dd,c',q,k⟩
noncomputable def ot(i:Nat)(t:aH):dd:=λD δ=>t δ λd ai=>D.nx (ai.set i (some d))
theorem bo{i:Nat}{x:Str}{pos':Pos}(hN:X.N.Nodup)(hi:X.N[i]?=some x)(hx:Loc X.env.scope x)(he:PE X e (lE te))(hs:swapsWith e (some (.Name x pos')) pos.line X.env=pure false:=by rfl)
  (hf:X.fn x=true\/X.env.scope.names.lookup x=some .local:=by first | exact .inl rfl | exact .inr rfl | assumption):PS X (.Assign [.Name x pos'] e pos) (lS X (ot i te)) :=
 jk (EW hN hi hx he hs hf) λD σ H zq=>by
 obtain⟨B,F,δ,Dd,c,q,k1,k2,k3,k4⟩:=zq
 exact⟨B,F,δ,[],_,c,q,λd ai v F' H' hd sf sh c'=>k1 _ _ F' H' hd (c'.store i)⟩
noncomputable def qV(t:aH):dd:=λD δ=>t δ λd _=>D.rt d
theorem aR(he:PE X e (lE te)):PS X (.Return (some e) pos) (lS X (qV te)) :=
 jk (XM he) λD σ H zq=>by
 obtain⟨B,F,δ,Dd,c,q,k1,k2,k3,k4⟩:=zq
 exact⟨B,F,δ,[],_,c,q,λd ai v F' H' hd sf sh c'=>k2 d v ai σ F' H' hd c'⟩
noncomputable def qW(t:aH):dd:=λD δ=>t δ λ_ ai=>D.nx ai
theorem cx1(he:PE X e (lB te))(hs:swapsWith e none pos.line X.env=pure false:=by rfl):PS X (.Expr e pos) (lS X (qW te)) :=
 jk (mC he hs) λD σ H zq=>by
 obtain⟨B,F,δ,Dd,c,q,k1,k2,k3,k4⟩:=zq
 exact⟨B,F,δ,[],_,c,q,λd ai v F' H' hd sf sh c' s=>k1 ai σ F' H' hd c'⟩
noncomputable def ou(tc:fI)(t u:dd):dd:=λD δ=>tc δ λb ai=>if b=true then t D ai else u D ai
theorem cF{l r:List Stmt}(hc:PT X c (lT tt))(ha:PSs X l (lS X t))(hb:PSs X r (lS X u)):PS X (.If c l r pos) (lS X (ou tt t u)) :=
 jk (tQ hc ha hb) λD σ H zq=>by
 obtain⟨B,F,δ,Dd,c,q,k⟩:=zq
 exact⟨B,F,δ,[],_,c,q,λb ai F' H' hq sf sh c'=>by
  cases b with
  | true=>exact nY ⟨B,F',ai,Dd,c',by simpa using hq,k⟩
  | false=>exact ji ⟨B,F',ai,Dd,c',by simpa using hq,k⟩⟩
noncomputable def qX(i:Nat)(rd:cW)(t:aH):dd:=λD δ=>∃x,δ[i]?=some (some x)/\t δ λy ak=>rd x y λz=>D.nx (ak.set i (some z))
theorem BB{i:Nat}{x:Str}{op:Operator}{rd:cW}{pos':Pos}(hN:X.N.Nodup)(hi:X.N[i]?=some x)(hx:Loc X.env.scope x)(he:PE X e (lB te))(ho:bZ X (inplaceOp op) rd)
  (hf:X.fn x=true\/X.env.scope.names.lookup x=some .local:=by first | exact .inl rfl | exact .inr rfl | assumption):PS X (.AugAssign (.Name x pos') op e pos) (lS X (qX i rd te)):=by
 obtain⟨r,h1,h2⟩:=ho
 refine jk (X1 hN hi hx he (ti:=r) h1 hf) λD σ H zz=>?_
 obtain⟨B,F,δ,Dd,c,⟨d0,e0,q⟩,k1,k2,k3,k4⟩:=zz
 obtain⟨v0,e1,s0⟩:=c.look e0
 exact⟨v0,e1,B,F,δ,[],_,c,q,λd ai v F' H' hd sf sh c' s=>h2 c' (s0.mono sf sh) s hd λz w H2 hz h3 c3=>k1 _ _ F' H2 hz (c3.store i)⟩
noncomputable def qY(tc:fI)(tb:dd):dd:=λD δ=>∃W:Nat->Dl->Prop,(∃m,W m δ)/\∀m δ,W m δ->tc δ λb ai=>if b=true then tb { D with nx:=λai=>∃m',m'<m/\W m' ai,ct:=λai=>∃m',m'<m/\W m' ai,bk:=D.nx } ai else D.nx ai
theorem yJ{body:List Stmt}(hp:PassesOwn (model X.prog X.w) X.A X.env X.xe)(hc:PT X c (lT tt))(hb:PSs X body (lS X t)):PS X (.While c body [] pos) (lS X (qY tt t)) :=
 jk (X5 hp hc hb) λD σ H zz=>by
  obtain⟨B,F,δ,Dd,c,⟨W,⟨m0,w0⟩,hw⟩,k1,k2,k3,k4⟩:=zz
  refine⟨λm σ H=>∃F δ,aj B F H σ δ []/\W m δ,⟨m0,F,δ,c,w0⟩,λm σ H ⟨F,δ,c,w⟩=>⟨B,F,δ,[],_,c,hw m δ w,λb ai F' H' hq sf sh c'=>?_⟩⟩
  cases b with
  | true =>
   refine nY ⟨λaK H'=>∃m',m'<m/\∃F δ,aj B F H' aK δ []/\W m' δ,λaK H' z=>z,B,F',ai,{ Dd with nx:=λai=>∃m',m'<m/\W m' ai,ct:=λai=>∃m',m'<m/\W m' ai,bk:=Dd.nx },c',by simpa using hq,λbh mD F2 H2 ⟨m',hm,w2⟩ c2=>⟨m',hm,F2,bh,c2,w2⟩,k2,λbh mD F2 H2 z c2=>k1 bh mD F2 H2 z c2,λbh mD F2 H2 ⟨m',hm,w2⟩ c2=>⟨m',hm,F2,bh,c2,w2⟩,k4.2⟩
  | false=>exact ji (k1 ai σ F' H' (by simpa using hq) c')
end
structure JD(J:It)(F:Hp)(xs:List D):Prop where
 go:∀i H,ag F H->i<xs.length->J.go i H
 kC:∀i H x H',ag F H->i<xs.length->J.kC i H x H'->∃d,xs[i]?=some d/\ag H H'/\R F H' [d] [x] []
 stop:∀i H,ag F H->xs.length<=i->J.stop i H
noncomputable abbrev jM:=Dl->(Bool->List D->Dl->Prop)->Prop
inductive lI(t:jM)(σ:L2.St)(H:Hp)(Rr:It->Hp->Prop):Prop
 | mk (B F δ ts Qd) (c:aj B F H σ δ ts) (q:t δ Qd) (k:∀g xs ai J F' H',Qd g xs ai->ag F F'->ag H H'->aj B F' H' σ ai ts->JD J H' (xs.map D.sh)->(g=true->xs.all D.pl=true/\JD J F' xs)->Rr J H')
noncomputable abbrev iK:=D->Dl->(Dl->Prop)->Prop
inductive lG(m:Nat)(t:iK)(v:V)(σ:L2.St)(H:Hp)(Q:L2.St->Hp->Prop):Prop
 | mk (B F δ ts d Qd) (c:aj B F H σ δ ((d,v)::ts)) (q:t d δ Qd) (k:∀ai aK,Qd ai->aK.length=σ.length->(∀j,j<m->aK[j]?=σ[j]?)->aj B F H aK ai ts->Q aK H)
noncomputable def jN:D->Option (List D)
 | .lst _ xs=>some xs
 | .fz xs=>some xs
 | _=>none
section
variable{B:Bs}{F H F1:Hp}{σ:L2.St}{δ:Dl}{ts:List (D × V)}
end
section
variable{X:Cx}{e a b c tg l iter:Expr}{es:List Expr}{pos:Pos}{t u:dd}{te:aH}{tt:fI}{ta:cO}{m:Nat}
theorem wC{w w':TI}(h:PI X tg iter w)(m:∀σ H Q,w' σ H Q->w σ H Q):PI X tg iter w':=λpins s σ H Q I q=>h pins s σ H Q I (m σ H Q q)
theorem Ot{w w':TG}(h:PG X tg w)(m:∀v σ H Q,w' v σ H Q->w v σ H Q):PG X tg w':=λpins s σ H v u Q I r q=>h pins s σ H v u Q I r (m v σ H Q q)
noncomputable def gN(i:Nat):iK:=λd δ Q=>Q (δ.set i (some d))
theorem jl{i:Nat}{x:Str}(hN:X.N.Nodup)(hi:X.N[i]?=some x)(hx:Loc X.env.scope x)(hm:m<=i:=by decide)(hf:X.fn x=true\/X.env.scope.names.lookup x=some .local:=by first | exact .inl rfl | exact .inr rfl | assumption):PG X (.Name x pos) (lG m (gN i)) :=
 Ot (ya hN hi hx hf) λv σ H Q ⟨B,F,δ,ts,d,Qd,c,q,k⟩=>k _ _ q (by simp) (λj hj=>by rw[sZ (by omega)]) (c.store i)
theorem ow{K:PySem.W.Frag}{F H:Hp}{p:Addr}{xs:List D}{ws:List V}(hp:Rd F p (.lst ws))(r:R F H xs ws [])(hF:Full F H):JD (EY K p) F xs where
 go:=λi H' hs hi=>by
  have l:=r.length
  have fq:i<ws.length:=by omega
  exact⟨ws,ws[i],.inl (jj hp hs),aO fq⟩
 kC:=λi H' x H2 hs hi zz=>by
  obtain⟨e,y⟩:=zz
  subst e
  have hx:=y ws (.inl (jj hp hs))
  obtain⟨v,A1,e2,r1,sub⟩:=(r.full hF hs rfl).get (aO hi)
  rw[hx]at e2;cases e2
  have:A1=[]:=Mo.mpr λa ha=>by simpa using sub ha
  subst this
  exact⟨_,aO hi,ag.refl _,r1⟩
 stop:=λi H' hs hi=>⟨ws,.inl (jj hp hs),by have:=r.length;omega⟩
theorem BC{F:Hp}(lo:Int)(n:Nat):JD (yb lo n) F ((aF n).map λ(k:Nat)=>D.int (lo+(k:Int))) where
 go:=λi H' hs hi=>by
  have fq:i<n:=by simpa using hi
  exact fq
 kC:=λi H' x H2 hs hi zz=>by
  obtain⟨e,y⟩:=zz
  subst e y
  have fq:i<n:=by simpa using hi
  exact⟨.int (lo+i),by simp[hW fq],ag.refl _,.int .nil⟩
 stop:=λi H' hs hi=>by
  have fq:n<=i:=by simpa using hi
  exact fq
noncomputable def qZ(t:aH):jM:=λδ Q=>t δ λd ai=>∃xs,jN d=some xs/\Q true (xs.map D.sh) ai
theorem cH6(xs:List D){F H:Hp}{ws:List V}(r:R F H (xs.map D.sh) ws []):(xs.map D.sh).map D.sh=xs.map D.sh:=mI r.pl
theorem yK(h:PE X l (lE te)):PI X tg l (lI (qZ te)) :=
 wC (EZ h) λσ H Q zq=>by
 obtain⟨B,F,δ,ts,Qd,c,q,k⟩:=zq
 exact⟨B,F,δ,ts,_,c,q,λd ak v F1 H1 hd f1 h1 c1=>by
  obtain⟨xs,e,hq⟩:=hd
  obtain⟨F2,f2,c2⟩:=c1.FW
  have tp:=c2.top
  have c3:=c2.pop.snap
  have e2:=c2.ext
  have sn:=uh e2
  cases d with
  | lst o ys =>
   obtain rfl:=dh e
   rw[cV]at tp
   cases tp with
   | @shr p ws _ _ _ hp r _ =>
    have r3:=r.shared sn (ag.refl _)
    refine⟨p,rfl,⟨ws,bF.of (e2 _ _ hp)⟩,k true _ ak _ _ H1 hq ((f1.trans f2).trans sn) h1 c3 ?_ λ_=>⟨r.pl,ow (.inl (sn _ _ hp)) r3 wB⟩⟩
    rw[cH6 _ r]
    exact ow (.inl (e2 _ _ hp)) (r.shared e2 (ag.refl _)) (Full.refl _)
  | fz ys =>
   obtain rfl:=dh e
   cases tp with
   | @fz p o ws _ _ _ hp r _ =>
    have r3:=r.shared sn (ag.refl _)
    have es:=mI r.pl
    rw[es]at hq
    refine⟨p,rfl,⟨ws,.inl (.inr ⟨o,e2 _ _ hp⟩)⟩,k true _ ak _ _ H1 hq ((f1.trans f2).trans sn) h1 c3 ?_ λ_=>⟨r.pl,ow (.inr ⟨o,sn _ _ hp⟩) r3 wB⟩⟩
    rw[es]
    exact ow (.inr ⟨o,e2 _ _ hp⟩) (r.shared e2 (ag.refl _)) (Full.refl _)
  | av=>cases e
  | bl _=>cases e
  | int _=>cases e
  | str _=>cases e
  | tup _=>cases e
  | obj _ _ _=>cases e
  | bJ _=>cases e⟩
noncomputable def q5(t:aH):jM:=λδ Q=>t δ λd ai=>∃xs,jN d=some xs/\Q d.pl xs ai
theorem gx(h:PE X l (lB te)):PI X tg l (lI (q5 te)) :=
 wC (EZ h) λσ H Q zq=>by
 obtain⟨B,F,δ,ts,Qd,c,q,k⟩:=zq
 exact⟨B,F,δ,ts,_,c,q,λd ak v F1 H1 hd f1 h1 c1 s=>by
  obtain⟨xs,e,hq⟩:=hd
  have c3:=c1.snap
  have e2:=c1.ext
  have sn:=uh e2
  cases s with
  | @shr p ws ys _ _ hp r _ =>
   obtain rfl:=dh e
   refine⟨p,rfl,⟨ws,bF.of (e2 _ _ hp)⟩,k _ _ ak _ _ H1 hq (f1.trans sn) h1 c3 ?_ λ_=>⟨r.pl,ow (.inl (sn _ _ hp)) (r.shared sn (ag.refl _)) wB⟩⟩
   rw[mI r.pl]
   exact ow (.inl (e2 _ _ hp)) (r.shared e2 (ag.refl _)) (Full.refl _)
  | @own p ws ys _ _ hp r _ =>
   obtain rfl:=dh e
   refine⟨p,rfl,⟨ws,bF.of hp⟩,k _ _ ak _ _ H1 hq (f1.trans sn) h1 c3 (ow (.inl hp) (r.frozen e2) (Full.refl _)) λz=>by simp[fW]at z⟩
  | @fz p o ws ys _ _ hp r _ =>
   obtain rfl:=dh e
   refine⟨p,rfl,⟨ws,.inl (.inr ⟨o,e2 _ _ hp⟩)⟩,k _ _ ak _ _ H1 hq (f1.trans sn) h1 c3 ?_ λ_=>⟨r.pl,ow (.inr ⟨o,sn _ _ hp⟩) (r.shared sn (ag.refl _)) wB⟩⟩
   rw[mI r.pl]
   exact ow (.inr ⟨o,e2 _ _ hp⟩) (r.shared e2 (ag.refl _)) (Full.refl _)
  | av _=>cases e
  | bl _=>cases e
  | int _=>cases e
  | str _=>cases e
  | tup _ _ _=>cases e
  | obj _ _ _ _=>cases e
  | bJ _ _=>cases e⟩
theorem yL(f:Nat->Int)(l:List Nat):(l.map λk=>D.int (f k)).map D.sh=l.map λk=>D.int (f k):=by simp[D.sh]
theorem Ou(f:Nat->Int)(l:List Nat):(l.map λk=>D.int (f k)).all D.pl=true:=by simp[D.pl]
noncomputable def q8(t:cO):jM:=λδ Q=>t δ λds ai=>∃j:Int,ds=[.int j]/\(-(2 ^ 62)<=j/\j<2 ^ 62)/\Q true ((aF j.toNat).map λ(k:Nat)=>D.int (0+(k:Int))) ai
theorem jO{p:Pos}(hg:Gl X "range")(hm:X.mg "range"=none)(ha:PA X [a] (lA ta))(hs:starEach [a] X.env=[(false,eval a X.env)]:=by rfl):PI X tg (.Call (.Name "range" p) [a] [] pos) (lI (q8 ta)) :=
 wC (Yb hg hm ha hs) λσ H Q zq=>by
 obtain⟨B,F,δ,ts,Qd,c,q,k⟩:=zq
 exact⟨B,F,δ,ts,_,c,q,λds ak vs F1 H1 hd f1 h1 c1 s=>by
  obtain⟨j,rfl,⟨b1,b2⟩,hq⟩:=hd
  cases s with
  | int s =>
   cases s
   refine⟨j,rfl,b1,b2,k true _ ak _ _ H1 hq f1 h1 c1 ?_ λ_=>⟨Ou _ _,BC 0 _⟩⟩
   rw[yL]
   exact BC 0 _⟩
noncomputable def q9(t:cO):jM:=λδ Q=>t δ λds ai=>∃i j:Int,ds=[.int i,.int j]/\(-(2 ^ 62)<=i/\i<2 ^ 62/\-(2 ^ 62)<=j/\j<2 ^ 62)/\Q true ((aF (j-i).toNat).map λ(k:Nat)=>D.int (i+(k:Int))) ai
theorem wD{p:Pos}(hg:Gl X "range")(hm:X.mg "range"=none)(ha:PA X [a,b] (lA ta))(hs:starEach [a,b] X.env=[(false,eval a X.env),(false,eval b X.env)]:=by rfl)(eM:starEach [b] X.env=[(false,eval b X.env)]:=by rfl) :
  PI X tg (.Call (.Name "range" p) [a,b] [] pos) (lI (q9 ta)) :=
 wC (Yc hg hm ha hs eM) λσ H Q zq=>by
 obtain⟨B,F,δ,ts,Qd,c,q,k⟩:=zq
 exact⟨B,F,δ,ts,_,c,q,λds ak vs F1 H1 hd f1 h1 c1 s=>by
  obtain⟨i,j,rfl,bd,hq⟩:=hd
  cases s with
  | int s =>
   cases s with
   | int s =>
    cases s
    refine⟨i,j,rfl,bd,k true _ ak _ _ H1 hq f1 h1 c1 ?_ λ_=>⟨Ou _ _,BC i _⟩⟩
    rw[yL]
    exact BC i _⟩
noncomputable def gJ(xs:List D)(g:iK)(tb:dd):dd:=λEn ak=>∃Iv:Nat->Dl->Prop,Iv 0 ak /\
 (∀i d ai,xs[i]?=some d->Iv i ai->g d ai λbh=>tb { En with nx:=Iv (i+1),ct:=Iv (i+1),bk:=En.nx } bh)/\∀ai,Iv xs.length ai->En.nx ai
theorem gJ.mk{xs:List D}{g:iK}{tb:dd}{En:qL}{δ:Dl}(Iv:Nat->Dl->Prop)(h0:Iv 0 δ)(ht:∀i d ai,xs[i]?=some d->Iv i ai->g d ai λbh=>tb { En with nx:=Iv (i+1),ct:=Iv (i+1),bk:=En.nx } bh)
  (hf:∀ai,Iv xs.length ai->En.nx ai):gJ xs g tb En δ:=⟨Iv,h0,ht,hf⟩
noncomputable def rh(ti:jM)(g:iK)(tb:dd):dd:=λEn δ=>ti δ λsh xs ak=>sh=true/\gJ xs g tb En ak
theorem gK{ti:jM}{g:iK}{body:List Stmt}(hp:PassesOwn (model X.prog X.w) X.A X.env X.xe)(hc:X.calm=true)(hi:PI X tg iter (lI ti))(hg:PG X tg (lG 0 g))(hb:PSs X body (lS X t))
  (hs:∀x,foldedSetIterable iter X.env x=pure x:=by intro _;rfl):PS X (.For tg iter body [] pos) (lS X (rh ti g t)) :=
 jk (Yf hp hc hi hg hb hs) λEn σ H zq=>by
 obtain⟨B,F,δ,Dd,c,q,k1,k2,k3,k4⟩:=zq
 exact⟨B,F,δ,[],_,c,q,λsh xs ak J F1 H1 hq f1 h1 c1 _ jd=>by
  obtain⟨yq,Iv,i0,turn,fin⟩:=hq
  obtain⟨bT,jd⟩:=jd yq
  have un:∀{F' H':Hp} {aK:L2.St} {ai:Dl} {ts:List (D × V)},aj ⟨B.H0,F1⟩ F' H' aK ai ts->aj B F' H' aK ai ts:=λc'=>c'.cM4 c1.b2 c1.b3
  refine⟨λi m σ H=>m=xs.length-i/\i<=xs.length/\∃F δ,aj ⟨B.H0,F1⟩ F H σ δ []/\Iv i δ,⟨_,rfl,iC _,F1,ak,c1.rebase,i0⟩,?_⟩
  rintro i m mD H2 ⟨rfl,hi,F2,bh,c2,iv⟩
  have s2:ag F1 H2:=c2.b2.trans c2.ext
  by_cases ff:i<xs.length
  ·refine .inr ⟨jd.go i H2 s2 ff,λaK H'=>∃F δ,aj ⟨B.H0,F1⟩ F H' aK δ []/\Iv (i+1) δ,λaK H' z=>⟨xs.length-(i+1),by omega,rfl,ff,z⟩,λx H3 y=>?_⟩
   obtain⟨d,e,s3,r⟩:=jd.kC i H2 x H3 s2 ff y
   have c3:=(c2.grow s3).pushS (d:=d) (v:=x) ((r.s).mono c2.b2 (ag.refl _)) (by have:=r.pl;simpa using this)
   refine⟨⟨B.H0,F1⟩,F2,bh,[],d,_,c3,turn i d bh e iv,λai aK hq _ _ c4=>?_⟩
   exact⟨⟨B.H0,F1⟩,F2,ai,_,c4,hq,λiM oy F5 H5 h5 c5=>⟨F5,iM,c5,h5⟩,λd5 v5 iM oy F5 H5 h5 c5=>k2 d5 v5 iM oy F5 H5 h5 (un c5),λiM oy F5 H5 h5 c5=>k1 iM oy F5 H5 h5 (un c5),λiM oy F5 H5 h5 c5=>⟨F5,iM,c5,h5⟩,⟨λC iM pins oy F5 H5 s5 a T h5 c5=>k4.2.1 C iM pins oy F5 H5 s5 a T h5 (un c5),λC iM pins oy F5 H5 s5 h' e vs h5 c5=>k4.2.2 C iM pins oy F5 H5 s5 h' e vs h5 (un c5)⟩⟩
  ·have e:i=xs.length:=by omega
   subst e
   exact .inl ⟨jd.stop _ H2 s2 (bL _),k1 bh mD F2 H2 (fin bh iv) (un c2)⟩⟩
end
end L3
namespace L3
open PySem L2 PySem.Spec PyProof.Rows
noncomputable def jm(δ:Dl)(q:Str × Nat):Option D:=(δ[q.2]?).getD none
noncomputable def iN(δ:Dl)(q:Str × Nat):Bool:=match jm δ q with
 | some d=>d.pl
 | none=>true
noncomputable def eR(aw:List (Str × Nat))(n:Nat)(δ:Dl):Dl:=(aw.map λq=>(jm δ q).map D.sh)++bg n none
noncomputable def wF(sh:Bool)(xs:List D)(aw:List (Str × Nat))(n:Nat)(g:iK)(tt:fI)(te:aH)(ak:Dl)(Q:D->Dl->Prop):Prop:=∃(p:D->Bool) (f:D->D),
 (∀x∈xs.map D.sh,g x (eR aw n ak) λbh=>tt bh λb gI=>b=p x/\(p x=true->te gI λd _=>d=f x)) /\
 ((sh&&aw.all (iN ak))=true\/∀x∈xs.map D.sh,p x=true->(f x).fr=true)/\xs.length<=sizeLine/\Q (.lst true (((xs.map D.sh).filter p).map f)) ak
noncomputable def mO(ti:jM)(aw:List (Str × Nat))(n:Nat)(g:iK)(tt:fI)(te:aH):aH:=λδ Q=>ti δ λsh xs ak=>wF sh xs aw n g tt te ak Q
noncomputable def kG:fI:=λδ Q=>Q true δ
theorem b27{sh:Bool}{xs:List D}{aw:List (Str × Nat)}{n m:Nat}{te:aH}{ak:Dl}{Q:D->Dl->Prop}(f:D->D)(hx:∀x∈xs.map D.sh,te ((eR aw n ak).set m (some x)) λd _=>d=f x)
  (fJ:(sh&&aw.all (iN ak))=true\/∀x∈xs.map D.sh,(f x).fr=true) (hl:xs.length<=sizeLine) (hq:Q (.lst true ((xs.map D.sh).map f)) ak):wF sh xs aw n (gN m) kG te ak Q :=
 ⟨λ_=>true,f,λx h=>⟨rfl,λ_=>hx x h⟩,fJ.imp id λh x hx _=>h x hx,hl,by rw[WV.mpr (λ_ _=>rfl)];exact hq⟩
section
variable{B:Bs}{F H:Hp}{σ:L2.St}{δ:Dl}{ts:List (D × V)}
theorem Ov(c:aj B F H σ δ ts)(n:Nat):∀(aw:List (Str × Nat)),aw.all (iN δ)=true->RS F H (eR aw n δ) (gu aw n σ) []
 | [],_=>by
  have z:∀n,RS F H (bg n none) (bg n none) []:=λn=>by
   induction n with
   | zero=>exact .nil
   | succ n ih=>exact .av ih
  exact z n
 | q::r,h=>by
  rw[cL,eZ]at h
  have ih:=Ov c n r h.2
  show RS F H ((jm δ q).map D.sh::eR r n δ) ((σ[q.2]?).getD none::gu r n σ) []
  cases e:jm δ q with
  | none=>exact .av ih
  | some d =>
   have e2:δ[q.2]?=some (some d):=by
    unfold jm at e
    cases z:δ[q.2]? with
    | none=>rw[z]at e;cases e
    | some o=>rw[z]at e;exact congrArg some e
   have hp:d.pl=true:=by have:=h.1;unfold iN at this;rw[e]at this;exact this
   obtain⟨v,e3,s⟩:=c.look e2
   rw[e3]
   show RS F H (some d.sh::_) (some v::_) []
   rw[D.Bp hp]
   exact .dO (A:=[]) (s.r (by simp[hp])) ih
theorem Gf(c:aj B F H σ δ ts)(n:Nat):∀(aw:List (Str × Nat)),RS H H (eR aw n δ) (gu aw n σ) []
 | []=>by
  have z:∀n,RS H H (bg n none) (bg n none) []:=λn=>by
   induction n with
   | zero=>exact .nil
   | succ n ih=>exact .av ih
  exact z n
 | q::r=>by
  have ih:=Gf c n r
  show RS H H ((jm δ q).map D.sh::eR r n δ) ((σ[q.2]?).getD none::gu r n σ) []
  cases e:jm δ q with
  | none=>exact .av ih
  | some d =>
   have e2:δ[q.2]?=some (some d):=by
    unfold jm at e
    cases z:δ[q.2]? with
    | none=>rw[z]at e;cases e
    | some o=>rw[z]at e;exact congrArg some e
   obtain⟨v,e3,s⟩:=c.look e2
   rw[e3]
   exact .dO (A:=[]) (s.frozen c.ext) ih
theorem cn2(aw:List (Str × Nat))(n:Nat)(σ:L2.St):(gu aw n σ).length=aw.length+n:=by simp[gu]
theorem Ow{α:Type}(xs:List α)(p:α->Bool)(i:Nat)(x:α)(h:xs[i]?=some x):(xs.take (i+1)).filter p=(xs.take i).filter p++(if p x=true then [x]else []):=by
 rw[nK,h,List.filter_append]
 simp only[Mp]
 by_cases hp:p x=true<;>simp[hp]
end
section
variable{X:Cx}{elt iter tg:Expr}{pos:Pos}{ifs:List Expr}{scope:Scope}{cl:List (Str × Addr)}{ti:jM}{tt:fI}{te:aH}{g:iK}
theorem Gg{B:Bs}{F1 H1:Hp}{σ:L2.St}{ak:Dl}{ts:List (D × V)}{J:It}{Qd:D->Dl->Prop}{Q:VK}{xs:List D}{sh:Bool}{aw:List (Str × Nat)}{n:Nat}(c1:aj B F1 H1 σ ak ts)
  (oA:JD J H1 (xs.map D.sh)) (uk:sh=true->xs.all D.pl=true/\JD J F1 xs) (p:D->Bool) (f:D->D)
  (hx:∀x∈xs.map D.sh,g x (eR aw n ak) λbh=>tt bh λb gI=>b=p x/\(p x=true->te gI λd _=>d=f x))
  (fJ:(sh&&aw.all (iN ak))=true\/∀x∈xs.map D.sh,p x=true->(f x).fr=true) (hlen:xs.length<=sizeLine) (hq:Qd (.lst true (((xs.map D.sh).filter p).map f)) ak)
  (k:∀d ai v F' H',Qd d ai->ag F1 F'->ag H1 H'->aj B F' H' σ ai ((d,v)::ts)->Q v H'):Od J aw n (lG aw.length g) (lT tt) (lE te) σ H1 Q:=by
 intro Dp hD
 have cD:aj B F1 (upd H1 Dp (.lst [])) σ ak ((.lst true [],.ref Dp)::ts):=c1.mJ hD .nil rfl
 refine⟨λi m acc H2=>m=xs.length-i/\i<=xs.length/\H2 Dp=some (.lst acc)/\ag H1 H2/\acc.length<=i/\∃F2,ag F1 F2 /\
  aj B F2 H2 σ ak ((.lst true ((((xs.map D.sh).take i).filter p).map f),.ref Dp)::ts),⟨xs.length,rfl,iC _,bA,ag.upd hD,bL _,F1,ag.refl _,by simpa using cD⟩,?_⟩
 rintro i m acc H2 ⟨rfl,hi,lJ,rj,Gh,F2,kH,c2⟩
 refine⟨lJ,?_⟩
 by_cases ff:i<xs.length
 case neg =>
  have e:i=xs.length:=by omega
  subst e
  refine .inl ⟨oA.stop _ H2 rj (by simp),k _ ak _ F2 H2 ?_ kH rj c2⟩
  have:(xs.map D.sh).take xs.length=xs.map D.sh:=by rw[AJ (by simp)]
  rw[this]
  exact hq
 case pos =>
  refine .inr ⟨oA.go i H2 rj (by simpa using ff),λx H3 y=>?_⟩
  obtain⟨d0,e0,Gi,r0⟩:=oA.kC i H2 x H3 rj (by simpa using ff) y
  have Ox:d0∈xs.map D.sh:=s9 e0
  have Oy:H3 Dp=some (.lst acc):=Gi _ _ lJ
  have c3:=c2.grow Gi
  have Gj:=rj.trans Gi
  refine⟨Oy,?_⟩
  have gL:=hx d0 Ox
  have turn:∀Fi,ag Fi H3->RS Fi H3 (eR aw n ak) (gu aw n σ) []->S Fi H3 [d0] [x]->d0.pl=true ->
    (∀d v F' H' A,d=f d0->p d0=true->ag H3 H'->ag Fi F'->ag F' H'->(∀a ws,F' a=some (.lst ws)->Fi a=some (.lst ws)\/H3 a=none)->R F' H' [d] [v] A->A.Nodup->(∀a∈A,H3 a=none) ->
     ∃F4,ag F2 F4/\aj B F4 H' σ ak ((d,v)::(.lst true ((((xs.map D.sh).take i).filter p).map f),.ref Dp)::ts)) ->
    lG aw.length g x (gu aw n σ) H3 λh9 H4 =>
     (h9.length=(gu aw n σ).length/\∀j,j<aw.length->h9[j]?=(gu aw n σ)[j]?)/\lT tt h9 H4 λb H5=>H5 Dp=some (.lst acc) /\
     if b=true then lE te h9 H5 λy H6=>H6 Dp=some (.lst acc)/\acc.length<sizeLine/\∃m',m'<xs.length-i /\
      (m'=xs.length-(i+1)/\i+1<=xs.length/\upd H6 Dp (.lst (acc++[y])) Dp=some (.lst (acc++[y]))/\ag H1 (upd H6 Dp (.lst (acc++[y])))/\(acc++[y]).length<=i+1/\∃F2,ag F1 F2 /\
       aj B F2 (upd H6 Dp (.lst (acc++[y]))) σ ak ((.lst true ((((xs.map D.sh).take (i+1)).filter p).map f),.ref Dp)::ts))
     else ∃m',m'<xs.length-i/\(m'=xs.length-(i+1)/\i+1<=xs.length/\H5 Dp=some (.lst acc)/\ag H1 H5/\acc.length<=i+1/\∃F2,ag F1 F2 /\
       aj B F2 H5 σ ak ((.lst true ((((xs.map D.sh).take (i+1)).filter p).map f),.ref Dp)::ts)):=by
   intro Fi hFi hRS hS bT back
   have ci:aj ⟨H3,Fi⟩ Fi H3 (gu aw n σ) (eR aw n ak) []:=⟨hFi,ag.refl _,ag.refl _,λ_ _ q=>.inl q,[],[],.nil,hRS,by simp,by simp⟩
   refine⟨⟨H3,Fi⟩,Fi,eR aw n ak,[],d0,_,ci.pushS hS bT,gL,λai h9 hq1 l1 k1 c4=>⟨⟨l1,k1⟩,⟨H3,Fi⟩,Fi,ai,[],_,c4,hq1,λb iM F5 H5 hb f5 h5 c5=>?_⟩⟩
   obtain⟨hb,ht⟩:=hb
   have BD:H5 Dp=some (.lst acc):=h5 _ _ Oy
   refine⟨BD,?_⟩
   by_cases hp:p d0=true
   ·rw[hb,hp]
    refine nY ⟨⟨H3,Fi⟩,F5,iM,[],_,c5,ht hp,λd δ6 v F6 H6 hd f6 h6 c6=>?_⟩
    have Oz:H6 Dp=some (.lst acc):=h6 _ _ BD
    obtain⟨A,C,r,s,nd,fr⟩:=c6.own
    obtain⟨F4,yM,c7⟩:=back d v F6 H6 A hd hp c6.b1 c6.b2 c6.ext c6.b3 r (fX.mp nd).1 λa ha=>fr a (dZ _ ha)
    have c8:=c7.FX Oz
    refine⟨Oz,by omega,xs.length-(i+1),by omega,rfl,ff,bA,?_,by simpa using Gh,F4,kH.trans yM,?_⟩
    ·have yN:=Gj.trans c6.b1
     exact⟨λa o q n=>by rw[aV (dU q hD)];exact yN.get a o q n,λa ps q=>by rw[aV (dU q hD)];exact yN.tb a ps q⟩
    ·have e9:(((xs.map D.sh).take (i+1)).filter p).map f=(((xs.map D.sh).take i).filter p).map f++[d]:=by
      rw[Ow _ p i d0 e0,hp,hd];simp
     rw[e9]
     exact c8
   ·have mP:p d0=false:=by simpa using hp
    rw[hb,mP]
    refine ji ⟨xs.length-(i+1),by omega,rfl,ff,BD,Gj.trans h5,by omega,F2,kH,?_⟩
    have e9:(((xs.map D.sh).take (i+1)).filter p).map f=(((xs.map D.sh).take i).filter p).map f:=by
     rw[Ow _ p i d0 e0,mP];simp
    rw[e9]
    exact c3.grow h5
  by_cases hA:(sh&&aw.all (iN ak))=true
  ·rw[eZ]at hA
   obtain⟨bT,jd⟩:=uk hA.1
   have yq:=mI bT
   rw[yq]at e0
   obtain⟨d1,e1,_,r1⟩:=jd.kC i H2 x H3 (kH.trans c2.ext) ff y
   rw[e0]at e1;cases e1
   have cO1:d0.pl=true:=by have:=r1.pl;simpa using this
   refine turn F2 c3.ext (Ov c3 n aw hA.2) ((r1.s).mono kH (ag.refl _)) cO1 λd v F' H' A hd hp hs hf he h3 r nd fr=>⟨F',hf,c3.call hs hf he h3 r nd fr⟩
  ·have cO2:=fJ.resolve_left hA
   refine turn H3 (ag.refl _) (Gf c3 n aw) ((r0.shared Gj (ag.refl _)).s) (by have:=r0.pl;simpa using this) λd v F' H' A hd hp hs hf he h3 r nd fr=>⟨F2,ag.refl _,?_⟩
   exact c3.Bq hs (r.qK (by rw[hd];simp[cO2 d0 Ox hp]) (c3.ext.trans hf)) nd fr
theorem cX{Y:Cx}:mG Y [] (lT kG):=λ_ _ _ H _ I ⟨B,F,δ,ts,Qd,c,q,k⟩=>υ _ _ _ H _ I (k true δ F H q (ag.refl _) (ag.refl _) c)
theorem Gk{Y:Cx}{c:Expr}(h:PT Y c (lT tt)):mG Y [c] (lT tt):=χ h
end
end L3
namespace L3
open PySem L2 PySem.Spec PyProof.Rows
section
variable{X:Cx}{F H:Hp}{v w:V}
noncomputable def l2(rd:cW):R2:=λv w H Q=>∃B F σ δ ts x y Qd,aj B F H σ δ ts/\S F H [x] [v]/\S F H [y] [w]/\rd x y Qd/\∀d z H',Qd d->ag H H'->aj B F H' σ δ ((d,z)::ts)->Q z H'
theorem bZ.of{f:Value->Value->Sem Value}{rd:cW}(h:cM X f (l2 rd)):bZ X f rd:=⟨_,h,λ{B F H σ δ ts x y v w Q Qd} c sx sy q k=>⟨B,F,σ,δ,ts,x,y,Qd,c,sx,sy,q,k⟩⟩
theorem yO{f:Value->Value->Sem Value}{C:Int->Int->Prop}{g:Int->Int->V}{gd:Int->Int->D}(ho:cM X f (rI C g))(hg:∀i j F H,S F H [gd i j] [g i j])(hp:∀i j,(gd i j).pl=true):bZ X f λx y Q=>∃i j,x=.int i/\y=.int j/\C i j/\Q (gd i j) :=
 ⟨_,ho,λ{B F H σ δ ts x y v w Q Qd} c sx sy h k=>by
  obtain⟨i,j,rfl,rfl,hc,q⟩:=h
  cases sx;cases sy
  exact⟨i,j,rfl,rfl,hc,k _ _ _ q (ag.refl _) (c.pushS (hg i j F H) (hp i j))⟩⟩
theorem mQ{f:Value->Value->Sem Value}{g:Int->Int->V}{gd:Int->Int->D}(ho:cM X f (j3 g))(hg:∀i j F H,S F H [gd i j] [g i j])(hp:∀i j,(gd i j).pl=true):bZ X f λx y Q=>∃i j,x=.int i/\y=.int j/\Q (gd i j) :=
 ⟨_,ho,λ{B F H σ δ ts x y v w Q Qd} c sx sy h k=>by
  obtain⟨i,j,rfl,rfl,q⟩:=h
  cases sx;cases sy
  exact⟨i,j,rfl,rfl,k _ _ _ q (ag.refl _) (c.pushS (hg i j F H) (hp i j))⟩⟩
theorem iO{o:Bool}{xs:List D}(s:S F H [.lst o xs] [v])(e:ag F H):∃p ws,v=.ref p/\H p=some (.lst ws)/\S F H xs ws:=by
 cases s with
 | shr h r _=>exact⟨_,_,rfl,e _ _ h,r.s⟩
 | own h r _=>exact⟨_,_,rfl,h,r⟩
theorem lK{xs:List D}(s:S F H [.tup xs] [v]):∃p ws,v=.ref p/\H p=some (.tup ws)/\S F H xs ws:=by
 cases s with
 | tup h r _=>exact⟨_,_,rfl,h,r⟩
theorem oB{d:D}{xs:List D}(s:S F H [d] [v])(e:ag F H)(h:jN d=some xs):∃p ws,v=.ref p/\Rd H p (.lst ws)/\S F H xs ws:=by
 cases s with
 | shr h' r _=>cases h;exact⟨_,_,rfl,.inl (e _ _ h'),r.s⟩
 | own h' r _=>cases h;exact⟨_,_,rfl,.inl h',r⟩
 | fz h' r _=>cases h;exact⟨_,_,rfl,.inr ⟨_,e _ _ h'⟩,r.s⟩
 | av _=>cases h
 | bl _=>cases h
 | int _=>cases h
 | str _=>cases h
 | tup _ _ _=>cases h
 | obj _ _ _ _=>cases h
 | bJ _ _=>cases h
theorem S.rep{xs:List D}{ws:List V}(s:S F H xs ws):∀k:Nat,S F H (bg k xs).flatten (bg k ws).flatten
 | 0=>by simpa using S.nil
 | k+1=>by
  rw[tu,tu,vO,vO]
  exact s.append (S.rep s k)
noncomputable def oE:cW:=λx y Q=>match x,y with
 | .int i,.int j=>Q (.int (i+j))
 | .str a,.str b=>a.length+b.length<=sizeLine/\Q (.str (a++b))
 | .lst _ xs,.lst _ ys=>(xs.length+ys.length<=sizeLine/\xs.all D.pl=true/\ys.all D.pl=true)/\Q (.lst true (xs++ys))
 | _,_=>False
theorem cB3:bZ X (binaryOp .Add) λx y Q=>∃o xs o' ys,x=.lst o xs/\y=.lst o' ys/\(xs.length+ys.length<=sizeLine/\xs.all D.pl=true/\ys.all D.pl=true)/\Q (.lst true (xs++ys)) :=
 ⟨_,NI,λ{B F H σ δ ts x y v w Q Qd} c sx sy h k=>by
  obtain⟨o,xs,o',ys,rfl,rfl,⟨hz,h1,h2⟩,q⟩:=h
  obtain⟨p,ws,rfl,e1,s1⟩:=iO sx c.ext
  obtain⟨p',dR,rfl,e2,s2⟩:=iO sy c.ext
  refine⟨p,p',ws,dR,rfl,rfl,e1,e2,by rw[<-s1.length,<- s2.length];exact hz,λr hr=>?_⟩
  exact k _ _ _ q (ag.upd hr) (c.mJ hr (s1.append s2) (by simp[h1,h2]))⟩
theorem cO4:bZ X (binaryOp .Add) λx y Q=>∃i j,x=.str i/\y=.str j/\i.length+j.length<=sizeLine/\Q (.str (i++j)) :=
 ⟨_,Yy,λ{B F H σ δ ts x y v w Q Qd} c sx sy h k=>by
  obtain⟨i,j,rfl,rfl,hz,q⟩:=h
  cases sx;cases sy
  exact⟨i,j,rfl,rfl,hz,k _ _ _ q (ag.refl _) (c.pushS (.str .nil) rfl)⟩⟩
theorem dr:bZ X (binaryOp .Add) oE:=((mQ (gd:=λi j=>.int (i+j)) Yj (λ_ _ _ _=>.int .nil) λ_ _=>rfl).or (cO4.or cB3)).imp λx y Q h=>by
 unfold oE at h
 split at h
 ·exact .inl ⟨_,_,rfl,rfl,h⟩
 ·exact .inr (.inl ⟨_,_,rfl,rfl,h.1,h.2⟩)
 ·exact .inr (.inr ⟨_,_,_,_,rfl,rfl,h.1,h.2⟩)
 ·exact h.elim
noncomputable def iI(C:Int->Int->Prop)(g:Int->Int->D):cW:=λx y Q=>match x,y with
 | .int i,.int j=>C i j/\Q (g i j)
 | _,_=>False
noncomputable def g8(g:Int->Int->D):cW:=λx y Q=>match x,y with
 | .int i,.int j=>Q (g i j)
 | _,_=>False
theorem BE{f:Value->Value->Sem Value}{C:Int->Int->Prop}{g:Int->Int->D}(h:bZ X f λx y Q=>∃i j,x=.int i/\y=.int j/\C i j/\Q (g i j)):bZ X f (iI C g):=h.imp λx y Q h=>by
 unfold iI at h
 split at h
 ·exact⟨_,_,rfl,rfl,h.1,h.2⟩
 ·exact h.elim
theorem oF{f:Value->Value->Sem Value}{g:Int->Int->D}(h:bZ X f λx y Q=>∃i j,x=.int i/\y=.int j/\Q (g i j)):bZ X f (g8 g):=h.imp λx y Q h=>by
 unfold g8 at h
 split at h
 ·exact⟨_,_,rfl,rfl,h⟩
 ·exact h.elim
noncomputable def rk:cW:=g8 λi j=>.int (i-j)
theorem dX:bZ X (binaryOp .Sub) rk:=oF (mQ E7 (λ_ _ _ _=>.int .nil) λ_ _=>rfl)
noncomputable def Gm(_ j:Int):Prop:=0<j/\j.natAbs.log2<9000
theorem mR{i j:Int}(h1:0<j)(h2:j<1073741824):Gm i j:=⟨h1,by
 have h:j.natAbs<2 ^ 30:=by omega
 have:=(Nat.log2_lt (show j.natAbs≠0 by omega)).mpr h
 omega⟩
theorem b34:cM X (binaryOp .FloorDiv) (rI Gm λi j=>.int (i/j)):=yi λi j _ _ _ _ _ hc q =>
 floordiv_int (show j≠0 by have:=hc.1;omega) (by rw[WL i (by have:=hc.1;omega)];exact q) (.inl (PyProof.noPylong_of_log2 hc.2))
noncomputable def rl:cW:=iI Gm λi j=>.int (i/j)
theorem mS:bZ X (binaryOp .FloorDiv) rl:=BE (yO b34 (λ_ _ _ _=>.int .nil) λ_ _=>rfl)
noncomputable def rm:cW:=iI (λ_ j=>0<j) λi j=>.int (i%j)
theorem dJ:bZ X (binaryOp .Mod) rm:=BE (yO Yk (λ_ _ _ _=>.int .nil) λ_ _=>rfl)
noncomputable def rn:cW:=iI N9 λi j=>.int (i*2 ^ j.toNat)
theorem wH:bZ X (binaryOp .LShift) rn:=BE (yO Oa (λ_ _ _ _=>.int .nil) λ_ _=>rfl)
noncomputable def rp:cW:=iI (λ_ j=>0<=j) λi j=>.int (i/2 ^ j.toNat)
theorem OA:bZ X (binaryOp .RShift) rp:=BE (yO Yl (λ_ _ _ _=>.int .nil) λ_ _=>rfl)
noncomputable def rq:cW:=g8 λi j=>.int (qh i j)
theorem OB:bZ X (binaryOp .BitAnd) rq:=oF (mQ Ym (λ_ _ _ _=>.int .nil) λ_ _=>rfl)
noncomputable def rz:cW:=g8 λi j=>.int (qi i j)
theorem yP:bZ X (binaryOp .BitXor) rz:=oF (mQ Yn (λ_ _ _ _=>.int .nil) λ_ _=>rfl)
theorem b30:cM X (binaryOp .Mult) (rI IntMulOk λi j=>.int (i*j)):=yi λ_ _ _ _ _ _ _ hc q=>mul_int q hc
noncomputable def oG:cW:=λx y Q=>match x,y with
 | .int i,.int j=>IntMulOk i j/\Q (.int (i*j))
 | .lst _ xs,.int k=>(-(2 ^ 63)<=k/\k<2 ^ 63/\xs.length*k.toNat<=sizeLine/\xs.all D.pl=true)/\Q (.lst true (bg k.toNat xs).flatten)
 | _,_=>False
theorem cD8:bZ X (binaryOp .Mult) λx y Q=>∃o xs k,x=.lst o xs/\y=.int k/\(-(2 ^ 63)<=k/\k<2 ^ 63/\xs.length*k.toNat<=sizeLine/\xs.all D.pl=true)/\Q (.lst true (bg k.toNat xs).flatten) :=
 ⟨_,ZE,λ{B F H σ δ ts x y v w Q Qd} c sx sy h k=>by
  obtain⟨o,xs,n,rfl,rfl,⟨b1,b2,hz,h1⟩,q⟩:=h
  obtain⟨p,ws,rfl,e1,s1⟩:=iO sx c.ext
  cases sy
  refine⟨p,n,ws,rfl,rfl,e1,b1,b2,by rw[<-s1.length];exact hz,λr hr=>?_⟩
  refine k _ _ _ q (ag.upd hr) (c.mJ hr (s1.rep _) ?_)
  rw[dG]
  intro x hx
  obtain⟨l,hl,yQ⟩:=List.mem_flatten.mp hx
  rw[(vR.mp hl).2]at yQ
  exact dG.mp h1 x yQ⟩
theorem iP:bZ X (binaryOp .Mult) oG:=((yO (gd:=λi j=>.int (i*j)) b30 (λ_ _ _ _=>.int .nil) λ_ _=>rfl).or cD8).imp λx y Q h=>by
 unfold oG at h
 split at h
 ·exact .inl ⟨_,_,rfl,rfl,h.1,h.2⟩
 ·exact .inr ⟨_,_,_,rfl,rfl,h.1,h.2⟩
 ·exact h.elim
theorem ct5:bZ X (inplaceOp .Add) (g8 λi j=>.int (i+j)):=oF (mQ Yo (λ_ _ _ _=>.int .nil) λ_ _=>rfl)
theorem Gp:bZ X (inplaceOp .BitXor) (g8 λi j=>.int (qi i j)):=oF (mQ Yp (λ_ _ _ _=>.int .nil) λ_ _=>rfl)
noncomputable def rA:cW:=g8 λi j=>.bl (decide (i<j))
noncomputable def rB:cW:=g8 λi j=>.bl (decide (i<=j))
noncomputable def rC:cW:=g8 λi j=>.bl (decide (j<i))
noncomputable def rD:cW:=g8 λi j=>.bl (decide (j<=i))
theorem um:bZ X (compareOp .Lt) rA:=oF (mQ M5 (λ_ _ _ _=>.bl .nil) λ_ _=>rfl)
theorem kI:bZ X (compareOp .LtE) rB:=oF (mQ Yt (λ_ _ _ _=>.bl .nil) λ_ _=>rfl)
theorem uo:bZ X (compareOp .Gt) rC:=oF (mQ M6 (λ_ _ _ _=>.bl .nil) λ_ _=>rfl)
theorem cH9:bZ X (compareOp .GtE) rD:=oF (mQ Yu (λ_ _ _ _=>.bl .nil) λ_ _=>rfl)
noncomputable def mT:D->Bool
 | .av=>true
 | _=>false
noncomputable def oH:cW:=λx y Q=>match y with
 | .av=>Q (.bl (!mT x))
 | _=>False
theorem co0{d:D}(s:S F H [d] [v]):decide (v=.av)=mT d:=by cases s<;>simp[mT]
theorem cw0:bZ X (compareOp .IsNot) oH:=⟨_,Yv,λ{B F H σ δ ts x y v w Q Qd} c sx sy h k=>by
 unfold oH at h
 split at h
 ·cases sy
  refine⟨rfl,?_⟩
  rw[co0 sx]
  exact k _ _ _ h (ag.refl _) (c.pushS (.bl .nil) rfl)
 ·exact h.elim⟩
noncomputable def bN:D->D->Bool
 | .av,.av=>true
 | .bl a,.bl b=>a==b
 | .bl a,.int b=>(if a then 1 else 0)==b
 | .int a,.bl b=>a==(if b then 1 else 0)
 | .int a,.int b=>a==b
 | .str a,.str b=>a==b
 | .lst _ xs,.lst _ ys=>gy xs ys
 | .tup xs,.tup ys=>gy xs ys
 | _,_=>false
where gy:List D->List D->Bool
 | [],[]=>true
 | x::xs,y::ys=>bN x y&&gy xs ys
 | _,_=>false
noncomputable def dP:Nat->D->Bool
 | _,.av=>true
 | _,.bl _=>true
 | _,.int _=>true
 | _,.str _=>true
 | n+1,.lst _ xs=>xs.all (dP n)
 | n+1,.tup xs=>xs.all (dP n)
 | _,_=>false
theorem Gq:∀(xs ys:List D),xs.length=ys.length->bN.gy xs ys=(aF xs.length).all λj=>bN (xs.getD j .av) (ys.getD j .av)
 | [],[],_=>rfl
 | x::xs,y::ys,h=>by
  rw[fU,WW,cL,qu]
  show(bN x y&&bN.gy xs ys)=_
  rw[Gq xs ys (by simpa using h)]
  rfl
theorem Gr:∀(xs ys:List D),xs.length≠ys.length->bN.gy xs ys=false
 | [],[],h=>absurd rfl h
 | [],_::_,_=>rfl
 | _::_,[],_=>rfl
 | x::xs,y::ys,h=>by
  show(bN x y&&bN.gy xs ys)=false
  rw[Gr xs ys (by simpa using h),Mh]
noncomputable def ofV:V->D
 | .bl b=>.bl b
 | .int i=>.int i
 | .str z=>.str z
 | _=>.av
theorem yR{x:D}{v:V}(h:dP 0 x=true)(s:S F H [x] [v]):x=ofV v:=by
 cases s with
 | av _=>rfl
 | bl _=>rfl
 | int _=>rfl
 | str _=>rfl
 | _=>cases h
theorem OC{x:D}(h:dP 0 x=true):bN x x=true:=by
 cases x with
 | av=>rfl
 | bl b=>exact beq_self_eq_true b
 | int i=>exact beq_self_eq_true i
 | str z=>exact beq_self_eq_true z
 | _=>cases h
theorem rE{n:Nat}{x:D}(h:dP (n+1) x=true):dP 0 x=true\/(∃o xs,x=.lst o xs/\xs.all (dP n)=true)\/∃xs,x=.tup xs/\xs.all (dP n)=true:=by
 cases x with
 | lst o xs=>exact .inr (.inl ⟨o,xs,rfl,h⟩)
 | tup xs=>exact .inr (.inr ⟨xs,rfl,h⟩)
 | obj _ _ _=>exact absurd h iZ
 | fz _=>exact absurd h iZ
 | bJ _=>exact absurd h iZ
 | _=>exact .inl rfl
theorem BF{x:D}{p:Addr}(h:dP 0 x=true)(s:S F H [x] [.ref p]):False:=by
 rw[yR h s]at s
 cases s
theorem OD:∀(n:Nat) {xs ys:List D} {vs:List V},xs.all (dP n)=true->ys.all (dP n)=true->S F H xs vs->S F H ys vs->ag F H->bN.gy xs ys=true:=by
 intro n xs
 induction n generalizing xs with
 | zero =>
  induction xs with
  | nil=>intro ys vs _ _ s1 s2 _;cases s1;cases s2;rfl
  | cons x xs ih =>
   intro ys vs h1 h2 s1 s2 e
   obtain⟨v,bW,rfl,q1,r1⟩:=s1.cE
   cases ys with
   | nil=>cases s2
   | cons y ys =>
    obtain⟨v',FV,ee,q2,r2⟩:=s2.cE
    obtain⟨rfl,rfl⟩:=nI ee
    rw[cL,eZ]at h1 h2
    show(bN x y&&bN.gy xs ys)=true
    rw[ih h1.2 h2.2 r1 r2 e,kT,yR h2.1 q2,<- yR h1.1 q1]
    exact OC h1.1
 | succ n OE =>
  induction xs with
  | nil=>intro ys vs _ _ s1 s2 _;cases s1;cases s2;rfl
  | cons x xs ih =>
   intro ys vs h1 h2 s1 s2 e
   obtain⟨v,bW,rfl,q1,r1⟩:=s1.cE
   cases ys with
   | nil=>cases s2
   | cons y ys =>
    obtain⟨v',FV,ee,q2,r2⟩:=s2.cE
    obtain⟨rfl,rfl⟩:=nI ee
    rw[cL,eZ]at h1 h2
    show(bN x y&&bN.gy xs ys)=true
    rw[ih h1.2 h2.2 r1 r2 e,kT]
    have h1:=h1.1
    have h2:=h2.1
    clear ih r1 r2 s1 s2
    rcases rE h1 with k1 | ⟨o1,a1,rfl,k1⟩ | ⟨a1,rfl,k1⟩
    ·rcases rE h2 with k2 | ⟨o2,a2,rfl,k2⟩ | ⟨a2,rfl,k2⟩
     ·rw[yR k2 q2,<- yR k1 q1]
      exact OC k1
     ·obtain⟨p,ws,rfl,_⟩:=iO q2 e
      exact(BF k1 q1).elim
     ·obtain⟨p,ws,rfl,_⟩:=lK q2
      exact(BF k1 q1).elim
    ·obtain⟨p,ws,rfl,e1,t1⟩:=iO q1 e
     rcases rE h2 with k2 | ⟨o2,a2,rfl,k2⟩ | ⟨a2,rfl,k2⟩
     ·exact(BF k2 q2).elim
     ·obtain⟨p2,Gu,ev,e2,t2⟩:=iO q2 e
      cases ev
      cases e1.symm.trans e2
      exact OE k1 k2 t1 t2 e
     ·obtain⟨p2,Gu,ev,e2,t2⟩:=lK q2
      cases ev
      cases e1.symm.trans e2
    ·obtain⟨p,ws,rfl,e1,t1⟩:=lK q1
     rcases rE h2 with k2 | ⟨o2,a2,rfl,k2⟩ | ⟨a2,rfl,k2⟩
     ·exact(BF k2 q2).elim
     ·obtain⟨p2,Gu,ev,e2,t2⟩:=iO q2 e
      cases ev
      cases e1.symm.trans e2
     ·obtain⟨p2,Gu,ev,e2,t2⟩:=lK q2
      cases ev
      cases e1.symm.trans e2
      exact OE k1 k2 t1 t2 e
end
end L3
namespace L3
open PySem L2 PySem.Spec PyProof.Rows
structure OF(A:Around)(s:Shared)(u w:Value)(b:Bool):Prop where
 rc:SeqAt.RcAt A s u w b
 ne:SeqAt.RcNeAt A s u w (!b)
 eq:D8 A s u w b
section
variable{X:Cx}{F H:Hp}{v w:V}
theorem OG{xs:List V}{us:List Value}(r:Vals xs us){j:Nat}(h:j<us.toArray.size):∃x,xs[j]?=some x/\RelV x us.toArray[j]:=by
 have l:=r.length
 have hj:j<xs.length:=by rw[l];simpa using h
 obtain⟨u,e,q⟩:=r.get (aO hj)
 obtain⟨_,z⟩:=ky.mp e
 refine⟨_,aO hj,?_⟩
 have:us.toArray[j]=u:=by simpa using z
 rw[this];exact q
theorem OH{xs:List D}{j:Nat}{d:D}(h:xs[j]?=some d):xs.getD j .av=d:=by rw[aM,h];rfl
theorem wI{x:D}{v:V}{u:Value}(h:dP 0 x=true)(s:S F H [x] [v])(r:RelV v u):(x=.av/\u=.none)\/(∃b,x=.bl b/\u=.bool b)\/(∃i t,x=.int i/\u=.int i t)\/∃z t,x=.str z/\u=.str z t:=by
 cases s with
 | av _=>cases r;exact .inl ⟨rfl,rfl⟩
 | bl _=>cases r;exact .inr (.inl ⟨_,rfl,rfl⟩)
 | int _=>obtain⟨t,rfl⟩:=r;exact .inr (.inr (.inl ⟨_,t,rfl,rfl⟩))
 | str _=>obtain⟨t,rfl⟩:=r;exact .inr (.inr (.inr ⟨_,t,rfl,rfl⟩))
 | _=>exact absurd h iZ
theorem OI{x y:D}{u u':Value}{A:Around}{s:Shared}(h1:(x=.av/\u=.none)\/(∃b,x=.bl b/\u=.bool b)\/(∃i t,x=.int i/\u=.int i t)\/∃z t,x=.str z/\u=.str z t)(h2:(y=.av/\u'=.none)\/(∃b,y=.bl b/\u'=.bool b)\/(∃i t,y=.int i/\u'=.int i t)\/∃z t,y=.str z/\u'=.str z t):OF A s u u' (bN x y):=by
 rcases h1 with⟨rfl,rfl⟩ | ⟨a,rfl,rfl⟩ | ⟨a,t,rfl,rfl⟩ | ⟨a,t,rfl,rfl⟩<;>rcases h2 with⟨rfl,rfl⟩ | ⟨b,rfl,rfl⟩ | ⟨b,t',rfl,rfl⟩ | ⟨b,t',rfl,rfl⟩
 ·exact⟨.none_none,.none_none,.same _⟩
 ·exact⟨.none_bool _,.none_bool _,.none_bool _⟩
 ·exact⟨.none_int _ _,.none_int _ _,.none_int _ _⟩
 ·exact⟨.none_str _ _,.none_str _ _,.none_str _ _⟩
 ·exact⟨.bool_none _,.bool_none _,.bool_none _⟩
 ·exact⟨.bool_bool _ _,.bool_bool _ _,.bool_bool _ _⟩
 ·exact⟨.bool_int _ _ _,.bool_int _ _ _,.bool_int _ _ _⟩
 ·exact⟨.bool_str _ _ _,.bool_str _ _ _,.bool_str _ _ _⟩
 ·exact⟨.int_none _ _,.int_none _ _,.int_none _ _⟩
 ·exact⟨.int_bool _ _ _,.int_bool _ _ _,.int_bool _ _ _⟩
 ·exact⟨.int_int _ _ _ _,.int_int _ _ _ _,.int_int _ _ _ _⟩
 ·exact⟨.int_str _ _ _ _,.int_str _ _ _ _,.int_str _ _ _ _⟩
 ·exact⟨.str_none _ _,.str_none _ _,.str_none _ _⟩
 ·exact⟨.str_bool _ _ _,.str_bool _ _ _,.str_bool _ _ _⟩
 ·exact⟨.str_int _ _ _ _,.str_int _ _ _ _,.str_int _ _ _ _⟩
 ·exact⟨.str_str _ _ _ _,.str_str _ _ _ _,.str_str _ _ _ _⟩
theorem OJ{pins:List (Addr × Obj)}{σ:L2.St}{s:Shared}(I:Inv X pins σ H s)(e:ag F H):∀(n:Nat) (x y:D) (v w:V) (u u':Value) (A:Around),dP n x=true->dP n y=true->S F H [x] [v]->S F H [y] [w]->RelV v u->RelV w u' ->
  A.units+n<cLine->OF A s u u' (bN x y):=by
 intro n
 induction n with
 | zero =>
  intro x y v w u u' A hx hy sx sy rv gH hu
  exact OI (wI hx sx rv) (wI hy sy gH)
 | succ n ih =>
  intro x y v w u u' A hx hy sx sy rv gH hu
  have bz:A.units<cLine:=nH (Nat.le_add_right ..) hu
  have OK:A.in1.units+n<cLine:=by show A.units+1+n<cLine;rw[Ek,xJ 1];exact hu
  have items:∀{xs ys:List D} {vs ws:List V} {us uq:List Value},xs.all (dP n)=true->ys.all (dP n)=true->S F H xs vs->S F H ys ws->Vals vs us->Vals ws uq ->
    ∀j (h1:j<us.toArray.size) (h2:j<uq.toArray.size),D8 A.in1 s us.toArray[j] uq.toArray[j] (bN (xs.getD j .av) (ys.getD j .av)):=by
   intro xs ys vs ws us uq hx hy sx sy r1 r2 j h1 h2
   obtain⟨a,e1,q1⟩:=OG r1 h1
   obtain⟨b,e2,q2⟩:=OG r2 h2
   obtain⟨d1,g1,t1⟩:=sx.get' e1
   obtain⟨d2,g2,t2⟩:=sy.get' e2
   rw[OH g1,OH g2]
   exact(ih d1 d2 a b _ _ A.in1 (dG.mp hx d1 (s9 g1)) (dG.mp hy d2 (s9 g2)) t1 t2 q1 q2 OK).eq
  clear ih hu OK
  rcases rE hx with k1 | ⟨o,xs,rfl,k1⟩ | ⟨xs,rfl,k1⟩
  ·have f:=wI k1 sx rv
   rcases rE hy with k2 | ⟨o',ys,rfl,k2⟩ | ⟨ys,rfl,k2⟩
   ·exact OI f (wI k2 sy gH)
   ·obtain⟨p',dR,rfl,e2,t2⟩:=iO sy e
    cases gH
    obtain⟨lL,r2,p2,z2⟩:=I.list (bF.of (K:=X.K) e2)
    have p2:=p2.isList
    rcases f with⟨rfl,rfl⟩ | ⟨a,rfl,rfl⟩ | ⟨a,t,rfl,rfl⟩ | ⟨a,t,rfl,rfl⟩
    ·exact⟨.none_list p2 bz,.none_list p2 bz,.none_list p2 bz⟩
    ·exact⟨.bool_list _ p2 bz,.bool_list _ p2 bz,.bool_list _ p2 bz⟩
    ·exact⟨.int_list _ _ p2 bz,.int_list _ _ p2 bz,.int_list _ _ p2 bz⟩
    ·exact⟨.str_list _ _ p2 bz,.str_list _ _ p2 bz,.str_list _ _ p2 bz⟩
   ·obtain⟨p',dR,rfl,e2,t2⟩:=lK sy
    cases gH
    obtain⟨lL,r2,p2,z2⟩:=I.tuple (h7.of (K:=X.K) e2)
    rcases f with⟨rfl,rfl⟩ | ⟨a,rfl,rfl⟩ | ⟨a,t,rfl,rfl⟩ | ⟨a,t,rfl,rfl⟩
    ·exact⟨.none_tuple p2 bz,.none_tuple p2 bz,.none_tuple p2 bz⟩
    ·exact⟨.bool_tuple _ p2 bz,.bool_tuple _ p2 bz,.bool_tuple _ p2 bz⟩
    ·exact⟨.int_tuple _ _ p2 bz,.int_tuple _ _ p2 bz,.int_tuple _ _ p2 bz⟩
    ·exact⟨.str_tuple _ _ p2 bz,.str_tuple _ _ p2 bz,.str_tuple _ _ p2 bz⟩
  ·obtain⟨p,ws,rfl,e1,t1⟩:=iO sx e
   cases rv
   obtain⟨its,r1,p1,z1⟩:=I.list (bF.of (K:=X.K) e1)
   have p1:=p1.isList
   rcases rE hy with k2 | ⟨o',ys,rfl,k2⟩ | ⟨ys,rfl,k2⟩
   ·rcases wI k2 sy gH with⟨rfl,rfl⟩ | ⟨a,rfl,rfl⟩ | ⟨a,t,rfl,rfl⟩ | ⟨a,t,rfl,rfl⟩
    ·exact⟨.list_none p1 bz,.list_none p1 bz,.list_none p1 bz⟩
    ·exact⟨.list_bool _ p1 bz,.list_bool _ p1 bz,.list_bool _ p1 bz⟩
    ·exact⟨.list_int _ _ p1 bz,.list_int _ _ p1 bz,.list_int _ _ p1 bz⟩
    ·exact⟨.list_str _ _ p1 bz,.list_str _ _ p1 bz,.list_str _ _ p1 bz⟩
   ·obtain⟨p',dR,rfl,e2,t2⟩:=iO sy e
    cases gH
    obtain⟨lL,r2,p2,z2⟩:=I.list (bF.of (K:=X.K) e2)
    have p2:=p2.isList
    have yS:xs.length=its.length:=t1.length.trans r1.length
    have BG:ys.length=lL.length:=t2.length.trans r2.length
    by_cases hl:xs.length=ys.length
    ·have qD:its.toArray.size=lL.toArray.size:=by rw[dj,dj,<- yS,<- BG];exact hl
     have ev:(aF its.toArray.size).all (λj=>bN (xs.getD j .av) (ys.getD j .av))=bN (.lst o xs) (.lst o' ys):=by
      show _=bN.gy xs ys
      rw[Gq xs ys hl,dj,<- yS]
     have a:=SeqAt.RcAt.lists (e:=λj=>bN (xs.getD j .av) (ys.getD j .av)) p1 p2 qD bz (items k1 k2 t1 t2 r1 r2)
     have b:=SeqAt.RcNeAt.lists (e:=λj=>bN (xs.getD j .av) (ys.getD j .av)) p1 p2 qD bz (items k1 k2 t1 t2 r1 r2)
     rw[ev]at a b
     refine⟨a,b,?_⟩
     by_cases ur:p=p'
     ·subst ur
      cases e1.symm.trans e2
      rw[show bN (.lst o xs) (.lst o' ys)=true from OD n k1 k2 t1 t2 e]
      exact .same _
     ·exact .of_refs ur a
    ·have qD:(its.toArray.size != lL.toArray.size)=true:=bne_iff_ne.mpr (by rw[dj,dj,<- yS,<- BG];exact hl)
     rw[show bN (.lst o xs) (.lst o' ys)=false from Gr xs ys hl]
     have a:=SeqAt.RcAt.lists_lengths p1 p2 qD bz
     refine⟨a,SeqAt.RcNeAt.lists_lengths p1 p2 qD bz,.of_refs (λur=>?_) a⟩
     subst ur
     cases e1.symm.trans e2
     exact hl (t1.length.trans t2.length.symm)
   ·obtain⟨p',dR,rfl,e2,t2⟩:=lK sy
    cases gH
    obtain⟨lL,r2,p2,z2⟩:=I.tuple (h7.of (K:=X.K) e2)
    exact⟨.list_tuple p1 p2 bz,.list_tuple p1 p2 bz,.list_tuple p1 p2 bz⟩
  ·obtain⟨p,ws,rfl,e1,t1⟩:=lK sx
   cases rv
   obtain⟨its,r1,p1,z1⟩:=I.tuple (h7.of (K:=X.K) e1)
   rcases rE hy with k2 | ⟨o',ys,rfl,k2⟩ | ⟨ys,rfl,k2⟩
   ·rcases wI k2 sy gH with⟨rfl,rfl⟩ | ⟨a,rfl,rfl⟩ | ⟨a,t,rfl,rfl⟩ | ⟨a,t,rfl,rfl⟩
    ·exact⟨.tuple_none p1 bz,.tuple_none p1 bz,.tuple_none p1 bz⟩
    ·exact⟨.tuple_bool _ p1 bz,.tuple_bool _ p1 bz,.tuple_bool _ p1 bz⟩
    ·exact⟨.tuple_int _ _ p1 bz,.tuple_int _ _ p1 bz,.tuple_int _ _ p1 bz⟩
    ·exact⟨.tuple_str _ _ p1 bz,.tuple_str _ _ p1 bz,.tuple_str _ _ p1 bz⟩
   ·obtain⟨p',dR,rfl,e2,t2⟩:=iO sy e
    cases gH
    obtain⟨lL,r2,p2,z2⟩:=I.list (bF.of (K:=X.K) e2)
    have p2:=p2.isList
    exact⟨.tuple_list p1 p2 bz,.tuple_list p1 p2 bz,.tuple_list p1 p2 bz⟩
   ·obtain⟨p',dR,rfl,e2,t2⟩:=lK sy
    cases gH
    obtain⟨lL,r2,p2,z2⟩:=I.tuple (h7.of (K:=X.K) e2)
    have yS:xs.length=its.length:=t1.length.trans r1.length
    have BG:ys.length=lL.length:=t2.length.trans r2.length
    have ev:((aF (min its.toArray.size lL.toArray.size)).all (λj=>bN (xs.getD j .av) (ys.getD j .av))&&its.toArray.size==lL.toArray.size)=bN (.tup xs) (.tup ys):=by
     show _=bN.gy xs ys
     rw[dj,dj,<- yS,<- BG]
     by_cases hl:xs.length=ys.length
     ·rw[Gq xs ys hl,<- hl,AK,beq_self_eq_true,kT]
     ·rw[Gr xs ys hl,beq_false_of_ne hl,Mh]
    have a:=SeqAt.RcAt.tuples (e:=λj=>bN (xs.getD j .av) (ys.getD j .av)) p1 p2 bz (items k1 k2 t1 t2 r1 r2)
    have b:=SeqAt.RcNeAt.tuples (e:=λj=>bN (xs.getD j .av) (ys.getD j .av)) p1 p2 bz (items k1 k2 t1 t2 r1 r2)
    rw[ev]at a b
    refine⟨a,b,?_⟩
    by_cases ur:p=p'
    ·subst ur
     cases e1.symm.trans e2
     rw[show bN (.tup xs) (.tup ys)=true from OD n k1 k2 t1 t2 e]
     exact .same _
    ·exact .of_refs ur a
noncomputable def rF:cW:=λx y Q=>(dP 6 x=true/\dP 6 y=true)/\Q (.bl (bN x y))
noncomputable def rG:cW:=λx y Q=>(dP 6 x=true/\dP 6 y=true)/\Q (.bl (!bN x y))
theorem fY(hu:X.A.units+6<cLine):bZ X (compareOp .Eq) rF:=bZ.of λpins s σ H v w u u' Q I rv gH zz=>by
 obtain⟨B,F,aK,δ,ts,x,y,Qd,c,sx,sy,⟨⟨hx,hy⟩,q⟩,k⟩:=zz
 exact(OJ I c.ext 6 x y v w u u' X.A hx hy sx sy rv gH hu).rc _ _ _ _ ⟨.bl _,H,I,rfl,k _ _ _ q (ag.refl _) (c.pushS (.bl .nil) rfl)⟩
theorem iQ(hu:X.A.units+6<cLine):bZ X (compareOp .NotEq) rG:=bZ.of λpins s σ H v w u u' Q I rv gH zz=>by
 obtain⟨B,F,aK,δ,ts,x,y,Qd,c,sx,sy,⟨⟨hx,hy⟩,q⟩,k⟩:=zz
 exact(OJ I c.ext 6 x y v w u u' X.A hx hy sx sy rv gH hu).ne _ _ _ _ ⟨.bl _,H,I,rfl,k _ _ _ q (ag.refl _) (c.pushS (.bl .nil) rfl)⟩
end
end L3
namespace L3
open PySem L2 PySem.Spec PyProof.Rows
section
variable{X:Cx}{F H:Hp}{v w:V}{e a b c o:Expr}{es:List Expr}{pos p p2 apos bI:Pos}{t ta tb tc te:aH}{tr:cO}{x:Str}
theorem bP9{r r':R2}{rd yT:cW}(hl:Bt r rd)(nO:Bt r' yT):∀σ H Q,lE (oi rd yT ta tb tc) σ H Q->M8 r r' (lB ta) (lB tb) (lB tc) σ H Q:=λσ H Q ⟨B,F,δ,ts,Qd,c,q,k⟩ =>
 ⟨B,F,δ,ts,_,c,q,λx ak v F1 H1 q1 f1 h1 c1 s1=>⟨B,F1,ak,ts,_,c1,q1,λy bh w F2 H2 q2 f2 h2 c2 s2=>by
  refine hl c2 (s1.mono f2 h2) s2 q2 λd z H' hd hs c3=>?_
  obtain⟨b,rfl,qb⟩:=hd
  have st:=c3.top
  cases st with
  | bl _ =>
   refine⟨b,rfl,?_⟩
   cases b with
   | true =>
    refine nY ⟨B,F2,bh,ts,_,c3.pop,by simpa using qb,λz gI w3 F3 H3 q3 f3 h3 c4 s3=>?_⟩
    exact nO c4 (s2.mono f3 (hs.trans h3)) s3 q3 λd z H' hd hs' c5=>k d gI z F3 H' hd ((f1.trans f2).trans f3) ((((h1.trans h2).trans hs).trans h3).trans hs') c5
   | false=>exact ji (k _ bh _ F2 H' (by simpa using qb) (f1.trans f2) ((h1.trans h2).trans hs) (c3.pop.pushS (.bl .nil) rfl))⟩⟩
theorem uu{op tV:CmpOp}{rd yT:cW}(ho:bZ X (compareOp op) rd)(kW:bZ X (compareOp tV) yT)(ha:PE X a (lB ta))(hb:PE X b (lB tb))(hc:PE X c (lB tc))
  (hm:lastMarks [op,tV] [b,c]=false:=by with_unfolding_all rfl):PE X (.Compare a [op,tV] [b,c] pos) (lE (oi rd yT ta tb tc)):=by
 obtain⟨r,h1,h2⟩:=ho
 obtain⟨r',kD,j6⟩:=kW
 exact dm (Yx h1 kD ha hb hc hm) (bP9 h2 j6)
noncomputable def rH(t:aH):aH:=λδ Q=>t δ λd ai=>match d with
 | .int i=>Q (.int (-i)) ai
 | _=>False
theorem cF6(ha:PE X a (lB ta)):PE X (.UnaryOp .USub a pos) (lE (rH ta)):=dm (Yh Yr ha) λσ H Q zq=>by
 obtain⟨B,F,δ,ts,Qd,c,q,k⟩:=zq
 exact⟨B,F,δ,ts,_,c,q,λd ak v F1 H1 q1 f1 h1 c1 s1=>by
 cases s1 with
 | int _=>exact⟨_,rfl,k _ ak _ F1 H1 q1 f1 h1 (c1.pushS (.int .nil) rfl)⟩
 | _=>exact q1.elim⟩
noncomputable abbrev jP:=List D->(D->Prop)->Prop
noncomputable def lc(rd:jP):List V->Hp->VK->Prop:=λvs H Q=>∃B F σ δ ts ds Qd,aj B F H σ δ ts/\S F H ds vs/\rd ds Qd/\∀d z H',Qd d->ag H H'->aj B F H' σ δ ((d,z)::ts)->Q z H'
noncomputable def ij(X:Cx)(f:Value)(rd:jP):Prop:=ib X f (lc rd)
theorem ij.of{f:Value}{r:List V->Hp->VK->Prop}{rd:jP}(h:ib X f r)(m:∀vs H Q,lc rd vs H Q->r vs H Q):ij X f rd:=λpins s σ H xs us Q I r q=>h pins s σ H xs us Q I r (m xs H Q q)
noncomputable def mU(rd:jP)(t:cO):aH:=λδ Q=>t δ λds ai=>rd ds λd=>Q d ai
theorem OL{rd:jP}:∀σ H Q,lE (mU rd tr) σ H Q->Ff (lc rd) (lA tr) σ H Q:=λσ H Q zq=>by
 obtain⟨B,F,δ,ts,Qd,c,q,k⟩:=zq
 exact⟨B,F,δ,ts,_,c,q,λds ak vs F1 H1 q1 f1 h1 c1 s1 =>
 ⟨B,F1,σ,ak,ts,ds,_,c1,s1,q1,λd z H' hd hs c'=>k d ak z F1 H' hd f1 (h1.trans hs) c'⟩⟩
theorem du{id:String}{rd:jP}(hc:ij X (.builtin id) rd)(hg:Gl X x)(hm:X.mg x=none)(hv:bootBuiltins x=some (.builtin id))(ha:PA X (e::es) (lA tr))(hn:x≠"__name__":=by decide)(dW:(x==("__debug__":Str))=false:=by decide)
  (he:starEach (e::es) X.env=(false,eval e X.env)::starEach es X.env:=by rfl) (bT:(backTo pos (starEach es X.env)).any (·.1)=false:=by rfl):PE X (.Call (.Name x p) (e::es) [] pos) (lE (mU rd tr)) :=
 dm (Fg hc hg hm hv ha hn dW he bT) OL
theorem OM{T:String}{rd:jP}(hc:ij X (.type T) rd)(hg:Gl X x)(hm:X.mg x=none)(hv:bootBuiltins x=some (.type T))(ha:PA X (e::es) (lA tr))(hn:x≠"__name__":=by decide)(dW:(x==("__debug__":Str))=false:=by decide)
  (he:starEach (e::es) X.env=(false,eval e X.env)::starEach es X.env:=by rfl) (bT:(backTo pos (starEach es X.env)).any (·.1)=false:=by rfl):PE X (.Call (.Name x p) (e::es) [] pos) (lE (mU rd tr)) :=
 dm (Y7 hc hg hm hv ha hn dW he bT) OL
theorem kJ{d:D}{vs:List V}(s:S F H [d] vs):∃v,vs=[v]/\S F H [d] [v]:=by
 obtain⟨v,bW,rfl,h1,h2⟩:=s.cE
 cases h2
 exact⟨v,rfl,h1⟩
theorem cB8{d d':D}{vs:List V}(s:S F H [d,d'] vs):∃v v',vs=[v,v']/\S F H [d] [v]/\S F H [d'] [v']:=by
 obtain⟨v,bW,rfl,h1,h2⟩:=s.cE
 obtain⟨v',rfl,h3⟩:=kJ h2
 exact⟨v,v',rfl,h1,h3⟩
theorem lM{K:PySem.W.Frag}{p:Addr}{ws:List V}(h:Rd H p (.lst ws)):bF K H p ws:=.inl h
noncomputable def oI:jP:=λds Q=>match ds with
 | [.lst _ xs]=>Q (.int xs.length)
 | [.fz xs]=>Q (.int xs.length)
 | [.tup xs]=>Q (.int xs.length)
 | [.str z]=>z.length<=sizeLine/\Q (.int z.length)
 | _=>False
theorem fK:ij X (.builtin "len") oI:=ij.of (NA.or Zq) λvs H Q zz=>by
 obtain⟨B,F,σ,δ,ts,ds,Qd,c,s,q,k⟩:=zz
 unfold oI at q
 split at q
 ·obtain⟨v,rfl,s1⟩:=kJ s
  obtain⟨p,ws,rfl,h,t⟩:=oB s1 c.ext rfl
  refine .inl ⟨p,ws,rfl,.inl (lM h),?_⟩
  rw[<-t.length]
  exact k _ _ _ q (ag.refl _) (c.pushS (.int .nil) rfl)
 ·obtain⟨v,rfl,s1⟩:=kJ s
  obtain⟨p,ws,rfl,h,t⟩:=oB s1 c.ext rfl
  refine .inl ⟨p,ws,rfl,.inl (lM h),?_⟩
  rw[<-t.length]
  exact k _ _ _ q (ag.refl _) (c.pushS (.int .nil) rfl)
 ·obtain⟨v,rfl,s1⟩:=kJ s
  obtain⟨p,ws,rfl,h,t⟩:=lK s1
  refine .inl ⟨p,ws,rfl,.inr (h7.of h),?_⟩
  rw[<-t.length]
  exact k _ _ _ q (ag.refl _) (c.pushS (.int .nil) rfl)
 ·obtain⟨v,rfl,s1⟩:=kJ s
  cases s1
  exact .inr ⟨_,rfl,q.1,k _ _ _ q.2 (ag.refl _) (c.pushS (.int .nil) rfl)⟩
 ·exact q.elim
noncomputable def oJ:jP:=λds Q=>match ds with
 | [.lst _ xs]=>xs.all D.pl=true/\Q (.lst true xs)
 | [.fz xs]=>Q (.lst true xs)
 | [.tup xs]=>xs.all D.pl=true/\Q (.lst true xs)
 | _=>False
theorem cx5:ij X (.type "list") oJ:=ij.of Zr λvs H Q zz=>by
 obtain⟨B,F,σ,δ,ts,ds,Qd,c,s,q,k⟩:=zz
 unfold oJ at q
 split at q
 ·obtain⟨v,rfl,s1⟩:=kJ s
  obtain⟨p,ws,rfl,h,t⟩:=oB s1 c.ext rfl
  exact⟨p,ws,rfl,.inl (lM h),λl hl=>k _ _ _ q.2 (ag.upd hl) (c.mJ hl t q.1)⟩
 ·obtain⟨v,rfl,s1⟩:=kJ s
  cases s1 with
  | fz h r _=>exact⟨_,_,rfl,.inl (lM (.inr ⟨_,c.ext _ _ h⟩)),λl hl=>k _ _ _ q (ag.upd hl) (c.mJ hl r.s r.pl)⟩
 ·obtain⟨v,rfl,s1⟩:=kJ s
  obtain⟨p,ws,rfl,h,t⟩:=lK s1
  exact⟨p,ws,rfl,.inr (h7.of h),λl hl=>k _ _ _ q.2 (ag.upd hl) (c.mJ hl t q.1)⟩
 ·exact q.elim
noncomputable def ii(g:Int->Int->Int):jP:=λds Q=>match ds with
 | [.int i,.int j]=>Q (.int (g i j))
 | _=>False
theorem cF2{f:Value}{g:Int->Int->Int}(h:ib X f (λxs H Q=>∃i j,xs=[.int i,.int j]/\Q (.int (g i j)) H)):ij X f (ii g):=ij.of h λvs H Q zz=>by
 obtain⟨B,F,σ,δ,ts,ds,Qd,c,s,q,k⟩:=zz
 unfold ii at q
 split at q
 ·obtain⟨v,v',rfl,s1,s2⟩:=cB8 s
  cases s1;cases s2
  exact⟨_,_,rfl,k _ _ _ q (ag.refl _) (c.pushS (.int .nil) rfl)⟩
 ·exact q.elim
theorem ON(hc:X.calm=true):ij X (.builtin "min") (ii λi j=>if j<i then j else i):=cF2 (YA hc)
noncomputable def lN(bs:List Bool):List D:=bs.map D.bl
theorem Gv:∀{bs:List Bool} {ws:List V},S F H (lN bs) ws->ws=bs.map V.bl
 | [],_,s=>by cases s;rfl
 | b::bs,_,s=>by
  cases s with
  | bl s=>rw[Gv s];rfl
noncomputable def oK:jP:=λds Q=>match ds with
 | [.lst _ xs]=>∃bs,xs=lN bs/\Q (.bl (bs.all id))
 | _=>False
noncomputable def oM:jP:=λds Q=>match ds with
 | [.lst _ xs]=>∃bs,xs=lN bs/\Q (.bl (bs.any id))
 | _=>False
theorem uv(hc:X.calm=true):ij X (.builtin "all") oK:=ij.of (Θ hc) λvs H Q zz=>by
 obtain⟨B,F,σ,δ,ts,ds,Qd,c,s,q,k⟩:=zz
 unfold oK at q
 split at q
 ·obtain⟨v,rfl,s1⟩:=kJ s
  obtain⟨bs,rfl,q⟩:=q
  obtain⟨p,ws,rfl,h,t⟩:=oB s1 c.ext rfl
  rw[Gv t]at h
  exact⟨p,bs,rfl,lM h,k _ _ _ q (ag.refl _) (c.pushS (.bl .nil) rfl)⟩
 ·exact q.elim
theorem cD2(hc:X.calm=true):ij X (.builtin "any") oM:=ij.of (Λ hc) λvs H Q zz=>by
 obtain⟨B,F,σ,δ,ts,ds,Qd,c,s,q,k⟩:=zz
 unfold oM at q
 split at q
 ·obtain⟨v,rfl,s1⟩:=kJ s
  obtain⟨bs,rfl,q⟩:=q
  obtain⟨p,ws,rfl,h,t⟩:=oB s1 c.ext rfl
  rw[Gv t]at h
  exact⟨p,bs,rfl,lM h,k _ _ _ q (ag.refl _) (c.pushS (.bl .nil) rfl)⟩
 ·exact q.elim
noncomputable def Gw:D->Option String
 | .int _=>some "int"
 | .bl _=>some "bool"
 | .av=>some "NoneType"
 | .str _=>some "str"
 | .lst _ _=>some "list"
 | .fz _=>some "list"
 | .tup _=>some "tuple"
 | _=>none
noncomputable def Gx(k n:String):Option Bool:=([("int","int",true),("int","bool",false),("int","list",false),("int","tuple",false),("int","str",false),("bool","int",true),("bool","bool",true),("bool","list",false),("bool","tuple",false),("bool","str",false),
 ("NoneType","int",false),("NoneType","bool",false),("NoneType","list",false),("NoneType","tuple",false),("NoneType","str",false),("str","int",false),("str","bool",false),("str","list",false),("str","tuple",false),("str","str",true),
 ("list","int",false),("list","bool",false),("list","list",true),("list","tuple",false),("list","str",false),("tuple","int",false),("tuple","bool",false),("tuple","list",false),("tuple","tuple",true),("tuple","str",false)].find? λz=>z.1==k&&z.2.1==n).map (·.2.2)
noncomputable def mV(n:String)(d:D):Option Bool:=(Gw d).bind λk=>Gx k n
theorem cv7{K:PySem.W.Frag}{k n:String}{r:Bool}(h:Gx k n=some r):PySem.W.kitOne K (.type k) (.type n)=some r:=by
 unfold Gx at h
 obtain⟨z,hz,rfl⟩:=xN.mp h
 have hm:=Mq hz
 have hp:=List.find?_some hz
 rw[eZ,beq_iff_eq,beq_iff_eq]at hp
 obtain⟨rfl,rfl⟩:=hp
 simp only[cj,hJ,or_false]at hm
 repeat' (rcases hm with hm | hm)
 all_goals rfl
theorem cq6{K:PySem.W.Frag}{d:D}(s:S F H [d] [v])(e:ag F H){k:String}(h:Gw d=some k):i9 K H v (.type k):=by
 cases s with
 | int _=>cases h;exact .int _
 | bl _=>cases h;exact .bl _
 | av _=>cases h;exact .av
 | str _=>cases h;exact .str _
 | shr h' _ _=>cases h;exact .lst (e _ _ h')
 | own h' _ _=>cases h;exact .lst h'
 | fz h' _ _=>cases h;exact .bu (e _ _ h')
 | tup h' _ _=>cases h;exact .tup h'
 | obj _ _ _ _=>cases h
 | bJ _ _=>cases h
theorem cF4{K:PySem.W.Frag}{d:D}(s:S F H [d] [v])(e:ag F H){n:String}{r:Bool}(h:mV n d=some r):∃t,i9 K H v t/\PySem.W.kitOne K t (.type n)=some r:=by
 unfold mV at h
 cases hk:Gw d with
 | none=>rw[hk]at h;cases h
 | some k=>rw[hk]at h;exact⟨_,cq6 s e hk,cv7 h⟩
noncomputable def rJ(n:String)(t:aH):aH:=λδ Q=>t δ λd ai=>∃r,mV n d=some r/\Q (.bl r) ai
theorem mW{n:String}{y:Str}{q:Pos}(hg:Gl X "isinstance")(hm:X.mg "isinstance"=none)(yU:Gl X y)(rK:X.mg y=none)(hv2:bootBuiltins y=some (.type n))(ha:PE X a (lB ta))
  (hn:y≠"__name__":=by decide) (hd:(y==("__debug__":Str))=false:=by decide)
  (hs:starEach [a,.Name y q] X.env=(false,eval a X.env)::starEach [.Name y q] X.env:=by rfl) (eM:starEach [.Name y q] X.env=(false,eval (.Name y q) X.env)::starEach [] X.env:=by rfl) (bT:(backTo pos (starEach [.Name y q] X.env)).any (·.1)=false:=by rfl) :
  PE X (.Call (.Name "isinstance" p) [a,.Name y q] [] pos) (lE (rJ n ta)) :=
 dm (Fg ξ hg hm ε (bV ha (bV (μ yU rK hv2 hn hd) eB eM) hs) (by decide) (by decide) hs bT) λσ H Q zq=>by
 obtain⟨B,F,δ,ts,Qd,c,q,k⟩:=zq
 exact⟨B,F,δ,ts,_,c,q,λd ak v F1 H1 q1 f1 h1 c1 s1=>by
  obtain⟨r,e,qr⟩:=q1
  obtain⟨t,h2,h3⟩:=cF4 (K:=X.K) s1 c1.ext e
  exact⟨v,n,t,r,rfl,h2,h3,k _ ak _ F1 H1 qr f1 h1 (c1.pushS (.bl .nil) rfl)⟩⟩
theorem Gz{xs:List D}{ws:List V}{i:Int}{d:D}(s:S F H xs ws)(h:eN xs i=some d):∃v,eN ws i=some v/\S F H [d] [v]:=by
 unfold eN at h ⊢
 rw[<-s.length]
 cases e:jH xs.length i with
 | none=>rw[e]at h;cases h
 | some j =>
  rw[e]at h
  exact s.get h
noncomputable def oN(x y:D)(Q:D->Prop):Prop:=match x,y with
 | .lst _ xs,.int i=>∃d,eN xs i=some d/\Q d
 | .fz xs,.int i=>∃d,eN xs i=some d/\Q d
 | .tup xs,.int i=>∃d,eN xs i=some d/\Q d
 | .str z,.int i=>z.length<=sizeLine/\∃ch,eN z.cps.toList i=some ch/\Q (.str ⟨#[ch]⟩)
 | _,_=>False
noncomputable def rL(ta tb:aH):aH:=λδ Q=>ta δ λx ak=>tb ak λy bh=>oN x y λd=>Q d bh
theorem bB(ha:PE X a (lB ta))(hb:PE X b (lB tb))(hs:Nr b):PE X (.Subscript a b pos) (lB (rL ta tb)) :=
 dm (Fj Zg ha hb hs) λσ H Q zq=>by
 obtain⟨B,F,δ,ts,Qd,c,q,k⟩:=zq
 exact⟨B,F,δ,ts,_,c,q,λx ak v F1 H1 q1 f1 h1 c1 s1=>⟨B,F1,ak,ts,_,c1,q1,λy bh w F2 H2 q2 f2 h2 c2 s2=>by
  have oO:=s1.mono f2 h2
  have fin:∀d z,Qd d bh->S F2 H2 [d] [z]->Q z H2:=λd z hd s=>k d bh z F2 H2 hd (f1.trans f2) (h1.trans h2) c2 s
  unfold oN at q2
  split at q2
  ·obtain⟨d,ed,qd⟩:=q2
   cases s2
   obtain⟨p,ws,rfl,h,t⟩:=oB oO c2.ext rfl
   obtain⟨z,ez,sz⟩:=Gz t ed
   exact .inl ⟨p,ws,_,z,rfl,rfl,lM h,ez,fin d z qd sz⟩
  ·obtain⟨d,ed,qd⟩:=q2
   cases s2
   obtain⟨p,ws,rfl,h,t⟩:=oB oO c2.ext rfl
   obtain⟨z,ez,sz⟩:=Gz t ed
   exact .inl ⟨p,ws,_,z,rfl,rfl,lM h,ez,fin d z qd sz⟩
  ·obtain⟨d,ed,qd⟩:=q2
   cases s2
   obtain⟨p,ws,rfl,h,t⟩:=lK oO
   obtain⟨z,ez,sz⟩:=Gz t ed
   exact .inr (.inl ⟨p,ws,_,z,rfl,rfl,h7.of h,ez,fin d z qd sz⟩)
  ·obtain⟨hz,ch,ec,qc⟩:=q2
   cases oO
   cases s2
   exact .inr (.inr ⟨_,_,ch,rfl,rfl,hz,ec,fin _ _ qc (.str .nil)⟩)
  ·exact q2.elim⟩⟩
noncomputable abbrev rM:=Dl->(Option Int->Dl->Prop)->Prop
inductive lP(t:rM)(σ:L2.St)(H:Hp)(Q:Option Int->Hp->Prop):Prop
 | mk (B F δ ts Qd) (c:aj B F H σ δ ts) (q:t δ Qd) (k:∀o ai F' H',Qd o ai->ag F F'->ag H H'->aj B F' H' σ ai ts->Q o H')
theorem OO{oe:Option Expr}{u u':TO}(h:PO X oe u)(m:∀σ H Q,u' σ H Q->u σ H Q):PO X oe u':=λpins s σ H Q I q=>h pins s σ H Q I (m σ H Q q)
noncomputable def rN:rM:=λδ Q=>Q none δ
noncomputable def rO(t:aH):rM:=λδ Q=>t δ λd ai=>match d with
 | .int i=>Q (some i) ai
 | _=>False
theorem uw:PO X none (lP rN):=OO Za λσ H Q ⟨B,F,δ,ts,Qd,c,q,k⟩=>k none δ F H q (ag.refl _) (ag.refl _) c
theorem uz(h:PE X e (lB t)):PO X (some e) (lP (rO t)):=OO (Zb h) λσ H Q zq=>by
 obtain⟨B,F,δ,ts,Qd,c,q,k⟩:=zq
 exact⟨B,F,δ,ts,_,c,q,λd ak v F1 H1 q1 f1 h1 c1 s1=>by
 cases s1 with
 | int _=>exact⟨_,rfl,k _ ak F1 H1 q1 f1 h1 c1⟩
 | _=>exact q1.elim⟩
noncomputable def eU{α:Type}(xs:List α)(lo hi:Option Int):List α:=(xs.drop (HT.cN xs.length 0 lo)).take (HT.cN xs.length xs.length hi-HT.cN xs.length 0 lo)
theorem S.cut{xs:List D}{ws:List V}(s:S F H xs ws)(lo hi:Option Int):S F H (eU xs lo hi) (k9 ws lo hi):=by
 unfold eU k9
 rw[<-s.length]
 exact(s.drop _).take _
theorem OP{xs:List D}{p:D->Bool}(h:xs.all p=true)(lo hi:Option Int):(eU xs lo hi).all p=true:=by
 rw[dG]at h ⊢
 intro x hx
 exact h x (nL (tE hx))
noncomputable def rP(t:aH):aH:=λδ Q=>t δ λd ai=>match d with
 | .int i=>Q (.int (Mf.bl i.natAbs:Nat)) ai
 | _=>False
theorem oQ(ho:PE X o (lB t))(jf:attributeBase o "bit_length" X.env (eval o X.env)=eval o X.env:=by rfl)(jg:(apos.endLine==bI.line)=true:=by rfl):PE X (.Call (.Attribute o "bit_length" apos) [] [] bI) (lE (rP t)) :=
 dm (FI ho jf jg) λσ H Q zq=>by
 obtain⟨B,F,δ,ts,Qd,c,q,k⟩:=zq
 exact⟨B,F,δ,ts,_,c,q,λd ak v F1 H1 q1 f1 h1 c1 s1=>by
  cases s1 with
  | int _=>exact⟨rfl,_,rfl,rfl,k _ ak _ F1 H1 q1 f1 h1 (c1.pushS (.int .nil) rfl)⟩
  | _=>exact q1.elim⟩
end
end L3
namespace L3
open PySem L2 PySem.Spec PyProof.Rows
section
variable{X:Cx}{F H:Hp}{v w:V}{e a b c o tg:Expr}{es:List Expr}{pos p p2 apos bI pos':Pos}{t ta tb tc te ti:aH}{tr:cO}{x:Str}{i:Nat}
noncomputable def rQ(i:Nat)(t:aH):dd:=λD δ=>(∃xs,δ[i]?=some (some (.lst true xs)))/\t δ λd ai=>∃xs,ai[i]?=some (some (.lst true xs))/\xs.length<sizeLine/\D.nx (ai.set i (some (.lst true (xs++[d]))))
theorem uA(hN:X.N[i]?=some x)(hv:jY X.env.scope x)(he:PE X e (lE t))(hd:(x==("__debug__":Str))=false:=by decide)(cq:(x==("__classdict__":Str))=false:=by decide)
  (jf:attributeBase (.Name x p) "append" X.env (eval (.Name x p) X.env)=eval (.Name x p) X.env:=by rfl)
  (t9:((backTo bI (starEach [e] X.env)).all (λx=>!x.1)&&(backToKw bI (keywordEach [] X.env)).all (λx=>x.1.isSome)
   && decide ([e].length+([]:List Keyword).length+(if([]:List Keyword).isEmpty then 0 else 1)<30))=true:=by rfl)
  (jg:(apos.endLine==bI.line)=true:=by rfl) (hs:starEach [e] X.env=(false,eval e X.env)::starEach [] X.env:=by rfl) (ua:(backTo bI (starEach [] X.env)).any (·.1)=false:=by rfl)
  (j8:swapsWith (.Call (.Attribute (.Name x p) "append" apos) [e] [] bI) none pos.line X.env=pure false:=by rfl) :
  PS X (.Expr (.Call (.Attribute (.Name x p) "append" apos) [e] [] bI) pos) (lS X (rQ i t)) :=
 jk (mC (Fs PySem.F.plainAttrs_list PySem.F.slot_list_append PySem.F.type_list_append Fv (mB hN hv hd cq) (bV he eB hs) jf t9 jg hs ua) j8) λEn σ H zz=>by
  obtain⟨B,F,δ,Dd,c,⟨⟨ys,ey⟩,q⟩,k1,k2,k3,k4⟩:=zz
  obtain⟨p0,ui,g1,g2,g3⟩:=c.ownAt ey
  refine⟨.ref p0,g1,.inl ⟨rfl,_,bF.of g2⟩,B,F,δ,[],_,c,q,λd ai v F' H' hd sf sh c'=>?_⟩
  obtain⟨xs,ex,hl,hn⟩:=hd
  obtain⟨p1,ws,r1,r2,r3⟩:=c'.ownAt ex
  rw[g1]at r1;cases r1
  exact⟨p0,ws,v,rfl,rfl,r2,by omega,k1 _ _ F' _ hn (c'.app ex g1 r2)⟩
noncomputable def rR(i:Nat)(te ti:aH):dd:=λD δ=>te δ λd ak=>∃ys,ak[i]?=some (some (.lst true ys))/\oh ti ak λk bh=>match k with
 | .int n=>∃xs j,bh[i]?=some (some (.lst true xs))/\jH xs.length n=some j/\D.nx (bh.set i (some (.lst true (xs.set j d))))
 | _=>False
theorem GA(hN:X.N[i]?=some x)(hv:jY X.env.scope x)(he:PE X e (lE te))(hi:PE X b (lB ti))(hd:(x==("__debug__":Str))=false:=by decide)(cq:(x==("__classdict__":Str))=false:=by decide)
  (ha:∀v,assign (.Subscript (.Name x p) b pos') X.env v=(do
   let ov<-holding [v] (eval (.Name x p) X.env)
   let iv<-holding [v,ov] (eval b X.env)
   standAt pos'
   holding [v,ov,iv] (setItem ov iv v)
   release [v,ov,iv] []):=by intro _;rfl)
  (hs:swapsWithSole [.Subscript (.Name x p) b pos'] e pos.line X.env=pure false:=by rfl) (hw:swappedStores [.Subscript (.Name x p) b pos'] e X.env=pure none:=by rfl)
  (h1:(assignEach [.Subscript (.Name x p) b pos'] X.env).map (·.2)=[assign (.Subscript (.Name x p) b pos') X.env]:=by rfl) :
  PS X (.Assign [.Subscript (.Name x p) b pos'] e pos) (lS X (rR i te ti)) :=
 jk (XZ he (XY (mB hN hv hd cq) (dq hi) Zk ha) hs hw h1) λEn σ H zq=>by
 obtain⟨B,F,δ,Dd,c,q,k1,k2,k3,k4⟩:=zq
 exact⟨B,F,δ,[],_,c,q,λd ak v F1 H1 hq f1 h1 c1=>by
  obtain⟨ys,ey,hq⟩:=hq
  obtain⟨p0,ui,g1,g2,g3⟩:=c1.ownAt ey
  refine⟨.ref p0,g1,B,F1,ak,[(d,v)],_,c1,hq,λkd bh kv F2 H2 hk f2 h2 c2=>?_⟩
  have st:=c2.top
  split at hk
  ·obtain⟨xs,j,ex,ej,hn⟩:=hk
   cases st
   have c3:=c2.pop
   obtain⟨p1,ws,r1,r2,r3⟩:=c3.ownAt ex
   rw[g1]at r1;cases r1
   exact⟨p0,ws,_,j,rfl,rfl,r2,by rw[<-r3];exact ej,k1 _ _ F2 _ hn (c3.cM9 ex g1 r2 j)⟩
  ·exact hk.elim⟩
theorem R.OQ:∀{xs:List D} {ws:List V} {A:List Addr},R F H xs ws A->A.Nodup->∃A',R F H xs.dropLast ws.dropLast A'/\A'.Nodup/\∀a∈A',a∈A
 | [],_,A,r,nd=>by cases r;exact⟨[],.nil,by simp,by simp⟩
 | [d],_,A,r,nd=>by
  obtain⟨w,dR,B1,B2,rfl,rfl,h1,h2⟩:=r.cE
  cases h2
  exact⟨[],.nil,by simp,by simp⟩
 | d::d'::ds,_,A,r,nd=>by
  obtain⟨w,dR,B1,B2,rfl,rfl,h1,h2⟩:=r.cE
  obtain⟨n1,n2,n3⟩:=fX.mp nd
  obtain⟨A',r',og,sub⟩:=R.OQ h2 n2
  have hl:dR≠[]:=by have:=h2.length;intro z;rw[z]at this;simp at this
  refine⟨B1++A',?_,fX.mpr ⟨n1,og,λa ha hb=>n3 a ha (sub a hb)⟩,λa ha=>?_⟩
  ·rw[WX (by simp),WX hl]
   exact h1.cons r'
  ·rcases cg.mp ha with z | z
   ·simp[z]
   ·simp[sub a z]
noncomputable def rS(i:Nat):dd:=λD δ=>∃xs,δ[i]?=some (some (.lst true xs))/\xs≠[]/\D.nx (δ.set i (some (.lst true xs.dropLast)))
theorem cF8(hN:X.N[i]?=some x)(hv:jY X.env.scope x)(hd:(x==("__debug__":Str))=false:=by decide)(cq:(x==("__classdict__":Str))=false:=by decide)
  (jf:attributeBase (.Name x p) "pop" X.env (eval (.Name x p) X.env)=eval (.Name x p) X.env:=by rfl) (jg:(apos.endLine==bI.line)=true:=by rfl)
  (j8:swapsWith (.Call (.Attribute (.Name x p) "pop" apos) [] [] bI) none pos.line X.env=pure false:=by rfl) :
  PS X (.Expr (.Call (.Attribute (.Name x p) "pop" apos) [] [] bI) pos) (lS X (rS i)) :=
 jk (mC (ND PySem.F.plainAttrs_list PySem.F.slot_list_pop PySem.F.type_list_pop Zy (mB hN hv hd cq) jf jg) j8) λEn σ H zz=>by
  obtain⟨B,F,δ,Dd,c,⟨ys,ey,mH,hn⟩,k1,k2,k3,k4⟩:=zz
  obtain⟨p0,ui,g1,g2,g3⟩:=c.ownAt ey
  have hl:0<ui.length:=by rw[<-g3];exact WY.mpr mH
  refine⟨.ref p0,g1,.inl ⟨rfl,_,bF.of g2⟩,p0,ui,_,rfl,rfl,g2,aO (by omega),k1 _ _ F _ hn ?_⟩
  exact aj.mut (ps:=[]) c ey g1 λdR A1 A2 h r1 r2 nd=>by
   rw[g2]at h;cases h
   obtain⟨A',r',og,sub⟩:=r1.OQ (fX.mp nd).1
   exact⟨A',r',og,λa ha=>dZ _ (sub a ha)⟩
end
end L3
namespace L3
open PySem L2 PySem.Spec PyProof.Rows
theorem cH{A:Around}{k:Nat}(hr:cu k A):A.units+6<cLine:=by have:=hr.un;omega
noncomputable def aI(ns:List Int):List D:=ns.map D.int
noncomputable def GB(o:Obj):Bool:=match o.cls with
 | .type n=>n != "list"
 | _=>true
noncomputable def OR:aX:=λds Q=>∃ns:List Int,ds=[.fz (aI ns)]/\ns.length<=63/\Q (.bl true)
theorem lQ{F H:Hp}:∀ns:List Int,R F H (aI ns) (ns.map V.int) []
 | []=>.nil
 | n::ns=>.int (lQ ns)
theorem bH0{K:PySem.W.Frag}{a:Addr}{o:Obj}(h:K.lookup a=some o):(a,o)∈K:=by
 induction K with
 | nil=>cases h
 | cons p K ih =>
  obtain⟨b,u⟩:=p
  rw[gq]at h
  split at h
  ·rename_i z
   have:a=b:=by simpa using z
   cases h;subst this;simp
  ·exact eG _ (ih h)
end L3
namespace L3
open PySem L2 PySem.Spec PyProof.Rows
section
variable{B:Bs}{F H:Hp}{σ:L2.St}{δ:Dl}{ts ps:List (D × V)}{i k:Nat}{p q:Addr}{l1 l2 ys Og:List D}{ws uq:List V}
end
section
variable{X:Cx}{F H:Hp}{e b:Expr}{pos p pr apos bI GC:Pos}{t ti te:aH}{x y:Str}{i j:Nat}
end
end L3
namespace L3
open PySem L2 PySem.Spec PyProof.Rows
theorem uB(i:Int):(D.int i).pl=true:=rfl
theorem uC(i:Bool):(D.bl i).pl=true:=rfl
theorem uD(i:Str):(D.str i).pl=true:=rfl
theorem uE:D.av.pl=true:=rfl
theorem uF(xs:List D):(D.fz xs).pl=true:=rfl
theorem uG(C:Addr)(ns:List Str)(xs:List D):(D.obj C ns xs).pl=true:=rfl
theorem rT(i:Int):(D.int i).fr=true:=rfl
theorem uH(i:Bool):(D.bl i).fr=true:=rfl
theorem uI(i:Str):(D.str i).fr=true:=rfl
theorem uJ:D.av.fr=true:=rfl
theorem lU(i:Int):(D.int i).sh=.int i:=rfl
theorem uK(i:Bool):(D.bl i).sh=.bl i:=rfl
theorem uL(i:Str):(D.str i).sh=.str i:=rfl
theorem uM:D.av.sh=.av:=rfl
theorem uN(xs:List D):(D.fz xs).sh=.fz xs:=rfl
theorem uO(C:Addr)(ns:List Str)(xs:List D):(D.obj C ns xs).sh=.obj C ns xs:=rfl
theorem uP{α:Type}(n:Nat)(x:α):(bg n [x]).flatten=bg n x:=by
 induction n with
 | zero=>rfl
 | succ n ih=>rw[tu,vO,ih];rfl
theorem kK(ns:List Int):(aI ns).length=ns.length:=by simp[aI]
theorem mX(ns:List Int):(aI ns).all D.pl=true:=by simp[aI,D.pl]
theorem oR(ns:List Int):(aI ns).all D.fr=true:=by simp[aI,D.fr]
theorem jQ(ns:List Int):(aI ns).map D.sh=aI ns:=by simp[aI,D.sh]
theorem oS(a b:List Int):aI a++aI b=aI (a++b):=by simp[aI]
theorem uQ(n:Nat)(i:Int):bg n (D.int i)=aI (bg n i):=by simp[aI]
theorem oU(n:Nat)(i:Int):dP n (.int i)=true:=by cases n<;>rfl
theorem uR(n:Nat)(i:Str):dP n (.str i)=true:=by cases n<;>rfl
theorem lW(i j:Int):bN (.int i) (.int j)=decide (i=j):=by
 show(i==j)=_
 rw[Bool.beq_eq_decide_eq]
theorem OS:∀(a b:List Int),bN.gy (aI a) (aI b)=decide (a=b)
 | [],[]=>rfl
 | [],_::_=>by simp[aI,bN.gy]
 | _::_,[]=>by simp[aI,bN.gy]
 | x::xs,y::ys=>by
  show(bN (.int x) (.int y)&&bN.gy (aI xs) (aI ys))=_
  rw[OS xs ys,lW,tD];simp
theorem rW(o o':Bool)(a b:List Int):bN (.lst o (aI a)) (.lst o' (aI b))=decide (a=b):=OS a b
theorem OT{ns:List Int}{k:Nat}(h:k<ns.length):(aI ns)[k]?=some (.int ns[k]):=by simp[aI,h]
theorem mY{ns:List Int}{k:Int}(h0:0<=k)(h:k<ns.length):eN (aI ns) k=some (.int (ns.getD k.toNat 0)):=by
 unfold eN jH
 rw[if_pos h0,kK,if_pos h]
 show(aI ns)[k.toNat]?=_
 have hk:k.toNat<ns.length:=by omega
 rw[OT hk,aM,aO hk];rfl
theorem rX(ns:List Int)(lo hi:Option Int):eU (aI ns) lo hi=aI (eU ns lo hi):=by simp[eU,aI,Mr,Ms]
theorem uS(i:Int):mV "int" (.int i)=some true:=by rfl
theorem uT(i:Int):mV "bool" (.int i)=some false:=by rfl
theorem uU(i:Int):mV "list" (.int i)=some false:=by rfl
theorem uV(o:Bool)(xs:List D):mV "list" (.lst o xs)=some true:=by rfl
theorem uW:mV "int" .av=some false:=by rfl
theorem uX(x:Str):mV "str" (.str x)=some true:=by rfl
theorem uY(xs:List D):mV "tuple" (.tup xs)=some true:=by rfl
theorem sL:sizeLine=16777216:=rfl
theorem uZ{p:Prop}[Decidable p]:(decide p=true)=p:=by simp
theorem cq7{α:Type}(xs:List α)(a b:Nat):eU xs (some (a:Int)) (some (b:Int))=(xs.drop a).take (b-a):=by
 unfold eU
 rw[HT.Fh,HT.Fh]
 by_cases h:a<=xs.length
 ·rw[Nat.min_eq_left h]
  apply xO
  intro i
  rw[AL,AL,El]
  by_cases hi:i<b-a
  ·rw[if_pos hi]
   by_cases hb:a+i<xs.length
   ·rw[if_pos (by omega)]
   ·rw[fF (by omega)];simp
  ·rw[if_neg hi,if_neg (by omega)]
 ·rw[Nat.min_eq_right (show xs.length<=a by omega),Em (bL _),Em (show xs.length<=a by omega)];simp
end L3
namespace L2
open PySem PySem.Spec PyProof.Rows
section
variable{X:Cx}{e:Expr}{te:TE}{lo hi:Option Expr}{st:Expr}{tl th ts:TO}{pos p2:Pos}
end
end L2
namespace L3
open PySem L2 PySem.Spec PyProof.Rows
section
variable{X:Cx}{F H:Hp}{e:Expr}{t:aH}{lo hi:Option Expr}{st:Expr}{tl th td:rM}{pos p2:Pos}
theorem OU:∀{a:List Int} {ws:List V},S F H (aI a) ws->ws=a.map V.int
 | [],_,s=>by cases s;rfl
 | b::bs,_,s=>by
  cases s with
  | int s=>rw[OU s];rfl
noncomputable def GD:Expr->Option Int
 | .Constant (.int i) _ _=>some i
 | _=>none
noncomputable def BH:List Expr->Option (List Int)
 | []=>some []
 | e::es=>(GD e).bind λi=>(BH es).map (i :: ·)
theorem b52{e:Expr}{i:Int}(h:GD e=some i):∃a b,e=.Constant (.int i) a b:=by
 cases e with
 | Constant c a b =>
  cases c with
  | int j=>cases h;exact⟨_,_,rfl⟩
  | _=>cases h
 | _=>cases h
noncomputable def cF0(ns:List Int):cO:=λδ Q=>Q (aI ns) δ
theorem OV:∀(es:List Expr) (ns:List Int),BH es=some ns->PA X es (lO (cF0 ns))
 | [],ns,h=>by cases h;exact cP
 | e::es,ns,h=>by
  obtain⟨i,hi,h2⟩:=Option.bind_eq_some_iff.mp (show(GD e).bind (λi=>(BH es).map (i :: ·))=some ns from h)
  obtain⟨ms,hm,rfl⟩:=xN.mp h2
  obtain⟨a,b,rfl⟩:=b52 hi
  exact yG (eQ (au (i:=i)) (OV es ms hm)) λ_ _ _ q=>q
noncomputable def rY(ns:List Int):aH:=λδ Q=>ns.length<=sizeLine/\Q (.lst true (aI ns)) δ
theorem OW{es:List Expr}{ns:List Int}(h:BH es=some ns):PE X (.List es pos) (lE (rY ns)) :=
 dm (dD (OV es ns h)) λ_ _ _ zq=>by
 obtain⟨B,F,δ,ts,Qd,c,q,k⟩:=zq
 exact⟨B,F,δ,ts,Qd,c,by
  show(aI ns).length<=sizeLine/\_
  rw[kK];exact q,k⟩
theorem bW2{ns:List Int}(h:0<ns.length):eN (aI ns) (-1)=some (.int (ns.getD (ns.length-1) 0)):=by
 unfold eN jH
 rw[if_neg (by decide),kK,if_pos (by omega)]
 have hk:((-1:Int)+ns.length).toNat=ns.length-1:=by omega
 show(aI ns)[((-1:Int)+ns.length).toNat]?=_
 rw[hk,OT (by omega),aM,aO (by omega)];rfl
theorem yV{n:Nat}{g:iK}{tb:dd}{En:qL}{δ:Dl}(Iv:Nat->Dl->Prop)(h0:Iv 0 δ)(ht:∀k ai,k<n->Iv k ai->g (.int k) ai λbh=>tb { En with nx:=Iv (k+1),ct:=Iv (k+1),bk:=En.nx } bh)
  (hf:∀ai,Iv n ai->En.nx ai):gJ (Eo (λ(k:Nat)=>D.int (0+(k:Int))) (aF (n:Int).toNat)) g tb En δ:=by
 rw[iE]
 refine gJ.mk Iv h0 (λi d ai hd iv=>?_) λai iv=>hf ai (by simpa using iv)
 rw[bO]at hd
 obtain⟨k,hk,rfl⟩:=xN.mp hd
 have hi:i<n:=by have:=(ky.mp hk).1;simpa using this
 rw[hW hi]at hk
 cases hk
 rw[Mt]
 exact ht i ai hi iv
theorem qE{xs:List D}{k:Int}{d:D}(h0:0<=k)(h:xs[k.toNat]?=some d):eN xs k=some d:=by
 unfold eN jH
 have hk:k.toNat<xs.length:=(ky.mp h).1
 rw[if_pos h0,if_pos (by omega)]
 exact h
end
end L3
namespace L3
open PySem L2 PySem.Spec PyProof.Rows
section
variable{P:Program}{w:World}{K:PySem.W.Frag}{mg:Str->Option Value}{base:Heap}
end
section
variable{X:Cx}{n:Nat}{f:Addr}{fd:FuncData}{ps:List Str}{sp:SpX}{x:Str}{p pos:Pos}{e:Expr}{es:List Expr}{t:cO}{tx:dV3}
end
end L3
namespace L3
open PySem L2 PySem.Spec PyProof.Rows
section
variable{X:Cx}{pins EM:List (Addr × Obj)}{σ:L2.St}{H:Hp}{s:Shared}{a:Addr}
end
section
variable{X:Cx}{tb th:dd}{body cR0:List Stmt}{cR1:Stmt}{K n:Str}{Kc:Addr}{i:Nat}{kp cR2 pos:Pos}
end
end L3
namespace L3
open PySem L2 PySem.Spec PyProof.Rows
section
variable{X:Cx}{F H:Hp}{v:V}{a:Expr}{ta:aH}{p pos:Pos}
end
section
variable{K:PySem.W.Frag}{mg:Str->Option Value}{x:Str}{C:Addr}
end
end L3
namespace L3
open PySem L2 PySem.Spec PyProof.Rows
theorem jR{CX:e7}{P:Program}{w:World}{K:PySem.W.Frag}{mg:Str->Option Value}{base:Heap}{N:List Str}{q:Str}{sc:Scope}{f:Addr}{aC:Value}{A:Around}{outer:List Env}{s:Shared}{H:Hp}{E:XK}:(j5 CX P w K mg base N q sc f aC A outer s H E).K=K:=rfl
theorem u0(φ:wA):(D.bJ φ).pl=true:=rfl
theorem u3(φ:wA):(D.bJ φ).sh=.bJ φ:=rfl
end L3
namespace L3
open PySem L2 PySem.Spec PyProof.Rows
theorem jS{X:Cx}:X.h8.K=X.K:=rfl
end L3
namespace L3
open PySem L2 PySem.Spec PyProof.Rows
noncomputable def fh(xs ys:List D):List D:=eI (λx y=>D.tup [x,y]) xs ys
noncomputable def gM(xs:List D):List D:=xs.mapIdx λi x=>D.tup [.int i,x]
theorem OX(xs ys:List D):(fh xs ys).map D.sh=fh (xs.map D.sh) (ys.map D.sh):=by
 unfold fh
 rw[Ep,Er]
 congr 1
theorem ck1{xs ys:List D}(h1:xs.all D.pl=true)(h2:ys.all D.pl=true):(fh xs ys).all D.pl=true:=by
 unfold fh
 rw[dG]at h1 h2 ⊢
 intro d hd
 obtain⟨i,hi,e⟩:=gX hd
 rw[List.getElem_zipWith]at e
 subst e
 rw[jK]
 simp only[cL,qv,kT,eZ]
 exact⟨h1 _ (cT _),h2 _ (cT _)⟩
theorem b61(xs:List D):(gM xs).map D.sh=gM (xs.map D.sh):=by
 unfold gM
 apply xO
 intro i
 simp only[bO,vS,Option.map_map]
 cases xs[i]? with
 | none=>rfl
 | some x =>
  show some (D.sh (.tup [.int i,x]))=some (D.tup [.int i,x.sh])
  rw[jL];rfl
theorem b45{xs:List D}(h1:xs.all D.pl=true):(gM xs).all D.pl=true:=by
 unfold gM
 rw[dG]at h1 ⊢
 intro d hd
 obtain⟨i,hi,e⟩:=gX hd
 rw[List.getElem_mapIdx]at e
 subst e
 rw[jK]
 simp only[cL,qv,kT,eZ]
 exact⟨rfl,h1 _ (cT _)⟩
theorem wJ(xs:List D):(gM xs).length=xs.length:=by simp[gM]
theorem GF(xs ys:List D):(fh xs ys).length=min xs.length ys.length:=by simp[fh]
section
variable{F H:Hp}{d:D}{v:V}{xs ys:List D}{ws us:List V}{p q:Addr}{K:PySem.W.Frag}
theorem GG(s:S F H [d] [v])(e2:ag F H)(e:jN d=some xs):∃p ws,v=.ref p/\Rd H p (.lst ws)/\R H H (xs.map D.sh) ws []/\(d.pl=true->xs.all D.pl=true/\Rd F p (.lst ws)/\R F H xs ws []):=by
 cases s with
 | @shr p ws ys _ _ hp r _ =>
  obtain rfl:=dh e
  refine⟨p,ws,rfl,.inl (e2 _ _ hp),?_,λ_=>⟨r.pl,.inl hp,r⟩⟩
  rw[mI r.pl]
  exact r.shared e2 (ag.refl _)
 | @own p ws ys _ _ hp r _ =>
  obtain rfl:=dh e
  exact⟨p,ws,rfl,.inl hp,r.frozen e2,λz=>by simp[fW]at z⟩
 | @fz p o ws ys _ _ hp r _ =>
  obtain rfl:=dh e
  refine⟨p,ws,rfl,.inr ⟨o,e2 _ _ hp⟩,?_,λ_=>⟨r.pl,.inr ⟨o,hp⟩,r⟩⟩
  rw[mI r.pl]
  exact r.shared e2 (ag.refl _)
 | av _=>cases e
 | bl _=>cases e
 | int _=>cases e
 | str _=>cases e
 | tup _ _ _=>cases e
 | obj _ _ _ _=>cases e
 | bJ _ _=>cases e
theorem GH(r:R F H xs ws []){i:Nat}(hi:i<xs.length){x:V}(hx:ws[i]?=some x):R F H [xs[i]] [x] []:=by
 obtain⟨v,A1,e2,r1,sub⟩:=r.get (aO hi)
 rw[hx]at e2;cases e2
 have:A1=[]:=Mo.mpr λa ha=>by simpa using sub ha
 subst this
 exact r1
theorem OY(hp:Rd F p (.lst ws))(r:R F H xs ws [])(hq:Rd F q (.lst us))(t:R F H ys us [])(hF:Full F H):JD (FK K p q) F (fh xs ys) where
 go:=λi H' hs hi=>by
  rw[GF]at hi
  have l1:=r.length
  have l2:=t.length
  exact⟨ws,us,_,_,.inl (jj hp hs),.inl (jj hq hs),aO (show i<ws.length by omega),aO (show i<us.length by omega)⟩
 kC:=λi H' v H2 hs hi zz=>by
  obtain⟨T,x,y,e1,e2,e3,hx,hy⟩:=zz
  subst e1 e3
  have BI:=hi
  rw[GF]at BI
  have h1:=GH (r.full hF hs rfl) (show i<xs.length by omega) (hx ws (.inl (jj hp hs)))
  have h2:=GH (t.full hF hs rfl) (show i<ys.length by omega) (hy us (.inl (jj hq hs)))
  have sm:=ag.upd (o:=.tup [x,y]) e2
  refine⟨_,aO hi,sm,?_⟩
  have eg:(fh xs ys)[i]=.tup [xs[i]'(by omega),ys[i]'(by omega)]:=by simp[fh]
  rw[eg]
  exact R.tup (A:=[]) (B:=[]) bA ((h1.shared (ag.refl _) sm).cons (h2.shared (ag.refl _) sm)) .nil
 stop:=λi H' hs hi=>by
  rw[GF]at hi
  have l1:=r.length
  have l2:=t.length
  exact⟨ws,us,.inl (jj hp hs),.inl (jj hq hs),by omega⟩
theorem OZ(hp:Rd F p (.lst ws))(r:R F H xs ws [])(hF:Full F H):JD (FR K p) F (gM xs) where
 go:=λi H' hs hi=>by
  rw[wJ]at hi
  have l1:=r.length
  exact⟨ws,_,.inl (jj hp hs),aO (show i<ws.length by omega)⟩
 kC:=λi H' v H2 hs hi zz=>by
  obtain⟨T,x,e1,e2,e3,hx⟩:=zz
  subst e1 e3
  have BI:=hi
  rw[wJ]at BI
  have h1:=GH (r.full hF hs rfl) BI (hx ws (.inl (jj hp hs)))
  have sm:=ag.upd (o:=.tup [.int i,x]) e2
  refine⟨_,aO hi,sm,?_⟩
  have eg:(gM xs)[i]=.tup [.int i,xs[i]]:=by simp[gM]
  rw[eg]
  exact R.tup (A:=[]) (B:=[]) bA (.int (h1.shared (ag.refl _) sm)) .nil
 stop:=λi H' hs hi=>by
  rw[wJ]at hi
  have l1:=r.length
  exact⟨ws,.inl (jj hp hs),by omega⟩
end
section
variable{X:Cx}{a b:Expr}{ta:cO}{p pos mE:Pos}{elts:List Expr}{x1:Nat}
noncomputable def rZ(t:cO):jM:=λδ Q=>t δ λds ai=>match ds with
 | [d1,d2]=>∃xs ys,jN d1=some xs/\jN d2=some ys/\Q (d1.pl&&d2.pl) (fh xs ys) ai
 | _=>False
theorem yW(hg:Gl X "zip")(hm:X.mg "zip"=none)(ha:PA X [a,b] (lA ta))(hs:starEach [a,b] X.env=[(false,eval a X.env),(false,eval b X.env)]:=by rfl)(eM:starEach [b] X.env=[(false,eval b X.env)]:=by rfl) :
  PI X (.Tuple elts x1 mE) (.Call (.Name "zip" p) [a,b] [] pos) (lI (rZ ta)) :=
 wC (cz0 hg hm ha hs eM) λσ H Q zq=>by
 obtain⟨B,F,δ,ts,Qd,c,q,k⟩:=zq
 exact⟨B,F,δ,ts,_,c,q,λds ak vs F1 H1 hd f1 h1 c1 s=>by
  match ds,hd,s with
  | [d1,d2],⟨xs,ys,i1,i2,hq⟩,s =>
   obtain⟨v1,bW,rfl,s1,s2⟩:=s.cE
   obtain⟨v2,dV4,rfl,s2,s3⟩:=s2.cE
   cases s3
   have e2:=c1.ext
   have sn:=uh e2
   obtain⟨p1,w1,rfl,r1,t1,u1⟩:=GG s1 e2 i1
   obtain⟨p2,w2,rfl,r2,t2,u2⟩:=GG s2 e2 i2
   refine⟨p1,p2,rfl,⟨w1,.inl r1⟩,⟨w2,.inl r2⟩,k _ _ ak _ _ H1 hq (f1.trans sn) h1 c1.snap ?_ λz=>?_⟩
   ·rw[OX]
    exact OY r1 t1 r2 t2 (Full.refl _)
   ·rw[eZ]at z
    obtain⟨a1,a2,a3⟩:=u1 z.1
    obtain⟨b1,b2,b3⟩:=u2 z.2
    exact⟨ck1 a1 b1,OY (jj a2 sn) (a3.shared sn (ag.refl _)) (jj b2 sn) (b3.shared sn (ag.refl _)) wB⟩⟩
noncomputable def se(t:cO):jM:=λδ Q=>t δ λds ai=>match ds with
 | [d1]=>∃xs,jN d1=some xs/\Q d1.pl (gM xs) ai
 | _=>False
theorem wK(hg:Gl X "enumerate")(hm:X.mg "enumerate"=none)(ha:PA X [a] (lA ta))(hs:starEach [a] X.env=[(false,eval a X.env)]:=by rfl) :
  PI X (.Tuple elts x1 mE) (.Call (.Name "enumerate" p) [a] [] pos) (lI (se ta)) :=
 wC (cp6 hg hm ha hs) λσ H Q zq=>by
 obtain⟨B,F,δ,ts,Qd,c,q,k⟩:=zq
 exact⟨B,F,δ,ts,_,c,q,λds ak vs F1 H1 hd f1 h1 c1 s=>by
  match ds,hd,s with
  | [d1],⟨xs,i1,hq⟩,s =>
   obtain⟨v1,bW,rfl,s1,s2⟩:=s.cE
   cases s2
   have e2:=c1.ext
   have sn:=uh e2
   obtain⟨p1,w1,rfl,r1,t1,u1⟩:=GG s1 e2 i1
   refine⟨p1,rfl,⟨w1,.inl r1⟩,k _ _ ak _ _ H1 hq (f1.trans sn) h1 c1.snap ?_ λz=>?_⟩
   ·rw[b61]
    exact OZ r1 t1 (Full.refl _)
   ·obtain⟨a1,a2,a3⟩:=u1 z
    exact⟨b45 a1,OZ (jj a2 sn) (a3.shared sn (ag.refl _)) wB⟩⟩
end
end L3
namespace L3
open PySem L2 PySem.Spec PyProof.Rows
section
variable{X:Cx}{F H:Hp}{e b:Expr}{pos p p2 p3 pr apos bI GC:Pos}{t ti te:aH}{x y:Str}{i j:Nat}
theorem yX{α:Type}{xs:List α}{k:Nat}{v:α}(h:xs[k]?=some v):eN xs (k:Int)=some v:=by
 unfold eN jH
 have hk:k<xs.length:=(ky.mp h).1
 rw[if_pos (by omega),if_pos (by omega)]
 exact h
end
section
variable{X:Cx}{CX:e7}{k:Nat}{f:Addr}{fd:FuncData}{ps:List Str}{sp:aX}{E:XK}{fn x1 x2 y1 y2:Str}{i1 i2 j1 j2:Nat}{tk:Nat}
 {tp t1 t2 zp dV5 q1 q2 fp dV6 a1 a2 cR6 dV7 dV8 cp GC pr apos bI dV9 pos:Pos}
end
end L3
namespace L3
open PySem L2 PySem.Spec PyProof.Rows
theorem aj.cR7{B:Bs}{F H:Hp}{σ:L2.St}{δ:Dl}{ts:List (D × V)}{a b:D}{v:V}(c:aj B F H σ δ ((.tup [a,b],v)::ts)):∃p u w,v=.ref p/\H p=some (.tup [u,w])/\aj B F H σ δ ((a,u)::(b,w)::ts):=by
 obtain⟨A,C,r,s,nd,fr⟩:=c.own
 cases r with
 | @tup p ws xs A1 _ _ B1 hp r1 r2 =>
  obtain⟨u,dR,A2,A3,rfl,rfl,h1,h2⟩:=r1.cE
  obtain⟨w,dW0,A4,A5,rfl,rfl,h3,h4⟩:=h2.cE
  cases h4
  refine⟨p,u,w,rfl,hp,c.ext,c.b1,c.b2,c.b3,A2++(A4++B1),C,h1.cons (h3.cons r2),s,?_,?_⟩
  ·simpa using nd
  ·intro a ha;exact fr a (by simpa using ha)
section
variable{X:Cx}{y1 y2:Str}{i1 i2 tk m:Nat}{t1 t2 tp:Pos}
noncomputable def ik(i1 i2:Nat):iK:=λd δ Q=>match d with
 | .tup [a,b]=>Q ((δ.set i1 (some a)).set i2 (some b))
 | _=>False
theorem si(hc:X.calm=true)(BJ:X.N.Nodup)(m1:X.N[i1]?=some y1)(l1:Loc X.env.scope y1)(m2:X.N[i2]?=some y2)(l2:Loc X.env.scope y2)(O0:m<=i1:=by decide)(rK:m<=i2:=by decide)
  (f1:X.fn y1=true\/X.env.scope.names.lookup y1=some .local:=by first | exact .inl rfl | exact .inr rfl | assumption) (f2:X.fn y2=true\/X.env.scope.names.lookup y2=some .local:=by first | exact .inl rfl | exact .inr rfl | assumption)
  (GI:(assignEach [.Name y1 t1,.Name y2 t2] X.env).map (·.2)=assign (.Name y1 t1) X.env::(assignEach [.Name y2 t2] X.env).map (·.2):=by rfl) (GJ:(assignEach [.Name y2 t2] X.env).map (·.2)=assign (.Name y2 t2) X.env::(assignEach [] X.env).map (·.2):=by rfl)
  (hn:(assignEach [.Name y1 t1,.Name y2 t2] X.env).length=2:=by rfl) (ia:(assignEach [.Name y1 t1,.Name y2 t2] X.env).findIdx? (·.1)=none:=by rfl) :
  PG X (.Tuple [.Name y1 t1,.Name y2 t2] tk tp) (lG m (ik i1 i2)) :=
 Ot (XW hc (MZ (ya BJ m1 l1 f1) (MZ (ya BJ m2 l2 f2) XT GJ) GI) hn ia) λv σ H Q zz=>by
  obtain⟨B,F,δ,ts,d,Qd,c,q,k⟩:=zz
  obtain⟨a,b,rfl,q⟩:∃a b,d=D.tup [a,b]/\Qd ((δ.set i1 (some a)).set i2 (some b)):=by
   unfold ik at q
   split at q
   ·exact⟨_,_,rfl,q⟩
   ·exact q.elim
  obtain⟨p,u,w,rfl,hp,c2⟩:=c.cR7
  refine⟨p,[u,w],rfl,h7.of hp,rfl,u,[w],rfl,w,[],rfl,rfl,k _ _ q (by simp) (λj hj=>?_) ((c2.store i1).store i2)⟩
  rw[sZ (by omega),sZ (by omega)]
end
open Classical in
theorem dE{α:Type}{sh:Bool}{xs:List D}{aw:List (Str × Nat)}{n m:Nat}{te:aH}{ak:Dl}{Q:D->Dl->Prop}(l:List α)(e g:α->D)(jT:xs.map D.sh=l.map e)(inj:∀a b,e a=e b->a=b)
  (hx:∀a∈l,te ((eR aw n ak).set m (some (e a))) λd _=>d=g a) (fJ:(sh&&aw.all (iN ak))=true\/∀a∈l,(g a).fr=true) (hl:l.length<=sizeLine) (hq:Q (.lst true (l.map g)) ak):wF sh xs aw n (gN m) kG te ak Q:=by
 let f:D->D:=λx=>if h:∃a∈l,e a=x then g h.choose else .av
 have hf:∀a∈l,f (e a)=g a:=λa ha=>by
  have h:∃b∈l,e b=e a:=⟨a,ha,rfl⟩
  show(if h:∃b∈l,e b=e a then g h.choose else .av)=g a
  rw[dif_pos h]
  exact congrArg g (inj _ _ h.choose_spec.2)
 refine b27 f (λx h=>?_) (fJ.imp id λh x hx=>?_) ?_ ?_
 ·rw[jT]at h
  obtain⟨a,ha,rfl⟩:=bE.mp h
  rw[hf a ha];exact hx a ha
 ·rw[jT]at hx
  obtain⟨a,ha,rfl⟩:=bE.mp hx
  rw[hf a ha];exact h a ha
 ·have:=congrArg AE jT
  simp at this
  omega
 ·rw[jT,bP,show l.map (f ∘ e)=l.map g from qw λa ha=>hf a ha]
  exact hq
end L3
namespace L3
open PySem L2 PySem.Spec PyProof.Rows
end L3
namespace L2
open PySem PySem.Spec PyProof.Rows
section
variable{X:Cx}
end
end L2
namespace L3
open PySem L2 PySem.Spec PyProof.Rows
noncomputable abbrev tx(l:List Nat):D:=.str ⟨l.toArray⟩
section
variable{X:Cx}{F H:Hp}{e:Expr}{es:List Expr}{t:aH}{pos p p2 apos bI:Pos}
noncomputable def oV(x:D)(lo hi:Option Int)(Q:D->Prop):Prop:=match x with
 | .lst _ xs=>xs.all D.pl=true/\Q (.lst true (eU xs lo hi))
 | .fz xs=>Q (.lst true (eU xs lo hi))
 | .str z=>z.length<=sizeLine/\Q (tx (eU z.cps.toList lo hi))
 | _=>False
noncomputable def sj(t:aH)(tl th:rM):aH:=λδ Q=>t δ λx ak=>tl ak λl bh=>th bh λu gI=>oV x l u λd=>Q d gI
theorem wL{lo hi:Option Expr}{tl th:rM}(he:PE X e (lB t))(hl:PO X lo (lP tl))(hu:PO X hi (lP th)):PE X (.Subscript e (.Slice lo hi none p2) pos) (lE (sj t tl th)) :=
 dm (Np (Ny.or cA4) he hl hu) λσ H Q zq=>by
 obtain⟨B,F,δ,ts,Qd,c,q,k⟩:=zq
 exact⟨B,F,δ,ts,_,c,q,λx ak v F1 H1 q1 f1 h1 c1 s1=>⟨B,F1,ak,ts,_,c1,q1,λl bh F2 H2 q2 f2 h2 c2=>⟨B,F2,bh,ts,_,c2,q2,λu gI F3 H3 q3 f3 h3 c3=>by
  have oO:=s1.mono (f2.trans f3) (h2.trans h3)
  unfold oV at q3
  split at q3
  ·obtain⟨p,ws,rfl,h,t⟩:=oB oO c3.ext rfl
   exact .inl ⟨p,ws,rfl,lM h,λr hr=>k _ gI _ F3 _ q3.2 ((f1.trans f2).trans f3) (((h1.trans h2).trans h3).trans (ag.upd hr)) (c3.mJ hr (t.cut _ _) (OP q3.1 _ _))⟩
  ·obtain⟨p,ws,rfl,h,t⟩:=oB oO c3.ext rfl
   cases oO with
   | fz h' r _=>exact .inl ⟨_,_,rfl,lM (.inr ⟨_,c3.ext _ _ h'⟩),λr' hr=>k _ gI _ F3 _ q3 ((f1.trans f2).trans f3) (((h1.trans h2).trans h3).trans (ag.upd hr)) (c3.mJ hr (r.s.cut _ _) (OP r.pl _ _))⟩
  ·cases oO with
   | str _=>exact .inr ⟨_,rfl,q3.1,k _ gI _ F3 H3 q3.2 ((f1.trans f2).trans f3) ((h1.trans h2).trans h3) (c3.pushS (.str .nil) rfl)⟩
  ·exact q3.elim⟩⟩⟩
end
theorem u4(a:List Nat):(⟨a.toArray⟩:Str).length=a.length:=by show a.toArray.size=_;simp
end L3
namespace L3
open PySem L2 PySem.Spec PyProof.Rows
noncomputable def aq(l:List Nat):List D:=aI (l.map λ(n:Nat)=>(n:Int))
theorem fu(l:List Nat):(aq l).length=l.length:=by unfold aq;rw[kK,bt]
theorem dQ(l:List Nat):aq l=l.map λ(n:Nat)=>D.int (n:Int):=by unfold aq aI;rw[bP];rfl
theorem mZ(l:List Nat):(aq l).map D.sh=l.map λ(n:Nat)=>D.int (n:Int):=by unfold aq;rw[jQ];exact dQ l
theorem g9(a b:Nat)(h:D.int (a:Int)=D.int (b:Int)):a=b:=by injection h with h;omega
theorem jo(l:List Nat):(aq l).all D.pl=true:=mX _
theorem oW(l:List Nat):(aq l).map D.sh=aq l:=jQ _
theorem kL(a b:List Nat):aq a++aq b=aq (a++b):=by unfold aq;rw[oS,eo]
theorem u5(l:List Nat)(lo hi:Option Int):eU (aq l) lo hi=aq (eU l lo hi):=by
 unfold aq
 rw[rX]
 congr 1
 unfold eU
 rw[bt,Ms,Mr]
theorem GK{α:Type}(xs:List α)(b:Nat):eU xs none (some (b:Int))=xs.take b:=by
 have:=cq7 xs 0 b
 unfold eU at this ⊢
 simpa[HT.cN]using this
theorem BK{α:Type}(xs:List α)(a:Nat):eU xs (some (a:Int)) none=xs.drop a:=by
 unfold eU
 rw[HT.Fh]
 show(xs.drop (min a xs.length)).take (xs.length-min a xs.length)=_
 by_cases h:a<=xs.length
 ·rw[Nat.min_eq_left h,AJ (by rw[iF];exact bL _)]
 ·rw[Nat.min_eq_right (by omega),List.drop_length,Em (by omega)];simp
end L3
namespace L2
open PySem PySem.Spec PyProof.Rows
section
variable{X:Cx}{tg l o e:Expr}{tl to te:TE}{apos bI:Pos}
end
end L2
namespace L3
open PySem L2 PySem.Spec PyProof.Rows
section
variable{X:Cx}{F H:Hp}{tg l e:Expr}{te t tb:aH}{apos bI pos:Pos}
variable{o:Expr}
theorem O1:∀{ns:List Int} {ws:List V},S F H (aI ns) ws->ws=ns.map V.int
 | [],_,s=>by cases s;rfl
 | n::ns,_,s=>by
  cases s with
  | int s=>rw[O1 s];rfl
end
end L3
namespace L3
open PySem L2 PySem.Spec PyProof.Rows
end L3
namespace L2
open PySem PySem.Spec PyProof.Rows
noncomputable def Tb(ts:List Addr)(H:Hp):Prop:=∀P∈ts,∃ps,H P=some (.dN ps)
structure wM(ts:List Addr)(H:Hp):Prop where
 any:∀b,H b=none\/(∃o xs,H b=some (.bu o (.lst xs)))\/(b∈ts/\H b=some (.dN #[]))
 tab:∀P∈ts,H P=some (.dN #[])
theorem wM.tb{ts:List Addr}{H:Hp}(h:wM ts H):Tb ts H:=λP hP=>⟨#[],h.tab P hP⟩
noncomputable def Bm(mg:Str->Option Value)(base:Heap):Prop:=∃bm o,mg "__builtins__"=some (.ref bm)/\bm≠builtinsNs/\bm≠mainGlobals/\base.get? bm=some o/\o.cls=.type "module"/\o.dict=some builtinsNs/\o.data=.plain
theorem bQ5{P:Program}{w:World}{K:PySem.W.Frag}{mg mb:Str->Option Value}{CX:e7}{k:Nat}{fa a:Addr}{fd:FuncData}{x:Str}{sp:Sp}{bG:Shared}{vs:List Value}{ns:List Int}{ts:List Addr}
  (KX:K.In bG.heap) (BL:bG.heap.Ns mainGlobals mg) (hb:bG.heap.Ns builtinsNs mb) (hbb:∀x:Str,x≠"__name__"->mb x=bootBuiltins x) (cS0:bG.heap.NoLimit) (hg:bG.gens=#[])
  (ht:∀P∈ts,bG.heap.get? P=some (PySem.W.tabObj #[])) (GL:∀P∈ts,isCodeTable bG.heap P) (hkt:∀P∈ts,K.lookup P=none)
  (ha:bG.heap.get? a=some { cls:=.type "list",data:=.seq vs.toArray }) (hi:IntsAre vs ns) (hl:ns.length<=sizeLine) (hr:cu k callerA)
  (yY:Bm mg bG.heap) (F:∀base:Heap,K.In base->base.Ns mainGlobals mg->Bm mg base->aJ P w K mg base CX k fa fd [x] sp) (cS2:∀(s:Shared) (u:Value),BindsTo s fd ⟨[u],[]⟩ [(x,u)])
  (jG:∀H:Hp,wM ts H->bF K H a (ns.map V.int)->sp [.ref a] H (λv _=>v=.bl true) λ_ _ _=>False)
  (GN:∀H e s',CX [] H bG (λ_ _ _=>False) e s'->False) :
  codeAny (model P w) callerA (.call (.ref fa) ⟨[.ref a],[]⟩) (λr s'=>r=.ok (.ret (.bool true))/\OldK bG.heap s'.heap/\s'.os=bG.os/\AllBare s'.gens) bG:=by
 have rv:=NJ hi
 have cS3:=hi.length
 have nat:a ∉ ts:=λz=>by
  have:=ht a z
  rw[ha]at this
  cases this
 have core:∀H:Hp,wM ts H->bF K H a (ns.map V.int)->dA P w H bG.heap->(∀b,H b≠none->b=a\/b∈ts)->(H a≠none->K.lookup a=none) ->
   codeAny (model P w) callerA (.call (.ref fa) ⟨[.ref a],[]⟩) (λr s'=>r=.ok (.ret (.bool true))/\OldK bG.heap s'.heap/\s'.os=bG.os/\AllBare s'.gens) bG:=by
  intro H hO hS aS hA hK
  have GO:∀{b:Addr} {o:Obj},bG.heap.get? b=some o->H b=none->(mw bG.heap H).get? b=some o:=λe n=>Xh e n
  have yo:∀{b:Addr} {o:Obj} {es:Array DictEntry} {ep:Nat},bG.heap.get? b=some o->o.data=.dict es ep->H b=none:=λ{b o es ep} e d=>by
   cases q:H b with
   | none=>rfl
   | some u =>
    rcases hA b (by rw[q];simp)with e' | e'
    ·subst e'
     rw[ha]at e;cases e
     have d':Data.seq vs.toArray _=Data.dict es ep:=d
     cases d'
    ·rw[ht b e']at e;cases e
     have d':Data.fields #[]=Data.dict es ep:=d
     cases d'
  have BM:∀{b:Addr} {m:Str->Option Value},bG.heap.Ns b m->(mw bG.heap H).Ns b m:=λ{b m} ⟨o,es,ep,e,d,r⟩=>⟨o,es,ep,GO e (yo e d),d,r⟩
  have O2:K.In (mw bG.heap H):=λb o e=>GO (KX b o e) (by
   cases q:H b with
   | none=>rfl
   | some u =>
    rcases hA b (by rw[q];simp)with e' | e'
    ·subst e'
     rw[hK (by rw[q];simp)]at e;cases e
    ·rw[hkt b e']at e;cases e)
  have hBm:Bm mg (mw bG.heap H):=by
   obtain⟨bm,o,b1,b2,b3,b4,b5,b6,b7⟩:=yY
   refine⟨bm,o,b1,b2,b3,GO b4 ?_,b5,b6,b7⟩
   cases q:H bm with
   | none=>rfl
   | some u =>
    rcases hA bm (by rw[q];simp)with e' | e'
    ·rw[e',ha]at b4;cases b4
     have d':Data.seq vs.toArray _=Data.plain:=b7
     cases d'
    ·rw[ht bm e']at b4;cases b4
     have d':Data.fields #[]=Data.plain:=b7
     cases d'
  have hM:Mod K mg (mw bG.heap H):=⟨O2,BM BL,⟨mb,BM hb,hbb⟩,let⟨mc,h1,h2⟩:=cS0;⟨mc,BM h1,h2⟩⟩
  have e0:jE P w K mg (mw bG.heap H) callerA [] bG H:=⟨rfl,hM,λb o e=>Xi e,AB (Xg _ _),trivial,λb hb=>absurd (show b∈([]:List Addr) from hb) (by simp),aS,.of_eq hg⟩
  refine codeAny_mono ((F _ O2 (BM BL) hBm).run callerA [] bG H ⟨[.ref a],[]⟩ [.ref a] [.ref a] _ _ hr e0 (cS2 bG (.ref a)) (.cons rfl .nil) (jG H hO hS)) λr s' h=>?_
  cases r with
  | error e=>exact(GN H e s' h).elim
  | ok fl =>
   cases fl with
   | next=>exact gF h
   | brk=>exact gF h
   | cont=>exact gF h
   | ret u =>
    obtain⟨v,H',os,bare,un,O3,r',q⟩:=h
    have q':v=.bl true:=q
    subst q'
    obtain rfl:u=D6 true:=r'
    have each:∀b o,bG.heap.get? b=some o->asItWas bG.heap s'.heap b o/\∃o',s'.heap.get? b=some o':=λb o e=>by
     cases q:H b with
     | none =>
      have z:=un.keep b o e q (by intro z;exact absurd (show b∈([]:List Addr) from z) (by simp)) (by simp)
      exact⟨.inl z,o,z⟩
     | some u =>
      rcases hO.any b with z | ⟨ob,xs,z⟩ | ⟨j9,z⟩
      ·rw[q]at z;cases z
      ·have z2:=un.kz b ob _ z
       obtain⟨e1,_⟩:=aS b _ z
       obtain⟨e2,_⟩:=O3 b _ z2
       rw[e]at e1;cases e1
       exact⟨.inl e2,_,e2⟩
      ·obtain⟨more,z2⟩:=un.jz b _ z
       have e2:=(O3 b _ z2).1
       rw[ht b j9]at e;cases e
       exact⟨.inr (.inl ⟨GL b j9,rfl,#[],more,rfl,e2⟩),_,e2⟩
    exact⟨rfl,⟨λb o e=>(each b o e).1,λb o e=>(each b o e).2⟩,os,bare⟩
 have tok:∀(H:Hp) (b:Addr),b∈ts->eJ P w H bG.heap b (.dN #[]):=λH b hb=>⟨ht b hb,trivial,λpos cv q=>by cases q⟩
 cases hk:K.lookup a with
 | some o =>
  have e:=KX a o hk
  rw[ha]at e
  cases e
  refine core (λb=>if b∈ts then some (.dN #[])else none) ⟨λb=>?_,λb hb=>if_pos hb⟩ (.inr ⟨_,vs.toArray,_,hk,rfl,rfl,rfl,by rw[dj,cS3];exact hl,by simpa using rv⟩) (λb u z=>?_) (λb z=>?_) λz=>absurd (if_neg nat) z
  ·by_cases hb:b∈ts
   ·exact .inr (.inr ⟨hb,if_pos hb⟩)
   ·exact .inl (if_neg hb)
  ·by_cases hb:b∈ts
   ·have z':=(if_pos hb).symm.trans z
    cases z'
    exact tok _ b hb
   ·have z':=(if_neg hb).symm.trans z
    cases z'
  ·by_cases hb:b∈ts
   ·exact .inr hb
   ·exact absurd (if_neg hb) z
 | none =>
  refine core (λb=>if b=a then some (.bu { cls:=.type "list",data:=.seq vs.toArray } (.lst (ns.map V.int)))else if b∈ts then some (.dN #[])else none) ⟨λb=>?_,λb hb=>?_⟩ (.inl (.inr ⟨{ cls:=.type "list",data:=.seq vs.toArray },if_pos rfl⟩)) (λb u z=>?_) (λb z=>?_) λ_=>hk
  ·by_cases hb:b=a
   ·exact .inr (.inl ⟨_,_,if_pos hb⟩)
   ·by_cases j9:b∈ts
    ·exact .inr (.inr ⟨j9,(if_neg hb).trans (if_pos j9)⟩)
    ·exact .inl ((if_neg hb).trans (if_neg j9))
  ·have mH:b≠a:=λz=>nat (z ▸ hb)
   exact(if_neg mH).trans (if_pos hb)
  ·by_cases hb:b=a
   ·have z':=(if_pos hb).symm.trans z
    cases z'
    subst hb
    exact⟨ha,by rw[bt];exact hl,vs,_,rv,ha⟩
   ·by_cases j9:b∈ts
    ·have z':=((if_neg hb).trans (if_pos j9)).symm.trans z
     cases z'
     exact tok _ b j9
    ·have z':=((if_neg hb).trans (if_neg j9)).symm.trans z
     cases z'
  ·by_cases hb:b=a
   ·exact .inl hb
   ·by_cases j9:b∈ts
    ·exact .inr j9
    ·exact absurd ((if_neg hb).trans (if_neg j9)) z
theorem cS5{l:PySem.W.OpenLaw}{n k:Nat}{q:Program}{loose:List Str}{XP:(Str->Option Value)->Heap->Prop}{YP:World->Heap->Prop}{d:DefRec}{K:Params->PySem.W.Frag}{CX:World->e7}{sp:World->Sp}{x:Str}{ts:List Addr}
  (hn:l.most=some n) (yk:n<=sizeLine) (yr:d.params.defaults=[]) (hr:cu k callerA)
  (hY:∀(w:World) (h:Heap),YP w h->(K w.params).In h/\∀P∈ts,h.get? P=some (PySem.W.tabObj #[]))
  (hC:∀(w:World) (h:Heap),(K w.params).In h->∀P∈ts,(K w.params).lookup P=none/\∃c,PySem.W.CodeHd h c P)
  (F:∀(w:World) (mg:Str->Option Value) (fa:Addr) (h:Heap),(K w.params).In h->h.Ns mainGlobals mg->mg d.name=some (.ref fa) ->
   ∃fd:FuncData,(∀(s:Shared) (u:Value),BindsTo s fd ⟨[u],[]⟩ [(x,u)]) /\
    ∀base:Heap,(K w.params).In base->base.Ns mainGlobals mg->Bm mg base->aJ l.prog w (K w.params) mg base (CX w) k fa fd [x] (sp w))
  (jG:∀(w:World) (H:Hp) (a:Addr) (ns:List Int),ns.length<=n->wM ts H->bF (K w.params) H a (ns.map V.int)->sp w [.ref a] H (λv _=>v=.bl true) λ_ _ _=>False)
  (GN:∀(w:World) (H:Hp) (s:Shared) (e:Value) (s':Shared),CX w [] H s (λ_ _ _=>False) e s'->False) :
  PySem.W.WalkO q loose XP YP l.row.toRowW d [] (λf vs=>PySem.call f vs):=by
 refine Att.ZM hn yr λw eA bG mg mb fa o pm cd doc a vs ns G Y ho hd cq yt Fz hints hlen hg=>?_
 obtain⟨KX,hT⟩:=hY w _ Y
 obtain⟨fd,hb,hF⟩:=F w mg fa _ KX G.T.g yt
 have GL:∀P∈ts,isCodeTable bG.heap P:=λP hP=>by
  obtain⟨_,c,C⟩:=hC w _ KX P hP
  exact(C.tab (hT P hP)).isCodeTable
 have yY:Bm mg bG.heap:=by
  obtain⟨bm,ob,b1,b2,b3,b4,b5,b6⟩:=G.T.bmain
  refine⟨bm,ob,b1,b2,λq=>?_,b3,b4,b5,b6⟩
  obtain⟨o,es,ep,e,hd,_⟩:=G.T.g
  rw[q,e]at b3;cases b3;rw[hd]at b6;cases b6
 exact bQ5 KX G.T.g G.T.b G.T.builtins G.T.nolimit hg hT GL (λP hP=>(hC w _ KX P hP).1) Fz hints (fE hlen yk) hr yY hF hb (λH hO hS=>jG w H a ns hlen hO hS) λH e s'=>GN w H bG e s'
end L2
namespace L3
open PySem L2 PySem.Spec PyProof.Rows
noncomputable def u6(ts:List Addr)(sp:Sp):Sp:=λvs H Q E=>Tb ts H/\sp vs H Q E
theorem GP{X:Cx}{pins:List (Addr × Obj)}{σ:L2.St}{H:Hp}{s:Shared}{ts:List Addr}(I:Inv X pins σ H s)(h:Tb ts X.mx):Tb ts H:=λP hP=>by
 obtain⟨ps,e⟩:=h P hP
 obtain⟨m,e2⟩:=I.base.jz P ps e
 exact⟨_,e2⟩
noncomputable def BN(ts:List Addr)(K:PySem.W.Frag):Sp:=λvs H Q _=>∃(a:Addr) (ns:List Int),vs=[.ref a]/\wM ts H/\bF K H a (ns.map V.int)/\ns.length<=63/\∀H',Q (.bl true) H'
theorem b94{ts:List Addr}{K:PySem.W.Frag}(nl:K.all (λp=>GB p.2)=true){vs:List V}{H:Hp}{Q:VK}{E:XK}(h:BN ts K vs H Q E):u6 ts (aY OR) vs H Q E:=by
 obtain⟨a,ns,rfl,hO,hS,hl,q⟩:=h
 have hz:∃o,H a=some (.bu o (.lst (ns.map V.int))):=by
  rcases hS with (hS | hS) | ⟨o,its,n,hk,hc,_⟩
  ·rcases hO.any a with z | ⟨o,xs,z⟩ | ⟨_,z⟩
   ·rw[hS]at z;cases z
   ·rw[hS]at z;cases z
   ·rw[hS]at z;cases z
  ·exact hS
  ·have hm:=bH0 hk
   have:=dG.mp nl _ hm
   simp[GB,hc]at this
 obtain⟨o,ho⟩:=hz
 refine⟨hO.tb,H,[.fz (aI ns)],λd=>d=.bl true,ag.refl _,.fz ho (lQ ns) .nil,⟨ns,rfl,hl,rfl⟩,λd v F' H' A hd hs hf he h3 r nd fr=>?_⟩
 subst hd
 cases r
 exact q H'
end L3
namespace L2
open PySem PySem.Spec PyProof.Rows
noncomputable def rem(H:Hp)(f c:Addr):Hp:=λb=>if b=f\/b=c then none else H b
noncomputable def oX(H H':Hp)(f c:Addr):Hp:=λb=>if b=f\/b=c then H b else H' b
section
variable{P:Program}{w:World}{H H':Hp}{h:Heap}{a b f c:Addr}{o:HO}{of oc:Obj}
theorem O4:rem H f c f=none:=if_pos (.inl rfl)
theorem BO:rem H f c c=none:=if_pos (.inr rfl)
theorem iS(h1:b≠f)(h2:b≠c):rem H f c b=H b:=if_neg (by simp[h1,h2])
theorem wN(e:H b=none):rem H f c b=none:=by unfold rem;split;rfl;exact e
theorem O5(e:rem H f c b=some o):b≠f/\b≠c/\H b=some o:=by
 unfold rem at e
 split at e
 ·cases e
 ·rename_i n
  exact⟨λz=>n (.inl z),λz=>n (.inr z),e⟩
theorem sk(h1:b≠f)(h2:b≠c):oX H H' f c b=H' b:=if_neg (by simp[h1,h2])
theorem O6:oX H H' f c f=H f:=if_pos (.inl rfl)
theorem GQ:oX H H' f c c=H c:=if_pos (.inr rfl)
theorem eJ.rem{φ:Heap->Prop}(x:eJ P w H h a o)(ha:a≠f)(hf:H f=some (.ext φ))(hc:H c=some (.own f)\/H c=none)(GR:¬ ∀h',φ h'->∃q,h'.CodeRec (.ref f) q):eJ P w (rem H f c) h a o:=by
 have own:∀b,H b=some (.own a)->L2.rem H f c b=some (.own a):=λb e=>by
  rw[iS (λz=>by subst z;rw[hf]at e;cases e) (λz=>by subst z;rcases hc with hc | hc<;>(rw[hc]at e;cases e);exact ha rfl)];exact e
 have tup:∀b xs,H b=some (.tup xs)->L2.rem H f c b=some (.tup xs):=λb xs e=>by
  rw[iS (λz=>by subst z;rw[hf]at e;cases e) (λz=>by subst z;rcases hc with hc | hc<;>(rw[hc]at e;cases e))];exact e
 induction o with
 | lst xs=>exact x
 | tup xs=>exact x
 | dK dS=>exact x
 | dT dS =>
  obtain⟨z,y,xs,r,ob⟩:=x
  exact⟨z,y,xs,Paired.EJ r λp q z=>⟨z.1,tup _ _ z.2.1,z.2.2⟩,ob⟩
 | set S n=>exact x
 | ins C dx fs =>
  obtain⟨d,r⟩:=x
  exact⟨own _ d,r⟩
 | own y=>exact x
 | xd fs=>exact x
 | AV lo hi=>exact x
 | bu ob u ih=>obtain⟨e,q⟩:=x;exact⟨e,ih q⟩
 | dN ps =>
  obtain⟨e,t,cc⟩:=x
  refine⟨e,t,λpos cv q=>?_⟩
  obtain⟨d,φ,e1,e2,e3⟩:=cc pos cv q
  refine⟨d,φ,e1,?_,e3⟩
  rw[iS (λz=>?_) (λz=>by subst z;rcases hc with hc | hc<;>(rw[hc]at e2;cases e2))]
  ·exact e2
  ·subst z
   rw[hf]at e2;cases e2
   exact GR e3
 | met f y=>exact x
 | ext φ=>obtain⟨p,r,st⟩:=x;exact⟨p,r,λh1 h2 p1 kk=>st h1 h2 p1 λb o hb q=>kk b o (hb.imp id (own b)) q⟩
theorem O7{φ:Heap->Prop}{fd:FuncData}(p:φ h)(g:∀h',φ h'->h'.get? f=some of)(hd:of.data=.func fd):¬ ∀h',φ h'->∃q,h'.CodeRec (.ref f) q:=λz=>by
 obtain⟨q,k,ok,vs,t,q1,q2,q3,_⟩:=z h p
 cases q1
 rw[g h p]at q2;cases q2
 rw[hd]at q3;cases q3
theorem dA.lam(ok:dA P w H h)(hf:H f=some (.ext (L3.j7 of oc c f))):L3.j7 of oc c f h:=(ok f _ hf).1
theorem dA.rem{fd:FuncData}(ok:dA P w H h)(hf:H f=some (.ext (L3.j7 of oc c f)))(hc:H c=some (.own f))(hd:of.data=.func fd):dA P w (rem H f c) h:=λb o e =>
 let⟨h1,_,h3⟩:=O5 e;(ok b o h3).rem h1 hf (.inl hc) (O7 (ok.lam hf) (λ_ p=>p.1) hd)
end
theorem jE.rem{P:Program}{w:World}{K:PySem.W.Frag}{mg:Str->Option Value}{base:Heap}{A:Around}{outer:List Env}{s:Shared}{H:Hp}{f c:Addr}{of oc:Obj}{fd:FuncData}(e:jE P w K mg base A outer s H)
  (hf:H f=some (.ext (L3.j7 of oc c f))) (hc:H c=some (.own f)) (hd:of.data=.func fd):jE P w K mg base A outer s (rem H f c) :=
 ⟨e.frames,e.mod,λb o q=>⟨(e.bs b o q).1,wN (e.bs b o q).2⟩,e.kA,e.hZ,λb hb=>wN (e.kB b hb),e.aS.rem hf hc hd,e.bare⟩
theorem CE.add{P:Program}{w:World}{K:PySem.W.Frag}{mg:Str->Option Value}{base:Heap}{A:Around}{outer:List Env}{s s':Shared}{H:Hp}{f c:Addr}{of oc:Obj}{Q Q':VK}{u:Value}(e0:jE P w K mg base A outer s H)
  (hf:H f=some (.ext (L3.j7 of oc c f))) (hc:H c=some (.own f)) (h:CE outer P w (rem H f c) s Q u s') (hQ:∀v H',Q v H'->H' f=none->H' c=none->Q' v (oX H H' f c)):CE outer P w H s Q' u s':=by
 obtain⟨v,H',os,bare,un,aS,r,q⟩:=h
 obtain⟨gf,gc⟩:=e0.aS.lam hf
 have O8:∀{b o},H b=some o->b ∉ jA outer:=λ{b o} e z=>by rw[e0.kB b z]at e;cases e
 have nf:H' f=none:=un.free f _ gf O4 (by simp)
 have nc:H' c=none:=un.free c _ gc BO (by simp)
 have kf:=un.keep f _ gf O4 (O8 hf) (by simp)
 have kc:=un.keep c _ gc BO (O8 hc) (by simp)
 refine⟨v,oX H H' f c,os,bare,⟨λb o e n=>un.keep b o e (wN n),λb o e n=>un.slot b o e (wN n),λb o e n x=>?_,un.there,λb xs e=>?_,λb ob xs e=>?_,λb ps e=>?_⟩,λb o e=>?_,r,hQ v H' q nf nc⟩
 ·rw[sk (λz=>by subst z;rw[hf]at n;cases n) (λz=>by subst z;rw[hc]at n;cases n)]
  exact un.free b o e (wN n) x
 ·have n1:b≠f:=λz=>by subst z;rw[hf]at e;cases e
  have n2:b≠c:=λz=>by subst z;rw[hc]at e;cases e
  rw[sk n1 n2]
  exact un.kU b xs (by rw[iS n1 n2];exact e)
 ·have n1:b≠f:=λz=>by subst z;rw[hf]at e;cases e
  have n2:b≠c:=λz=>by subst z;rw[hc]at e;cases e
  rw[sk n1 n2]
  exact un.kz b ob xs (by rw[iS n1 n2];exact e)
 ·have n1:b≠f:=λz=>by subst z;rw[hf]at e;cases e
  have n2:b≠c:=λz=>by subst z;rw[hc]at e;cases e
  rw[sk n1 n2]
  exact un.jz b ps (by rw[iS n1 n2];exact e)
 ·by_cases z:b=f
  ·subst z
   rw[O6,hf]at e;cases e
   refine⟨⟨kf,kc⟩,⟨_,kf⟩,λh1 h2 p kk=>⟨kk b _ (.inl rfl) p.1,kk c _ (.inr ?_) p.2⟩⟩
   rw[GQ];exact hc
  ·by_cases z2:b=c
   ·subst z2
    rw[GQ,hc]at e;cases e
    exact⟨_,kc⟩
   ·rw[sk z z2]at e
    have up:∀{b' o'},H' b'=some o'->oX H H' f c b'=some o':=λ{b' o'} q=>by
     rw[sk (λz=>by subst z;rw[nf]at q;cases q) (λz=>by subst z;rw[nc]at q;cases q)];exact q
    exact(aS b o e).mq (λ_ _ _ q=>q) (λ_ q=>up q) (λ_ _ q=>up q) λ_ _ q=>up q
theorem ca8{prog:Program}{w:World}{A:Around}{R:Result->Shared->Prop}{s:Shared}{a:Addr}{args:Args}{o:Obj}{fd:FuncData}{body:Expr}{q:Str}(cS8:A.depth<recursionLimit)
  (ho:s.heap.get? a=some o)
  (xZ:o.data=.func fd) (hco:fd.scope.isCoroutine=false) (cT0:fd.scope.isGenerator=false) (je:fd.body=.expr body) (cq:s.heap.CodeRec fd.code q)
  (h:wpAny (model prog w) A.in1 (bindArgs fd args) (λbinds bG =>
   wpAny (model prog w) A.in1 (newFunctionEnv fd.scope fd.globals fd.closure binds (q++".<locals>.") (some a) fd.code none fd.builtins)
    (λenv tT=>tT.heap.NoLimit/\codeAny (model prog w) A (.expr body env) R tT) (λe s'=>R (.error e) s') bG) (λe s'=>R (.error e) s') s) :
  codeAny (model prog w) A (.call (.ref a) args) R s:=by
 refine codeAny_of_tree ?_
 show wpAny _ A.in1 (callAny (.ref a) args) _ _ s
 simp only[callAny]
 refine wpAny_bind (wpAny_load ho ?_)
 obtain⟨c,oc,vs,tq,hc,jB,GS,hq⟩:=cq
 simp only[xZ,callFunction,hco,cT0,je,hc]
 rw[hc]at h
 refine wpAny_bind (m:=field (.ref c) 1) (wpAny_field jB GS hq (wpAny_bind (wpAny_pure ?_)))
 exact wpAny_bind (wpAny_mono h (λbinds bG BP=>wpAny_bind (wpAny_mono BP (λenv tT O9=>wpAny_bind (wpAny_enterFrame O9.1 cS8
  (wpAny_pure (And.intro rfl O9.2)))) λ_ _ h'=>h')) λ_ _ h'=>h')
structure Pa(p1 p2 x:Str)(sc:Scope):Prop where
 kind:sc.kind=.function
 co:sc.isCoroutine=false
 gen:sc.isGenerator=false
 nd:[p1,p2,x].Nodup
 l1:sc.names.lookup p1=some .local
 l2:sc.names.lookup p2=some .local
 Pb:∀y∈sc.names,y.2≠.cell
 only:∀y∈sc.names,y.2=.free->y.1=x
 lx:sc.names.lookup x=some .free
noncomputable def u7(CX:e7)(P:Program)(w:World)(K:PySem.W.Frag)(mg:Str->Option Value)(base:Heap)(N:List Str)(qual:Str)(scope:Scope)(f:Addr)(cd:Value)(cl:List (Str × Addr))(A:Around)(outer:List Env)(s:Shared)(H:Hp)(E:XK):Cx where
 prog:=P
 w:=w
 K:=K
 mg:=mg
 base:=base
 A:=A.deeper (PySem.W.envX qual scope s.heap.objs.size f cd cl)
 N:=N
 eA:=s
 mx:=H
 env:=PySem.W.envX qual scope s.heap.objs.size f cd cl
 outer:=outer
 stack:=PySem.W.envX qual scope s.heap.objs.size f cd cl::outer
 ex:=[]
 calm:=true
 fn:=λ_=>false
 pn:=[]
 xe:=λe s'=>wpAny (model P w) (A.deeper (PySem.W.envX qual scope s.heap.objs.size f cd cl)) (leaving (PySem.W.envX qual scope s.heap.objs.size f cd cl) e) (λ_ tZ=>CX outer H s E e tZ) (λe' tZ=>CX outer H s E e' tZ) s'
theorem cn0{CX:e7}{P:Program}{w:World}{K:PySem.W.Frag}{mg:Str->Option Value}{base:Heap}{p1 p2 x qn q:Str}{params:Arguments}{body:Expr}{scope:Scope}{pm jU:Value}{f c c':Addr}{k:Nat}{A:Around}{outer:List Env}{s:Shared}{H:Hp}{E:XK}
  {u1 u2 uc:Value} {v1 v2 vc:V} {Q:VK} {t:TE} {args:Args} (S:Pa p1 p2 x scope) (e0:jE P w K mg base A outer s H) (hr:cu (k+1) A)
  (hf:s.heap.get? f=some (PySem.W.kla_obj "<lambda>" qn params body scope [(x,c)] pm c' jU)) (hc:s.heap.IsCell c (some uc)) (rc:RelV vc uc) (hH:H c=none) (cq:s.heap.CodeRec (.ref c') q)
  (hb:bindArgs (PySem.W.kla_fn "<lambda>" qn params body scope [(x,c)] pm (.ref c') jU) args=pure [(p1,u1),(p2,u2)]) (r1:RelV v1 u1) (r2:RelV v2 u2)
  (ht:PE (u7 CX P w K mg base [p1,p2,x] q scope f (.ref c') [(x,c)] A outer s H E) body t) (h:t [some v1,some v2,some vc] H Q) :
  codeAny (model P w) A (.call (.ref f) args) (CR CX outer P w H s Q E) s:=by
 have lim:s.heap.NoLimit:=e0.mod.nolimit.keeps λb o e=>(e0.bs b o e).1
 refine ca8 hr.depth hf rfl S.co S.gen rfl cq ?_
 rw[hb]
 have cT2:∀y∈[(p1,u1),(p2,u2)],scope.names.lookup y.1=some .local:=λy hy=>by
  simp at hy
  rcases hy with rfl | rfl
  ·exact S.l1
  ·exact S.l2
 refine wpAny_pure (wpAny_newFunctionEnv S.Pb cT2 (λBP BL Pc=>⟨lim.fresh _ Pc,?_⟩) S.kind)
 show codeAny _ _ (.expr body (PySem.W.envX q scope s.heap.objs.size f (.ref c') [(x,c)])) _ _
 have hk:∀b o,s.heap.get? b=some o->BP.get? b=some o:=λb o e=>Pc.extBut b o (gh (b9 e)) (gG _ e)
 have cR:p1≠p2/\p1≠x/\p2≠x:=by have:=S.nd;simp at this;exact⟨this.1.1,this.1.2,this.2⟩
 have look:∀y d,([(x,c)]:List (Str × Addr)).lookup y=some d->y=x/\d=c:=λy d e=>by
  rw[gq]at e
  split at e
  ·rename_i z;exact⟨beq_iff_eq.mp z,(dh e).symm⟩
  ·cases e
 have I:Inv (u7 CX P w K mg base [p1,p2,x] q scope f (.ref c') [(x,c)] A outer s H E) [] [some v1,some v2,some vc] H { s with heap:=BP,toks:=s.toks+[(p1,u1),(p2,u2)].length }:=by
  refine⟨⟨e0.mod,S.kind,rfl,rfl,bL _,λy z d h1 h2=>?_,λy hy=>?_,λy d z _=>absurd z (by simp[u7]),λ_=>hr.hd,Around.frames_deeper e0.frames,.inr ⟨rfl,rfl⟩,λb z=>absurd z (by simp[u7]),e0.bs,e0.kA,λb _ _=>by simp[u7],λb z=>absurd z (by simp[u7]),e0.hZ,e0.kB⟩,
   rfl,e0.bare,Un.kept hk,⟨_,BL,λi y v h1 h2 h3=>?_⟩,λy d h=>?_,e0.aS.fresh (bL _),λy d h=>?_,λp hp=>absurd (show p∈([]:List (Addr × Obj)) from hp) (by simp),e0.aS.kept hk,rfl⟩
  ·exact(look y d h1).1.trans (look z d h2).1.symm
  ·have hy:scope.names.lookup y=some .cell\/scope.names.lookup y=some .free:=hy
   rcases hy with hy | hy
   ·exact absurd rfl (S.Pb _ (PySem.mem_of_lookup hy))
   ·obtain rfl:y=x:=S.only _ (PySem.mem_of_lookup hy) rfl
    exact⟨c,by show([(y,c)]:List (Str × Addr)).lookup y=_;rw[gq,beq_self_eq_true]⟩
  ·match i,h1,h2 with
   | 0,h1,h2 =>
    cases h1;cases h2
    exact⟨u1,r1,.inl ⟨S.l1,by
     show([(p1,u1),(p2,u2)]:List (Str × Value)).reverse.lookup p1=_
     simp[gq,beq_eq_false_iff_ne.mpr cR.1]⟩⟩
   | 1,h1,h2 =>
    cases h1;cases h2
    exact⟨u2,r2,.inl ⟨S.l2,by
     show([(p1,u1),(p2,u2)]:List (Str × Value)).reverse.lookup p2=_
     simp[gq]⟩⟩
   | 2,h1,h2 =>
    cases h1;cases h2
    exact⟨uc,rc,.inr ⟨.inr S.lx,c,by show([(x,c)]:List (Str × Addr)).lookup x=_;rw[gq,beq_self_eq_true],hc.keeps hk⟩⟩
   | n+3,h1,h2=>cases h2
  ·obtain⟨rfl,rfl⟩:=look y d h
   exact⟨_,hc.keeps hk⟩
  ·obtain⟨rfl,rfl⟩:=look y d h
   exact hH
 refine PySem.W.kla_codeExpr (wpAny_mono (ht [] _ _ H _ I h) (λu s' hs=>?_) λe s' hs=>hs)
 obtain⟨v,H',J,rv,q⟩:=hs
 exact⟨v,H',J.os,J.bare,J.base,J.aS,rv,q⟩
end L2
namespace L3
open PySem L2 PySem.Spec PyProof.Rows
theorem ag.oX{H H':Hp}{f c:Addr}{o1 o2:HO}(h:ag (rem H f c) H')(h1:H f=some o1)(n1:iH o1=true)(h2:H c=some o2)(n2:iH o2=true):ag H (oX H H' f c) where
 get b o e n:=by
  by_cases z:b=f
  ·rw[z,O6,<- z];exact e
  ·by_cases z2:b=c
   ·rw[z2,GQ,<- z2];exact e
   ·rw[sk z z2];exact h.get b o (by rw[iS z z2];exact e) n
 tb b ps e:=by
  have z:b≠f:=λz=>by subst z;rw[h1]at e;cases e;cases n1
  have z2:b≠c:=λz=>by subst z;rw[h2]at e;cases e;cases n2
  rw[sk z z2]
  exact h.tb b ps (by rw[iS z z2];exact e)
noncomputable abbrev wO:=Int->Int->(Int->Prop)->Prop
structure yZ(P:Program)(w:World)(K:PySem.W.Frag)(mg:Str->Option Value)(base:Heap)(n:Nat)(of oc:Obj)(c k:Addr)(sp:wO):Prop where
 fn:∃o1 od fd sl,of=⟨o1,od,.func fd,sl⟩
 run:∀(A:Around) (outer:List Env) (s:Shared) (H:Hp) (f:Addr) (t u:Tok) (i j:Int) (Qd:Int->Prop),cu n A->jE P w K mg base A outer s H->s.heap.get? f=some of->s.heap.get? c=some oc->H c=none->(∃q,s.heap.CodeRec (.ref k) q)->sp i j Qd ->
  codeAny (model P w) A (.call (.ref f) ⟨[.int i t,.int j u],[]⟩) (CR aP outer P w H s (λv H'=>∃r,v=.int r/\Qd r/\ag H H') (λ_ _ _=>False)) s
noncomputable def sq(L:Obj->Obj->Addr->Addr->wO->Prop)(i:Nat)(ta:cO):aH:=λδ Q=>∃of oc c k sp,δ[i]?=some (some (.bJ (.lam of oc c k)))/\L of oc c k sp/\ta δ λds ai=>∃a b,ds=[.int a,.int b]/\sp a b λr=>Q (.int r) ai
theorem Pd{X:Cx}{n i:Nat}{x:Str}{p pos:Pos}{e1 e2:Expr}{ta:cO}(hN:X.N[i]?=some x)(hv:jY X.env.scope x)(hr:cu n X.A)(ha:PA X [e1,e2] (lA ta))
  (hd:(x==("__debug__":Str))=false:=by decide) (cq:(x==("__classdict__":Str))=false:=by decide) (he:starEach [e1,e2] X.env=(false,eval e1 X.env)::starEach [e2] X.env:=by rfl) (bT:(backTo pos (starEach [e2] X.env)).any (·.1)=false:=by rfl) :
  PE X (.Call (.Name x p) [e1,e2] [] pos) (lE (sq (yZ X.prog X.w X.K X.mg X.base n) i ta)):=by
 intro pins s σ H Q I zz
 obtain⟨B,F,δ,ts,Qd,c,⟨of,oc,cc,k,sp,ed,L,q⟩,kk⟩:=zz
 obtain⟨v,ev,sv⟩:=c.look ed
 obtain⟨f,rfl,lam⟩:∃f,v=.ref f/\kE H f of oc cc k:=by
  cases sv with
  | bJ h _=>exact⟨_,rfl,h⟩
 refine wpAny_Call_Name_kw (aT (mB hN hv hd cq pins s σ H (λv' H'=>v'=.ref f/\H'=H) I ⟨_,ev,rfl,rfl⟩) λu s1 zz=>?_)
 obtain⟨v',H',I1,r1,e1,e2⟩:=zz
 subst e1 e2
 obtain rfl:u=.ref f:=r1
 have fnAt:∀{H1:Hp} {s2:Shared},Inv X pins σ H1 s2->kE H1 f of oc cc k->PySem.W.FnAt f s2.heap:=λ{H1 s2} J l=>by
  obtain⟨o1,od,fd,sl,e⟩:=L.fn
  exact⟨o1,od,fd,sl,by rw[<-e];exact(J.aS.lam l.fn).1⟩
 refine PySem.W.callWith_F (fnAt I1 lam) (aT (ha pos pins s1 σ H' (λvs H2=>∃a b ai F',vs=[.int a,.int b]/\(sp a b λr=>Qd (.int r) ai)/\ag F F'/\ag H' H2/\aj B F' H2 σ ai ts) I1
  ⟨B,F,δ,ts,_,c,q,λds ai vs F' H2 ⟨a,b,eds,q2⟩ f1 h1 c1 s1=>?_⟩) λus s2 ⟨vs,H2,I2,r2,a,b,ai,F',evs,q2,f1,h1,c1⟩=>⟨fnAt I2 ((show ug H' f (.lam of oc cc k) from lam).mono λa o e _ t=>h1.get a o e t),?_⟩) he bT
 ·subst eds
  refine⟨a,b,ai,F',?_,q2,f1,h1,c1⟩
  cases s1 with
  | int s1=>cases s1 with
   | int s1=>cases s1;rfl
 ·subst evs
  have sr:kE H2 f of oc cc k:=(show ug H' f (.lam of oc cc k) from lam).mono λa o e _ t=>h1.get a o e t
  obtain⟨o1,od,fd,sl,eof⟩:=L.fn
  have cT5:of.data=.func fd:=by rw[eof]
  obtain⟨gf,gc⟩:=I2.aS.lam sr.fn
  obtain⟨ψ,eψ,y6⟩:=sr.FU
  obtain⟨u1,u2,t1,t2,rfl⟩:∃(u1 u2:Unit) (t1 t2:Tok),us=[.int a t1,.int b t2]:=by
   cases r2 with
   | cons ra r2=>cases r2 with
    | cons rb r2 =>
     cases r2
     obtain⟨t1,rfl⟩:=ra
     obtain⟨t2,rfl⟩:=rb
     exact⟨(),(),t1,t2,rfl⟩
  refine wpAny_call (codeAny_mono (L.run X.A X.stack s2 (rem H2 f cc) f t1 t2 a b _ hr (I2.ym.rem sr.fn sr.cell cT5) gf gc BO (y6 _ (I2.aS k _ eψ).1) q2) λr s' hq=>?_)
  cases r with
  | error e=>exact hq.elim
  | ok fl =>
   cases fl with
   | ret u =>
    refine I2.after (CE.add I2.ym sr.fn sr.cell hq (Q':=Q) ?_)
    rintro v H3 ⟨r,rfl,hqd,hs⟩ nf nc
    have sm:=hs.oX sr.fn rfl sr.cell rfl
    exact kk _ ai _ F' _ hqd f1 (h1.trans sm) ((c1.grow sm).pushS (.int .nil) rfl)
   | next=>exact gF hq
   | brk=>exact gF hq
   | cont=>exact gF hq
end L3
namespace L2
open PySem PySem.Spec PyProof.Rows
theorem bz8{p:Pos}{c:Value}(l:List Value)(h:TriplesOk l):TriplesOk (l++[rawInt p.line,rawInt p.col,c]):=by
 fun_induction TriplesOk l with
 | case1=>simp[TriplesOk,rawInt]
 | case2 a b d e f rest ih=>exact ih h
 | case3=>exact h.elim
theorem bN8{p q:Pos}{c cv:Value}(l:List Value)(h:TriplesOk l)(e:codeAmong q (l++[rawInt p.line,rawInt p.col,c])=some cv):codeAmong q l=some cv\/cv=c:=by
 fun_induction TriplesOk l with
 | case1 =>
  simp only[nC,rawInt,codeAmong]at e
  split at e
  ·exact .inr (dh e).symm
  ·cases e
 | case2 a b d e' f rest ih =>
  simp only[ju,codeAmong]at e ⊢
  split at e
  ·rename_i z;rw[if_pos z];exact .inl e
  ·rename_i z;rw[if_neg z];exact ih h e
 | case3=>exact h.elim
noncomputable def oY(f:Addr)(o:Obj):Heap->Prop:=λh=>h.get? f=some o
noncomputable def cI9(P c:Addr)(x:Str)(params:Arguments)(body:Expr)(scope:Scope):TE:=λ_ H Q=>(∃ps,H P=some (.dN ps)) /\
 ∀f k qn pm jU H',H f=none->H' f=some (.ext (oY f (PySem.W.kla_obj "<lambda>" qn params body scope [(x,c)] pm k jU)))->L3.FT H' k->k≠f->L3.ag H H'->(∀a ws,H' a=some (.lst ws)->H a=some (.lst ws))->Q (.ref f) H'
theorem Pe{X:Cx}{P c cc:Addr}{x:Str}{params:Arguments}{body:Expr}{scope:Scope}{pos:Pos}(ip:closureFor scope X.env=pure [(x,c)])(BQ:X.env.code=.ref cc)(hK:PySem.W.codeHdIn X.K cc P=true)(yY:Bm X.mg X.base)
  (cU1:defaultsOf params X.env=([],[]):=by rfl):PE X (.Lambda params body scope pos) (cI9 P c x params body scope):=by
 intro pins s σ H Q I zz
 obtain⟨⟨ps,hP⟩,q⟩:=zz
 obtain⟨bm,ob,b1,b2,b3,b4,b5,b6,b7⟩:=yY
 have C:=PySem.W.codeHd_of_K I.dB hK
 obtain⟨oP,BR,codes⟩:=I.aS P _ hP
 have hg:=I.mod.glob.keeps I.bk
 have Pf:∀{b o},X.base.get? b=some o->b≠P:=λ{b o} e z=>by
  have:=(I.bs b o e).2
  rw[z,hP]at this;cases this
 have hgP:mainGlobals≠P:=by
  obtain⟨o,es,ep,e,_⟩:=I.mod.glob
  exact Pf e
 have Pg:s.heap.BuiltinsAt X.mg P:=⟨bm,ob,b1,b2,b3,Pf b4,I.bk _ _ b4,b5,b6,b7⟩
 refine PySem.W.kla_eval cU1 ?_
 have fresh:∀{b:Addr},s.heap.objs.size<=b->H b=none:=λ{b} h=>I.aS.fresh h
 cases GU:codeAmong pos ps.toList with
 | none =>
  refine PySem.W.kla_makeFunction (mg:=X.mg) ip I.ok.glob hg BQ C oP BR GU hgP Pg λk jU h' tk hx y7 ff cU3 Ph=>?_
  have GV:P<s.heap.objs.size:=b9 oP
  have hPk:k≠P:=λz=>by rw[z]at y7;exact absurd GV (xP.mpr y7)
  have u9:s.heap.objs.size<=h'.objs.size:=fE y7 (AA ff)
  have hPf:h'.objs.size≠P:=λz=>by rw[<-z]at GV;exact absurd GV (xP.mpr u9)
  have Pj:k≠h'.objs.size:=gh ff
  generalize Pk:PySem.W.kla_obj "<lambda>" (X.env.qual++"<lambda>") params body scope [(x,c)] ((X.mg "__name__").getD .none) k jU=obj
  have fJ:obj.isFreed=false:=by rw[<-Pk];rfl
  have y8:∀b,b≠P->b≠k->b≠h'.objs.size->upd (upd (upd H P (.dN (ps++#[rawInt pos.line,rawInt pos.col,.ref k]))) k (.ext λh=>∃q,h.CodeRec (.ref k) q)) h'.objs.size (.ext (oY h'.objs.size obj)) b=H b:=λb n1 n2 n3=>by
   rw[aV n3,aV n2,aV n1]
  have BS:upd (upd (upd H P (.dN (ps++#[rawInt pos.line,rawInt pos.col,.ref k]))) k (.ext λh=>∃q,h.CodeRec (.ref k) q)) h'.objs.size (.ext (oY h'.objs.size obj)) h'.objs.size=some (.ext (oY h'.objs.size obj)):=bA
  have atK:upd (upd (upd H P (.dN (ps++#[rawInt pos.line,rawInt pos.col,.ref k]))) k (.ext λh=>∃q,h.CodeRec (.ref k) q)) h'.objs.size (.ext (oY h'.objs.size obj)) k=some (.ext λh=>∃q,h.CodeRec (.ref k) q):=by rw[aV Pj,bA]
  have BU:upd (upd (upd H P (.dN (ps++#[rawInt pos.line,rawInt pos.col,.ref k]))) k (.ext λh=>∃q,h.CodeRec (.ref k) q)) h'.objs.size (.ext (oY h'.objs.size obj)) P=some (.dN (ps++#[rawInt pos.line,rawInt pos.col,.ref k])):=by rw[aV hPf.symm,aV hPk.symm,bA]
  generalize hHn:upd (upd (upd H P (.dN (ps++#[rawInt pos.line,rawInt pos.col,.ref k]))) k (.ext λh=>∃q,h.CodeRec (.ref k) q)) h'.objs.size (.ext (oY h'.objs.size obj))=Hn at y8 BS atK BU
  have old:∀{b o},H b=some o->b≠P->Hn b=some o:=λ{b o} e n=>by
   have hb:b<s.heap.objs.size:=I.aS.lt e
   rw[y8 b n (λz=>absurd hb (xP.mpr (z ▸ y7))) (λz=>absurd hb (xP.mpr (z ▸ u9)))];exact e
  have kept:∀b o,b≠P->s.heap.get? b=some o->(h'.push obj).get? b=some o:=λb o n e=>gG _ (hx b o n e)
  have un:Un X.fs [] H Hn s.heap (h'.push obj):=by
   refine⟨λb o e n _ _=>kept b o (λz=>by rw[z,hP]at n;cases n) e,λb o e n _ _=>⟨o.slots,kept b o (λz=>by rw[z,hP]at n;cases n) e⟩,λb o e n _=>?_,λb o e _=>?_,λb xs e=>old e (λz=>by rw[z,hP]at e;cases e),λb ob xs e=>old e (λz=>by rw[z,hP]at e;cases e),λb Pl e=>?_⟩
   ·have hb:=b9 e
    rw[y8 b (λz=>by rw[z,hP]at n;cases n) (λz=>absurd hb (xP.mpr (z ▸ y7))) (λz=>absurd hb (xP.mpr (z ▸ u9)))];exact n
   ·by_cases z:b=P
    ·rw[z];exact⟨_,gG _ Ph⟩
    ·exact⟨o,kept b o z e⟩
   ·by_cases z:b=P
    ·subst z
     rw[hP]at e;cases e
     exact⟨_,BU⟩
    ·exact⟨#[],by rw[old e z];simp⟩
  have aS:dA X.prog X.w Hn (h'.push obj):=λb o e=>by
   by_cases z1:b=h'.objs.size
   ·subst z1
    rw[BS]at e;cases e
    exact⟨i5 _ fJ,⟨_,i5 _ fJ⟩,λh1 h2 p kk=>kk _ _ (.inl rfl) p⟩
   ·by_cases z2:b=k
    ·subst z2
     rw[atK]at e;cases e
     have hr:=cU3.push obj
     refine⟨⟨_,hr⟩,?_,λh1 h2 ⟨q,c1,o1,vs,t,e1,e2,r⟩ kk=>?_⟩
     ·obtain⟨c1,o1,vs,t,e1,e2,_⟩:=hr
      cases e1
      exact⟨o1,e2⟩
     ·cases e1
      exact⟨q,_,o1,vs,t,rfl,kk _ _ (.inl rfl) e2,r⟩
    ·by_cases z3:b=P
     ·subst z3
      rw[BU]at e;cases e
      refine⟨gG _ Ph,by rw[WZ];exact bz8 _ BR,λp' cv e'=>?_⟩
      rw[WZ]at e'
      rcases bN8 _ BR e' with e' | e'
      ·obtain⟨d,φ,e1,e2,e3⟩:=codes p' cv e'
       exact⟨d,φ,e1,old e2 (λz=>by rw[z,hP]at e2;cases e2),e3⟩
      ·exact⟨k,_,e',atK,λh' p=>p⟩
     ·rw[y8 b z3 z2 z1]at e
      have nP:∀{b' o'},H b'=some o'->(∀ps,o'≠.dN ps)->b'≠P:=λ{b' o'} e n z=>by rw[z,hP]at e;cases e;exact n _ rfl
      refine(I.aS b o e).mq (λb' u y9 e'=>kept b' u ?_ e') (λb' e'=>old e' (nP e' (λps z=>by cases z))) (λb' xs e'=>old e' (nP e' (λps z=>by cases z))) λb' φ e'=>old e' (nP e' (λps z=>by cases z))
      rcases y9 with rfl | y9
      ·exact z3
      ·exact nP y9 (λps z=>by cases z)
  refine⟨.ref h'.objs.size,Hn,I.un un aS,rfl,q _ k _ _ _ _ (fresh u9) (by rw[Pk];exact BS) ⟨_,atK,λh p=>p⟩ Pj ⟨λb o e n=>old e (λz=>by rw[z,hP]at e;cases e;cases n),λb Pl e=>?_⟩ λa ws e=>?_⟩
  ·exact un.jz b Pl e
  ·by_cases z1:a=h'.objs.size
   ·subst z1;rw[BS]at e;cases e
   ·by_cases z2:a=k
    ·subst z2;rw[atK]at e;cases e
    ·by_cases z3:a=P
     ·subst z3;rw[BU]at e;cases e
     ·rw[y8 a z3 z2 z1]at e;exact e
 | some cv =>
  obtain⟨k,φ,rfl,hk,GR⟩:=codes pos cv GU
  refine PySem.W.kla_makeFunctionHit (mg:=X.mg) ip I.ok.glob hg BQ C oP BR GU Pg λjU h' tk hx u9=>?_
  have hf:=fresh u9
  refine⟨.ref h'.objs.size,upd H h'.objs.size (.ext (oY h'.objs.size (PySem.W.kla_obj "<lambda>" (X.env.qual++"<lambda>") params body scope [(x,c)] ((X.mg "__name__").getD .none) k jU))),I.laid (λb u e=>gG _ (hx b u e)) u9 ?_,rfl,q _ k (X.env.qual++"<lambda>") ((X.mg "__name__").getD .none) jU _ hf bA ⟨φ,?_,GR⟩ (dU hk hf) (L3.ag.of λb o e=>?_) λa ws e=>?_⟩
  ·exact⟨i5 _ rfl,⟨_,i5 _ rfl⟩,λh1 h2 p kk=>kk _ _ (.inl rfl) p⟩
  ·rw[aV (dU hk hf)];exact hk
  ·rw[aV (dU e hf)];exact e
  ·by_cases z:a=h'.objs.size
   ·subst z;rw[bA]at e;cases e
   ·rw[aV z]at e;exact e
end L2
namespace L2
open PySem PySem.Spec PyProof.Rows
structure wQ(K:PySem.W.Frag)(C:Addr)(m:Str)(f:Addr):Prop where
 ga:PySem.W.specialIn K (.ref C) "__getattribute__"=some (some (.builtin "type.__getattribute__"))
 rd:PySem.W.readsIn K C (.type "type")=true
 at_:PySem.W.findCls K (.ref C) (.type "type") m=some (.val (.ref f))
 kp:PySem.W.keepIn K (.ref f)=true
section
variable{X:Cx}{CX:e7}{k:Nat}{f C:Addr}{fd:FuncData}{ps:List Str}{sp:Sp}{E:XK}{x m:Str}{p pos apos:Pos}{e o:Expr}{es:List Expr}{ta:TE}{t:TA}
theorem b33{pins:List (Addr × Obj)}{σ:St}{H:Hp}{s:Shared}{pl:Sem Bool}{A:Around}{E':Value->Shared->Prop}{Q:Value × List Value->Shared->Prop}(I:Inv X pins σ H s)(M:wQ X.K C m f)(h:∀s',Inv X pins σ H s'->Q (.ref f,[]) s') :
  wpAny (model X.prog X.w) A (getMethod (.ref C) m pl) Q E' s :=
 PySem.W.method_cls I.dB M.ga (PySem.W.cls_value (mc:=.type "type") I.dB M.rd M.at_ rfl (h _ (I.tok _)))
theorem Pm{pins:List (Addr × Obj)}{σ:St}{H:Hp}{s:Shared}{pl:Sem Bool}{Q:Value->Shared->Prop}{QA:List V->Hp->Prop}(I:Inv X pins σ H s)(M:wQ X.K C m f)(hg:Gl X x)(hm:X.mg x=some (.ref C))(ha:PA X (e::es) t)(h:t σ H QA)
  (hq:∀us s1 vs H1,Inv X pins σ H1 s1->Vals vs us->QA vs H1->wpAny (model X.prog X.w) X.A (call (.ref f) us) Q X.xe s1)
  (dW:(x==("__debug__":Str))=false:=by decide) (ia:starEach (e::es) X.env=(false,eval e X.env)::starEach es X.env:=by rfl) (bT:(backTo pos (starEach es X.env)).any (·.1)=false:=by rfl)
  (ht:eval (.Call (.Attribute (.Name x p) m apos) (e::es) [] pos) X.env=(do
   let ov<-eval (.Name x p) X.env
   standAt apos.atName
   let (f,first)<-holding [ov] (getMethod ov m pl)
   callWith pos f first (backTo pos (starEach (e::es) X.env)) (backToKw pos (keywordEach [] X.env))):=by rfl) :
  wpAny (model X.prog X.w) X.A (eval (.Call (.Attribute (.Name x p) m apos) (e::es) [] pos) X.env) Q X.xe s:=by
 refine PySem.W.methodCall_KW (pl:=pl) (ER I hg hm ?_ dW) ht
 refine b33 I M λs1 I1=>?_
 refine PySem.W.callWith_K (first:=[]) (h₀:=X.base) I.ok.mod.tN M.kp (aT (ha pos pins s1 σ H _ I1 h) λus s2 ⟨vs,H2,I2,r,q2⟩=>⟨I2.dB,?_⟩) ia bT
 exact hq us s2 vs H2 I2 r q2
noncomputable def cC7(sp:Sp)(E:XK)(c:Addr)(i:Nat)(t:TA):TE:=λσ H Q=>t σ H λvs H1=>∃f of fd v,H1 f=some (.ext (oY f of))/\of.data=.func fd/\σ[i]?=some (some v) /\
 ∀oc u,oc.data=.cell (some u)->RelV v u->H1 c=none->c≠f->sp vs (upd (upd H1 f (.ext (L3.j7 of oc c f))) c (.own f)) (λr H2=>H2 f=some (.ext (L3.j7 of oc c f))/\H2 c=some (.own f)/\Q r (rem H2 f c)) E
theorem Pn{pl:Sem Bool}{y:Str}{c:Addr}{i:Nat}(M:wQ X.K C m f)(F:aJ X.prog X.w X.K X.mg X.base aP k f fd ps sp)(hr:cu k X.A)(hb:Binds X.K fd ps [])(hg:Gl X x)(hm:X.mg x=some (.ref C))
  (hN:X.N[i]?=some y) (hy:X.env.scope.names.lookup y=some .cell) (ip:X.env.cells.lookup y=some c) (x8:X.fn y=true) (ha:PA X (e::es) t)
  (dW:(x==("__debug__":Str))=false:=by decide) (ia:starEach (e::es) X.env=(false,eval e X.env)::starEach es X.env:=by rfl) (bT:(backTo pos (starEach es X.env)).any (·.1)=false:=by rfl)
  (ht:eval (.Call (.Attribute (.Name x p) m apos) (e::es) [] pos) X.env=(do
   let ov<-eval (.Name x p) X.env
   standAt apos.atName
   let (f,first)<-holding [ov] (getMethod ov m pl)
   callWith pos f first (backTo pos (starEach (e::es) X.env)) (backToKw pos (keywordEach [] X.env))):=by rfl) :
  PE X (.Call (.Attribute (.Name x p) m apos) (e::es) [] pos) (cC7 sp E c i t):=by
 intro pins s σ H Q I h
 refine Pm (pl:=pl) I M hg hm ha h (λus s1 vs H1 I1 r zq=>?_) dW ia bT ht
 obtain⟨fa,of,fdd,v,hf,hd,hv,hq⟩:=zq
 obtain⟨ml,_,hl⟩:=I1.loc
 obtain⟨u,rv,lk⟩:=hl i y v hN hv (.inr (.inl hy))
 obtain⟨oc,gc,jB⟩:∃oc,s1.heap.get? c=some oc/\oc.data=.cell (some u):=by
  rcases lk with⟨hk,_⟩ | ⟨_,c',x9,ic⟩
  ·rw[show X.env.kindOf y=some .cell from hy]at hk;cases hk
  ·rw[ip]at x9;cases x9;exact ic
 have nc:H1 c=none:=I1.jZ y c ip
 have su:c≠fa:=λz=>by rw[z,hf]at nc;cases nc
 have gf:s1.heap.get? fa=some of:=(I1.aS fa _ hf).1
 have nU:=hq oc u jB rv nc su
 have Po:=I1.ok.tO y c x8 ip
 generalize hH:upd (upd H1 fa (.ext (L3.j7 of oc c fa))) c (.own fa)=Hp at nU
 have Pp:Hp c=some (.own fa):=by rw[<-hH,bA]
 have atf:Hp fa=some (.ext (L3.j7 of oc c fa)):=by rw[<-hH,aV su.symm,bA]
 have m3:∀b,b≠fa->b≠c->Hp b=H1 b:=λb n1 n2=>by rw[<-hH,aV n2,aV n1]
 have nfs:c ∉ X.fs:=λhb=>by
  obtain⟨_,o,ho,_⟩:=I1.ok.hZ.mem hb
  exact absurd (dz (b9 ho) Po) (gU _)
 have nst:∀b∈jA X.stack,b≠c:=λb hb z=>by
  rcases cj.mp (I1.AY b hb)with e | hb
  ·exact I1.qy y c ip (z ▸ e)
  ·exact nfs (z ▸ hb)
 have cV1:dA X.prog X.w Hp s1.heap:=λb ob q=>by
  by_cases z1:b=c
  ·subst z1;rw[Pp]at q;cases q;exact⟨_,gc⟩
  ·by_cases z2:b=fa
   ·subst z2;rw[atf]at q;cases q
    exact⟨⟨gf,gc⟩,⟨_,gf⟩,λh1 h2 p kk=>⟨kk _ _ (.inl rfl) p.1,kk _ _ (.inr Pp) p.2⟩⟩
   ·rw[m3 b z2 z1]at q
    have x1:=(I1.aS b ob q).rem (f:=fa) (c:=c) z2 hf (.inr nc) (O7 gf (λ_ p=>p) hd)
    have up:∀{b' o'},rem H1 fa c b'=some o'->Hp b'=some o':=λ{b' o'} q=>by
     obtain⟨n1,n2,q'⟩:=O5 q
     rw[m3 b' n1 n2];exact q'
    exact x1.mq (λ_ _ _ q=>q) (λ_ q=>up q) (λ_ _ q=>up q) λ_ _ q=>up q
 have e0:jE X.prog X.w X.K X.mg X.base X.A X.stack s1 Hp:=by
  have e1:=I1.ym
  refine⟨e1.frames,e1.mod,λb ob q=>⟨(e1.bs b ob q).1,?_⟩,e1.kA,e1.hZ,λb hb=>?_,cV1,e1.bare⟩
  ·have hb0:=(I1.ok.bs b ob q).1
   rw[m3 b (λz=>by have:=(e1.bs b ob q).2;rw[z,hf]at this;cases this) (λz=>absurd (dz (b9 hb0) (z ▸ Po)) (gU _))]
   exact(e1.bs b ob q).2
  ·have nb:=e1.kB b hb
   rw[m3 b (λz=>by rw[z,hf]at nb;cases nb) (nst b hb)];exact nb
 have hlen:us.length=ps.length:=by rw[<-r.length];exact F.len _ _ _ _ nU
 refine wpAny_call (codeAny_mono (F.run X.A X.stack s1 Hp ⟨us,[]⟩ us vs _ E hr e0 (by have:=hb s1 us I1.dB (by rw[eH];exact hlen);rwa [eH]at this) r nU) λrr s' hz=>?_)
 cases rr with
 | error e=>exact hz.elim
 | ok fl =>
  cases fl with
  | next=>exact gF hz
  | brk=>exact gF hz
  | cont=>exact gF hz
  | ret u' =>
   obtain⟨v',H2,os,bare,un,Pq,rv',q1,q2,q3⟩:=hz
   obtain⟨_,Pr⟩:=Pq.lam q1
   refine I1.after ⟨v',rem H2 fa c,os,bare,⟨λb ob g n hb hx=>?_,λb ob g n hb hx=>?_,λb ob g n hx=>?_,un.there,λb xs g=>?_,λb ob xs g=>?_,λb ps g=>?_⟩,Pq.rem q1 q2 hd,rv',q3⟩
   ·by_cases z:b=c
    ·rw[z,gc]at g;cases g;rw[z];exact Pr
    ·exact un.keep b ob g (by rw[m3 b (λz=>by rw[z,hf]at n;cases n) z];exact n) hb hx
   ·by_cases z:b=c
    ·rw[z,gc]at g;cases g;rw[z];exact⟨_,Pr⟩
    ·exact un.slot b ob g (by rw[m3 b (λz=>by rw[z,hf]at n;cases n) z];exact n) hb hx
   ·by_cases z:b=c
    ·rw[z];exact BO
    ·exact wN (un.free b ob g (by rw[m3 b (λz=>by rw[z,hf]at n;cases n) z];exact n) hx)
   ·have n1:b≠fa:=λz=>by rw[z,hf]at g;cases g
    have n2:b≠c:=λz=>by rw[z,nc]at g;cases g
    rw[iS n1 n2]
    exact un.kU b xs (by rw[m3 b n1 n2];exact g)
   ·have n1:b≠fa:=λz=>by rw[z,hf]at g;cases g
    have n2:b≠c:=λz=>by rw[z,nc]at g;cases g
    rw[iS n1 n2]
    exact un.kz b ob xs (by rw[m3 b n1 n2];exact g)
   ·have n1:b≠fa:=λz=>by rw[z,hf]at g;cases g
    have n2:b≠c:=λz=>by rw[z,nc]at g;cases g
    rw[iS n1 n2]
    exact un.jz b ps (by rw[m3 b n1 n2];exact g)
end
end L2
namespace L3
open PySem L2 PySem.Spec PyProof.Rows
theorem za{ts:List Addr}{H H':Hp}(h:Tb ts H)(s:ag H H'):Tb ts H':=λP hP=>by
 obtain⟨ps,e⟩:=h P hP
 obtain⟨m,e2⟩:=s.tb P ps e
 exact⟨_,e2⟩
theorem Pt{P:Program}{w:World}{K:PySem.W.Frag}{mg:Str->Option Value}{base:Heap}{n:Nat}{p1 p2 x qn:Str}{params:Arguments}{body:Expr}{scope:Scope}{pm jU:Value}{oc:Obj}{c k:Addr}{m:Int}{tm:Tok}{sp:wO}(S:Pa p1 p2 x scope)
  (jB:oc.data=.cell (some (.int m tm))) (hb:∀u1 u2:Value,bindArgs (PySem.W.kla_fn "<lambda>" qn params body scope [(x,c)] pm (.ref k) jU) ⟨[u1,u2],[]⟩=pure [(p1,u1),(p2,u2)])
  (je:∀(q:Str) (f:Addr) (A:Around) (outer:List Env) (s:Shared) (H:Hp) (E:XK),cu n (A.deeper (PySem.W.envX q scope s.heap.objs.size f (.ref k) [(x,c)])) ->
   ∃t:aH,PE (u7 aP P w K mg base [p1,p2,x] q scope f (.ref k) [(x,c)] A outer s H E).h8 body (lE t)/\∀i j Qd,sp i j Qd->t [some (.int i),some (.int j),some (.int m)] λd _=>∃r,d=.int r/\Qd r) :
  yZ P w K mg base (n+1) (PySem.W.kla_obj "<lambda>" qn params body scope [(x,c)] pm k jU) oc c k sp where
 fn:=⟨_,_,_,_,rfl⟩
 run A outer s H f t u i j Qd hr e0 gf gc hH cq h:=by
  obtain⟨q,cq⟩:=cq
  obtain⟨tt,ht,hq⟩:=je q f A outer s H (λ_ _ _=>False) (hr.deeper _)
  refine cn0 (v1:=.int i) (v2:=.int j) (vc:=.int m) (E:=λ_ _ _=>False) S e0 hr gf ⟨oc,gc,jB⟩ ⟨tm,rfl⟩ hH cq (hb _ _) ⟨t,rfl⟩ ⟨u,rfl⟩ ht.h8 ?_
  refine⟨⟨H,H⟩,H,_,[],_,?_,hq i j Qd h,λd ai v F' H' hd f1 h1 c1=>?_⟩
  ·exact aj.start (ds:=[.int i,.int j,.int m]) (vs:=[.int i,.int j,.int m]) (ag.refl H) (.int (.int (.int .nil))) 0
  ·obtain⟨r,rfl,hd⟩:=hd
   have s1:=c1.top
   cases s1
   exact⟨r,rfl,hd,h1⟩
section
variable{X:Cx}{CX:e7}{n:Nat}{f:Addr}{fd:FuncData}{ps:List Str}{sp:aX}{E:XK}{x:Str}{p pos:Pos}{e:Expr}{es:List Expr}{t:cO}{tl:List Addr}
theorem GW(hT:Tb tl X.mx)(F:aJ X.prog X.w X.K X.mg X.base CX n f fd ps (u6 tl (aY sp)))(hr:cu n X.A)(hg:Gl X x)(hm:X.mg x=some (.ref f))(hk:PySem.W.keepIn X.K (.ref f)=true)(hb:Binds X.K fd ps [])(hx:k0 CX X E)
  (ha:PA X (e::es) (lA t)) (dW:(x==("__debug__":Str))=false:=by decide) (he:starEach (e::es) X.env=(false,eval e X.env)::starEach es X.env:=by rfl) (bT:(backTo pos (starEach es X.env)).any (·.1)=false:=by rfl) :
  PE X (.Call (.Name x p) (e::es) [] pos) (lE (mN sp t)):=by
 intro pins s σ H Q I zz
 obtain⟨B,F',δ,ts,Qd,c,q,k⟩:=zz
 have tb:=GP I hT
 refine jF F hr hg hm hk hb .nil hx ha dW he bT pins s σ H Q I ⟨B,F',δ,ts,_,c,q,λds ak vs F1 H1 q1 f1 h1 c1 s1=>?_⟩
 refine⟨za tb h1,?_⟩
 rw[eH]
 exact Bv c1 s1 q1 λd v F' H' hd hf hs c'=>k d ak v F' H' hd (f1.trans hf) (h1.trans hs) c'
end
section
variable{P:Program}{w:World}{K:PySem.W.Frag}{mg:Str->Option Value}{base:Heap}
theorem BV{x qual:Str}{st:Stmt}{f:Addr}{fd:FuncData}{N ps:List Str}{k:Nat}{sp:aX}{tl:List Addr}(F:aZ K x qual st f fd)(S:aW N ps (aL st))(len:∀ds Q,sp ds Q->ds.length=ps.length)
  (je:∀(aC:Value) (A:Around) (outer:List Env) (s:Shared) (H:Hp) (E:XK),Tb tl H->cu k (A.deeper (envOfC qual (aL st) s.heap.objs.size f aC)) ->
   ∃t:dd,PSs (j5 aP P w K mg base N qual (aL st) f aC A outer s H E).h8 (gr st) (lS (j5 aP P w K mg base N qual (aL st) f aC A outer s H E).h8 t)/\∀ds Q,sp ds Q->t { nx:=λ_=>Q .av,rt:=Q } (lH N ds)):aJ P w K mg base aP (k+1) f fd ps (u6 tl (aY sp)):=by
 refine F.ok S (λvs H Q E ⟨_,F,ds,Qd,e,r,h,_⟩=>by rw[<-r.length];exact len ds Qd h) λaC A outer s H vs Q E hr zz=>?_
 obtain⟨tb,F,ds,Qd,e,r,h,k⟩:=zz
 obtain⟨t,ht,hq⟩:=je aC A outer s H E tb hr
 have fin:∀d v ai aK F' H',Qd d->aj ⟨H,F⟩ F' H' aK ai [(d,v)]->Q v H':=λd v ai aK F' H' hd c=>by
  obtain⟨A,C,r',s',nd,fr⟩:=c.own
  exact k d v F' H' A hd c.b1 c.b2 c.ext c.b3 r' (fX.mp nd).1 λa ha=>fr a (dZ _ ha)
 have e1:L2.start N vs=vs.map some++bg (N.length-ds.length) none:=by unfold L2.start;rw[r.length]
 refine⟨_,ht,⟨H,F⟩,F,lH N ds,_,?_,hq ds Qd h,λai aK F' H' hd c=>fin .av .av ai aK F' H' hd (c.pushS (.av .nil) rfl),fin,λ_ _ _ _ z=>z.elim,λ_ _ _ _ z=>z.elim,XL.none (λ_ _ z=>z) λ_ _ z=>z⟩
 rw[e1]
 exact aj.start e r _
theorem Pu{x qual:Str}{st:Stmt}{f cc:Addr}{fd:FuncData}{N ps:List Str}{k:Nat}{sp:Sp}(F:aZ K x qual st f fd)(BQ:fd.code=.ref cc)(S:aW N ps (aL st))(len:∀vs H Q E,sp vs H Q E->vs.length=ps.length)
  (je:∀(A:Around) (outer:List Env) (s:Shared) (H:Hp) (vs:List V) (Q:VK) (E:XK),cu k (A.deeper (envOfC qual (aL st) s.heap.objs.size f (.ref cc)))->sp vs H Q E ->
   ∃t,PSs (j5 aP P w K mg base N qual (aL st) f (.ref cc) A outer s H E).h8 (gr st) t/\t { nx:=λ_ H'=>Q .av H',rt:=Q } (L2.start N vs) H):aJ P w K mg base aP (k+1) f fd ps sp:=by
 obtain⟨oc,od,kV,doc,pm,an,aC,ct,jc,rfl,lk,cq⟩:=F.ex
 obtain rfl:aC=.ref cc:=BQ
 refine Fe lk cq S len λA outer s H vs Q E hr jG=>?_
 obtain⟨t,h,q⟩:=je A outer s H vs Q E hr jG
 exact⟨t,h.h8,q⟩
end
end L3
namespace L3
open PySem L2 PySem.Spec PyProof.Rows
theorem bN6{ns:List Str}{xs:List D}{ws:List V}{F H:Hp}{f:Str}{d:D}(r:R F H xs ws [])(h:(ns.zip xs).lookup f=some d):∃w,(ns.zip ws).lookup f=some w/\R F H [d] [w] []:=by
 generalize e:([]:List Addr)=A at r
 induction ns generalizing xs ws A with
 | nil=>simp at h
 | cons n ns ih =>
  cases xs with
  | nil=>simp at h
  | cons x xs =>
   obtain⟨v,bW,A1,A2,rfl,rfl,h1,h2⟩:=R.cE r
   obtain⟨rfl,rfl⟩:=qt.mp e.symm
   rw[W0]at h ⊢
   by_cases z:f=n
   ·subst z
    rw[gq,beq_self_eq_true]at h
    cases h
    refine⟨v,?_,h1⟩
    rw[gq,beq_self_eq_true]
   ·have z':(f==n)=false:=beq_eq_false_iff_ne.mpr z
    rw[gq,z']at h
    obtain⟨w,e1,e2⟩:=ih h [] rfl h2
    refine⟨w,?_,e2⟩
    rw[gq,z']
    exact e1
theorem Pw{ns:List Str}{ws:List V}{f:Str}(h:f ∉ ns):(ns.zip ws).lookup f=none:=by
 induction ns generalizing ws with
 | nil=>simp
 | cons n ns ih =>
  cases ws with
  | nil=>simp
  | cons w ws =>
   rw[W0,gq]
   have hn:(f==n)=false:=beq_eq_false_iff_ne.mpr λz=>h (by rw[z];simp)
   simp only[hn]
   exact ih λz=>h (by simp[z])
theorem GX{F H:Hp}{C:Addr}{ns:List Str}{xs:List D}{v:V}(s:S F H [.obj C ns xs] [v]):∃p dx ws,v=.ref p/\H p=some (.ins C dx (ns.zip ws))/\ns.length=ws.length/\R F H xs ws []:=by
 cases s with
 | obj h l r _=>exact⟨_,_,_,rfl,h,l,r⟩
section
variable{X:Cx}{e o:Expr}{es:List Expr}{f m x:Str}{pos p apos:Pos}{t to:aH}{ta:cO}{n:Nat}
noncomputable def oZ(K:PySem.W.Frag)(t:aH)(f:Str):aH:=λδ Q=>t δ λd ai=>∃C ns xs v,d=.obj C ns xs/\dk K C/\br K C f/\(ns.zip xs).lookup f=some v/\Q v ai
theorem cG1(he:PE X e (lB t))(hb:attributeBase e f X.env (eval e X.env)=eval e X.env:=by rfl):PE X (.Attribute e f pos) (lB (oZ X.K t f)) :=
 dm (tY he hb) λσ H Q zq=>by
 obtain⟨B,F,δ,ts,Qd,c,q,k⟩:=zq
 exact⟨B,F,δ,ts,_,c,q,λd ai v F' H' ⟨C,ns,xs,w,ed,hc,hn,hl,hq⟩ f1 h1 c1 s1=>by
  subst ed
  obtain⟨p,dx,ws,rfl,hp,_,r⟩:=GX s1
  obtain⟨u,hu,ru⟩:=bN6 r hl
  exact⟨p,C,dx,_,u,rfl,hp,hc,hn,hu,k w ai u F' H' hq f1 h1 c1 ru.s⟩⟩
structure jV(P:Program)(w:World)(K:PySem.W.Frag)(mg:Str->Option Value)(base:Heap)(n:Nat)(m:Str)(C:Addr)(sp:aX):Prop where
 cls:dk K C
 ex:∃f fd ps,Meth K C m f/\aJ P w K mg base aP n f fd ps (aY sp)/\Binds K fd ps []
noncomputable def pd(MO:Addr->aX->Prop)(m:Str)(to:aH)(ta:cO):aH:=λδ Q=>to δ λd ak=>∃C ns xs sp,d=.obj C ns xs/\MO C sp/\m ∉ ns/\ta ak λds bh=>sp ((D.obj C ns xs::ds).map D.sh) λr=>((D.obj C ns xs::ds).all D.pl||r.fr)=true/\Q r bh
theorem cy5{pl:Sem Bool}(ho:PE X o (lB to))(hr:cu n X.A)(ha:PA X (e::es) (lA ta))
  (ia:starEach (e::es) X.env=(false,eval e X.env)::starEach es X.env:=by rfl) (bT:(backTo pos (starEach es X.env)).any (·.1)=false:=by rfl)
  (ht:eval (.Call (.Attribute o m apos) (e::es) [] pos) X.env=(do
   let ov<-eval o X.env
   standAt apos.atName
   let (f,first)<-holding [ov] (getMethod ov m pl)
   callWith pos f first (backTo pos (starEach (e::es) X.env)) (backToKw pos (keywordEach [] X.env))):=by rfl) :
  PE X (.Call (.Attribute o m apos) (e::es) [] pos) (lE (pd (jV X.prog X.w X.K X.mg X.base n m) m to ta)):=by
 intro pins s σ H Q I zz
 obtain⟨B,F,δ,ts,Qd,c,q,k⟩:=zz
 refine PySem.W.methodCall_KW (pl:=pl) (aT (ho pins s σ H (λx H1=>∃d ak F1,S F1 H1 [d] [x]/\aj B F1 H1 σ ak ts/\ag F F1/\ag H H1/\∃C ns xs sp,d=.obj C ns xs/\jV X.prog X.w X.K X.mg X.base n m C sp/\m ∉ ns/\ta ak λds bh=>sp ((D.obj C ns xs::ds).map D.sh) λr=>((D.obj C ns xs::ds).all D.pl||r.fr)=true/\Qd r bh) I
  ⟨B,F,δ,ts,_,c,q,λd ak v F1 H1 hq f1 h1 c1 s1=>⟨d,ak,F1,s1,c1,f1,h1,hq⟩⟩) λu s1 zq=>?_) ht
 obtain⟨x,H1,I1,rx,d,ak,F1,sd,c1,f1,h1,C,ns,xs,sp,ed,M,hm,hq⟩:=zq
 subst ed
 obtain⟨a,dx,ws,rfl,ea,hl,r0⟩:=GX sd
 obtain rfl:u=gT a:=rx
 obtain⟨f,fd,ps,zb,FO,hb⟩:=M.ex
 refine Fc I1 ea M.cls zb (Pw hm) ?_
 refine PySem.W.callWith_K (first:=[.ref a]) (h₀:=X.base) I.ok.mod.tN zb.kp (aT (ha pos pins s1 σ H1 (λvs H2=>∃ds bh F2,S F2 H2 ds vs/\aj B F2 H2 σ bh ts/\ag F1 F2/\ag H1 H2/\sp ((D.obj C ns xs::ds).map D.sh) λr=>((D.obj C ns xs::ds).all D.pl||r.fr)=true/\Qd r bh) I1
  ⟨B,F1,ak,ts,_,c1,hq,λds bh vs F2 H2 hq f2 h2 c2 s2=>⟨ds,bh,F2,s2,c2,f2,h2,hq⟩⟩) λus s2 ⟨vs,H2,I2,r,ds,bh,F2,sds,c2,f2,h2,jG⟩=>⟨I2.dB,?_⟩) ia bT
 refine yn (us:=.ref a::us) (vs:=.ref a::vs) (fG:=[]) FO hr hb .nil da I2 (.cons rfl r) ?_
 rw[eH]
 exact Bv c2 (.obj (h2 _ _ ea) hl (r0.shared f2 h2) sds) jG λd v F' H' hd hf hs c'=>k d bh v F' H' hd (f1.trans (f2.trans hf)) (h1.trans (h2.trans hs)) c'
noncomputable def pf(MO:Addr->aX->Prop)(m:Str)(to:aH):aH:=λδ Q=>to δ λd ak=>∃C ns xs sp,d=.obj C ns xs/\MO C sp/\m ∉ ns/\sp [D.obj C ns xs] λr=>Q r ak
theorem cm1{pl:Sem Bool}(ho:PE X o (lB to))(hr:cu n X.A)
  (ht:eval (.Call (.Attribute o m apos) [] [] pos) X.env=(do
   let ov<-eval o X.env
   standAt apos.atName
   let (f,first)<-holding [ov] (getMethod ov m pl)
   callWith pos f first (backTo pos (starEach [] X.env)) (backToKw pos (keywordEach [] X.env))):=by rfl) :
  PE X (.Call (.Attribute o m apos) [] [] pos) (lE (pf (jV X.prog X.w X.K X.mg X.base n m) m to)):=by
 intro pins s σ H Q I zz
 obtain⟨B,F,δ,ts,Qd,c,q,k⟩:=zz
 refine PySem.W.methodCall_KW (pl:=pl) (aT (ho pins s σ H (λx H1=>∃d ak F1,S F1 H1 [d] [x]/\aj B F1 H1 σ ak ts/\ag F F1/\ag H H1/\∃C ns xs sp,d=.obj C ns xs/\jV X.prog X.w X.K X.mg X.base n m C sp/\m ∉ ns/\sp [D.obj C ns xs] λr=>Qd r ak) I
  ⟨B,F,δ,ts,_,c,q,λd ak v F1 H1 hq f1 h1 c1 s1=>⟨d,ak,F1,s1,c1,f1,h1,hq⟩⟩) λu s1 zq=>?_) ht
 obtain⟨x,H1,I1,rx,d,ak,F1,sd,c1,f1,h1,C,ns,xs,sp,ed,M,hm,hq⟩:=zq
 subst ed
 obtain⟨a,dx,ws,rfl,ea,hl,r0⟩:=GX sd
 obtain rfl:u=gT a:=rx
 obtain⟨f,fd,ps,zb,FO,hb⟩:=M.ex
 refine Fc I1 ea M.cls zb (Pw hm) ?_
 refine PySem.W.callWith_K0 (first:=[.ref a]) I1.dB zb.kp (yn (us:=[.ref a]) (vs:=[.ref a]) (fG:=[]) FO hr hb .nil da I1 (.cons rfl .nil) ?_)
 show aY sp [.ref a] H1 Q E0
 exact Bv (Qd:=λr=>Qd r ak) c1 (.obj ea hl r0 .nil) (by simpa[D.sh,D.pl]using hq) λd v F' H' hd hf hs c'=>k d ak v F' H' hd (f1.trans hf) (h1.trans hs) c'
end
structure bM(x:Addr)(H H':Hp):Prop where
 get:∀b o,b≠x->H b=some o->iH o=true->H' b=some o
 tb:∀b ps,H b=some (.dN ps)->∃more,H' b=some (.dN (ps++more))
theorem bM.trans{x:Addr}{H H1 H2:Hp}(a:bM x H H1)(b:bM x H1 H2):bM x H H2 :=
 ⟨λc o n h t=>b.get c o n (a.get c o n h t) t,λc ps h=>by
  obtain⟨m1,e1⟩:=a.tb c ps h
  obtain⟨m2,e2⟩:=b.tb c _ e1
  exact⟨m1++m2,by rw[e2,vK]⟩⟩
theorem ag.x{x:Addr}{H H':Hp}(h:ag H H'):bM x H H':=⟨λb o _ e n=>h.get b o e n,h.tb⟩
theorem bM.upd{x C dx:Addr}{H:Hp}{o o':HO}(h:H x=some o)(n:iH o=true):bM x H (upd H x o') :=
 ⟨λb o z e _=>by rw[aV z];exact e,λb ps e=>⟨#[],by rw[aV (λz=>by rw[z,h]at e;cases e;cases n),e];simp⟩⟩
noncomputable def GY(tl:List Addr)(C:Addr)(ka:List D->List Str->List D->Prop):Sp:=λvs H Q _=>∃x dx bW ds ns xs,vs=.ref x::bW/\Tb tl H/\H x=some (.ins C dx [])/\R H H ds bW []/\ka ds ns xs /\
 ∀H' ws A,bM x H H'->H' x=some (.ins C dx (ns.zip ws))->ns.length=ws.length->R (λ_=>none) H' xs ws A->A.Nodup->(∀a∈A,H a=none)->Q .av H'
noncomputable def sA(C:Addr)(ka:List D->List Str->List D->Prop)(ta:cO):aH:=λδ Q=>ta δ λds ai=>∃ns xs,ka (ds.map D.sh) ns xs/\Q (.obj C ns (xs.map D.sh)) ai
theorem aj.made{B:Bs}{F H H':Hp}{σ:L2.St}{δ:Dl}{ts:List (D × V)}{C dx x:Addr}{ns:List Str}{xs:List D}{ws:List V}{A:List Addr}(c:aj B F H σ δ ts)(hs:ag H H')(hx:H' x=some (.ins C dx (ns.zip ws)))(hl:ns.length=ws.length)
  (r:R (λ_=>none) H' xs ws A) (fr:∀a∈A,H a=none):ag F (L3.bu F H' A)/\aj B (L3.bu F H' A) H' σ δ ((.obj C ns (xs.map D.sh),.ref x)::ts):=by
 have c1:=c.grow hs
 have hF:∀a∈A,F a=none:=λa ha=>c.ext.free (fr a ha)
 have r1:R F H' xs ws A:=r.keep (ag.of λb o e=>by cases e) (gw.same (ag.refl _)) gZ.nil hF (by simp)
 have r2:=r1.bu c1.ext A (λ_ h=>h)
 have fs:ag F (L3.bu F H' A):=iJ c1.ext
 obtain⟨A',C',r',s',nd,ph⟩:=c.own
 have out:∀a,(∃ws,H a=some (.lst ws))/\F a=none->L3.bu F H' A a=none:=λa zz=>by
  obtain⟨⟨ws,h⟩,hf⟩:=zz
  rw[qJ (λz=>by rw[fr a z]at h;cases h)];exact hf
 have g1:=r'.grow fs hs λa ha=>out a (r'.lists a ha)
 have g2:=s'.keep fs (gw.same hs) gZ.nil (λa ha=>out a (s'.lists a ha)) (by simp)
 refine⟨fs,n8 c1.ext,c1.b1,c1.b2.trans fs,λa ws h=>?_,A',C',?_,g2,nd,ph⟩
 ·by_cases z:a∈A
  ·exact .inr (c.b1.free (fr a z))
  ·rw[qJ z]at h;exact c.b3 a ws h
 ·exact R.obj hx hl r2 g1
section
variable{X:Cx}{CX:e7}{n:Nat}{f C:Addr}{fd:FuncData}{ps:List Str}{ka:List D->List Str->List D->Prop}{E:XK}{x:Str}{p pos:Pos}{e:Expr}{es:List Expr}{t:cO}{tl:List Addr}
theorem Px(hT:Tb tl X.mx)(M:Mk X.K C f)(F:aJ X.prog X.w X.K X.mg X.base CX n f fd ps (GY tl C ka))(hr:cu (n+1) X.A)(hg:Gl X x)(hm:X.mg x=some (.ref C))(hb:Binds X.K fd ps [])(hx:k0 CX X E)
  (ha:PA X (e::es) (lA t)) (dW:(x==("__debug__":Str))=false:=by decide) (he:starEach (e::es) X.env=(false,eval e X.env)::starEach es X.env:=by rfl) (bT:(backTo pos (starEach es X.env)).any (·.1)=false:=by rfl) :
  PE X (.Call (.Name x p) (e::es) [] pos) (lE (sA C ka t)):=by
 intro pins s σ H Q I zz
 obtain⟨B,F',δ,ts,Qd,c,q,k⟩:=zz
 have tb:=GP I hT
 refine Nh M F hr hg hm hb .nil hx ha dW he bT pins s σ H Q I ⟨B,F',δ,ts,_,c,q,λds ak vs F1 H1 q1 f1 h1 c1 s1=>?_⟩
 intro x dx cR eC mH
 obtain⟨ns,xs,hI,hq⟩:=q1
 have sm:ag H1 (upd (upd H1 dx (.own x)) x (.ins C dx [])):=.of λb o e=>by rw[aV (dU e cR),aV (dU e eC)];exact e
 refine⟨x,dx,vs,ds.map D.sh,ns,xs,by rw[eH],za (za tb h1) sm,bA,(s1.frozen c1.ext).shared sm sm,hI,λH' ws A zc cU hl r nd fr=>⟨rfl,?_⟩⟩
 have s2:ag H1 H':=⟨λb o e n=>zc.get b o (dU e cR) (sm.get b o e n) n,λb ps e=>by
  obtain⟨m1,e1⟩:=sm.tb b ps e
  obtain⟨m2,e2⟩:=zc.tb b _ e1
  exact⟨m1++m2,by rw[e2,vK]⟩⟩
 obtain⟨fs,c2⟩:=c1.made s2 cU hl r λa ha=>sm.free (fr a ha)
 exact k _ ak _ _ H' hq (f1.trans fs) (h1.trans s2) c2
end
end L3
namespace Mf
open PySem L2 L3
noncomputable def gm(m:Bool × Nat)(a b:Nat):Nat:=if m.1 then md (cl a b) m.2 else a*b%m.2
noncomputable def aa(m:Bool × Nat):Nat:=if m.1 then 2 ^ (bl m.2-1)else m.2
noncomputable def BW(g:Nat->Nat->Nat)(a:Nat):Nat->Nat->List Int->Option (List Int)
 | 0,_,_=>none
 | f+1,p,acc=>if p=1 then some acc else if p<64 then BW g a f (g p a) (acc++[(p:Int)])else none
noncomputable def GZ(g:Nat->Nat->Nat)(a:Nat):Option (List Int):=BW g a 64 (g 1 a) [1]
noncomputable def BX(g:Nat->Nat->Nat)(many:Nat):Nat->Nat->List Int->Option (List Int)
 | 0,_,_=>none
 | f+1,st,l=>if l.length+1<many then(match GZ g (st+1)with | some l'=>BX g many f (st+1) l' | none=>none)else some l
noncomputable def zd(g:Nat->Nat->Nat)(many:Nat):Option (List Int):=match GZ g 1 with | some l=>BX g many 62 1 l | none=>none
noncomputable def ze(g:Nat->Nat->Nat):wO:=λi j Q=>∃a b:Nat,i=a/\j=b/\a<64/\b<64/\Q (g a b:Nat)
noncomputable def iq:List Nat:=[7,11,13,19,25,31,37,41,47,55,59,61,67,73,87,91,97,103,109,115,117]
noncomputable def pj:List Nat:=[2,3,5,7,11,13,17,19,23,29,31,37,41,43,47,53,59,61]
noncomputable def ay:List (Bool × Nat):=iq.map (λn=>(true,n))++pj.map λn=>(false,n)
noncomputable def pq(l:List Int):Nat->List Int
 | 0=>bg (l.length+1) 0
 | i+1=>(pq l i).set (l.getD i 0).toNat (i:Int)
noncomputable def eW(l:List Int):List Int:=pq l l.length
theorem zf(l:List Int):∀i,(pq l i).length=l.length+1
 | 0=>by simp[pq]
 | i+1=>by simp[pq,zf l i]
noncomputable def sC(l g:List Int)(a:Nat):List Int:=if a=0 then bg (l.length+1) 0 else 0::(aF l.length).map λ(b:Nat)=>l.getD ((g.getD a 0+g.getD (b+1) 0)%(l.length:Int)).toNat 0
noncomputable def wR(l g:List Int)(n:Nat):List D:=(aF n).map λa=>D.lst true (aI (sC l g a))
noncomputable def sD(l g:List Int):List D:=wR l g (l.length+1)
end Mf
namespace L3
open PySem L2 Mf
noncomputable def LI(H:Hp)(p:Addr)(ns:List Int):Prop:=H p=some (.lst (ns.map V.int))
theorem LI.same{H H':Hp}{p:Addr}{ns:List Int}(h:LI H p ns)(s:ag H H'):LI H' p ns:=s.get _ _ h
theorem LI.upd{H:Hp}{p x:Addr}{ns:List Int}{o o':HO}(h:LI H p ns)(hx:H x=some o)(n:∀ws,o≠.lst ws):LI (upd H x o') p ns:=by
 unfold LI
 rw[aV (λz=>by rw[z]at h;unfold LI at h;rw[hx]at h;cases h;exact n _ rfl)];exact h
theorem Py{F' H' H:Hp}{v:V}{A:List Addr}{ns:List Int}(r:R F' H' [.lst true (aI ns)] [v] A)(fr:∀a∈A,H a=none):∃p,v=.ref p/\LI H' p ns/\H p=none:=by
 cases r with
 | @own p ws xs A1 _ _ B1 hp hf r1 r2 =>
  have:=OU r1.s
  subst this
  exact⟨p,rfl,hp,fr p (by simp)⟩
structure cV9(K:PySem.W.Frag)(C f:Addr):Prop where
 cls:dk K C
 many:br K C "many"
 wide:br K C "wide"
 G0:br K C "powers"
 cW0:br K C "logs"
 step:br K C "step"
 sp:Meth K C "step_power" f
structure Pz(g:Nat->Nat->Nat)(many:Nat)(l:List Int)(st:Int):Prop where
 lo:2<=many
 hi:many<=64
 step:zd g many=some l
 len:l.length+1=many
 ins:∀x∈l,0<=x/\x.toNat<=l.length
 st:l[((1:Int)%((many:Int)-1)).toNat]?=some st
noncomputable def iT(b:Str):List Str:=[b,"many","wide","powers","logs","step"]
noncomputable def BY(n0:Int)(many:Nat)(p1 p2:Addr)(st:Int):List V:=[.int n0,.int many,.int ((bl many:Nat)-1),.ref p1,.ref p2,.int st]
theorem wU{f:Str}{v:V}:∀{fs:List (Str × V)},(∀p∈fs,p.1≠f)->bC f v fs=fs++[(f,v)]
 | [],_=>rfl
 | (g,x)::r,h=>by
  unfold bC
  rw[if_neg (h (g,x) (by simp)),wU λp hp=>h p (by simp[hp])];rfl
theorem kE.vb{H:Hp}{x C dx f c k:Addr}{fs:List (Str × V)}{o':HO}{of oc:Obj}(h:kE H f of oc c k)(hx:H x=some (.ins C dx fs)):kE (L2.upd H x o') f of oc c k:=by
 obtain⟨ψ,e,y6⟩:=h.FU
 exact⟨by rw[aV (λz=>by rw[<-z,h.fn]at hx;cases hx)];exact h.fn,by rw[aV (λz=>by rw[<-z,h.cell]at hx;cases hx)];exact h.cell,ψ,by rw[aV (λz=>by rw[<-z,e]at hx;cases hx)];exact e,y6⟩
theorem zh{H:Hp}{x p:Addr}{o o':HO}(hx:H x=some o)(h:L2.upd H x o' p=none):H p=none:=by
 by_cases z:p=x
 ·subst z;rw[bA]at h;cases h
 ·rw[aV z]at h;exact h
theorem BZ{α:Type}{b f:Str}{v:α}{r:List (Str × α)}(h:b≠f):((b,v)::r).lookup f=r.lookup f:=by
 rw[gq,beq_eq_false_iff_ne.mpr (gW h)]
section
variable{H2 H3 H':Hp}{x f c p:Addr}{o1 o2:HO}
theorem zi{b:Addr}{o:HO}(e:H3 b=some o)(nb:b≠f)(nc:H3 c=none):L2.upd (L2.upd H3 f o1) c o2 b=some o:=by
 rw[aV (dU e nc),aV nb];exact e
theorem PB(hs:ag H2 H3)(nf:H2 f=none)(nc:H3 c=none)(s:bM x (L2.upd (L2.upd H3 f o1) c o2) H'):bM x H2 (rem H' f c) where
 get b o n e t:=by
  have z1:=dU e nf
  have e3:=hs.get b o e t
  rw[iS z1 (dU e3 nc)]
  exact s.get b o n (zi e3 z1 nc) t
 tb b ps e:=by
  have z1:=dU e nf
  obtain⟨m,e3⟩:=hs.tb b ps e
  obtain⟨m2,e4⟩:=s.tb b _ (zi e3 z1 nc)
  exact⟨m++m2,by rw[iS z1 (dU e3 nc),e4,vK]⟩
theorem B0(hs:ag H2 H3)(h:L2.upd (L2.upd H3 f o1) c o2 p=none):H2 p=none:=by
 refine hs.free ?_
 by_cases z:p=c
 ·subst z;rw[bA]at h;cases h
 ·rw[aV z]at h
  by_cases z2:p=f
  ·subst z2;rw[bA]at h;cases h
  ·rw[aV z2]at h;exact h
theorem LI.rem{l:List Int}{φ:Heap->Prop}{y:Addr}(h:LI H' p l)(hf:H' f=some (.ext φ))(hc:H' c=some (.own y)):LI (rem H' f c) p l:=by
 unfold LI at h ⊢
 rw[iS (λz=>by rw[z,hf]at h;cases h) (λz=>by rw[z,hc]at h;cases h)];exact h
theorem PC{of oc:Obj}{k:Addr}(mH:c≠f)(nc:H3 c=none)(hk:FT H3 k)(kf:k≠f):kE (L2.upd (L2.upd H3 f (.ext (j7 of oc c f))) c (.own f)) f of oc c k:=by
 obtain⟨ψ,e,y6⟩:=hk
 exact⟨by rw[aV mH.symm,bA],bA,ψ,zi e kf nc,y6⟩
end
noncomputable def fl(m:Bool × Nat):List Int:=(zd (gm m) (aa m)).getD []
noncomputable def fst(m:Bool × Nat):Int:=(fl m).getD ((1:Int)%((aa m:Int)-1)).toNat 0
noncomputable def PD(m:Bool × Nat):Bool:=decide (2<=aa m)&&decide (aa m<=64)&&(zd (gm m) (aa m)).isSome&&decide ((fl m).length+1=aa m)&&(fl m).all (λx=>decide (0<=x)&&decide (x.toNat<=(fl m).length))&&decide (((1:Int)%((aa m:Int)-1)).toNat<(fl m).length)
theorem cn8:ay.all PD=true:=by decide +kernel
theorem cI{m:Bool × Nat}(h:m∈ay):Pz (gm m) (aa m) (fl m) (fst m):=by
 have h:=dG.mp cn8 m h
 simp only[PD,eZ,decide_eq_true_eq,dG]at h
 obtain⟨⟨⟨⟨⟨h1,h2⟩,h3⟩,h4⟩,h5⟩,h6⟩:=h
 obtain⟨l,e⟩:=WM.mp h3
 have el:fl m=l:=by unfold fl;rw[e];rfl
 refine⟨h1,h2,by rw[e,el],h4,λx hx=>h5 x hx,?_⟩
 unfold fst
 rw[aM,aO h6];rfl
theorem b80:∀p∈pj,(decide (2<=(p:Int))&&decide ((p:Int)<=61)&&(aF ((p:Int).toNat-2)).all λi=>(p:Int)%(2+(i:Int)) != 0)=true:=by decide +kernel
theorem ci7:∀p∈iq,(decide (4<=(p:Int))&&decide ((p:Int)<=127)&&al (p:Int).toNat)=true:=by decide +kernel
theorem R.vb{F H:Hp}{x C dx:Addr}{fs:List (Str × V)}{o':HO}{ds:List D}{vs:List V}{A:List Addr}(r:R F H ds vs A)(hx:H x=some (.ins C dx fs))(hd:ds.all D.fr=true):R F (L2.upd H x o') ds vs A:=by
 have up:∀{a o},H a=some o->(∀C dx fs,o≠.ins C dx fs)->L2.upd H x o' a=some o:=λ{a o} e n=>by
  rw[aV (λz=>by rw[z,hx]at e;cases e;exact n _ _ _ rfl)];exact e
 induction r with
 | nil=>exact .nil
 | av _ ih=>exact .av (ih (by simpa[D.fr]using hd))
 | bl _ ih=>exact .bl (ih (by simpa[D.fr]using hd))
 | int _ ih=>exact .int (ih (by simpa[D.fr]using hd))
 | str _ ih=>exact .str (ih (by simpa[D.fr]using hd))
 | shr h x _ i1 ih=>simp[fg]at hd
 | own h f _ _ i1 i2 =>
  rw[cL,fg,eZ,kS]at hd
  exact .own (up h λ_ _ _ z=>by cases z) f (i1 hd.1) (i2 hd.2)
 | tup h _ _ i1 i2 =>
  rw[cL,n6,eZ]at hd
  exact .tup (up h λ_ _ _ z=>by cases z) (i1 hd.1) (i2 hd.2)
 | obj h l x _ i1 ih=>simp[D.fr]at hd
 | fz h x _ i1 ih=>simp[D.fr]at hd
 | @bJ p z _ _ _ h r ih =>
  refine .bJ ?_ (ih (by simpa[D.fr]using hd))
  cases z with
  | ext φ=>exact up h λ_ _ _ z=>by cases z
  | lam of oc c k=>exact kE.vb h hx
theorem PF(l g:List Int):(sD l g).all D.fr=true:=by
 unfold sD wR
 rw[qu,dG]
 intro a _
 show(D.lst true (aI _)).fr=true
 rw[fg,oR];rfl
theorem bM.free{x a:Addr}{H H':Hp}(s:bM x H H')(hx:H' x≠none)(h:H' a=none):H a=none:=by
 cases q:H a with
 | none=>rfl
 | some o =>
  by_cases z:a=x
  ·subst z;exact absurd h hx
  ·cases n:iH o with
   | true=>rw[s.get a o z q n]at h;cases h
   | false =>
    obtain⟨ps,rfl⟩:=yA n
    obtain⟨m,e⟩:=s.tb a ps q
    rw[e]at h;cases h
theorem PH(l:List Int):∀i,∀x∈pq l i,0<=x
 | 0=>λx hx=>by rw[(vR.mp hx).2];exact Int.le_refl _
 | i+1=>λx hx=>by
  unfold pq at hx
  rcases Es hx with h | h
  ·exact PH l i x h
  ·rw[h];exact Md _
theorem PJ:∀p∈iq,bl p<=7:=by decide +kernel
theorem PK:∀p∈iq,1<=bl p:=by decide +kernel
theorem b38(a b:Nat):bl (cl a b)<=bl a+bl b:=by
 by_cases ha:a=0
 ·subst ha;rw[qG];exact iC _
 ·by_cases hb:b=0
  ·subst hb
   have:cl a 0=0:=rfl
   rw[this];exact iC _
  ·rw[NY ha hb];omega
noncomputable def wV(l g:List Int):List D:=(aF (l.length+1)).map λa=>D.lst false (aI (sC l g a))
theorem b67(l g:List Int):(D.lst true (sD l g)).sh=.lst false (wV l g):=by
 rw[cV]
 unfold sD wR wV
 rw[bP]
 congr 1
 apply qw
 intro a _
 show D.sh (.lst true (aI _))=_
 rw[cV,jQ]
noncomputable abbrev pD(m:Bool × Nat):List D:=[.int m.2,.int (aa m),.int ((bl (aa m):Nat)-1),.lst false (aI (fl m)),.lst false (aI (eW (fl m))),.int (fst m)]
noncomputable def wW(C:Addr)(p:Nat):D:=.obj C (iT "prime") (pD (false,p))
noncomputable def zj(C:Addr)(p:Nat):D:=.obj C (iT "bits"++[("products":Str)]) (pD (true,p)++[.lst false (wV (fl (true,p)) (eW (fl (true,p))))])
noncomputable def fD(cb cp:Addr)(m:Bool × Nat):D:=if m.1 then zj cb m.2 else wW cp m.2
end L3
namespace L3
open PySem L2 Mf
theorem zk{u p:Nat}(h:bl u<bl p):md u p=u:=yx (q:=0) (by rw[qG,qo]) h
theorem b09{u v n:Nat}(hu:bl u<n)(hv:bl v<n):bl (u ^^^ v)<n:=by
 have h1:u<2 ^ (n-1):=fc.mp (by omega)
 have h2:v<2 ^ (n-1):=fc.mp (by omega)
 have:=fc.mpr (wm h1 h2)
 omega
theorem B4{p:Nat}(hp:p≠0)(u v:Nat):md (u ^^^ v) p=md u p ^^^ md v p:=by
 obtain⟨⟨q1,e1⟩,l1⟩:=yw hp u
 obtain⟨⟨q2,e2⟩,l2⟩:=yw hp v
 refine yx (q:=q1 ^^^ q2) ?_ (b09 l1 l2)
 rw[qF,<- NO,<- e1,<- e2]
theorem PL{p:Nat}(hp:p≠0)(w:Nat):md (cl p w) p=0:=by rw[yv];exact Z4 w hp
theorem b8:∀m∈ay,0<m.2:=by decide +kernel
theorem gO(m:Bool × Nat)(a b:Nat):gm m a b=gm m b a:=by
 unfold gm
 split
 ·rw[yv]
 ·rw[nD]
theorem PM{n:Nat}(hn:n≠0)(u c:Nat):md (cl (md u n) c) n=md (cl u c) n:=by
 obtain⟨⟨q,e⟩,_⟩:=yw hn u
 have h:cl u c=cl n (cl q c) ^^^ cl (md u n) c:=by
  conv=>lhs;rw[e]
  rw[qF,yv n q,N3]
 rw[h,B4 hn,PL hn,qo]
theorem ir{m:Bool × Nat}(h:0<m.2)(a b c:Nat):gm m (gm m a b) c=gm m a (gm m b c):=by
 unfold gm
 split
 ·rw[PM (by omega),yv (md (cl b c) m.2) a,PM (by omega),N3 a b c,yv (cl b c) a]
 ·rw[xQ,Mu,<- xQ,xQ a (b*c%m.2),Mu,<- xQ,vP]
theorem PN{m:Bool × Nat}(h:m.1=true){a:Nat}:a<aa m↔bl a<=bl m.2-1:=by
 unfold aa
 rw[if_pos h];exact fc.symm
theorem pz{m:Bool × Nat}{a:Nat}(ha:a<aa m):gm m 1 a=a:=by
 obtain⟨k,n⟩:=m
 cases k with
 | true =>
  show md (cl 1 a) n=a
  rw[FD]
  have h1:=(PN (m:=(true,n)) rfl).mp ha
  have h1:bl a<=bl n-1:=h1
  by_cases z:bl n=0
  ·have a0:a=0:=by
    have:=fc (n:=a) (m:=0)
    have:=this.mp (by omega)
    omega
   subst a0
   have n0:n=0:=by
    have:=(fc (n:=n) (m:=0)).mp (by omega)
    omega
   subst n0
   decide
  ·exact zk (by omega)
 | false=>show 1*a%n=a;rw[Nat.one_mul];exact AM ha
theorem pB{m:Bool × Nat}{a:Nat}(ha:a<aa m):gm m a 1=a:=by rw[gO];exact pz ha
noncomputable def lg(m:Bool × Nat)(a:Nat):Int:=(eW (fl m)).getD a 0
noncomputable def pw(m:Bool × Nat)(k:Nat):Int:=(fl m).getD k 0
noncomputable def G1(m:Bool × Nat):Bool:=((aF (aa m-1)).all λk=>decide (1<=pw m k)&&decide (pw m k<aa m)&&decide (lg m (pw m k).toNat=k))&&((aF (aa m-1)).all λa=>decide (0<=lg m (a+1))&&decide (lg m (a+1)<(aa m:Int)-1)&&decide (pw m (lg m (a+1)).toNat=((a+1:Nat):Int)))
theorem PQ:ay.all G1=true:=by decide +kernel
theorem B5{m:Bool × Nat}(hm:m∈ay){k:Nat}(hk:k<aa m-1):1<=pw m k/\pw m k<aa m/\lg m (pw m k).toNat=k:=by
 have h:=dG.mp PQ m hm
 simp only[G1,eZ,dG,decide_eq_true_eq,cA]at h
 have:=h.1 k hk
 exact⟨this.1.1,this.1.2,this.2⟩
theorem B6{m:Bool × Nat}(hm:m∈ay){a:Nat}(h1:1<=a)(h2:a<aa m):0<=lg m a/\lg m a<(aa m:Int)-1/\pw m (lg m a).toNat=a:=by
 have h:=dG.mp PQ m hm
 simp only[G1,eZ,dG,decide_eq_true_eq,cA]at h
 have:=h.2 (a-1) (by omega)
 rw[show a-1+1=a by omega]at this
 exact⟨this.1.1,this.1.2,this.2⟩
theorem fi(m:Bool × Nat)(b:Nat)(h:0<m.2):gm m 0 b=0:=by
 unfold gm
 split
 ·rw[qG];exact zk (by rw[nZ];exact iG (by omega))
 ·rw[Nat.zero_mul,Nat.zero_mod]
theorem iu(m:Bool × Nat)(b:Nat)(h:0<m.2):gm m b 0=0:=by rw[gO];exact fi m b h
noncomputable def stC(m:Bool × Nat):Bool:=decide (pw m 0=1)&&(aF (aa m-1)).all λk=>decide (gm m (pw m k).toNat (pw m (1%(aa m-1))).toNat=(pw m ((k+1)%(aa m-1))).toNat)
theorem PR:ay.all stC=true:=by decide +kernel
theorem PU(m:Bool × Nat)(hm:m∈ay):pw m 0=1:=by
 have h:=dG.mp PR m hm
 simp only[stC,eZ,decide_eq_true_eq]at h
 exact h.1
noncomputable def pN(m:Bool × Nat)(k:Nat):Nat:=(pw m (k%(aa m-1))).toNat
theorem cC9{m:Bool × Nat}(hm:m∈ay)(k:Nat):pN m k<aa m:=by
 have dH:=(cI hm).lo
 have:=B5 hm (xR k (show 0<aa m-1 by omega))
 unfold pN
 omega
theorem PV{m:Bool × Nat}(hm:m∈ay)(k:Nat):gm m (pN m k) (pN m 1)=pN m (k+1):=by
 have dH:=(cI hm).lo
 have h:=dG.mp PR m hm
 simp only[stC,eZ,decide_eq_true_eq,dG,cA]at h
 have h2:=h.2 (k%(aa m-1)) (xR k (by omega))
 rw[Et]at h2
 exact h2
theorem PX{m:Bool × Nat}(hm:m∈ay)(i:Nat):∀j,gm m (pN m i) (pN m j)=pN m (i+j)
 | 0=>by
  have e:pN m 0=1:=by unfold pN;rw[Nat.zero_mod,PU m hm];rfl
  rw[e,pB (cC9 hm i)];rfl
 | j+1=>by rw[<-PV hm j,<- ir (b8 m hm),PX hm i j,PV hm];rfl
theorem G2{m:Bool × Nat}(hm:m∈ay){a b:Nat}(a1:1<=a)(a2:a<aa m)(b1:1<=b)(b2:b<aa m):((gm m a b:Nat):Int)=pw m ((lg m a+lg m b)%((aa m:Int)-1)).toNat:=by
 have dH:=(cI hm).lo
 obtain⟨g0,g1,g2⟩:=B6 hm a1 a2
 obtain⟨f0,f1,f2⟩:=B6 hm b1 b2
 have ea:pN m (lg m a).toNat=a:=by unfold pN;rw[AM (by omega),g2];rfl
 have eb:pN m (lg m b).toNat=b:=by unfold pN;rw[AM (by omega),f2];rfl
 have e:=PX hm (lg m a).toNat (lg m b).toNat
 rw[ea,eb]at e
 rw[e]
 have ei:((lg m a+lg m b)%((aa m:Int)-1)).toNat=((lg m a).toNat+(lg m b).toNat)%(aa m-1):=by
  have:(((lg m a).toNat+(lg m b).toNat)%(aa m-1):Nat)=((lg m a+lg m b)%((aa m:Int)-1)):=by
   rw[tF,Eu,AN g0,AN f0,Int.natCast_sub (by omega)];rfl
  omega
 rw[ei]
 have:=B5 hm (xR ((lg m a).toNat+(lg m b).toNat) (show 0<aa m-1 by omega))
 unfold pN
 omega
theorem co9{p a:Nat}(hp:p∈iq)(ha:a<aa (true,p)):sC (fl (true,p)) (eW (fl (true,p))) a=(aF (aa (true,p))).map λb=>((gm (true,p) a b:Nat):Int):=by
 have hm:(true,p)∈ay:=dZ _ (AO hp)
 have h0:=b8 _ hm
 have hF:=cI hm
 have hlen:=hF.len
 unfold sC
 split
 ·rename_i h
  subst h
  rw[hlen]
  refine Mv (by simp) λi h1 h2=>?_
  simp[fi _ _ h0]
 ·rename_i h
  rw[<-hlen,WW,cK,bP,iu _ _ h0]
  congr 1
  apply qw
  intro b hb
  have hb:=cA.mp hb
  show(fl (true,p)).getD (((eW (fl (true,p))).getD a 0+(eW (fl (true,p))).getD (b+1) 0)%((fl (true,p)).length:Int)).toNat 0=((gm (true,p) a (b+1):Nat):Int)
  rw[G2 hm (by omega) ha (by omega) (by omega),show(((fl (true,p)).length:Nat):Int)=(aa (true,p):Int)-1 by omega]
  rfl
theorem G3{p a b:Nat}(hp:p∈iq)(ha:a<aa (true,p))(hb:b<aa (true,p)):eN (aI (sC (fl (true,p)) (eW (fl (true,p))) a)) (b:Int)=some (.int (gm (true,p) a b:Nat)):=by
 refine qE (by omega) ?_
 rw[co9 hp ha]
 unfold aI
 rw[iE,bO,bO,hW hb];rfl
theorem G4{p a:Nat}(hp:p∈iq)(ha:a<aa (true,p)):eN (wV (fl (true,p)) (eW (fl (true,p)))) (a:Int)=some (.lst false (aI (sC (fl (true,p)) (eW (fl (true,p))) a))):=by
 have hF:=cI (m:=(true,p)) (dZ _ (AO hp))
 refine qE (by omega) ?_
 unfold wV
 rw[iE,bO,hW (by rw[hF.len];exact ha)];rfl
end L3
namespace L3
open PySem L2 Mf
theorem cx0(C:Addr)(p:Nat):D.obj C (iT "bits"++[("products":Str)]) (Eo D.sh [.int p,.int (aa (true,p)),.int ((bl (aa (true,p)):Nat)-1),.lst true (aI (fl (true,p))),.lst true (aI (eW (fl (true,p)))),.int (fst (true,p)),.lst true (sD (fl (true,p)) (eW (fl (true,p))))])=zj C p:=by
 simp only[cK,i6]
 rw[b67]
 simp only[cV,lU,jQ];rfl
theorem b49(C:Addr)(p:Nat):D.obj C (iT "prime") (Eo D.sh [.int p,.int p,.int ((bl p:Nat)-1),.lst true (aI (fl (false,p))),.lst true (aI (eW (fl (false,p)))),.int (fst (false,p))])=wW C p:=by
 simp only[cK,i6,cV,lU,jQ];rfl
theorem zo{n:Nat}(h:(true,n)∈ay):n∈iq:=by
 rcases cg.mp h with h | h
 ·obtain⟨x,hx,e⟩:=bE.mp h
  cases e;exact hx
 ·obtain⟨x,hx,e⟩:=bE.mp h
  cases e
theorem bE2{n:Nat}(h:(false,n)∈ay):n∈pj:=by
 rcases cg.mp h with h | h
 ·obtain⟨x,hx,e⟩:=bE.mp h
  cases e
 ·obtain⟨x,hx,e⟩:=bE.mp h
  cases e;exact hx
open Classical in
theorem PY{α:Type}{sh:Bool}{xs:List D}{aw:List (Str × Nat)}{n:Nat}{g0:iK}{te:aH}{ak:Dl}{Q:D->Dl->Prop}(l:List α)(e g:α->D)(jT:xs.map D.sh=l.map e)(inj:∀a b,e a=e b->a=b)
  (hx:∀a∈l,g0 (e a) (eR aw n ak) λbh=>te bh λd _=>d=g a) (hg:∀d δ (P P':Dl->Prop),(∀ai,P ai->P' ai)->g0 d δ P->g0 d δ P') (fJ:(sh&&aw.all (iN ak))=true\/∀a∈l,(g a).fr=true) (hl:l.length<=sizeLine) (hq:Q (.lst true (l.map g)) ak):wF sh xs aw n g0 kG te ak Q:=by
 let f:D->D:=λx=>if h:∃a∈l,e a=x then g h.choose else .av
 have hf:∀a∈l,f (e a)=g a:=λa ha=>by
  have h:∃b∈l,e b=e a:=⟨a,ha,rfl⟩
  show(if h:∃b∈l,e b=e a then g h.choose else .av)=g a
  rw[dif_pos h]
  exact congrArg g (inj _ _ h.choose_spec.2)
 refine⟨λ_=>true,f,λx h=>?_,fJ.imp id λh x hx _=>?_,?_,?_⟩
 ·rw[jT]at h
  obtain⟨a,ha,rfl⟩:=bE.mp h
  rw[hf a ha]
  exact hg _ _ _ _ (λai h=>⟨rfl,λ_=>h⟩) (hx a ha)
 ·rw[jT]at hx
  obtain⟨a,ha,rfl⟩:=bE.mp hx
  rw[hf a ha];exact h a ha
 ·have:=congrArg AE jT
  simp at this
  omega
 ·rw[jT,WV.mpr (λ_ _=>rfl),bP,show l.map (f ∘ e)=l.map g from qw λa ha=>hf a ha]
  exact hq
theorem PZ{i1 i2:Nat}(d:D)(δ:Dl)(P P':Dl->Prop)(h:∀ai,P ai->P' ai)(q:ik i1 i2 d δ P):ik i1 i2 d δ P':=by
 unfold ik at q ⊢
 split at q
 ·exact h _ q
 ·exact q
theorem bP7(xs ys:List Int):(fh (aI xs) (aI ys)).map D.sh=(xs.zip ys).map λz=>D.tup [.int z.1,.int z.2]:=by
 rw[OX,jQ,jQ]
 unfold fh aI
 rw[Er,List.zip,Ep]
theorem ck4{p x y:Nat}(hp:p≠0)(hx:bl x<bl p):md (cl x y) p=(if y%2=1 then x else 0) ^^^ md (cl (if bl (2*x)=bl p then 2*x ^^^ p else 2*x) (y/2)) p:=by
 have e0:md (if y%2=1 then x else 0) p=(if y%2=1 then x else 0):=by
  split
  ·exact zk hx
  ·exact zk (by rw[nZ];exact iG hp)
 rw[NV,B4 hp,e0]
 congr 1
 split
 ·rw[qF,B4 hp,PL hp,mj]
 ·rfl
theorem co6{p x:Nat}(hp:p≠0)(hx:bl x<bl p):bl (if bl (2*x)=bl p then 2*x ^^^ p else 2*x)<bl p:=by
 have h2:=Z6 x
 have h0:=iG hp
 split
 ·rename_i h
  have n0:2*x≠0:=λz=>by rw[z,nZ]at h;omega
  have a1:=jI (2*x)
  have a2:=jI p
  have b1:=wj n0
  have b2:=wj hp
  rw[h]at a1 b1
  obtain⟨k,hk⟩:∃k,bl p=k+1:=⟨bl p-1,by omega⟩
  rw[hk]at a1 a2 b1 b2 ⊢
  have:=fc.mpr (NM a1 a2 b1 b2)
  omega
 ·omega
end L3
namespace L3
open PySem L2 PySem.Spec PyProof.Rows
section
variable{X:Cx}{e o:Expr}{es:List Expr}{f m x:Str}{pos p apos:Pos}{to:aH}{ta:cO}{n:Nat}
end
section
variable{X:Cx}{tb th:dd}{body cR0:List Stmt}{cR1:Stmt}{K:Str}{Kc:Addr}{kp cR2 pos:Pos}
end
end L3
namespace L3
open PySem L2 Mf
theorem P0{m:Bool × Nat}(hm:m∈ay){a b:Nat}(a1:1<=a)(a2:a<aa m)(b1:1<=b)(b2:b<aa m):∃r:Nat,pw m ((lg m a-lg m b)%((aa m:Int)-1)).toNat=r/\r<aa m/\gm m r b=a:=by
 have hF:=cI hm
 have dH:=hF.lo
 have n0:=jv (lg m a-lg m b) (show(aa m:Int)-1≠0 by omega)
 have n1:=jw (lg m a-lg m b) (show(0:Int)<(aa m:Int)-1 by omega)
 obtain⟨p1,p2,p3⟩:=B5 hm (k:=((lg m a-lg m b)%((aa m:Int)-1)).toNat) (by omega)
 obtain⟨g0,g1,g2⟩:=B6 hm a1 a2
 refine⟨(pw m ((lg m a-lg m b)%((aa m:Int)-1)).toNat).toNat,by omega,by omega,?_⟩
 have e:=G2 hm (a:=(pw m ((lg m a-lg m b)%((aa m:Int)-1)).toNat).toNat) (by omega) (by omega) b1 b2
 rw[p3,AN n0,Int.emod_add_emod,Int.sub_add_cancel,Ew g0 g1,g2]at e
 omega
end L3
namespace L3
open PySem L2 PySem.Spec PyProof.Rows
section
variable{X:Cx}{e o a:Expr}{es:List Expr}{f m y:Str}{pos p apos q:Pos}{t to ta':aH}{ta:cO}{n:Nat}{P:Program}{w:World}{K:PySem.W.Frag}{mg:Str->Option Value}{base:Heap}
theorem fL(he:PE X e (lB t))(hK:K=X.K:=by rfl)(hb:attributeBase e f X.env (eval e X.env)=eval e X.env:=by rfl):PE X (.Attribute e f pos) (lB (oZ K t f)):=by
 subst hK;exact cG1 he hb
theorem lX{pl:Sem Bool}(ho:PE X o (lB to))(hr:cu n X.A)(ha:PA X (e::es) (lA ta))(hP:P=X.prog:=by rfl)(hw:w=X.w:=by rfl)(hK:K=X.K:=by rfl)(hm:mg=X.mg:=by rfl)(hb:base=X.base:=by rfl)
  (ia:starEach (e::es) X.env=(false,eval e X.env)::starEach es X.env:=by rfl) (bT:(backTo pos (starEach es X.env)).any (·.1)=false:=by rfl)
  (ht:eval (.Call (.Attribute o m apos) (e::es) [] pos) X.env=(do
   let ov<-eval o X.env
   standAt apos.atName
   let (f,first)<-holding [ov] (getMethod ov m pl)
   callWith pos f first (backTo pos (starEach (e::es) X.env)) (backToKw pos (keywordEach [] X.env))):=by rfl) :
  PE X (.Call (.Attribute o m apos) (e::es) [] pos) (lE (pd (jV P w K mg base n m) m to ta)):=by
 subst hP hw hK hm hb;exact cy5 ho hr ha ia bT ht
theorem zr{pl:Sem Bool}(ho:PE X o (lB to))(hr:cu n X.A)(hP:P=X.prog:=by rfl)(hw:w=X.w:=by rfl)(hK:K=X.K:=by rfl)(hm:mg=X.mg:=by rfl)(hb:base=X.base:=by rfl)
  (ht:eval (.Call (.Attribute o m apos) [] [] pos) X.env=(do
   let ov<-eval o X.env
   standAt apos.atName
   let (f,first)<-holding [ov] (getMethod ov m pl)
   callWith pos f first (backTo pos (starEach [] X.env)) (backToKw pos (keywordEach [] X.env))):=by rfl) :
  PE X (.Call (.Attribute o m apos) [] [] pos) (lE (pf (jV P w K mg base n m) m to)):=by
 subst hP hw hK hm hb;exact cm1 ho hr ht
end
theorem zt:∀m∈Mf.ay,1<=Mf.bl m.2/\Mf.bl m.2<=7:=by decide +kernel
end L3
namespace L3
open PySem L2 Mf
noncomputable def gp(m:Bool × Nat)(a b:Nat):Nat:=if m.1 then a ^^^ b else(a+b)%m.2
noncomputable def gl(m:Bool × Nat)(a b:Nat):Int:=if m.1 then(a ^^^ b:Nat)else((a:Int)-b)%m.2
noncomputable def gd(m:Bool × Nat)(xs ys:List Nat):Nat:=(eI (gm m) xs ys).foldl (gp m) 0
noncomputable def sE(c:Int):Bool × Nat:=if c%2=0 then(true,iq.getD (c/2%21).toNat 0)else(false,pj.getD (c/2%18).toNat 0)
theorem b26(c:Int):sE c∈ay:=by
 unfold sE
 split
 ·refine dZ _ (bE.mpr ⟨_,?_,rfl⟩)
  have h:(c/2%21).toNat<iq.length:=by
   have:=jw (c/2) (show(0:Int)<21 by decide)
   show _<21
   omega
  rw[aM,aO h]
  exact cT _
 ·refine cY _ (bE.mpr ⟨_,?_,rfl⟩)
  have h:(c/2%18).toNat<pj.length:=by
   have:=jw (c/2) (show(0:Int)<18 by decide)
   show _<18
   omega
  rw[aM,aO h]
  exact cT _
noncomputable def cB(m:Bool × Nat):D:=.tup [.bl m.1,.int m.2]
theorem wX(cb cp:Addr)(m:Bool × Nat):fD cb cp m=.obj (if m.1 then cb else cp) (if m.1 then iT "bits"++[("products":Str)]else iT "prime") (if m.1 then pD (true,m.2)++[.lst false (wV (fl (true,m.2)) (eW (fl (true,m.2))))]else pD (false,m.2)):=by
 obtain⟨k,n⟩:=m
 cases k<;>rfl
theorem P1(m:Bool × Nat)(x:Str)(h:x ∉ (["bits","prime","many","wide","powers","logs","step","products"]:List Str)):x ∉ (if m.1 then iT "bits"++[("products":Str)]else iT "prime"):=by
 obtain⟨k,n⟩:=m
 intro z
 apply h
 cases k
 ·have z:x∈iT "prime":=z
  simp[iT]at z
  simp only[cj]
  rcases z with z | z | z | z | z | z<;>simp[z]
 ·have z:x∈iT "bits"++[("products":Str)]:=z
  simp[iT]at z
  simp only[cj]
  rcases z with z | z | z | z | z | z | z<;>simp[z]
theorem G5(cb cp:Addr)(m:Bool × Nat):(fD cb cp m).sh=fD cb cp m:=by rw[wX];rfl
theorem cD3(cb cp:Addr)(m:Bool × Nat):(fD cb cp m).pl=true:=by rw[wX];rfl
theorem cj5(m:Bool × Nat):(cB m).sh=cB m:=rfl
theorem cj8(m:Bool × Nat):(cB m).pl=true:=rfl
noncomputable def P2(P:Program)(w:World)(K:PySem.W.Frag)(mg:Str->Option Value)(base:Heap)(n:Nat)(cb cp:Addr)(m:Bool × Nat)(x:Str)(ds:List D)(Q:D->Prop):Prop:=∃C ns xs sp,fD cb cp m=.obj C ns xs/\jV P w K mg base n x C sp/\x ∉ ns/\sp (.obj C ns xs::ds) Q
theorem m4(m:Bool × Nat)(a b:Nat):gp m a b=gp m b a:=by
 unfold gp
 split
 ·rw[Mi]
 ·rw[xJ]
theorem B7(m:Bool × Nat)(a b c:Nat):gp m (gp m a b) c=gp m a (gp m b c):=by
 unfold gp
 split
 ·rw[tw]
 ·rw[Et,Nat.add_mod_mod,Ek]
theorem B8{m:Bool × Nat}(h:0<m.2)(a b c:Nat):gm m (gp m a b) c=gp m (gm m a c) (gm m b c):=by
 unfold gm gp
 split
 ·rw[qF,B4 (by omega)]
 ·rw[xQ,Mu,<- xQ,Nat.add_mul,Et,Nat.add_mod_mod]
theorem zu{m:Bool × Nat}(h:0<m.2)(a b c:Nat):gm m c (gp m a b)=gp m (gm m c a) (gm m c b):=by rw[gO,B8 h,gO m a,gO m b]
theorem b39:∀m∈ay,m.1=true->2<=bl m.2:=by decide +kernel
theorem P4{m:Bool × Nat}(hm:m∈ay){a b:Nat}(ha:a<aa m)(hb:b<aa m):gp m a b<aa m:=by
 have h0:=b8 m hm
 obtain⟨k,n⟩:=m
 cases k with
 | true=>exact wm ha hb
 | false=>exact xR _ h0
theorem bX{m:Bool × Nat}(hm:m∈ay)(a b:Nat):gm m a b<aa m:=by
 have h0:=b8 m hm
 obtain⟨k,n⟩:=m
 cases k with
 | true =>
  have h2:=b39 (true,n) hm rfl
  have:=(yw (show n≠0 by have:0<n:=h0;omega) (cl a b)).2
  refine(PN rfl).mpr ?_
  show bl (md (cl a b) n)<=bl n-1
  omega
 | false=>exact xR _ h0
theorem wY{m:Bool × Nat}{a:Nat}(ha:a<aa m):gp m 0 a=a:=by
 obtain⟨k,n⟩:=m
 cases k with
 | true=>exact qo a
 | false=>show(0+a)%n=a;rw[Mw];exact AM ha
theorem kb{m:Bool × Nat}{a:Nat}(ha:a<aa m):gp m a 0=a:=by rw[m4];exact wY ha
theorem cB0{m:Bool × Nat}(hm:m∈ay){a b:Nat}(ha:a<aa m)(hb:b<aa m):∃r:Nat,gl m a b=r/\r<aa m/\gp m r b=a:=by
 have h0:=b8 m hm
 obtain⟨k,n⟩:=m
 cases k with
 | true=>exact⟨a ^^^ b,rfl,wm ha hb,by show a ^^^ b ^^^ b=a;rw[tw,AI,mj]⟩
 | false =>
  have h0:0<n:=h0
  have ha:a<n:=ha
  have hb:b<n:=hb
  refine⟨(a+(n-b))%n,?_,xR _ h0,?_⟩
  ·show((a:Int)-b)%n=_
   rw[tF,Eu,Int.natCast_sub (by omega),show((a:Int)+((n:Int)-b))=((a:Int)-b)+n by omega,Int.add_emod_right]
  ·show((a+(n-b))%n+b)%n=a
   rw[Et,show a+(n-b)+b=a+n by omega,Nat.add_mod_right,AM ha]
noncomputable def eS(m:Bool × Nat)(n:Int):Nat:=(pw m (n%((aa m:Int)-1)).toNat).toNat
theorem pE{m:Bool × Nat}(hm:m∈ay)(n:Int):1<=eS m n/\eS m n<aa m/\lg m (eS m n)=n%((aa m:Int)-1)/\pw m (n%((aa m:Int)-1)).toNat=eS m n:=by
 have dH:=(cI hm).lo
 have n0:=jv n (show(aa m:Int)-1≠0 by omega)
 have n1:=jw n (show(0:Int)<(aa m:Int)-1 by omega)
 obtain⟨p1,p2,p3⟩:=B5 hm (k:=(n%((aa m:Int)-1)).toNat) (by omega)
 unfold eS
 rw[p3]
 omega
theorem G6{m:Bool × Nat}(hm:m∈ay)(n:Int):eS m n<aa m:=(pE hm n).2.1
theorem G7{m:Bool × Nat}(hm:m∈ay)(a b:Int):gm m (eS m a) (eS m b)=eS m (a+b):=by
 obtain⟨a1,a2,a3,_⟩:=pE hm a
 obtain⟨b1,b2,b3,_⟩:=pE hm b
 have e:=G2 hm a1 a2 b1 b2
 rw[a3,b3,<- Int.add_emod]at e
 have c:=(pE hm (a+b)).2.2.2
 rw[c]at e
 omega
theorem cx8{m:Bool × Nat}(hm:m∈ay):eS m 0=1:=by
 unfold eS
 rw[Int.zero_emod,show(0:Int).toNat=0 from rfl,PU m hm];rfl
theorem P5{m:Bool × Nat}(hm:m∈ay){a:Nat}(h1:1<=a)(h2:a<aa m):eS m (lg m a)=a:=by
 obtain⟨g0,g1,g2⟩:=B6 hm h1 h2
 unfold eS
 rw[Ew g0 g1,g2];rfl
theorem cB1{m:Bool × Nat}(hm:m∈ay)(n:Int):(fl m)[(n%((aa m:Int)-1)).toNat]?=some ((eS m n:Nat):Int):=by
 have hF:=cI hm
 have dH:=hF.lo
 have n0:=jv n (show(aa m:Int)-1≠0 by omega)
 have n1:=jw n (show(0:Int)<(aa m:Int)-1 by omega)
 have hk:(n%((aa m:Int)-1)).toNat<(fl m).length:=by have:=hF.len;omega
 rw[<-(pE hm n).2.2.2]
 unfold pw
 rw[aM,aO hk];rfl
theorem cD0{m:Bool × Nat}(hm:m∈ay){a b:Nat}(a1:1<=a)(a2:a<aa m)(b1:1<=b)(b2:b<aa m):gm m a b≠0:=by
 rw[<-P5 hm a1 a2,<- P5 hm b1 b2,G7 hm]
 have:=(pE hm (lg m a+lg m b)).1
 omega
end L3
namespace L2
open PySem PySem.Spec PyProof.Rows
section
variable{X:Cx}{a:Expr}{ta:TA}{p pos:Pos}{tg:Expr}
end
end L2
namespace L3
open PySem L2 PySem.Spec PyProof.Rows
section
variable{F H:Hp}{K:PySem.W.Frag}{p:Addr}{ws:List V}{xs:List D}
end
section
variable{X:Cx}{a:Expr}{ta:cO}{p pos:Pos}{tg:Expr}
end
end L3
namespace L3
open PySem L2 Mf
noncomputable def px(m:Bool × Nat)(x:Nat):Nat->Nat
 | 0=>1
 | k+1=>gm m (px m x k) x
noncomputable def AllLt(n:Nat)(l:List Nat):Prop:=∀a∈l,a<n
theorem AllLt.getD{n:Nat}{l:List Nat}(h:AllLt n l)(h0:0<n)(k:Nat):l.getD k 0<n:=by
 rw[aM]
 cases e:l[k]? with
 | none=>exact h0
 | some v=>exact h v (s9 e)
end L3
namespace L3
open PySem L2 PySem.Spec PyProof.Rows
theorem bZ8(n:Nat)(l:List Nat):(aq l).all (dP n)=true:=by
 rw[dQ,qu,dG]
 intro a _
 exact oU n _
theorem vd(n:Nat)(o:Bool)(l:List Nat):dP (n+1) (.lst o (aq l))=true:=bZ8 n l
theorem m5(o o':Bool)(a b:List Nat):bN (.lst o (aq a)) (.lst o' (aq b))=decide (a=b):=by
 unfold aq
 rw[rW]
 congr 1
 apply propext
 constructor
 ·intro h
  have:=congrArg (Eo Int.toNat) h
  have e:(Int.toNat ∘ λ(n:Nat)=>(n:Int))=id:=by funext x;rfl
  rw[bP,bP,e,List.map_id,List.map_id]at this
  exact this
 ·intro h;rw[h]
theorem kM{l:List Nat}{k:Int}(h0:0<=k)(h:k.toNat<l.length):eN (aq l) k=some (.int ((l.getD k.toNat 0:Nat):Int)):=by
 refine qE h0 ?_
 rw[dQ,bO,aO h,aM,aO h];rfl
theorem b07{l:List Nat}(h:0<l.length):eN (aq l) (-1)=some (.int ((l.getD (l.length-1) 0:Nat):Int)):=by
 unfold aq
 rw[bW2 (by rw[bt];exact h),bt]
 congr 2
 rw[aM,aM,bO]
 cases l[l.length-1]?<;>rfl
theorem P6{n:Nat}{k:Int}(h0:0<=k)(h:k.toNat<n):jH n k=some k.toNat:=by
 unfold jH
 rw[if_pos h0,if_pos (by omega)]
theorem pG{n:Nat}(k:Int)(h:k=n):(((aF k.toNat).map λ(k:Nat)=>D.int (0+(k:Int))).map D.sh)=(aF n).map λ(i:Nat)=>D.int (i:Int):=by
 subst h
 rw[yL,iE]
 simp
theorem P7(l:List Nat)(k v:Nat):(aq l).set k (.int (v:Nat))=aq (l.set k v):=by
 rw[dQ,dQ,List.map_set]
theorem cb0(l:List Nat):(aq l).all D.fr=true:=oR _
theorem m6(o:Bool)(l:List Nat):(D.lst o (aq l)).sh=.lst false (aq l):=by rw[cV,oW]
theorem ix(l:List Nat):(D.lst true (aq l)).fr=true:=by rw[fg,cb0];rfl
section
variable{X:Cx}
noncomputable def ve:jP:=λds Q=>match ds with
 | [.int i]=>Q (.int (if i<0 then -i else i))
 | _=>False
noncomputable def pH:jP:=λds Q=>match ds with
 | [.int i]=>Q (.int i)
 | [.bl b]=>Q (.int (if b then 1 else 0))
 | _=>False
theorem cs5:ij X (.type "int") pH:=ij.of YB λvs H Q zz=>by
 obtain⟨B,F,σ,δ,ts,ds,Qd,c,s,q,k⟩:=zz
 unfold pH at q
 split at q
 ·obtain⟨v,rfl,s1⟩:=kJ s
  cases s1
  exact .inl ⟨_,rfl,k _ _ _ q (ag.refl _) (c.pushS (.int .nil) rfl)⟩
 ·obtain⟨v,rfl,s1⟩:=kJ s
  cases s1
  exact .inr ⟨_,rfl,k _ _ _ q (ag.refl _) (c.pushS (.int .nil) rfl)⟩
 ·exact q.elim
end
end L3
namespace L3
open PySem L2 Mf
noncomputable def bx(m:Bool × Nat)(a b:Nat):Nat:=(gl m a b).toNat
theorem iU{m:Bool × Nat}(hm:m∈ay){a b:Nat}(ha:a<aa m)(hb:b<aa m):gl m a b=(bx m a b:Nat)/\bx m a b<aa m/\gp m (bx m a b) b=a:=by
 obtain⟨r,e,h1,h2⟩:=cB0 hm ha hb
 have:bx m a b=r:=by unfold bx;rw[e];rfl
 rw[this]
 exact⟨e,h1,h2⟩
theorem G8{n:Nat}{f:Nat->Nat->Nat}:∀{a b:List Nat},(∀x∈a,∀y∈b,f x y<n)->AllLt n (eI f a b)
 | [],_,_=>by intro x hx;simp at hx
 | _::_,[],_=>by intro x hx;simp at hx
 | x::a,y::b,h=>by
  intro z hz
  rw[List.zipWith_cons_cons]at hz
  rcases cj.mp hz with rfl | hz
  ·exact h x (by simp) y (by simp)
  ·exact G8 (λx hx y hy=>h x (by simp[hx]) y (by simp[hy])) z hz
theorem bO3(xs ys:List Nat):(fh (aq xs) (aq ys)).map D.sh=(xs.zip ys).map λz=>D.tup [.int (z.1:Int),.int (z.2:Int)]:=by
 unfold aq
 rw[bP7,List.zip_map,bP];rfl
theorem P8{sh:Bool}{aw:List (Str × Nat)}{n i1 i2:Nat}{te:aH}{ak:Dl}{Q:D->Dl->Prop}(f:Nat->Nat->Nat){A B:List Nat}(hx:∀x∈A,∀y∈B,ik i1 i2 (.tup [.int (x:Int),.int (y:Int)]) (eR aw n ak) λbh=>te bh λd _=>d=.int ((f x y:Nat):Int))
  (hl:A.length<=100000) (hq:Q (.lst true (aq (eI f A B))) ak):wF sh (fh (aq A) (aq B)) aw n (ik i1 i2) kG te ak Q:=by
 refine PY (A.zip B) (λz=>D.tup [.int (z.1:Int),.int (z.2:Int)]) (λz=>D.int ((f z.1 z.2:Nat):Int)) (bO3 A B) (λa b h=>?_) (λz hz=>hx z.1 (AD hz).1 z.2 (AD hz).2) PZ (.inr λ_ _=>rfl) (by rw[Mx,sL];omega) ?_
 ·injection h with h
  simp at h
  exact Prod.ext (by omega) (by omega)
 ·rw[show((A.zip B).map λz=>D.int ((f z.1 z.2:Nat):Int))=aq (eI f A B) by rw[dQ,List.zip,Ep,Ep]]
  exact hq
end L3
namespace L3
open PySem L2 PySem.Spec PyProof.Rows
theorem aj.cY9{B:Bs}{F H:Hp}{σ:L2.St}{δ:Dl}{ps ts:List (D × V)}{p:Addr}{o:HO}{A1:List Addr}(c:aj B F H σ δ (ps++ts))(hp:H p=none)(r:R F (upd H p o) (ps.map (·.1)) (ps.map (·.2)) A1):p ∉ A1:=λh=>by
 obtain⟨A,C,r0,_,_,_⟩:=c.own
 rw[eo,eo]at r0
 obtain⟨v1,v2,B1,B2,e,rfl,h1,h2⟩:=R.split r0
 have l1:(ps.map (·.2)).length=v1.length:=by rw[<-h1.length];simp
 obtain⟨rfl,rfl⟩:=vQ e l1
 have g1:=h1.grow (ag.refl F) (ag.upd (o:=o) hp) λa ha=>(h1.lists a ha).2
 have:A1=B1:=R.inj r g1
 subst this
 obtain⟨ws,e⟩:=(h1.lists p h).1
 rw[hp]at e;cases e
theorem aj.join{B:Bs}{F H:Hp}{σ:L2.St}{δ:Dl}{ts:List (D × V)}{p p' r:Addr}{xs ys:List D}{ws dR:List V}(c:aj B F H σ δ ((.lst true ys,.ref p')::(.lst true xs,.ref p)::ts))(e1:H p=some (.lst ws))(e2:H p'=some (.lst dR))(hr:H r=none) :
  aj B F (upd H r (.lst (ws++dR))) σ δ ((.lst true (xs++ys),.ref r)::ts):=by
 refine aj.pack (ps:=[(.lst true ys,.ref p'),(.lst true xs,.ref p)]) c (ag.upd hr) λA1 r1 nd=>?_
 have nin:=aj.cY9 (ps:=[(.lst true ys,.ref p'),(.lst true xs,.ref p)]) (ts:=ts) c hr r1
 have n1:p≠r:=λz=>by rw[z,hr]at e1;cases e1
 have n2:p'≠r:=λz=>by rw[z,hr]at e2;cases e2
 have r1:R F (upd H r (.lst (ws++dR))) [.lst true ys,.lst true xs] [.ref p',.ref p] A1:=r1
 cases r1 with
 | @own _ wy _ Ay _ _ By hy fy ry rb =>
  cases rb with
  | @own _ wx _ Ax _ _ Bx hx fx rx rc =>
   cases rc
   rw[aV n2,e2]at hy;cases hy
   rw[aV n1,e1]at hx;cases hx
   refine⟨r::(Ax++Ay),by simpa using R.own bA (c.ext.free hr) (rx.append ry) .nil,?_,λa ha=>?_⟩
   ·refine iD.mpr ⟨λz=>nin ?_,?_⟩
    ·rcases cg.mp z with z | z<;>simp[z]
    ·have sl:(Ay++Ax).Sublist (p'::Ay++(p::Ax++[])):=by
      rw[eH]
      exact(((Mz p Ax).append_left Ay).trans (Mz p' _))
     exact nJ.nodup_iff.mp (nd.sublist sl)
   ·simp only[cj,cg]at ha ⊢
    rcases ha with rfl | ha | ha
    ·exact .inr hr
    ·simp[ha]
    ·simp[ha]
section
variable{X:Cx}{a b:Expr}{ta tb:aH}{pos:Pos}
noncomputable def sF(ta tb:aH):aH:=λδ Q=>ta δ λx ak=>tb ak λy bh=>∃xs ys,x=.lst true xs/\y=.lst true ys/\xs.length+ys.length<=sizeLine/\Q (.lst true (xs++ys)) bh
theorem cs1(ha:PE X a (lE ta))(hb:PE X b (lE tb)):PE X (.BinOp a .Add b pos) (lE (sF ta tb)) :=
 dm (yh NI ha hb) λσ H Q ⟨B,F,δ,ts,Qd,c,q,k⟩ =>
  ⟨B,F,δ,ts,_,c,q,λx ak v F1 H1 q1 f1 h1 c1=>⟨B,F1,ak,(x,v)::ts,_,c1,q1,λy bh w F2 H2 q2 f2 h2 c2=>by
   obtain⟨xs,ys,rfl,rfl,hz,hq⟩:=q2
   obtain⟨p',dR,rfl,e2,s2⟩:=iO c2.top c2.ext
   obtain⟨p,ws,rfl,e1,s1⟩:=iO c2.pop.top c2.ext
   refine⟨p,p',ws,dR,rfl,rfl,e1,e2,by rw[<-s1.length,<- s2.length];exact hz,λr hr=>?_⟩
   exact k _ bh _ F2 _ hq (f1.trans f2) ((h1.trans h2).trans (ag.upd hr)) (c2.join e1 e2 hr)⟩⟩
end
theorem bV9{a b:List Nat}(h:aq a=aq b):a=b:=by
 have:=m5 true true a b
 rw[h,show bN (D.lst true (aq b)) (D.lst true (aq b))=true from(m5 _ _ _ _).trans (decide_eq_true rfl)]at this
 exact of_decide_eq_true this.symm
theorem kN{o:Bool}(a b:List Nat)(h:D.lst o (aq a)=D.lst o (aq b)):a=b:=bV9 (by injection h)
end L3
namespace L3
open PySem L2 Mf
theorem P9{m:Bool × Nat}(hm:m∈ay)(k:Int):∀n:Nat,px m (eS m k) n=eS m (k*n)
 | 0=>by
  show 1=eS m (k*((0:Nat):Int))
  rw[show k*((0:Nat):Int)=0 by omega,cx8 hm]
 | n+1=>by
  show gm m (px m (eS m k) n) (eS m k)=_
  rw[P9 hm k n,G7 hm,Eu,Int.mul_add]
  congr 1
  omega
end L3
namespace L2
open PySem PySem.Spec PyProof.Rows
end L2
namespace L3
open PySem L2 PySem.Spec PyProof.Rows Mf
end L3
namespace L3
open PySem L2 Mf
noncomputable def cf(l:List Nat)(k:Nat):Nat:=l.getD k 0
theorem m8{l:List Nat}{k:Nat}(h:l.length<=k):cf l k=0:=by
 unfold cf;rw[aM,fF h];rfl
theorem dv{m:Bool × Nat}(hm:m∈ay){l:List Nat}(h:AllLt (aa m) l)(k:Nat):cf l k<aa m:=h.getD (by have:=(cI hm).lo;omega) k
theorem B9(m:Bool × Nat)(x:Nat):bx m x x=0:=by
 obtain⟨k,n⟩:=m
 cases k with
 | true=>show(((x ^^^ x:Nat):Int)).toNat=0;rw[AI];rfl
 | false=>show(((x:Int)-(x:Int))%(n:Int)).toNat=0;rw[Int.sub_self,Int.zero_emod];rfl
end L3
namespace L3
open PySem L2 PySem.Spec PyProof.Rows
section
variable{B:Bs}{F H:Hp}{σ:L2.St}{δ:Dl}{ts ps:List (D × V)}{i k:Nat}{p q:Addr}{l1 l2 ys Og:List D}{ws uq:List V}
end
section
variable{X:Cx}{F H:Hp}{e b:Expr}{pos p p2 p3 pr apos bI GC:Pos}{t ti te:aH}{x y:Str}{i j:Nat}
end
end L3
namespace L3
structure Rg(N:Nat)(p q:Nat->Nat->Nat):Prop where
 pc:∀a b,p a b=p b a
 pa:∀a b c,p (p a b) c=p a (p b c)
 mc:∀a b,q a b=q b a
 ma:∀{a b c},a<N->b<N->c<N->q (q a b) c=q a (q b c)
 dl:∀a b c,q a (p b c)=p (q a b) (q a c)
 z:∀{a},a<N->p 0 a=a
 qz:∀a,q a 0=0
 one:∀{a},a<N->q 1 a=a
 lp:∀{a b},a<N->b<N->p a b<N
 lq:∀a b,q a b<N
 ng:∀{a},a<N->∃b,b<N/\p a b=0
section
variable{N:Nat}{p q:Nat->Nat->Nat}
noncomputable def sm(p:Nat->Nat->Nat):Nat->(Nat->Nat)->Nat
 | 0,_=>0
 | n+1,f=>p (sm p n f) (f n)
theorem Rg.pos(r:Rg N p q):0<N:=nH (iC _) (r.lq 0 0)
theorem Rg.z'(r:Rg N p q){a:Nat}(h:a<N):p a 0=a:=by rw[r.pc];exact r.z h
theorem Rg.can(r:Rg N p q){a b c:Nat}(ha:a<N)(hb:b<N)(hc:c<N)(h:p a c=p b c):a=b:=by
 obtain⟨d,_,e⟩:=r.ng hc
 have:=congrArg (λx=>p x d) h
 simp only[r.pa,e]at this
 rw[r.z' ha,r.z' hb]at this
 exact this
theorem Rg.cn(r:Rg N p q){a b:Nat}(ha:a<N)(hb:b<N)(h:p a b=b):a=0:=r.can ha r.pos hb (by rw[h,r.z hb])
theorem cw{f g:Nat->Nat}:∀{n:Nat},(∀j,j<n->f j=g j)->sm p n f=sm p n g
 | 0,_=>rfl
 | n+1,h=>by rw[sm,sm,cw λj hj=>h j (by omega),h n (by omega)]
theorem kO(r:Rg N p q){f:Nat->Nat}:∀{n:Nat},(∀j,j<n->f j<N)->sm p n f<N
 | 0,_=>r.pos
 | n+1,h=>r.lp (kO r λj hj=>h j (by omega)) (h n (by omega))
theorem fv(r:Rg N p q){f:Nat->Nat}:∀{n:Nat},(∀j,j<n->f j=0)->sm p n f=0
 | 0,_=>rfl
 | n+1,h=>by rw[sm,fv r λj hj=>h j (by omega),h n (by omega)];exact r.z r.pos
theorem Rg.four(r:Rg N p q)(a b c d:Nat):p (p a b) (p c d)=p (p a c) (p b d):=by
 rw[r.pa,r.pa,<- r.pa b,<- r.pa c,r.pc b c]
theorem lY(r:Rg N p q)(f g:Nat->Nat):∀n,sm p n (λj=>p (f j) (g j))=p (sm p n f) (sm p n g)
 | 0=>(r.z r.pos).symm
 | n+1=>by rw[sm,lY r f g n,sm,sm,r.four]
theorem pI(r:Rg N p q)(c:Nat)(f:Nat->Nat):∀n,sm p n (λj=>q c (f j))=q c (sm p n f)
 | 0=>(r.qz c).symm
 | n+1=>by rw[sm,pI r c f n,sm,r.dl]
theorem Qa(r:Rg N p q)(F:Nat->Nat->Nat)(k:Nat):∀n,sm p n (λi=>sm p k λj=>F i j)=sm p k λj=>sm p n λi=>F i j
 | 0=>(fv r λ_ _=>rfl).symm
 | n+1=>by
  rw[sm,Qa r F k n,<- lY r];rfl
theorem G9(r:Rg N p q){f:Nat->Nat}(n:Nat):∀k,(∀j,j<n+k->f j<N)->sm p (n+k) f=p (sm p n f) (sm p k λj=>f (n+j))
 | 0,h=>(r.z' (kO r λj hj=>h j (by omega))).symm
 | k+1,h=>by
  rw[<-Ek,sm,G9 r n k λj hj=>h j (by omega),sm,r.pa]
theorem Qb(r:Rg N p q){f:Nat->Nat}(n:Nat)(h:∀j,j<n+1->f j<N):sm p (n+1) f=p (f 0) (sm p n λj=>f (j+1)):=by
 rw[xJ n 1,G9 r 1 n λj hj=>h j (by omega)]
 show p (p 0 (f 0)) _=_
 rw[r.z (h 0 (by omega))]
 congr 1
 exact cw λj _=>by rw[xJ]
end
end L3
namespace L3
section
variable{N:Nat}{p q:Nat->Nat->Nat}
end
end L3
namespace L3
open PySem L2 Mf
theorem rg{m:Bool × Nat}(hm:m∈ay):Rg (aa m) (gp m) (gm m) where
 pc:=m4 m
 pa:=B7 m
 mc:=gO m
 ma:=λ_ _ _=>ir (b8 m hm) _ _ _
 dl:=λa b c=>zu (b8 m hm) b c a
 z:=wY
 qz:=λa=>iu m a (b8 m hm)
 one:=pz
 lp:=P4 hm
 lq:=bX hm
 ng:=λ{a} ha=>by
  have g:=iU hm (a:=0) (b:=a) (by omega) ha
  exact⟨_,g.2.1,(m4 m _ _).trans g.2.2⟩
theorem b21(p:Nat->Nat->Nat)(l:List Nat):l.foldl p 0=sm p l.length λj=>l.getD j 0:=by
 have key:∀n,n<=l.length->(l.take n).foldl p 0=sm p n λj=>l.getD j 0:=by
  intro n
  induction n with
  | zero=>intro _;rfl
  | succ n ih =>
   intro h
   rw[nK,aO (by omega),Ex,ih (by omega),sm,aM,aO (show n<l.length by omega)]
   rfl
 have:=key l.length (bL _)
 rw[qq]at this
 exact this
theorem cw6{m:Bool × Nat}(hm:m∈ay)(f:Nat)(b:List Nat)(j:Nat):cf (b.map (gm m f)) j=gm m f (cf b j):=by
 unfold cf
 rw[aM,bO,aM]
 cases b[j]? with
 | none=>exact(iu m f (b8 m hm)).symm
 | some x=>rfl
theorem Qc{m:Bool × Nat}(hm:m∈ay){a b:Nat}(ha:a<aa m)(hb:b<aa m)(h0:b≠0):∃r,r<aa m/\gm m r b=a:=by
 by_cases a0:a=0
 ·exact⟨0,by have:=(cI hm).lo;omega,by rw[a0];exact fi m b (b8 m hm)⟩
 ·obtain⟨r,_,h1,h2⟩:=P0 hm (show 1<=a by omega) ha (show 1<=b by omega) hb
  exact⟨r,h1,h2⟩
end L3
namespace L3
open PySem L2 PySem.Spec PyProof.Rows
section
variable{X:Cx}{i j:Nat}{x y:Str}{p pos pos' apos bI:Pos}
end
section
variable{X:Cx}{e:Expr}{t:aH}{p pos:Pos}
end
section
variable{X:Cx}
theorem b75(i:Int)(ns:List Int):Bi (.int i) (ns.map V.int)=decide (i∈ns):=by
 unfold Bi
 rw[List.any_map,tD,Ml,decide_eq_true_iff]
 exact⟨λ⟨x,hx,he⟩=>(show x=i by simpa[mF]using he) ▸ hx,λhx=>⟨i,hx,by simp[mF]⟩⟩
noncomputable def pJ:cW:=λx y Q=>match x,y with
 | .int i,.lst _ xs=>∃ns:List Int,xs=aI ns/\Q (.bl (!decide (i∈ns)))
 | _,_=>False
theorem cu0:bZ X (compareOp .NotIn) pJ :=
 ⟨_,Zp,λ{B F H σ δ ts x y v w Q Qd} c sx sy h k=>by
  unfold pJ at h
  split at h
  ·rename_i i o xs
   obtain⟨ns,rfl,q⟩:=h
   obtain⟨p,ws,rfl,e1,s1⟩:=iO sy c.ext
   have e:=O1 s1
   subst e
   cases sx
   refine⟨p,_,rfl,.inl (bF.of e1),rfl,by simp[nW],?_⟩
   rw[if_pos rfl,b75]
   exact k _ _ _ q (ag.refl _) (c.pushS (.bl .nil) rfl)
  ·exact h.elim⟩
end
end L3
namespace L3
open PySem L2 Mf
noncomputable def ao(o:Bool)(T:List (List Nat)):List D:=T.map λr=>.lst o (aq r)
theorem iV(o:Bool)(T:List (List Nat)):(ao o T).length=T.length:=by unfold ao;rw[bt]
theorem de(o:Bool)(T:List (List Nat)):(ao o T).map D.sh=ao false T:=by
 unfold ao
 rw[bP]
 exact qw λr _=>m6 o r
theorem m9(T:List (List Nat)):(ao false T).all D.pl=true:=by
 unfold ao
 rw[qu,dG]
 intro r _
 show(D.lst false (aq r)).pl=true
 rw[fW,jo];rfl
theorem pK(T:List (List Nat)):(ao true T).all D.fr=true:=by
 unfold ao
 rw[qu,dG]
 intro r _
 exact ix r
theorem vg(o:Bool)(S T:List (List Nat)):ao o S++ao o T=ao o (S++T):=by unfold ao;rw[eo]
theorem sG(o:Bool)(T:List (List Nat))(lo hi:Option Int):eU (ao o T) lo hi=ao o (eU T lo hi):=by
 unfold ao eU
 rw[bt,Ms,Mr]
theorem pL(o:Bool){T:List (List Nat)}{i:Nat}(h:i<T.length):eN (ao o T) (i:Int)=some (.lst o (aq T[i])):=by
 refine L3.yX ?_
 unfold ao
 rw[bO,aO h];rfl
theorem bU9(n:Nat)(o:Bool)(T:List (List Nat)):(ao o T).all (dP (n+1))=true:=by
 unfold ao
 rw[qu,dG]
 intro r _
 exact vd _ _ _
theorem Qe(n:Nat)(o o':Bool)(T:List (List Nat)):dP (n+2) (.lst o (ao o' T))=true:=bU9 n o' T
theorem Qf(o o':Bool):∀(a b:List (List Nat)),bN.gy (ao o a) (ao o' b)=decide (a=b)
 | [],[]=>rfl
 | [],_::_=>by simp[ao,bN.gy]
 | _::_,[]=>by simp[ao,bN.gy]
 | x::xs,y::ys=>by
  show(bN (.lst o (aq x)) (.lst o' (aq y))&&bN.gy (ao o xs) (ao o' ys))=_
  rw[Qf o o' xs ys,m5,tD];simp
theorem cl4(o o' o1 o2:Bool)(a b:List (List Nat)):bN (.lst o (ao o1 a)) (.lst o' (ao o2 b))=decide (a=b):=Qf o1 o2 a b
open Classical in
theorem Ha{α:Type}{sh:Bool}{xs:List D}{aw:List (Str × Nat)}{n:Nat}{g0:iK}{tt:fI}{te:aH}{ak:Dl}{Q:D->Dl->Prop}(l:List α)(e g:α->D)(kp:α->Bool)(jT:xs.map D.sh=l.map e)(inj:∀a b,e a=e b->a=b)
  (hx:∀a∈l,g0 (e a) (eR aw n ak) λbh=>tt bh λb gI=>b=kp a/\(kp a=true->te gI λd _=>d=g a)) (fJ:(sh&&aw.all (iN ak))=true\/∀a∈l,kp a=true->(g a).fr=true) (hl:l.length<=sizeLine) (hq:Q (.lst true ((l.filter kp).map g)) ak):wF sh xs aw n g0 tt te ak Q:=by
 have pick:∀{β:Type} (h:α->β) (z:β),∃f:D->β,∀a∈l,f (e a)=h a:=λh z=>⟨λx=>if w:∃a∈l,e a=x then h w.choose else z,λa ha=>by
  have w:∃b∈l,e b=e a:=⟨a,ha,rfl⟩
  show(if w:∃b∈l,e b=e a then h w.choose else z)=h a
  rw[dif_pos w]
  exact congrArg h (inj _ _ w.choose_spec.2)⟩
 obtain⟨f,hf⟩:=pick g .av
 obtain⟨p,hp⟩:=pick kp false
 refine⟨p,f,λx h=>?_,fJ.imp id λh x cU=>?_,?_,?_⟩
 ·rw[jT]at h
  obtain⟨a,ha,rfl⟩:=bE.mp h
  rw[hp a ha,hf a ha]
  exact hx a ha
 ·rw[jT]at cU
  obtain⟨a,ha,rfl⟩:=bE.mp cU
  rw[hp a ha,hf a ha];exact h a ha
 ·have:=congrArg AE jT
  simp at this
  omega
 ·rw[jT,List.filter_map,bP,show l.filter (p ∘ e)=l.filter kp from List.filter_congr λa ha=>hp a ha,show(l.filter kp).map (f ∘ e)=(l.filter kp).map g from qw λa ha=>hf a (qf.mp ha).1]
  exact hq
theorem Qg{o:Bool}{G:List (List Nat)}{i:Nat}{d:D}(h:(gM (ao o G))[i]?=some d):∃hi:i<G.length,d=.tup [.int i,.lst o (aq G[i])]:=by
 unfold gM ao at h
 rw[vS,bO]at h
 by_cases hi:i<G.length
 ·rw[aO hi]at h
  exact⟨hi,(dh h).symm⟩
 ·rw[fF (by omega)]at h;cases h
theorem Qh(r:List Nat):(gM (aq r)).map D.sh=(aF r.length).map λ(i:Nat)=>D.tup [.int (i:Int),.int ((r.getD i 0:Nat):Int)]:=by
 apply xO
 intro i
 unfold gM
 rw[dQ,bO,vS,bO,bO]
 by_cases hi:i<r.length
 ·have e:r.getD i 0=r[i]:=by rw[aM,aO hi];rfl
  rw[aO hi,hW hi]
  show _=some (D.tup [D.int (i:Int),D.int ((r.getD i 0:Nat):Int)])
  rw[e];rfl
 ·rw[fF (show r.length<=i by omega),fF (show(aF r.length).length<=i by simpa using hi)];rfl
theorem Qi{r:List Nat}(h:∃x∈r,x≠0):((aF r.length).filter λi=>r.getD i 0 != 0)[0]?=some (r.findIdx (· != 0)):=by
 obtain⟨x,hx,h0⟩:=h
 have hl:r.findIdx (· != 0)<r.length:=MA ⟨x,hx,by simpa using h0⟩
 rw[<-List.head?_eq_getElem?,List.head?_filter,List.find?_range_eq_some]
 refine⟨?_,cA.mpr hl,λj hj=>?_⟩
 ·rw[aM,aO hl]
  exact W2 (w:=hl)
 ·have:=List.not_of_lt_findIdx hj
  rw[aM,aO (by omega)]
  simpa using this
noncomputable def af(T:List (List Nat)):Nat:=(T.headD []).length
noncomputable def ke(T:List (List Nat))(j:Nat):Option Nat:=T.findIdx? λr=>r.getD j 0 != 0
noncomputable def hE(m:Bool × Nat)(T:List (List Nat))(l:List Nat)(j:Nat):List (List Nat):=T.map λr=>eI (λx y=>bx m x (gm m (r.getD j 0) y)) r l
noncomputable def nh(m:Bool × Nat)(b:Nat):Nat:=((aF (aa m)).find? λr=>gm m r b==1).getD 0
theorem Ca{m:Bool × Nat}(hm:m∈ay){b r:Nat}(hr:r<aa m)(h:gm m r b=1):nh m b=r:=by
 have m0:=b8 m hm
 unfold nh
 cases e:(aF (aa m)).find? λr=>gm m r b==1 with
 | none =>
  have:=MB.mp e r (cA.mpr hr)
  simp[h]at this
 | some r' =>
  have h':gm m r' b=1:=by simpa using List.find?_some e
  have l':r'<aa m:=cA.mp (Mq e)
  show r'=r
  rw[<-pB hr,<- h',<- ir m0,gO m r r',ir m0,h,pB l']
noncomputable def RT(N w:Nat)(T:List (List Nat)):Prop:=∀r∈T,r.length=w/\AllLt N r
theorem RT.app{N w:Nat}{S T:List (List Nat)}(a:RT N w S)(b:RT N w T):RT N w (S++T):=λr hr=>(cg.mp hr).elim (a r) (b r)
theorem Qj{m:Bool × Nat}(hm:m∈ay){w j:Nat}{T:List (List Nat)}{l:List Nat}(h:RT (aa m) w T)(hl:l.length=w):RT (aa m) w (hE m T l j):=λr hr=>by
 obtain⟨r,h1,rfl⟩:=bE.mp hr
 obtain⟨a,b⟩:=h r h1
 exact⟨by rw[nM,a,hl,AK],G8 λx hx y hy=>(iU hm (b x hx) (bX hm _ y)).2.1⟩
noncomputable def dY(m:Bool × Nat)(T:List (List Nat))(i p:Nat):List Nat:=(T.getD i []).map (gm m (nh m ((T.getD i []).getD p 0)))
noncomputable def iW(m:Bool × Nat)(s:List (List Nat) × List (List Nat))(p:Nat):List (List Nat) × List (List Nat):=match ke s.2 p with
 | none=>s
 | some i=>(hE m s.1 (dY m s.2 i p) p++[dY m s.2 i p],hE m (s.2.take i++s.2.drop (i+1)) (dY m s.2 i p) p)
noncomputable def kg(m:Bool × Nat)(G:List (List Nat))(k:Nat):List (List Nat) × List (List Nat):=(aF k).foldl (iW m) ([],G)
noncomputable def bj(m:Bool × Nat)(G:List (List Nat)):List (List Nat):=(kg m G (af G)).1
theorem Hb(m:Bool × Nat)(G:List (List Nat))(k:Nat):kg m G (k+1)=iW m (kg m G k) k:=by
 unfold kg
 rw[MC,Ex];rfl
theorem Cb{T:List (List Nat)}{j i:Nat}(h:ke T j=some i):∃hi:i<T.length,T[i].getD j 0≠0/\T.getD i []=T[i]:=by
 obtain⟨hi,h1,_⟩:=W3.mp h
 exact⟨hi,by simpa using h1,by rw[aM,aO hi];rfl⟩
structure zw(N w n:Nat)(s:List (List Nat) × List (List Nat)):Prop where
 a:RT N w s.1
 b:RT N w s.2
 l:s.1.length+s.2.length<=n
theorem b85{m:Bool × Nat}(hm:m∈ay){w n p:Nat}{s:List (List Nat) × List (List Nat)}(h:zw (aa m) w n s):zw (aa m) w n (iW m s p):=by
 unfold iW
 split
 ·exact h
 ·rename_i i e
  obtain⟨hi,h1,h2⟩:=Cb e
  have hl:(dY m s.2 i p).length=w:=by unfold dY;rw[bt,h2];exact(h.b _ (cT hi)).1
  have hr:RT (aa m) w [dY m s.2 i p]:=λr hr=>by
   rw[gn]at hr
   refine⟨by rw[hr];exact hl,λx hx=>?_⟩
   rw[hr]at hx
   obtain⟨y,_,rfl⟩:=bE.mp hx
   exact bX hm _ _
  refine⟨(Qj hm h.a hl).app hr,Qj hm (λr hr=>h.b r ?_) hl,?_⟩
  ·rcases cg.mp hr with hr | hr
   ·exact tE hr
   ·exact nL hr
  ·have:=h.l
   unfold hE
   rw[di,bt,bt,di,fV,iF]
   show s.1.length+1+_<=n
   omega
theorem Cc{m:Bool × Nat}(hm:m∈ay){w:Nat}{G:List (List Nat)}(h:RT (aa m) w G):∀k,zw (aa m) w G.length (kg m G k)
 | 0=>⟨(λr hr=>nomatch hr),h,AB (Mw _)⟩
 | k+1=>by rw[Hb];exact b85 hm (Cc hm h k)
theorem b87(j:Nat)(l:List Nat):decide ((j:Int)∈l.map λ(n:Nat)=>(n:Int))=l.contains j:=by
 rw[tD,decide_eq_true_iff,Ey,bE]
 exact⟨λ⟨a,h,e⟩=>(show a=j by omega) ▸ h,λh=>⟨j,h,rfl⟩⟩
theorem ck2{o:Bool}{G:List (List Nat)}{f:List Nat->Nat}{k:Nat}{d:D}(h:(fh (aq (G.map f)) (ao o G))[k]?=some d):∃hk:k<G.length,d=.tup [.int ((f G[k]:Nat):Int),.lst o (aq G[k])]:=by
 unfold fh ao at h
 rw[dQ,xS,bO,bO,bO]at h
 by_cases hk:k<G.length
 ·rw[aO hk]at h
  exact⟨hk,(dh h).symm⟩
 ·rw[fF (by omega)]at h;cases h
theorem Qk{α:Type}(a:α->Nat)(b:α->Nat):∀(l:List α) (x:List Nat),(l.foldl (λx z=>x.set (a z) (b z)) x).length=x.length
 | [],_=>rfl
 | z::l,x=>by rw[xI,Qk a b l,qk]
end L3
namespace L2
open PySem PySem.Spec PyProof.Rows
theorem bP0{M:Model}{A:Around}{E:Value->Shared->Prop}{s:Shared}{scope:Scope}{globals:Addr}{cl:List (Str × Addr)}{qual:Str}{env:Env}{bi:Addr}{Q:Env->Shared->Prop}
  (hQ:Q (newEnv scope s.heap.objs.size globals (cellsFrom (s.heap.objs.size+1) scope.names cl) qual none .none (some env) bi) { s with heap:=pushCells (s.heap.push { cls:=.type "dict",data:=.dict #[] }) scope.names }) :
  wpAny M A (newFunctionEnv scope globals cl [] qual none .none (some env) bi) Q E s:=by
 simp only[newFunctionEnv,Option.isSome_some,if_true]
 refine wpAny_bind (wpAny_alloc (wpAny_bind (wpAny_layCells _ (λname kind cells=>by cases e:kind==Ez<;>simp[e]) _ _ _ _ ?_)))
 rw[List.forIn_nil]
 refine wpAny_bind (wpAny_pure (wpAny_pure ?_))
 have z:({ s with heap:=s.heap.push { cls:=.type "dict",data:=.dict #[] } }:Shared).heap.objs.size=s.heap.objs.size+1:=xH ..
 rw[z]
 exact hQ
theorem zx:∀(ns:List (Str × NameKind)) (n:Nat) (acc:List (Str × Addr)) (y:Str) (c:Addr),(cellsFrom n ns acc).lookup y=some c->(n<=c/\(y,Ez)∈ns)\/acc.lookup y=some c
 | [],_,_,_,_,h=>.inr h
 | (z,k)::r,n,acc,y,c,h=>by
  unfold cellsFrom at h
  split at h
  ·rename_i hk
   rcases zx r (n+1) _ y c h with⟨h1,h2⟩ | h1
   ·exact .inl ⟨by omega,eG _ h2⟩
   ·rw[gq]at h1
    cases q:y==z with
    | true =>
     rw[q]at h1;cases h1
     exact .inl ⟨bL _,by rw[eq_of_beq q,eq_of_beq hk];exact gE⟩
    | false=>rw[q]at h1;exact .inr h1
  ·rcases zx r n acc y c h with⟨h1,h2⟩ | h1
   ·exact .inl ⟨h1,eG _ h2⟩
   ·exact .inr h1
theorem Hc:∀(ns:List (Str × NameKind)) (n:Nat) (acc:List (Str × Addr)),(∀y z c,acc.lookup y=some c->acc.lookup z=some c->y=z)->(∀y c,acc.lookup y=some c->c<n) ->
  ∀y z c,(cellsFrom n ns acc).lookup y=some c->(cellsFrom n ns acc).lookup z=some c->y=z
 | [],_,_,i,_,y,z,c,h1,h2=>i y z c h1 h2
 | (u,k)::r,n,acc,i,b,y,z,c,h1,h2=>by
  unfold cellsFrom at h1 h2
  split at h1
  ·rw[if_pos (by assumption)]at h2
   refine Hc r (n+1) ((u,n)::acc) (λy z c e1 e2=>?_) (λy c e=>?_) y z c h1 h2
   ·rw[gq]at e1 e2
    cases q1:y==u with
    | true =>
     rw[q1]at e1;cases e1
     cases q2:z==u with
     | true=>rw[eq_of_beq q1,eq_of_beq q2]
     | false=>rw[q2]at e2;exact absurd (b _ _ e2) (gU _)
    | false =>
     rw[q1]at e1
     cases q2:z==u with
     | true=>rw[q2]at e2;cases e2;exact absurd (b _ _ e1) (gU _)
     | false=>rw[q2]at e2;exact i y z c e1 e2
   ·rw[gq]at e
    cases q:y==u with
    | true=>rw[q]at e;cases e;exact D7 _
    | false=>rw[q]at e;exact Nat.lt_succ_of_lt (b _ _ e)
  ·rw[if_neg (by assumption)]at h2
   exact Hc r n acc i b y z c h1 h2
theorem He:∀(ns:List (Str × NameKind)) (n:Nat) (acc:List (Str × Addr)) (y:Str) (c:Addr),(y,Ez)∈ns->(cellsFrom n ns acc).lookup y=some c->n<=c
 | [],_,_,_,_,m,_=>nomatch m
 | (z,k)::r,n,acc,y,c,m,h=>by
  unfold cellsFrom at h
  split at h
  ·rename_i hk
   rcases cj.mp m with e | m
   ·have e1:y=z:=(Prod.mk.inj e).1
    rcases zx r (n+1) _ y c h with⟨h1,_⟩ | h1
    ·exact AQ h1
    ·rw[gq,e1,beq_self_eq_true]at h1
     exact AB (dh h1)
   ·exact AQ (He r (n+1) _ y c m h)
  ·rename_i hk
   rcases cj.mp m with e | m
   ·cases e;exact absurd rfl hk
   ·exact He r n acc y c m h
noncomputable def dw(X:Cx)(scope:Scope)(N:List Str)(cl:List (Str × Addr))(C:Addr)(s:Shared)(H:Hp)(fp:List Addr):Cx :=
 { Bl X scope N (cellsFrom (C+1) scope.names cl) C s H fp with fn:=λy=>scope.names.contains (y,Ez) }
section
variable{X:Cx}{scope:Scope}{cl:List (Str × Addr)}
theorem b88{pins:List (Addr × Obj)}{σ:St}{H:Hp}{s:Shared}{fp:List Addr}{C:Addr}(I:Inv X pins σ H s)(gY:scope.kind=.function)(hC:s.heap.objs.size<=C)
  (ip:∀y c,cl.lookup y=some c->X.env.cells.lookup y=some c) (c05:∀y,((relabel scope X.env).names.lookup y=some .cell\/(relabel scope X.env).names.lookup y=some .free)->∃c,(cellsFrom (C+1) scope.names cl).lookup y=some c)
  (hf:∀b∈fp,jD X pins H b) (ho:∀b∈fp,∃o,s.heap.get? b=some o/\∀v,o.data≠.cell v) (N:List Str):(dw X scope N cl C s H fp).Ok where
 mod:=I.ok.mod
 kind:=gY
 glob:=I.ok.glob
 blt:=I.ok.blt
 above:=hC
 inj:=Hc scope.names (C+1) cl (λy z c h1 h2=>I.ok.inj y z c (ip _ _ h1) (ip _ _ h2)) λy c e=>by
  obtain⟨v,o,ho,_⟩:=I.cell y c (ip y c e)
  exact Nat.lt_succ_of_le (AA (dz (b9 ho) hC))
 has:=c05
 tO:=λy c h e=>fE hC (AQ (He _ _ _ y c (Ey.mp h) e))
 hd:=I.ok.hd
 frames:=I.ok.frames
 xX:=.inl rfl
 xY:=λb hb=>⟨by
  obtain⟨o,e,_⟩:=ho b hb
  exact gh (dz (b9 e) hC),λy c e z=>by
  rcases zx _ _ _ y c e with⟨h1,_⟩ | h1
  ·obtain⟨o,e,_⟩:=ho b hb
   rw[z]at h1
   exact absurd (dz (b9 e) (fE hC (AQ h1))) (gU _)
  ·exact(hf b hb).2.2.2.2.1 y c (ip _ _ h1) z⟩
 bs:=I.bs
 kA:=fE I.ok.kA I.sz
 v9:=λb o e hb=>by
  rcases(hf b hb).2.2.2.1 with z | z
  ·exact I.ok.v9 b o e z
  ·exact absurd (dz (b9 (I.ok.bs b o e).1) z) (gU _)
 wa:=λb hb z=>(cj.mp (I.AY b z)).elim (hf b hb).2.1 (hf b hb).2.2.1
 hZ:=I.stack
 kB:=I.MQ
end
theorem Hf:∀(ns:List (Str × NameKind)) (h:Heap) (acc:List (Str × Addr)) (y:Str) (c:Addr),(cellsFrom h.objs.size ns acc).lookup y=some c->(∃o,(pushCells h ns).get? c=some o/\o.data=.cell none)\/acc.lookup y=some c
 | [],_,_,_,_,e=>.inr e
 | (z,k)::r,h,acc,y,c,e=>by
  unfold cellsFrom at e
  unfold pushCells
  split at e
  ·rename_i hk
   rw[if_pos hk]
   rw[<-xH h { cls:=.type "cell",data:=.cell none }]at e
   rcases Hf r _ _ y c e with h1 | h1
   ·exact .inl h1
   ·rw[gq]at h1
    cases q:y==z with
    | true =>
     rw[q]at h1;cases h1
     exact .inl ⟨_,pushCells_keeps _ _ _ _ (i5 _ rfl),rfl⟩
    | false=>rw[q]at h1;exact .inr h1
  ·rename_i hk
   rw[if_neg hk]
   exact Hf r h acc y c e
end L2
namespace L2
open PySem PySem.Spec PyProof.Rows
section
variable{X:Cx}{elt iter tg:Expr}{pos:Pos}{ifs:List Expr}{scope:Scope}{cl:List (Str × Addr)}{wi:TI}{tt:TT}{te:TE}{g:TG}
theorem Ql(aw:List (Str × Nat))(bK:List Str)(hc:X.calm=true)(hi:PI X tg iter wi)
  (hg:∀C s H fp,PG (dw X scope (aw.map (·.1)++bK) cl C s H fp) tg g)
  (ht:∀C s H fp,mG (dw X scope (aw.map (·.1)++bK) cl C s H fp) ifs tt) (he:∀C s H fp,PE (dw X scope (aw.map (·.1)++bK) cl C s H fp) elt te)
  (kh:closureFor scope X.env=pure cl) (ki:lj X cl) (kj:∀C:Addr,ly (cellsFrom (C+1) scope.names cl) (relabel scope X.env).names) (km:∀C:Addr,lh X scope (cellsFrom (C+1) scope.names cl) aw)
  (gY:scope.kind=.function) (kn:∀y∈scope.names,y.2=.local->scope.names.lookup y.1=some .local)
  (hs:∀x,foldedSetIterable iter X.env x=pure x:=by intro _;rfl) {pins:List (Addr × Obj)} {s:Shared} {σ:L2.St} {H:Hp} {Q:VK} {use:Option (Value->Sem Unit)} {bI:Pos} {Rf:Value->Shared->Prop} (I:Inv X pins σ H s) (h:Bn wi aw bK.length g tt te σ H Q)
  (c06:∀(s':Shared) (H':Hp) (C Da:Addr) (m:Str->Option Value),Inv X pins σ H' s'->s'.heap.Ns C m->H' C=none->C≠X.env.locals->X.eA.heap.objs.size<=C->(∀x c,X.env.cells.lookup x=some c->c≠C)->(∀p∈X.pn++pins,p.1≠C)->C ∉ X.fs->Q (.ref Da) H' ->
   compPost (model X.prog X.w) X.A X.xe use Rf (.ref Da) C (.ok .next) s') :
  wpAny (model X.prog X.w) X.A (comprehension (.ListComp elt [⟨tg,iter,ifs,0⟩] scope pos) scope X.env bI (newList []) false (eval iter X.env) use) Rf X.xe s:=by
 have ip:=ki.all
 refine wpAny_comprehension_free (use:=use) rfl hs kh gY kn (aT (hi pins s σ H _ I h) λv s1 h1=>aT h1 λEX s2 h2=>?_)
 obtain⟨it,fp,tn,J,H2,e,I2,T,ye,f2,q⟩:=h2
 subst e
 refine wpAny_newList ?_
 refine bP0 ?_
 have hD:H2 s2.heap.objs.size=none:=I2.aS.fresh (bL _)
 obtain⟨W,⟨m0,w0⟩,turn⟩:=q s2.heap.objs.size hD
 generalize Hg:s2.heap.push { cls:=.type "list",data:=.seq ([]:List Value).toArray }=g0 at ⊢
 have hCs:g0.objs.size=s2.heap.objs.size+1:=by rw[<-Hg,xH]
 have hDC:s2.heap.objs.size≠g0.objs.size:=by omega
 have hle:s2.heap.objs.size<=g0.objs.size:=by omega
 have wb:∀b o,s2.heap.get? b=some o->b≠g0.objs.size:=λb o e=>gh (dz (b9 e) hle)
 obtain⟨g1,Cd⟩:∃g1,g1=pushCells (g0.push { cls:=.type "dict",data:=.dict #[] }) scope.names:=⟨_,rfl⟩
 have ns1:g1.Ns g0.objs.size (λ_=>none):=by rw[Cd];exact(Heap.Ns.new g0 (.type "dict")).keeps (pushCells_keeps _ _)
 have Qm:∀b o,g0.get? b=some o->g1.get? b=some o:=λb o e=>by rw[Cd];exact pushCells_keeps _ _ b o (gG _ e)
 have old:∀b o,s2.heap.get? b=some o->g1.get? b=some o:=λb o e=>Qm b o (Hg ▸ gG _ e)
 rw[<-Cd]
 have hDg:g1.get? s2.heap.objs.size=some { cls:=.type "list",data:=.seq ([]:List Value).toArray }:=Qm _ _ (Hg ▸ i5 _ rfl)
 have Qn:∀b∈fp,∃o,s2.heap.get? b=some o/\∀v,o.data≠.cell v:=T.obj _ _ ye
 have Ce:=b88 (scope:=scope) (cl:=cl) (C:=g0.objs.size) I2 gY hle ip (kj g0.objs.size).all f2 Qn (aw.map (·.1)++bK)
 have I4:Inv (dw X scope (aw.map (·.1)++bK) cl g0.objs.size s2 H2 fp) [] (gu aw bK.length σ) (upd H2 s2.heap.objs.size (.lst [])) { s2 with heap:=g1 }:=by
  refine⟨Ce,rfl,I2.bare,Un.laid old (bL _) hD,⟨_,ns1,λi y v h1 h2 h3=>?_⟩,λy c e=>?_,?_,λy c e=>?_,λp hp=>absurd hp (by simp[dw,Bl]),I2.aS.laid old (bL _) ⟨iC _,[],0,.nil,hDg⟩,by simp[gu,dw,Bl]⟩
  ·by_cases Hh:i<aw.length
   case neg =>
    have j6:((aw.map λp=>(σ[p.2]?).getD none)++bg bK.length none)[i]?=some (some v):=h2
    rw[nB (by simpa using Hh),qj]at j6
    split at j6<;>cases j6
   case pos =>
    have kD:(aw.map (·.1))[i]?=some y:=by
     have z:(aw.map (·.1)++bK)[i]?=some y:=h1
     rwa [s8 (by simpa using Hh)]at z
    have j6:(aw.map λp=>(σ[p.2]?).getD none)[i]?=some (some v):=by
     have z:((aw.map λp=>(σ[p.2]?).getD none)++bg bK.length none)[i]?=some (some v):=h2
     rwa [s8 (by simpa using Hh)]at z
    rw[bO]at kD j6
    cases hj:aw[i]? with
    | none=>rw[hj]at kD;cases kD
    | some p =>
     rw[hj]at kD j6
     have ey:p.1=y:=dh kD
     have ev:(σ[p.2]?).getD none=some v:=dh j6
     obtain⟨hN,hk,pM,c,e1,e2⟩:=(km g0.objs.size).at p (s9 hj)
     obtain⟨m,hn,hl⟩:=I2.loc
     have es:σ[p.2]?=some (some v):=by
      cases z:σ[p.2]? with
      | none=>rw[z]at ev;cases ev
      | some o=>rw[z]at ev;exact congrArg some ev
     obtain⟨u,ru,lk⟩:=hl p.2 p.1 v hN es (hk.elim (λz=>.inr (.inl z)) λz=>.inr (.inr z))
     refine⟨u,ru,?_⟩
     rcases lk with⟨lk,_⟩ | ⟨_,c',e3,ic⟩
     ·rcases hk with hk | hk
      ·have:=hk.symm.trans lk;cases this
      ·have:=hk.symm.trans lk;cases this
     ·rw[e2]at e3
      cases e3
      subst ey
      obtain⟨oc,jB,GS⟩:=ic
      exact .inr ⟨pM,c,e1,oc,old _ _ jB,GS⟩
  ·rcases Hf _ _ _ y c (show(cellsFrom (g0.push { cls:=.type "dict",data:=.dict #[] }).objs.size scope.names cl).lookup y=some c by rw[xH];exact e)with h1 | h1
   ·rw[<-Cd]at h1
    exact⟨none,h1⟩
   ·obtain⟨v,o,ho,hd⟩:=I2.cell y c (ip y c h1)
    exact⟨v,o,old _ _ ho,hd⟩
  ·show upd H2 _ _ g0.objs.size=none
   rw[aV (gW hDC)]
   exact I2.aS.fresh hle
  ·rcases zx _ _ _ y c e with⟨h1,_⟩ | h1
   ·rw[aV (Nat.ne_of_gt (nH hle h1))]
    exact I2.aS.fresh (fE hle (AQ h1))
   ·obtain⟨v,o,ho,hd⟩:=I2.cell y c (ip y c h1)
    rw[aV (gh (b9 ho))]
    exact I2.jZ y c (ip y c h1)
 have fin:∀(s':Shared) (H':Hp) (aK:L2.St),Inv (dw X scope (aw.map (·.1)++bK) cl g0.objs.size s2 H2 fp) [] aK H' s'->Q (.ref s2.heap.objs.size) H' ->
   compPost (model X.prog X.w) X.A X.xe use Rf (.ref s2.heap.objs.size) g0.objs.size (.ok .next) s':=by
  intro s' H' aK I' q'
  obtain⟨m,hn,_⟩:=I'.loc
  have u:=I'.base
  have hC':H' g0.objs.size=none:=I'.free
  have IX:Inv X pins σ H' s':=I2.Xr (s':=s') (ch:=fp) I'.os ⟨u.keep,u.slot,u.free,u.there,u.kU,u.kz,u.jz⟩ I'.aS I'.bare λb hb=>by
   obtain⟨_,y1,y2,y3,y4,y5⟩:=f2 b hb
   exact⟨y3,y1,y4,y5⟩
  have Qo:∀b,(∃o,s2.heap.get? b=some o)->b≠g0.objs.size:=λb ⟨o,e⟩=>wb b o e
  refine c06 s' H' g0.objs.size s2.heap.objs.size m IX hn hC' (λz=>?_) (fE I2.sz hle) (λx c e z=>?_) (λp hp z=>?_) (λz=>?_) q'
  ·have h0:X.env.locals<s2.heap.objs.size:=I2.lt
   rw[<-z]at h0
   exact gU _ (dz h0 hle)
  ·obtain⟨v,o,ho,_⟩:=I2.cell x c e
   exact Qo c ⟨o,ho⟩ z
  ·exact Qo p.1 ⟨_,(I2.pin p hp).1⟩ z
  ·exact I2.MP hle z
 have Hi:∀(H':Hp),(∀b∈fp,H' b=none)->∀b∈fp,jD (dw X scope (aw.map (·.1)++bK) cl g0.objs.size s2 H2 fp) [] H' b:=λH' hn b hb =>
  ⟨hn b hb,(Ce.xY b hb).1,Ce.wa b hb,.inl hb,(Ce.xY b hb).2,λp hp=>absurd hp (by simp[dw,Bl])⟩
 have loop:codeAny (model X.prog X.w) X.A (.compLoop (.ListComp elt [⟨tg,iter,ifs,0⟩] scope pos) 0 (.ref it) (.ref s2.heap.objs.size) (compEnvC scope (cellsFrom (g0.objs.size+1) scope.names cl) g0.objs.size X.env))
   (compPost (model X.prog X.w) X.A X.xe use Rf (.ref s2.heap.objs.size) g0.objs.size) { s2 with heap:=g1 }:=by
  refine ω (λn s'=>∃i acc H',Inv (dw X scope (aw.map (·.1)++bK) cl g0.objs.size s2 H2 fp) [] (gu aw bK.length σ) H' s'/\tn i s'.heap/\(∀b∈fp,H' b=none)/\W i n acc H') ?_ m0
   ⟨0,[],_,I4,T.keep _ _ _ ye λb hb o e=>old b o e,λb hb=>?_,w0⟩
  ·rintro n s' ⟨i,acc,H',I',qC,ph,w'⟩
   obtain⟨lJ,⟨stop,qn⟩ | ⟨go,step⟩⟩:=turn i n acc H' w'
   ·refine aT (T.done (dw X scope (aw.map (·.1)++bK) cl g0.objs.size s2 H2 fp) rfl rfl rfl hc i [] s' _ H' (λ_ _=>False) I' (Hi H' ph) qC stop) λr t1 zz=>?_
    obtain⟨hr,I1⟩:=zz
    subst hr
    exact fin _ _ _ I1 qn
   ·refine aT (T.item (dw X scope (aw.map (·.1)++bK) cl g0.objs.size s2 H2 fp) rfl rfl rfl hc i [] s' _ H' (λ_ _=>False) I' (Hi H' ph) qC go) λr t1 zz=>?_
    obtain⟨u,hr,h4⟩:=zz
    subst hr
    refine aT h4 λ_ t2 zz=>?_
    obtain⟨x5,H5,I5,r5,y5,tU,yf⟩:=zz
    obtain⟨BD,st6⟩:=step x5 H5 y5
    have E3:=I5.pinned (Hi H5 yf) (T.obj _ _ tU)
    refine aT (hg _ _ _ _ _ t2 _ H5 x5 u _ E3 r5 st6) λ_ t3 zz=>?_
    obtain⟨E4,H6,I6,⟨c14,c15⟩,st7⟩:=zz
    have back:∀(s7:Shared) (H7:Hp) (Hj:List V) (m7:Nat),Inv (dw X scope (aw.map (·.1)++bK) cl g0.objs.size s2 H2 fp) ([]++yc fp t2.heap) E4 H7 s7->W (i+1) m7 Hj H7 ->
      ∃i acc H',Inv (dw X scope (aw.map (·.1)++bK) cl g0.objs.size s2 H2 fp) [] (gu aw bK.length σ) H' s7/\tn i s7.heap/\(∀b∈fp,H' b=none)/\W i m7 acc H':=λs7 H7 Hj m7 I7 w7 =>
     ⟨i+1,Hj,H7,(I7.yd).weak c14.symm λj v z=>by
       by_cases hj:j<aw.length
       ·rw[c15 j hj];exact z
       ·have z':((aw.map λp=>(σ[p.2]?).getD none)++bg bK.length none)[j]?=some (some v):=z
        rw[nB (by simpa using hj),qj]at z'
        split at z'<;>(cases z'),
      T.keep _ _ _ tU λb hb o e=>(I7.pin (b,o) (cY _ (cY _ (Be hb e)))).1,λb hb=>by
       obtain⟨o,e,d⟩:=T.obj _ _ tU b hb
       exact(I7.pin (b,o) (cY _ (cY _ (Be hb e)))).2.1,w7⟩
    refine aT (ht _ _ _ _ _ t3 _ H6 _ I6 st7) λok t4 zz=>?_
    obtain⟨H7,I7,hD7,q7⟩:=zz
    cases ok with
    | false =>
     obtain⟨m',hm,w7⟩:=(show ∃m',m'<n/\W (i+1) m' acc H7 from q7)
     exact⟨m',hm,back t4 H7 acc m' I7 w7⟩
    | true =>
     refine aT (he _ _ _ _ _ t4 _ H7 _ I7 q7) λy t5 zz=>?_
     obtain⟨v8,H8,I8,r8,hD8,hl8,m',hm,w8⟩:=zz
     exact aT (Fv _ t5 _ H8 (.ref s2.heap.objs.size) [v8] (.ref s2.heap.objs.size) [y] (λ_ H9=>H9=upd H8 s2.heap.objs.size (.lst (acc++[v8]))) I8 rfl (.cons r8 .nil) ⟨_,acc,v8,rfl,rfl,hD8,hl8,rfl⟩) λ_ t6 zz=>by
      obtain⟨_,H9,I9,_,e9⟩:=zz
      subst e9
      exact⟨m',hm,back t6 _ _ m' I9 w8⟩
  ·obtain⟨o,e,_⟩:=Qn b hb
   rw[aV (gh (b9 e))]
   exact(f2 b hb).1
 exact codeAny_compStart_list loop (T.self _ 0 _ _ _ (T.keep _ _ _ ye λb hb o e=>old b o e) loop)
theorem Qp(aw:List (Str × Nat))(bK:List Str)(hc:X.calm=true)(hi:PI X tg iter wi)
  (hg:∀C s H fp,PG (dw X scope (aw.map (·.1)++bK) cl C s H fp) tg g)
  (ht:∀C s H fp,mG (dw X scope (aw.map (·.1)++bK) cl C s H fp) ifs tt) (he:∀C s H fp,PE (dw X scope (aw.map (·.1)++bK) cl C s H fp) elt te)
  (kh:closureFor scope X.env=pure cl) (ki:lj X cl) (kj:∀C:Addr,ly (cellsFrom (C+1) scope.names cl) (relabel scope X.env).names) (km:∀C:Addr,lh X scope (cellsFrom (C+1) scope.names cl) aw)
  (gY:scope.kind=.function) (kn:∀y∈scope.names,y.2=.local->scope.names.lookup y.1=some .local)
  (hs:∀x,foldedSetIterable iter X.env x=pure x:=by intro _;rfl):PE X (.ListComp elt [⟨tg,iter,ifs,0⟩] scope pos) (Bn wi aw bK.length g tt te):=by
 intro pins s σ H Q I h
 rw[eval_ListComp]
 refine Ql aw bK hc hi hg ht he kh ki kj km gY kn hs I h λs' H' C Da m IX hn hC hL h1 h2 h3 h4 q'=>?_
 exact⟨m,hn,λh' sb=>⟨.ref Da,H',IX.turned (t':=s'.toks) (λb o hb e=>sb.extBut b o hb e) hC hL (.inr h1) h2 h3,rfl,q'⟩⟩
theorem Qq{i:Nat}{x:Str}{pos' apos:Pos}(hN:X.N.Nodup)(zy:X.N[i]?=some x)(hx:Loc X.env.scope x)(hf:X.fn x=true\/X.env.scope.names.lookup x=some .local)(aw:List (Str × Nat))(bK:List Str)(hc:X.calm=true)(hi:PI X tg iter wi)
  (hg:∀C s H fp,PG (dw X scope (aw.map (·.1)++bK) cl C s H fp) tg g)
  (ht:∀C s H fp,mG (dw X scope (aw.map (·.1)++bK) cl C s H fp) ifs tt) (he:∀C s H fp,PE (dw X scope (aw.map (·.1)++bK) cl C s H fp) elt te)
  (kh:closureFor scope X.env=pure cl) (ki:lj X cl) (kj:∀C:Addr,ly (cellsFrom (C+1) scope.names cl) (relabel scope X.env).names) (km:∀C:Addr,lh X scope (cellsFrom (C+1) scope.names cl) aw)
  (gY:scope.kind=.function) (kn:∀y∈scope.names,y.2=.local->scope.names.lookup y.1=some .local)
  (j8:swapsWith (.ListComp elt [⟨tg,iter,ifs,0⟩] scope pos) (some (.Name x pos')) apos.line X.env=pure true) (hs:∀x,foldedSetIterable iter X.env x=pure x:=by intro _;rfl):PS X (.Assign [.Name x pos'] (.ListComp elt [⟨tg,iter,ifs,0⟩] scope pos) apos) (EV (Bn wi aw bK.length g tt te) (we i)):=by
 intro pins s σ H D I h
 rw[exec_Assign_Name_used x pos' _ apos j8]
 refine wpAny_bind (wpAny_standAt (wpAny_bind ?_))
 have hh:Bn wi aw bK.length g tt te σ H λv H1=>D.nx (σ.set i (some v)) H1:=h
 show wpAny _ _ (comprehension (.ListComp elt [⟨tg,iter,ifs,0⟩] scope pos) scope X.env (firstIterPos [⟨tg,iter,ifs,0⟩] pos) (newList []) false (eval iter X.env) (some (assign (.Name x pos') X.env)) >>= λ_=>pure ()) _ _ _
 refine wpAny_bind (Ql (use:=some (assign (.Name x pos') X.env)) (pos:=pos) aw bK hc hi hg ht he kh ki kj km gY kn hs I hh λs' H' C Da m IX hn hC hL h1 h2 h3 h4 q'=>?_)
 obtain⟨oC,es,ep,hoC,Qr,rest⟩:=id hn
 have IP:Inv X (pins++[(C,oC)]) σ H' s':=⟨IX.ok,IX.os,IX.bare,IX.base,IX.loc,IX.cell,IX.free,IX.jZ,λp hp=>by
  rcases cg.mp hp with z | z
  ·exact IX.pin p (dZ _ z)
  ·rcases cg.mp z with z | z
   ·exact IX.pin p (cY _ z)
   ·obtain rfl:=gn.mp z
    exact⟨hoC,hC,hL,h4,λv w=>by rw[Qr]at w;cases w⟩,IX.aS,IX.len⟩
 refine aT (ya (X:=X) hN zy hx hf _ s' σ H' (.ref Da) (.ref Da) (λmD H2=>mD=σ.set i (some (.ref Da))/\H2=H') IP rfl ⟨rfl,rfl⟩) λ_ s2 zz=>?_
 obtain⟨mD,H2,I2,e1,e2⟩:=zz
 subst e1 e2
 have pC:=I2.pin (C,oC) (cY _ (cY _ (by simp)))
 refine⟨m,⟨oC,es,ep,pC.1,Qr,rest⟩,λh' sb=>wpAny_pure (wpAny_pure ?_)⟩
 exact⟨σ.set i (some (.ref Da)),H2,(I2.yd).turned (t':=s2.toks) (λb o hb e=>sb.extBut b o hb e) hC hL (.inr h1) h2 h3,q'⟩
end
end L2
namespace L3
open PySem L2 PySem.Spec PyProof.Rows
section
variable{X:Cx}{elt iter tg:Expr}{pos:Pos}{ifs:List Expr}{scope:Scope}{cl:List (Str × Addr)}{ti:jM}{tt:fI}{te:aH}{g:iK}
theorem dy(aw:List (Str × Nat))(bK:List Str)(hc:X.calm=true)(hi:PI X tg iter (lI ti))
  (hg:∀C s H fp,PG (dw X scope (aw.map (·.1)++bK) cl C s H fp) tg (lG aw.length g))
  (ht:∀C s H fp,mG (dw X scope (aw.map (·.1)++bK) cl C s H fp) ifs (lT tt)) (he:∀C s H fp,PE (dw X scope (aw.map (·.1)++bK) cl C s H fp) elt (lE te))
  (kh:closureFor scope X.env=pure cl) (ki:lj X cl:=by repeat' (first | exact trivial | refine⟨rfl,?_⟩)) (kj:∀C:Addr,ly (cellsFrom (C+1) scope.names cl) (relabel scope X.env).names:=by intro _;repeat' (first | exact trivial | refine⟨.inl rfl,?_⟩ | refine⟨.inr (.inl rfl),?_⟩ | refine⟨.inr (.inr ⟨_,rfl⟩),?_⟩)) (km:∀C:Addr,lh X scope (cellsFrom (C+1) scope.names cl) aw:=by intro _;repeat' (first | exact trivial | refine⟨⟨rfl,.inl rfl,.inl rfl,_,rfl,rfl⟩,?_⟩))
  (gY:scope.kind=.function:=by rfl) (kn:∀y∈scope.names,y.2=.local->scope.names.lookup y.1=some .local:=by decide +kernel)
  (hs:∀x,foldedSetIterable iter X.env x=pure x:=by intro _;rfl):PE X (.ListComp elt [⟨tg,iter,ifs,0⟩] scope pos) (lE (mO ti aw bK.length g tt te)) :=
 dm (Qp aw bK hc hi hg ht he kh ki kj km gY kn hs) λσ H Q zq=>by
 obtain⟨B,F,δ,ts,Qd,c,q,k⟩:=zq
 exact⟨B,F,δ,ts,_,c,q,λsh xs ak J F1 H1 hq f1 h1 c1 oA uk=>by
  obtain⟨p,f,hx,fJ,hlen,hQ⟩:=hq
  exact Gg c1 oA uk p f hx fJ hlen hQ λd ai v F' H' hd hf hs c'=>k d ai v F' H' hd (f1.trans hf) (h1.trans hs) c'⟩
theorem Cf{i:Nat}{x:Str}{pos' apos:Pos}(hN:X.N.Nodup)(zy:X.N[i]?=some x)(hx:L2.Loc X.env.scope x)(aw:List (Str × Nat))(bK:List Str)(hc:X.calm=true)(hi:PI X tg iter (lI ti))
  (hg:∀C s H fp,PG (dw X scope (aw.map (·.1)++bK) cl C s H fp) tg (lG aw.length g))
  (ht:∀C s H fp,mG (dw X scope (aw.map (·.1)++bK) cl C s H fp) ifs (lT tt)) (he:∀C s H fp,PE (dw X scope (aw.map (·.1)++bK) cl C s H fp) elt (lE te))
  (kh:closureFor scope X.env=pure cl) (ki:lj X cl:=by repeat' (first | exact trivial | refine⟨rfl,?_⟩)) (kj:∀C:Addr,ly (cellsFrom (C+1) scope.names cl) (relabel scope X.env).names:=by intro _;repeat' (first | exact trivial | refine⟨.inl rfl,?_⟩ | refine⟨.inr (.inl rfl),?_⟩ | refine⟨.inr (.inr ⟨_,rfl⟩),?_⟩)) (km:∀C:Addr,lh X scope (cellsFrom (C+1) scope.names cl) aw:=by intro _;repeat' (first | exact trivial | refine⟨⟨rfl,.inl rfl,.inl rfl,_,rfl,rfl⟩,?_⟩))
  (gY:scope.kind=.function:=by rfl) (kn:∀y∈scope.names,y.2=.local->scope.names.lookup y.1=some .local:=by decide +kernel)
  (j8:swapsWith (.ListComp elt [⟨tg,iter,ifs,0⟩] scope pos) (some (.Name x pos')) apos.line X.env=pure true:=by rfl) (hf:X.fn x=true\/X.env.scope.names.lookup x=some .local:=by first | exact .inl rfl | exact .inr rfl)
  (hs:∀x,foldedSetIterable iter X.env x=pure x:=by intro _;rfl):PS X (.Assign [.Name x pos'] (.ListComp elt [⟨tg,iter,ifs,0⟩] scope pos) apos) (lS X (ot i (mO ti aw bK.length g tt te))) :=
 jk (Qq hN zy hx hf aw bK hc hi hg ht he kh ki kj km gY kn j8 hs) λEn σ H zq=>by
 obtain⟨B,F,δ,Dd,c,q,k1,k2,k3,k4⟩:=zq
 exact⟨B,F,δ,[],_,c,q,λsh xs ak J F1 H1 hq f1 h1 c1 oA uk=>by
  obtain⟨p,f,hx,fJ,hlen,hQ⟩:=hq
  exact Gg (Qd:=λd ai=>Dd.nx (ai.set i (some d))) c1 oA uk p f hx fJ hlen hQ λd ai v F' H' hd hf hs c'=>k1 _ _ F' H' hd (c'.store i)⟩
end
end L3
namespace L3
open PySem L2 Mf
theorem lo1{m:Bool × Nat}(hm:m∈ay):1<aa m:=by have:=(cI hm).lo;omega
inductive Sp(N:Nat)(p q:Nat->Nat->Nat)(S:(Nat->Nat)->Prop):(Nat->Nat)->Prop
 | mem {f:Nat->Nat}:S f->Sp N p q S f
 | zero:Sp N p q S λ_=>0
 | add {f g:Nat->Nat}:Sp N p q S f->Sp N p q S g->Sp N p q S λk=>p (f k) (g k)
 | mul {f:Nat->Nat} (c:Nat):c<N->Sp N p q S f->Sp N p q S λk=>q c (f k)
theorem Sp.trans{N:Nat}{p q:Nat->Nat->Nat}{S S':(Nat->Nat)->Prop}(h:∀f,S f->Sp N p q S' f){f:Nat->Nat}(s:Sp N p q S f):Sp N p q S' f:=by
 induction s with
 | mem a=>exact h _ a
 | zero=>exact .zero
 | add _ _ a b=>exact .add a b
 | mul c hc _ a=>exact .mul c hc a
noncomputable def Gn(T:List (List Nat))(f:Nat->Nat):Prop:=∃r∈T,f=cf r
noncomputable def bQ(m:Bool × Nat)(T:List (List Nat))(f:Nat->Nat):Prop:=Sp (aa m) (gp m) (gm m) (Gn T) f
theorem bQ.of{m:Bool × Nat}{T:List (List Nat)}{r:List Nat}(h:r∈T):bQ m T (cf r):=.mem ⟨r,h,rfl⟩
theorem b64{m:Bool × Nat}(hm:m∈ay){a:Nat}(ha:a<aa m){f f' l:Nat->Nat}(Hk:∀k,f' k<aa m)(hl:∀k,l k<aa m)(h:∀k,gp m (f' k) (gm m a (l k))=f k):∃b,b<aa m/\f'=λk=>gp m (f k) (gm m b (l k)):=by
 have r:=rg hm
 obtain⟨b,hb,e⟩:=r.ng ha
 refine⟨b,hb,funext λk=>?_⟩
 rw[<-h k,r.pa,r.mc a,r.mc b,<- r.dl,e,r.qz,r.z' (Hk k)]
theorem Hl{m:Bool × Nat}(hm:m∈ay){r l:List Nat}{w:Nat}(hr:r.length=w)(hl:l.length=w)(a k:Nat):cf (eI (λx y=>bx m x (gm m a y)) r l) k=bx m (cf r k) (gm m a (cf l k)):=by
 by_cases h:k<w
 ·unfold cf
  rw[aM,xS,aO (by omega),aO (by omega),aM,aO (by omega),aM,aO (by omega)]
  rfl
 ·rw[m8 (by rw[nM];omega),m8 (l:=r) (by omega),m8 (l:=l) (by omega),iu m _ (b8 m hm),B9]
theorem Cg{m:Bool × Nat}(hm:m∈ay){r l:List Nat}{w a:Nat}(hr:r.length=w)(hl:l.length=w)(ar:AllLt (aa m) r)(k:Nat):gp m (cf (eI (λx y=>bx m x (gm m a y)) r l) k) (gm m a (cf l k))=cf r k:=by
 rw[Hl hm hr hl]
 exact(iU hm (dv hm ar k) (bX hm _ _)).2.2
theorem Hm{m:Bool × Nat}(hm:m∈ay){r l:List Nat}{w:Nat}(hr:r.length=w)(hl:l.length=w)(ar:AllLt (aa m) r)(a k:Nat):cf (eI (λx y=>bx m x (gm m a y)) r l) k<aa m:=by
 rw[Hl hm hr hl]
 exact(iU hm (dv hm ar k) (bX hm _ _)).2.1
theorem Qs{m:Bool × Nat}(hm:m∈ay){w p i:Nat}{T:List (List Nat)}(hT:RT (aa m) w T)(e:ke T p=some i):∃(g:List Nat) (c:Nat),g∈T/\T.getD i []=g/\g.length=w/\AllLt (aa m) g/\c<aa m/\gm m c (cf g p)=1/\(dY m T i p).length=w/\AllLt (aa m) (dY m T i p)/\(∀k,cf (dY m T i p) k=gm m c (cf g k))/\cf (dY m T i p) p=1/\∀k,gm m (cf g p) (cf (dY m T i p) k)=cf g k:=by
 obtain⟨hi,h1,h2⟩:=Cb e
 obtain⟨a,b⟩:=hT _ (cT hi)
 have l1:1<aa m:=lo1 hm
 obtain⟨c,hc,Ci⟩:=Qc hm l1 (dv hm b p) h1
 have ec:nh m (cf T[i] p)=c:=Ca hm hc Ci
 have el:dY m T i p=T[i].map (gm m c):=by unfold dY;rw[h2,<- ec];rfl
 have ek:∀k,cf (dY m T i p) k=gm m c (cf T[i] k):=λk=>by rw[el];exact cw6 hm _ _ _
 refine⟨T[i],c,cT hi,h2,a,b,hc,Ci,by rw[el,bt,a],λx hx=>?_,ek,by rw[ek];exact Ci,λk=>?_⟩
 ·rw[el]at hx
  obtain⟨y,_,rfl⟩:=bE.mp hx
  exact bX hm _ _
 ·rw[ek,<- ir (b8 m hm),gO m _ c,Ci,pz (dv hm b k)]
theorem Qt{m:Bool × Nat}{s:List (List Nat) × List (List Nat)}{p i:Nat}(e:ke s.2 p=some i):iW m s p=(hE m s.1 (dY m s.2 i p) p++[dY m s.2 i p],hE m (s.2.take i++s.2.drop (i+1)) (dY m s.2 i p) p):=by unfold iW;rw[e]
theorem Qu{m:Bool × Nat}{s:List (List Nat) × List (List Nat)}{p:Nat}(e:ke s.2 p=none):iW m s p=s:=by unfold iW;rw[e]
theorem Cj{α:Type}{T:List α}{i:Nat}{r:α}(h:r∈T.take i++T.drop (i+1)):r∈T:=(cg.mp h).elim tE nL
theorem b54{α:Type}{T:List α}{i:Nat}{r:α}(h:r∈T)(hi:i<T.length):r=T[i]\/r∈T.take i++T.drop (i+1):=by
 obtain⟨j,hj,rfl⟩:=gX h
 rcases MD j i with h | h | h
 ·exact .inr (cg.mpr (.inl (List.mem_take_iff_getElem.mpr ⟨j,by omega,rfl⟩)))
 ·subst h;exact .inl rfl
 ·exact .inr (cg.mpr (.inr (List.mem_drop_iff_getElem.mpr ⟨j-(i+1),by omega,by congr 1;omega⟩)))
theorem bP1{m:Bool × Nat}(hm:m∈ay){w n p:Nat}{s:List (List Nat) × List (List Nat)}(h:zw (aa m) w n s)(f:Nat->Nat):bQ m (s.1++s.2) f↔bQ m ((iW m s p).1++(iW m s p).2) f:=by
 cases e:ke s.2 p with
 | none=>rw[Qu e]
 | some i =>
  obtain⟨g,c,g1,g2,g3,g4,c1,c2,l1,l2,l3,l4,l5⟩:=Qs hm h.b e
  obtain⟨hi,_,hg⟩:=Cb e
  rw[Qt e]
  generalize dY m s.2 i p=l at l1 l2 l3 l4 l5
  have ll:=dv hm l2
  have row:∀{T:List (List Nat)},RT (aa m) w T->∀r'∈hE m T l p,∃r∈T,∃b,b<aa m/\cf r'=λk=>gp m (cf r k) (gm m b (cf l k)):=λ{T} hT r' bf=>by
   obtain⟨r,hr,rfl⟩:=bE.mp bf
   obtain⟨a1,a2⟩:=hT r hr
   exact⟨r,hr,b64 hm (dv hm a2 p) (Hm hm a1 l1 a2 _) ll (Cg hm a1 l1 a2)⟩
  have Qv:∀{T:List (List Nat)},RT (aa m) w T->∀r∈T,∃r'∈hE m T l p,cf r=λk=>gp m (cf r' k) (gm m (cf r p) (cf l k)):=λ{T} hT r hr=>by
   obtain⟨a1,a2⟩:=hT r hr
   exact⟨_,bE.mpr ⟨r,hr,rfl⟩,funext λk=>(Cg hm a1 l1 a2 k).symm⟩
  have hB:RT (aa m) w (s.2.take i++s.2.drop (i+1)):=λr hr=>h.b r (Cj hr)
  constructor
  ·refine Sp.trans ?_
   rintro f ⟨r,hr,rfl⟩
   have hl:bQ m ((hE m s.1 l p++[l])++hE m (s.2.take i++s.2.drop (i+1)) l p) (cf l):=bQ.of (by simp)
   rcases cg.mp hr with hr | hr
   ·obtain⟨r',h1,h2⟩:=Qv h.a r hr
    rw[h2]
    exact .add (bQ.of (by simp[h1])) (.mul _ (dv hm (h.a r hr).2 p) hl)
   ·rcases b54 hr hi with e' | bf
    ·have:cf r=λk=>gm m (cf g p) (cf l k):=funext λk=>by rw[l5 k,e',<- hg,g2]
     rw[this]
     exact .mul _ (dv hm g4 p) hl
    ·obtain⟨r',h1,h2⟩:=Qv hB r bf
     rw[h2]
     exact .add (bQ.of (by simp[h1])) (.mul _ (dv hm (h.b r hr).2 p) hl)
  ·refine Sp.trans ?_
   rintro f ⟨r,hr,rfl⟩
   have hl:bQ m (s.1++s.2) (cf l):=by
    have:cf l=λk=>gm m c (cf g k):=funext l3
    rw[this]
    exact .mul _ c1 (bQ.of (cY _ g1))
   rcases cg.mp hr with hr | hr
   ·rcases cg.mp hr with hr | hr
    ·obtain⟨r1,h1,b,hb,h2⟩:=row h.a r hr
     rw[h2]
     exact .add (bQ.of (dZ _ h1)) (.mul _ hb hl)
    ·rw[gn]at hr
     rw[hr];exact hl
   ·obtain⟨r1,h1,b,hb,h2⟩:=row hB r hr
    rw[h2]
    exact .add (bQ.of (cY _ (Cj h1))) (.mul _ hb hl)
structure RR(w:Nat)(R:List (List Nat))(H:Nat->Nat):Prop where
 u:∀i j,i<R.length->j<R.length->cf (R.getD i []) (H j)=if i=j then 1 else 0
 z:∀i,i<R.length->∀t,t<H i->cf (R.getD i []) t=0
 i:∀i j,i<j->j<R.length->H i<H j
 l:∀i,i<R.length->H i<w
theorem vh{α β:Type}(f:α->β){l:List α}{i:Nat}(h:i<l.length)(a:α)(b:β):(l.map f).getD i b=f (l.getD i a):=by
 rw[aM,bO,aM,aO h];rfl
theorem cy{α:Type}{l:List α}{i:Nat}(h:i<l.length)(a:α):l.getD i a∈l:=by
 rw[aM,aO h];exact cT h
theorem bF2{m:Bool × Nat}(hm:m∈ay){w n p:Nat}{s:List (List Nat) × List (List Nat)}(h:zw (aa m) w n s){H:Nat->Nat}(I:RR p s.1 H)(e2:∀r∈s.2,∀t,t<p->cf r t=0):∃H',RR (p+1) (iW m s p).1 H'/\∀r∈(iW m s p).2,∀t,t<p+1->cf r t=0:=by
 cases e:ke s.2 p with
 | none =>
  rw[Qu e]
  refine⟨H,⟨I.u,I.z,I.i,λi hi=>Nat.lt_succ_of_lt (I.l i hi)⟩,λr hr t ht=>?_⟩
  rcases EA t p with h1 | h1
  ·exact e2 r hr t h1
  ·have:=W4.mp e r hr
   have z:r.getD p 0=0:=by simpa using this
   rw[show t=p by omega]
   exact z
 | some i0 =>
  obtain⟨g,c,g1,g2,g3,g4,c1,c2,l1,l2,l3,l4,l5⟩:=Qs hm h.b e
  rw[Qt e]
  generalize dY m s.2 i0 p=l at l1 l2 l3 l4 l5
  have m0:=b8 m hm
  have lz:∀t,t<p->cf l t=0:=λt ht=>by rw[l3,e2 g g1 t ht,iu m _ m0]
  have zA:∀{r:List Nat},r.length=w->AllLt (aa m) r->(∀t,t<p->cf (eI (λx y=>bx m x (gm m (r.getD p 0) y)) r l) t=cf r t)/\cf (eI (λx y=>bx m x (gm m (r.getD p 0) y)) r l) p=0:=λ{r} a1 a2=>by
   constructor
   ·intro t ht
    have:=Cg hm (a:=r.getD p 0) a1 l1 a2 t
    rw[lz t ht,iu m _ m0,kb (Hm hm a1 l1 a2 _ _)]at this
    exact this
   ·rw[Hl hm a1 l1,l4]
    show bx m (r.getD p 0) (gm m (r.getD p 0) 1)=0
    rw[pB (show r.getD p 0<aa m from dv hm a2 p),B9]
  have nl:(hE m s.1 l p).length=s.1.length:=by unfold hE;rw[bt]
  have Qw:∀i,i<s.1.length->∃r,s.1.getD i []=r/\r.length=w/\AllLt (aa m) r/\(hE m s.1 l p++[l]).getD i []=eI (λx y=>bx m x (gm m (r.getD p 0) y)) r l:=λi hi=>by
   refine⟨_,rfl,(h.a _ (cy hi [])).1,(h.a _ (cy hi [])).2,?_⟩
   rw[aM,s8 (by omega),<- aM]
   exact vh _ hi [] []
  have Qx:(hE m s.1 l p++[l]).getD s.1.length []=l:=by
   rw[aM,nB (by omega),nl,EB];rfl
  have le:(hE m s.1 l p++[l]).length=s.1.length+1:=by rw[di,nl];rfl
  refine⟨λi=>if i<s.1.length then H i else p,⟨λi j hi hj=>?_,λi hi t ht=>?_,λi j zB hj=>?_,λi hi=>?_⟩,λr hr t ht=>?_⟩
  ·show cf ((hE m s.1 l p++[l]).getD i []) _=_
   dsimp only at hi hj ⊢
   rw[le]at hi hj
   by_cases h1:i<s.1.length
   ·obtain⟨r,r1,r2,r3,r4⟩:=Qw i h1
    rw[r4]
    by_cases h2:j<s.1.length
    ·rw[if_pos h2,(zA r2 r3).1 _ (I.l j h2),<- r1]
     exact I.u i j h1 h2
    ·rw[if_neg h2,(zA r2 r3).2,if_neg (by omega)]
   ·have e1:i=s.1.length:=by omega
    rw[e1,Qx]
    by_cases h2:j<s.1.length
    ·rw[if_pos h2,lz _ (I.l j h2),if_neg (by omega)]
    ·rw[if_neg h2,l4,if_pos (by omega)]
  ·dsimp only at hi ht ⊢
   rw[le]at hi
   by_cases h1:i<s.1.length
   ·rw[if_pos h1]at ht
    obtain⟨r,r1,r2,r3,r4⟩:=Qw i h1
    rw[r4,(zA r2 r3).1 _ (by have:=I.l i h1;omega),<- r1]
    exact I.z i h1 t ht
   ·rw[if_neg h1]at ht
    have e1:i=s.1.length:=by omega
    rw[e1,Qx];exact lz t ht
  ·dsimp only at hj ⊢
   rw[le]at hj
   rw[if_pos (by omega)]
   by_cases h2:j<s.1.length
   ·rw[if_pos h2];exact I.i i j zB h2
   ·rw[if_neg h2];exact I.l i (by omega)
  ·dsimp only at hi ⊢
   rw[le]at hi
   split
   ·have:=I.l i (by omega);omega
   ·omega
  ·obtain⟨r1,Ck,rfl⟩:=bE.mp hr
   obtain⟨a1,a2⟩:=h.b r1 (Cj Ck)
   rcases EA t p with h1 | h1
   ·rw[(zA a1 a2).1 t h1];exact e2 _ (Cj Ck) t h1
   ·rw[show t=p by omega];exact(zA a1 a2).2
theorem Qy{m:Bool × Nat}(hm:m∈ay){w:Nat}{G:List (List Nat)}(h:RT (aa m) w G):∀k,(∃H,RR k (kg m G k).1 H/\∀r∈(kg m G k).2,∀t,t<k->cf r t=0)/\∀f,bQ m G f↔bQ m ((kg m G k).1++(kg m G k).2) f
 | 0=>⟨⟨λ_=>0,⟨(λ_ _ h=>nomatch h),(λ_ h=>nomatch h),(λ_ _ _ h=>nomatch h),(λ_ h=>nomatch h)⟩,λr _ t ht=>nomatch ht⟩,λf=>.rfl⟩
 | k+1=>by
  obtain⟨⟨H,h1,h2⟩,h3⟩:=Qy hm h k
  have D:=Cc hm h k
  rw[Hb]
  exact⟨bF2 hm D h1 h2,λf=>(h3 f).trans (bP1 hm D f)⟩
theorem iy{m:Bool × Nat}(hm:m∈ay){G:List (List Nat)}(h:RT (aa m) (af G) G):(∃H,RR (af G) (bj m G) H)/\RT (aa m) (af G) (bj m G)/\(bj m G).length<=G.length/\∀f,bQ m G f↔bQ m (bj m G) f:=by
 obtain⟨⟨H,h1,h2⟩,h3⟩:=Qy hm h (af G)
 have D:=Cc hm h (af G)
 refine⟨⟨H,h1⟩,D.a,by have:=D.l;show(kg m G (af G)).1.length<=_;omega,λf=>(h3 f).trans ⟨Sp.trans ?_,Sp.trans ?_⟩⟩
 ·rintro f ⟨r,hr,rfl⟩
  rcases cg.mp hr with hr | hr
  ·exact bQ.of hr
  ·have:cf r=λ_=>0:=funext λt=>by
    rcases EA t (af G)with h4 | h4
    ·exact h2 r hr t h4
    ·exact m8 (by rw[(D.b r hr).1];exact h4)
   rw[this];exact .zero
 ·rintro f ⟨r,hr,rfl⟩
  exact bQ.of (dZ _ hr)
theorem ni{N:Nat}{p q:Nat->Nat->Nat}(r:Rg N p q){f:Nat->Nat}{j0:Nat}(hf:f j0<N):∀{n:Nat},j0<n->(∀j,j<n->j≠j0->f j=0)->sm p n f=f j0
 | 0,h,_=>nomatch h
 | n+1,h,hz=>by
  rw[sm]
  by_cases e:j0=n
  ·subst e
   rw[fv r λj hj=>hz j (by omega) (by omega),r.z hf]
  ·rw[ni r hf (by omega) λj hj=>hz j (by omega),hz n (by omega) (by omega),r.z' hf]
theorem RR.own{m:Bool × Nat}(hm:m∈ay){w:Nat}{R:List (List Nat)}{H:Nat->Nat}(hR:RT (aa m) w R)(I:RR w R H){f:Nat->Nat}(s:bQ m R f):∀k,f k=sm (gp m) R.length λi=>gm m (f (H i)) (cf (R.getD i []) k):=by
 have r:=rg hm
 have m0:=b8 m hm
 induction s with
 | mem a =>
  intro k
  obtain⟨x,hx,rfl⟩:=a
  obtain⟨i,hi,rfl⟩:=gX hx
  have ei:R[i]=R.getD i []:=by rw[aM,aO hi];rfl
  have one:gm m (cf R[i] (H i)) (cf (R.getD i []) k)=cf R[i] k:=by
   rw[ei,I.u i i hi hi,if_pos rfl]
   exact pz (dv hm (hR _ (cy hi [])).2 k)
  refine((ni r (f:=λa=>gm m (cf R[i] (H a)) (cf (R.getD a []) k)) (j0:=i) (bX hm _ _) hi λj hj hn=>?_).trans one).symm
  rw[ei,I.u i j hi hj,if_neg (by omega),fi m _ m0]
 | zero=>exact λk=>(fv r λj _=>fi m _ m0).symm
 | add _ _ a b =>
  intro k
  dsimp only
  rw[a k,b k,<- lY r]
  refine cw λj _=>?_
  rw[r.mc (gp m _ _),r.dl,r.mc _ (cf _ k),r.mc _ (cf _ k)]
 | mul c hc _ a =>
  intro k
  dsimp only
  rw[a k,<- pI r]
  refine cw λj _=>?_
  rw[ir m0]
theorem bQ.sum{m:Bool × Nat}(hm:m∈ay){w:Nat}{R:List (List Nat)}(hR:RT (aa m) w R){f:Nat->Nat}(s:bQ m R f):∃c:Nat->Nat,(∀i,c i<aa m)/\∀k,f k=sm (gp m) R.length λi=>gm m (c i) (cf (R.getD i []) k):=by
 have r:=rg hm
 have m0:=b8 m hm
 have l1:=lo1 hm
 induction s with
 | mem a =>
  obtain⟨x,hx,rfl⟩:=a
  obtain⟨i,hi,rfl⟩:=gX hx
  have ei:R[i]=R.getD i []:=by rw[aM,aO hi];rfl
  refine⟨λj=>if j=i then 1 else 0,λj=>by dsimp only;split<;>omega,λk=>?_⟩
  refine((ni r (f:=λa=>gm m (if a=i then 1 else 0) (cf (R.getD a []) k)) (j0:=i) (bX hm _ _) hi λj hj hn=>?_).trans ?_).symm
  ·rw[if_neg hn,fi m _ m0]
  ·rw[if_pos rfl,ei]
   exact pz (dv hm (hR _ (cy hi [])).2 k)
 | zero=>exact⟨λ_=>0,λ_=>r.pos,λk=>(fv r λj _=>fi m _ m0).symm⟩
 | add _ _ a b =>
  obtain⟨c,hc,a⟩:=a
  obtain⟨d,hd,b⟩:=b
  refine⟨λi=>gp m (c i) (d i),λi=>r.lp (hc i) (hd i),λk=>?_⟩
  dsimp only
  rw[a k,b k,<- lY r]
  refine cw λj _=>?_
  rw[r.mc (gp m _ _),r.dl,r.mc _ (cf _ k),r.mc _ (cf _ k)]
 | mul e he _ a =>
  obtain⟨c,hc,a⟩:=a
  refine⟨λi=>gm m e (c i),λi=>bX hm _ _,λk=>?_⟩
  dsimp only
  rw[a k,<- pI r]
  refine cw λj _=>?_
  rw[ir m0]
theorem bQ.ann{m:Bool × Nat}(hm:m∈ay){R:List (List Nat)}{n:Nat}{y:Nat->Nat}(h:∀x∈R,sm (gp m) n (λj=>gm m (cf x j) (y j))=0){f:Nat->Nat}(s:bQ m R f):sm (gp m) n (λj=>gm m (f j) (y j))=0:=by
 have r:=rg hm
 have m0:=b8 m hm
 induction s with
 | mem a=>obtain⟨x,hx,rfl⟩:=a;exact h x hx
 | zero=>exact fv r λj _=>fi m _ m0
 | @add f g _ _ a b =>
  rw[cw (g:=λj=>gp m (gm m (f j) (y j)) (gm m (g j) (y j))) λj _=>by dsimp only;rw[r.mc (gp m _ _),r.dl,r.mc (y j),r.mc (y j)],lY r,a,b,r.z r.pos]
 | @mul f e he _ a =>
  rw[cw (g:=λj=>gm m e (gm m (f j) (y j))) λj _=>ir m0 _ _ _,pI r,a,r.qz]
theorem RR.wZ{m:Bool × Nat}(hm:m∈ay){w:Nat}{R:List (List Nat)}{H:Nat->Nat}(hR:RT (aa m) w R)(I:RR w R H){i:Nat}(hi:i<R.length):(R.getD i []).findIdx (· != 0)=H i/\∃x∈R.getD i [],x≠0:=by
 have a:=(hR _ (cy hi [])).1
 have l:=I.l i hi
 have u:=I.u i i hi hi
 rw[if_pos rfl]at u
 have eu:(R.getD i [])[H i]'(by omega)=1:=by
  unfold cf at u
  rw[aM (l:=R.getD i []),aO (by omega)]at u
  exact u
 refine⟨?_,_,cT (show H i<(R.getD i []).length by omega),by rw[eu];decide⟩
 rw[List.findIdx_eq (by omega)]
 refine⟨by rw[eu];rfl,λj hj=>?_⟩
 have z:=I.z i hi j hj
 unfold cf at z
 rw[aM (l:=R.getD i []),aO (by omega)]at z
 simpa using z
theorem Ho{a b:List Nat}{w:Nat}(ha:a.length=w)(hb:b.length=w)(h:∀k,k<w->cf a k=cf b k):a=b:=by
 refine Mv (ha.trans hb.symm) λk h1 h2=>?_
 have:=h k (by omega)
 unfold cf at this
 rw[aM,aM,aO h1,aO h2]at this
 exact this
theorem Cm(f:Nat->Nat){w k:Nat}(h:k<w):cf ((aF w).map f) k=f k:=by
 unfold cf
 rw[aM,bO,hW h];rfl
theorem pO(m:Bool × Nat){xs ys:List Nat}(h:xs.length=ys.length):gd m xs ys=sm (gp m) xs.length λj=>gm m (cf xs j) (cf ys j):=by
 unfold gd
 rw[b21,nM,h,AK]
 refine cw λj hj=>?_
 unfold cf
 rw[aM,xS,aO (by omega),aO (by omega),aM,aO (by omega),aM,aO (by omega)]
 rfl
noncomputable def jq(m:Bool × Nat)(xs:List Nat)(T:List (List Nat))(w:Nat):List Nat:=(aF w).map λk=>gd m xs (T.map λr=>r.getD k 0)
theorem Qz{T:List (List Nat)}(k i:Nat):cf (T.map λr=>r.getD k 0) i=cf (T.getD i []) k:=by
 by_cases h:i<T.length
 ·exact vh (λr:List Nat=>r.getD k 0) h [] 0
 ·rw[m8 (by rw[bt];omega),aM,fF (by omega)];rfl
theorem zC(m:Bool × Nat)(xs:List Nat)(T:List (List Nat))(w:Nat):(jq m xs T w).length=w:=by unfold jq;rw[bt,bS]
theorem Cn(m:Bool × Nat){xs:List Nat}{T:List (List Nat)}{w k:Nat}(h:xs.length=T.length)(hk:k<w):cf (jq m xs T w) k=sm (gp m) T.length λi=>gm m (cf xs i) (cf (T.getD i []) k):=by
 unfold jq
 rw[Cm _ hk,pO m (by rw[bt,h]),h]
 exact cw λj _=>by rw[Qz]
theorem cx2{m:Bool × Nat}(hm:m∈ay){xs ys:List Nat}(h:xs.length=ys.length):gd m xs ys<aa m:=by
 rw[pO m h];exact kO (rg hm) λj _=>bX hm _ _
theorem QB{m:Bool × Nat}(hm:m∈ay){xs:List Nat}{T:List (List Nat)}(w:Nat)(h:xs.length=T.length):AllLt (aa m) (jq m xs T w):=λx hx=>by
 obtain⟨k,_,rfl⟩:=bE.mp hx
 exact cx2 hm (by rw[bt,h])
theorem cu3{m:Bool × Nat}{xs u:List Nat}{T:List (List Nat)}{w:Nat}(h:xs.length=T.length)(hu:u.length=w)(hk:∀k,k<w->cf u k=sm (gp m) T.length λi=>gm m (cf xs i) (cf (T.getD i []) k)):jq m xs T w=u :=
 Ho (zC m xs T w) hu λk h1=>by rw[Cn m h h1,hk k h1]
noncomputable def aU(r:List Nat):Nat:=r.findIdx (· != 0)
theorem Co{α:Type}(a b:α->Nat){j:Nat}:∀(l:List α) (x:List Nat),(∀z∈l,a z≠j)->cf (l.foldl (λx z=>x.set (a z) (b z)) x) j=cf x j
 | [],_,_=>rfl
 | z::l,x,h=>by
  rw[xI,Co a b l _ λy hy=>h y (eG _ hy)]
  unfold cf
  rw[aM,sZ (h z gE),<- aM]
theorem QC{α:Type}(a b:α->Nat):∀(l:List α) (x:List Nat),l.Pairwise (λy z=>a y≠a z)->∀z∈l,a z<x.length->cf (l.foldl (λx z=>x.set (a z) (b z)) x) (a z)=b z
 | [],_,_,_,h,_=>nomatch h
 | y::l,x,hp,z,hz,hl=>by
  rw[xI]
  rw[xT]at hp
  rcases cj.mp hz with rfl | hz
  ·rw[Co a b l _ λy hy=>gW (hp.1 y hy)]
   unfold cf
   rw[aM,xF hl];rfl
  ·exact QC a b l _ hp.2 z hz (by rw[qk];exact hl)
theorem QD{α:Type}(a b:α->Nat):∀(l:List α) (x:List Nat),(l.foldl (λx z=>x.set (a z) (b z)) x).length=x.length
 | [],_=>rfl
 | z::l,x=>by rw[xI,QD a b l,qk]
noncomputable def fA(T:List (List Nat)):List (List Nat):=(aF (af T)).map λj=>T.map λr=>r.getD j 0
theorem QE{T:List (List Nat)}{a:Nat}(h:a<af T):(fA T).getD a []=T.map λr=>r.getD a 0:=by
 unfold fA
 rw[aM,bO,hW h];rfl
theorem Hq{N:Nat}{T:List (List Nat)}(h0:0<N)(hw:0<af T)(hT:RT N (af T) T):(fA T).length=af T/\af (fA T)=T.length/\RT N T.length (fA T):=by
 have a:(fA T).length=af T:=by unfold fA;rw[bt,bS]
 have c:RT N T.length (fA T):=λr hr=>by
  obtain⟨j,_,rfl⟩:=bE.mp hr
  refine⟨bt _,λx hx=>?_⟩
  obtain⟨y,hy,rfl⟩:=bE.mp hx
  exact(hT y hy).2.getD h0 j
 refine⟨a,?_,c⟩
 have:=QE hw
 have e:af (fA T)=((fA T).getD 0 []).length:=by
  unfold af
  cases fA T<;>rfl
 rw[e,this,bt]
end L3
namespace L3
open PySem L2 Mf
noncomputable def eD(T:List (List Nat))(w:Nat):List Nat:=(aF w).filter λj=>!(T.map aU).contains j
noncomputable def gz(m:Bool × Nat)(T:List (List Nat))(w f:Nat):List Nat:=(((T.map aU).zip T).foldl (λx z=>x.set z.1 (bx m 0 (z.2.getD f 0))) ((bg w 0).set f 1))
noncomputable def jr(m:Bool × Nat)(T:List (List Nat))(w:Nat):List (List Nat):=(eD T w).map (gz m T w)
theorem RR.heads{m:Bool × Nat}(hm:m∈ay){w:Nat}{R:List (List Nat)}{H:Nat->Nat}(hR:RT (aa m) w R)(I:RR w R H):R.map aU=(aF R.length).map H:=by
 refine Mv (by rw[bt,bt,bS]) λi h1 h2=>?_
 rw[bt]at h1
 rw[AR,AR,EC,<- (I.wZ hm hR h1).1,aM,aO h1];rfl
theorem RR.mem{m:Bool × Nat}(hm:m∈ay){w:Nat}{R:List (List Nat)}{H:Nat->Nat}(hR:RT (aa m) w R)(I:RR w R H)(j:Nat):j∈R.map aU↔∃i,i<R.length/\H i=j:=by
 rw[I.heads hm hR,bE]
 exact⟨λ⟨i,a,b⟩=>⟨i,cA.mp a,b⟩,λ⟨i,a,b⟩=>⟨i,cA.mpr a,b⟩⟩
theorem RR.free{m:Bool × Nat}(hm:m∈ay){w:Nat}{R:List (List Nat)}{H:Nat->Nat}(hR:RT (aa m) w R)(I:RR w R H)(j:Nat):j∈eD R w↔j<w/\∀i,i<R.length->H i≠j:=by
 unfold eD
 rw[qf,cA,Bool.not_eq_true',<- Bool.not_eq_true,Ey,I.mem hm hR]
 exact and_congr_right λ_=>⟨λh i a b=>h ⟨i,a,b⟩,λh ⟨i,a,b⟩=>h i a b⟩
theorem RR.Cp{m:Bool × Nat}(hm:m∈ay){w:Nat}{R:List (List Nat)}{H:Nat->Nat}(hR:RT (aa m) w R)(I:RR w R H):(eD R w).length+R.length=w:=by
 have nd:(R.map aU).Nodup:=by
  rw[I.heads hm hR]
  unfold List.Nodup
  rw[ED]
  intro i j hi hj zB
  rw[bt,bS]at hi hj
  rw[AR,AR,EC,EC]
  have:=I.i i j zB hj
  omega
 have pe:((aF w).filter λj=>(R.map aU).contains j).Perm (R.map aU):=by
  refine(List.perm_ext_iff_of_nodup (W5 _ EE) nd).mpr λj=>?_
  rw[qf,Ey,cA]
  refine⟨λh=>h.2,λh=>⟨?_,h⟩⟩
  obtain⟨i,hi,rfl⟩:=(I.mem hm hR j).mp h
  exact I.l i hi
 have l1:=pe.length_eq
 rw[bt]at l1
 have l2:=List.length_eq_countP_add_countP (λj=>(R.map aU).contains j) (l:=aF w)
 rw[bS,W6,W6,l1]at l2
 unfold eD
 have e:((aF w).filter λa=>decide ¬(R.map aU).contains a=true)=(aF w).filter λj=>!(R.map aU).contains j:=List.filter_congr λx _=>by
  cases(R.map aU).contains x<;>rfl
 rw[e]at l2
 omega
theorem by4{m:Bool × Nat}(hm:m∈ay){w f:Nat}{R:List (List Nat)}{H:Nat->Nat}(hR:RT (aa m) w R)(I:RR w R H)(hf:f∈eD R w):(gz m R w f).length=w/\AllLt (aa m) (gz m R w f)/\cf (gz m R w f) f=1/\(∀i,i<R.length->cf (gz m R w f) (H i)=bx m 0 (cf (R.getD i []) f))/\∀j,j≠f->(∀i,i<R.length->H i≠j)->cf (gz m R w f) j=0:=by
 obtain⟨f1,f2⟩:=(I.free hm hR f).mp hf
 have l1:=lo1 hm
 have zl:((R.map aU).zip R).length=R.length:=by rw[Mx,bt,AK]
 have zg:∀i (h:i<R.length),((R.map aU).zip R)[i]'(by omega)=(H i,R.getD i []):=λi h=>by
  rw[List.getElem_zip,AR]
  have e:R.getD i []=R[i]:=by rw[aM,aO h];rfl
  have:=(I.wZ hm hR h).1
  rw[e]at this ⊢
  exact Prod.ext this rfl
 have zm:∀z∈(R.map aU).zip R,∃i,i<R.length/\z=(H i,R.getD i []):=λz hz=>by
  obtain⟨i,hi,rfl⟩:=gX hz
  exact⟨i,by omega,zg i (by omega)⟩
 have mz:∀i,i<R.length->(H i,R.getD i [])∈(R.map aU).zip R:=λi h=>by
  rw[<-zg i h];exact cT _
 have bd:∀z∈(R.map aU).zip R,bx m 0 (z.2.getD f 0)<aa m:=λz hz=>by
  obtain⟨i,hi,rfl⟩:=zm z hz
  exact(iU hm (by omega) (dv hm (hR _ (cy hi [])).2 f)).2.1
 refine⟨?_,?_,?_,λi hi=>?_,λj hj hj2=>?_⟩
 ·unfold gz
  rw[QD (λz:Nat × List Nat=>z.1) (λz=>bx m 0 (z.2.getD f 0)),qk,gj]
 ·have key:∀(l:List (Nat × List Nat)) (x:List Nat),(∀z∈l,bx m 0 (z.2.getD f 0)<aa m)->AllLt (aa m) x->AllLt (aa m) (l.foldl (λx z=>x.set z.1 (bx m 0 (z.2.getD f 0))) x):=by
   intro l
   induction l with
   | nil=>exact λx _ h=>h
   | cons z l ih =>
    intro x hz h
    rw[xI]
    refine ih _ (λy hy=>hz y (eG _ hy)) λy hy=>?_
    rcases Es hy with h1 | h1
    ·exact h y h1
    ·rw[h1];exact hz z gE
  refine key _ _ bd λx hx=>?_
  rcases Es hx with h1 | h1
  ·rw[(vR.mp h1).2];omega
  ·omega
 ·unfold gz
  rw[Co (λz:Nat × List Nat=>z.1) (λz=>bx m 0 (z.2.getD f 0)) _ _ λz hz=>?_]
  ·unfold cf
   rw[aM,xF (by rw[gj];exact f1)];rfl
  ·obtain⟨i,hi,rfl⟩:=zm z hz
   exact f2 i hi
 ·have hp:((R.map aU).zip R).Pairwise (λy z:Nat × List Nat=>y.1≠z.1):=by
   rw[ED]
   intro i j hi hj zB
   rw[zg i (by omega),zg j (by omega)]
   have:=I.i i j zB (by omega)
   show H i≠H j
   omega
  exact QC (λz:Nat × List Nat=>z.1) (λz=>bx m 0 (z.2.getD f 0)) _ _ hp _ (mz i hi) (by rw[qk,gj];exact I.l i hi)
 ·unfold gz
  rw[Co (λz:Nat × List Nat=>z.1) (λz=>bx m 0 (z.2.getD f 0)) _ _ λz hz=>?_]
  ·unfold cf
   rw[aM,sZ (gW hj),qj]
   split<;>rfl
  ·obtain⟨i,hi,rfl⟩:=zm z hz
   exact hj2 i hi
theorem Hr{N:Nat}{p q:Nat->Nat->Nat}(r:Rg N p q){f:Nat->Nat}{a b n:Nat}(ha:a<n)(hb:b<n)(hn:a≠b)(fa:f a<N)(fb:f b<N)(hz:∀j,j<n->j≠a->j≠b->f j=0):sm p n f=p (f a) (f b):=by
 have h1:=ni r (f:=λj=>if j=a then f a else 0) (j0:=a) (n:=n) (by rw[if_pos rfl];exact fa) ha λj _ h=>if_neg h
 have h2:=ni r (f:=λj=>if j=b then f b else 0) (j0:=b) (n:=n) (by rw[if_pos rfl];exact fb) hb λj _ h=>if_neg h
 rw[if_pos rfl]at h1 h2
 rw[<-h1,<- h2,<- lY r]
 refine cw λj hj=>?_
 by_cases ja:j=a
 ·rw[if_pos ja,if_neg (by omega),r.z' fa,ja]
 ·by_cases jb:j=b
  ·rw[if_neg ja,if_pos jb,r.z fb,jb]
  ·rw[if_neg ja,if_neg jb,hz j hj ja jb,r.z r.pos]
noncomputable def dt(m:Bool × Nat)(w:Nat)(x y:Nat->Nat):Nat:=sm (gp m) w λj=>gm m (x j) (y j)
theorem cE5{m:Bool × Nat}(hm:m∈ay)(w:Nat)(x y:Nat->Nat):dt m w x y<aa m:=kO (rg hm) λ_ _=>bX hm _ _
theorem QF{m:Bool × Nat}(hm:m∈ay)(w:Nat)(x y z:Nat->Nat):dt m w x (λk=>gp m (y k) (z k))=gp m (dt m w x y) (dt m w x z):=by
 have r:=rg hm
 unfold dt
 rw[<-lY r]
 exact cw λj _=>r.dl _ _ _
theorem cw8{m:Bool × Nat}(hm:m∈ay)(w c:Nat)(x y:Nat->Nat):dt m w x (λk=>gm m c (y k))=gm m c (dt m w x y):=by
 have r:=rg hm
 have m0:=b8 m hm
 unfold dt
 rw[<-pI r]
 exact cw λj _=>by rw[<-ir m0,gO m (x j),ir m0]
theorem QG{m:Bool × Nat}(hm:m∈ay)(w:Nat)(x:Nat->Nat)(c:Nat->Nat)(F:Nat->Nat->Nat):∀n,dt m w x (λk=>sm (gp m) n λi=>gm m (c i) (F i k))=sm (gp m) n λi=>gm m (c i) (dt m w x (F i))
 | 0=>fv (rg hm) λj _=>(rg hm).qz _
 | n+1=>by
  rw[sm,<- QG hm w x c F n,<- cw8 hm,<- QF hm];rfl
theorem Hs{m:Bool × Nat}(hm:m∈ay){w f:Nat}{R:List (List Nat)}{H:Nat->Nat}(hR:RT (aa m) w R)(I:RR w R H)(hf:f∈eD R w){i:Nat}(hi:i<R.length):dt m w (cf (R.getD i [])) (cf (gz m R w f))=0:=by
 have r:=rg hm
 obtain⟨f1,f2⟩:=(I.free hm hR f).mp hf
 obtain⟨k1,k2,k3,k4,k5⟩:=by4 hm hR I hf
 have il:=dv hm (hR _ (cy hi [])).2
 have g:=iU hm (a:=0) r.pos (il f)
 unfold dt
 rw[Hr r (f:=λj=>gm m (cf (R.getD i []) j) (cf (gz m R w f) j)) (a:=H i) (b:=f) (I.l i hi) f1 (f2 i hi) (bX hm _ _) (bX hm _ _) λj hj ja jb=>?_]
 ·rw[k3,k4 i hi,I.u i i hi hi,if_pos rfl,pz g.2.1,pB (il f)]
  exact g.2.2
 ·by_cases c:∃i',i'<R.length/\H i'=j
  ·obtain⟨i',h1,rfl⟩:=c
   rw[I.u i i' hi h1,if_neg (λz:i=i'=>ja (by rw[z])),fi m _ (b8 m hm)]
  ·rw[k5 j jb λi' h1 h2=>c ⟨i',h1,h2⟩,r.qz]
theorem bQ.dt{m:Bool × Nat}(hm:m∈ay){R:List (List Nat)}{n:Nat}{y:Nat->Nat}(h:∀i,i<R.length->dt m n (cf (R.getD i [])) y=0){f:Nat->Nat}(s:bQ m R f):dt m n f y=0:=by
 refine s.ann hm λx hx=>?_
 obtain⟨i,hi,rfl⟩:=gX hx
 have:=h i hi
 rw[aM,aO hi]at this
 exact this
theorem zD{N n:Nat}{M:List (List Nat)}(h:RT N n M)(h0:M≠[]):af M=n:=by
 cases M with
 | nil=>exact absurd rfl h0
 | cons g M=>exact(h g gE).1
theorem QH{m:Bool × Nat}(hm:m∈ay){n:Nat}{M:List (List Nat)}(h:RT (aa m) n M)(hl:M.length<n):∃(x:Nat->Nat) (f:Nat),f<n/\(∀k,x k<aa m)/\x f=1/\∀i,i<M.length->dt m n (cf (M.getD i [])) x=0:=by
 by_cases h0:M=[]
 ·subst h0
  exact⟨λ_=>1,0,hl,λ_=>lo1 hm,rfl,λi hi=>nomatch hi⟩
 ·have hw:=zD h h0
  obtain⟨⟨H,I⟩,iR,il,sp⟩:=iy hm (G:=M) (by rw[hw];exact h)
  rw[hw]at I iR
  have fl:=I.Cp hm iR
  have f0:0<(eD (bj m M) n).length:=by omega
  have hf:=cy f0 0
  obtain⟨k1,k2,k3,k4,k5⟩:=by4 hm iR I hf
  refine⟨cf (gz m (bj m M) n ((eD (bj m M) n).getD 0 0)),_,((I.free hm iR _).mp hf).1,dv hm k2,k3,λi hi=>?_⟩
  exact bQ.dt hm (λi' fq=>Hs hm iR I hf fq) ((sp _).mp (bQ.of (cy hi [])))
theorem RR.lZ{m:Bool × Nat}(hm:m∈ay){w v:Nat}{S R:List (List Nat)}{H:Nat->Nat}(hS:RT (aa m) w S)(I:RR w S H)(hR:RT (aa m) v R)(h:∀i,i<S.length->bQ m R (cf (S.getD i []))):S.length<=R.length:=by
 have r:=rg hm
 refine Ea λhl=>?_
 have hc:∀i,∃c:Nat->Nat,i<S.length->(∀j,c j<aa m)/\∀k,cf (S.getD i []) k=sm (gp m) R.length λj=>gm m (c j) (cf (R.getD j []) k):=λi=>by
  by_cases hi:i<S.length
  ·obtain⟨c,a,b⟩:=(h i hi).sum hm hR
   exact⟨c,λ_=>⟨a,b⟩⟩
  ·exact⟨λ_=>0,λz=>absurd z hi⟩
 obtain⟨C,hC⟩:=Classical.axiomOfChoice hc
 have cl:∀i,i<S.length->∀j,C i j<aa m:=λi hi=>(hC i hi).1
 obtain⟨x,f,f1,x1,x2,x3⟩:=QH hm (n:=S.length) (M:=(aF R.length).map λj=>(aF S.length).map λi=>C i j) (λy hy=>by
  obtain⟨j,_,rfl⟩:=bE.mp hy
  refine⟨by rw[bt,bS],λz hz=>?_⟩
  obtain⟨i,hi,rfl⟩:=bE.mp hz
  exact cl i (cA.mp hi) j) (by rw[bt,bS];exact hl)
 rw[bt,bS]at x3
 have x4:∀j,j<R.length->sm (gp m) S.length (λi=>gm m (C i j) (x i))=0:=λj hj=>by
  rw[<-x3 j hj]
  refine cw λi hi=>?_
  rw[vh (λj=>(aF S.length).map λi=>C i j) (by rw[bS];exact hj) 0 [],Cm _ hi,aM,hW hj];rfl
 have x5:∀k,sm (gp m) S.length (λi=>gm m (x i) (cf (S.getD i []) k))=0:=λk=>by
  rw[cw (g:=λi=>sm (gp m) R.length λj=>gm m (gm m (C i j) (x i)) (cf (R.getD j []) k)) λi hi=>?_,Qa r,fv r λj hj=>?_]
  ·rw[cw (g:=λi=>gm m (cf (R.getD j []) k) (gm m (C i j) (x i))) λi hi=>gO m _ _,pI r,x4 j hj,r.qz]
  ·rw[(hC i hi).2 k,<- pI r]
   exact cw λj _=>by rw[<-ir (b8 m hm),gO m (x i)]
 have:=x5 (H f)
 rw[ni r (f:=λi=>gm m (x i) (cf (S.getD i []) (H f))) (bX hm _ _) f1 λj hj hn=>by rw[I.u j f hj f1,if_neg hn,r.qz],I.u f f f1 f1,if_pos rfl,x2,pz (lo1 hm)]at this
 omega
theorem Sp.sm{N:Nat}{p q:Nat->Nat->Nat}{S:(Nat->Nat)->Prop}{c:Nat->Nat}{F:Nat->Nat->Nat}:∀{n:Nat},(∀i,i<n->c i<N)->(∀i,i<n->Sp N p q S (F i))->Sp N p q S λk=>L3.sm p n λi=>q (c i) (F i k)
 | 0,_,_=>.zero
 | n+1,hc,h=>.add (Sp.sm (λi hi=>hc i (by omega)) λi hi=>h i (by omega)) (.mul _ (hc n (by omega)) (h n (by omega)))
theorem cj3{m:Bool × Nat}(hm:m∈ay){v:Nat}{G R:List (List Nat)}(hG:RT (aa m) (af G) G)(hR:RT (aa m) v R)(h:∀i,i<G.length->bQ m R (cf (G.getD i []))):(bj m G).length<=R.length:=by
 obtain⟨⟨H,I⟩,iR,il,sp⟩:=iy hm hG
 refine I.lZ hm iR hR λi hi=>?_
 refine Sp.trans (λf hf=>?_) ((sp _).mpr (bQ.of (cy hi [])))
 obtain⟨x,hx,rfl⟩:=hf
 obtain⟨i,hi,rfl⟩:=gX hx
 have:=h i hi
 rw[aM,aO hi]at this
 exact this
theorem l6{T:List (List Nat)}{i:Nat}(h:i<T.length):T.getD i []=T[i]:=by rw[aM,aO h];rfl
theorem bQ.red{m:Bool × Nat}(hm:m∈ay){G:List (List Nat)}(hG:RT (aa m) (af G) G){f:Nat->Nat}(h:bQ m G f):bQ m (bj m G) f:=((iy hm hG).2.2.2 f).mp h
end L3
namespace L3
open PySem L2 PySem.Spec PyProof.Rows
section
variable{X:Cx}{F H:Hp}{e b:Expr}{pos pos' p p2 p3 apos bI:Pos}{ti te:aH}{x y:Str}{i j:Nat}
end
section
variable{X:Cx}
end
section
variable{X:Cx}{es:List Expr}{tr:cO}{pos:Pos}
theorem zE(h:PA X es (lA tr)):PE X (.List es pos) (lB (oo tr)) :=
 dm (Nf h) λσ H Q zq=>by
 obtain⟨B,F,δ,ts,Qd,c,q,k⟩:=zq
 exact⟨B,F,δ,ts,_,c,q,λds ak vs F1 H1 q1 f1 h1 c1 s1=>⟨by rw[<-s1.length];exact q1.1,λp hp=>k _ ak _ F1 _ q1.2 f1 (h1.trans (ag.upd hp)) (c1.grow (ag.upd hp)) (.own bA (s1.mono (ag.refl _) (ag.upd hp)) .nil)⟩⟩
end
end L3
namespace L3
open PySem L2 Mf
theorem RR.lead{m:Bool × Nat}(hm:m∈ay){w:Nat}{R:List (List Nat)}{H:Nat->Nat}(hR:RT (aa m) w R)(I:RR w R H){f:Nat->Nat}(s:bQ m R f){t:Nat}(h1:f t≠0)(h2:∀j,j<t->f j=0):∃i,i<R.length/\H i=t:=by
 refine xM λc=>h1 ?_
 rw[I.own hm hR s t]
 refine fv (rg hm) λi hi=>?_
 rcases MD (H i) t with h | h | h
 ·rw[h2 _ h,fi m _ (b8 m hm)]
 ·exact absurd ⟨i,hi,h⟩ c
 ·rw[I.z i hi t h,(rg hm).qz]
end L3
namespace L3
open PySem L2 Mf
noncomputable def eX(n i:Nat):List Nat:=(aF n).map λj=>if j=i then 1 else 0
theorem zF(n i:Nat):(eX n i).length=n:=by unfold eX;rw[bt,bS]
theorem Cq{n i j:Nat}(h:i<n):cf (eX n i) j=if j=i then 1 else 0:=by
 by_cases hj:j<n
 ·exact Cm _ hj
 ·rw[m8 (by rw[zF];omega),if_neg (by omega)]
theorem QI{N:Nat}(h:1<N)(n i:Nat):AllLt N (eX n i):=λx hx=>by
 obtain⟨j,_,rfl⟩:=bE.mp hx
 split<;>omega
noncomputable def cJ(G:List (List Nat)):List (List Nat):=G.mapIdx λi r=>r++eX G.length i
theorem vi(G:List (List Nat)):(cJ G).length=G.length:=by unfold cJ;rw[List.length_mapIdx]
theorem QJ{G:List (List Nat)}{i:Nat}(h:i<G.length):(cJ G).getD i []=G.getD i []++eX G.length i:=by
 unfold cJ
 rw[aM,vS,aM,aO h];rfl
theorem cz7(a b:List Nat)(k:Nat):cf (a++b) k=if k<a.length then cf a k else cf b (k-a.length):=by
 unfold cf
 rw[aM,List.getElem?_append]
 split<;>rw[aM]
theorem Cr{N:Nat}{G:List (List Nat)}(h1:1<N)(h0:0<G.length)(hG:RT N (af G) G):af (cJ G)=af G+G.length/\RT N (af G+G.length) (cJ G):=by
 have rt:RT N (af G+G.length) (cJ G):=λr hr=>by
  obtain⟨i,hi,rfl⟩:=gX hr
  rw[<-l6 hi,QJ (by rw[vi]at hi;exact hi)]
  rw[vi]at hi
  obtain⟨a,b⟩:=hG _ (cy hi [])
  refine⟨by rw[di,a,zF],λx hx=>?_⟩
  rcases cg.mp hx with hx | hx
  ·exact b x hx
  ·exact QI h1 _ _ x hx
 exact⟨zD rt λz=>by have:=vi G;rw[z]at this;simp at this;omega,rt⟩
theorem QK{m:Bool × Nat}(hm:m∈ay){G:List (List Nat)}(h0:0<G.length)(hG:RT (aa m) (af G) G){f:Nat->Nat}:bQ m (cJ G) f↔(∀k,f k<aa m)/\(∀k,af G+G.length<=k->f k=0)/\∀k,k<af G->f k=sm (gp m) G.length λi=>gm m (f (af G+i)) (cf (G.getD i []) k):=by
 have r:=rg hm
 have m0:=b8 m hm
 obtain⟨b1,b2⟩:=Cr (lo1 hm) h0 hG
 have bc:∀i,i<G.length->∀k,cf ((cJ G).getD i []) k=if k<af G then cf (G.getD i []) k else if k-af G=i then 1 else 0:=λi hi k=>by
  rw[QJ hi,cz7,(hG _ (cy hi [])).1,Cq hi]
 have comb:∀c:Nat->Nat,(∀i,c i<aa m)->∀k,sm (gp m) G.length (λi=>gm m (c i) (cf ((cJ G).getD i []) k))=if k<af G then sm (gp m) G.length (λi=>gm m (c i) (cf (G.getD i []) k))else if k-af G<G.length then c (k-af G)else 0:=λc hc k=>by
  by_cases hk:k<af G
  ·rw[if_pos hk]
   exact cw λi hi=>by rw[bc i hi,if_pos hk]
  ·rw[if_neg hk]
   by_cases pP:k-af G<G.length
   ·rw[if_pos pP,ni r (f:=λi=>gm m (c i) (cf ((cJ G).getD i []) k)) (bX hm _ _) pP λj hj hn=>by rw[bc j hj,if_neg hk,if_neg (λz=>hn z.symm),r.qz],bc _ pP,if_neg hk,if_pos rfl,pB (hc _)]
   ·rw[if_neg pP]
    exact fv r λi hi=>by rw[bc i hi,if_neg hk,if_neg (by omega),r.qz]
 constructor
 ·intro s
  obtain⟨c,hc,h⟩:=s.sum hm b2
  rw[vi]at h
  have hf:∀k,f k=_:=λk=>(h k).trans (comb c hc k)
  refine⟨λk=>by rw[h k];exact kO r λ_ _=>bX hm _ _,λk hk=>by rw[hf k,if_neg (by omega),if_neg (by omega)],λk hk=>?_⟩
  rw[hf k,if_pos hk]
  exact cw λi hi=>by rw[hf (af G+i),if_neg (by omega),if_pos (by omega),W7]
 ·rintro⟨h1,h2,h3⟩
  have:f=λk=>sm (gp m) G.length λi=>gm m (f (af G+i)) (cf ((cJ G).getD i []) k):=funext λk=>by
   rw[comb (λi=>f (af G+i)) λi=>h1 _]
   by_cases hk:k<af G
   ·rw[if_pos hk];exact h3 k hk
   ·rw[if_neg hk]
    by_cases pP:k-af G<G.length
    ·rw[if_pos pP,show af G+(k-af G)=k by omega]
    ·rw[if_neg pP];exact h2 k (by omega)
  rw[this]
  exact Sp.sm (λi _=>h1 _) λi hi=>bQ.of (cy (by rw[vi];exact hi) [])
noncomputable def pQ(m:Bool × Nat)(G:List (List Nat)):Option (List (List Nat)):=if((bj m (cJ G)).take (af G)).map aU=aF (af G)then some (((bj m (cJ G)).take (af G)).map λr=>r.drop (af G))else none
theorem bQ0{m:Bool × Nat}(hm:m∈ay){G:List (List Nat)}(hG:RT (aa m) (af G) G)(h:eD (bj m G) (af G)=[]){k:Nat}(hk:k<af G):bQ m G λj=>if j=k then 1 else 0:=by
 have r:=rg hm
 obtain⟨⟨H,I⟩,iR,il,sp⟩:=iy hm hG
 refine(sp _).mpr ?_
 have hs:∀j,j<af G->∃i,i<(bj m G).length/\H i=j:=λj hj=>xM λc=>by
  have:=(I.free hm iR j).mpr ⟨hj,λi a b=>c ⟨i,a,b⟩⟩
  rw[h]at this;simp at this
 obtain⟨i,hi,rfl⟩:=hs k hk
 have:(λj=>if j=H i then 1 else 0)=cf ((bj m G).getD i []):=funext λj=>by
  by_cases hj:j<af G
  ·obtain⟨i',fq,rfl⟩:=hs j hj
   rw[I.u i i' hi fq]
   by_cases e:i=i'
   ·rw[if_pos e,if_pos (by rw[e])]
   ·rw[if_neg e,if_neg]
    intro z
    rcases Nat.lt_or_gt_of_ne e with c | c
    ·have:=I.i i i' c fq;omega
    ·have:=I.i i' i c hi;omega
  ·rw[m8 (by rw[(iR _ (cy hi [])).1];omega),if_neg (by omega)]
 rw[this]
 exact bQ.of (cy hi [])
theorem b81{m:Bool × Nat}(hm:m∈ay){G V:List (List Nat)}(h0:0<G.length)(hG:RT (aa m) (af G) G)(h:pQ m G=some V):V.length=af G/\RT (aa m) G.length V/\(∀k,k<af G->jq m (V.getD k []) G (af G)=eX (af G) k)/\eD (bj m G) (af G)=[]:=by
 have r:=rg hm
 obtain⟨b1,b2⟩:=Cr (lo1 hm) h0 hG
 obtain⟨⟨H,I⟩,iR,il,sp⟩:=iy hm (G:=cJ G) (by rw[b1];exact b2)
 rw[b1]at I iR
 unfold pQ at h
 by_cases c:((bj m (cJ G)).take (af G)).map aU=aF (af G)
 ·rw[if_pos c]at h
  have hl:=congrArg AE c
  rw[bt,fV,bS]at hl
  have hH:∀i,i<af G->H i=i:=λi hi=>by
   have:=congrArg (λl=>l[i]?) c
   rw[bO,AL,if_pos hi,hW hi,aO (show i<(bj m (cJ G)).length by omega)]at this
   rw[<-(I.wZ hm iR (show i<(bj m (cJ G)).length by omega)).1,l6 (by omega)]
   exact dh this
  have eV:V=((bj m (cJ G)).take (af G)).map λr=>r.drop (af G):=(dh h).symm
  have lV:V.length=af G:=by rw[eV,bt,fV];omega
  have gV:∀k,k<af G->V.getD k []=((bj m (cJ G)).getD k []).drop (af G):=λk hk=>by
   rw[eV,aM,bO,AL,if_pos hk,aO (show k<(bj m (cJ G)).length by omega),l6 (show k<(bj m (cJ G)).length by omega)];rfl
  have rV:RT (aa m) G.length V:=λx hx=>by
   obtain⟨k,hk,rfl⟩:=gX hx
   rw[<-l6 hk,gV k (by omega)]
   obtain⟨a,b⟩:=iR _ (cy (show k<(bj m (cJ G)).length by omega) [])
   exact⟨by rw[iF,a];omega,λx hx=>b x (nL hx)⟩
  have un:∀k,k<af G->jq m (V.getD k []) G (af G)=eX (af G) k:=λk hk=>by
   have pM:k<(bj m (cJ G)).length:=by omega
   obtain⟨s1,s2,s3⟩:=(QK hm h0 hG).mp ((sp _).mpr (bQ.of (cy pM [])))
   refine cu3 (rV _ (cy (by omega) [])).1 (zF _ _) λj hj=>?_
   have e1:cf (eX (af G) k) j=cf ((bj m (cJ G)).getD k []) j:=by
    have:=I.u k j pM (by omega)
    rw[hH j hj]at this
    rw[this,Cq hk]
    by_cases z:j=k
    ·rw[if_pos z,if_pos z.symm]
    ·rw[if_neg z,if_neg (gW z)]
   rw[e1,s3 j hj]
   refine cw λi hi=>?_
   rw[gV k hk]
   congr 1
   unfold cf
   rw[aM (l:=List.drop _ _),El,<- aM]
  refine⟨lV,rV,un,?_⟩
  obtain⟨⟨H2,I2⟩,QL,il2,sp2⟩:=iy hm hG
  have fl:=I2.Cp hm QL
  have key:af G<=(bj m G).length:=by
   have:=RR.lZ hm (w:=af G) (S:=(aF (af G)).map (eX (af G))) (H:=λi=>i) (R:=bj m G) (λx hx=>by
    obtain⟨i,_,rfl⟩:=bE.mp hx
    exact⟨zF _ _,QI (lo1 hm) _ _⟩) (by
    have le:((aF (af G)).map (eX (af G))).length=af G:=by rw[bt,bS]
    have gt:∀i,i<af G->((aF (af G)).map (eX (af G))).getD i []=eX (af G) i:=λi hi=>by
     rw[aM,bO,hW hi];rfl
    refine⟨λi j hi hj=>?_,λi hi t ht=>?_,λi j h _=>h,λi hi=>by rw[le]at hi;exact hi⟩
    ·rw[le]at hi hj
     rw[gt i hi,Cq hi]
     by_cases z:i=j
     ·rw[if_pos z.symm,if_pos z]
     ·rw[if_neg (gW z),if_neg z]
    ·rw[le]at hi
     rw[gt i hi,Cq hi,if_neg (by omega)]) QL (λi hi=>by
    rw[bt,bS]at hi
    rw[show((aF (af G)).map (eX (af G))).getD i []=eX (af G) i by rw[aM,bO,hW hi];rfl,<- un i hi]
    refine(sp2 _).mp ?_
    have hv:=(rV _ (cy (show i<V.length by omega) [])).1
    have:cf (jq m (V.getD i []) G (af G))=λk=>sm (gp m) G.length λa=>gm m (cf (V.getD i []) a) (cf (G.getD a []) k):=funext λk=>by
     by_cases hk:k<af G
     ·exact Cn m hv hk
     ·rw[m8 (by rw[zC];omega),fv r λa ha=>?_]
      rw[m8 (l:=G.getD a []) (by rw[(hG _ (cy ha [])).1];omega),r.qz]
    rw[this]
    exact Sp.sm (λa _=>dv hm (rV _ (cy (show i<V.length by omega) [])).2 a) λa ha=>bQ.of (cy ha []))
   rw[bt,bS]at this
   exact this
  exact xU.mp (by omega)
 ·rw[if_neg c]at h;cases h
theorem b96{m:Bool × Nat}(hm:m∈ay){G:List (List Nat)}(h0:0<G.length)(hG:RT (aa m) (af G) G)(h:eD (bj m G) (af G)=[]):∃V,pQ m G=some V:=by
 have r:=rg hm
 obtain⟨b1,b2⟩:=Cr (lo1 hm) h0 hG
 obtain⟨⟨H,I⟩,iR,il,sp⟩:=iy hm (G:=cJ G) (by rw[b1];exact b2)
 rw[b1]at I iR
 have hs:∀k,k<af G->∃i,i<(bj m (cJ G)).length/\H i=k:=λk hk=>by
  obtain⟨c,hc,hf⟩:=(bQ0 hm hG h hk).sum hm hG
  have s:bQ m (cJ G) λj=>if j<af G then(if j=k then 1 else 0)else if j-af G<G.length then c (j-af G)else 0:=(QK hm h0 hG).mpr ⟨λj=>by
   have:=lo1 hm
   split
   ·split<;>omega
   ·split
    ·exact hc _
    ·omega,λj hj=>by rw[if_neg (by omega),if_neg (by omega)],λj hj=>by
   rw[if_pos hj,hf j]
   exact cw λi hi=>by rw[if_neg (by omega),if_pos (by omega),W7]⟩
  exact I.lead hm iR ((sp _).mp s) (t:=k) (by rw[if_pos hk,if_pos rfl];decide) λj hj=>by rw[if_pos (by omega),if_neg (by omega)]
 have hH:∀n i,i<n->i<af G->i<(bj m (cJ G)).length/\H i=i:=by
  intro n
  induction n with
  | zero=>exact λi hi=>nomatch hi
  | succ n ih =>
   intro i hi hw
   by_cases hn:i<n
   ·exact ih i hn hw
   obtain rfl:i=n:=by omega
   obtain⟨j,j1,j2⟩:=hs i hw
   have hj:i<=j:=Ea λc=>by
    have:=(ih j c (by omega)).2
    omega
   have fq:i<(bj m (cJ G)).length:=by omega
   have gi:i<=H i:=by
    by_cases z:i=0
    ·omega
    ·have:=(ih (i-1) (by omega) (by omega)).2
     have:=I.i (i-1) i (by omega) fq
     omega
   refine⟨fq,?_⟩
   rcases EA i j with c | c
   ·have:=I.i i j c j1;omega
   ·rw[show i=j by omega];omega
 unfold pQ
 rw[if_pos]
 ·exact⟨_,rfl⟩
 ·refine xO λi=>?_
  rw[bO,AL]
  by_cases hi:i<af G
  ·obtain⟨h1,h2⟩:=hH (i+1) i (by omega) hi
   rw[if_pos hi,hW hi,aO h1]
   have:=(I.wZ hm iR h1).1
   rw[l6 h1,h2]at this
   exact congrArg some this
  ·rw[if_neg hi,fF (by rw[bS];omega)];rfl
theorem ci6{m:Bool × Nat}(hm:m∈ay){G:List (List Nat)}(hG:RT (aa m) (af G) G){f:Nat}(hf:f∈eD (bj m G) (af G)):∀r∈G,dt m (af G) (cf r) (cf (gz m (bj m G) (af G) f))=0:=λr hr=>by
 obtain⟨⟨H,I⟩,iR,il,sp⟩:=iy hm hG
 exact bQ.dt hm (λi hi=>Hs hm iR I hf hi) ((sp _).mp (bQ.of hr))
end L3
namespace L3
open PySem L2 Mf
theorem cu9{r:List Nat}{k v:Nat}(hk:k<r.length)(j:Nat):cf (r.set k v) j=if j=k then v else cf r j:=by
 unfold cf
 rw[aM,List.getElem?_set,aM]
 by_cases h:k=j
 ·subst h
  rw[if_pos rfl,if_pos rfl,if_pos hk];rfl
 ·rw[if_neg h,if_neg (gW h)]
end L3
namespace L2
open PySem PySem.Spec PyProof.Rows
section
variable{X:Cx}
end
end L2
namespace L3
open PySem L2 PySem.Spec PyProof.Rows
section
variable{X:Cx}
end
end L3
namespace L2
open PySem PySem.Spec PyProof.Rows
section
variable{X:Cx}{a:Expr}{ta:TE}{p p2 pos js:Pos}
noncomputable def tLR(ta:TE):TE:=λσ H Q=>ta σ H λv H1=>∃j:Nat,v=.int (j:Int)/\j<=1000/\∀l,H1 l=none->Q (.ref l) (upd H1 l (.lst ((aF j).map λ(k:Nat)=>V.int (k:Int))))
theorem bN5{n:Nat}{acc:Array Value}(h:ItemsOf (λ(i:Nat) (v:Value)=>∃t,v=sY ((0:Int)+(i:Int)*1) t) acc n):Vals ((aF n).map λ(k:Nat)=>V.int (k:Int)) acc.toList:=by
 have key:∀(l:List Value) (b:Nat),(∀(i:Nat) (v:Value),l[i]?=some v->∃t,v=sY ((b+i:Nat):Int) t)->Vals ((mm b l.length).map λ(k:Nat)=>V.int (k:Int)) l:=by
  intro l
  induction l with
  | nil=>exact λb _=>.nil
  | cons v l ih =>
   intro b hb
   rw[fU,ME,cK]
   refine .cons ?_ (ih (b+1) λi v hv=>?_)
   ·obtain⟨t,rfl⟩:=hb 0 v rfl
    exact⟨t,rfl⟩
   ·obtain⟨t,e⟩:=hb (i+1) v (by simpa using hv)
    exact⟨t,by rw[e];congr 1;omega⟩
 have hl:acc.toList.length=n:=by rw[vL];exact h.1
 rw[List.range_eq_range',<- hl]
 refine key acc.toList 0 λi v hv=>?_
 obtain⟨t,e⟩:=h.2 i v (by simpa using hv)
 exact⟨t,by rw[e];congr 1;omega⟩
theorem bC1(hc:X.calm=true)(hg:Gl X "list")(hm:X.mg "list"=none)(yU:Gl X "range")(rK:X.mg "range"=none)(ha:PE X a ta)
  (hs:starEach [.Call (.Name "range" p2) [a] [] js] X.env=(false,eval (.Call (.Name "range" p2) [a] [] js) X.env)::starEach [] X.env:=by rfl) (bT:(backTo pos (starEach [] X.env)).any (·.1)=false:=by rfl)
  (eM:starEach [a] X.env=(false,eval a X.env)::starEach [] X.env:=by rfl) (Ht:(backTo js (starEach [] X.env)).any (·.1)=false:=by rfl) (Hu:starEach [] X.env=[]:=by rfl) :
  PE X (.Call (.Name "list" p) [.Call (.Name "range" p2) [a] [] js] [] pos) (tLR ta):=by
 intro pins s σ H Q I h
 refine wpAny_Call_Name_kw (nR I hg hm uf ?_ (by decide) (by decide))
 refine vM ?_ hs bT
 rw[hs]
 show wpAny _ _ (spliced ((false,eval (.Call (.Name "range" p2) [a] [] js) X.env)::backTo pos (starEach [] X.env))) _ _ s
 refine Mg ?_
 refine wpAny_Call_Name_kw (nR I yU rK θ ?_ (by decide) (by decide))
 refine vM ?_ eM Ht
 rw[eM]
 show wpAny _ _ (spliced ((false,eval a X.env)::backTo js (starEach [] X.env))) _ _ s
 refine Mg (aT (ha pins s σ H _ I h) λu s1 zz=>?_)
 obtain⟨x,H1,I1,r1,q1⟩:=zz
 obtain⟨j,rfl,hj,q⟩:=q1
 obtain⟨t,rfl⟩:=r1
 rw[Hu]
 refine Me ?_
 refine call_range_1 ?_
 refine Me ?_
 have I2:Inv X pins σ H1 { s1 with heap:=s1.heap.push { cls:=.type "range",data:=.fields #[.int 0 s1.toks,.int j t,.int 1 (s1.toks+1)] },toks:=s1.toks+1+1 }:=I1.kept λb o e=>gG _ e
 refine call_list_range (n:=j) (I2.ok.hd hc) (IsRange.new ..) (small_one (by omega) (by omega) (by omega) (by omega)) (by rw[rangeSize_one];split<;>omega) (by omega) λh' tk c40 c' kp e lJ=>?_
 have hv:=bN5 lJ
 exact⟨.ref _,_,I2.laid (t':=tk) kp (by omega) (show eJ X.prog X.w _ h' _ (.lst _) from⟨by rw[bt,bS];have:=tW;unfold sizeLine;omega,c40.toList,c',hv,by simpa using e⟩),rfl,q _ (I2.aS.fresh (bL _))⟩
end
end L2
namespace L3
open PySem L2 PySem.Spec PyProof.Rows
section
variable{X:Cx}{a:Expr}{t:aH}{p p2 pos js:Pos}
noncomputable def sH(t:aH):aH:=λδ Q=>t δ λd ak=>∃j:Nat,d=.int (j:Int)/\j<=1000/\Q (.lst true (aq (aF j))) ak
theorem bG7(hc:X.calm=true)(hg:Gl X "list")(hm:X.mg "list"=none)(yU:Gl X "range")(rK:X.mg "range"=none)(ha:PE X a (lB t))
  (hs:starEach [.Call (.Name "range" p2) [a] [] js] X.env=(false,eval (.Call (.Name "range" p2) [a] [] js) X.env)::starEach [] X.env:=by rfl) (bT:(backTo pos (starEach [] X.env)).any (·.1)=false:=by rfl)
  (eM:starEach [a] X.env=(false,eval a X.env)::starEach [] X.env:=by rfl) (Ht:(backTo js (starEach [] X.env)).any (·.1)=false:=by rfl) (Hu:starEach [] X.env=[]:=by rfl) :
  PE X (.Call (.Name "list" p) [.Call (.Name "range" p2) [a] [] js] [] pos) (lE (sH t)) :=
 dm (bC1 hc hg hm yU rK ha hs bT eM Ht Hu) λσ H Q zq=>by
 obtain⟨B,F,δ,ts,Qd,c,q,k⟩:=zq
 exact⟨B,F,δ,ts,_,c,q,λd ak v F1 H1 q1 f1 h1 c1 s1=>by
  obtain⟨j,rfl,hj,hq⟩:=q1
  cases s1
  refine⟨j,rfl,hj,λl hl=>?_⟩
  have sn:∀ns:List Nat,S F1 H1 (aq ns) (ns.map λ(k:Nat)=>V.int (k:Int)):=λns=>by
   induction ns with
   | nil=>exact .nil
   | cons n ns ih=>exact .int ih
  exact k _ ak _ F1 _ hq f1 (h1.trans (ag.upd hl)) (c1.mJ hl (sn _) (jo _))⟩
end
end L3
namespace L3
open PySem L2 PySem.Spec PyProof.Rows
section
variable{F H:Hp}
theorem R.take1{xs:List D}{ws:List V}{A:List Addr}(n:Nat)(r:R F H xs ws A)(nd:A.Nodup):∃A',R F H (xs.take n) (ws.take n) A'/\A'.Nodup/\∀a∈A',a∈A:=by
 have r':R F H (xs.take n++xs.drop n) ws A:=by rw[vT];exact r
 obtain⟨v1,v2,A1,A2,rfl,rfl,h1,h2⟩:=R.split r'
 have l1:=h1.length
 have l2:=h2.length
 rw[fV]at l1
 rw[iF]at l2
 have e:(v1++v2).take n=v1:=by
  by_cases c:n<=xs.length
  ·exact List.take_left' (by omega)
  ·have:v2=[]:=xU.mp (by omega)
   rw[this,eH]
   exact AJ (by omega)
 rw[e]
 exact⟨A1,h1,(fX.mp nd).1,λa ha=>dZ _ ha⟩
theorem R.c42{xs:List D}{ws:List V}{A:List Addr}(n:Nat)(r:R F H xs ws A)(nd:A.Nodup):∃A',R F H (xs.drop n) (ws.drop n) A'/\A'.Nodup/\∀a∈A',a∈A:=by
 have r':R F H (xs.take n++xs.drop n) ws A:=by rw[vT];exact r
 obtain⟨v1,v2,A1,A2,rfl,rfl,h1,h2⟩:=R.split r'
 have l1:=h1.length
 have l2:=h2.length
 rw[fV]at l1
 rw[iF]at l2
 have e:(v1++v2).drop n=v2:=by
  by_cases c:n<=xs.length
  ·exact List.drop_left' (by omega)
  ·have:v2=[]:=xU.mp (by omega)
   rw[this,eH]
   exact Em (by omega)
 rw[e]
 exact⟨A2,h2,(fX.mp nd).2.1,λa ha=>cY _ ha⟩
theorem R.c43{xs:List D}{ws:List V}{A:List Addr}(lo hi:Option Int)(r:R F H xs ws A)(nd:A.Nodup):∃A',R F H (eU xs lo hi) (k9 ws lo hi) A'/\A'.Nodup/\∀a∈A',a∈A:=by
 unfold eU k9
 rw[<-r.length]
 obtain⟨A1,r1,n1,s1⟩:=r.c42 (HT.cN xs.length 0 lo) nd
 obtain⟨A2,r2,n2,s2⟩:=r1.take1 (HT.cN xs.length xs.length hi-HT.cN xs.length 0 lo) n1
 exact⟨A2,r2,n2,λa ha=>s1 a (s2 a ha)⟩
theorem aj.c44{B:Bs}{σ:L2.St}{δ:Dl}{ts:List (D × V)}{p r:Addr}{xs:List D}{ws:List V}(c:aj B F H σ δ ((.lst true xs,.ref p)::ts))(e1:H p=some (.lst ws))(hr:H r=none)(lo hi:Option Int) :
  aj B F (upd H r (.lst (k9 ws lo hi))) σ δ ((.lst true (eU xs lo hi),.ref r)::ts):=by
 refine aj.pack (ps:=[(.lst true xs,.ref p)]) c (ag.upd hr) λA1 r1 nd=>?_
 have n1:p≠r:=λz=>by rw[z,hr]at e1;cases e1
 have r1:R F (upd H r (.lst (k9 ws lo hi))) [.lst true xs] [.ref p] A1:=r1
 have nr:r ∉ A1:=λh=>by
  obtain⟨A,C,r0,_,_,_⟩:=c.own
  have r0':R F H ([D.lst true xs]++ts.map (·.1)) ([V.ref p]++ts.map (·.2)) A:=by simpa using r0
  obtain⟨v1,v2,B1,B2,e,rfl,h1,h2⟩:=R.split r0'
  have l1:[V.ref p].length=v1.length:=by rw[<-h1.length];rfl
  obtain⟨rfl,rfl⟩:=vQ e l1
  have g1:=h1.grow (ag.refl F) (ag.upd (o:=.lst (k9 ws lo hi)) hr) λa ha=>(h1.lists a ha).2
  have e3:A1=B1:=R.inj r1 g1
  subst e3
  obtain⟨⟨_,q⟩,_⟩:=h1.lists r h
  rw[hr]at q;cases q
 cases r1 with
 | @own _ wx _ Ax _ _ Bx hx fx rx rc =>
  cases rc
  rw[aV n1,e1]at hx;cases hx
  rw[eH]at nd nr ⊢
  rw[iD]at nd
  obtain⟨A2,r2,nd2,s2⟩:=rx.c43 lo hi nd.2
  refine⟨r::A2,by simpa using R.own (F:=F) bA (c.ext.free hr) r2 .nil,?_,λa ha=>?_⟩
  ·rw[iD];exact⟨λz=>nr (eG _ (s2 r z)),nd2⟩
  ·rcases cj.mp ha with rfl | ha
   ·exact .inr hr
   ·exact .inl (eG _ (s2 a ha))
end
section
variable{X:Cx}{e:Expr}{t:aH}{p2 pos:Pos}
noncomputable def sI(t:aH)(tl th:rM):aH:=λδ Q=>t δ λx ak=>∃xs,x=.lst true xs/\tl ak λl bh=>th bh λu gI=>Q (.lst true (eU xs l u)) gI
theorem b18{lo hi:Option Expr}{tl th:rM}(he:PE X e (lE t))(hl:PO X lo (lP tl))(hu:PO X hi (lP th)):PE X (.Subscript e (.Slice lo hi none p2) pos) (lE (sI t tl th)) :=
 dm (Np Ny he hl hu) λσ H Q zq=>by
 obtain⟨B,F,δ,ts,Qd,c,q,k⟩:=zq
 exact⟨B,F,δ,ts,_,c,q,λx ak v F1 H1 q1 f1 h1 c1=>by
  obtain⟨xs,rfl,q1⟩:=q1
  exact⟨B,F1,ak,(.lst true xs,v)::ts,_,c1,q1,λl bh F2 H2 q2 f2 h2 c2=>⟨B,F2,bh,(.lst true xs,v)::ts,_,c2,q2,λu gI F3 H3 q3 f3 h3 c3=>by
   obtain⟨p,ws,rfl,e1,s1⟩:=iO c3.top c3.ext
   exact⟨p,ws,rfl,(lM (.inl e1)),λr hr=>k _ gI _ F3 _ q3 ((f1.trans f2).trans f3) (((h1.trans h2).trans h3).trans (ag.upd hr)) (c3.c44 e1 hr l u)⟩⟩⟩⟩
end
end L3
namespace L3
open PySem L2 PySem.Spec PyProof.Rows
section
variable{F H:Hp}
end
section
variable{P:Program}{w:World}{K:PySem.W.Frag}{mg:Str->Option Value}{base:Heap}
end
section
variable{X:Cx}{CX:e7}{n i:Nat}{f:Addr}{fd:FuncData}{ps:List Str}{sp:aX}{E:XK}{fn x:Str}{e:Expr}{te:aH}{p p2 pos pos' js:Pos}
end
end L3
namespace L2
section
variable{α:Type}{P:List α->Prop}
theorem cA6(h:P []):∀us:List α,us.length=0->P us:=by
 intro us hl;rcases us with _ | ⟨a,t⟩
 ·exact h
 ·cases hl
theorem fZ(h:∀a,P [a]):∀us:List α,us.length=1->P us:=by
 intro us hl;rcases us with _ | ⟨a,t⟩
 ·cases hl
 ·exact cA6 (P:=λt=>P (a::t)) (h a) t (xV hl)
theorem fM(h:∀a b,P [a,b]):∀us:List α,us.length=2->P us:=by
 intro us hl;rcases us with _ | ⟨a,t⟩
 ·cases hl
 ·exact fZ (P:=λt=>P (a::t)) (h a) t (xV hl)
theorem fO(h:∀a b c,P [a,b,c]):∀us:List α,us.length=3->P us:=by
 intro us hl;rcases us with _ | ⟨a,t⟩
 ·cases hl
 ·exact fM (P:=λt=>P (a::t)) (h a) t (xV hl)
theorem pS(h:∀a b c d,P [a,b,c,d]):∀us:List α,us.length=4->P us:=by
 intro us hl;rcases us with _ | ⟨a,t⟩
 ·cases hl
 ·exact fO (P:=λt=>P (a::t)) (h a) t (xV hl)
theorem QM(h:∀a b c d e,P [a,b,c,d,e]):∀us:List α,us.length=5->P us:=by
 intro us hl;rcases us with _ | ⟨a,t⟩
 ·cases hl
 ·exact pS (P:=λt=>P (a::t)) (h a) t (xV hl)
theorem cy0(h:∀a b c d e f,P [a,b,c,d,e,f]):∀us:List α,us.length=6->P us:=by
 intro us hl;rcases us with _ | ⟨a,t⟩
 ·cases hl
 ·exact QM (P:=λt=>P (a::t)) (h a) t (xV hl)
end
end L2
namespace L3
open PySem L2 PySem.Spec PyProof.Rows
section
variable{B:Bs}{F H:Hp}{σ:L2.St}{δ:Dl}{ts:List (D × V)}
end
section
variable{X:Cx}{elt iter tg:Expr}{pos:Pos}{scope:Scope}{cl:List (Str × Addr)}{ti:jM}{te:aH}{g:iK}
end
end L3
namespace L2
open PySem PySem.Spec PyProof.Rows
section
variable{X:Cx}
end
end L2
namespace L3
open PySem L2 PySem.Spec PyProof.Rows
section
variable{X:Cx}
end
end L3
namespace L3
open PySem L2 Mf
theorem Ct{m:Bool × Nat}(hm:m∈ay){a b:Nat}(ha:a<aa m)(hb:b<aa m):gm m a b=0↔a=0\/b=0:=by
 constructor
 ·intro h
  by_cases a0:a=0
  ·exact .inl a0
  ·by_cases b0:b=0
   ·exact .inr b0
   ·exact absurd h (cD0 hm (by omega) ha (by omega) hb)
 ·rintro (rfl | rfl)
  ·exact fi m _ (b8 m hm)
  ·exact iu m _ (b8 m hm)
theorem QN{m:Bool × Nat}(hm:m∈ay)(x:Nat->Nat)(hx:∀j,x j<aa m):∀(n:Nat) (c:Nat->Nat),(∀j,c j<aa m)->(∀i j,i<n->j<n->x i=x j->i=j)->(∀i,i<n->sm (gp m) n (λj=>gm m (c j) (px m (x j) i))=0)->∀j,j<n->c j=0
 | 0,_,_,_,_,j,hj=>absurd hj (by omega)
 | n+1,c,hc,hd,h,j,hj=>by
  have r:=rg hm
  have h0:=b8 m hm
  have dH:=lo1 hm
  have dn:∀j,bx m (x j) (x n)<aa m/\gp m (bx m (x j) (x n)) (x n)=x j:=λj=>(iU hm (hx j) (hx n)).2
  have key:∀i,i<n->sm (gp m) n (λj=>gm m (gm m (c j) (bx m (x j) (x n))) (px m (x j) i))=0:=λi hi=>by
   have h1:=h (i+1) (by omega)
   have hz:=h i (by omega)
   have e:∀j,gm m (c j) (px m (x j) (i+1))=gp m (gm m (gm m (c j) (bx m (x j) (x n))) (px m (x j) i)) (gm m (x n) (gm m (c j) (px m (x j) i))):=λj=>by
    show gm m (c j) (gm m (px m (x j) i) (x j))=_
    have e1:gm m (px m (x j) i) (x j)=gm m (px m (x j) i) (gp m (bx m (x j) (x n)) (x n)):=by rw[(dn j).2]
    rw[e1,zu h0,zu h0]
    congr 1
    ·rw[ir h0,gO m (px m (x j) i)]
    ·rw[gO m (px m (x j) i),<- ir h0,gO m (c j),ir h0]
   rw[cw λj _=>e j,lY r,pI r,hz,r.qz]at h1
   have ln:sm (gp m) n (λj=>gm m (gm m (c j) (bx m (x j) (x n))) (px m (x j) i))<aa m:=kO r λ_ _=>bX hm _ _
   rw[sm,B9,iu m _ h0,fi m _ h0,kb ln,kb ln]at h1
   exact h1
  have ih:=QN hm x hx n (λj=>gm m (c j) (bx m (x j) (x n))) (λ_=>bX hm _ _) (λi j hi hj=>hd i j (by omega) (by omega)) key
  have cz:∀j,j<n->c j=0:=λj hj=>by
   rcases(Ct hm (hc j) (dn j).1).mp (ih j hj)with z | z
   ·exact z
   ·have:=(dn j).2
    rw[z,wY (hx n)]at this
    exact absurd (hd n j (by omega) (by omega) this) (by omega)
  by_cases c0:j<n
  ·exact cz j c0
  ·have ej:j=n:=by omega
   subst ej
   have:=h 0 (by omega)
   rw[sm,fv r λi hi=>by rw[cz i hi,fi m _ h0]]at this
   rw[show px m (x j) 0=1 from rfl,pB (hc j),wY (hc j)]at this
   exact this
noncomputable def fP(m:Bool × Nat)(b:Nat)(ps:List Nat)(n:Nat):List (List Nat):=(aF n).map λ(i:Nat)=>ps.map λ(p:Nat)=>eS m (((b:Int)+(i:Int))*(p:Int))
theorem Hv{m:Bool × Nat}(hm:m∈ay)(b:Nat)(ps:List Nat)(n:Nat):RT (aa m) ps.length (fP m b ps n)/\(fP m b ps n).length=n:=by
 refine⟨λr hr=>?_,by unfold fP;rw[bt,bS]⟩
 obtain⟨i,_,rfl⟩:=bE.mp hr
 refine⟨by rw[bt],λx hx=>?_⟩
 obtain⟨p,_,rfl⟩:=bE.mp hx
 exact G6 hm _
theorem cn1{m:Bool × Nat}{b:Nat}{ps:List Nat}{n a:Nat}(ha:a<n):(fP m b ps n).getD a []=ps.map λ(p:Nat)=>eS m (((b:Int)+(a:Int))*(p:Int)):=by
 unfold fP
 rw[aM,bO,hW ha];rfl
theorem ct4{m:Bool × Nat}(hm:m∈ay){a b:Nat}(ha:a+1<aa m)(hb:b+1<aa m)(h:eS m (a:Int)=eS m (b:Int)):a=b:=by
 have h1:=(pE hm (a:Int)).2.2.1
 have h2:=(pE hm (b:Int)).2.2.1
 rw[h,h2,Ew (by omega) (by omega),Ew (by omega) (by omega)]at h1
 omega
end L3
namespace L3
open PySem L2 Mf
noncomputable def gP(m:Bool × Nat)(c:List Nat)(os:List (List Nat)):List (List Nat):=os.map λo =>
 (eI (λx y=>bx m x (gm m (gm m (o.getD (aU c) 0) (nh m (c.getD (aU c) 0))) y)) o c).take (aU c)++(eI (λx y=>bx m x (gm m (gm m (o.getD (aU c) 0) (nh m (c.getD (aU c) 0))) y)) o c).drop (aU c+1)
noncomputable abbrev Cs:=List Nat × List (List Nat)
noncomputable def nul(c:List Nat):Bool:=c.all (·==0)
noncomputable def gQ(m:Bool × Nat)(w:Nat)(z:Cs × Nat):Cs:=(z.1.1++[w-z.1.2.length+z.2],gP m (z.1.2.getD z.2 []) (z.1.2.drop (z.2+1)))
noncomputable def fB(s:Cs):List (Cs × Nat):=(aF s.2.length).map λi=>(s,i)
noncomputable def dF(l:List Cs):List (Cs × Nat):=l.flatMap fB
noncomputable def pT(z:Cs × Nat):Bool:=nul (z.1.2.getD z.2 [])
noncomputable def vj(m:Bool × Nat)(w:Nat):Nat->List Cs->Option (List Nat)
 | 0,_=>none
 | f+1,l=>if l=[]then none else match (dF l).find? pT with
  | some z=>some (z.1.1++[w-z.1.2.length+z.2])
  | none=>vj m w f ((dF l).map (gQ m w))
noncomputable def gA(m:Bool × Nat)(C:Nat->Nat->Nat)(ps:List Nat)(c:Nat->Nat)(k:Nat):Nat:=sm (gp m) ps.length λt=>gm m (c t) (C (ps.getD t 0) k)
noncomputable def pU(m:Bool × Nat)(C:Nat->Nat->Nat)(ps:List Nat):Prop:=∀c:Nat->Nat,(∀t,c t<aa m)->(∀k,gA m C ps c k=0)->∀t,t<ps.length->c t=0
structure Gs(m:Bool × Nat)(C:Nat->Nat->Nat)(w:Nat)(s:Cs):Prop where
 le:s.2.length<=w
 inc:s.1.Pairwise (· < ·)
 off:∀p∈s.1,p<w-s.2.length
 nx:∀j,(∀p∈s.1,p<j)->w-s.2.length<=j
 rt:∃h,RT (aa m) h s.2
 rel:∀a:Nat->Nat,(∀i,a i<aa m)->((∀k,sm (gp m) s.2.length (λi=>gm m (a i) (cf (s.2.getD i []) k))=0)↔∃c:Nat->Nat,(∀t,c t<aa m)/\∀k,gp m (sm (gp m) s.2.length λi=>gm m (a i) (C (w-s.2.length+i) k)) (gA m C s.1 c k)=0)
 ind:pU m C s.1
section
variable{m:Bool × Nat}{C:Nat->Nat->Nat}{w:Nat}
theorem cr1(hm:m∈ay)(C:Nat->Nat->Nat)(ps:List Nat)(c:Nat->Nat)(k:Nat):gA m C ps c k<aa m:=kO (rg hm) λ_ _=>bX hm _ _
theorem Cu(hm:m∈ay)(C:Nat->Nat->Nat)(ps:List Nat)(j:Nat)(c:Nat->Nat)(k:Nat):gA m C (ps++[j]) c k=gp m (gA m C ps c k) (gm m (c ps.length) (C j k)):=by
 unfold gA
 rw[di,qm,sm]
 congr 1
 ·refine cw λt ht=>?_
  rw[aM,s8 ht,<- aM]
 ·rw[aM,nB (bL _),EB];rfl
theorem QO{ps:List Nat}{c c':Nat->Nat}{k:Nat}(h:∀t,t<ps.length->c t=c' t):gA m C ps c k=gA m C ps c' k:=cw λt ht=>by rw[h t ht]
theorem sJ(hm:m∈ay){n i e:Nat}(hi:i<n)(a' X:Nat->Nat):sm (gp m) n (λj=>gm m (if j<i then 0 else if j=i then e else a' (j-i-1)) (X j))=gp m (sm (gp m) (n-i-1) λj=>gm m (a' j) (X (i+1+j))) (gm m e (X i)):=by
 have r:=rg hm
 have h0:=b8 m hm
 obtain⟨d,rfl⟩:∃d,n=(i+1)+d:=⟨n-i-1,by omega⟩
 rw[G9 r (i+1) d λ_ _=>bX hm _ _,sm,fv r λj hj=>by rw[if_pos hj,fi m _ h0],if_neg (gU _),if_pos rfl,r.z (bX hm _ _),m4]
 congr 1
 rw[show i+1+d-i-1=d by omega]
 refine cw λj hj=>?_
 rw[if_neg (by omega),if_neg (by omega),show i+1+j-i-1=j by omega]
theorem QP{c:List Nat}:nul c=true↔∀k,cf c k=0:=by
 unfold nul
 rw[dG]
 constructor
 ·intro h k
  by_cases hk:k<c.length
  ·unfold cf
   have:=h _ (cy hk 0)
   exact beq_iff_eq.mp this
  ·exact m8 (by omega)
 ·intro h x hx
  obtain⟨k,hk,rfl⟩:=gX hx
  have:=h k
  unfold cf at this
  rw[aM,aO hk]at this
  exact beq_iff_eq.mpr this
theorem Hw{c:List Nat}(h:nul c=false):aU c<c.length/\cf c (aU c)≠0:=by
 have hx:∃x∈c,(x != 0)=true:=by
  refine xM λz=>?_
  have:nul c=true:=by
   unfold nul
   rw[dG]
   intro x hx
   refine xM λy=>z ⟨x,hx,?_⟩
   simpa using y
  rw[h]at this;cases this
 have hl:aU c<c.length:=MA hx
 refine⟨hl,?_⟩
 have h2:(c[aU c] != 0)=true:=W2 (xs:=c) (p:=(· != 0)) (w:=hl)
 unfold cf
 rw[aM,aO hl]
 simpa using h2
theorem cq5(hm:m∈ay){b:List Nat}{os:List (List Nat)}{h:Nat}(hb:b.length=h)(ab:AllLt (aa m) b)(l8:RT (aa m) h os)(nb:nul b=false){a:Nat->Nat}(ha:∀i,a i<aa m) :
  (∀k,sm (gp m) os.length (λj=>gm m (a j) (cf ((gP m b os).getD j []) k))=0)↔∃e,e<aa m/\∀k,gp m (sm (gp m) os.length λj=>gm m (a j) (cf (os.getD j []) k)) (gm m e (cf b k))=0:=by
 have r:=rg hm
 have h0:=b8 m hm
 have dH:=lo1 hm
 obtain⟨hp,bp⟩:=Hw nb
 have QQ:=dv hm ab (aU b)
 obtain⟨iv,iv1,QR⟩:=Qc hm (a:=1) (by omega) QQ bp
 have Hx:nh m (b.getD (aU b) 0)=iv:=Ca hm iv1 QR
 obtain⟨D,hD⟩:∃D:Nat->List Nat,∀j,D j=eI (λx y=>bx m x (gm m (gm m ((os.getD j []).getD (aU b) 0) iv) y)) (os.getD j []) b:=⟨_,λ_=>rfl⟩
 have QS:∀j,j<os.length->∀k,gp m (cf (D j) k) (gm m (gm m (cf (os.getD j []) (aU b)) iv) (cf b k))=cf (os.getD j []) k:=λj hj k=>by
  rw[hD]
  exact Cg hm (l8 _ (cy hj [])).1 hb (l8 _ (cy hj [])).2 k
 have Dlt:∀j,j<os.length->∀k,cf (D j) k<aa m:=λj hj k=>by
  rw[hD]
  exact Hm hm (l8 _ (cy hj [])).1 hb (l8 _ (cy hj [])).2 _ k
 have Dp:∀j,j<os.length->cf (D j) (aU b)=0:=λj hj=>by
  have l1:=dv hm (l8 _ (cy hj [])).2 (aU b)
  have:=QS j hj (aU b)
  rw[ir h0,QR,pB l1]at this
  exact r.cn (Dlt j hj _) l1 this
 have c57:∀j,j<os.length->(D j).length=h:=λj hj=>by
  rw[hD,nM,(l8 _ (cy hj [])).1,hb,AK]
 have Hy:∀j,j<os.length->∀k,cf ((gP m b os).getD j []) k=cf (D j) (if k<aU b then k else k+1):=λj hj k=>by
  have e1:(gP m b os).getD j []=(D j).take (aU b)++(D j).drop (aU b+1):=by
   unfold gP
   rw[vh _ hj [] [],Hx,hD]
  rw[e1]
  have lt:((D j).take (aU b)).length=aU b:=by rw[fV,c57 j hj];omega
  unfold cf
  by_cases hk:k<aU b
  ·rw[if_pos hk,aM,s8 (by omega),WN hk,<- aM]
  ·rw[if_neg hk,aM,nB (by omega),lt,El,show aU b+1+(k-aU b)=k+1 by omega,<- aM]
 obtain⟨F,hF⟩:∃F,F=sm (gp m) os.length λj=>gm m (a j) (gm m (cf (os.getD j []) (aU b)) iv):=⟨_,rfl⟩
 have Flt:F<aa m:=by rw[hF];exact kO r λ_ _=>bX hm _ _
 have QT:∀k,(sm (gp m) os.length λj=>gm m (a j) (cf (os.getD j []) k))=gp m (sm (gp m) os.length λj=>gm m (a j) (cf (D j) k)) (gm m F (cf b k)):=λk=>by
  rw[cw (g:=λj=>gp m (gm m (a j) (cf (D j) k)) (gm m (cf b k) (gm m (a j) (gm m (cf (os.getD j []) (aU b)) iv)))) λj hj=>?_,lY r,pI r,<- hF,gO m (cf b k)]
  rw[<-QS j hj k,zu h0]
  congr 1
  rw[<-ir h0,gO m _ (cf b k)]
 have c58:(∀k,sm (gp m) os.length (λj=>gm m (a j) (cf ((gP m b os).getD j []) k))=0)↔∀k,sm (gp m) os.length (λj=>gm m (a j) (cf (D j) k))=0:=by
  constructor
  ·intro h k
   by_cases e:k=aU b
   ·exact fv r λj hj=>by rw[e,Dp j hj,iu m _ h0]
   ·by_cases c:k<aU b
    ·rw[<-h k]
     exact cw λj hj=>by rw[Hy j hj,if_pos c]
    ·rw[<-h (k-1)]
     exact cw λj hj=>by rw[Hy j hj,if_neg (by omega),show k-1+1=k by omega]
  ·intro h k
   rw[cw λj hj=>by rw[Hy j hj]]
   exact h _
 rw[c58]
 constructor
 ·intro h
  obtain⟨e,e1,e2⟩:=r.ng Flt
  refine⟨e,e1,λk=>?_⟩
  rw[QT k,h k,r.z (bX hm _ _),<- B8 h0,e2,fi m _ h0]
 ·rintro⟨e,e1,h⟩
  have key:∀k,gp m (sm (gp m) os.length λj=>gm m (a j) (cf (D j) k)) (gm m (gp m F e) (cf b k))=0:=λk=>by
   rw[B8 h0,<- B7,<- QT k]
   exact h k
  have fe:gp m F e=0:=by
   have:=key (aU b)
   rw[fv r λj hj=>by rw[Dp j hj,iu m _ h0],r.z (bX hm _ _)]at this
   rcases(Ct hm (P4 hm Flt e1) QQ).mp this with z | z
   ·exact z
   ·exact absurd z bp
  intro k
  have:=key k
  rw[fe,fi m _ h0,kb (kO r λ_ _=>bX hm _ _)]at this
  exact this
theorem Hz(m:Bool × Nat)(b:List Nat)(os:List (List Nat)):(gP m b os).length=os.length:=by unfold gP;rw[bt]
theorem ct9(hm:m∈ay){b:List Nat}{os:List (List Nat)}{h:Nat}(hb:b.length=h)(l8:RT (aa m) h os)(nb:nul b=false):RT (aa m) (h-1) (gP m b os):=λx hx=>by
 obtain⟨o,ho,rfl⟩:=bE.mp hx
 obtain⟨hp,_⟩:=Hw nb
 obtain⟨l1,l2⟩:=l8 o ho
 refine⟨by rw[di,fV,iF,nM,l1,hb];omega,λy hy=>?_⟩
 have:AllLt (aa m) (eI (λx y=>bx m x (gm m (gm m (o.getD (aU b) 0) (nh m (b.getD (aU b) 0))) y)) o b):=G8 λx hx y _=>(iU hm (l2 x hx) (bX hm _ y)).2.1
 rcases cg.mp hy with z | z
 ·exact this y (tE z)
 ·exact this y (nL z)
theorem Gs.next(hm:m∈ay){s:Cs}(G:Gs m C w s){i:Nat}(hi:i<s.2.length)(nb:nul (s.2.getD i [])=false)(hC:∀j k,C j k<aa m):Gs m C w (gQ m w (s,i)):=by
 have r:=rg hm
 have h0:=b8 m hm
 have dH:=lo1 hm
 have hle:=G.le
 obtain⟨h,Cv⟩:=G.rt
 obtain⟨bl,ba⟩:=Cv _ (cy hi [])
 have QU:RT (aa m) h (s.2.drop (i+1)):=λx hx=>Cv x (nL hx)
 have kl:(gQ m w (s,i)).2.length=s.2.length-i-1:=by
  show(gP m _ _).length=_
  rw[Hz,iF]
  show s.2.length-(i+1)=_
  omega
 have dl:(s.2.drop (i+1)).length=s.2.length-i-1:=by rw[iF];omega
 have ko:w-(gQ m w (s,i)).2.length=w-s.2.length+i+1:=by omega
 have dg:∀j,(s.2.drop (i+1)).getD j []=s.2.getD (i+1+j) []:=λj=>by rw[aM,El,<- aM]
 refine⟨by omega,?_,λp hp=>?_,λj hj=>?_,⟨h-1,ct9 hm bl QU nb⟩,λa ha=>?_,λc hc hz t ht=>?_⟩
 ·refine AS.mpr ⟨G.inc,MF _ _,λx hx y hy=>?_⟩
  rw[gn.mp hy]
  have:=G.off x hx
  show x<w-s.2.length+i
  omega
 ·rw[ko]
  rcases cg.mp hp with z | z
  ·have:=G.off p z;omega
  ·rw[gn.mp z];exact D7 _
 ·rw[ko]
  have:=hj (w-s.2.length+i) (cY _ (gn.mpr rfl))
  omega
 ·have e1:(∀k,sm (gp m) (gQ m w (s,i)).2.length (λj=>gm m (a j) (cf ((gQ m w (s,i)).2.getD j []) k))=0)↔∃e,e<aa m/\∀k,gp m (sm (gp m) (s.2.length-i-1) λj=>gm m (a j) (cf (s.2.getD (i+1+j) []) k)) (gm m e (cf (s.2.getD i []) k))=0:=by
   have:=cq5 hm bl ba QU nb ha
   rw[dl]at this
   rw[kl]
   refine this.trans ?_
   constructor
   ·rintro⟨e,e1,e2⟩
    exact⟨e,e1,λk=>by rw[<-e2 k,cw λj _=>by rw[<-dg j]]⟩
   ·rintro⟨e,e1,e2⟩
    exact⟨e,e1,λk=>by rw[<-e2 k,cw λj _=>by rw[dg j]]⟩
  rw[e1]
  have al:∀e,e<aa m->∀j,(if j<i then 0 else if j=i then e else a (j-i-1))<aa m:=λe he j=>by
   split
   ·omega
   ·split
    ·exact he
    ·exact ha _
  have QV:∀(c:Nat->Nat) (e k:Nat),gp m (sm (gp m) s.2.length λj=>gm m (if j<i then 0 else if j=i then e else a (j-i-1)) (C (w-s.2.length+j) k)) (gA m C s.1 c k)=gp m (sm (gp m) (s.2.length-i-1) λj=>gm m (a j) (C (w-s.2.length+i+1+j) k)) (gp m (gA m C s.1 c k) (gm m e (C (w-s.2.length+i) k))):=λc e k=>by
   rw[sJ hm hi a (λj=>C (w-s.2.length+j) k),B7,m4 m (gm m e _)]
   congr 1
   exact cw λj _=>by rw[show w-s.2.length+(i+1+j)=w-s.2.length+i+1+j by omega]
  have ln:∀c k,gA m C (gQ m w (s,i)).1 c k=gp m (gA m C s.1 c k) (gm m (c s.1.length) (C (w-s.2.length+i) k)):=λc k=>Cu hm C s.1 _ c k
  constructor
  ·rintro⟨e,e1,e2⟩
   obtain⟨c,c1,c2⟩:=(G.rel _ (al e e1)).mp λk=>by
    rw[sJ hm hi a (λj=>cf (s.2.getD j []) k)]
    exact e2 k
   refine⟨λt=>if t=s.1.length then e else c t,λt=>by
    show(if t=s.1.length then e else c t)<aa m
    split
    ·exact e1
    ·exact c1 t,λk=>?_⟩
   rw[ln,ko,kl,if_pos rfl,QO (c':=c) λt ht=>if_neg (gh ht),<- QV c e k]
   exact c2 k
  ·rintro⟨c,c1,c2⟩
   refine⟨c s.1.length,c1 _,λk=>?_⟩
   have:=(G.rel _ (al _ (c1 s.1.length))).mpr ⟨c,c1,λk=>by
    rw[QV c _ k]
    have:=c2 k
    rw[ln,ko,kl]at this
    exact this⟩ k
   rw[sJ hm hi a (λj=>cf (s.2.getD j []) k)]at this
   exact this
 ·have ln:∀k,gp m (gA m C s.1 c k) (gm m (c s.1.length) (C (w-s.2.length+i) k))=0:=λk=>by
   rw[<-Cu hm C s.1 _ c k]
   exact hz k
  have e0:c s.1.length=0:=by
   refine xM λz=>?_
   have al:∀j,(if j<i then 0 else if j=i then c s.1.length else(λ_=>0) (j-i-1))<aa m:=λj=>by
    split
    ·omega
    ·split
     ·exact hc _
     ·show 0<_;omega
   have z0:∀(n:Nat) (X:Nat->Nat),sm (gp m) n (λj=>gm m ((λ_=>0) j) (X j))=0:=λn X=>fv r λ_ _=>fi m _ h0
   have:=(G.rel _ al).mpr ⟨c,hc,λk=>by
    rw[sJ hm hi (λ_=>0) (λj=>C (w-s.2.length+j) k),z0,r.z (bX hm _ _),m4]
    exact ln k⟩
   have nn:nul (s.2.getD i [])=true:=QP.mpr λk=>by
    have q:=this k
    rw[sJ hm hi (λ_=>0) (λj=>cf (s.2.getD j []) k),z0,r.z (bX hm _ _)]at q
    rcases(Ct hm (hc _) (dv hm ba k)).mp q with y | y
    ·exact absurd y z
    ·exact y
   rw[nb]at nn;cases nn
  have hs:∀k,gA m C s.1 c k=0:=λk=>by
   have:=ln k
   rw[e0,fi m _ h0,kb (cr1 hm C _ c k)]at this
   exact this
  have hl:(gQ m w (s,i)).1.length=s.1.length+1:=by show(s.1++[_]).length=_;rw[di];rfl
  by_cases ct:t<s.1.length
  ·exact G.ind c hc hs t ct
  ·rw[show t=s.1.length by omega];exact e0
theorem Gs.bound(hm:m∈ay){s:Cs}(G:Gs m C w s){i:Nat}(hi:i<s.2.length)(hC:∀j k,C j k<aa m):nul (s.2.getD i [])=true↔∃c:Nat->Nat,(∀t,c t<aa m)/\c s.1.length=1/\∀k,gA m C (s.1++[w-s.2.length+i]) c k=0:=by
 have r:=rg hm
 have h0:=b8 m hm
 have dH:=lo1 hm
 obtain⟨h,Cv⟩:=G.rt
 obtain⟨bl,ba⟩:=Cv _ (cy hi [])
 have al:∀j,(if j<i then 0 else if j=i then 1 else(λ_=>0) (j-i-1))<aa m:=λj=>by
  split
  ·omega
  ·split
   ·omega
   ·show 0<_;omega
 have z0:∀(n:Nat) (X:Nat->Nat),sm (gp m) n (λj=>gm m ((λ_=>0) j) (X j))=0:=λn X=>fv r λ_ _=>fi m _ h0
 have e1:nul (s.2.getD i [])=true↔∀k,sm (gp m) s.2.length (λj=>gm m (if j<i then 0 else if j=i then 1 else(λ_=>0) (j-i-1)) (cf (s.2.getD j []) k))=0:=by
  rw[QP]
  refine forall_congr' λk=>?_
  rw[sJ hm hi (λ_=>0) (λj=>cf (s.2.getD j []) k),z0,r.z (bX hm _ _),pz (dv hm ba k)]
 rw[e1,G.rel _ al]
 constructor
 ·rintro⟨c,c1,c2⟩
  refine⟨λt=>if t=s.1.length then 1 else c t,λt=>by
   show(if t=s.1.length then 1 else c t)<aa m
   split
   ·omega
   ·exact c1 t,if_pos rfl,λk=>?_⟩
  rw[Cu hm,if_pos rfl,QO (c':=c) λt ht=>if_neg (gh ht),m4,<- c2 k,sJ hm hi (λ_=>0) (λj=>C (w-s.2.length+j) k),z0,r.z (bX hm _ _)]
 ·rintro⟨c,c1,c2,c3⟩
  refine⟨c,c1,λk=>?_⟩
  have:=c3 k
  rw[Cu hm,c2]at this
  rw[sJ hm hi (λ_=>0) (λj=>C (w-s.2.length+j) k),z0,r.z (bX hm _ _),m4]
  exact this
end
end L3
namespace L3
open PySem L2 Mf
noncomputable def jW:List Nat->List Nat->Prop
 | a::as,b::bs=>a<b\/(a=b/\jW as bs)
 | _,_=>False
theorem QW:∀l:List Nat,¬ jW l l
 | [],h=>h
 | a::l,h=>h.elim (λz=>gU _ z) λz=>QW l z.2
theorem QX:∀a b:List Nat,jW a b->¬ jW b a
 | [],_,h,_=>h
 | _::_,[],h,_=>h
 | a::as,b::bs,h,h'=>by
  rcases h with h | ⟨rfl,h⟩
  ·rcases h' with h' | ⟨e,_⟩
   ·omega
   ·omega
  ·rcases h' with h' | ⟨_,h'⟩
   ·omega
   ·exact QX as bs h h'
theorem QY:∀(a b:List Nat) (x y:List Nat),a.length=b.length->jW a b->jW (a++x) (b++y)
 | [],_,_,_,_,h=>h.elim
 | _::_,[],_,_,_,h=>h.elim
 | a::as,b::bs,x,y,hl,h=>by
  rcases h with h | ⟨e,h⟩
  ·exact .inl h
  ·exact .inr ⟨e,QY as bs x y (by simpa using hl) h⟩
theorem QZ:∀(a:List Nat) (x y:Nat),x<y->jW (a++[x]) (a++[y])
 | [],_,_,h=>.inl h
 | _::as,x,y,h=>.inr ⟨rfl,QZ as x y h⟩
noncomputable def gB(w:Nat)(S:List Nat):Prop:=S.Pairwise (· < ·)/\∀x∈S,x<w
theorem Q0:∀(S:List Nat) (lo w:Nat),S.Pairwise (· < ·)->(∀x∈S,lo<=x/\x<w)->S.length<=w-lo
 | [],_,_,_,_=>iC _
 | a::S,lo,w,hp,h=>by
  rw[xT]at hp
  have ih:=Q0 S (a+1) w hp.2 λx hx=>⟨hp.1 x hx,(h x (eG _ hx)).2⟩
  have ha:=h a (gE ..)
  rw[fU]
  omega
theorem gB.len{S:List Nat}{w:Nat}(h:gB w S):S.length<=w:=Q0 S 0 w h.1 λx hx=>⟨iC _,h.2 x hx⟩
theorem gB.take{S:List Nat}{w:Nat}(h:gB w S)(k:Nat):gB w (S.take k):=⟨h.1.sublist (List.take_sublist k S),λx hx=>h.2 x (tE hx)⟩
noncomputable def kq(w:Nat)(z:Cs × Nat):List Nat:=z.1.1++[w-z.1.2.length+z.2]
structure Lv(m:Bool × Nat)(C:Nat->Nat->Nat)(w k:Nat)(l:List Cs):Prop where
 gs:∀s∈l,Gs m C w s/\s.1.length=k
 all:∀S,gB w S->S.length=k->∃s∈l,s.1=S
 ord:(l.map (·.1)).Pairwise jW
theorem w9{l:List Cs}{z:Cs × Nat}:z∈dF l↔z.1∈l/\z.2<z.1.2.length:=by
 unfold dF
 rw[List.mem_flatMap]
 constructor
 ·rintro⟨s,hs,hz⟩
  obtain⟨i,hi,rfl⟩:=bE.mp hz
  exact⟨hs,cA.mp hi⟩
 ·rintro⟨h1,h2⟩
  exact⟨z.1,h1,bE.mpr ⟨z.2,cA.mpr h2,rfl⟩⟩
section
variable{m:Bool × Nat}{C:Nat->Nat->Nat}{w:Nat}
theorem HA{k:Nat}:∀{l:List Cs},(∀s∈l,s.1.length=k)->(l.map (·.1)).Pairwise jW->((dF l).map (kq w)).Pairwise jW
 | [],_,_=>Eb
 | s::l,hl,ho=>by
  rw[cK,xT]at ho
  show(((fB s)++dF l).map (kq w)).Pairwise jW
  rw[eo,AS]
  refine⟨?_,HA (λs hs=>hl s (eG _ hs)) ho.2,λa ha b hb=>?_⟩
  ·unfold fB
   rw[bP]
   refine List.pairwise_map.mpr (MG.imp λ{a b} hab=>?_)
   exact QZ s.1 _ _ (show w-s.2.length+a<w-s.2.length+b by omega)
  ·obtain⟨z,hz,rfl⟩:=bE.mp ha
   obtain⟨i,_,rfl⟩:=bE.mp hz
   obtain⟨y,hy,rfl⟩:=bE.mp hb
   obtain⟨h1,_⟩:=w9.mp hy
   exact QY _ _ _ _ (by rw[hl s (gE ..),hl _ (eG _ h1)]) (ho.1 _ (bE.mpr ⟨_,h1,rfl⟩))
theorem Lv.meets(L:Lv m C w k l){S:List Nat}(hS:gB w S)(hk:S.length=k+1):∃z∈dF l,kq w z=S:=by
 have e:S=S.take k++[S.getD k 0]:=by
  have h1:S.drop k=[S.getD k 0]:=by
   rw[EF (by omega),List.drop_of_length_le (by omega),aM,aO (by omega)];rfl
  conv=>lhs;rw[<-vT k S,h1]
 obtain⟨s,hs,es⟩:=L.all _ (hS.take k) (by rw[fV];omega)
 obtain⟨G,_⟩:=L.gs s hs
 have hj:∀p∈s.1,p<S.getD k 0:=λp hp=>by
  rw[es]at hp
  have:=hS.1
  rw[e,AS]at this
  exact this.2.2 p hp _ (gn.mpr rfl)
 have h1:=G.nx _ hj
 have h2:=hS.2 (S.getD k 0) (cy (by omega) 0)
 have h3:=G.le
 refine⟨(s,S.getD k 0-(w-s.2.length)),w9.mpr ⟨hs,?_⟩,?_⟩
 ·show S.getD k 0-(w-s.2.length)<s.2.length
  omega
 ·show s.1++[w-s.2.length+(S.getD k 0-(w-s.2.length))]=S
  rw[show w-s.2.length+(S.getD k 0-(w-s.2.length))=S.getD k 0 by omega,es]
  exact e.symm
theorem Lv.next(hm:m∈ay)(hC:∀j k,C j k<aa m)(L:Lv m C w k l)(hn:∀z∈dF l,pT z=false):Lv m C w (k+1) ((dF l).map (gQ m w)) where
 gs:=λs hs=>by
  obtain⟨z,hz,rfl⟩:=bE.mp hs
  obtain⟨h1,h2⟩:=w9.mp hz
  obtain⟨G,hl⟩:=L.gs _ h1
  refine⟨G.next hm h2 (hn z hz) hC,?_⟩
  show(z.1.1++[_]).length=_
  rw[di,hl];rfl
 all:=λS hS hk=>by
  obtain⟨z,hz,e⟩:=L.meets hS hk
  exact⟨gQ m w z,bE.mpr ⟨z,hz,rfl⟩,e⟩
 ord:=by
  rw[bP]
  exact HA (λs hs=>(L.gs s hs).2) L.ord
theorem HB(hm:m∈ay)(hC:∀j k,C j k<aa m):∀(f k:Nat) (l:List Cs),Lv m C w k l->w+1<=f+k ->
  match vj m w f l with
  | none=>∀S,gB w S->k<=S.length->pU m C S
  | some F=>gB w F/\k<F.length/\(∃c:Nat->Nat,(∀t,c t<aa m)/\c (F.length-1)=1/\∀j,gA m C F c j=0)/\∀S,gB w S->k<=S.length->S.length<F.length\/(S.length=F.length/\jW S F)->pU m C S
 | 0,k,l,L,hf=>λS hS hk=>absurd hS.len (by omega)
 | f+1,k,l,L,hf=>by
  have here:∀S,gB w S->S.length=k->pU m C S:=λS hS hk=>by
   obtain⟨s,hs,rfl⟩:=L.all S hS hk
   exact(L.gs s hs).1.ind
  rw[vj]
  by_cases l0:l=[]
  ·rw[if_pos l0]
   subst l0
   intro S hS hk
   obtain⟨s,hs,_⟩:=L.all (S.take k) (hS.take k) (by rw[fV];omega)
   cases hs
  ·rw[if_neg l0]
   cases e:(dF l).find? pT with
   | some z =>
    obtain⟨hz,as,bs,eL,sM⟩:=W8.mp e
    obtain⟨h1,h2⟩:=w9.mp (Mq e)
    obtain⟨G,hl⟩:=L.gs _ h1
    have hle:=G.le
    have fl:(kq w z).length=k+1:=by show(z.1.1++[_]).length=_;rw[di,hl];rfl
    refine⟨⟨?_,λx hx=>?_⟩,by show k<(kq w z).length;omega,?_,λS hS hk hc=>?_⟩
    ·refine AS.mpr ⟨G.inc,MF _ _,λx hx y hy=>?_⟩
     rw[gn.mp hy]
     have:=G.off x hx
     omega
    ·rcases cg.mp hx with q | q
     ·have:=G.off x q;omega
     ·rw[gn.mp q];omega
    ·obtain⟨c,c1,c2,c3⟩:=(G.bound hm h2 hC).mp hz
     refine⟨c,c1,?_,c3⟩
     show c ((kq w z).length-1)=1
     rw[fl,Nat.add_sub_cancel,<- hl]
     exact c2
    ·by_cases ck:S.length=k
     ·exact here S hS ck
     have cl:S.length=k+1/\jW S (kq w z):=by
      rcases hc with q | ⟨q1,q2⟩
      ·exact absurd (show S.length<(kq w z).length from q) (by omega)
      ·exact⟨(show S.length=(kq w z).length from q1).trans fl,q2⟩
     obtain⟨y,hy,ey⟩:=L.meets hS cl.1
     obtain⟨y1,y2⟩:=w9.mp hy
     obtain⟨Gy,_⟩:=L.gs _ y1
     cases ny:pT y with
     | false =>
      have:=(Gy.next hm y2 ny hC).ind
      rwa [show(gQ m w (y.1,y.2)).1=S from ey]at this
     | true =>
      exfalso
      have od:=HA (w:=w) (λs hs=>(L.gs s hs).2) L.ord
      rw[eL]at hy od
      rw[eo,cK,AS]at od
      have od2:=(xT.mp od.2.1).1
      rcases cg.mp hy with q | q
      ·have:=sM y q
       rw[ny]at this;simp at this
      ·rcases cj.mp q with q | q
       ·rw[q]at ey
        rw[<-ey]at cl
        exact QW _ cl.2
       ·have:=od2 _ (bE.mpr ⟨y,q,rfl⟩)
        rw[ey]at this
        exact QX _ _ this cl.2
   | none =>
    have hn:∀z∈dF l,pT z=false:=λz hz=>by
     have:=MB.mp e z hz
     simpa using this
    have ih:=HB hm hC f (k+1) _ (L.next hm hC hn) (by omega)
    dsimp only
    split
    ·rename_i e2
     rw[e2]at ih
     intro S hS hk
     by_cases ck:S.length=k
     ·exact here S hS ck
     ·exact ih S hS (by omega)
    ·rename_i F e2
     rw[e2]at ih
     obtain⟨i1,i2,i3,i4⟩:=ih
     refine⟨i1,by omega,i3,λS hS hk hc=>?_⟩
     by_cases ck:S.length=k
     ·exact here S hS ck
     ·exact i4 S hS (by omega) hc
end
end L3
namespace L3
open PySem L2 Mf
noncomputable def gb(T:List (List Nat))(j k:Nat):Nat:=cf (T.getD k []) j
theorem HC{m:Bool × Nat}(hm:m∈ay){w:Nat}{T:List (List Nat)}(hT:RT (aa m) w T)(j k:Nat):gb T j k<aa m:=by
 unfold gb
 by_cases hk:k<T.length
 ·exact dv hm (hT _ (cy hk [])).2 j
 ·have e:T.getD k []=[]:=by rw[aM,fF (by omega)];rfl
  rw[e]
  have:=lo1 hm
  show 0<_
  omega
theorem Lv.start{m:Bool × Nat}(hm:m∈ay){T:List (List Nat)}(hw:0<af T)(hT:RT (aa m) (af T) T):Lv m (gb T) (af T) 0 [([],fA T)]:=by
 have r:=rg hm
 obtain⟨t1,t2,t3⟩:=Hq (Nat.lt_trans Nat.zero_lt_one (lo1 hm)) hw hT
 refine⟨λs hs=>?_,λS _ h=>⟨_,gn.mpr rfl,(xU.mp h).symm⟩,MF _ _⟩
 rw[gn.mp hs]
 refine⟨⟨AB t1,Eb,λp hp=>absurd hp (hJ),λj _=>by show af T-(fA T).length<=j;omega,⟨_,t3⟩,λa ha=>?_,λc _ _ t ht=>absurd ht (by show ¬ t<0;omega)⟩,rfl⟩
 have e:∀k,sm (gp m) (fA T).length (λi=>gm m (a i) (cf ((fA T).getD i []) k))=sm (gp m) (fA T).length λi=>gm m (a i) (gb T (af T-(fA T).length+i) k):=λk=>cw λi hi=>by
  rw[QE (by omega),Qz,show af T-(fA T).length+i=i by omega];rfl
 have z:∀c k,gA m (gb T) [] c k=0:=λ_ _=>rfl
 constructor
 ·intro h
  refine⟨λ_=>0,λ_=>by have:=lo1 hm;show 0<_;omega,λk=>?_⟩
  rw[z,kb (kO r λ_ _=>bX hm _ _),<- e k]
  exact h k
 ·rintro⟨c,_,h⟩ k
  have:=h k
  rw[z,kb (kO r λ_ _=>bX hm _ _),<- e k]at this
  exact this
noncomputable def l9(m:Bool × Nat)(T:List (List Nat)):Option (List Nat):=vj m (af T) (af T+1) [([],fA T)]
section
variable{m:Bool × Nat}{C:Nat->Nat->Nat}
end
noncomputable def eY(T:List (List Nat))(F:List Nat):List (List Nat):=T.map λr=>F.map λj=>r.getD j 0
theorem Cw{N w:Nat}{T:List (List Nat)}{F:List Nat}(h0:0<N)(hT:RT N w T):RT N F.length (eY T F)/\(eY T F).length=T.length:=by
 refine⟨λx hx=>?_,by unfold eY;rw[bt]⟩
 obtain⟨r,hr,rfl⟩:=bE.mp hx
 refine⟨by rw[bt],λy hy=>?_⟩
 obtain⟨j,_,rfl⟩:=bE.mp hy
 exact(hT r hr).2.getD h0 j
theorem Q1{T:List (List Nat)}{F:List Nat}{k t:Nat}(hk:k<T.length)(ht:t<F.length):cf ((eY T F).getD k []) t=gb T (F.getD t 0) k:=by
 unfold eY gb cf
 rw[vh _ hk [] [],vh _ ht 0 0]
theorem cr5(m:Bool × Nat){T:List (List Nat)}{F:List Nat}{k:Nat}(hk:k<T.length)(x:Nat->Nat):dt m F.length (cf ((eY T F).getD k [])) x=gA m (gb T) F x k:=by
 unfold dt gA
 exact cw λt ht=>by rw[Q1 hk ht,gO]
theorem b32{o:Bool}{G:List (List Nat)}{i:Nat}{d:D}(hd:(ao o G)[i]?=some d):∃hi:i<G.length,d=.lst o (aq G[i]):=by
 unfold ao at hd
 rw[bO]at hd
 by_cases hi:i<G.length
 ·rw[aO hi]at hd
  exact⟨hi,(dh hd).symm⟩
 ·rw[fF (by omega)]at hd;cases hd
end L3
namespace L3
open PySem L2 PySem.Spec PyProof.Rows
section
variable{B:Bs}{F H:Hp}{σ:L2.St}{δ:Dl}{ts:List (D × V)}
end
section
variable{X:Cx}{a:Expr}{ta:aH}{pos p2:Pos}{tk:Nat}
end
end L3
namespace L3
open PySem L2 PySem.Spec PyProof.Rows
section
variable{X:Cx}{a b:Expr}{ta tb:aH}{elts:List Expr}{x1:Nat}{mE p pos:Pos}
end
end L3
namespace L3
open PySem L2 Mf
section
variable{m:Bool × Nat}
theorem cl1(hm:m∈ay){T:List (List Nat)}(hw:0<af T)(hT:RT (aa m) (af T) T)(h:l9 m T=none):∀S,gB (af T) S->pU m (gb T) S:=by
 have:=HB hm (HC hm hT) (af T+1) 0 _ (Lv.start hm hw hT) (by omega)
 unfold l9 at h
 rw[h]at this
 exact λS hS=>this S hS (iC _)
theorem cj4(hm:m∈ay){T:List (List Nat)}(hw:0<af T)(hT:RT (aa m) (af T) T){F:List Nat}(h:l9 m T=some F):gB (af T) F/\0<F.length/\(∃c:Nat->Nat,(∀t,c t<aa m)/\c (F.length-1)=1/\∀j,gA m (gb T) F c j=0)/\∀S,gB (af T) S->S.length<F.length\/(S.length=F.length/\jW S F)->pU m (gb T) S:=by
 have:=HB hm (HC hm hT) (af T+1) 0 _ (Lv.start hm hw hT) (by omega)
 unfold l9 at h
 rw[h]at this
 obtain⟨a,b,c,d⟩:=this
 exact⟨a,b,c,λS hS=>d S hS (iC _)⟩
theorem Q2(hm:m∈ay){w:Nat}:∀(F s x:List Nat),F.length=s.length->F.Pairwise (· < ·)->(∀p∈F,p<w)->x.length=w->AllLt (aa m) x->AllLt (aa m) s->(∀p∈F,cf x p=0) ->
  ((F.zip s).foldl (λr z=>r.set z.1 z.2) x).length=w/\AllLt (aa m) ((F.zip s).foldl (λr z=>r.set z.1 z.2) x)/\(∀p,p ∉ F->cf ((F.zip s).foldl (λr z=>r.set z.1 z.2) x) p=cf x p)/\(∀t,t<F.length->cf ((F.zip s).foldl (λr z=>r.set z.1 z.2) x) (F.getD t 0)=cf s t) /\
  ∀r:Nat->Nat,dt m w r (cf ((F.zip s).foldl (λr z=>r.set z.1 z.2) x))=gp m (dt m w r (cf x)) (sm (gp m) F.length λt=>gm m (r (F.getD t 0)) (cf s t))
 | [],s,x,_,_,_,h1,h2,_,_=>⟨h1,h2,λ_ _=>rfl,λt ht=>(nomatch ht),λr=>(kb (cE5 hm w r _)).symm⟩
 | p::F,[],x,hl,_,_,_,_,_,_=>nomatch hl
 | p::F,v::s,x,hl,hp,hw,h1,h2,h3,hz=>by
  rw[xT]at hp
  have pw:=hw p (gE ..)
  have hv:v<aa m:=h3 v (gE ..)
  have cs:∀j,cf (x.set p v) j=if j=p then v else cf x j:=cu9 (by omega)
  obtain⟨a1,a2,a3,a4,a5⟩:=Q2 hm F s (x.set p v) (by simpa using hl) hp.2 (λq hq=>hw q (eG _ hq)) (by rw[qk];exact h1) (λy hy=>by
   rcases Es hy with h | h
   ·exact h2 y h
   ·rw[h];exact hv) (λy hy=>h3 y (eG _ hy)) (λq hq=>by
   rw[cs,if_neg (by have:=hp.1 q hq;omega)]
   exact hz q (eG _ hq))
  have pF:p ∉ F:=λh=>gU _ (hp.1 p h)
  refine⟨a1,a2,λq hq=>?_,λt ht=>?_,λr=>?_⟩
  ·rw[cj,not_or]at hq
   show cf ((F.zip s).foldl (λr z=>r.set z.1 z.2) (x.set p v)) q=_
   rw[a3 q hq.2,cs,if_neg hq.1]
  ·cases t with
   | zero =>
    show cf ((F.zip s).foldl (λr z=>r.set z.1 z.2) (x.set p v)) p=v
    rw[a3 p pF,cs,if_pos rfl]
   | succ t=>exact a4 t (by simpa using ht)
  ·show dt m w r (cf ((F.zip s).foldl (λr z=>r.set z.1 z.2) (x.set p v)))=_
   rw[a5 r]
   have e1:dt m w r (cf (x.set p v))=gp m (dt m w r (cf x)) (gm m (r p) v):=by
    have:cf (x.set p v)=λk=>gp m (cf x k) (if k=p then v else 0):=by
     funext k
     rw[cs]
     by_cases e:k=p
     ·rw[if_pos e,if_pos e,e,hz p (gE ..),wY hv]
     ·rw[if_neg e,if_neg e,kb (dv hm h2 k)]
    rw[this,QF hm]
    congr 1
    have:=ni (rg hm) (f:=λk=>gm m (r k) (if k=p then v else 0)) (j0:=p) (bX hm _ _) pw (λj _ hj=>by
     show gm m (r j) (if j=p then v else 0)=0
     rw[if_neg hj,iu m _ (b8 m hm)])
    show sm (gp m) w (λk=>gm m (r k) (if k=p then v else 0))=_
    rw[this]
    show gm m (r p) (if p=p then v else 0)=_
    rw[if_pos rfl]
   rw[e1,fU,Qb (rg hm) F.length λ_ _=>bX hm _ _,B7]
   rfl
structure HD(m:Bool × Nat)(R W:Nat)(x y:Nat->Nat)(T:List (List Nat)):Prop where
 rt:RT (aa m) W T
 l:T.length=R
 xl:∀j,x j<aa m
 xd:∀i j,i<W->j<W->x i=x j->i=j
 yl:∀j,y j<aa m
 y0:∀j,j<W->y j≠0
 at_:∀i,i<R->∃k,k<R/\∀j,j<W->gb T j k=gm m (y j) (px m (x j) i)
theorem HD.ind(hm:m∈ay){R W:Nat}{x y:Nat->Nat}{T:List (List Nat)}(h:HD m R W x y T){S:List Nat}(hS:gB W S)(hR:S.length<=R):pU m (gb T) S:=by
 intro c hc hz t ht
 have gS:∀t,t<S.length->S.getD t 0<W:=λt ht=>hS.2 _ (cy ht 0)
 have:=QN hm (λt=>x (S.getD t 0)) (λ_=>h.xl _) S.length (λt=>gm m (c t) (y (S.getD t 0))) (λ_=>bX hm _ _) (λi j hi hj e=>by
  have e':=h.xd _ _ (gS i hi) (gS j hj) e
  rcases MD i j with q | q | q
  ·have:=ED.mp hS.1 i j hi hj q
   rw[aM,aM,aO hi,aO hj]at e'
   have e2:S[i]=S[j]:=e'
   omega
  ·exact q
  ·have:=ED.mp hS.1 j i hj hi q
   rw[aM,aM,aO hi,aO hj]at e'
   have e2:S[i]=S[j]:=e'
   omega) (λi hi=>by
  obtain⟨k,_,hk⟩:=h.at_ i (by omega)
  refine Eq.trans (cw λt ht=>?_) (hz k)
  show gm m (gm m (c t) (y (S.getD t 0))) (px m (x (S.getD t 0)) i)=gm m (c t) (gb T (S.getD t 0) k)
  rw[hk _ (gS t ht),ir (b8 m hm)]) t ht
 rcases(Ct hm (hc t) (h.yl _)).mp this with z | z
 ·exact z
 ·exact absurd z (h.y0 _ (gS t ht))
theorem b06{n W:Nat}(h:n<=W):gB W (aF n):=⟨MG,λx hx=>by have:=cA.mp hx;omega⟩
theorem bO0(hm:m∈ay){W:Nat}{T:List (List Nat)}(hT:RT (aa m) W T){F:List Nat}(hF:T.length<F.length):¬ pU m (gb T) F:=λI=>by
 have dH:=lo1 hm
 obtain⟨p1,p2⟩:=Cw (F:=F) (by omega) hT
 obtain⟨x,f,hf,hx,x1,hz⟩:=QH hm p1 (by omega)
 have:=I x hx (λk=>by
  by_cases hk:k<T.length
  ·rw[<-cr5 m hk];exact hz k (by omega)
  ·refine fv (rg hm) λt _=>?_
   have e:gb T (F.getD t 0) k=0:=by
    unfold gb
    rw[show T.getD k []=[] by rw[aM,fF (by omega)];rfl];rfl
   rw[e,iu m _ (b8 m hm)]) f hf
 omega
end
end L3
namespace L2
open PySem PySem.Spec PyProof.Rows
section
variable{X:Cx}
end
end L2
namespace L3
open PySem L2 PySem.Spec PyProof.Rows
section
variable{X:Cx}{o e:Expr}{t tb:aH}{apos bI:Pos}
end
section
variable{X:Cx}{i:Nat}{x:Str}{p pos apos bI cR6 js:Pos}{a b:List Stmt}{t u:dd}{k:Int}{j}
end
end L3
namespace L3
open PySem L2 Mf
section
variable{N:Nat}{p q:Nat->Nat->Nat}
variable{ng:Nat->Nat}{c:Nat}
end
section
variable{m:Bool × Nat}
theorem ngn(hm:m∈ay){s:Nat}(hs:s<aa m):bx m 0 s<aa m/\gp m (bx m 0 s) s=0:=by
 have:=iU hm (a:=0) (b:=s) (by omega) hs
 exact⟨this.2.1,this.2.2⟩
end
end L3
namespace L2
open PySem PySem.Spec PyProof.Rows
section
variable{prog:Program}{w:World}{A:Around}{E:Value->Shared->Prop}{s:Shared}
end
section
variable{X:Cx}{e:Expr}{ta:TA}{p p2 pos js:Pos}
end
end L2
namespace L3
open PySem L2 PySem.Spec PyProof.Rows
section
variable{X:Cx}{e:Expr}{tr:cO}{p p2 pos js:Pos}
end
end L3
namespace L3
open PySem L2 Mf
section
variable{m:Bool × Nat}
theorem cu8{N:Nat}{p q:Nat->Nat->Nat}(r:Rg N p q){f:Nat->Nat}(hf:∀j,f j<N){n a:Nat}(ha:a<n):sm p n f=p (f a) (sm p n λj=>if j=a then 0 else f j):=by
 rw[cw (g:=λj=>p (if j=a then f a else 0) (if j=a then 0 else f j)) λj _=>?_,lY r,ni r (f:=λj=>if j=a then f a else 0) (j0:=a) (by simp[hf]) ha λj _ hj=>if_neg hj]
 ·simp
 ·by_cases c:j=a
  ·subst c;simp[r.z' (hf j)]
  ·simp[c,r.z (hf j)]
theorem Q3{N:Nat}{p q:Nat->Nat->Nat}(r:Rg N p q){n:Nat}:∀{ps:List Nat} {f:Nat->Nat},(∀j,f j<N)->ps.Nodup->(∀a∈ps,a<n)->(∀j,j<n->j ∉ ps->f j=0)->sm p n f=sm p ps.length λk=>f (ps.getD k 0)
 | [],f,_,_,_,hz=>fv r λj hj=>hz j hj hJ
 | a::ps,f,hf,nd,hp,hz=>by
  obtain⟨n1,n2⟩:=iD.mp nd
  have Hk:∀j,(if j=a then 0 else f j)<N:=λj=>by
   by_cases c:j=a
   ·rw[if_pos c];exact r.pos
   ·rw[if_neg c];exact hf j
  rw[cu8 r hf (hp a gE),Q3 r (ps:=ps) Hk n2 (λb hb=>hp b (eG _ hb)) λj hj hn=>?_,fU,Qb r _ λj _=>hf _]
  ·show _=p (f a) (sm p ps.length λk=>f (ps.getD k 0))
   congr 1
   refine cw λj hj=>?_
   have:=cy hj 0
   exact if_neg λ(z:ps.getD j 0=a)=>n1 (z ▸ this)
  ·by_cases c:j=a
   ·exact if_pos c
   ·rw[if_neg c]
    exact hz j hj λh=>by
     rcases cj.mp h with h | h
     ·exact c h
     ·exact hn h
theorem cx7(hm:m∈ay){a b:Nat}(ha:a<aa m)(hb:b<aa m)(h:a≠b):bx m a b≠0:=λz=>by
 have g:=(iU hm ha hb).2.2
 rw[z,wY hb]at g
 exact h g.symm
section
variable{b e L o:Nat}{y:List (Option Nat)}{w c:List Nat}{bb:Nat->Nat}
end
end
end L3
namespace L3
open PySem L2 Mf
section
variable{m:Bool × Nat}
theorem Cy:∀{l l':List Nat},l.Nodup->(∀a∈l,a∈l')->l.length<=l'.length
 | [],_,_,_=>iC _
 | a::l,l',nd,h=>by
  obtain⟨n1,n2⟩:=iD.mp nd
  have ha:=h a gE
  have:=Cy (l:=l) (l':=l'.erase a) n2 λb hb=>(List.mem_erase_of_ne (λz:b=a=>n1 (z ▸ hb))).mpr (h b (eG _ hb))
  rw[List.length_erase_of_mem ha]at this
  have:=List.length_pos_of_mem ha
  rw[fU]
  omega
end
end L3
namespace L3
open PySem L2 Mf
section
variable{m:Bool × Nat}
end
end L3
namespace L3
open PySem L2 Mf
section
variable{m:Bool × Nat}
end
end L3
namespace L3
open PySem L2 Mf
section
variable{m:Bool × Nat}
theorem cu4(hm:m∈ay){r u v ps:List Nat}{n:Nat}(hu:AllLt (aa m) u)(hv:AllLt (aa m) v)(lr:r.length=n)(lu:u.length=n)(lv:v.length=n)(nd:ps.Nodup)(hp:∀p∈ps,p<n)(hs:∀j,j<n->j ∉ ps->cf u j=cf v j) :
  gd m r u=gp m (sm (gp m) ps.length λt=>gm m (cf r (ps.getD t 0)) (bx m (cf u (ps.getD t 0)) (cf v (ps.getD t 0)))) (gd m r v):=by
 have g:=rg hm
 have h0:=b8 m hm
 have dn:∀j,gp m (bx m (cf u j) (cf v j)) (cf v j)=cf u j:=λj=>(iU hm (dv hm hu j) (dv hm hv j)).2.2
 rw[pO m (lr.trans lu.symm),pO m (lr.trans lv.symm),lr,
  cw (g:=λk=>gp m (gm m (cf r k) (bx m (cf u k) (cf v k))) (gm m (cf r k) (cf v k))) λk _=>by rw[<-zu h0,dn k],lY g,
  Q3 g (ps:=ps) (f:=λk=>gm m (cf r k) (bx m (cf u k) (cf v k))) (λ_=>bX hm _ _) nd hp λj hj hn=>by rw[hs j hj hn,B9,iu m _ h0]]
theorem HE{T:List (List Nat)}{F:List Nat}(h:0<T.length):af (eY T F)=F.length:=by
 unfold af eY
 cases T with
 | nil=>cases h
 | cons r T=>rw[cK,List.headD_cons,bt]
end
end L3
namespace L3
open PySem L2 PySem.Spec PyProof.Rows
section
variable{X:Cx}{e:Expr}{t:aH}
noncomputable def sN(t:aH):aH:=λδ Q=>t δ λd ai=>Q d.sh ai
theorem cy1(h:PE X e (lE t)):PE X e (lB (sN t)):=dm h λσ H Q zq=>by
 obtain⟨B,F,δ,ts,Qd,c,q,k⟩:=zq
 exact⟨B,F,δ,ts,_,c,q,λd ai v F' H' hd sf sh c'=>by
 obtain⟨F2,f2,c2⟩:=c'.FW
 exact k d.sh ai v F2 H' hd (sf.trans f2) sh c2.pop c2.top⟩
end
end L3
namespace L3
open PySem L2 Mf
section
variable{m:Bool × Nat}
theorem cC1(hm:m∈ay){T:List (List Nat)}(hT:RT (aa m) (af T) T):RT (aa m) (af T) (jr m (bj m T) (af T))/\(jr m (bj m T) (af T)).length<=af T:=by
 obtain⟨⟨Hd,I⟩,iR,_,_⟩:=iy hm hT
 refine⟨λr hr=>?_,?_⟩
 ·obtain⟨f,hf,rfl⟩:=bE.mp hr
  obtain⟨k1,k2,_⟩:=by4 hm iR I hf
  exact⟨k1,k2⟩
 ·unfold jr eD
  rw[bt]
  exact fE (W9 ..) (by rw[bS];exact bL _)
theorem cr4(hm:m∈ay){T:List (List Nat)}(hT:RT (aa m) (af T) T):∀r∈bj m T,∃x∈r,x≠0:=λr bf=>by
 obtain⟨⟨Hd,I⟩,iR,_,_⟩:=iy hm hT
 obtain⟨j,hj,rfl⟩:=gX bf
 have:=(I.wZ hm iR hj).2
 rw[l6 hj]at this
 exact this
theorem cq1(hm:m∈ay){T:List (List Nat)}{xs:List Nat}(hT:RT (aa m) (af T) T)(hx:xs.length=(jr m (bj m T) (af T)).length):∀r∈T,gd m r (jq m xs (jr m (bj m T) (af T)) (af T))=0:=λr hr=>by
 have h0:=b8 m hm
 obtain⟨⟨Hd,I⟩,iR,_,_⟩:=iy hm hT
 have s:bQ m (bj m T) (cf r):=bQ.red hm hT (bQ.of hr)
 rw[pO m ((hT r hr).1.trans (zC ..).symm),(hT r hr).1]
 rw[cw (g:=λj=>gm m (cf r j) (sm (gp m) (jr m (bj m T) (af T)).length λi=>gm m (cf xs i) (cf ((jr m (bj m T) (af T)).getD i []) j))) λj hj=>by rw[Cn m hx hj]]
 have e:=QG hm (af T) (cf r) (cf xs) (λi=>cf ((jr m (bj m T) (af T)).getD i [])) (jr m (bj m T) (af T)).length
 unfold dt at e
 rw[e]
 refine fv (rg hm) λi hi=>?_
 have z:=cy hi []
 generalize (jr m (bj m T) (af T)).getD i []=K at z
 obtain⟨f,hf,rfl⟩:=bE.mp z
 have:=bQ.dt hm (R:=bj m T) (n:=af T) (y:=cf (gz m (bj m T) (af T) f)) (λi hi=>Hs hm iR I hf hi) s
 unfold dt at this
 rw[this,iu m _ h0]
end
end L3
namespace L3
open PySem L2 Mf
section
variable{m:Bool × Nat}
end
end L3
namespace L2
open PySem PySem.Spec PyProof.Rows
section
variable{X:Cx}{CX:e7}{k:Nat}{f C:Addr}{fd:FuncData}{ps:List Str}{sp:Sp}{E:XK}{x m:Str}{p pos apos:Pos}{e:Expr}{es:List Expr}{t:TA}
noncomputable def tCM(sp:Sp)(E:XK)(t:TA):TE:=λσ H Q=>t σ H λvs H1=>sp vs H1 Q E
theorem HF{pl:Sem Bool}(M:wQ X.K C m f)(F:aJ X.prog X.w X.K X.mg X.base CX k f fd ps sp)(hr:cu k X.A)(hb:Binds X.K fd ps [])(hx:k0 CX X E)(hg:Gl X x)(hm:X.mg x=some (.ref C))(ha:PA X (e::es) t)
  (dW:(x==("__debug__":Str))=false:=by decide) (ia:starEach (e::es) X.env=(false,eval e X.env)::starEach es X.env:=by rfl) (bT:(backTo pos (starEach es X.env)).any (·.1)=false:=by rfl)
  (ht:eval (.Call (.Attribute (.Name x p) m apos) (e::es) [] pos) X.env=(do
   let ov<-eval (.Name x p) X.env
   standAt apos.atName
   let (f,first)<-holding [ov] (getMethod ov m pl)
   callWith pos f first (backTo pos (starEach (e::es) X.env)) (backToKw pos (keywordEach [] X.env))):=by rfl) :
  PE X (.Call (.Attribute (.Name x p) m apos) (e::es) [] pos) (tCM sp E t):=by
 intro pins s σ H Q I h
 exact Pm (pl:=pl) I M hg hm ha h (λus s1 vs H1 I1 r q=>yn (fG:=[]) F hr hb .nil hx I1 r (by rw[eH];exact q)) dW ia bT ht
end
end L2
namespace L3
open PySem L2 PySem.Spec PyProof.Rows
end L3
namespace L3
open PySem L2 PySem.Spec PyProof.Rows
noncomputable def Cz(tl:List Addr)(C:Addr)(ka:List D->List Str->List D->Prop):L2.Sp:=λvs H Q _=>∃F H0 x dx bW ds ns xs,vs=.ref x::bW/\Tb tl H/\ag F H0/\H0 x=none/\ag H0 H/\H x=some (.ins C dx [])/\R F H0 ds bW []/\ka ds ns xs /\
 ∀H' ws A,bM x H H'->H' x=some (.ins C dx (ns.zip ws))->ns.length=ws.length->R F H' xs ws A->A.Nodup->(∀a∈A,H a=none)->Q .av H'
noncomputable def sO(C:Addr)(ka:List D->List Str->List D->Prop)(ta:cO):aH:=λδ Q=>ta δ λds ai=>ds.all D.pl=true/\∃ns xs,ka ds ns xs/\Q (.obj C ns (xs.map D.sh)) ai
theorem aj.c77{B:Bs}{F H H':Hp}{σ:L2.St}{δ:Dl}{ts:List (D × V)}{C dx x:Addr}{ns:List Str}{xs:List D}{ws:List V}{A:List Addr}(c:aj B F H σ δ ts)(hs:ag H H')(hx:H' x=some (.ins C dx (ns.zip ws)))(hl:ns.length=ws.length)
  (r1:R F H' xs ws A) (fr:∀a∈A,H a=none):ag F (L3.bu F H' A)/\aj B (L3.bu F H' A) H' σ δ ((.obj C ns (xs.map D.sh),.ref x)::ts):=by
 have c1:=c.grow hs
 have r2:=r1.bu c1.ext A (λ_ h=>h)
 have fs:ag F (L3.bu F H' A):=iJ c1.ext
 obtain⟨A',C',r',s',nd,ph⟩:=c.own
 have out:∀a,(∃ws,H a=some (.lst ws))/\F a=none->L3.bu F H' A a=none:=λa zz=>by
  obtain⟨⟨ws,h⟩,hf⟩:=zz
  rw[qJ (λz=>by rw[fr a z]at h;cases h)];exact hf
 have g1:=r'.grow fs hs λa ha=>out a (r'.lists a ha)
 have g2:=s'.keep fs (gw.same hs) gZ.nil (λa ha=>out a (s'.lists a ha)) (by simp)
 refine⟨fs,n8 c1.ext,c1.b1,c1.b2.trans fs,λa ws h=>?_,A',C',?_,g2,nd,ph⟩
 ·by_cases z:a∈A
  ·exact .inr (c.b1.free (fr a z))
  ·rw[qJ z]at h;exact c.b3 a ws h
 ·exact R.obj hx hl r2 g1
section
variable{X:Cx}{CX:e7}{n:Nat}{f C:Addr}{fd:FuncData}{ps:List Str}{ka:List D->List Str->List D->Prop}{E:XK}{x:Str}{p pos:Pos}{e:Expr}{es:List Expr}{t:cO}{tl:List Addr}
theorem CA(hT:Tb tl X.mx)(M:L2.Mk X.K C f)(F:aJ X.prog X.w X.K X.mg X.base CX n f fd ps (Cz tl C ka))(hr:cu (n+1) X.A)(hg:Gl X x)(hm:X.mg x=some (.ref C))(hb:Binds X.K fd ps [])(hx:k0 CX X E)
  (ha:PA X (e::es) (lA t)) (dW:(x==("__debug__":Str))=false:=by decide) (he:starEach (e::es) X.env=(false,eval e X.env)::starEach es X.env:=by rfl) (bT:(backTo pos (starEach es X.env)).any (·.1)=false:=by rfl) :
  PE X (.Call (.Name x p) (e::es) [] pos) (lE (sO C ka t)):=by
 intro pins s σ H Q I zz
 obtain⟨B,F',δ,ts,Qd,c,q,k⟩:=zz
 have tb:=GP I hT
 refine Nh M F hr hg hm hb .nil hx ha dW he bT pins s σ H Q I ⟨B,F',δ,ts,_,c,q,λds ak vs F1 H1 q1 f1 h1 c1 s1=>?_⟩
 intro x dx cR eC mH
 obtain⟨hp,ns,xs,hI,hq⟩:=q1
 have sm:ag H1 (upd (upd H1 dx (.own x)) x (.ins C dx [])):=.of λb o e=>by rw[aV (dU e cR),aV (dU e eC)];exact e
 refine⟨F1,H1,x,dx,vs,ds,ns,xs,by rw[eH],za (za tb h1) sm,c1.ext,cR,sm,bA,s1.r hp,hI,λH' ws A zc cU hl r nd fr=>⟨rfl,?_⟩⟩
 have s2:ag H1 H':=⟨λb o e n=>zc.get b o (dU e cR) (sm.get b o e n) n,λb ps e=>by
  obtain⟨m1,e1⟩:=sm.tb b ps e
  obtain⟨m2,e2⟩:=zc.tb b _ e1
  exact⟨m1++m2,by rw[e2,vK]⟩⟩
 obtain⟨fs,c2⟩:=c1.c77 s2 cU hl r λa ha=>sm.free (fr a ha)
 exact k _ ak _ _ H' hq (f1.trans fs) (h1.trans s2) c2
end
section
variable{X:Cx}{e:Expr}{te:aH}{x:Str}{p pos:Pos}{i:Nat}
end
theorem bM.of0{x:Addr}{H0 H H':Hp}(h0:H0 x=none)(s:ag H0 H)(sx:bM x H H'):ag H0 H' :=
 ⟨λb o e n=>sx.get b o (λz=>by rw[z,h0]at e;cases e) (s.get b o e n) n,λb ps e=>by
  obtain⟨m1,e1⟩:=s.tb b ps e
  obtain⟨m2,e2⟩:=sx.tb b _ e1
  exact⟨m1++m2,by rw[e2,vK]⟩⟩
theorem xa{F H:Hp}{v:V}{A:List Addr}{xs:List D}(r:R F H [.lst true xs] [v] A):∃p,v=.ref p:=by
 cases r
 exact⟨_,rfl⟩
theorem Q4{F H F' H':Hp}:∀{l:List Int} {ws:List V} {A:List Addr},R F H (aI l) ws A->R F' H' (aI l) ws A
 | [],_,_,r=>by cases r;exact .nil
 | i::l,_,_,r=>by
  cases r with
  | int r=>exact .int (Q4 r)
theorem Q5{F H H':Hp}:∀{G:List (List Nat)} {ws:List V} {A:List Addr},R F H (ao true G) ws A->(∀a∈A,H' a=H a)->R F H' (ao true G) ws A
 | [],_,_,r,_=>by cases r;exact .nil
 | g::G,_,_,r,h=>by
  cases r with
  | own e f x y=>exact .own (by rw[h _ gE];exact e) f (Q4 (l:=g.map λ(n:Nat)=>(n:Int)) x) (Q5 y λa ha=>h a (eG _ (cY _ ha)))
theorem Q6{F H H':Hp}{G:List (List Nat)}{v:V}{A:List Addr}(r:R F H [.lst true (ao true G)] [v] A)(h:∀a∈A,H' a=H a):R F H' [.lst true (ao true G)] [v] A:=by
 cases r with
 | own e f x y =>
  cases y
  exact .own (by rw[h _ gE];exact e) f (Q5 x λa ha=>h a (eG _ (dZ _ ha))) .nil
noncomputable abbrev pV:List Str:=["field","length","check_rows","word_rows","message_places","size"]
structure c78(K:PySem.W.Frag)(C:Addr):Prop where
 cls:dk K C
 field:br K C "field"
 length:br K C "length"
 c79:br K C "check_rows"
 c80:br K C "word_rows"
 Q7:br K C "message_places"
 size:br K C "size"
end L3
namespace L3
open PySem L2 Mf
section
variable{m:Bool × Nat}
noncomputable def mf(m:Bool × Nat)(n i:Nat):List Nat:=bg i 0++[1]++bg (n-2-i) 0++[bx m 0 1]
noncomputable def fj(m:Bool × Nat)(n:Nat):List (List Nat):=(aF (n-1)).map (mf m n)
theorem xb{n i:Nat}(hi:i<n-1)(j:Nat):cf (mf m n i) j=if j=i then 1 else if j=n-1 then bx m 0 1 else 0:=by
 unfold mf cf
 rw[aM]
 by_cases c1:j<i
 ·rw[if_neg (by omega),if_neg (by omega),cZ,cZ,s8 (by rw[gj];exact c1),qj,if_pos c1];rfl
 ·by_cases c2:j=i
  ·rw[if_pos c2,cZ,cZ,nB (by rw[gj];omega),gj,c2,EB];rfl
  ·rw[if_neg c2]
   by_cases c3:j<n-1
   ·rw[if_neg (by omega),s8 (by simp only[di,gj,qm];omega),nB (by simp only[di,gj,qm];omega),qj]
    split<;>rfl
   ·rw[nB (by simp only[di,gj,qm];omega)]
    simp only[di,gj,qm]
    by_cases c4:j=n-1
    ·rw[if_pos c4,show j-(i+1+(n-2-i))=0 by omega];rfl
    ·rw[if_neg c4,fF (by rw[qm];omega)];rfl
theorem zG(hm:m∈ay){n:Nat}(h2:2<=n):RT (aa m) n (fj m n)/\(fj m n).length=n-1/\af (fj m n)=n:=by
 have dH:=lo1 hm
 have g:=(iU hm (show 0<aa m by omega) (show 1<aa m by omega)).2.1
 have l:(fj m n).length=n-1:=by unfold fj;rw[bt,bS]
 have r:RT (aa m) n (fj m n):=λx hx=>by
  obtain⟨i,hi,rfl⟩:=bE.mp hx
  have hi:=cA.mp hi
  unfold mf
  refine⟨by simp only[di,gj,qm];omega,λa ha=>?_⟩
  simp only[cg,vR,gn]at ha
  rcases ha with ((⟨_,rfl⟩ | rfl) | ⟨_,rfl⟩) | rfl
  ·omega
  ·omega
  ·omega
  ·exact g
 exact⟨r,l,zD r λz=>by rw[z]at l;exact absurd l (by show ¬ (0=n-1);omega)⟩
theorem b65(hm:m∈ay){n s:Nat}(h2:2<=n)(hs:s<aa m):∀r∈fj m n,gd m r (bg n s)=0:=λr hr=>by
 have g:=rg hm
 have h0:=b8 m hm
 have dH:=lo1 hm
 obtain⟨rt,l,w⟩:=zG hm h2
 obtain⟨i,hi,rfl⟩:=bE.mp hr
 have hi:=cA.mp hi
 have lr:=(rt _ hr).1
 rw[pO m (by rw[lr,gj]),lr,Hr g (f:=λj=>gm m (cf (mf m n i) j) (cf (bg n s) j)) (a:=i) (b:=n-1) (by omega) (by omega) (by omega) (bX hm _ _) (bX hm _ _) λj hj c1 c2=>by rw[xb hi,if_neg c1,if_neg c2,fi m _ h0]]
 have e:∀j,j<n->cf (bg n s) j=s:=λj hj=>by unfold cf;rw[aM,qj,if_pos hj];rfl
 rw[xb hi,if_pos rfl,xb hi,if_neg (by omega),if_pos rfl,e i (by omega),e (n-1) (by omega),<- B8 h0,m4,(iU hm (show 0<aa m by omega) (show 1<aa m by omega)).2.2,fi m _ h0]
end
end L3
namespace L2
open PySem PySem.Spec PyProof.Rows
structure CB(K:PySem.W.Frag)(x qual:Str)(st:Stmt)(f:Addr)(fd:FuncData):Prop where
 ex:∃(oc:Value) (od:Option Addr) (dV kV doc pm:Value) (an:Option Addr) (aC ct:Value) (jc:Array (Option Value)),
  fd=PySem.W.fnOf x qual (jh st) (gr st) (aL st) dV kV doc pm an aC ct/\K.lookup f=some ⟨oc,od,.func fd,jc⟩/\PySem.W.codeIn K aC qual=true
 kp:PySem.W.keepIn K (.ref f)=true
section
variable{P:Program}{w:World}{K:PySem.W.Frag}{mg:Str->Option Value}{base:Heap}
theorem CB.ok{x qual:Str}{st:Stmt}{f:Addr}{fd:FuncData}{N ps:List Str}{k:Nat}{sp:Sp}(F:CB K x qual st f fd)(S:aW N ps (aL st))(len:∀vs H Q E,sp vs H Q E->vs.length=ps.length)
  (je:∀(aC:Value) (A:Around) (outer:List Env) (s:Shared) (H:Hp) (vs:List V) (Q:VK) (E:XK),cu k (A.deeper (envOfC qual (aL st) s.heap.objs.size f aC))->sp vs H Q E ->
   ∃t,PSs (j5 aP P w K mg base N qual (aL st) f aC A outer s H E).h8 (gr st) t/\t { nx:=λ_ H'=>Q .av H',rt:=Q } (start N vs) H):aJ P w K mg base aP (k+1) f fd ps sp:=by
 obtain⟨oc,od,dV,kV,doc,pm,an,aC,ct,jc,rfl,lk,cq⟩:=F.ex
 refine Fe lk cq S len λA outer s H vs Q E hr jG=>?_
 obtain⟨t,h,q⟩:=je aC A outer s H vs Q E hr jG
 exact⟨t,h.h8,q⟩
theorem ci5{x qual:Str}{st:Stmt}{f:Addr}{oc:Value}{od an:Option Addr}{jc:Array (Option Value)}{dV kV doc pm aC ct:Value}(l:K.lookup f=some ⟨oc,od,.func (PySem.W.fnOf x qual (jh st) (gr st) (aL st) dV kV doc pm an aC ct),jc⟩)
  (c:PySem.W.codeIn K aC qual=true) (k:PySem.W.keepIn K (.ref f)=true):CB K x qual st f (PySem.W.fnOf x qual (jh st) (gr st) (aL st) dV kV doc pm an aC ct):=⟨⟨oc,od,dV,kV,doc,pm,an,aC,ct,jc,rfl,l,c⟩,k⟩
theorem cA0{fd:FuncData}{ps:List Str}{T:Addr}{o:Obj}{items:Array Value}{n:Nat}(hd:fd.defaults=.ref T)(ho:K.lookup T=some o)(hs:o.data=.seq items n)
  (h:∀us:List Value,us.length=ps.length->∃k,bindArgs fd ⟨us,[]⟩=seqItems? fd.defaults >>= k/\k (some items)=pure (ps.zip us)):Binds K fd ps []:=λs us KX hl=>by
 rw[eH]at hl ⊢
 obtain⟨k,h1,h2⟩:=h us hl
 exact .of_defaults hd (KX _ _ ho) hs h1 h2
end
end L2
namespace L3
open PySem L2 Mf
inductive Kd
 | vk (b:Nat) | rep | vm (e f:Nat)
structure vn(pre:List (Str × V)):Prop where
 put:∀(n:Str) (v:V) (l:List (Str × V)),n∈pV->bC n v (pre++l)=pre++bC n v l
 look:∀(n:Str) (l:List (Str × V)),n∈pV->(pre++l).lookup n=l.lookup n
 len:pre.length<=2
theorem vn.nil:vn []:=⟨λ_ _ _ _=>rfl,λ_ _ _=>rfl,by decide⟩
theorem vn.two(e f:V):vn [("extra",e),("first",f)]:=by
 have h1:∀n∈pV,("extra":Str)≠n/\("first":Str)≠n:=by decide
 refine⟨λn v l hn=>?_,λn l hn=>?_,bL 2⟩
 ·obtain⟨a,b⟩:=h1 n hn
  show bC n v (("extra",e)::("first",f)::l)=_
  rw[bC,if_neg a,bC,if_neg b];rfl
 ·obtain⟨a,b⟩:=h1 n hn
  show mi n (("extra",e)::("first",f)::l)=_
  rw[gq,beq_false_of_ne a.symm,gq,beq_false_of_ne b.symm]
theorem vn.lt{pre l:List (Str × V)}(h:vn pre)(hl:l.length<=6):(pre++l).length<1000:=by
 have:=h.len
 rw[di];omega
section
variable{m:Bool × Nat}{G:List (List Nat)}
noncomputable def vo(m:Bool × Nat)(G:List (List Nat)):List (List Nat):=jr m (bj m G) (af G)
noncomputable def cS(m:Bool × Nat)(G:List (List Nat)):List Nat:=eD (bj m G) (af G)
noncomputable def nj(cb cp:Addr)(o:Bool)(m:Bool × Nat)(G:List (List Nat)):List D:=[fD cb cp m,.int (af G:Nat),.lst o (ao o G),.lst o (ao o (vo m G)),.lst o (aq (cS m G)),.int ((cS m G).length:Nat)]
noncomputable def CC(cb cp cc cr cs:Addr)(m:Bool × Nat)(G:List (List Nat)):Kd->D
 | .vk b=>.obj cc ["field","length","check_rows","word_rows","message_places","size","bound"] (nj cb cp false m G++[.int (b:Nat)])
 | .rep=>.obj cr pV (nj cb cp false m G)
 | .vm e f=>.obj cs ["extra","first","field","length","check_rows","word_rows","message_places","size"] ([.int (e:Nat),.int (f:Nat)]++nj cb cp false m G)
theorem CD(cb cp:Addr)(o:Bool)(m:Bool × Nat)(G:List (List Nat)):(nj cb cp o m G).map D.sh=nj cb cp false m G:=by
 unfold nj
 simp only[cK,i6,G5,cV,de,mZ,<- dQ,lU]
theorem CF(cb cp cc cr cs:Addr)(m:Bool × Nat)(G:List (List Nat))(k:Kd):(CC cb cp cc cr cs m G k).sh=CC cb cp cc cr cs m G k:=by cases k<;>rfl
theorem HG(cb cp cc cr cs:Addr)(m:Bool × Nat)(G:List (List Nat))(k:Kd):(CC cb cp cc cr cs m G k).pl=true:=by cases k<;>rfl
structure gR(m:Bool × Nat)(G:List (List Nat)):Prop where
 hm:m∈ay
 rt:RT (aa m) (af G) G
 len:G.length<=64
 wid:af G<=64
 sz:0<(cS m G).length
theorem gR.red(h:gR m G):(∃H,RR (af G) (bj m G) H)/\RT (aa m) (af G) (bj m G):=⟨(iy h.hm h.rt).1,(iy h.hm h.rt).2.1⟩
theorem CG(m:Bool × Nat)(G:List (List Nat)):(vo m G).length=(cS m G).length:=by unfold vo cS jr;rw[bt]
theorem cu1{j:Nat}(hj:j<(cS m G).length):(vo m G).getD j []=gz m (bj m G) (af G) ((cS m G).getD j 0):=vh (gz m (bj m G) (af G)) hj 0 []
theorem Q8{j:Nat}(hj:j<(cS m G).length):(cS m G).getD j 0∈eD (bj m G) (af G):=by
 rw[aM,aO hj];exact cT hj
theorem Q9(m:Bool × Nat)(G:List (List Nat)):(cS m G).Nodup:=W5 _ EE
theorem cv9{j:Nat}(hj:j∈cS m G):j<af G:=cA.mp (qf.mp hj).1
noncomputable def vp(m:Bool × Nat)(G:List (List Nat))(l:List Nat):List Nat:=jq m l (vo m G) (af G)
theorem cn5(m:Bool × Nat)(G:List (List Nat))(l:List Nat):(vp m G l).length=af G:=zC ..
theorem gR.wlt(h:gR m G){l:List Nat}(hl:l.length=(cS m G).length):AllLt (aa m) (vp m G l):=QB h.hm _ (by rw[CG];exact hl)
theorem gR.word(h:gR m G){l:List Nat}(hl:l.length=(cS m G).length):∀r∈G,gd m r (vp m G l)=0:=cq1 h.hm h.rt (by rw[hl,<- CG];rfl)
theorem gR.at(h:gR m G){l:List Nat}(hl:l.length=(cS m G).length)(al:AllLt (aa m) l){j:Nat}(hj:j<(cS m G).length):cf (vp m G l) ((cS m G).getD j 0)=cf l j:=by
 have hm:=h.hm
 have g:=rg hm
 obtain⟨⟨H,I⟩,hR⟩:=h.red
 have fr:=λ{k:Nat} (hk:k<(cS m G).length)=>(I.free hm hR _).mp (Q8 hk)
 unfold vp
 rw[Cn m (by rw[CG];exact hl) (fr hj).1,CG]
 have k1:∀i,i<(cS m G).length->cf ((vo m G).getD i []) ((cS m G).getD j 0)=if i=j then 1 else 0:=λi hi=>by
  rw[cu1 hi]
  obtain⟨_,_,a,_,b⟩:=by4 hm hR I (Q8 hi)
  by_cases c:i=j
  ·rw[if_pos c,<- c];exact a
  ·rw[if_neg c]
   refine b _ (λz=>c ?_) (fr hj).2
   rw[aM,aM,aO hi,aO hj]at z
   exact((List.getElem_inj (Q9 m G)).mp z).symm
 rw[ni g (f:=λi=>gm m (cf l i) (cf ((vo m G).getD i []) ((cS m G).getD j 0))) (j0:=j) (bX hm _ _) hj λi hi c=>by rw[k1 i hi,if_neg c,gO m _ 0,fi m _ (b8 m hm)],k1 j hj,if_pos rfl,pB (dv hm al j)]
end
end L3
namespace L3
open PySem L2 PySem.Spec PyProof.Rows
section
variable{X:Cx}{scope:Scope}{tg iter elt:Expr}{ifs:List Expr}{pos:Pos}{cl:List (Str × Addr)}{ti:jM}{g:iK}{tt:fI}{te:aH}
theorem b48{i:Nat}{x:Str}{pos' apos:Pos}(hN:X.N.Nodup)(zy:X.N[i]?=some x)(hx:L2.Loc X.env.scope x)(aw:List (Str × Nat))(bK:List Str)(hc:X.calm=true)(hi:PI X tg iter (lI ti))
  (hg:∀C s H fp,PG (dw X scope (aw.map (·.1)++bK) cl C s H fp) tg (lG aw.length g))
  (ht:∀C s H fp,mG (dw X scope (aw.map (·.1)++bK) cl C s H fp) ifs (lT tt)) (he:∀C s H fp,PE (dw X scope (aw.map (·.1)++bK) cl C s H fp) elt (lE te))
  (kh:closureFor scope X.env=pure cl) (ki:lj X cl) (kj:∀C:Addr,ly (cellsFrom (C+1) scope.names cl) (relabel scope X.env).names) (km:∀C:Addr,lh X scope (cellsFrom (C+1) scope.names cl) aw)
  (gY:scope.kind=.function) (kn:∀y∈scope.names,y.2=.local->scope.names.lookup y.1=some .local)
  (j8:swapsWith (.ListComp elt [⟨tg,iter,ifs,0⟩] scope pos) (some (.Name x pos')) apos.line X.env=pure true:=by rfl) (hf:X.fn x=true\/X.env.scope.names.lookup x=some .local:=by first | exact .inl rfl | exact .inr rfl)
  (hs:∀x,foldedSetIterable iter X.env x=pure x:=by intro _;rfl):PS X (.Assign [.Name x pos'] (.ListComp elt [⟨tg,iter,ifs,0⟩] scope pos) apos) (λEn σ H=>lE (mO ti aw bK.length g tt te) σ H λv H'=>En.nx (σ.set i (some v)) H') :=
 jk (Qq hN zy hx hf aw bK hc hi hg ht he kh ki kj km gY kn j8 hs) λEn σ H ⟨B,F,δ,ts,Qd,c,q,k⟩=>⟨B,F,δ,ts,_,c,q,λsh xs ak J F1 H1 hq f1 h1 c1 oA uk=>by
  obtain⟨p,f,hx,fJ,hlen,hQ⟩:=hq
  exact Gg c1 oA uk p f hx fJ hlen hQ λd ai v F' H' hd hf hs c'=>k d ai v F' H' hd (f1.trans hf) (h1.trans hs) c'⟩
end
theorem aj.self{F H:Hp}{σ:L2.St}{δ:Dl}{o:Option V}(e:ag F H)(r:RS F H δ σ []):aj ⟨H,F⟩ F H (o::σ) (none::δ) []:=⟨e,ag.refl _,ag.refl _,λ_ _ q=>.inl q,[],[],.nil,.av r,by simp,by simp⟩
end L3
namespace L2
open PySem
theorem bq{N P:List Str}{sc:Scope}(a:sc.kind=.function:=by rfl)(b:sc.isCoroutine=false:=by rfl)(c:sc.isGenerator=false:=by rfl)(d:N.Nodup:=by decide +kernel)(e:N.take P.length=P:=by rfl)(f:∀x∈P,sc.names.lookup x=some .local\/sc.names.lookup x=some .cell:=by decide +kernel)(g:∀y∈sc.names,y.2≠.free:=by decide +kernel):aW N P sc:=⟨a,b,c,d,e,f,g⟩
end L2
namespace L2
open PySem
end L2
namespace L3
open PySem L2 PySem.Spec PyProof.Rows
theorem dM{X:Cx}{m i:Nat}{x:Str}{pos:Pos}(hN:X.N.Nodup)(hi:X.N[i]?=some x:=by rfl)(hx:Loc X.env.scope x:=by first | exact az (lookup_relabel_local rfl) | exact bY rfl | exact az rfl)(hm:m<=i:=by decide)
  (hf:X.fn x=true\/X.env.scope.names.lookup x=some .local:=by first | exact .inr (lookup_relabel_local rfl) | exact .inl rfl | exact .inr rfl):PG X (.Name x pos) (lG m (gN i)):=jl hN hi hx hm hf
theorem zH{X:Cx}{m i1 i2:Nat}{y1 y2:Str}{t1 t2 tp:Pos}{tk:Nat}(BJ:X.N.Nodup)(hc:X.calm=true:=by rfl)(m1:X.N[i1]?=some y1:=by rfl)(l1:Loc X.env.scope y1:=by first | exact az (lookup_relabel_local rfl) | exact bY rfl)(m2:X.N[i2]?=some y2:=by rfl)(l2:Loc X.env.scope y2:=by first | exact az (lookup_relabel_local rfl) | exact bY rfl)(O0:m<=i1:=by decide)(rK:m<=i2:=by decide)
  (f1:X.fn y1=true\/X.env.scope.names.lookup y1=some .local:=by first | exact .inr (lookup_relabel_local rfl) | exact .inl rfl) (f2:X.fn y2=true\/X.env.scope.names.lookup y2=some .local:=by first | exact .inr (lookup_relabel_local rfl) | exact .inl rfl)
  (GI:(assignEach [.Name y1 t1,.Name y2 t2] X.env).map (·.2)=assign (.Name y1 t1) X.env::(assignEach [.Name y2 t2] X.env).map (·.2):=by rfl) (GJ:(assignEach [.Name y2 t2] X.env).map (·.2)=assign (.Name y2 t2) X.env::(assignEach [] X.env).map (·.2):=by rfl)
  (hn:(assignEach [.Name y1 t1,.Name y2 t2] X.env).length=2:=by rfl) (ia:(assignEach [.Name y1 t1,.Name y2 t2] X.env).findIdx? (·.1)=none:=by rfl) :
  PG X (.Tuple [.Name y1 t1,.Name y2 t2] tk tp) (lG m (ik i1 i2)):=si hc BJ m1 l1 m2 l2 O0 rK f1 f2 GI GJ hn ia
end L3
namespace L2
open PySem
structure Fk(K:PySem.W.Frag)(mg:Str->Option Value)(x:Str)(st:Stmt)(ps:List Str)(f:Addr)(fd:FuncData):Prop where
 F:aZ K x x st f fd
 g:mg x=some (.ref f)
 b:Binds K fd ps []
structure Fm(K:PySem.W.Frag)(x q:Str)(st:Stmt)(ps:List Str)(f:Addr)(fd:FuncData):Prop where
 F:aZ K x q st f fd
 b:Binds K fd ps []
end L2
namespace L3
open PySem L2 PySem.Spec PyProof.Rows
theorem bD{X:Cx}{x:Str}{st:Stmt}{ps:List Str}{f:Addr}{fd:FuncData}{n k:Nat}{sp:aX}{e:Expr}{es:List Expr}{t:cO}{p pos:Pos}(Q:Fk X.K X.mg x st ps f fd)(F:aJ X.prog X.w X.K X.mg X.base aP n f fd ps (aY sp))(hr:cu k X.A)(ha:PA X (e::es) (lA t))(hn:n<=k:=by decide)(hg:Gl X x:=by rfl)
  (dW:(x==("__debug__":Str))=false:=by decide) (he:starEach (e::es) X.env=(false,eval e X.env)::starEach es X.env:=by rfl) (bT:(backTo pos (starEach es X.env)).any (·.1)=false:=by rfl) :
  PE X (.Call (.Name x p) (e::es) [] pos) (lE (mN sp t)):=uj (F.mono hn) hr hg Q.g Q.F.kp Q.b da ha dW he bT
end L3
namespace L3
open PySem L2 Mf
theorem HH{m:Bool × Nat}(hm:m∈ay)(f n:Nat){e:Nat}(he:1<=e):RT (aa m) n (fP m f (aF n) e)/\(fP m f (aF n) e).length=e/\af (fP m f (aF n) e)=n:=by
 obtain⟨g1,g2⟩:=Hv hm f (aF n) e
 rw[bS]at g1
 exact⟨g1,g2,zD g1 λz=>by
  rw[z]at g2
  exact absurd g2 (by show ¬ 0=e;omega)⟩
end L3
namespace L3
open PySem L2 Mf
section
variable{m:Bool × Nat}
structure Wd(m:Bool × Nat)(T:List (List Nat))(w:List Nat):Prop where
 ln:w.length=af T
 lt:AllLt (aa m) w
 z:∀r∈T,gd m r w=0
noncomputable def pW(n:Nat)(u v:List Nat):List Nat:=(aF n).filter λj=>decide (cf u j≠cf v j)
theorem zI{n:Nat}{u v:List Nat}{j:Nat}:j∈pW n u v↔j<n/\cf u j≠cf v j:=by unfold pW;rw[qf,cA,decide_eq_true_iff]
theorem HI(n:Nat)(u v:List Nat):(pW n u v).Nodup:=EE.filter _
noncomputable def vq(m:Bool × Nat)(T:List (List Nat))(d:Nat):Prop:=∀u v,Wd m T u->Wd m T v->u≠v->d<=(pW (af T) u v).length
theorem Ra(hm:m∈ay){T:List (List Nat)}{d:Nat}(hT:RT (aa m) (af T) T)(hD:∀S,gB (af T) S->S.length<d->pU m (gb T) S):vq m T d:=λu v hu hv hn=>by
 have g:=rg hm
 have h0:=b8 m hm
 refine Ea λff=>hn ?_
 have mem:=λj=>zI (n:=af T) (u:=u) (v:=v) (j:=j)
 have nd:=HI (af T) u v
 have ic:gB (af T) (pW (af T) u v):=⟨MG.filter _,λx hx=>((mem x).mp hx).1⟩
 generalize pW (af T) u v=ps at mem nd ic ff
 have I:=hD ps ic ff (λt=>bx m (cf u (ps.getD t 0)) (cf v (ps.getD t 0))) (λt=>(iU hm (dv hm hu.lt _) (dv hm hv.lt _)).2.1) λk=>by
  by_cases hk:k<T.length
  ·have hr:=cy hk []
   have s:=cu4 hm hu.lt hv.lt (hT _ hr).1 hu.ln hv.ln nd (λp hp=>((mem p).mp hp).1) λj hj hn=>MH λz=>hn ((mem j).mpr ⟨hj,z⟩)
   rw[hu.z _ hr,hv.z _ hr,kb (kO g λ_ _=>bX hm _ _)]at s
   exact Eq.trans (cw λt _=>gO m _ _) s.symm
  ·refine fv g λt _=>?_
   show gm m _ (cf (T.getD k []) _)=0
   rw[aM,fF (by omega)]
   exact iu m _ h0
 refine Ho hu.ln hv.ln λj hj=>MH λz=>?_
 obtain⟨t,ht,e⟩:=gX ((mem j).mpr ⟨hj,z⟩)
 have e2:ps.getD t 0=j:=by rw[aM,aO ht];exact e
 have:=I t ht
 rw[e2]at this
 exact cx7 hm (dv hm hu.lt _) (dv hm hv.lt _) z this
theorem vt(n j:Nat):cf (bg n 0) j=0:=by
 unfold cf
 rw[aM,qj]
 split<;>rfl
theorem Rb(hm:m∈ay){T:List (List Nat)}(hT:RT (aa m) (af T) T):Wd m T (bg (af T) 0):=by
 have dH:=lo1 hm
 refine⟨gj ..,λa ha=>by rw[(vR.mp ha).2];omega,λr hr=>?_⟩
 rw[pO m (by rw[(hT r hr).1,gj])]
 exact fv (rg hm) λj _=>by rw[vt];exact iu m _ (b8 m hm)
theorem cw2(hm:m∈ay){a b x:Nat}(ha:a<aa m)(hb:b<aa m)(hx:x<aa m)(h:gp m a x=gp m b x):a=b:=by
 have g:=rg hm
 obtain⟨y,hy⟩:∃y,gp m x y=0:=⟨_,by rw[m4];exact(ngn hm hx).2⟩
 have e:=congrArg (λz=>gp m z y) h
 rw[g.pa,g.pa,hy,kb ha,kb hb]at e
 exact e
theorem CH(hm:m∈ay){n:Nat}(h2:2<=n){w:List Nat}(h:Wd m (fj m n) w){i:Nat}(hi:i<n):cf w i=cf w (n-1):=by
 have g:=rg hm
 have h0:=b8 m hm
 have dH:=lo1 hm
 obtain⟨rt,l,ww⟩:=zG hm h2
 by_cases c:i=n-1
 ·rw[c]
 have hi:i<n-1:=by omega
 have hr:mf m n i∈fj m n:=AO (cA.mpr hi)
 have hs:=dv hm h.lt (n-1)
 have e1:=h.z _ hr
 have e2:=b65 hm h2 hs _ hr
 have lr:=(rt _ hr).1
 have two:∀v:List Nat,v.length=n->gd m (mf m n i) v=gp m (cf v i) (gm m (bx m 0 1) (cf v (n-1)))\/¬ cf v i<aa m:=λv lv=>by
  by_cases lt:cf v i<aa m
  ·refine .inl ?_
   rw[pO m (by rw[lr,lv]),lr,Hr g (f:=λj=>gm m (cf (mf m n i) j) (cf v j)) (a:=i) (b:=n-1) (by omega) (by omega) (by omega) (bX hm _ _) (bX hm _ _) λj hj c1 c2=>by rw[xb hi,if_neg c1,if_neg c2,fi m _ h0]]
   rw[xb hi,if_pos rfl,xb hi,if_neg (by omega),if_pos rfl,pz lt]
  ·exact .inr lt
 have er:∀j,j<n->cf (bg n (cf w (n-1))) j=cf w (n-1):=λj hj=>by unfold cf;rw[aM,qj,if_pos hj];rfl
 have a1:=(two w (h.ln.trans ww)).resolve_right λz=>z (dv hm h.lt i)
 have a2:=(two (bg n (cf w (n-1))) (gj ..)).resolve_right λz=>z (by rw[er i (by omega)];exact hs)
 rw[er i (by omega),er (n-1) (by omega)]at a2
 exact cw2 hm (dv hm h.lt i) hs (bX hm _ _) (a1.symm.trans (e1.trans (e2.symm.trans a2)))
theorem cp8(hm:m∈ay){n:Nat}(h2:2<=n):vq m (fj m n) n:=λu v hu hv hn=>by
 obtain⟨rt,l,ww⟩:=zG hm h2
 rw[ww]
 have ne:cf u (n-1)≠cf v (n-1):=λz=>hn (Ho (hu.ln.trans ww) (hv.ln.trans ww) λj hj=>by rw[CH hm h2 hu hj,CH hm h2 hv hj,z])
 have:=Cy (l:=aF n) (l':=pW n u v) EE λj hj=>by
  have hj:=cA.mp hj
  exact zI.mpr ⟨hj,by rw[CH hm h2 hu hj,CH hm h2 hv hj];exact ne⟩
 rw[bS]at this
 exact this
theorem Rc(hm:m∈ay){f n e:Nat}(hn:n+1<=aa m):HD m e n (λj=>eS m (j:Int)) (λj=>eS m ((f:Int)*(j:Int))) (fP m f (aF n) e) where
 rt:=by have:=(Hv hm f (aF n) e).1;rw[bS]at this;exact this
 l:=(Hv hm f (aF n) e).2
 xl:=λj=>G6 hm _
 xd:=λi j hi hj h=>ct4 hm (by omega) (by omega) h
 yl:=λj=>G6 hm _
 y0:=λj _=>by have:=(pE hm ((f:Int)*(j:Int))).1;omega
 at_:=λi hi=>⟨i,hi,λj hj=>by
  unfold gb
  rw[cn1 hi,P9 hm,G7 hm]
  show cf ((aF n).map λ(p:Nat)=>eS m (((f:Int)+(i:Int))*(p:Int))) j=_
  rw[Cm _ hj,Int.add_mul,Int.mul_comm (j:Int)]⟩
theorem Rh(hm:m∈ay){f n e:Nat}(hn:n+1<=aa m)(hw:af (fP m f (aF n) e)=n):vq m (fP m f (aF n) e) (e+1) :=
 Ra hm (by rw[hw];exact(Rc hm hn).rt) λS hS hl=>(Rc hm hn).ind hm (by rw[hw]at hS;exact hS) (by omega)
variable{G:List (List Nat)}
theorem gR.wd(h:gR m G){l:List Nat}(hl:l.length=(cS m G).length):Wd m G (vp m G l):=⟨cn5 ..,h.wlt hl,h.word hl⟩
theorem gR.HJ(h:gR m G){d:Nat}(hd:vq m G d):d+(cS m G).length<=af G+1:=by
 have hm:=h.hm
 have dH:=lo1 hm
 have hz:=h.sz
 have l1:(1::bg ((cS m G).length-1) 0).length=(cS m G).length:=by rw[fU,gj];omega
 have a1:AllLt (aa m) (1::bg ((cS m G).length-1) 0):=λa ha=>by
  rcases cj.mp ha with q | q
  ·omega
  ·rw[(vR.mp q).2];omega
 have w:=h.wd l1
 have at_:=λ{j:Nat} (hj:j<(cS m G).length)=>h.at l1 a1 hj
 have:=hd _ _ w (Rb hm h.rt) λz=>by
  have e:=at_ hz
  rw[z,vt]at e
  exact absurd e (by show ¬ (0=1);decide)
 have k:=Cy (l:=pW (af G) (vp m G (1::bg ((cS m G).length-1) 0)) (bg (af G) 0)++(cS m G).drop 1) (l':=aF (af G)) ?_ ?_
 ·rw[di,iF,bS]at k
  omega
 ·refine List.nodup_append.mpr ⟨HI ..,(Q9 m G).sublist (List.drop_sublist ..),λa ha b hb z=>?_⟩
  subst z
  obtain⟨k,hk,e⟩:=gX hb
  rw[iF]at hk
  rw[List.getElem_drop]at e
  have ek:=at_ (show 1+k<(cS m G).length by omega)
  rw[show(cS m G).getD (1+k) 0=a by rw[aM,aO (by omega)];exact e]at ek
  refine(zI.mp ha).2 ?_
  rw[ek,vt]
  unfold cf
  rw[xJ,List.getD_cons_succ]
  exact vt _ _
 ·intro a ha
  rcases cg.mp ha with q | q
  ·exact cA.mpr (zI.mp q).1
  ·exact cA.mpr (cv9 (nL q))
noncomputable def fk(G:List (List Nat)):Kd->Nat
 | .vk b=>b
 | .rep=>af G
 | .vm e _=>e+1
structure zJ(m:Bool × Nat)(G:List (List Nat))(k:Kd):Prop where
 zK:vq m G (fk G k)
 pos:1<=fk G k
 rt:∀e f,k=.vm e f->G=fP m f (aF (af G)) e/\1<=e/\e+1<=af G/\af G+1<=aa m/\f+2<=aa m
end
end L3
namespace L2
open PySem PySem.Spec PyProof.Rows
end L2
namespace L3
open PySem L2 PySem.Spec PyProof.Rows
section
variable{X:Cx}{i:Nat}{x:Str}{p pos mE:Pos}{b e:Expr}{ti te:aH}
noncomputable def sP(i:Nat)(t:aH):dd:=λEn δ=>(∃xs,δ[i]?=some (some (.lst true xs)))/\t δ λd ai=>∃zs xs,d=.lst true zs/\ai[i]?=some (some (.lst true xs))/\xs.length+zs.length<=sizeLine/\En.nx (ai.set i (some (.lst true (xs++zs))))
theorem cv1{t:aH}{apos bI:Pos}(hN:X.N[i]?=some x)(hv:jY X.env.scope x)(he:PE X e (lE t))(hd:(x==("__debug__":Str))=false:=by decide)(cq:(x==("__classdict__":Str))=false:=by decide)
  (jf:attributeBase (.Name x p) "extend" X.env (eval (.Name x p) X.env)=eval (.Name x p) X.env:=by rfl)
  (t9:((backTo bI (starEach [e] X.env)).all (λx=>!x.1)&&(backToKw bI (keywordEach [] X.env)).all (λx=>x.1.isSome)
   && decide ([e].length+([]:List Keyword).length+(if([]:List Keyword).isEmpty then 0 else 1)<30))=true:=by rfl)
  (jg:(apos.endLine==bI.line)=true:=by rfl) (hs:starEach [e] X.env=(false,eval e X.env)::starEach [] X.env:=by rfl) (ua:(backTo bI (starEach [] X.env)).any (·.1)=false:=by rfl)
  (j8:swapsWith (.Call (.Attribute (.Name x p) "extend" apos) [e] [] bI) none pos.line X.env=pure false:=by rfl) :
  PS X (.Expr (.Call (.Attribute (.Name x p) "extend" apos) [e] [] bI) pos) (lS X (sP i t)) :=
 jk (mC (Fs PySem.F.plainAttrs_list PySem.F.slot_list_extend PySem.F.type_list_extend Zw (mB hN hv hd cq) (bV he eB hs) jf t9 jg hs ua) j8) λEn σ H zz=>by
  obtain⟨B,F,δ,Dd,c,⟨⟨ys,ey⟩,q⟩,k1,k2,k3,k4⟩:=zz
  obtain⟨p0,ui,g1,g2,g3⟩:=c.ownAt ey
  refine⟨.ref p0,g1,.inl ⟨rfl,_,bF.of g2⟩,B,F,δ,[],_,c,q,λd ai v F' H' hd sf sh c'=>?_⟩
  obtain⟨zs,xs,rfl,ex,hl,hn⟩:=hd
  obtain⟨p1,ws,r1,r2,r3⟩:=c'.ownAt ex
  rw[g1]at r1;cases r1
  obtain⟨p2,us,rfl,e2,t2⟩:=iO c'.top c'.ext
  refine⟨p0,p2,ws,us,rfl,rfl,r2,e2,by rw[<-r3,<- t2.length];exact hl,k1 _ _ F' _ hn ?_⟩
  exact aj.mut (ps:=[(.lst true zs,.ref p2)]) c' ex g1 λdR A1 A2 h r1 HK nd=>by
   rw[r2]at h;cases h
   have HK:R F' H' [.lst true zs] [.ref p2] A2:=HK
   cases HK with
   | @own _ uq _ Az _ _ Bz hH hF hx hr =>
    cases hr
    rw[e2]at hH;cases hH
    rw[eH]at nd ⊢
    have sl:(A1++Az).Sublist (A1++p2::Az):=(Mz p2 Az).append_left A1
    exact⟨A1++Az,r1.append hx,nd.sublist sl,λa ha=>sl.subset ha⟩
end
end L3
namespace L3
open PySem L2 PySem.Spec PyProof.Rows
section
variable{B:Bs}{F H:Hp}{σ:L2.St}{δ:Dl}{ts:List (D × V)}{p:Addr}{xs:List D}{ws:List V}
theorem CI{xs:List D}{ws:List V}(h:xs.length=ws.length)(ts:List (D × V)):(xs.zip ws++ts).map (·.1)=xs++ts.map (·.1)/\(xs.zip ws++ts).map (·.2)=ws++ts.map (·.2):=by
 rw[eo,eo]
 exact⟨by rw[show(λx:D × V=>x.1)=Prod.fst from rfl,List.map_fst_zip (by omega)],by rw[show(λx:D × V=>x.2)=Prod.snd from rfl,List.map_snd_zip (by omega)]⟩
theorem aj.HL(c:aj B F H σ δ ((.lst true xs,.ref p)::ts))(hp:H p=some (.lst ws)):xs.length=ws.length/\aj ⟨upd B.H0 p (.lst ws),B.F0⟩ F H σ δ (xs.zip ws++ts) /\
  ∀F' H' aK ai wu CJ,aj ⟨upd B.H0 p (.lst ws),B.F0⟩ F' H' aK ai (wu.zip ws++CJ)->wu.length=ws.length->aj B F' H' aK ai ((.lst true wu,.ref p)::CJ):=by
 obtain⟨A,C,r,s,nd,fr⟩:=c.own
 cases r with
 | @own _ dR _ A1 _ _ B1 mP hF rx rr =>
  rw[hp]at mP;cases mP
  have hl:=rx.length
  have b0:B.H0 p=none:=fr p (by simp)
  have f0:B.F0 p=none:=by
   cases e:B.F0 p with
   | none=>rfl
   | some o =>
    by_cases nt:iH o=true
    ·have:=c.b2.get p o e nt
     rw[hF]at this;cases this
    ·obtain⟨ps,rfl⟩:=yA (Bool.eq_false_iff.mpr nt)
     obtain⟨m,em⟩:=c.b2.tb p ps e
     rw[hF]at em;cases em
  have sm:ag B.H0 (upd B.H0 p (.lst ws)):=ag.upd b0
  simp only[ju,iD]at nd fr
  obtain⟨np,nd⟩:=nd
  have dn:∀a,(upd B.H0 p (.lst ws)) a=none->B.H0 a=none:=λa z=>by
   by_cases w:a=p
   ·subst w;exact b0
   ·rwa [aV w]at z
  obtain⟨z1,z2⟩:=CI hl ts
  refine⟨hl,⟨c.ext,?_,c.b2,λa ws z=>?_,A1++B1,C,by rw[z1,z2];exact rx.append rr,s,nd,λa ha=>?_⟩,λF' H' aK ai wu CJ c' nO=>?_⟩
  ·refine⟨λa o z n=>?_,λa ps z=>?_⟩<;>dsimp only at z
   ·by_cases w:a=p
    ·subst w;rw[bA]at z;cases z;exact hp
    ·rw[aV w]at z;exact c.b1.get a o z n
   ·by_cases w:a=p
    ·subst w;rw[bA]at z;cases z
    ·rw[aV w]at z;exact c.b1.tb a ps z
  ·rcases c.b3 a ws z with y | y
   ·exact .inl y
   ·by_cases w:a=p
    ·subst w;rw[hF]at z;cases z
    ·exact .inr (by show upd B.H0 p _ a=none;rw[aV w];exact y)
  ·show upd B.H0 p _ a=none
   rw[aV (λz=>np (by rw[<-z];exact ha))]
   exact fr a (eG _ ha)
  ·obtain⟨A',C',r',s',og,ph⟩:=c'.own
   obtain⟨y1,y2⟩:=CI nO CJ
   rw[y1,y2]at r'
   obtain⟨v1,v2,A2,A3,e,rfl,r1,r2⟩:=R.split r'
   have l1:ws.length=v1.length:=by rw[<-r1.length,nO]
   obtain⟨rfl,rfl⟩:=vQ e l1
   have xf:H' p=some (.lst ws):=c'.b1 p _ bA
   have hF2:F' p=none:=by
    cases e:F' p with
    | none=>rfl
    | some o =>
     by_cases nt:iH o=true
     ·have:=c'.ext.get p o e nt
      rw[xf]at this;cases this
      rcases c'.b3 p ws e with z | z
      ·have z':B.F0 p=_:=z
       rw[f0]at z';cases z'
      ·have z':upd B.H0 p (.lst ws) p=none:=z
       rw[bA]at z';cases z'
     ·obtain⟨ps,rfl⟩:=yA (Bool.eq_false_iff.mpr nt)
      obtain⟨m,em⟩:=c'.ext.tb p ps e
      rw[xf]at em;cases em
   have pX:p ∉ A2++A3++C':=λz=>by
    have z':upd B.H0 p (.lst ws) p=none:=ph p z
    rw[bA]at z';cases z'
   refine⟨c'.ext,sm.trans c'.b1,c'.b2,λa ws z=>(c'.b3 a ws z).elim .inl λy=>.inr (dn a y),p::(A2++A3),C',.own xf hF2 r1 r2,s',?_,λa ha=>?_⟩
   ·rw[ju];exact iD.mpr ⟨pX,og⟩
   ·rw[ju]at ha
    rcases cj.mp ha with rfl | z
    ·exact b0
    ·exact dn a (ph a z)
end
section
variable{X:Cx}{e b a:Expr}{pos pos' p p2 p3:Pos}{ti te ta:aH}{x y:Str}{i j:Nat}
end
end L3
namespace L3
open PySem L2 PySem.Spec PyProof.Rows
section
variable{B B':Bs}{F H:Hp}{σ:L2.St}{δ:Dl}{ts:List (D × V)}{p:Addr}{xs:List D}{ws:List V}
theorem aj.based(c:aj B' F H σ δ ts)(h:ag B.H0 B'.H0)(hf:B.F0=B'.F0):aj B F H σ δ ts:=by
 obtain⟨A,C,r,s,nd,fr⟩:=c.own
 exact⟨c.ext,h.trans c.b1,by rw[hf];exact c.b2,λa ws z=>(c.b3 a ws z).imp (λy=>by rw[hf];exact y) h.free,A,C,r,s,nd,λa ha=>h.free (fr a ha)⟩
theorem aj.c94(c:aj B F H σ δ ((.tup xs,.ref p)::ts))(hp:H p=some (.tup ws)):xs.length=ws.length/\aj B F H σ δ (xs.zip ws++ts):=by
 obtain⟨A,C,r,s,nd,fr⟩:=c.own
 cases r with
 | tup mP rx rr =>
  rw[hp]at mP;cases mP
  obtain⟨z1,z2⟩:=CI rx.length ts
  exact⟨rx.length,c.ext,c.b1,c.b2,c.b3,_,C,by rw[z1,z2];exact rx.append rr,s,nd,fr⟩
theorem aj.c95(c:aj B F H σ δ (xs.zip ws++ts))(hl:xs.length=ws.length)(hp:H p=some (.tup ws)):aj B F H σ δ ((.tup xs,.ref p)::ts):=by
 obtain⟨A,C,r,s,nd,fr⟩:=c.own
 obtain⟨z1,z2⟩:=CI hl ts
 rw[z1,z2]at r
 obtain⟨v1,v2,A2,A3,e,rfl,r1,r2⟩:=R.split r
 have l1:ws.length=v1.length:=by rw[<-r1.length,hl]
 obtain⟨rfl,rfl⟩:=vQ e l1
 exact⟨c.ext,c.b1,c.b2,c.b3,_,C,.tup hp r1 r2,s,nd,fr⟩
end
section
variable{X:Cx}{e:Expr}{scope:Scope}{cl:List (Str × Addr)}{te:aH}{x y:Str}{i:Nat}{p tp p1 pos mE:Pos}
theorem cE8{X:Cx}{i:Nat}{x:Str}{pos:Pos}(hN:X.N.Nodup)(hi:X.N[i]?=some x:=by rfl)(hx:Loc X.env.scope x:=by first | exact az (lookup_relabel_local rfl) | exact bY rfl | exact az rfl)
  (hf:X.fn x=true\/X.env.scope.names.lookup x=some .local:=by first | exact .inr (lookup_relabel_local rfl) | exact .inl rfl | exact .inr rfl):PG X (.Name x pos) (we i):=ya hN hi hx hf
noncomputable def Ri(i:Nat)(aw:List (Str × Nat))(te:aH):aH:=λδ Q=>∃(xs:List D) (f:D->D),δ[i]?=some (some (.lst true xs)) /\
 (∀x∈xs,te ((eR aw 1 (δ.set i none)).set aw.length (some x.sh)) λd _=>d=f x/\d.fr=true)/\xs.length<=sizeLine/\Q (.lst true (xs.map λx=>.tup [x,f x])) (δ.set i none)
open Classical in
theorem cw4{α:Type}{i:Nat}{aw:List (Str × Nat)}{te:aH}{δ:Dl}{Q:D->Dl->Prop}(l:List α)(e g:α->D)(hi:δ[i]?=some (some (.lst true (l.map e))))(inj:∀a b,e a=e b->a=b)
  (hx:∀a∈l,te ((eR aw 1 (δ.set i none)).set aw.length (some (e a).sh)) λd _=>d=g a/\d.fr=true) (hl:l.length<=sizeLine) (hq:Q (.lst true (l.map λa=>.tup [e a,g a])) (δ.set i none)):Ri i aw te δ Q:=by
 let f:D->D:=λx=>if h:∃a∈l,e a=x then g h.choose else .av
 have hf:∀a∈l,f (e a)=g a:=λa ha=>by
  have h:∃b∈l,e b=e a:=⟨a,ha,rfl⟩
  show(if h:∃b∈l,e b=e a then g h.choose else .av)=g a
  rw[dif_pos h]
  exact congrArg g (inj _ _ h.choose_spec.2)
 refine⟨l.map e,f,hi,λx cU=>?_,by rw[bt];exact hl,?_⟩
 ·obtain⟨a,ha,rfl⟩:=bE.mp cU
  rw[hf a ha]
  exact hx a ha
 ·rw[bP,show l.map ((λx=>D.tup [x,f x]) ∘ e)=l.map λa=>D.tup [e a,g a] from qw λa ha=>by show D.tup [e a,f (e a)]=_;rw[hf a ha]]
  exact hq
theorem b36{x1}(i:Nat)(aw:List (Str × Nat))(hN:X.N[i]?=some x)(hv:jY X.env.scope x)(hc:X.calm=true)
  (hg:∀C s H fp,PG (dw X scope (aw.map (·.1)++[y]) cl C s H fp) (.Name y tp) (we aw.length))
  (he:∀C s H fp,PA (dw X scope (aw.map (·.1)++[y]) cl C s H fp) [.Name y p1,e] (Fd (EO aw.length) (Fd (lE te) Nc)))
  (kh:closureFor scope X.env=pure cl) (ki:lj X cl:=by repeat' (first | exact trivial | refine⟨rfl,?_⟩)) (kj:∀C:Addr,ly (cellsFrom (C+1) scope.names cl) (relabel scope X.env).names:=by intro _;repeat' (first | exact trivial | refine⟨.inl rfl,?_⟩ | refine⟨.inr (.inl rfl),?_⟩ | refine⟨.inr (.inr ⟨_,rfl⟩),?_⟩)) (km:∀C:Addr,lh X scope (cellsFrom (C+1) scope.names cl) aw:=by intro _;repeat' (first | exact trivial | refine⟨⟨rfl,.inl rfl,.inl rfl,_,rfl,rfl⟩,?_⟩))
  (gY:scope.kind=.function:=by rfl) (kn:∀y∈scope.names,y.2=.local->scope.names.lookup y.1=some .local:=by decide +kernel)
  (hd:(x==("__debug__":Str))=false:=by decide) (cq:(x==("__classdict__":Str))=false:=by decide)
  (hs:∀z,foldedSetIterable (.Name x p) X.env z=pure z:=by intro _;rfl):PE X (.ListComp (.Tuple [.Name y p1,e] x1 mE) [⟨.Name y tp,.Name x p,[],0⟩] scope pos) (lE (Ri i aw te)) :=
 dm (Qp aw [y] hc (EZ (mB hN hv hd cq)) hg (λ_ _ _ _=>cX) (λC s H fp=>Nd (he C s H fp)) kh ki kj km gY kn hs) λσ H Q zq=>by
 obtain⟨B,F,δ,ts,Qd,c,⟨xs,f,e0,hx,hlen,hq⟩,k⟩:=zq
 obtain⟨p0,ws,g1,g2,g3⟩:=c.ownAt e0
 obtain⟨v0,gv,cm⟩:=c.move e0
 rw[g1]at gv;cases gv
 obtain⟨hl,co,-⟩:=cm.HL g2
 have b0:B.H0 p0=none:=by
  obtain⟨A,C,r,s,nd,fr⟩:=cm.own
  cases r with
  | own _ _ _ _=>exact fr p0 (by simp)
 refine⟨.ref p0,g1,p0,rfl,⟨ws,bF.of g2⟩,λDp hD=>?_⟩
 have cD:=co.mJ (xs:=[]) (vs:=[]) hD .nil rfl
 refine⟨λn m acc H2=>m=xs.length-n/\n<=xs.length/\H2 Dp=some (.lst acc)/\acc.length=n/\ag H H2/\∃F2,ag F F2 /\
  aj ⟨upd B.H0 p0 (.lst ws),B.F0⟩ F2 H2 σ (δ.set i none) ((.lst true ((xs.take n).map λx=>.tup [x,f x]),.ref Dp)::((xs.drop n).zip (ws.drop n)++ts)),
  ⟨xs.length,rfl,iC _,bA,rfl,ag.upd hD,F,ag.refl _,by simpa using cD⟩,?_⟩
 rintro n m acc H2 ⟨rfl,hn,lJ,Gh,rj,F2,kH,c2⟩
 refine⟨lJ,?_⟩
 have w1:H2 p0=some (.lst ws):=c2.b1 p0 _ bA
 by_cases ff:n<xs.length
 case neg =>
  have en:n=xs.length:=by omega
  subst en
  refine .inl ⟨⟨ws,bF.of w1,by omega⟩,k _ _ _ F2 H2 hq kH rj ?_⟩
  rw[qq,List.drop_length,List.zip_nil_left,nC]at c2
  exact c2.based (ag.upd b0) rfl
 case pos =>
  have HM:n<ws.length:=by omega
  refine .inr ⟨⟨ws,ws[n],bF.of w1,aO HM⟩,λz H3 yy=>?_⟩
  obtain⟨rfl,yz⟩:=yy
  have hz:=yz ws (bF.of w1)
  rw[aO HM]at hz
  cases hz
  refine⟨lJ,?_⟩
  have z1:(xs.drop n).zip (ws.drop n)=(xs[n],ws[n])::(xs.drop (n+1)).zip (ws.drop (n+1)):=by
   rw[EF ff,EF HM];rfl
  rw[z1,ju]at c2
  have c3:=c2.perm (Ej _ _ _)
  have sx:=c3.top
  have hS:=sx.frozen c3.ext
  have ci:aj ⟨H3,H3⟩ H3 H3 (gu aw 1 σ) (eR aw 1 (δ.set i none)) []:=⟨ag.refl _,ag.refl _,ag.refl _,λ_ _ q=>.inl q,[],[],.nil,Gf c3 1 aw,by simp,by simp⟩
  have c4:=(ci.pushS hS.s (by have:=hS.pl;simpa using this)).store aw.length
  refine⟨⟨by rw[qk],λj hj=>by rw[sZ (by omega)]⟩,⟨H3,H3⟩,H3,_,[],λb iM=>b=true/\iM=(eR aw 1 (δ.set i none)).set aw.length (some xs[n].sh),c4,⟨rfl,rfl⟩,λb iM F5 H5 hb f5 h5 c5=>?_⟩
  obtain⟨rfl,rfl⟩:=hb
  have hm:aw.length<(gu aw 1 σ).length:=by rw[cn2];omega
  refine⟨h5 _ _ lJ,nY ⟨ws[n],xF hm,⟨H3,H3⟩,F5,_,[],_,c5,hx _ (cT ff),λd δ6 v F6 H6 hd f6 h6 c6=>?_⟩⟩
  obtain⟨rfl,fJ⟩:=hd
  have CK:=h5.trans h6
  refine⟨by show 2<=sizeLine;rw[sL];decide,λq CL=>?_⟩
  obtain⟨A,C,r,s,nd,fr⟩:=c6.own
  have c7:=c3.Bq CK (r.qK (by simp[fJ]) (c3.ext.trans (f5.trans f6))) (fX.mp nd).1 λa ha=>fr a (dZ _ ha)
  have c8:=c7.perm (Ej _ _ _)
  have c9:=aj.Ol (ps:=[(xs[n],ws[n]),(f xs[n],v)]) c8 CL
  have nq:Dp≠q:=λz=>by rw[<-z,CK _ _ lJ]at CL;cases CL
  have a6:upd H6 q (.tup [ws[n],v]) Dp=some (.lst acc):=by rw[aV nq];exact CK _ _ lJ
  have c10:=c9.FX a6
  refine⟨a6,by omega,xs.length-(n+1),by omega,rfl,ff,bA,by simp[Gh],?_,F2,kH,?_⟩
  ·have yN:=(rj.trans CK).trans (ag.upd CL (o:=.tup [ws[n],v]))
   exact⟨λa o q n=>by rw[aV (dU q hD)];exact yN.get a o q n,λa ps q=>by rw[aV (dU q hD)];exact yN.tb a ps q⟩
  ·have e9:(xs.take (n+1)).map (λx=>D.tup [x,f x])=(xs.take n).map (λx=>D.tup [x,f x])++[.tup [xs[n],f xs[n]]]:=by
    rw[nK,aO ff,eo];rfl
   rw[e9]
   exact c10
end
section
variable{X:Cx}{e:Expr}{pos p p2 p3 p4 p5 apos bI:Pos}{t:aH}{x:Str}{i:Nat}
noncomputable def sQ(i:Nat)(n:Int)(t:aH):dd:=λD δ=>∃l1 ys l2 r,δ[i]?=some (some (.lst true (.tup (l1++.lst true ys::l2)::r)))/\n=l1.length /\
 t δ λd ai=>ai[i]?=some (some (.lst true (.tup (l1++.lst true ys::l2)::r)))/\ys.length<sizeLine/\D.nx (ai.set i (some (.lst true (.tup (l1++.lst true (ys++[d])::l2)::r))))
theorem Rj{n:Int}{tk zL:Nat}(hN:X.N[i]?=some x)(hv:jY X.env.scope x)(he:PE X e (lE t))(hd:(x==("__debug__":Str))=false:=by decide)(cq:(x==("__classdict__":Str))=false:=by decide)
  (jf:attributeBase (.Subscript (.Subscript (.Name x p) (.Constant (.int 0) zL p4) p5) (.Constant (.int n) tk p2) p3) "append" X.env (eval (.Subscript (.Subscript (.Name x p) (.Constant (.int 0) zL p4) p5) (.Constant (.int n) tk p2) p3) X.env)=eval (.Subscript (.Subscript (.Name x p) (.Constant (.int 0) zL p4) p5) (.Constant (.int n) tk p2) p3) X.env:=by rfl)
  (t9:((backTo bI (starEach [e] X.env)).all (λx=>!x.1)&&(backToKw bI (keywordEach [] X.env)).all (λx=>x.1.isSome)
   && decide ([e].length+([]:List Keyword).length+(if([]:List Keyword).isEmpty then 0 else 1)<30))=true:=by rfl)
  (jg:(apos.endLine==bI.line)=true:=by rfl) (hs:starEach [e] X.env=(false,eval e X.env)::starEach [] X.env:=by rfl) (ua:(backTo bI (starEach [] X.env)).any (·.1)=false:=by rfl)
  (j8:swapsWith (.Call (.Attribute (.Subscript (.Subscript (.Name x p) (.Constant (.int 0) zL p4) p5) (.Constant (.int n) tk p2) p3) "append" apos) [e] [] bI) none pos.line X.env=pure false:=by rfl) :
  PS X (.Expr (.Call (.Attribute (.Subscript (.Subscript (.Name x p) (.Constant (.int 0) zL p4) p5) (.Constant (.int n) tk p2) p3) "append" apos) [e] [] bI) pos) (lS X (sQ i n t)) :=
 jk (mC (Fs PySem.F.plainAttrs_list PySem.F.slot_list_append PySem.F.type_list_append Fv (Fj Nx (Fj Nw (mB hN hv hd cq) nQ (λ_ _=>rfl)) nQ (λ_ _=>rfl)) (bV he eB hs) jf t9 jg hs ua) j8) λEn σ H zz=>by
  obtain⟨B,F,δ,Dd,c,⟨l1,ys,l2,r,e1,e2,q⟩,k1,k2,k3,k4⟩:=zz
  subst e2
  obtain⟨p0,ws,g1,g2,g3⟩:=c.ownAt e1
  obtain⟨v0,gv,cm⟩:=c.move e1
  rw[g1]at gv;cases gv
  obtain⟨-,co,-⟩:=cm.HL g2
  match ws,g3 with
  | w0::dR,g3 =>
  have s0:=co.top
  cases s0 with
  | @tup t0 us _ _ _ hh sx _ =>
   obtain⟨v2,g5,s3⟩:=sx.get (i:=l1.length) (d:=D.lst true ys) (by rw[nB (bL _),EB];rfl)
   cases s3 with
   | @own q0 vs _ _ _ g6 s5 _ =>
    refine⟨.ref p0,g1,p0,_,_,.ref t0,rfl,rfl,bF.of g2,yX (k:=0) rfl,t0,us,_,.ref q0,rfl,rfl,h7.of hh,yX g5,.inl ⟨rfl,_,bF.of g6⟩,B,F,δ,[],_,c,q,λd ai v F' H' hd sf sh c'=>?_⟩
    obtain⟨ex,hl,hn⟩:=hd
    have hv5:=s5.length
    refine⟨q0,vs,v,rfl,rfl,sh _ _ g6,by omega,k1 _ _ F' _ hn ?_⟩
    obtain⟨v',Rk,d1⟩:=c'.move ex
    rw[g1]at Rk;cases Rk
    obtain⟨-,d2,un⟩:=d1.HL (sh _ _ g2)
    obtain⟨Rl,d3⟩:=aj.c94 (xs:=l1++.lst true ys::l2) (ts:=r.zip dR++[(d,v)]) d2 (sh _ _ hh)
    have da0:l1.length<us.length:=by rw[<-Rl];simp
    have eu:us=us.take l1.length++.ref q0::us.drop (l1.length+1):=by
     have e:=(ky.mp g5).2
     rw[<-e,<- EF da0,vT]
    have lt1:l1.length=(us.take l1.length).length:=by rw[fV];omega
    have zz:∀zs:List D,(l1++.lst true zs::l2).zip us=l1.zip (us.take l1.length)++(.lst true zs,.ref q0)::l2.zip (us.drop (l1.length+1)):=λzs=>by
     conv=>lhs;rw[eu]
     rw[List.zip_append lt1];rfl
    rw[zz]at d3
    have d4:=aj.perm (ts:=(d,v)::(.lst true ys,.ref q0)::(l1.zip (us.take l1.length)++l2.zip (us.drop (l1.length+1))++r.zip dR)) d3 (by
     simp only[cZ,ju]
     exact(Mn.trans ((List.Perm.cons _ (by rw[<-cZ,<- cZ,<- cZ];exact nJ)).trans (Ej _ _ _))))
    have d5:=d4.FX (sh _ _ g6)
    have d6:=aj.perm (ts:=(l1++.lst true (ys++[d])::l2).zip us++(r.zip dR)) d5 (by
     rw[zz]
     simp only[cZ,ju]
     exact Mn.symm)
    have nt:t0≠q0:=λz=>by rw[z,g6]at hh;cases hh
    have d7:=d6.c95 (p:=t0) (by simp at Rl ⊢;omega) (by rw[aV nt];exact sh _ _ hh)
    have d8:=un _ _ _ _ (.tup (l1++.lst true (ys++[d])::l2)::r) [] (by simpa using d7) (by simpa using g3)
    have d9:=d8.fill (i:=i) (by rw[xF (ky.mp ex).1]) g1
    rw[Ei]at d9
    exact d9
end
end L3
namespace L3
open PySem L2 Mf
noncomputable def lex(n:Nat):Nat->Nat->List (List Nat)
 | 0,_=>[[]]
 | k+1,b=>(mm b (n-b)).flatMap λa=>(lex n k (a+1)).map (a :: ·)
noncomputable def kr(b:Nat)(p:List Nat):Nat:=match p.getLast? with
 | some x=>x+1
 | none=>b
noncomputable def iz(n b:Nat)(p:List Nat):List (List Nat):=(mm (kr b p) (n-kr b p)).map λa=>p++[a]
theorem b84(b a:Nat)(p:List Nat):kr b (a::p)=kr (a+1) p:=by
 cases p with
 | nil=>rfl
 | cons x q=>unfold kr;rw[List.getLast?_cons_cons,List.getLast?_eq_some_getLast (List.cons_ne_nil x q)]
theorem Rm{b:Nat}{p:List Nat}(h:0<p.length):kr b p=p.getD (p.length-1) 0+1:=by
 unfold kr
 rw[List.getLast?_eq_getElem?,aM,aO (by omega)];rfl
theorem bT3(n b a:Nat)(p:List Nat):iz n b (a::p)=(iz n (a+1) p).map (a :: ·):=by
 unfold iz
 rw[b84,bP];rfl
theorem Rn(n:Nat):∀(k b:Nat),(lex n k b).flatMap (iz n b)=lex n (k+1) b
 | 0,b=>by
  show [[]].flatMap (iz n b)=(mm b (n-b)).flatMap λa=>[[a]]
  rw[MI]
  exact List.map_eq_flatMap
 | k+1,b=>by
  show((mm b (n-b)).flatMap λa=>(lex n k (a+1)).map (a :: ·)).flatMap (iz n b)=(mm b (n-b)).flatMap λa=>(lex n (k+1) (a+1)).map (a :: ·)
  rw[List.flatMap_assoc]
  congr 1
  funext a
  rw[List.flatMap_map,<- Rn n k (a+1),List.map_flatMap]
  congr 1
  funext p
  exact bT3 n b a p
theorem Ro(n b:Nat):∀L:List (List Nat),(L.flatMap (iz n b)).length<=L.length*n
 | []=>iC _
 | p::L=>by
  have h:=Ro n b L
  have e:(iz n b p).length<=n:=by unfold iz;rw[bt,List.length_range'];omega
  rw[EG,di,fU,Nat.succ_mul]
  omega
theorem zM(n:Nat):∀(k b:Nat),∀S∈lex n k b,S.length=k/\S.Pairwise (· < ·)/\∀x∈S,b<=x/\x<n
 | 0,b,S,h=>by
  obtain rfl:=gn.mp h
  exact⟨rfl,Eb,λx hx=>by cases hx⟩
 | k+1,b,S,h=>by
  obtain⟨a,ha,h⟩:=List.mem_flatMap.mp h
  obtain⟨p,hp,rfl⟩:=bE.mp h
  obtain⟨h1,h2,h3⟩:=zM n k (a+1) p hp
  have ha:=List.mem_range'_1.mp ha
  refine⟨by rw[fU,h1],xT.mpr ⟨λx hx=>(h3 x hx).1,h2⟩,λx hx=>?_⟩
  rcases cj.mp hx with rfl | z
  ·omega
  ·have:=h3 x z
   omega
theorem xg(n:Nat):∀(c k b:Nat),n-b=c->(lex n k b).length<=2 ^ c
 | c,0,b,_=>Nat.one_le_two_pow
 | 0,k+1,b,h=>by
  show((mm b (n-b)).flatMap _).length<=1
  rw[h];exact iC _
 | c+1,k+1,b,h=>by
  have h1:=xg n c k (b+1) (by omega)
  have h2:=xg n c (k+1) (b+1) (by omega)
  have e:lex n (k+1) b=(lex n k (b+1)).map (b :: ·)++lex n (k+1) (b+1):=by
   show(mm b (n-b)).flatMap _=_++(mm (b+1) (n-(b+1))).flatMap _
   rw[h,show n-(b+1)=c by omega,ME,EG]
  rw[e,di,bt,nE]
  omega
noncomputable def sR(n k b j:Nat):List (List Nat):=(mm b j).flatMap λa=>(lex n k (a+1)).map (a :: ·)
theorem HN(n k b j:Nat):sR n k b (j+1)=sR n k b j++(lex n k (b+j+1)).map ((b+j) :: ·):=by
 unfold sR
 rw[List.range'_1_concat,EH,MI]
theorem Rp(n k b:Nat):∀(c j:Nat),(sR n k b j).length<=(sR n k b (j+c)).length
 | 0,j=>bL _
 | c+1,j=>by
  have h:=Rp n k b c j
  rw[<-Ek,HN n k b (j+c),di]
  omega
theorem Rq(n:Nat):∀(k b:Nat),b+k<=n->lex n k b≠[]
 | 0,b,_=>by show [[]]≠[];decide
 | k+1,b,h=>by
  show(mm b (n-b)).flatMap _≠[]
  obtain⟨c,hc⟩:∃c,n-b=c+1:=⟨n-b-1,by omega⟩
  rw[hc,ME,EG]
  intro z
  have z:=(qt.mp z).1
  exact Rq n k (b+1) (by omega) (List.map_eq_nil_iff.mp z)
theorem Rt{o:Bool}{L:List (List Nat)}{j:Nat}{d:D}(h:(ao o L)[j]?=some d):∃hj:j<L.length,d=.lst o (aq L[j]):=by
 unfold ao at h
 rw[bO]at h
 by_cases hj:j<L.length
 ·rw[aO hj]at h;exact⟨hj,(dh h).symm⟩
 ·rw[fF (by omega)]at h;cases h
section
variable{m:Bool × Nat}{G:List (List Nat)}
noncomputable def gC(m:Bool × Nat)(G:List (List Nat))(S:List Nat):List (List Nat):=(pQ m (eY G S)).getD []
structure HP(m:Bool × Nat)(G:List (List Nat))(S:List Nat):Prop where
 wy:pQ m (eY G S)=some (gC m G S)
 ln:(gC m G S).length=S.length
 rt:RT (aa m) G.length (gC m G S)
 un:∀k,k<S.length->jq m ((gC m G S).getD k []) (eY G S) S.length=eX S.length k
theorem Ru(hm:m∈ay)(g0:0<G.length)(hG:RT (aa m) (af G) G){d:Nat}(hA:vq m G d){S:List Nat}(hS:gB (af G) S)(hl:S.length<d):HP m G S:=by
 have g:=rg hm
 have l1:=lo1 hm
 obtain⟨p1,p2⟩:=Cw (F:=S) (by omega) hG
 have wp:=HE (F:=S) g0
 have CM:RT (aa m) (af (eY G S)) (eY G S):=by rw[wp];exact p1
 have full:eD (bj m (eY G S)) (af (eY G S))=[]:=by
  refine Mo.mpr λf hf=>?_
  obtain⟨⟨H,I⟩,iR,il,sp⟩:=iy hm CM
  obtain⟨k1,k2,k3,-⟩:=by4 hm iR I hf
  have kx:=ci6 hm CM hf
  have fl:f<S.length:=by
   rw[<-wp]
   exact cA.mp (qf.mp hf).1
  generalize gz m (bj m (eY G S)) (af (eY G S)) f=x at k1 k2 k3 kx
  obtain⟨w1,w2,w3,w4,w5⟩:=Q2 hm S x (bg (af G) 0) (by rw[k1,wp]) hS.1 hS.2 (gj ..) (λa ha=>by rw[(vR.mp ha).2];omega) k2 λp _=>vt _ _
  generalize (S.zip x).foldl (λr z=>r.set z.1 z.2) (bg (af G) 0)=v at w1 w2 w3 w4 w5
  have wv:Wd m G v:=⟨w1,w2,λr hr=>by
   obtain⟨k,hk,rfl⟩:=gX hr
   have e:=w5 (cf G[k])
   have z0:dt m (af G) (cf G[k]) (cf (bg (af G) 0))=0:=fv g λj _=>by rw[vt];exact iu m _ (b8 m hm)
   have ks:=kx _ (cy (show k<(eY G S).length by omega) [])
   rw[wp]at ks
   have s0:(sm (gp m) S.length λt=>gm m (cf G[k] (S.getD t 0)) (cf x t))=0:=by
    refine Eq.trans (cw λt ht=>?_) ks
    rw[Q1 hk ht]
    unfold gb
    rw[l6 hk]
   rw[z0,s0]at e
   rw[pO m (by rw[(hG _ (cT hk)).1,w1]),(hG _ (cT hk)).1]
   exact e.trans (kb (by omega))⟩
  have:=hA v _ wv (Rb hm hG) λz=>by
   have e:=w4 f fl
   rw[z,vt,k3]at e
   exact absurd e (by decide)
  have:=Cy (l:=pW (af G) v (bg (af G) 0)) (l':=S) (HI ..) λj hj=>MH λc=>(zI.mp hj).2 (by rw[w3 j c])
  omega
 obtain⟨V,eV⟩:=b96 hm (by rw[p2];exact g0) CM full
 obtain⟨a1,a2,a3,-⟩:=b81 hm (by rw[p2];exact g0) CM eV
 have ep:gC m G S=V:=by unfold gC;rw[eV];rfl
 rw[wp]at a1 a3
 rw[p2]at a2
 exact⟨by rw[ep];exact eV,by rw[ep];exact a1,by rw[ep];exact a2,by rw[ep];exact a3⟩
end
noncomputable def pY(o:Bool)(m:Bool × Nat)(G L:List (List Nat)):List D:=L.map λS=>.tup [.lst o (aq S),.lst o (ao o (gC m G S))]
theorem Rw(m:Bool × Nat)(G L:List (List Nat)):(pY true m G L).map D.sh=pY false m G L:=by
 unfold pY
 rw[bP]
 refine qw λS _=>?_
 show(D.tup [.lst true (aq S),.lst true (ao true (gC m G S))]).sh=_
 rw[jL,cK,cK,i6,m6,cV,de]
end L3
namespace HK42
open PySem.W (Frag codeHdIn nsIn findIn isFn plainGet hasDictIn plainOver makesIn keepIn fnOf codeIn mg_of mg_none_of CodeHd)
open PySem L2 L3 Mf
seal L2.PSs L2.PS L2.PE L2.PT L2.PA L2.PI L2.PG L2.PO L2.PW
local macro_rules | `(tactic| walk_at "l3") => do
  let l ← (("qU ot qV qW ou dT lF mK mL dC oh mN om oj oo qT mU rL oN rN rO qM qN qO qP qQ qS oi rH oI oJ ii oE rk oG rl rm rn rp rq rz iI g8 rA rB rC rD oH mT rF rG gN rP rJ qX qZ q5 q8 q9 rh rQ rR rS mO kG eR jm iN qp ql vU vV oq lH jN oK oM rY jR sj oV rZ ik jS u0 u3 cK i6 ju nC fU vW bg tG tH i7 i8 tI exists_eq_left' exists_eq_left D.bl.injEq D.int.injEq D.lst.injEq D.fz.injEq D.str.injEq D.tup.injEq tJ and_true true_and cL qv kT kS uB uC uD uE uF uG fW jK lU uK uL uM uN uO cV jL rT uH uI uJ fg n6 vX vY qg jx vZ v3 tf uS uT uU uV uW uX uY kK mX oR jQ oS uQ rX uP oU uR lW rW if_true tK if_false reduceIte uZ decide_eq_true_eq fu jo oW u5 kL u4 qY sq se oZ pd pf sA ve pH sF sH sI de m9 iV sG pJ sN sO sP sQ sL G5 cD3 cj5 cj8 vd m5".splitOn " ").toArray.map fun (s : String) => Lean.mkIdent s.toName).mapM fun i => `(Lean.Parser.Tactic.simpLemma| $i:term)
  `(tactic| (try dsimp only [$l,*]) <;> (try simp only [$l,*]))
noncomputable def top (i:Nat):Stmt:=PySem.Challenge.pw_mendfield_k42_paper_told.main.body.getD i (.Pass ⟨0,0,0,0⟩)
noncomputable abbrev HQ:Stmt:=top 94
theorem HR:aW ["_law_cell_here","_law_some","_law_primes"] ["_law_cell_here"] (aL HQ):=bq
noncomputable abbrev HS:Stmt:=top 61
theorem CN:aW ["a","product","found","power"] ["a","product"] (aL HS):=bq
noncomputable abbrev HU:Stmt:=top 62
theorem zN:aW ["many","product","step","found"] ["many","product"] (aL HU):=bq
noncomputable abbrev HV:Stmt:=top 63
theorem HW:aW ["powers","logs","n","a"] ["powers"] (aL HV):=bq
noncomputable abbrev HX:Stmt:=fH (top 67) 8
theorem aw2:aW ["self","n"] ["self","n"] (aL HX):=bq
noncomputable abbrev HY:Stmt:=fH (top 67) 0
theorem aG8:aW ["self","many","product"] ["self","many","product"] (aL HY):=bq
noncomputable abbrev HZ:Stmt:=top 66
theorem as9:aW ["prime"] ["prime"] (aL HZ):=bq
noncomputable abbrev pZ:Stmt:=fH (top 69) 0
theorem aw9:aW ["self","prime"] ["self","prime"] (aL pZ):=bq
noncomputable abbrev Ia:Stmt:=top 64
theorem CO:aW ["powers","logs","many","rows","a"] ["powers","logs"] (aL Ia):=bq
noncomputable abbrev Ib:Stmt:=top 58
theorem xh:aW ["a","b","quotient","rest","shift"] ["a","b"] (aL Ib):=bq
noncomputable abbrev Ic:Stmt:=top 59
theorem Ie:aW ["a","half","b"] ["a"] (aL Ic):=bq
noncomputable abbrev Ig:Stmt:=top 65
theorem ax0:aW ["bits"] ["bits"] (aL Ig):=bq
noncomputable abbrev Ih:Stmt:=top 57
theorem CP:aW ["a","b","product","k"] ["a","b"] (aL Ih):=bq
noncomputable abbrev p7:Stmt:=fH (top 68) 0
theorem Rx:aW ["self","bits","many"] ["self","bits"] (aL p7):=bq
noncomputable abbrev Ii:Stmt:=top 98
theorem aG9:aW ["_law_told_here"] ["_law_told_here"] (aL Ii):=bq
noncomputable abbrev Ij:Stmt:=top 106
theorem CQ:aW ["_law_begin","_law_length","_law_many_here","_law_found","_law_at","_law_rest"] ["_law_begin","_law_length","_law_many_here"] (aL Ij):=bq
noncomputable abbrev Ik:Stmt:=top 33
theorem aE5:aW ["code"] ["code"] (aL Ik):=bq
noncomputable abbrev Il:Stmt:=top 41
theorem aN5:aW ["table"] ["table"] (aL Il):=bq
noncomputable abbrev Im:Stmt:=fH (top 44) 1
theorem aF6:aW ["self"] ["self"] (aL Im):=bq
noncomputable abbrev Io:Stmt:=top 15
theorem vv:aW ["width","size","sets","turn","larger","places","begin"] ["width","size"] (aL Io):=bq
noncomputable abbrev Ip:Stmt:=fH (top 55) 1
theorem as0:aW ["self"] ["self"] (aL Ip):=bq
noncomputable abbrev Iq:Stmt:=fH (top 46) 1
theorem ar0:aW ["self"] ["self"] (aL Iq):=bq
noncomputable abbrev Ir:Stmt:=fH (top 90) 2
theorem at0:aW ["self"] ["self"] (aL Ir):=bq
noncomputable abbrev Iu:Stmt:=top 2
theorem aL4:aW ["table"] ["table"] (aL Iu):=bq
noncomputable abbrev Iw:Stmt:=top 6
theorem Ry:aW ["rows","place","number","row"] ["rows","place"] (aL Iw):=bq
noncomputable abbrev Iy:Stmt:=fH (top 68) 6
theorem Rz:aW ["self","a","row","by_a"] ["self","a","row"] (aL Iy):=bq
noncomputable abbrev Iz:Stmt:=fH (top 69) 6
theorem RA:aW ["self","a","row","prime"] ["self","a","row"] (aL Iz):=bq
noncomputable abbrev IA:Stmt:=fH (top 68) 7
theorem RB:aW ["self","row","a","other","by_a"] ["self","row","a","other"] (aL IA):=bq
noncomputable abbrev IB:Stmt:=fH (top 69) 7
theorem RC:aW ["self","row","a","other","prime"] ["self","row","a","other"] (aL IB):=bq
noncomputable abbrev IC:Stmt:=top 7
theorem aM8:aW ["field","rows","lead_row","place"] ["field","rows","lead_row","place"] (aL IC):=bq
noncomputable abbrev ID:Stmt:=fH (top 67) 5
theorem aH0:aW ["self","a","b"] ["self","a","b"] (aL ID):=bq
noncomputable abbrev IE:Stmt:=top 8
theorem sS:aW ["field","table","done","left","place","number","lead_row"] ["field","table"] (aL IE):=bq
noncomputable abbrev IF:Stmt:=top 9
theorem b70:aW ["rows"] ["rows"] (aL IF):=bq
noncomputable abbrev IG:Stmt:=top 30
theorem aL5:aW ["width","place"] ["width","place"] (aL IG):=bq
noncomputable abbrev IH:Stmt:=top 31
theorem CS:aW ["field","table","width","beside","rows"] ["field","table"] (aL IH):=bq
noncomputable abbrev II:Stmt:=top 4
theorem aN6:aW ["table","places"] ["table","places"] (aL II):=bq
noncomputable abbrev IJ:Stmt:=top 34
theorem IK:aW ["code","checks","sets"] ["code"] (aL IJ):=bq
noncomputable abbrev IL:Stmt:=top 93
theorem aH1:aW ["_law_x"] ["_law_x"] (aL IL):=bq
noncomputable abbrev IM:Stmt:=top 102
theorem aD2:aW ["_law_row","_law_wide","_law_many_here"] ["_law_row","_law_wide","_law_many_here"] (aL IM):=bq
noncomputable abbrev IQ:Stmt:=top 103
theorem ax1:aW ["_law_table_here","_law_rows","_law_wide","_law_many_here"] ["_law_table_here","_law_rows","_law_wide","_law_many_here"] (aL IQ):=bq
noncomputable abbrev IS:Stmt:=top 95
theorem aJ5:aW ["_law_told_here"] ["_law_told_here"] (aL IS):=bq
noncomputable abbrev IT:Stmt:=top 96
theorem aJ6:aW ["_law_told_here","_law_a","_law_b"] ["_law_told_here","_law_a","_law_b"] (aL IT):=bq
noncomputable abbrev IU:Stmt:=top 97
theorem xi:aW ["_law_told_here","_law_a","_law_b","_law_total"] ["_law_told_here","_law_a","_law_b"] (aL IU):=bq
noncomputable abbrev IV:Stmt:=top 99
theorem CT:aW ["_law_told_here","_law_xs","_law_ys","_law_total","_law_x","_law_y"] ["_law_told_here","_law_xs","_law_ys"] (aL IV):=bq
noncomputable abbrev IW:Stmt:=top 100
theorem aF7:aW ["_law_told_here","_law_xs","_law_table_here","_law_wide"] ["_law_told_here","_law_xs","_law_table_here","_law_wide"] (aL IW):=bq
noncomputable abbrev IY:Stmt:=top 104
theorem IZ:aW ["_law_told_here","_law_table_here","_law_found","_law_wide","_law_k"] ["_law_told_here","_law_table_here","_law_found"] (aL IY):=bq
noncomputable abbrev I0:Stmt:=top 107
theorem RD:aW ["_law_told_here","_law_checks","_law_places","_law_found","_law_part"] ["_law_told_here","_law_checks","_law_places","_law_found"] (aL I0):=bq
noncomputable abbrev Ja:Stmt:=top 109
theorem RE:aW ["_law_told_here","_law_checks","_law_sets_here","_law_found","_law_due","_law_row"] ["_law_told_here","_law_checks","_law_sets_here","_law_found"] (aL Ja):=bq
noncomputable abbrev Jb:Stmt:=top 92
theorem aJ7:aW ["_law_script","_law_k"] ["_law_script","_law_k"] (aL Jb):=bq
noncomputable abbrev Jc:Stmt:=top 11
theorem RF:aW ["rows","width","taken"] ["rows","width"] (aL Jc):=bq
noncomputable abbrev Jd:Stmt:=fH (top 68) 2
theorem aB2:aW ["self","a","b"] ["self","a","b"] (aL Jd):=bq
noncomputable abbrev Je:Stmt:=fH (top 69) 2
theorem aw3:aW ["self","a","b"] ["self","a","b"] (aL Je):=bq
noncomputable abbrev Jf:Stmt:=top 12
theorem xj:aW ["field","rows","width","taken","found","free","x","lead","row"] ["field","rows","width"] (aL Jf):=bq
noncomputable abbrev Jg:Stmt:=fH (top 44) 0
theorem RG:aW ["self","field","checks","rows"] ["self","field","checks"] (aL Jg):=bq
noncomputable abbrev Jh:Stmt:=top 89
theorem ax4:aW ["many","length","extra","first"] ["many","length","extra","first"] (aL Jh):=bq
noncomputable abbrev p8:Stmt:=fH (top 90) 0
theorem RH:aW ["self","field","length","extra","first","checks"] ["self","field","length","extra","first"] (aL p8):=bq
noncomputable abbrev Ji:Stmt:=top 108
theorem Jj:aW ["_law_told_here","_law_script","_law_field_here","_law_many_here","_law_more"] ["_law_told_here","_law_script","_law_field_here"] (aL Ji):=bq
noncomputable abbrev Jk:Stmt:=fH (top 67) 1
theorem aF8:aW ["self","x"] ["self","x"] (aL Jk):=bq
noncomputable abbrev Jl:Stmt:=top 54
theorem RI:aW ["field","table","width"] ["field","table"] (aL Jl):=bq
noncomputable abbrev Jm:Stmt:=top 10
theorem co2:aW ["field","table"] ["field","table"] (aL Jm):=bq
noncomputable abbrev Jn:Stmt:=top 3
theorem aN7:aW ["table"] ["table"] (aL Jn):=bq
noncomputable abbrev Jo:Stmt:=top 14
theorem aJ8:aW ["column"] ["column"] (aL Jo):=bq
noncomputable abbrev Jp:Stmt:=fH (top 68) 3
theorem aB3:aW ["self","a","b"] ["self","a","b"] (aL Jp):=bq
noncomputable abbrev Jq:Stmt:=fH (top 69) 3
theorem aw4:aW ["self","a","b"] ["self","a","b"] (aL Jq):=bq
noncomputable abbrev Jr:Stmt:=top 16
theorem xk:aW ["field","column","others","place","inverse","found","other","left"] ["field","column","others"] (aL Jr):=bq
noncomputable abbrev Js:Stmt:=top 17
theorem sT:aW ["field","table","width","sets","larger","places","behind","number","column","bigger"] ["field","table"] (aL Js):=bq
noncomputable abbrev Jt:Stmt:=fH (top 55) 0
theorem aB4:aW ["self","field","table"] ["self","field","table"] (aL Jt):=bq
noncomputable abbrev Ju:Stmt:=top 45
theorem RJ:aW ["field","length","less_one"] ["field","length"] (aL Ju):=bq
noncomputable abbrev Jv:Stmt:=fH (top 46) 0
theorem ax5:aW ["self","field","length"] ["self","field","length"] (aL Jv):=bq
noncomputable abbrev Jw:Stmt:=top 101
theorem xm:aW ["_law_told_here","_law_script","_law_begin","_law_rows","_law_wide","_law_way","_law_table_here","_law_i","_law_row"] ["_law_told_here","_law_script","_law_begin","_law_rows","_law_wide","_law_way"] (aL Jw):=bq
noncomputable abbrev Jx:Stmt:=top 105
theorem xn:aW ["_law_told_here","_law_script","_law_field_here","_law_pick","_law_wide","_law_more","_law_many_here"] ["_law_told_here","_law_script","_law_field_here"] (aL Jx):=bq
noncomputable abbrev p9:Stmt:=top 110
theorem vw:aW ["_law_script","_law_told_here","_law_field_here","_law_code_here","_law_sets_here","_law_found"] ["_law_script"] (aL p9):=bq
set_option genInjectivity false in
set_option genSizeOf false in
structure eO where
 RK:Addr
 RL:FuncData
 RM:Addr
 RN:FuncData
 RO:Addr
 RP:FuncData
 RQ:Addr
 RU:FuncData
 zO:Addr
 RV:FuncData
 Jy:Addr
 RW:FuncData
 RX:Addr
 RY:FuncData
 Jz:Addr
 JA:FuncData
 RZ:Addr
 R0:FuncData
 R1:Addr
 R3:FuncData
 R4:Addr
 R5:FuncData
 R6:Addr
 R7:FuncData
 R8:Addr
 R9:FuncData
 JB:Addr
 JC:FuncData
 Sa:Addr
 Sb:FuncData
 zP:Addr
 zQ:FuncData
 Sd:Addr
 Se:FuncData
 Sf:Addr
 Sg:FuncData
 zR:Addr
 Sh:FuncData
 Si:Addr
 Sj:FuncData
 JE:Addr
 Sk:FuncData
 JF:Addr
 Sl:FuncData
 JG:Addr
 Sm:FuncData
 Sn:Addr
 So:FuncData
 Sq:Addr
 Sr:FuncData
 JH:Addr
 Ss:FuncData
 JI:Addr
 Su:FuncData
 JJ:Addr
 Sv:FuncData
 JK:Addr
 Sw:FuncData
 Sx:Addr
 Sy:FuncData
 CU:Addr
 Sz:FuncData
 SA:Addr
 SD:FuncData
 SE:Addr
 SF:FuncData
 SG:Addr
 SH:FuncData
 SI:Addr
 SJ:FuncData
 SK:Addr
 SM:FuncData
 SN:Addr
 SO:FuncData
 SQ:Addr
 SR:FuncData
 SS:Addr
 SU:FuncData
 SV:Addr
 SW:FuncData
 SX:Addr
 SY:FuncData
 S0:Addr
 S1:FuncData
 S2:Addr
 S3:FuncData
 S4:Addr
 S5:FuncData
 S6:Addr
 S7:FuncData
 S8:Addr
 S9:FuncData
 Ta:Addr
 Tc:FuncData
 Td:Addr
 Te:FuncData
 Tf:Addr
 Tg:FuncData
 Th:Addr
 Ti:FuncData
 JL:Addr
 Tj:FuncData
 JM:Addr
 Tn:FuncData
 To:Addr
 Tp:FuncData
 JN:Addr
 Tq:FuncData
 Tr:Addr
 Ts:FuncData
 JO:Addr
 JP:FuncData
 Tt:Addr
 Tu:FuncData
 CV:Addr
 Tv:FuncData
 Tw:Addr
 Tx:FuncData
 Tz:Addr
 TB:FuncData
 TC:Addr
 TF:FuncData
 TH:Addr
 TJ:FuncData
 JQ:Addr
 TK:FuncData
 JR:Addr
 TL:FuncData
 TM:Addr
 TN:FuncData
 TQ:Addr
 TR:FuncData
 JS:Addr
 TU:FuncData
 TV:Addr
 TX:FuncData
 JT:Addr
 TY:FuncData
 TZ:Addr
 T1:FuncData
 T2:Addr
 T3:FuncData
 T4:Addr
 T5:FuncData
 T6:Addr
 iX:Addr
 T7:Addr
 iY:Addr
 aN:Addr
 cC:Addr
 nk:Addr
 kP:Addr
 aQ:Addr
 df:Addr
 bR:Addr
structure Txt(K:Frag)(mg:Str->Option Value)(t:eO):Prop where
 T8:Fk K mg "_law_told" HQ ["_law_cell_here"] t.RK t.RL
 JU:Fk K mg "powers_of" HS ["a","product"] t.RM t.RN
 CW:Fk K mg "step_powers" HU ["many","product"] t.RO t.RP
 CY:Fk K mg "logs_of" HV ["powers"] t.RQ t.RU
 xo:Fm K "step_power" "Field.step_power" HX ["self","n"] t.zO t.RV
 JV:Fm K "__init__" "Field.__init__" HY ["self","many","product"] t.Jy t.RW
 CZ:Fk K mg "makes_prime_field" HZ ["prime"] t.RX t.RY
 T9:Fm K "__init__" "PrimeField.__init__" pZ ["self","prime"] t.Jz t.JA
 C2:Fk K mg "product_rows" Ia ["powers","logs"] t.RZ t.R0
 zS:Fk K mg "bits_divided" Ib ["a","b"] t.R1 t.R3
 Ua:Fk K mg "stands_alone" Ic ["a"] t.R4 t.R5
 C5:Fk K mg "makes_bit_field" Ig ["bits"] t.R6 t.R7
 C6:Fk K mg "bits_times" Ih ["a","b"] t.R8 t.R9
 Ub:Fm K "__init__" "BitField.__init__" p7 ["self","bits"] t.JB t.JC
 C7:Fk K mg "_law_field" Ii ["_law_told_here"] t.Sa t.Sb
 zT:Fk K mg "_law_sets" Ij ["_law_begin","_law_length","_law_many_here"] t.zP t.zQ
 Uc:Fk K mg "refuse_large" Ik ["code"] t.Sd t.Se
 zU:Fk K mg "copied" Il ["table"] t.Sf t.Sg
 C8:Fm K "checks" "Code.checks" Im ["self"] t.zR t.Sh
 Ud:Fk K mg "sets_of" Io ["width","size"] t.Si t.Sj
 Ue:Fm K "distance" "CheckCode.distance" Ip ["self"] t.JE t.Sk
 Ug:Fm K "distance" "RepeatCode.distance" Iq ["self"] t.JF t.Sl
 Uh:Fm K "distance" "RootCode.distance" Ir ["self"] t.JG t.Sm
 sU:Fk K mg "width_of" Iu ["table"] t.Sn t.So
 Ui:Fk K mg "first_with" Iw ["rows","place"] t.Sq t.Sr
 Uj:Fm K "scaled" "BitField.scaled" Iy ["self","a","row"] t.JH t.Ss
 Uk:Fm K "scaled" "PrimeField.scaled" Iz ["self","a","row"] t.JI t.Su
 Ul:Fm K "lessened" "BitField.lessened" IA ["self","row","a","other"] t.JJ t.Sv
 Um:Fm K "lessened" "PrimeField.lessened" IB ["self","row","a","other"] t.JK t.Sw
 JW:Fk K mg "cleared" IC ["field","rows","lead_row","place"] t.Sx t.Sy
 JX:Fm K "over" "Field.over" ID ["self","a","b"] t.CU t.Sz
 xp:Fk K mg "reduced" IE ["field","table"] t.SA t.SD
 C9:Fk K mg "leads" IF ["rows"] t.SE t.SF
 Uo:Fk K mg "unit_row" IG ["width","place"] t.SG t.SH
 Up:Fk K mg "way_back" IH ["field","table"] t.SI t.SJ
 Uq:Fk K mg "picked" II ["table","places"] t.SK t.SM
 JY:Fk K mg "paper" IJ ["code"] t.SN t.SO
 JZ:Fk K mg "_law_whole" IL ["_law_x"] t.SQ t.SR
 Ur:Fk K mg "_law_row_kind" IM ["_law_row","_law_wide","_law_many_here"] t.SS t.SU
 Us:Fk K mg "_law_table_kind" IQ ["_law_table_here","_law_rows","_law_wide","_law_many_here"] t.SV t.SW
 xq:Fk K mg "_law_many" IS ["_law_told_here"] t.SX t.SY
 Ut:Fk K mg "_law_plus" IT ["_law_told_here","_law_a","_law_b"] t.S0 t.S1
 Uu:Fk K mg "_law_times" IU ["_law_told_here","_law_a","_law_b"] t.S2 t.S3
 Uv:Fk K mg "_law_dot" IV ["_law_told_here","_law_xs","_law_ys"] t.S4 t.S5
 J0:Fk K mg "_law_by_row" IW ["_law_told_here","_law_xs","_law_table_here","_law_wide"] t.S6 t.S7
 Uw:Fk K mg "_law_leads_back" IY ["_law_told_here","_law_table_here","_law_found"] t.S8 t.S9
 Ux:Fk K mg "_law_back" I0 ["_law_told_here","_law_checks","_law_places","_law_found"] t.Ta t.Tc
 J1:Fk K mg "_law_holds" Ja ["_law_told_here","_law_checks","_law_sets_here","_law_found"] t.Td t.Te
 sV:Fk K mg "_law_cell" Jb ["_law_script","_law_k"] t.Tf t.Tg
 zV:Fk K mg "free_places" Jc ["rows","width"] t.Th t.Ti
 Uy:Fm K "minus" "BitField.minus" Jd ["self","a","b"] t.JL t.Tj
 Uz:Fm K "minus" "PrimeField.minus" Je ["self","a","b"] t.JM t.Tn
 Dc:Fk K mg "kernel_of_reduced" Jf ["field","rows","width"] t.To t.Tp
 De:Fm K "__init__" "Code.__init__" Jg ["self","field","checks"] t.JN t.Tq
 Df:Fk K mg "makes_root_code" Jh ["many","length","extra","first"] t.Tr t.Ts
 de1:CB K "__init__" "RootCode.__init__" p8 t.JO t.JP
 UA:Binds K t.JP ["self","field","length","extra","first"] []
 Dg:Fk K mg "_law_large" Ji ["_law_told_here","_law_script","_law_field_here"] t.Tt t.Tu
 J2:Fm K "holds" "Field.holds" Jk ["self","x"] t.CV t.Tv
 Dh:Fk K mg "is_small_table" Jl ["field","table"] t.Tw t.Tx
 Di:Fk K mg "rank" Jm ["field","table"] t.Tz t.TB
 UB:Fk K mg "turned" Jn ["table"] t.TC t.TF
 UC:Fk K mg "is_nought" Jo ["column"] t.TH t.TJ
 UD:Fm K "times" "BitField.times" Jp ["self","a","b"] t.JQ t.TK
 UE:Fm K "times" "PrimeField.times" Jq ["self","a","b"] t.JR t.TL
 UG:Fk K mg "past" Jr ["field","column","others"] t.TM t.TN
 Dj:Fk K mg "first_bound" Js ["field","table"] t.TQ t.TR
 UH:Fm K "__init__" "CheckCode.__init__" Jt ["self","field","table"] t.JS t.TU
 Dk:Fk K mg "repeat_checks" Ju ["field","length"] t.TV t.TX
 UI:Fm K "__init__" "RepeatCode.__init__" Jv ["self","field","length"] t.JT t.TY
 UJ:Fk K mg "_law_table" Jw ["_law_told_here","_law_script","_law_begin","_law_rows","_law_wide","_law_way"] t.TZ t.T1
 Dm:Fk K mg "_law_code" Jx ["_law_told_here","_law_script","_law_field_here"] t.T2 t.T3
 de2:Fk K mg "law" p9 ["_law_script"] t.T4 t.T5
 az0:t.JA.code=.ref t.T6
 az1:codeHdIn K t.T6 t.iX=true
 aD3:t.JC.code=.ref t.T7
 aD4:codeHdIn K t.T7 t.iY=true
 fQ:dk K t.aN
 J3:Mk K t.aN t.JB
 J4:br K t.aN "bits"
 xt:br K t.aN "logs"
 vx:br K t.aN "many"
 xu:br K t.aN "powers"
 xv:br K t.aN "products"
 J5:br K t.aN "step"
 J6:br K t.aN "wide"
 J7:Meth K t.aN "holds" t.CV
 at2:Meth K t.aN "lessened" t.JJ
 aB5:Meth K t.aN "minus" t.JL
 J8:Meth K t.aN "over" t.CU
 az2:Meth K t.aN "scaled" t.JH
 zW:Meth K t.aN "step_power" t.zO
 aB6:Meth K t.aN "times" t.JQ
 xw:dk K t.cC
 J9:Mk K t.cC t.JS
 Dn:br K t.cC "bound"
 Dq:br K t.cC "check_rows"
 Dr:br K t.cC "field"
 Ds:br K t.cC "length"
 Ka:br K t.cC "message_places"
 Kb:br K t.cC "size"
 Ke:br K t.cC "word_rows"
 zX:Meth K t.cC "checks" t.zR
 df0:Meth K t.cC "distance" t.JE
 gD:dk K t.aQ
 Kf:Mk K t.aQ t.Jz
 zY:br K t.aQ "logs"
 vy:br K t.aQ "many"
 zZ:br K t.aQ "powers"
 vz:br K t.aQ "prime"
 Kg:br K t.aQ "step"
 Kh:br K t.aQ "wide"
 Ki:Meth K t.aQ "holds" t.CV
 ar7:Meth K t.aQ "lessened" t.JK
 aw5:Meth K t.aQ "minus" t.JM
 Kj:Meth K t.aQ "over" t.CU
 at3:Meth K t.aQ "scaled" t.JI
 z5:Meth K t.aQ "step_power" t.zO
 aw6:Meth K t.aQ "times" t.JR
 Dt:dk K t.df
 Kk:Mk K t.df t.JT
 Du:br K t.df "check_rows"
 Dv:br K t.df "field"
 Dw:br K t.df "length"
 Kl:br K t.df "message_places"
 Km:br K t.df "size"
 Kn:br K t.df "word_rows"
 z7:Meth K t.df "checks" t.zR
 df5:Meth K t.df "distance" t.JF
 vA:dk K t.bR
 Dx:Mk K t.bR t.JO
 Dy:br K t.bR "check_rows"
 Dz:br K t.bR "extra"
 DA:br K t.bR "field"
 Ko:br K t.bR "first"
 DB:br K t.bR "length"
 Kp:br K t.bR "message_places"
 Kq:br K t.bR "size"
 Kr:br K t.bR "word_rows"
 z9:Meth K t.bR "checks" t.zR
 df6:Meth K t.bR "distance" t.JG
 Ks:wQ K t.nk "__init__" t.JN
 UK:wQ K t.kP "__init__" t.Jy
 vB:mg "all"=none
 df7:mg "any"=none
 UL:mg "bool"=none
 xx:mg "enumerate"=none
 Kt:mg "int"=none
 nu:mg "isinstance"=none
 fC:mg "len"=none
 vC:mg "list"=none
 UM:mg "min"=none
 gg:mg "range"=none
 df8:mg "tuple"=none
 Aa:mg "zip"=none
 Ku:mg "BitField"=some (.ref t.aN)
 Kv:mg "CheckCode"=some (.ref t.cC)
 Ab:mg "Code"=some (.ref t.nk)
 DC:mg "Field"=some (.ref t.kP)
 Kw:mg "PrimeField"=some (.ref t.aQ)
 Kx:mg "RepeatCode"=some (.ref t.df)
 DD:mg "RootCode"=some (.ref t.bR)
section
variable{P:Program}{w:World}{K:Frag}{mg:Str->Option Value}{base:Heap}{t:eO}
theorem cr7(T:Txt K mg t)(m:Bool × Nat){Q:D->Prop}(q:Q (.int (aa m))):∃C ns xs v,fD t.aN t.aQ m=.obj C ns xs/\dk K C/\br K C "many"/\(ns.zip xs).lookup ("many":Str)=some v/\Q v:=by
 obtain⟨k,n⟩:=m
 cases k with
 | true=>exact⟨_,_,_,_,rfl,T.fQ,T.vx,rfl,q⟩
 | false=>exact⟨_,_,_,_,rfl,T.gD,T.vy,rfl,q⟩
noncomputable abbrev iA(t:eO)(m:Bool × Nat)(G:List (List Nat))(k:Kd):D:=CC t.aN t.aQ t.cC t.df t.bR m G k
theorem Ky(T:Txt K mg t)(m:Bool × Nat)(G:List (List Nat))(k:Kd){a:Str}{v:D}(n1:br K t.cC a)(n2:br K t.df a)(n3:br K t.bR a)(ha:a∈pV)(h:(pV.zip (nj t.aN t.aQ false m G)).lookup a=some v){Q:D->Prop}(q:Q v):∃C ns xs v,iA t m G k=.obj C ns xs/\dk K C/\br K C a/\(ns.zip xs).lookup a=some v/\Q v:=by
 have ha:a="field"\/a="length"\/a="check_rows"\/a="word_rows"\/a="message_places"\/a="size":=by simpa only[cj,hJ,or_false]using ha
 rcases ha with rfl | rfl | rfl | rfl | rfl | rfl<;>cases k
 all_goals first | exact⟨_,_,_,v,rfl,T.xw,n1,h,q⟩ | exact⟨_,_,_,v,rfl,T.Dt,n2,h,q⟩ | exact⟨_,_,_,v,rfl,T.vA,n3,h,q⟩
theorem b58(T:Txt K mg t)(m:Bool × Nat)(G:List (List Nat))(k:Kd){Q:D->Prop}(q:Q (fD t.aN t.aQ m)):∃C ns xs v,iA t m G k=.obj C ns xs/\dk K C/\br K C "field"/\(ns.zip xs).lookup ("field":Str)=some v/\Q v:=Ky T m G k T.Dr T.Dv T.DA (by decide) rfl q
theorem Ac(T:Txt K mg t)(m:Bool × Nat)(G:List (List Nat))(k:Kd){Q:D->Prop}(q:Q (.int (af G:Nat))):∃C ns xs v,iA t m G k=.obj C ns xs/\dk K C/\br K C "length"/\(ns.zip xs).lookup ("length":Str)=some v/\Q v:=Ky T m G k T.Ds T.Dw T.DB (by decide) rfl q
theorem bT4(T:Txt K mg t)(m:Bool × Nat)(G:List (List Nat))(k:Kd){Q:D->Prop}(q:Q (.lst false (ao false G))):∃C ns xs v,iA t m G k=.obj C ns xs/\dk K C/\br K C "check_rows"/\(ns.zip xs).lookup ("check_rows":Str)=some v/\Q v:=Ky T m G k T.Dq T.Du T.Dy (by decide) rfl q
theorem Kz(T:Txt K mg t){m:Bool × Nat}{G:List (List Nat)}{k:Kd}{me:Str}{n:Nat}{f:Addr}{fd:FuncData}{ps:List Str}{sp:aX}(h1:Meth K t.cC me f)(h2:Meth K t.df me f)(h3:Meth K t.bR me f)(F:aJ P w K mg base aP n f fd ps (aY sp))(b:Binds K fd ps [])(nm:me ∉ (["extra","first","field","length","check_rows","word_rows","message_places","size","bound"]:List Str)){ds:List D}{Q:D->Prop}(q:sp (iA t m G k::ds) Q):∃C ns zs sp,iA t m G k=.obj C ns zs/\jV P w K mg base n me C sp/\me ∉ ns/\sp (.obj C ns zs::ds) Q:=by
 simp only[cj,hJ,or_false,not_or]at nm
 cases k
 ·exact⟨_,_,_,sp,rfl,⟨T.xw,_,_,_,h1,F,b⟩,by simp[nm],q⟩
 ·exact⟨_,_,_,sp,rfl,⟨T.Dt,_,_,_,h2,F,b⟩,by simp[nm],q⟩
 ·exact⟨_,_,_,sp,rfl,⟨T.vA,_,_,_,h3,F,b⟩,by simp[nm],q⟩
noncomputable abbrev aJ9:aX:=λds Q=>∃c:Int,ds=[.int c]/\Q (cB (sE c))
theorem aK0(T:Txt K mg t):aJ P w K mg base aP 1 t.RK t.RL ["_law_cell_here"] (aY (aJ9 )):=by
 refine bw T.T8.F HR (λds Q h=>by obtain⟨c,rfl,q⟩:=h<;>rfl) λaC A outer s H E hr=>⟨_,(aE (bo (i:=1) HR.nd rfl (az rfl) (OW (ns:=[7,11,13,19,25,31,37,41,47,55,59,61,67,73,87,91,97,103,109,115,117]) (by decide +kernel)))
   (aE (bo (i:=2) HR.nd rfl (az rfl) (OW (ns:=[2,3,5,7,11,13,17,19,23,29,31,37,41,43,47,53,59,61]) (by decide +kernel)))
   (aE (cF (bU (fY (cH hr)) (ae (aA dJ (bv 0) (ae au))) (ae au) (bH _)) (aB (aR (yI (eQ g7 (eQ (dq (bB (bv 1) (ae (aA dJ (ae (aA mS (bv 0) (ae au))) (ae au))) (λ_ _=>rfl))) cP))))) cQ)
   (aB (aR (yI (eQ g7 (eQ (dq (bB (bv 2) (ae (aA dJ (ae (aA mS (bv 0) (ae au))) (ae au))) (λ_ _=>rfl))) cP)))))))),λds Q h=>?_⟩
 obtain⟨c,rfl,q⟩:=h
 refine aD λU hU=>?_
 walk_at"l3"
 refine⟨by decide,hU _ ?_⟩
 clear hU U
 refine aD λU hU=>?_
 walk_at"l3"
 refine⟨by decide,hU _ ?_⟩
 clear hU U
 refine aD λU hU=>?_
 walk_at"l3"
 refine⟨by decide,?_⟩
 have n1:=jv (c/2) (show(21:Int)≠0 by decide)
 have n2:=jw (c/2) (show(0:Int)<21 by decide)
 have n3:=jv (c/2) (show(18:Int)≠0 by decide)
 have n4:=jw (c/2) (show(0:Int)<18 by decide)
 split
 ·rename_i hc
  refine⟨mR (by decide) (by decide),by decide,_,mY n1 (by simpa using n2),rfl,by decide,?_⟩
  have e:cB (sE c)=.tup [.bl true,.int (([7,11,13,19,25,31,37,41,47,55,59,61,67,73,87,91,97,103,109,115,117]:List Int).getD (c/2%21).toNat 0)]:=by
   unfold sE cB
   rw[if_pos hc]
   have:∀k:Nat,((iq.getD k 0:Nat):Int)=([7,11,13,19,25,31,37,41,47,55,59,61,67,73,87,91,97,103,109,115,117]:List Int).getD k 0:=λk=>by
    show _=(iq.map (λ(n:Nat)=>(n:Int))).getD k ((0:Nat):Int)
    rw[aM,aM,bO]
    cases iq[k]?<;>rfl
   rw[<-this]
  rw[<-e];exact q
 ·rename_i hc
  refine hU _ ?_
  walk_at"l3"
  refine⟨mR (by decide) (by decide),by decide,_,mY n3 (by simpa using n4),rfl,by decide,?_⟩
  have e:cB (sE c)=.tup [.bl false,.int (([2,3,5,7,11,13,17,19,23,29,31,37,41,43,47,53,59,61]:List Int).getD (c/2%18).toNat 0)]:=by
   unfold sE cB
   rw[if_neg hc]
   have:∀k:Nat,((pj.getD k 0:Nat):Int)=([2,3,5,7,11,13,17,19,23,29,31,37,41,43,47,53,59,61]:List Int).getD k 0:=λk=>by
    show _=(pj.map (λ(n:Nat)=>(n:Int))).getD k ((0:Nat):Int)
    rw[aM,aM,bO]
    cases pj[k]?<;>rfl
   rw[<-this]
  rw[<-e];exact q
noncomputable abbrev aK1(L:Obj->Obj->Addr->Addr->wO->Prop):aX:=λds Q=>∃(a:Nat) (of oc:Obj) (c k:Addr) (g:Nat->Nat->Nat) (l:List Int),ds=[.int a,.bJ (.lam of oc c k)]/\L of oc c k (ze g)/\a<64/\GZ g a=some l/\Q (.lst true (aI l))
theorem UN(T:Txt K mg t):aJ P w K mg base aP 5 t.RM t.RN ["a","product"] (aY (aK1 (yZ P w K mg base 4))):=by
 refine bw T.JU.F CN (λds Q h=>by obtain⟨a,of,oc,c,k,g,l,rfl,hL,ha,hp,q⟩:=h<;>rfl) λaC A outer s H E hr=>⟨_,(aE (bo (i:=2) CN.nd rfl (az rfl) (dD (eQ au cP)))
   (aE (bo (i:=3) CN.nd rfl (az rfl) (Pd (n:=4) (i:=1) rfl (by first | exact az rfl | exact bY (az rfl)) (hr.mono (by decide)) (ah (ae au) (ah (bv 0) ax))))
   (aE (yJ fo (bU (iQ (cH hr)) (bv 3) (ae au) (bH _))
    (aE (uA (i:=2) rfl (by first | exact az rfl | exact bY (az rfl)) (dq (bv 3)))
    (aB (bo (i:=3) CN.nd rfl (az rfl) (Pd (n:=4) (i:=1) rfl (by first | exact az rfl | exact bY (az rfl)) (hr.mono (by decide)) (ah (bv 3) (ah (bv 0) ax)))))))
   (aB (aR (em 2)))))),λds Q h=>?_⟩
 obtain⟨a,of,oc,c,k,g,l,rfl,hL,ha,hp,q⟩:=h
 refine aD λU hU=>?_
 walk_at"l3"
 refine⟨by decide,hU _ ?_⟩
 clear hU U
 refine aD λU hU=>?_
 walk_at"l3"
 refine⟨of,oc,c,k,ze g,rfl,hL,1,a,⟨rfl,rfl⟩,1,a,rfl,rfl,by decide,ha,hU _ ?_⟩
 clear hU U
 refine aD λU hU=>?_
 walk_at"l3"
 refine⟨λm δ=>∃(p:Nat) (acc:List Int),δ=[some (.int a),some (.bJ (.lam of oc c k)),some (.lst true (aI acc)),some (.int p)]/\acc.length+m<=70/\BW g a m p acc=some l,⟨64,_,[1],rfl,by decide,hp⟩,?_⟩
 rintro m δ ⟨p,acc,rfl,hn,hg⟩
 walk_at"l3"
 cases m with
 | zero=>cases hg
 | succ m =>
  unfold BW at hg
  split at hg
  ·rename_i h1
   subst h1
   cases hg
   rw[if_neg (by simp)]
   refine hU _ ?_
   walk_at"l3"
   exact q
  ·rename_i h1
   rw[if_pos (by simp;omega)]
   split at hg
   ·rename_i h2
    clear hU
    refine aD λU hU=>?_
    walk_at"l3"
    refine⟨⟨_,rfl⟩,by omega,hU _ ?_⟩
    clear hU
    walk_at"l3"
    exact⟨of,oc,c,k,ze g,rfl,hL,p,a,⟨rfl,rfl⟩,p,a,rfl,rfl,h2,ha,m,by omega,g p a,acc++[(p:Int)],⟨by rw[<-oS];rfl,rfl⟩,by simp;omega,hg⟩
   ·cases hg
noncomputable abbrev aF9(L:Obj->Obj->Addr->Addr->wO->Prop):aX:=λds Q=>∃(n:Nat) (of oc:Obj) (c k:Addr) (g:Nat->Nat->Nat) (l:List Int),ds=[.int n,.bJ (.lam of oc c k)]/\L of oc c k (ze g)/\zd g n=some l/\Q (.lst true (aI l))
theorem aG0(T:Txt K mg t):aJ P w K mg base aP 6 t.RO t.RP ["many","product"] (aY (aF9 (yZ P w K mg base 4))):=by
 refine bw T.CW.F zN (λds Q h=>by obtain⟨n,of,oc,c,k,g,l,rfl,hL,hp,q⟩:=h<;>rfl) λaC A outer s H E hr=>⟨_,(aE (bo (i:=2) zN.nd rfl (az rfl) au)
   (aE (bo (i:=3) zN.nd rfl (az rfl) (bD T.JU (UN T) hr (ah (bv 2) (ah (bv 1) ax))))
   (aE (yJ fo (bU um (ae (du (fK) (by rfl) T.fC ft (ah (bv 3) ax))) (ae (aA dX (bv 0) (ae au))) (bH _))
    (aE (BB (i:=2) zN.nd rfl (az rfl) (ae au) ct5)
    (aB (bo (i:=3) zN.nd rfl (az rfl) (bD T.JU (UN T) hr (ah (bv 2) (ah (bv 1) ax)))))))
   (aB (aR (em 3)))))),λds Q h=>?_⟩
 obtain⟨n,of,oc,c,k,g,l,rfl,hL,hp,q⟩:=h
 unfold zd at hp
 split at hp
 ·rename_i l0 h0
  refine aD λU hU=>?_
  walk_at"l3"
  refine hU _ ?_
  clear hU U
  refine aD λU hU=>?_
  walk_at"l3"
  refine⟨1,of,oc,c,k,g,l0,rfl,hL,by decide,h0,hU _ ?_⟩
  clear hU U
  refine aD λU hU=>?_
  walk_at"l3"
  refine⟨λm δ=>∃(st:Nat) (l1:List Int),δ=[some (.int n),some (.bJ (.lam of oc c k)),some (.int st),some (.lst true (aI l1))]/\st+m<=63/\BX g n m st l1=some l,⟨62,1,l0,rfl,by decide,hp⟩,?_⟩
  rintro m δ ⟨st,l1,rfl,hn,hg⟩
  walk_at"l3"
  cases m with
  | zero=>cases hg
  | succ m =>
   unfold BX at hg
   split at hg
   ·rename_i h1
    rw[if_pos (by omega)]
    split at hg
    ·rename_i l2 h2
     clear hU
     refine aD λU hU=>?_
     walk_at"l3"
     refine hU _ ?_
     clear hU
     walk_at"l3"
     exact⟨st+1,of,oc,c,k,g,l2,rfl,hL,by omega,h2,m,by omega,st+1,l2,⟨rfl,rfl⟩,by omega,hg⟩
    ·cases hg
   ·rename_i h1
    rw[if_neg (by omega)]
    cases hg
    refine hU _ ?_
    walk_at"l3"
    exact q
 ·cases hp
noncomputable abbrev aM9:aX:=λds Q=>∃(l:List Int),ds=[.lst false (aI l)]/\l.length<=64/\(∀x∈l,0<=x/\x.toNat<=l.length)/\Q (.lst true (aI (eW l)))
theorem aN0(T:Txt K mg t):aJ P w K mg base aP 1 t.RQ t.RU ["powers"] (aY (aM9 )):=by
 refine bw T.CY.F HW (λds Q h=>by obtain⟨l,rfl,hl,hx,q⟩:=h<;>rfl) λaC A outer s H E hr=>⟨_,(aE (bo (i:=1) HW.nd rfl (az rfl) (aA iP (ae (dD (eQ au cP))) (ae (aA dr (ae (du (fK) (by rfl) T.fC ft (ah (bv 0) ax))) (ae au)))))
   (aE (gK fo rfl (wK rfl T.xx (ah (bv 0) ax)) (si (i1:=2) (i2:=3) rfl HW.nd rfl (az rfl) rfl (az rfl))
    (aB (GA (i:=1) rfl (by first | exact az rfl | exact bY (az rfl)) (dq (bv 2)) (bv 3))))
   (aB (aR (em 1))))),λds Q h=>?_⟩
 obtain⟨l,rfl,hl,hx,q⟩:=h
 refine aD λU hU=>?_
 walk_at"l3"
 refine⟨by decide,⟨by omega,by omega,by omega⟩,hU _ ?_⟩
 clear hU U
 refine aD λU hU=>?_
 walk_at"l3"
 refine gJ.mk (λi δ=>∃o1 o2,δ=[some (.lst false (aI l)),some (.lst true (aI (pq l i))),o1,o2]) ⟨none,none,?_⟩ ?_ ?_
 ·rw[show((l.length:Int)+1).toNat=l.length+1 by omega];rfl
 ·rintro i d δ hd ⟨o1,o2,rfl⟩
  obtain⟨hi,rfl⟩:∃h:i<l.length,d=.tup [.int i,.int l[i]]:=by
   unfold gM aI at hd
   rw[vS,bO]at hd
   by_cases hi:i<l.length
   ·rw[aO hi]at hd
    simp at hd
    exact⟨hi,hd.symm⟩
   ·rw[fF (by omega)]at hd;simp at hd
  have cR:=hx l[i] (cT _)
  walk_at"l3"
  refine⟨_,(l[i]).toNat,rfl,?_,_,_,?_,rfl,rfl⟩
  ·unfold jH
   rw[kK,zf,if_pos cR.1,if_pos (by omega)]
  ·unfold aI
   rw[<-List.map_set]
   congr 1
   show _=(pq l i).set (l.getD i 0).toNat (i:Int)
   rw[aM,aO hi];rfl
 ·rintro δ ⟨o1,o2,rfl⟩
  refine hU _ ?_
  simp only[qU,ot,qV,qW,ou,dT,lF,mK,mL,dC,oh,mN,om,oj,oo,qT,mU,rL,oN,rN,rO,qM,qN,qO,qP,qQ,qS,oi,rH,oI,oJ,ii,oE,rk,oG,rl,rm,rn,rp,rq,rz,iI,g8,rA,rB,rC,rD,oH,mT,rF,rG,gN,rP,rJ,qX,qZ,q5,q8,q9,rh,rQ,rR,rS,mO,kG,eR,jm,iN,qp,ql,vU,vV,oq,lH,jN,oK,oM,rY,jR,sj,oV,rZ,ik,jS,u0,u3,cK,i6,ju,nC,fU,vW,bg,tG,tH,i7,i8,tI,exists_eq_left',exists_eq_left,D.bl.injEq,D.int.injEq,D.lst.injEq,D.fz.injEq,D.str.injEq,D.tup.injEq,tJ,and_true,true_and,cL,qv,kT,kS,uB,uC,uD,uE,uF,uG,fW,jK,lU,uK,uL,uM,uN,uO,cV,jL,rT,uH,uI,uJ,fg,n6,vX,vY,qg,jx,vZ,v3,tf,uS,uT,uU,uV,uW,uX,uY,kK,mX,oR,jQ,oS,uQ,rX,uP,oU,uR,lW,rW,if_true,tK,if_false,reduceIte,uZ,decide_eq_true_eq,fu,jo,oW,u5,kL,u4,qY,sq,se,oZ,pd,pf,sA,ve,pH,sF,sH,sI,de,m9,iV,sG,pJ,sN,sO,sP,sQ,wJ]
  exact q
noncomputable abbrev Ad(K:Frag):aX:=λds Q=>∃(C:Addr) (ns:List Str) (xs:List D) (n:Int) (many:Nat) (l:List Int) (r:Int),ds=[.obj C ns xs,.int n]/\dk K C/\br K C "powers"/\br K C "many"/\(ns.zip xs).lookup ("powers":Str)=some (.lst false (aI l))/\(ns.zip xs).lookup ("many":Str)=some (.int many)/\2<=many/\l[(n%((many:Int)-1)).toNat]?=some r/\Q (.int r)
theorem Ae(T:Txt K mg t):aJ P w K mg base aP 1 t.zO t.RV ["self","n"] (aY (Ad K)):=by
 refine bw T.xo.F aw2 (λds Q h=>by obtain⟨C,ns,xs,n,many,l,r,rfl,hC,h1,h2,h3,h4,h5,h6,q⟩:=h<;>rfl) λaC A outer s H E hr=>⟨_,(aB (aR (dq (bB (fL (K:=K) (bv 0)) (ae (aA dJ (bv 1) (ae (aA dX (fL (K:=K) (bv 0)) (ae au))))) (λ_ _=>rfl))))),λds Q h=>?_⟩
 obtain⟨C,ns,xs,n,many,l,r,rfl,hC,h1,h2,h3,h4,h5,h6,q⟩:=h
 walk_at"l3"
 refine⟨C,ns,xs,_,rfl,hC,h1,h3,C,ns,xs,_,rfl,hC,h2,h4,?_⟩
 refine⟨by omega,_,qE (d:=.int r) (jv _ (by omega)) ?_,rfl,q⟩
 unfold aI
 rw[bO,h6];rfl
theorem by8(T:Txt K mg t){m:Bool × Nat}(hm:m∈ay){n:Int}{Q:D->Prop}(q:Q (.int (eS m n:Nat))):P2 P w K mg base 1 t.aN t.aQ m "step_power" [.int n] Q:=by
 have hF:=cI hm
 have hl:=cB1 hm n
 obtain⟨k,b⟩:=m
 cases k with
 | true=>exact⟨_,_,_,Ad K,rfl,⟨T.fQ,_,_,_,T.zW,Ae T,T.xo.b⟩,by decide,_,_,_,_,aa (true,b),fl (true,b),_,rfl,T.fQ,T.xu,T.vx,rfl,rfl,hF.lo,hl,q⟩
 | false=>exact⟨_,_,_,Ad K,rfl,⟨T.gD,_,_,_,T.z5,Ae T,T.xo.b⟩,by decide,_,_,_,_,aa (false,b),fl (false,b),_,rfl,T.gD,T.zZ,T.vy,rfl,rfl,hF.lo,hl,q⟩
noncomputable abbrev aH2(P:Program)(w:World)(K:Frag)(mg:Str->Option Value)(base:Heap)(fs:Addr):Sp:=λvs H Q _=>∃(x dx f C:Addr) (b:Str) (n0:Int) (many:Nat) (of oc:Obj) (c k:Addr) (g:Nat->Nat->Nat) (l:List Int) (st:Int),
 vs=[.ref x,.int many,.ref f]/\H x=some (.ins C dx [(b,.int n0)])/\(∀n∈(["many","wide","powers","logs","step","step_power"]:List Str),b≠n)/\cV9 K C fs/\kE H f of oc c k/\yZ P w K mg base 4 of oc c k (ze g)/\Pz g many l st /\
 ∀H' p1 p2,bM x H H'->H' x=some (.ins C dx ((iT b).zip (BY n0 many p1 p2 st)))->LI H' p1 l->LI H' p2 (eW l)->p1≠p2->H p1=none->H p2=none->Q .av H'
theorem UO(T:Txt K mg t):aJ P w K mg base aP 7 t.Jy t.RW ["self","many","product"] (aH2 P w K mg base t.zO):=by
 refine T.JV.F.ok aG8 (λvs H Q E h=>?_) λaC A outer s H vs Q E hr h=>?_
 ·obtain⟨x,dx,f,C,b,n0,many,of,oc,c,k,g,l,st,rfl,_⟩:=h;rfl
 obtain⟨x,dx,f,C,b,n0,many,of,oc,c,k,g,l,st,rfl,hx,hb,hC,dh1,hL,hF,q⟩:=h
 refine⟨_,eK (ie (pv 0) (pv 1) rfl) (eK (ie (pv 0) (yh E7 (FI (pv 1)) nQ) rfl)
  (eK (ie (pv 0) (jF ((aG0 T).mono (by decide)) hr rfl T.CW.g T.CW.F.kp T.CW.b .nil da (bV (pv 1) (bV (pv 2) eB))) rfl)
  (eK (ie (pv 0) (jF ((aN0 T).mono (by decide)) hr rfl T.CY.g T.CY.F.kp T.CY.b .nil da (bV (tY (pv 0) rfl) eB)) rfl)
  (jC (ie (pv 0) (Y3 (pv 0) hC.cls hC.sp ((Ae T).mono (by decide)) hr T.xo.b .nil da (bV nQ eB)) rfl))))),?_⟩
 try dsimp only[jR,jS]
 have nb:∀n∈(["many","wide","powers","logs","step","step_power"]:List Str),b≠n:=hb
 refine⟨.int many,rfl,.ref x,rfl,x,C,dx,_,rfl,hx,hC.cls,hC.many,nH (bL 1) (by decide),?_⟩
 rw[wU (by simpa using nb "many" (by simp))]
 generalize e1:upd H x (HO.ins C dx ([(b,V.int n0)]++[(("many":Str),V.int many)]))=H1
 have cR:H1 x=some (.ins C dx [(b,V.int n0),(("many":Str),V.int many)]):=by rw[<-e1,bA];rfl
 have s1:bM x H H1:=by rw[<-e1];exact bM.upd (C:=C) (dx:=dx) hx rfl
 have l1:kE H1 f of oc c k:=by rw[<-e1];exact dh1.vb hx
 have n1:∀p,H1 p=none->H p=none:=λp h=>zh hx (by rw[e1];exact h)
 refine⟨_,rfl,rfl,_,rfl,rfl,_,_,rfl,rfl,.ref x,rfl,x,C,dx,_,rfl,cR,hC.cls,hC.wide,nH (bL 2) (by decide),?_⟩
 rw[wU (by simp;exact⟨nb "wide" (by simp),by decide⟩),jy]
 generalize e2:upd H1 x (HO.ins C dx ([(b,V.int n0),(("many":Str),V.int many)]++[(("wide":Str),V.int ((bl many:Nat)-1))]))=H2
 have eC:H2 x=some (.ins C dx [(b,V.int n0),(("many":Str),V.int many),(("wide":Str),V.int ((bl many:Nat)-1))]):=by rw[<-e2,bA];rfl
 have s2:bM x H H2:=by rw[<-e2];exact s1.trans (bM.upd (C:=C) (dx:=dx) cR rfl)
 have l2:kE H2 f of oc c k:=by rw[<-e2];exact l1.vb cR
 have n2:∀p,H2 p=none->H p=none:=λp h=>n1 p (zh cR (by rw[e2];exact h))
 refine⟨_,rfl,_,rfl,H2,[.int many,.bJ (.lam of oc c k)],λd=>d=.lst true (aI l),ag.refl _,.int (.bJ l2 .nil),⟨many,of,oc,c,k,g,l,rfl,hL,hF.step,rfl⟩,λd v F' H3 A' hd hs hf he h3 r nd fr=>?_⟩
 subst hd
 obtain⟨p1,rfl,hp1,Af⟩:=Py r fr
 have fm:=hs.get _ _ eC
 have s3:=s2.trans (hs.x (x:=x))
 refine⟨.ref x,rfl,x,C,dx,_,rfl,fm,hC.cls,hC.G0,nH (bL 3) (by decide),?_⟩
 rw[wU (by simp;exact⟨nb "powers" (by simp),by decide,by decide⟩)]
 generalize e4:upd H3 x (HO.ins C dx ([(b,V.int n0),(("many":Str),V.int many),(("wide":Str),V.int ((bl many:Nat)-1))]++[(("powers":Str),V.ref p1)]))=H4
 have jX:H4 x=some (.ins C dx [(b,V.int n0),(("many":Str),V.int many),(("wide":Str),V.int ((bl many:Nat)-1)),(("powers":Str),V.ref p1)]):=by rw[<-e4,bA];rfl
 have s4:bM x H H4:=by rw[<-e4];exact s3.trans (bM.upd (C:=C) (dx:=dx) fm rfl)
 have p4:LI H4 p1 l:=by rw[<-e4];exact hp1.upd fm (λws z=>by cases z)
 have n4:∀p,H4 p=none->H p=none:=λp h=>n2 p (hs.free (zh fm (by rw[e4];exact h)))
 refine⟨.ref x,rfl,x,C,dx,_,.ref p1,rfl,jX,hC.cls,hC.G0,by rw[BZ (nb "powers" (by simp))];rfl,H4,[.lst false (aI l)],λd=>d=.lst true (aI (eW l)),ag.refl _,.shr p4 (lQ l) .nil,⟨l,rfl,by have:=hF.len;have:=hF.hi;omega,hF.ins,rfl⟩,λd v F' H5 A' hd kQ hf he h3 r nd fr=>?_⟩
 subst hd
 obtain⟨p2,rfl,xf,pX⟩:=Py r fr
 have jt:=kQ.get _ _ jX
 have s5:=s4.trans (kQ.x (x:=x))
 have dh3:p1≠p2:=λz=>by rw[<-z]at pX;unfold LI at p4;rw[pX]at p4;cases p4
 refine⟨.ref x,rfl,x,C,dx,_,rfl,jt,hC.cls,hC.cW0,nH (bL 4) (by decide),?_⟩
 rw[wU (by simp;exact⟨nb "logs" (by simp),by decide,by decide,by decide⟩)]
 generalize e6:upd H5 x (HO.ins C dx ([(b,V.int n0),(("many":Str),V.int many),(("wide":Str),V.int ((bl many:Nat)-1)),(("powers":Str),V.ref p1)]++[(("logs":Str),V.ref p2)]))=H6
 have sW:H6 x=some (.ins C dx (([b,"many","wide","powers","logs"]:List Str).zip [V.int n0,V.int many,V.int ((bl many:Nat)-1),V.ref p1,V.ref p2])):=by rw[<-e6,bA];rfl
 have s6:bM x H H6:=by rw[<-e6];exact s5.trans (bM.upd (C:=C) (dx:=dx) jt rfl)
 have p6:LI H6 p1 l:=by rw[<-e6];exact(p4.same kQ).upd jt (λws z=>by cases z)
 have q6:LI H6 p2 (eW l):=by rw[<-e6];exact xf.upd jt (λws z=>by cases z)
 refine⟨.ref x,rfl,x,dx,_,rfl,sW,by show mi ("step_power":Str) ((b,V.int n0)::_)=none;rw[BZ (nb "step_power" (by simp))];rfl,H6,[.obj C [b,"many","wide","powers","logs"] [.int n0,.int many,.int ((bl many:Nat)-1),.lst false (aI l),.lst false (aI (eW l))],.int 1],λd=>d=.int st,ag.refl _,
  .obj sW rfl (.int (.int (.int (.shr p6 (lQ l) (.shr q6 (lQ _) .nil))))) (.int .nil),⟨C,_,_,1,many,l,st,rfl,hC.cls,hC.G0,hC.many,by show mi ("powers":Str) ((b,D.int n0)::_)=_;rw[BZ (nb "powers" (by simp))];rfl,by show mi ("many":Str) ((b,D.int n0)::_)=_;rw[BZ (nb "many" (by simp))];rfl,hF.lo,hF.st,rfl⟩,λd v F' H7 A' hd qa hf he h3 r nd fr=>?_⟩
 subst hd
 cases r
 have nv:=qa.get _ _ sW
 refine⟨.ref x,rfl,x,C,dx,_,rfl,nv,hC.cls,hC.step,nH (bL 5) (by decide),?_⟩
 rw[wU (by simp;exact⟨nb "step" (by simp),by decide,by decide,by decide,by decide⟩)]
 refine q _ p1 p2 ((s6.trans (qa.x (x:=x))).trans (bM.upd (C:=C) (dx:=dx) nv rfl)) (by rw[bA];rfl) ((p6.same qa).upd nv (λws z=>by cases z)) ((q6.same qa).upd nv (λws z=>by cases z)) dh3 (n2 p1 Af) (n4 p2 pX)
noncomputable abbrev at5:aX:=λds Q=>∃a:Int,ds=[.int a]/\Q (.bl (decide (2<=a)&&decide (a<=61)&&(aF (a.toNat-2)).all λi=>a%(2+(i:Int)) != 0))
theorem at6(T:Txt K mg t):aJ P w K mg base aP 1 t.RX t.RY ["prime"] (aY (at5 )):=by
 refine bw T.CZ.F as9 (λds Q h=>by obtain⟨a,rfl,q⟩:=h<;>rfl) λaC A outer s H E hr=>⟨_,(aB (aR (qR (ae (uu kI kI (ae au) (bv 0) (ae au))) (wc (du (uv rfl) (by rfl) T.vB ue (ah (ae (dy [("prime",0)] ["d"] rfl (wD rfl T.gg (ah (ae au) (ah (bv 0) ax))) (λ_ _ _ _=>(dM (i:=1) (show(["prime","d"]:List Str).Nodup by decide +kernel))) (λ_ _ _ _=>cX) (λ_ _ _ _=>(yH (iQ (cH hr)) (ae (aA dJ (bv 0) (bv 1))) (ae au) (bH _))) rfl)) ax)))))),λds Q h=>?_⟩
 obtain⟨a,rfl,q⟩:=h
 walk_at"l3"
 split
 ·rename_i h1
  split
  ·rename_i h2
   refine⟨2,a,⟨rfl,rfl⟩,⟨by decide,by decide,by omega,by omega⟩,?_⟩
   have e0:(a-2).toNat=a.toNat-2:=by omega
   rw[e0]
   refine dE (aF (a.toNat-2)) (λ(k:Nat)=>D.int (2+(k:Int))) (λ(k:Nat)=>D.bl (a%(2+(k:Int)) != 0)) (by rw[yL]) (λx y h=>by injection h with h;omega) (λk hk=>?_) (.inr λ_ _=>rfl) (by rw[bS,sL];omega) ?_
   ·walk_at"l3"
    refine⟨by omega,?_⟩
    by_cases z:a%(2+(k:Int))=0<;>simp[z]
   ·refine⟨(aF (a.toNat-2)).map λ(k:Nat)=>a%(2+(k:Int)) != 0,?_,?_⟩
    ·unfold lN;rw[bP];rfl
    ·have e:(decide (2<=a)&&decide (a<=61)&&(aF (a.toNat-2)).all λi=>a%(2+(i:Int)) != 0)=((aF (a.toNat-2)).map λ(k:Nat)=>a%(2+(k:Int)) != 0).all id:=by
      simp[h1,h2,qu]
     rw[<-e];exact q
  ·rename_i h2
   have e:(decide (2<=a)&&decide (a<=61)&&(aF (a.toNat-2)).all λi=>a%(2+(i:Int)) != 0)=false:=by simp[h2]
   rw[e]at q;exact q
 ·rename_i h1
  have e:(decide (2<=a)&&decide (a<=61)&&(aF (a.toNat-2)).all λi=>a%(2+(i:Int)) != 0)=false:=by simp[h1]
  rw[e]at q;exact q
noncomputable abbrev aG1:List D->List Str->List D->Prop:=λds ns xs=>∃p:Nat,ds=[.int p]/\p∈pj/\ns=iT "prime"/\xs=[.int p,.int p,.int ((bl p:Nat)-1),.lst true (aI (fl (false,p))),.lst true (aI (eW (fl (false,p)))),.int (fst (false,p))]
theorem az4(T:Txt K mg t)(hB:Bm mg base):aJ P w K mg base aP 8 t.Jz t.JA ["self","prime"] (GY [t.iX,t.iY] t.aQ aG1):=by
 refine Pu T.T9.F T.az0 aw9 (λvs H Q E h=>?_) λA outer s H vs Q E hr h=>?_
 ·obtain⟨x,dx,bW,ds,ns,xs,rfl,_,_,r,⟨p,rfl,_⟩,_⟩:=h
  have:=r.length
  simp at this
  simp[this]
 obtain⟨x,dx,bW,ds,ns,xs,rfl,tb,hx,r,⟨p,rfl,hp,rfl,rfl⟩,q⟩:=h
 obtain rfl:bW=[.int p]:=by
  cases r with
  | int r=>cases r;rfl
 have hm:(false,p)∈ay:=cY _ (AO hp)
 have hF:=cI hm
 refine⟨_,eK (tQ (Ba (A6 (jF ((at6 T).mono (by decide)) hr rfl T.CZ.g T.CZ.F.kp T.CZ.b .nil da (bV (pv 1) eB)))) (jC tR) tP)
  (eK (ie (pv 0) (pv 1) rfl)
  (jC (mC (Pn (E:=E0) (i:=1) T.UK ((UO T).mono (by decide)) hr T.JV.b rfl T.DC rfl rfl rfl rfl (bV (pv 0) (bV (pv 1) (bV (Pe rfl rfl T.az1 hB) eB))))))),?_⟩
 try dsimp only[jR,jS]
 refine⟨_,rfl,H,[.int p],λd=>d=.bl true,ag.refl _,.int .nil,⟨p,rfl,by rw[b80 p hp]⟩,λd v F' H1 A1 hd eE hf he h3 r nd fr=>?_⟩
 subst hd
 cases r
 refine⟨true,rfl,?_⟩
 refine ji ?_
 have cR:=eE.get _ _ hx
 refine⟨.int p,rfl,.ref x,rfl,x,t.aQ,dx,_,rfl,cR,T.gD,T.vz,by decide,?_⟩
 generalize e2:upd H1 x (HO.ins t.aQ dx (bC "prime" (.int p) []))=H2
 have eC:H2 x=some (.ins t.aQ dx [(("prime":Str),.int p)]):=by rw[<-e2,bA];rfl
 have s2:bM x H H2:=by rw[<-e2];exact(eE.x (x:=x)).trans (bM.upd (C:=x) (dx:=dx) cR rfl)
 have n2:∀p,H2 p=none->H p=none:=λp h=>eE.free (zh cR (by rw[e2];exact h))
 obtain⟨ps,hP⟩:=tb t.iX (by simp)
 obtain⟨more,KA⟩:=s2.tb _ ps hP
 refine⟨.ref x,rfl,.int p,rfl,⟨_,KA⟩,λf k qn pm jU H3 nf Ag hk kf iB hl3=>?_⟩
 refine⟨f,_,_,.int p,Ag,rfl,rfl,λoc u jB hu nc su=>?_⟩
 obtain⟨tm,rfl⟩:∃tm,u=sY p tm:=hu
 have fm:=iB.get _ _ eC
 refine⟨x,dx,f,t.aQ,"prime",p,p,_,oc,_,k,gm (false,p),fl (false,p),fst (false,p),rfl,zi fm (λz=>by rw[z,nf]at eC;cases eC) nc,by decide,⟨T.gD,T.vy,T.Kh,T.zZ,T.zY,T.Kg,T.z5⟩,PC su nc hk kf,?_,hF,λH' p1 p2 sx cU KC yp ne Af pX=>?_⟩
 ·refine Pt (n:=3) ⟨rfl,rfl,rfl,by decide,rfl,rfl,by decide,by decide,rfl⟩ jB (λu1 u2=>rfl) λq f A outer s H E hr=>?_
  refine⟨_,aA dJ (ae (aA iP (bv 0) (bv 1))) (bv 2),λi j Qd h=>?_⟩
  obtain⟨a,b,rfl,rfl,ha,hb,hq⟩:=h
  walk_at"l3"
  have hp0:2<=p:=hF.lo
  refine⟨j4.ok (.inr ⟨by omega,by omega⟩),by omega,?_⟩
  have e:((gm (false,p) a b:Nat):Int)=(a:Int)*b%p:=by
   show((a*b%p:Nat):Int)=_
   rw[tF,xW]
  rw[<-e];exact hq
 ·have gf:H' f=some (.ext (j7 _ oc _ f)):=sx.get f _ (λz=>by rw[z]at nf;rw[nf]at eC;cases eC) (by rw[aV su.symm,bA]) rfl
  have gc:=sx.get _ _ (dU fm nc).symm bA rfl
  refine⟨gf,gc,?_⟩
  refine q _ (BY p p p1 p2 (fst (false,p))) [p1,p2] (s2.trans (PB iB nf nc sx)) ?_ rfl ?_ (by simp[ne]) (λa ha=>?_)
  ·rw[iS (λz=>by rw[z,gf]at cU;cases cU) (λz=>by rw[z,gc]at cU;cases cU)];exact cU
  ·exact .int (.int (.int (.own (KC.rem gf gc) rfl (lQ _) (.own (yp.rem gf gc) rfl (lQ _) (.int .nil)))))
  ·simp at ha
   rcases ha with rfl | rfl
   ·exact n2 _ (B0 iB Af)
   ·exact n2 _ (B0 iB pX)
noncomputable abbrev aE8:aX:=λds Q=>∃(l g:List Int),ds=[.lst false (aI l),.lst false (aI g)]/\1<=l.length/\l.length<=63/\g.length=l.length+1/\(∀x∈g,0<=x)/\Q (.lst true (sD l g))
theorem aE9(T:Txt K mg t):aJ P w K mg base aP 1 t.RZ t.R0 ["powers","logs"] (aY (aE8 )):=by
 refine bw T.C2.F CO (λds Q h=>by obtain⟨l,g,rfl,h1,h2,h3,h4,q⟩:=h<;>rfl) λaC A outer s H E hr=>⟨_,(aE (bo (i:=2) CO.nd rfl (bY rfl) (aA dr (ae (du (fK) (by rfl) T.fC ft (ah (bv 0) ax))) (ae au)))
   (aE (bo (i:=3) CO.nd rfl (az rfl) (dD (eQ (aA iP (ae (dD (eQ au cP))) (bv 2)) cP)))
   (aE (gK fo rfl (wD rfl T.gg (ah (ae au) (ah (bv 2) ax))) (jl (i:=4) CO.nd rfl (bY rfl))
    (aB (uA (i:=3) rfl (by first | exact az rfl | exact bY (az rfl)) (aA dr (ae (dD (eQ au cP))) (ae (dy [("powers",0),("many",2),("logs",1),("a",4)] ["b"] rfl (wD rfl T.gg (ah (ae au) (ah (bv 2) ax))) (λ_ _ _ _=>(dM (i:=4) (show(["powers","many","logs","a","b"]:List Str).Nodup by decide +kernel))) (λ_ _ _ _=>cX) (λ_ _ _ _=>(dq (bB (bv 0) (ae (aA dJ (ae (aA dr (bB (bv 2) (bv 3) (λ_ _=>rfl)) (bB (bv 2) (bv 4) (λ_ _=>rfl)))) (ae (aA dX (bv 1) (ae au))))) (λ_ _=>rfl)))) rfl))))))
   (aB (aR (em 3)))))),λds Q h=>?_⟩
 obtain⟨l,g,rfl,h1,h2,h3,h4,q⟩:=h
 refine aD λU hU=>?_
 walk_at"l3"
 refine hU _ ?_
 clear hU U
 refine aD λU hU=>?_
 walk_at"l3"
 refine⟨by decide,⟨by omega,by omega,by omega⟩,by decide,hU _ ?_⟩
 clear hU U
 refine aD λU hU=>?_
 walk_at"l3"
 refine⟨1,(l.length:Int)+1,⟨rfl,rfl⟩,⟨by decide,by decide,by omega,by omega⟩,?_⟩
 have en:((l.length:Int)+1-1).toNat=l.length:=by omega
 rw[en]
 refine gJ.mk (λi δ=>∃o,δ=[some (.lst false (aI l)),some (.lst false (aI g)),some (.int ((l.length:Int)+1)),some (.lst true (wR l g (i+1))),o]) ⟨none,?_⟩ ?_ ?_
 ·rw[show((l.length:Int)+1).toNat=l.length+1 by omega];rfl
 ·rintro i d δ hd ⟨o,rfl⟩
  obtain⟨hi,rfl⟩:i<l.length/\d=.int (1+(i:Int)):=by
   rw[bO]at hd
   by_cases hi:i<l.length
   ·rw[hW hi]at hd
    exact⟨hi,(dh hd).symm⟩
   ·rw[fF (by simpa using hi)]at hd;cases hd
  walk_at"l3"
  refine⟨⟨_,rfl⟩,by decide,1,(l.length:Int)+1,⟨rfl,rfl⟩,⟨by decide,by decide,by omega,by omega⟩,?_⟩
  rw[en]
  refine dE (aF l.length) (λ(k:Nat)=>D.int (1+(k:Int))) (λ(k:Nat)=>D.int (l.getD ((g.getD (i+1) 0+g.getD (k+1) 0)%(l.length:Int)).toNat 0)) (by rw[yL]) (λx y h=>by injection h with h;omega) (λk hk=>?_) (.inr λ_ _=>rfl) (by rw[bS,sL];omega) ?_
  ·have pM:=cA.mp hk
   walk_at"l3"
   have e1:(1+(i:Int)).toNat=i+1:=by omega
   have e2:(1+(k:Int)).toNat=k+1:=by omega
   have e3:(l.length:Int)+1-1=l.length:=by omega
   have n0:=jv (g.getD (i+1) 0+g.getD (k+1) 0) (show(l.length:Int)≠0 by omega)
   have n1:=jw (g.getD (i+1) 0+g.getD (k+1) 0) (show(0:Int)<l.length by omega)
   refine⟨_,mY (by omega) (by omega),_,mY (by omega) (by omega),?_⟩
   rw[e1,e2,e3]
   exact⟨by omega,_,mY n0 n1,rfl,rfl⟩
  ·walk_at"l3"
   refine⟨⟨by simp;omega,by rw[qu,dG];intro x _;rfl⟩,by simp[wR];omega,_,?_,rfl⟩
   unfold wR
   rw[MC (n:=i+1),eo]
   congr 1
   show _=[D.lst true (aI (sC l g (i+1)))]
   unfold sC
   rw[if_neg (by omega)]
   unfold aI
   rw[cK,bP];rfl
 ·rintro δ ⟨o,rfl⟩
  refine hU _ ?_
  simp only[qU,ot,qV,qW,ou,dT,lF,mK,mL,dC,oh,mN,om,oj,oo,qT,mU,rL,oN,rN,rO,qM,qN,qO,qP,qQ,qS,oi,rH,oI,oJ,ii,oE,rk,oG,rl,rm,rn,rp,rq,rz,iI,g8,rA,rB,rC,rD,oH,mT,rF,rG,gN,rP,rJ,qX,qZ,q5,q8,q9,rh,rQ,rR,rS,mO,kG,eR,jm,iN,qp,ql,vU,vV,oq,lH,jN,oK,oM,rY,jR,sj,oV,rZ,ik,jS,u0,u3,cK,i6,ju,nC,fU,vW,bg,tG,tH,i7,i8,tI,exists_eq_left',exists_eq_left,D.bl.injEq,D.int.injEq,D.lst.injEq,D.fz.injEq,D.str.injEq,D.tup.injEq,tJ,and_true,true_and,cL,qv,kT,kS,uB,uC,uD,uE,uF,uG,fW,jK,lU,uK,uL,uM,uN,uO,cV,jL,rT,uH,uI,uJ,fg,n6,vX,vY,qg,jx,vZ,v3,tf,uS,uT,uU,uV,uW,uX,uY,kK,mX,oR,jQ,oS,uQ,rX,uP,oU,uR,lW,rW,if_true,tK,if_false,reduceIte,uZ,decide_eq_true_eq,fu,jo,oW,u5,kL,u4,qY,sq,se,oZ,pd,pf,sA,ve,pH,sF,sH,sI,de,m9,iV,sG,pJ,sN,sO,sP,sQ,bt,bS]
  exact q
noncomputable abbrev aF0(t:eO):aX:=λds Q=>∃a b:Nat,ds=[.int a,.int b]/\bl a<=1000000/\bl b<=1000000/\(b=0->False)/\(b≠0->∀q r:Nat,a=cl q b ^^^ r->bl r<bl b->Q (.tup [.int q,.int r]))
theorem UP(T:Txt K mg t):aJ P w K mg base aP 1 t.R1 t.R3 ["a","b"] (aY (aF0 t)):=by
 refine bw T.zS.F xh (λds Q h=>by obtain⟨a,b,rfl,ha,hb,qx,q⟩:=h<;>rfl) λaC A outer s H E hr=>⟨_,(aE (cF (bU (fY (cH hr)) (bv 1) (ae au) (bH _)) (aB Ge) cQ)
   (aE (bo (i:=2) xh.nd rfl (az rfl) au)
   (aE (bo (i:=3) xh.nd rfl (az rfl) (em 0))
   (aE (yJ fo (bU cH9 (ae (oQ (bv 3))) (ae (oQ (bv 1))) (bH _))
    (aE (bo (i:=4) xh.nd rfl (az rfl) (aA dX (ae (oQ (bv 3))) (ae (oQ (bv 1)))))
    (aE (BB (i:=2) xh.nd rfl (az rfl) (ae (aA wH (ae au) (bv 4))) Gp)
    (aB (BB (i:=3) xh.nd rfl (az rfl) (ae (aA wH (bv 1) (bv 4))) Gp)))))
   (aB (aR (yI (eQ (em 2) (eQ (em 3) cP))))))))),λds Q h=>?_⟩
 obtain⟨a,b,rfl,ha,hb,qx,q⟩:=h
 refine aD λU hU=>?_
 walk_at"l3"
 split
 ·rename_i h0
  exact qx (by omega)
 ·rename_i h0
  have b0:b≠0:=by omega
  refine hU _ ?_
  clear hU U
  refine aD λU hU=>?_
  walk_at"l3"
  refine hU _ ?_
  clear hU U
  refine aD λU hU=>?_
  walk_at"l3"
  refine hU _ ?_
  clear hU U
  refine aD λU hU=>?_
  walk_at"l3"
  refine⟨λm δ=>∃(x r:Nat) (o sh:Option D),δ=[o,some (.int b),some (.int (x:Nat)),some (.int (r:Nat)),sh]/\a=cl x b ^^^ r/\bl r<=bl a/\m=bl r,
   ⟨bl a,0,a,_,none,rfl,by rw[qG,qo],bL _,rfl⟩,?_⟩
  rintro m δ ⟨x,r,o,sh,rfl,inv,hra,rfl⟩
  simp only[qU,ot,qV,qW,ou,dT,lF,mK,mL,dC,oh,mN,om,oj,oo,qT,mU,rL,oN,rN,rO,qM,qN,qO,qP,qQ,qS,oi,rH,oI,oJ,ii,oE,rk,oG,rl,rm,rn,rp,rq,rz,iI,g8,rA,rB,rC,rD,oH,mT,rF,rG,gN,rP,rJ,qX,qZ,q5,q8,q9,rh,rQ,rR,rS,mO,kG,eR,jm,iN,qp,ql,vU,vV,oq,lH,jN,oK,oM,rY,jR,sj,oV,rZ,ik,jS,u0,u3,cK,i6,ju,nC,fU,vW,bg,tG,tH,i7,i8,tI,exists_eq_left',exists_eq_left,D.bl.injEq,D.int.injEq,D.lst.injEq,D.fz.injEq,D.str.injEq,D.tup.injEq,tJ,and_true,true_and,cL,qv,kT,kS,uB,uC,uD,uE,uF,uG,fW,jK,lU,uK,uL,uM,uN,uO,cV,jL,rT,uH,uI,uJ,fg,n6,vX,vY,qg,jx,vZ,v3,tf,uS,uT,uU,uV,uW,uX,uY,kK,mX,oR,jQ,oS,uQ,rX,uP,oU,uR,lW,rW,if_true,tK,if_false,reduceIte,uZ,decide_eq_true_eq,fu,jo,oW,u5,kL,u4,qY,sq,se,oZ,pd,pf,sA,ve,pH,sF,sH,sI,de,m9,iV,sG,pJ,sN,sO,sP,sQ,jy]
  split
  ·rename_i hc
   have hle:bl b<=bl r:=by omega
   have less:=N0 b0 hle
   have es:(((bl r:Nat):Int)-((bl b:Nat):Int))=((bl r-bl b:Nat):Int):=by omega
   clear hU
   refine aD λU hU=>?_
   walk_at"l3"
   simp only[jy,es]
   refine hU _ ?_
   clear hU
   refine aD λU hU=>?_
   walk_at"l3"
   have o1:bl (1:Int).natAbs=1:=by decide
   refine⟨⟨by omega,by omega⟩,hU _ ?_⟩
   clear hU
   simp only[qU,ot,qV,qW,ou,dT,lF,mK,mL,dC,oh,mN,om,oj,oo,qT,mU,rL,oN,rN,rO,qM,qN,qO,qP,qQ,qS,oi,rH,oI,oJ,ii,oE,rk,oG,rl,rm,rn,rp,rq,rz,iI,g8,rA,rB,rC,rD,oH,mT,rF,rG,gN,rP,rJ,qX,qZ,q5,q8,q9,rh,rQ,rR,rS,mO,kG,eR,jm,iN,qp,ql,vU,vV,oq,lH,jN,oK,oM,rY,jR,sj,oV,rZ,ik,jS,u0,u3,cK,i6,ju,nC,fU,vW,bg,tG,tH,i7,i8,tI,exists_eq_left',exists_eq_left,D.bl.injEq,D.int.injEq,D.lst.injEq,D.fz.injEq,D.str.injEq,D.tup.injEq,tJ,and_true,true_and,cL,qv,kT,kS,uB,uC,uD,uE,uF,uG,fW,jK,lU,uK,uL,uM,uN,uO,cV,jL,rT,uH,uI,uJ,fg,n6,vX,vY,qg,jx,vZ,v3,tf,uS,uT,uU,uV,uW,uX,uY,kK,mX,oR,jQ,oS,uQ,rX,uP,oU,uR,lW,rW,if_true,tK,if_false,reduceIte,uZ,decide_eq_true_eq,fu,jo,oW,u5,kL,u4,qY,sq,se,oZ,pd,pf,sA,ve,pH,sF,sH,sI,de,m9,iV,sG,pJ,sN,sO,sP,sQ,jy]
   refine⟨⟨by omega,by rw[jy];omega⟩,_,less,x ^^^ 2 ^ (bl r-bl b),r ^^^ b <<< (bl r-bl b),o,_,⟨rfl,?_,?_,rfl⟩,ZV inv,by omega,rfl⟩
   ·rw[show(1:Int)=((1:Nat):Int) from rfl,wo,qH,EI]
   ·rw[wo,qH]
  ·rename_i hc
   refine hU _ ?_
   walk_at"l3"
   refine⟨by decide,q b0 x r inv (by omega)⟩
noncomputable abbrev aF1:aX:=λds Q=>∃a:Nat,ds=[.int a]/\bl a<=60/\Q (.bl (al a))
theorem aF2(T:Txt K mg t):aJ P w K mg base aP 2 t.R4 t.R5 ["a"] (aY (aF1 )):=by
 refine bw T.Ua.F Ie (λds Q h=>by obtain⟨a,rfl,ha,q⟩:=h<;>rfl) λaC A outer s H E hr=>⟨_,(aE (cF (bU um (bv 0) (ae au) (bH _)) (aB (aR g7)) cQ)
   (aE (bo (i:=1) Ie.nd rfl (az rfl) (aA mS (ae (aA dX (ae (oQ (bv 0))) (ae au))) (ae au)))
   (aE (gK fo rfl (wD rfl T.gg (ah (ae au) (ah (ae (aA wH (ae au) (ae (aA dr (bv 1) (ae au))))) ax))) (jl (i:=2) Ie.nd rfl (az rfl))
    (aB (cF (bU (fY (cH hr)) (bB (ae (bD T.zS (UP T) hr (ah (bv 0) (ah (bv 2) ax)))) (ae au) (λ_ _=>rfl)) (ae au) (bH _)) (aB (aR g7)) cQ)))
   (aB (aR g7))))),λds Q h=>?_⟩
 obtain⟨a,rfl,ha,q⟩:=h
 refine aD λU hU=>?_
 walk_at"l3"
 split
 ·rename_i h2
  rw[Z7 (by omega)]at q;exact q
 ·rename_i h2
  have h2:2<=a:=by omega
  have hp:=iG (show a≠0 by omega)
  refine hU _ ?_
  clear hU U
  refine aD λU hU=>?_
  walk_at"l3"
  simp only[jy]
  refine⟨mR (by omega) (by omega),hU _ ?_⟩
  clear hU U
  have eh:((((bl a:Nat):Int)-1)/2+1)=(((bl a-1)/2+1:Nat):Int):=by omega
  have e1:(1:Int)*2 ^ ((((bl a:Nat):Int)-1)/2+1).toNat=((2 ^ ((bl a-1)/2+1):Nat):Int):=by
   rw[eh,show(1:Int)=((1:Nat):Int) from rfl,wo,EI]
  have big:2 ^ ((bl a-1)/2+1)<=2 ^ 40:=nG (by decide) (by omega)
  have o1:bl (1:Int).natAbs=1:=by decide
  refine aD λU hU=>?_
  walk_at"l3"
  rw[e1]
  have dX1:((2 ^ ((bl a-1)/2+1):Nat):Int)<=2 ^ 40:=by exact_mod_cast big
  have nn:(0:Int)<=((2 ^ ((bl a-1)/2+1):Nat):Int):=Md _
  refine⟨⟨by omega,by omega⟩,_,_,⟨rfl,rfl⟩,⟨by decide,by decide,by omega,by omega⟩,?_⟩
  have en:(((2 ^ ((bl a-1)/2+1):Nat):Int)-2).toNat=2 ^ ((bl a-1)/2+1)-2:=by omega
  rw[en]
  refine gJ.mk (λi δ=>(∃o1 o2,δ=[some (.int a),o1,o2])/\∀j,j<i->md a (2+j)≠0) ⟨⟨_,_,rfl⟩,λj hj=>absurd hj (by omega)⟩ ?_ ?_
  ·rintro i d δ hd ⟨⟨o1,o2,rfl⟩,inv⟩
   obtain⟨hi,rfl⟩:i<2 ^ ((bl a-1)/2+1)-2/\d=.int (2+(i:Int)):=by
    rw[bO]at hd
    by_cases hi:i<2 ^ ((bl a-1)/2+1)-2
    ·rw[hW hi]at hd
     exact⟨hi,(dh hd).symm⟩
    ·rw[fF (by simpa using hi)]at hd;cases hd
   have bi:bl (2+i)<=60:=by
    have:=(γ h2 (show 2+i<2 ^ ((bl a-1)/2+1) by omega)).2
    omega
   walk_at"l3"
   refine⟨a,2+i,by rw[show((2+i:Nat):Int)=2+(i:Int) by omega],by omega,by omega,by omega,λ_ x r e l=>?_⟩
   have em:md a (2+i)=r:=yx e l
   refine⟨.int r,rfl,rfl,?_⟩
   rw[lW]
   split
   ·rename_i hz
    have r0:r=0:=by have:=of_decide_eq_true hz;omega
    rw[Z9 hi (em.trans r0)]at q
    exact q
   ·rename_i hz
    refine⟨⟨_,_,rfl,rfl⟩,λj hj=>?_⟩
    by_cases ej:j=i
    ·rw[ej,em]
     intro r0
     exact hz (decide_eq_true (by omega))
    ·exact inv j (by omega)
  ·rintro δ ⟨⟨o1,o2,rfl⟩,inv⟩
   rw[bt,bS]at inv
   rw[Z8 h2 inv]at q
   refine hU _ ?_
   walk_at"l3"
   exact q
noncomputable abbrev az5:aX:=λds Q=>∃a:Int,ds=[.int a]/\Q (.bl (decide (4<=a)&&decide (a<=127)&&al a.toNat))
theorem az6(T:Txt K mg t):aJ P w K mg base aP 3 t.R6 t.R7 ["bits"] (aY (az5 )):=by
 refine bw T.C5.F ax0 (λds Q h=>by obtain⟨a,rfl,q⟩:=h<;>rfl) λaC A outer s H E hr=>⟨_,(aB (aR (qR (ae (uu kI kI (ae au) (bv 0) (ae au))) (wc (bD T.Ua (aF2 T) hr (ah (bv 0) ax)))))),λds Q h=>?_⟩
 obtain⟨a,rfl,q⟩:=h
 walk_at"l3"
 split
 ·rename_i h1
  split
  ·rename_i h2
   refine⟨a.toNat,by rw[AN (by omega)],?_,?_⟩
   ·have:bl a.toNat<=bl 127:=FG (by omega)
    exact fE this (by decide)
   ·have e:(decide (4<=a)&&decide (a<=127)&&al a.toNat)=al a.toNat:=by simp[h1,h2]
    rw[e]at q;exact q
  ·rename_i h2
   have e:(decide (4<=a)&&decide (a<=127)&&al a.toNat)=false:=by simp[h2]
   rw[e]at q;exact q
 ·rename_i h1
  have e:(decide (4<=a)&&decide (a<=127)&&al a.toNat)=false:=by simp[h1]
  rw[e]at q;exact q
noncomputable abbrev aH3:aX:=λds Q=>∃a b:Nat,ds=[.int a,.int b]/\bl a<=1000/\bl b<=1000/\Q (.int (cl a b:Nat))
theorem aH4(T:Txt K mg t):aJ P w K mg base aP 1 t.R8 t.R9 ["a","b"] (aY (aH3 )):=by
 refine bw T.C6.F CP (λds Q h=>by obtain⟨a,b,rfl,ha,hb,q⟩:=h<;>rfl) λaC A outer s H E hr=>⟨_,(aE (bo (i:=2) CP.nd rfl (az rfl) au)
   (aE (gK fo rfl (jO rfl T.gg (ah (ae (oQ (bv 1))) ax)) (jl (i:=3) CP.nd rfl (az rfl))
    (aB (cF (bU (fY (cH hr)) (ae (aA OB (ae (aA OA (bv 1) (bv 3))) (ae au))) (ae au) (bH _)) (aB (BB (i:=2) CP.nd rfl (az rfl) (ae (aA wH (bv 0) (bv 3))) Gp)) cQ)))
   (aB (aR (em 2))))),λds Q h=>?_⟩
 obtain⟨a,b,rfl,ha,hb,q⟩:=h
 refine aD λU hU=>?_
 walk_at"l3"
 refine hU _ ?_
 clear hU U
 refine aD λU hU=>?_
 walk_at"l3"
 simp only[jy]
 refine⟨⟨by omega,by omega⟩,yV (λi δ=>∃o,δ=[some (.int a),some (.int b),some (.int (Mf.P a b i:Nat)),o]) ⟨none,rfl⟩ ?_ ?_⟩
 ·rintro i δ hi ⟨o,rfl⟩
  walk_at"l3"
  refine⟨by omega,?_⟩
  have DE:(qh ((b:Int)/2 ^ ((i:Int)).toNat) 1=1)↔b.testBit i=true:=by
   have h:=ο b i
   rw[Mt]at h
   rw[<-h,dI]
  split
  ·rename_i hc
   have h:=π (a:=a) (DE.mp hc)
   rw[Mt]at h
   exact⟨⟨by omega,by rw[jy];omega⟩,_,h,rfl⟩
  ·rename_i hc
   exact⟨_,by rw[ρ (λz=>hc (DE.mpr z))],rfl⟩
 ·rintro δ ⟨o,rfl⟩
  refine hU _ ?_
  walk_at"l3"
  exact q
noncomputable abbrev aK2:List D->List Str->List D->Prop:=λds ns xs=>∃p:Nat,ds=[.int p]/\p∈iq/\ns=iT "bits"++[("products":Str)]/\xs=[.int p,.int (aa (true,p)),.int ((bl (aa (true,p)):Nat)-1),.lst true (aI (fl (true,p))),.lst true (aI (eW (fl (true,p)))),.int (fst (true,p)),.lst true (sD (fl (true,p)) (eW (fl (true,p))))]
theorem aD5(T:Txt K mg t)(hB:Bm mg base):aJ P w K mg base aP 8 t.JB t.JC ["self","bits"] (GY [t.iX,t.iY] t.aN aK2):=by
 refine Pu T.Ub.F T.aD3 Rx (λvs H Q E h=>?_) λA outer s H vs Q E hr h=>?_
 ·obtain⟨x,dx,bW,ds,ns,xs,rfl,_,_,r,⟨p,rfl,_⟩,_⟩:=h
  have:=r.length
  simp at this
  simp[this]
 obtain⟨x,dx,bW,ds,ns,xs,rfl,tb,hx,r,⟨p,rfl,hp,rfl,rfl⟩,q⟩:=h
 obtain rfl:bW=[.int p]:=by
  cases r with
  | int r=>cases r;rfl
 have hm:(true,p)∈ay:=dZ _ (AO hp)
 have hF:=cI hm
 refine⟨_,eK (tQ (Ba (A6 (jF ((az6 T).mono (by decide)) hr rfl T.C5.g T.C5.F.kp T.C5.b .nil da (bV (pv 1) eB)))) (jC tR) tP)
  (eK (ie (pv 0) (pv 1) rfl)
  (eK (EW (i:=2) Rx.nd rfl (az rfl) (yh Oa nQ (yh E7 (FI (pv 1)) nQ)))
  (eK (mC (Pn (E:=E0) (i:=1) T.UK ((UO T).mono (by decide)) hr T.JV.b rfl T.DC rfl rfl rfl rfl (bV (pv 0) (bV (pv 2) (bV (Pe rfl rfl T.aD4 hB) eB)))))
  (jC (ie (pv 0) (jF ((aE9 T).mono (by decide)) hr rfl T.C2.g T.C2.F.kp T.C2.b .nil da (bV (tY (pv 0) rfl) (bV (tY (pv 0) rfl) eB))) rfl))))),?_⟩
 try dsimp only[jR,jS]
 refine⟨_,rfl,H,[.int p],λd=>d=.bl true,ag.refl _,.int .nil,⟨p,rfl,by rw[ci7 p hp]⟩,λd v F' H1 A1 hd eE hf he h3 r nd fr=>?_⟩
 subst hd
 cases r
 refine⟨true,rfl,?_⟩
 refine ji ?_
 have cR:=eE.get _ _ hx
 refine⟨.int p,rfl,.ref x,rfl,x,t.aN,dx,_,rfl,cR,T.fQ,T.J4,by decide,?_⟩
 generalize e2:upd H1 x (HO.ins t.aN dx (bC "bits" (.int p) []))=H2
 have eC:H2 x=some (.ins t.aN dx [(("bits":Str),.int p)]):=by rw[<-e2,bA];rfl
 have s2:bM x H H2:=by rw[<-e2];exact(eE.x (x:=x)).trans (bM.upd (C:=x) (dx:=dx) cR rfl)
 have n2:∀p,H2 p=none->H p=none:=λp h=>eE.free (zh cR (by rw[e2];exact h))
 obtain⟨ps,hP⟩:=tb t.iY (by simp)
 obtain⟨more,KA⟩:=s2.tb _ ps hP
 have bp:bl p<=7:=PJ p hp
 have DF:1<=bl p:=PK p hp
 refine⟨.int p,rfl,rfl,p,rfl,rfl,_,_,rfl,rfl,_,_,rfl,rfl,?_,?_⟩
 ·have o1:bl (1:Int).natAbs=1:=by decide
  rw[jy]
  exact⟨by omega,by omega⟩
 have em:(1:Int)*2 ^ (((bl ((p:Int)).natAbs:Nat):Int)-1).toNat=((aa (true,p):Nat):Int):=by
  rw[jy,show(((bl p:Nat):Int)-1)=((bl p-1:Nat):Int) by omega,show(1:Int)=((1:Nat):Int) from rfl,wo,EI];rfl
 show we 2 (.int ((1:Int)*2 ^ (((bl ((p:Int)).natAbs:Nat):Int)-1).toNat)) _ _ _
 rw[em]
 refine⟨.ref x,rfl,.int (aa (true,p)),rfl,⟨_,KA⟩,λf k qn pm jU H3 nf Ag hk kf iB hl3=>?_⟩
 refine⟨f,_,_,.int p,Ag,rfl,rfl,λoc u jB hu nc su=>?_⟩
 obtain⟨tm,rfl⟩:∃tm,u=sY p tm:=hu
 have fm:=iB.get _ _ eC
 refine⟨x,dx,f,t.aN,"bits",p,aa (true,p),_,oc,_,k,gm (true,p),fl (true,p),fst (true,p),rfl,zi fm (λz=>by rw[z,nf]at eC;cases eC) nc,by decide,⟨T.fQ,T.vx,T.J6,T.xu,T.xt,T.J5,T.zW⟩,PC su nc hk kf,?_,hF,λH' p1 p2 sx cU KC yp ne Af pX=>?_⟩
 ·refine Pt (n:=3) ⟨rfl,rfl,rfl,by decide,rfl,rfl,by decide,by decide,rfl⟩ jB (λu1 u2=>rfl) λq f A outer s H E hr=>?_
  refine⟨_,dq (bB (ae (uj ((UP T).mono (by decide)) hr rfl T.zS.g T.zS.F.kp T.zS.b da (ah (ae (uj ((aH4 T).mono (by decide)) hr rfl T.C6.g T.C6.F.kp T.C6.b da (ah (bv 0) (ah (bv 1) ax)))) (ah (bv 2) ax)))) (ae au) (λ_ _=>rfl)),λi j Qd h=>?_⟩
  obtain⟨a,b,rfl,rfl,ha,hb,hq⟩:=h
  walk_at"l3"
  have b1:bl a<=6:=by
   have:bl a<=bl 63:=FG (by omega)
   exact fE this (by decide)
  have b2:bl b<=6:=by
   have:bl b<=bl 63:=FG (by omega)
   exact fE this (by decide)
  have p0:p≠0:=by
   intro z
   rw[z]at DF
   exact absurd DF (by decide)
  refine⟨a,b,rfl,by omega,by omega,cl a b,p,rfl,fE (b38 a b) (by omega),by omega,λz=>p0 z,λ_ x r e l=>⟨by simp[D.pl],.int r,rfl,rfl,r,rfl,?_⟩⟩
  have er:gm (true,p) a b=r:=yx e l
  rw[<-er];exact hq
 ·have gf:H' f=some (.ext (j7 _ oc _ f)):=sx.get f _ (λz=>by rw[z]at nf;rw[nf]at eC;cases eC) (by rw[aV su.symm,bA]) rfl
  have gc:=sx.get _ _ (dU fm nc).symm bA rfl
  refine⟨gf,gc,?_⟩
  have s4:=s2.trans (PB iB nf nc sx)
  have f1:=n2 _ (B0 iB Af)
  have f2:=n2 _ (B0 iB pX)
  have l1:=KC.rem gf gc
  have l2:=yp.rem gf gc
  have jX:rem H' f (s.heap.objs.size+1) x=some (.ins t.aN dx ((iT "bits").zip (BY p (aa (true,p)) p1 p2 (fst (true,p))))):=by
   rw[iS (λz=>by rw[z,gf]at cU;cases cU) (λz=>by rw[z,gc]at cU;cases cU)];exact cU
  generalize rem H' f (s.heap.objs.size+1)=H4 at s4 l1 l2 jX
  refine⟨.ref x,rfl,x,t.aN,dx,_,.ref p1,rfl,jX,T.fQ,T.xu,rfl,.ref x,rfl,x,t.aN,dx,_,.ref p2,rfl,jX,T.fQ,T.xt,rfl,H4,[.lst false (aI (fl (true,p))),.lst false (aI (eW (fl (true,p))))],λd=>d=.lst true (sD (fl (true,p)) (eW (fl (true,p)))),ag.refl _,.shr l1 (lQ _) (.shr l2 (lQ _) .nil),
   ⟨_,_,rfl,by have:=hF.len;have:=hF.lo;omega,by have:=hF.len;have:=hF.hi;omega,zf _ _,PH _ _,rfl⟩,λd v F' H5 A' hd kQ hf he h3 r nd fr=>?_⟩
  subst hd
  obtain⟨p3,rfl⟩:∃p3,v=.ref p3:=by cases r;exact⟨_,rfl⟩
  have jt:=kQ.get _ _ jX
  have nA:∀{a ws},H4 a=some (.lst ws)->a ∉ A':=λ{a ws} e z=>by rw[fr a z]at e;cases e
  refine⟨.ref x,rfl,x,t.aN,dx,_,rfl,jt,T.fQ,T.xv,nH (bL 6) (by decide),?_⟩
  refine q _ (BY p (aa (true,p)) p1 p2 (fst (true,p))++[.ref p3]) (p1::p2::A') ((s4.trans (kQ.x (x:=x))).trans (bM.upd (C:=x) (dx:=dx) jt rfl)) (by rw[bA];rfl) rfl ?_ ?_ ?_
  ·exact .int (.int (.int (.own ((l1.same kQ).upd jt (λws z=>by cases z)) rfl (lQ _) (.own ((l2.same kQ).upd jt (λws z=>by cases z)) rfl (lQ _) (.int ((r.qK (by simp[fg,PF]) (ag.of λb o e=>by cases e)).vb jt (by simp[fg,PF])))))))
  ·exact iD.mpr ⟨by simp[ne];exact nA l1,iD.mpr ⟨nA l2,nd⟩⟩
  ·intro a ha
   rcases cj.mp ha with rfl | ha
   ·exact f1
   ·rcases cj.mp ha with rfl | ha
    ·exact f2
    ·exact s4.free (by rw[jX];simp) (fr a ha)
noncomputable abbrev aH5(cb cp:Addr):aX:=λds Q=>∃m:Bool × Nat,ds=[cB m]/\m∈ay/\Q (fD cb cp m)
theorem aH6(T:Txt K mg t)(hB:Bm mg base):aJ P w K mg base aP 10 t.Sa t.Sb ["_law_told_here"] (u6 [t.iX,t.iY] (aY (aH5 t.aN t.aQ))):=by
 refine BV T.C7.F aG9 (λds Q h=>by obtain⟨m,rfl,hm,q⟩:=h<;>rfl) λaC A outer s H E hT hr=>⟨_,(aE (cF (ig (bB (bv 0) (ae au) (λ_ _=>rfl))) (aB (aR (Px hT T.J3 ((aD5 T hB).mono (by decide)) hr rfl T.Ku T.Ub.b da (ah (bB (bv 0) (ae au) (λ_ _=>rfl)) ax)))) cQ)
   (aB (aR (Px hT T.Kf ((az4 T hB).mono (by decide)) hr rfl T.Kw T.T9.b da (ah (bB (bv 0) (ae au) (λ_ _=>rfl)) ax))))),λds Q h=>?_⟩
 obtain⟨m,rfl,hm,q⟩:=h
 unfold cB at *
 refine aD λU hU=>?_
 walk_at"l3"
 obtain⟨b,n⟩:=m
 cases b with
 | true =>
  refine⟨_,rfl,true,rfl,?_⟩
  rw[if_pos rfl]
  refine⟨_,rfl,_,_,⟨n,rfl,zo hm,rfl,rfl⟩,?_⟩
  rw[cx0];exact q
 | false =>
  refine⟨_,rfl,false,rfl,?_⟩
  rw[if_neg (by decide)]
  refine hU _ ?_
  walk_at"l3"
  refine⟨_,rfl,_,_,⟨n,rfl,bE2 hm,rfl,rfl⟩,?_⟩
  rw[b49];exact q
noncomputable abbrev Ah(n:Nat):aX:=λds Q=>∃(b N k:Nat),ds=[.int b,.int N,.int k]/\k<n/\b<=13/\N<=12/\k<=12/\Q (.lst true (ao true (lex N k b)))
theorem UQ{ds:List D}(Q:D->Prop)(h:Ah 0 ds Q):False:=by
 obtain⟨_,_,_,_,h,_⟩:=h
 exact absurd h (Nat.not_lt_zero _)
theorem aH7(T:Txt K mg t)(n:Nat)(ih:aJ P w K mg base aP (1+n) t.zP t.zQ ["_law_begin","_law_length","_law_many_here"] (aY (Ah  n))):aJ P w K mg base aP (1+(n+1)) t.zP t.zQ ["_law_begin","_law_length","_law_many_here"] (aY (Ah  (n+1))):=by
 refine bw (k:=1+n) T.zT.F CQ ?_ ?_
 ·intro ds Q h
  obtain⟨b,N,k,rfl,hk,hb,hN,dj3,q⟩:=h<;>rfl
 ·intro aC A outer s H E hr
  refine⟨_,(aE (cF (bU (fY (cH hr)) (bv 2) (ae au) (bH _)) (aB (aR (dD (eQ (dD cP) cP)))) cQ)
   (aE (bo (i:=3) CQ.nd rfl (az rfl) (dD cP))
   (aE (gK fo rfl (wD rfl T.gg (ah (bv 0) (ah (bv 1) ax))) (jl (i:=4) CQ.nd rfl (az rfl))
    (aB (gK fo rfl (yK (uj ih hr rfl T.zT.g T.zT.F.kp T.zT.b da (ah (ae (aA dr (bv 4) (ae au))) (ah (bv 1) (ah (ae (aA dX (bv 2) (ae au))) ax))))) (jl (i:=5) CQ.nd rfl (az rfl))
     (aB (uA (i:=3) rfl (by first | exact az rfl | exact bY (az rfl)) (aA dr (zE (ah (bv 4) ax)) (bv 5)))))))
   (aB (aR (em 3)))))),λds Q h=>?_⟩
  obtain⟨b,N,k,rfl,hk,hb,hN,dj3,q⟩:=h
  refine aD λU hU=>?_
  walk_at"l3"
  cases k with
  | zero =>
   rw[if_pos (by rfl)]
   exact⟨by decide,by decide,q⟩
  | succ k =>
  rw[if_neg (by omega)]
  refine hU _ ?_
  clear hU U
  refine aD λU hU=>?_
  walk_at"l3"
  refine⟨by decide,hU _ ?_⟩
  clear hU U
  have lZ:=xg N (N-b) (k+1) b rfl
  have KD:2 ^ (N-b)<=4096:=fE (nG (by decide) (show N-b<=12 by omega)) (by decide)
  refine aD λU hU=>?_
  walk_at"l3"
  refine⟨b,N,⟨rfl,rfl⟩,by omega,?_⟩
  rw[show((N:Int)-(b:Int)).toNat=N-b by omega]
  refine gJ.mk (λj δ=>∃o1 o2,δ=[some (.int b),some (.int N),some (.int ((k+1:Nat):Int)),some (.lst true (ao true (sR N k b j))),o1,o2]) ⟨_,_,rfl⟩ ?_ ?_
  ·rintro j d δ hd ⟨o1,o2,rfl⟩
   obtain⟨hj,rfl⟩:j<N-b/\d=.int ((b+j:Nat):Int):=by
    rw[bO]at hd
    obtain⟨x,hx,rfl⟩:=xN.mp hd
    obtain⟨h1,h2⟩:=ky.mp hx
    rw[bS]at h1
    rw[EC]at h2
    exact⟨h1,by rw[<-h2];rfl⟩
   clear hd hU
   have f1:=Rp N k b (N-b-(j+1)) (j+1)
   rw[show j+1+(N-b-(j+1))=N-b by omega,HN,di,bt]at f1
   have lZ:(sR N k b (N-b)).length<=2 ^ (N-b):=lZ
   have ok:=zM N k (b+j+1)
   rw[HN]
   walk_at"l3"
   refine⟨b+j+1,N,k,by rw[show((k+1:Nat):Int)-1=(k:Int) by omega];rfl,by omega,by omega,by omega,by omega,?_⟩
   generalize lex N k (b+j+1)=L at f1 ok ⊢
   generalize sR N k b j=A at f1 ⊢
   refine⟨_,rfl,?_⟩
   rw[de]
   refine gJ.mk (λi δ=>∃o2,δ=[some (.int b),some (.int N),some (.int ((k+1:Nat):Int)),some (.lst true (ao true (A++(L.take i).map ((b+j) :: ·)))),some (.int ((b+j:Nat):Int)),o2]) ⟨_,by rw[List.take_zero,i6,eH]⟩ ?_ ?_
   ·rintro i d δ hd ⟨o2,rfl⟩
    obtain⟨hi,rfl⟩:=Rt hd
    clear hd
    have ol:=(ok _ (cT hi)).1
    have lt:((L.take i).map ((b+j) :: ·)).length=i:=by rw[bt,fV];omega
    walk_at"l3"
    refine⟨⟨_,rfl⟩,by decide,by omega,by rw[di,lt];omega,_,?_,rfl⟩
    rw[nK,aO hi,eo,<- cZ,<- vg _ (A++_)]
    rfl
   ·rintro δ ⟨o2,rfl⟩
    rw[iV,qq]
    exact⟨_,_,rfl⟩
  ·rintro δ ⟨o1,o2,rfl⟩
   refine hU _ ?_
   rw[bt,bS]
   walk_at"l3"
   exact q
theorem UR(T:Txt K mg t):∀n:Nat,aJ P w K mg base aP (1+n) t.zP t.zQ ["_law_begin","_law_length","_law_many_here"] (aY (Ah  n))
 | 0=>⟨λ_ _ _ _ ⟨_,_,_,_,_,h,_⟩=>(UQ _ h).elim,λ_ _ _ _ _ _ _ _ _ _ _ _ _ ⟨_,_,_,_,_,h,_⟩=>(UQ _ h).elim⟩
 | n+1=>aH7 T n (UR T n)
theorem aK3(T:Txt K mg t):aJ P w K mg base aP 9 t.zP t.zQ ["_law_begin","_law_length","_law_many_here"] (aY (Ah  8)):=UR T 8
noncomputable abbrev aF3(t:eO):aX:=λds Q=>∃(m:Bool × Nat) (G:List (List Nat)) (k:Kd),ds=[iA t m G k]/\af G<=12/\Q .av
theorem aF4(T:Txt K mg t):aJ P w K mg base aP 1 t.Sd t.Se ["code"] (aY (aF3 t)):=by
 refine bw T.Uc.F aE5 (λds Q h=>by obtain⟨m,G,k,rfl,hw,q⟩:=h<;>rfl) λaC A outer s H E hr=>⟨_,(aB (cF (bU uo (fL (K:=K) (bv 0)) (ae au) (bH _)) (aB Ge) cQ)),λds Q h=>?_⟩
 obtain⟨m,G,k,rfl,hw,q⟩:=h
 walk_at"l3"
 refine Ac T m G k ?_
 dsimp only
 rw[if_neg (by omega)]
 exact q
noncomputable abbrev aN8:aX:=λds Q=>∃T:List (List Nat),ds=[.lst false (ao false T)]/\T.length<=1000/\Q (.lst true (ao true T))
theorem US(T:Txt K mg t):aJ P w K mg base aP 1 t.Sf t.Sg ["table"] (aY (aN8 )):=by
 refine bw T.zU.F aN5 (λds Q h=>by obtain⟨G,rfl,hG,q⟩:=h<;>rfl) λaC A outer s H E hr=>⟨_,(aB (aR (dy [] ["row"] rfl (gx (bv 0)) (λ_ _ _ _=>(dM (i:=0) (show(["row"]:List Str).Nodup by decide +kernel))) (λ_ _ _ _=>cX) (λ_ _ _ _=>(OM (cx5) (by rfl) T.vC uf (ah (bv 0) ax))) rfl))),λds Q h=>?_⟩
 obtain⟨G,rfl,hG,q⟩:=h
 walk_at"l3"
 refine dE G (λr=>D.lst false (aq r)) (λr=>D.lst true (aq r)) (by rw[de];rfl) (λa b h=>kN a b h) (λr bf=>?_) (.inr λr _=>ix r) (by rw[sL];omega) q
 walk_at"l3"
noncomputable abbrev aG2(t:eO):aX:=λds Q=>∃(m:Bool × Nat) (G:List (List Nat)) (k:Kd),ds=[iA t m G k]/\gR m G/\Q (.lst true (ao true G))
theorem KG(T:Txt K mg t):aJ P w K mg base aP 2 t.zR t.Sh ["self"] (aY (aG2 t)):=by
 refine bw T.C8.F aF6 (λds Q h=>by obtain⟨m,G,k,rfl,hc,q⟩:=h<;>rfl) λaC A outer s H E hr=>⟨_,(aB (aR (bD T.zU (US T) hr (ah (fL (K:=K) (bv 0)) ax)))),λds Q h=>?_⟩
 obtain⟨m,G,k,rfl,hc,q⟩:=h
 have hl:=hc.len
 walk_at"l3"
 exact bT4 T m G k ⟨_,by rw[cV,de],by omega,by rw[fg,pK,kS,jx],q⟩
noncomputable abbrev aN1:aX:=λds Q=>∃(n k:Nat),ds=[.int n,.int k]/\n<=12/\k<=12/\Q (.lst true (ao true (lex n k 0)))
theorem aN2(T:Txt K mg t):aJ P w K mg base aP 1 t.Si t.Sj ["width","size"] (aY (aN1 )):=by
 refine bw T.Ud.F vv (λds Q h=>by obtain⟨n,k,rfl,hn,hk,q⟩:=h<;>rfl) λaC A outer s H E hr=>⟨_,(aE (bo (i:=2) vv.nd rfl (az rfl) (dD (eQ (dD cP) cP)))
   (aE (gK fo rfl (jO rfl T.gg (ah (bv 1) ax)) (jl (i:=3) vv.nd rfl (az rfl))
    (aE (bo (i:=4) vv.nd rfl (az rfl) (dD cP))
    (BA 2 (aE (gK fo rfl (yK (dq (bv 2))) (jl (i:=5) vv.nd rfl (bY rfl))
     (aE (bo (i:=6) vv.nd rfl (az rfl) (Gd (bU (iQ (cH hr)) (bv 5) (ae (dD cP)) (bH _)) (aA dr (bB (bv 5) (ae (cF6 (ae au))) (λ_ _=>rfl)) (ae au)) au))
     (aB (cv1 (i:=4) rfl (by first | exact az rfl | exact bY (az rfl)) (dy [("places",5)] ["place"] rfl (wD rfl T.gg (ah (bv 6) (ah (bv 0) ax))) (λ_ _ _ _=>(dM (i:=1) (show(["places","place"]:List Str).Nodup by decide +kernel))) (λ_ _ _ _=>cX) (λ_ _ _ _=>(aA dr (bv 0) (zE (ah (bv 1) ax)))) rfl)))))
    (aB (bo (i:=2) vv.nd rfl (az rfl) (em 4)))))))
   (aB (aR (em 2))))),λds Q h=>?_⟩
 obtain⟨n,k,rfl,hn,hk,q⟩:=h
 refine aD λU hU=>?_
 walk_at"l3"
 refine⟨by decide,by decide,hU _ ?_⟩
 clear hU U
 refine aD λU hU=>?_
 walk_at"l3"
 refine⟨⟨by omega,by omega⟩,yV (λi δ=>∃o1 o2 o3 o4,δ=[some (.int n),some (.int k),some (.lst true (ao true (lex n i 0))),o1,o2,o3,o4]) ⟨_,_,_,_,rfl⟩ ?_ ?_⟩
 ·rintro i δ hi ⟨o1,o2,o3,o4,rfl⟩
  simp only[gN,i8,i7]
  clear hU
  refine aD λU hU=>?_
  walk_at"l3"
  refine⟨by decide,hU _ ?_⟩
  clear hU
  have lZ:=xg n n i 0 rfl
  have ok:=zM n i 0
  rw[<-Rn n i 0]
  generalize lex n i 0=L at lZ ok ⊢
  refine⟨_,rfl,?_⟩
  rw[cV,de]
  refine aD λU hU=>?_
  walk_at"l3"
  refine gJ.mk (λj δ=>∃o3 o4,δ=[some (.int n),some (.int k),some (.lst false (ao false L)),some (.int i),some (.lst true (ao true ((L.take j).flatMap (iz n 0)))),o3,o4]) ⟨_,_,rfl⟩ ?_ ?_
  ·rintro j d δ hd ⟨o3,o4,rfl⟩
   obtain⟨hj,rfl⟩:=Rt hd
   clear hd hU
   simp only[gN,i8,i7]
   refine aD λU hU=>?_
   walk_at"l3"
   suffices h:U [some (D.int n),some (D.int k),some (D.lst false (ao false L)),some (D.int i),some (D.lst true (ao true ((L.take j).flatMap (iz n 0)))),some (D.lst false (aq L[j])),some (D.int (kr 0 L[j]:Nat))] by
    refine⟨by decide,rfl,?_⟩
    rw[show D.lst true []=D.lst true (aq []) from rfl,m5]
    by_cases c:L[j]=[]
    ·rw[decide_eq_true c,if_neg (by decide)]
     rw[show kr 0 L[j]=0 by rw[c];rfl]at h
     exact h
    ·have l0:0<L[j].length:=WY.mpr c
     rw[decide_eq_false c,if_pos (by decide)]
     refine⟨_,b07 l0,?_⟩
     rw[Rm l0]at h
     exact h
   refine hU _ ?_
   clear hU U
   have ol:=(ok _ (cT hj)).1
   have KD:2 ^ n<=4096:=nG (by decide) hn
   have lf:=Ro n 0 (L.take j)
   rw[fV]at lf
   have b12:kr 0 L[j]<=12:=by
    by_cases c:0<L[j].length
    ·rw[Rm c]
     have:=((ok _ (cT hj)).2.2 _ (cy (show L[j].length-1<L[j].length by omega) 0)).2
     omega
    ·rw[xU.mp (show L[j].length=0 by omega)]
     exact iC _
   have jn:min j L.length*n<=4096*12:=Nat.mul_le_mul (by omega) hn
   walk_at"l3"
   have eT:(L.take (j+1)).flatMap (iz n 0)=(L.take j).flatMap (iz n 0)++iz n 0 L[j]:=by
    rw[nK,aO hj,EH]
    show _++List.flatMap (iz n 0) [L[j]]=_
    rw[MI]
   rw[eT]
   rw[show iz n 0 L[j]=(aF (n-kr 0 L[j])).map ((λa=>L[j]++[a]) ∘ λx=>kr 0 L[j]+x) by unfold iz;rw[List.range'_eq_map_range,bP]]
   generalize kr 0 L[j]=b at b12 ⊢
   refine⟨⟨_,rfl⟩,b,n,⟨rfl,rfl⟩,by omega,dE (aF (n-b)) (λ(a:Nat)=>D.int ((b+a:Nat):Int)) (λa=>D.lst true (aq (L[j]++[b+a]))) ?_ (λx y h=>by injection h with h;omega) (λa ha=>?_) (.inr λ_ _=>ix _) (by rw[bS,sL];omega) ?_⟩
   ·rw[show((n:Int)-(b:Int)).toNat=n-b by omega,bP];rfl
   ·walk_at"l3"
    exact⟨by decide,by omega,by rw[show [D.int ((b+a:Nat):Int)]=aq [b+a] from rfl,kL]⟩
   ·refine⟨_,_,rfl,rfl,by rw[iV,bt,bS];omega,some (D.lst false (aq L[j])),some (D.int b),?_⟩
    rw[<-vg,show ao true ((aF (n-b)).map ((λa=>L[j]++[a]) ∘ λx=>b+x))=(aF (n-b)).map λa=>D.lst true (aq (L[j]++[b+a])) by unfold ao;rw[bP];rfl]
    rfl
  ·rintro δ ⟨o3,o4,rfl⟩
   refine hU _ ?_
   clear hU
   rw[iV,qq]
   walk_at"l3"
   exact⟨_,_,_,_,rfl,rfl,rfl,rfl⟩
 ·rintro δ ⟨o1,o2,o3,o4,rfl⟩
  refine hU _ ?_
  walk_at"l3"
  exact q
noncomputable abbrev UT(t:eO):aX:=λds Q=>∃(m:Bool × Nat) (G:List (List Nat)) (b:Nat),ds=[iA t m G (.vk b)]/\Q (.int (b:Nat))
theorem as4(T:Txt K mg t):aJ P w K mg base aP 1 t.JE t.Sk ["self"] (aY (UT t)):=by
 refine bw T.Ue.F as0 (λds Q h=>by obtain⟨m,G,b,rfl,q⟩:=h<;>rfl) λaC A outer s H E hr=>⟨_,(aB (aR (dq (fL (K:=K) (bv 0))))),λds Q h=>?_⟩
 obtain⟨m,G,b,rfl,q⟩:=h
 walk_at"l3"
 exact⟨_,_,_,_,rfl,T.xw,T.Dn,rfl,rfl,q⟩
noncomputable abbrev UU(t:eO):aX:=λds Q=>∃(m:Bool × Nat) (G:List (List Nat)),ds=[iA t m G .rep]/\Q (.int (af G:Nat))
theorem ar8(T:Txt K mg t):aJ P w K mg base aP 1 t.JF t.Sl ["self"] (aY (UU t)):=by
 refine bw T.Ug.F ar0 (λds Q h=>by obtain⟨m,G,rfl,q⟩:=h<;>rfl) λaC A outer s H E hr=>⟨_,(aB (aR (dq (fL (K:=K) (bv 0))))),λds Q h=>?_⟩
 obtain⟨m,G,rfl,q⟩:=h
 walk_at"l3"
 exact Ac T m G .rep ⟨rfl,q⟩
noncomputable abbrev UW(t:eO):aX:=λds Q=>∃(m:Bool × Nat) (G:List (List Nat)) (e f:Nat),ds=[iA t m G (.vm e f)]/\Q (.int ((e+1:Nat):Int))
theorem at7(T:Txt K mg t):aJ P w K mg base aP 1 t.JG t.Sm ["self"] (aY (UW t)):=by
 refine bw T.Uh.F at0 (λds Q h=>by obtain⟨m,G,e,f,rfl,q⟩:=h<;>rfl) λaC A outer s H E hr=>⟨_,(aB (aR (aA dr (fL (K:=K) (bv 0)) (ae au)))),λds Q h=>?_⟩
 obtain⟨m,G,e,f,rfl,q⟩:=h
 walk_at"l3"
 exact⟨_,_,_,_,rfl,T.vA,T.Dz,rfl,q⟩
noncomputable abbrev aL6:aX:=λds Q=>∃T:List (List Nat),ds=[.lst false (ao false T)]/\T.length<=1000/\(∀r∈T,r.length<=1000)/\Q (.int (af T:Nat))
theorem Ai(T:Txt K mg t):aJ P w K mg base aP 1 t.Sn t.So ["table"] (aY (aL6 )):=by
 refine bw T.sU.F aL4 (λds Q h=>by obtain⟨G,rfl,hG,hr,q⟩:=h<;>rfl) λaC A outer s H E hr=>⟨_,(aB (aR (Gd (bU (iQ (cH hr)) (bv 0) (ae (dD cP)) (bH _)) (du (fK) (by rfl) T.fC ft (ah (bB (bv 0) (ae au) (λ_ _=>rfl)) ax)) au))),λds Q h=>?_⟩
 obtain⟨G,rfl,hG,hr,q⟩:=h
 walk_at"l3"
 refine⟨by decide,⟨Qe 4 _ _ _,rfl⟩,?_⟩
 rw[show(D.lst true ([]:List D))=D.lst true (ao true []) from rfl,cl4]
 cases G with
 | nil=>rw[if_neg (by simp)];exact q
 | cons r G =>
  rw[if_pos (by simp)]
  refine⟨.lst false (aq r),pL false (T:=r::G) (i:=0) (MJ _),?_⟩
  show Q (D.int ((aq r).length:Nat))
  rw[fu];exact q
noncomputable abbrev aH8:aX:=λds Q=>∃(T:List (List Nat)) (j:Nat),ds=[.lst false (ao false T),.int j]/\T.length<=1000/\(∀r∈T,j<r.length)/\Q (match ke T j with | some i=>.int (i:Nat) | none=>.av)
theorem aH9(T:Txt K mg t):aJ P w K mg base aP 1 t.Sq t.Sr ["rows","place"] (aY (aH8 )):=by
 refine bw T.Ui.F Ry (λds Q h=>by obtain⟨G,j,rfl,hG,hr,q⟩:=h<;>rfl) λaC A outer s H E hr=>⟨_,(aE (gK fo rfl (wK rfl T.xx (ah (bv 0) ax)) (si (i1:=2) (i2:=3) rfl Ry.nd rfl (az rfl) rfl (az rfl))
    (aB (cF (bU (iQ (cH hr)) (bB (bv 3) (bv 1) (λ_ _=>rfl)) (ae au) (bH _)) (aB (aR (em 2))) cQ)))
   (aB (aR Br))),λds Q h=>?_⟩
 obtain⟨G,j,rfl,hG,hr,q⟩:=h
 refine aD λU hU=>?_
 walk_at"l3"
 refine gJ.mk (λi δ=>∃o1 o2,δ=[some (D.lst false (ao false G)),some (D.int j),o1,o2]/\∀k,k<i->(G.getD k []).getD j 0=0) ⟨_,_,rfl,λk hk=>absurd hk (Nat.not_lt_zero k)⟩ ?_ ?_
 ·rintro i d δ hd ⟨o1,o2,rfl,hz⟩
  obtain⟨hi,rfl⟩:=Qg hd
  have hj:=hr _ (cT hi)
  have eg:G.getD i []=G[i]:=by rw[aM,aO hi];rfl
  walk_at"l3"
  refine⟨.int (G[i].getD j 0:Nat),by rw[kM (by omega) (by omega),iE],rfl,?_⟩
  rw[lW]
  by_cases h0:G[i].getD j 0=0
  ·rw[if_neg (by rw[h0];decide)]
   refine⟨_,_,⟨rfl,rfl⟩,λk hk=>?_⟩
   by_cases e:k=i
   ·rw[e,eg];exact h0
   ·exact hz k (by omega)
  ·rw[if_pos (by rw[decide_eq_false (by omega)];rfl)]
   have ef:ke G j=some i:=by
    unfold ke
    rw[W3]
    refine⟨hi,by simpa using h0,λk hk=>?_⟩
    have:=hz k hk
    rw[aM (l:=G),aO (by omega)]at this
    simpa using this
   rw[ef]at q
   exact q
 ·rintro δ ⟨o1,o2,rfl,hz⟩
  refine hU _ ?_
  walk_at"l3"
  have ef:ke G j=none:=by
   unfold ke
   rw[W4]
   intro r bf
   obtain⟨i,hi,rfl⟩:=gX bf
   have:=hz i (by rw[wJ,iV];exact hi)
   rw[aM (l:=G),aO hi]at this
   simpa using this
  rw[ef]at q
  exact q
noncomputable abbrev UX(K:Frag):aX:=λds Q=>∃(C:Addr) (p a:Nat) (xs:List Nat),ds=[zj C p,.int a,.lst false (aq xs)]/\dk K C/\br K C "products"/\p∈iq/\a<aa (true,p)/\(∀y∈xs,y<aa (true,p))/\xs.length<=1000/\Q (.lst true (aq (xs.map (gm (true,p) a))))
theorem az7(T:Txt K mg t):aJ P w K mg base aP 1 t.JH t.Ss ["self","a","row"] (aY (UX K)):=by
 refine bw T.Uj.F Rz (λds Q h=>by obtain⟨C,p,a,xs,rfl,hC,hn,hp,ha,hy,hl,q⟩:=h<;>rfl) λaC A outer s H E hr=>⟨_,(aE (bo (i:=3) Rz.nd rfl (bY rfl) (dq (bB (fL (K:=K) (bv 0)) (bv 1) (λ_ _=>rfl))))
   (aB (aR (dy [("by_a",3)] ["x"] rfl (gx (bv 2)) (λ_ _ _ _=>(dM (i:=1) (show(["by_a","x"]:List Str).Nodup by decide +kernel))) (λ_ _ _ _=>cX) (λ_ _ _ _=>(dq (bB (bv 0) (bv 1) (λ_ _=>rfl)))) rfl)))),λds Q h=>?_⟩
 obtain⟨C,p,a,xs,rfl,hC,hn,hp,ha,hy,hl,q⟩:=h
 refine aD λU hU=>?_
 walk_at"l3"
 refine⟨C,_,_,_,rfl,hC,hn,rfl,_,G4 hp ha,?_⟩
 refine⟨by rw[fW,mX];rfl,hU _ ?_⟩
 clear hU U
 walk_at"l3"
 refine dE xs (λ(i:Nat)=>D.int (i:Int)) (λx=>D.int ((gm (true,p) a x:Nat):Int)) (mZ xs) g9 (λx hx=>?_) (.inr λ_ _=>rfl) (by rw[sL];omega) ?_
 ·walk_at"l3"
  exact⟨_,G3 hp ha (hy x hx),rfl,rfl⟩
 ·rw[dQ,bP]at q
  exact q
noncomputable abbrev UY(K:Frag):aX:=λds Q=>∃(C:Addr) (p a:Nat) (xs:List Nat),ds=[wW C p,.int a,.lst false (aq xs)]/\dk K C/\br K C "prime"/\0<p/\a<64/\(∀y∈xs,y<64)/\xs.length<=1000/\Q (.lst true (aq (xs.map (gm (false,p) a))))
theorem at8(T:Txt K mg t):aJ P w K mg base aP 1 t.JI t.Su ["self","a","row"] (aY (UY K)):=by
 refine bw T.Uk.F RA (λds Q h=>by obtain⟨C,p,a,xs,rfl,hC,hn,hp,ha,hy,hl,q⟩:=h<;>rfl) λaC A outer s H E hr=>⟨_,(aE (bo (i:=3) RA.nd rfl (bY rfl) (dq (fL (K:=K) (bv 0))))
   (aB (aR (dy [("prime",3),("a",1)] ["x"] rfl (gx (bv 2)) (λ_ _ _ _=>(dM (i:=2) (show(["prime","a","x"]:List Str).Nodup by decide +kernel))) (λ_ _ _ _=>cX) (λ_ _ _ _=>(aA dJ (ae (aA iP (bv 1) (bv 2))) (bv 0))) rfl)))),λds Q h=>?_⟩
 obtain⟨C,p,a,xs,rfl,hC,hn,hp,ha,hy,hl,q⟩:=h
 refine aD λU hU=>?_
 walk_at"l3"
 refine⟨C,_,_,.int p,rfl,hC,hn,rfl,rfl,hU _ ?_⟩
 clear hU U
 walk_at"l3"
 refine dE xs (λ(i:Nat)=>D.int (i:Int)) (λx=>D.int ((gm (false,p) a x:Nat):Int)) (mZ xs) g9 (λx hx=>?_) (.inr λ_ _=>rfl) (by rw[sL];omega) ?_
 ·have h2:=hy x hx
  walk_at"l3"
  refine⟨j4.ok (.inr ⟨by omega,by omega⟩),by omega,?_⟩
  show _=((a*x%p:Nat):Int)
  rw[tF,xW]
 ·rw[dQ,bP]at q
  exact q
theorem b56(T:Txt K mg t){m:Bool × Nat}(hm:m∈ay):∃C ns zs sp,fD t.aN t.aQ m=.obj C ns zs/\jV P w K mg base 1 "scaled" C sp/\("scaled":Str) ∉ ns/\∀(xs:List Nat) (a:Nat) (Q:D->Prop),a<aa m->(∀y∈xs,y<aa m)->xs.length<=1000->Q (.lst true (aq (xs.map (gm m a))))->sp [.obj C ns zs,.int a,.lst false (aq xs)] Q:=by
 have hF:=cI hm
 obtain⟨k,n⟩:=m
 cases k with
 | true=>exact⟨_,_,_,UX K,rfl,⟨T.fQ,_,_,_,T.az2,az7 T,T.Uj.b⟩,by decide,λxs a Q ha hy hl q=>⟨_,n,a,xs,rfl,T.fQ,T.xv,zo hm,ha,hy,hl,q⟩⟩
 | false =>
  have vD:n<=64:=hF.hi
  have l2:2<=n:=hF.lo
  exact⟨_,_,_,UY K,rfl,⟨T.gD,_,_,_,T.at3,at8 T,T.Uk.b⟩,by decide,λxs a Q ha hy hl q=>⟨_,n,a,xs,rfl,T.gD,T.vz,by omega,dz (show a<n from ha) vD,λy h=>dz (show y<n from hy y h) vD,hl,q⟩⟩
noncomputable abbrev UZ(K:Frag):aX:=λds Q=>∃(C:Addr) (p a:Nat) (xs ys:List Nat),ds=[zj C p,.lst false (aq xs),.int a,.lst false (aq ys)]/\dk K C/\br K C "products"/\p∈iq/\a<aa (true,p)/\(∀y∈ys,y<aa (true,p))/\xs.length<=1000/\Q (.lst true (aq (eI (λx y=>bx (true,p) x (gm (true,p) a y)) xs ys)))
theorem at9(T:Txt K mg t):aJ P w K mg base aP 1 t.JJ t.Sv ["self","row","a","other"] (aY (UZ K)):=by
 refine bw T.Ul.F RB (λds Q h=>by obtain⟨C,p,a,xs,ys,rfl,hC,hn,hp,ha,hy,hl,q⟩:=h<;>rfl) λaC A outer s H E hr=>⟨_,(aE (bo (i:=4) RB.nd rfl (bY rfl) (dq (bB (fL (K:=K) (bv 0)) (bv 2) (λ_ _=>rfl))))
   (aB (aR (dy [("by_a",4)] ["x","y"] rfl (yW rfl T.Aa (ah (bv 1) (ah (bv 3) ax))) (λ_ _ _ _=>(zH (i1:=1) (i2:=2) (show(["by_a","x","y"]:List Str).Nodup by decide +kernel))) (λ_ _ _ _=>cX) (λ_ _ _ _=>(aA yP (bv 1) (bB (bv 0) (bv 2) (λ_ _=>rfl)))) rfl)))),λds Q h=>?_⟩
 obtain⟨C,p,a,xs,ys,rfl,hC,hn,hp,ha,hy,hl,q⟩:=h
 refine aD λU hU=>?_
 walk_at"l3"
 refine⟨C,_,_,_,rfl,hC,hn,rfl,_,G4 hp ha,?_⟩
 refine⟨by rw[fW,mX];rfl,hU _ ?_⟩
 clear hU U
 walk_at"l3"
 refine⟨_,_,rfl,rfl,P8 (λx y=>bx (true,p) x (gm (true,p) a y)) (λx hx y DG=>?_) (by omega) q⟩
 walk_at"l3"
 refine⟨_,G3 hp ha (hy y DG),?_⟩
 show qi (x:Int) ((gm (true,p) a y:Nat):Int)=_
 rw[qH];rfl
noncomputable abbrev U0(K:Frag):aX:=λds Q=>∃(C:Addr) (p a:Nat) (xs ys:List Nat),ds=[wW C p,.lst false (aq xs),.int a,.lst false (aq ys)]/\dk K C/\br K C "prime"/\0<p/\a<64/\(∀y∈ys,y<64)/\xs.length<=1000/\Q (.lst true (aq (eI (λx y=>bx (false,p) x (gm (false,p) a y)) xs ys)))
theorem ar9(T:Txt K mg t):aJ P w K mg base aP 1 t.JK t.Sw ["self","row","a","other"] (aY (U0 K)):=by
 refine bw T.Um.F RC (λds Q h=>by obtain⟨C,p,a,xs,ys,rfl,hC,hn,hp,ha,hy,hl,q⟩:=h<;>rfl) λaC A outer s H E hr=>⟨_,(aE (bo (i:=4) RC.nd rfl (bY rfl) (dq (fL (K:=K) (bv 0))))
   (aB (aR (dy [("prime",4),("a",2)] ["x","y"] rfl (yW rfl T.Aa (ah (bv 1) (ah (bv 3) ax))) (λ_ _ _ _=>(zH (i1:=2) (i2:=3) (show(["prime","a","x","y"]:List Str).Nodup by decide +kernel))) (λ_ _ _ _=>cX) (λ_ _ _ _=>(aA dJ (ae (aA dX (bv 2) (ae (aA iP (bv 1) (bv 3))))) (bv 0))) rfl)))),λds Q h=>?_⟩
 obtain⟨C,p,a,xs,ys,rfl,hC,hn,hp,ha,hy,hl,q⟩:=h
 refine aD λU hU=>?_
 walk_at"l3"
 refine⟨C,_,_,.int p,rfl,hC,hn,rfl,rfl,hU _ ?_⟩
 clear hU U
 walk_at"l3"
 refine⟨_,_,rfl,rfl,P8 (λx y=>bx (false,p) x (gm (false,p) a y)) (λx hx y DG=>?_) (by omega) q⟩
 have h2:=hy y DG
 walk_at"l3"
 refine⟨j4.ok (.inr ⟨by omega,by omega⟩),by omega,?_⟩
 have e:((x:Int)-((a*y%p:Nat):Int))%(p:Int)=((x:Int)-(a:Int)*y)%p:=by
  rw[tF,xW,Int.sub_emod,Int.emod_emod,<- Int.sub_emod]
 show _=(((((x:Int)-((a*y%p:Nat):Int))%(p:Int)).toNat:Nat):Int)
 rw[e,AN (jv _ (by omega))]
theorem U1(T:Txt K mg t){m:Bool × Nat}(hm:m∈ay):∃C ns zs sp,fD t.aN t.aQ m=.obj C ns zs/\jV P w K mg base 1 "lessened" C sp/\("lessened":Str) ∉ ns/\∀(xs ys:List Nat) (a:Nat) (Q:D->Prop),a<aa m->(∀y∈ys,y<aa m)->xs.length<=1000->Q (.lst true (aq (eI (λx y=>bx m x (gm m a y)) xs ys)))->sp [.obj C ns zs,.lst false (aq xs),.int a,.lst false (aq ys)] Q:=by
 have hF:=cI hm
 obtain⟨k,n⟩:=m
 cases k with
 | true=>exact⟨_,_,_,UZ K,rfl,⟨T.fQ,_,_,_,T.at2,at9 T,T.Ul.b⟩,by decide,λxs ys a Q ha hy hl q=>⟨_,n,a,xs,ys,rfl,T.fQ,T.xv,zo hm,ha,hy,hl,q⟩⟩
 | false =>
  have vD:n<=64:=hF.hi
  have l2:2<=n:=hF.lo
  exact⟨_,_,_,U0 K,rfl,⟨T.gD,_,_,_,T.ar7,ar9 T,T.Um.b⟩,by decide,λxs ys a Q ha hy hl q=>⟨_,n,a,xs,ys,rfl,T.gD,T.vz,by omega,dz (show a<n from ha) vD,λy h=>dz (show y<n from hy y h) vD,hl,q⟩⟩
noncomputable abbrev aN3(cb cp:Addr):aX:=λds Q=>∃(m:Bool × Nat) (T:List (List Nat)) (l:List Nat) (j:Nat),ds=[fD cb cp m,.lst false (ao false T),.lst false (aq l),.int j]/\m∈ay/\T.length<=1000/\AllLt (aa m) l/\(∀r∈T,j<r.length/\r.length<=1000/\AllLt (aa m) r)/\Q (.lst true (ao true (T.map λr=>eI (λx y=>bx m x (gm m (r.getD j 0) y)) r l)))
theorem U2(T:Txt K mg t):aJ P w K mg base aP 2 t.Sx t.Sy ["field","rows","lead_row","place"] (aY (aN3 t.aN t.aQ)):=by
 refine bw T.JW.F aM8 (λds Q h=>by obtain⟨m,G,l,j,rfl,hm,hG,hl,hr,q⟩:=h<;>rfl) λaC A outer s H E hr=>⟨_,(aB (aR (dy [("lead_row",2),("field",0),("place",3)] ["row"] rfl (gx (bv 1)) (λ_ _ _ _=>(dM (i:=3) (show(["lead_row","field","place","row"]:List Str).Nodup by decide +kernel))) (λ_ _ _ _=>cX) (λ_ _ _ _=>(lX (P:=P) (w:=w) (K:=K) (mg:=mg) (base:=base) (n:=1) (bv 1) (hr.mono (by decide)) (ah (bv 3) (ah (bB (bv 3) (bv 2) (λ_ _=>rfl)) (ah (bv 0) ax))))) rfl))),λds Q h=>?_⟩
 obtain⟨m,G,l,j,rfl,hm,hG,hl,hr,q⟩:=h
 walk_at"l3"
 refine dE G (λr=>D.lst false (aq r)) (λr=>D.lst true (aq (eI (λx y=>bx m x (gm m (r.getD j 0) y)) r l))) (by rw[de];rfl) (λa b h=>kN a b h) (λr bf=>?_) (.inr λr _=>ix _) (by rw[sL];omega) ?_
 ·obtain⟨h1,h2,h3⟩:=hr r bf
  obtain⟨C,ns,zs,sp,e1,e2,e3,e4⟩:=U1 (P:=P) (w:=w) (base:=base) T hm
  walk_at"l3"
  refine⟨C,ns,zs,sp,e1,e2,e3,.int (r.getD j 0:Nat),by rw[kM (by omega) (by omega),iE],e4 _ _ _ _ (h3.getD (by have:=(cI hm).lo;omega) j) hl h2 ⟨rfl,rfl⟩⟩
 ·rw[ao,bP]at q
  exact q
noncomputable abbrev U3(t:eO)(P:Program)(w:World)(K:Frag)(mg:Str->Option Value)(base:Heap):aX:=λds Q=>∃(m:Bool × Nat) (a b:Nat),ds=[fD t.aN t.aQ m,.int a,.int b]/\m∈ay/\a<aa m/\b<aa m/\(b=0->False)/\(b≠0->∀r:Nat,r<aa m->gm m r b=a->Q (.int (r:Nat)))
theorem U4(T:Txt K mg t):aJ P w K mg base aP 2 t.CU t.Sz ["self","a","b"] (aY (U3 t P w K mg base)):=by
 refine bw T.JX.F aH0 (λds Q h=>by obtain⟨m,a,b,rfl,hm,ha,hb,qx,q⟩:=h<;>rfl) λaC A outer s H E hr=>⟨_,(aE (cF (bU (fY (cH hr)) (bv 2) (ae au) (bH _)) (aB Ge) cQ)
   (aE (cF (bU (fY (cH hr)) (bv 1) (ae au) (bH _)) (aB (aR au)) cQ)
   (aB (aR (lX (P:=P) (w:=w) (K:=K) (mg:=mg) (base:=base) (n:=1) (bv 0) (hr.mono (by decide)) (ah (ae (aA dX (bB (fL (K:=K) (bv 0)) (bv 1) (λ_ _=>rfl)) (bB (fL (K:=K) (bv 0)) (bv 2) (λ_ _=>rfl)))) ax)))))),λds Q h=>?_⟩
 obtain⟨m,a,b,rfl,hm,ha,hb,qx,q⟩:=h
 refine aD λU hU=>?_
 walk_at"l3"
 split
 ·rename_i h0
  exact qx (by omega)
 ·rename_i h0
  have b0:b≠0:=by omega
  refine hU _ ?_
  clear hU U
  refine aD λU hU=>?_
  walk_at"l3"
  split
  ·rename_i h1
   have a0:a=0:=by omega
   subst a0
   exact q b0 0 ha (fi m b (b8 m hm))
  ·rename_i h1
   have a0:a≠0:=by omega
   refine hU _ ?_
   clear hU U
   have hF:=cI hm
   obtain⟨r,e,Ck,hr2⟩:=P0 hm (show 1<=a by omega) ha (show 1<=b by omega) hb
   have qr:=q b0 r Ck hr2
   obtain⟨k,n⟩:=m
   cases k with
   | true =>
    walk_at"l3"
    have ll:(eW (fl (true,n))).length=aa (true,n):=(zf _ _).trans hF.len
    have n0:=jv (lg (true,n) a-lg (true,n) b) (show(aa (true,n):Int)-1≠0 by have:=hF.lo;omega)
    have n1:=jw (lg (true,n) a-lg (true,n) b) (show(0:Int)<(aa (true,n):Int)-1 by have:=hF.lo;omega)
    refine⟨_,_,_,Ad K,rfl,⟨T.fQ,_,_,_,T.zW,Ae T,T.xo.b⟩,by decide,_,_,_,_,rfl,T.fQ,T.xt,rfl,_,mY (by omega) (by rw[ll];omega),_,_,_,_,rfl,T.fQ,T.xt,rfl,_,mY (by omega) (by rw[ll];omega),?_⟩
    refine⟨_,_,_,_,aa (true,n),fl (true,n),r,rfl,T.fQ,T.xu,T.vx,rfl,rfl,hF.lo,?_,qr⟩
    have hk:((lg (true,n) a-lg (true,n) b)%((aa (true,n):Int)-1)).toNat<(fl (true,n)).length:=by have:=hF.len;omega
    show(fl (true,n))[((lg (true,n) a-lg (true,n) b)%((aa (true,n):Int)-1)).toNat]?=some (r:Int)
    rw[<-e]
    unfold pw
    rw[aM,aO hk];rfl
   | false =>
    walk_at"l3"
    have ll:(eW (fl (false,n))).length=aa (false,n):=(zf _ _).trans hF.len
    have n0:=jv (lg (false,n) a-lg (false,n) b) (show(aa (false,n):Int)-1≠0 by have:=hF.lo;omega)
    have n1:=jw (lg (false,n) a-lg (false,n) b) (show(0:Int)<(aa (false,n):Int)-1 by have:=hF.lo;omega)
    refine⟨_,_,_,Ad K,rfl,⟨T.gD,_,_,_,T.z5,Ae T,T.xo.b⟩,by decide,_,_,_,_,rfl,T.gD,T.zY,rfl,_,mY (by omega) (by rw[ll];omega),_,_,_,_,rfl,T.gD,T.zY,rfl,_,mY (by omega) (by rw[ll];omega),?_⟩
    refine⟨_,_,_,_,aa (false,n),fl (false,n),r,rfl,T.gD,T.zZ,T.vy,rfl,rfl,hF.lo,?_,qr⟩
    have hk:((lg (false,n) a-lg (false,n) b)%((aa (false,n):Int)-1)).toNat<(fl (false,n)).length:=by have:=hF.len;omega
    show(fl (false,n))[((lg (false,n) a-lg (false,n) b)%((aa (false,n):Int)-1)).toNat]?=some (r:Int)
    rw[<-e]
    unfold pw
    rw[aM,aO hk];rfl
theorem U5(T:Txt K mg t)(m:Bool × Nat):jV P w K mg base 2 "over" (if m.1 then t.aN else t.aQ) (U3 t P w K mg base):=by
 obtain⟨k,n⟩:=m
 cases k with
 | true=>exact⟨T.fQ,_,_,_,T.J8,U4 T,T.JX.b⟩
 | false=>exact⟨T.gD,_,_,_,T.Kj,U4 T,T.JX.b⟩
noncomputable abbrev aN4(t:eO)(P:Program)(w:World)(K:Frag)(mg:Str->Option Value)(base:Heap):aX:=λds Q=>∃(m:Bool × Nat) (G:List (List Nat)),ds=[fD t.aN t.aQ m,.lst false (ao false G)]/\m∈ay/\G.length<=900/\RT (aa m) (af G) G/\af G<=900/\Q (.lst true (ao true (bj m G)))
theorem KH(T:Txt K mg t):aJ P w K mg base aP 3 t.SA t.SD ["field","table"] (aY (aN4 t P w K mg base)):=by
 refine bw T.xp.F sS (λds Q h=>by obtain⟨m,G,rfl,hm,hG,hR,hw,q⟩:=h<;>rfl) λaC A outer s H E hr=>⟨_,(aE (bo (i:=2) sS.nd rfl (az rfl) (dD cP))
   (aE (bo (i:=3) sS.nd rfl (az rfl) (dq (bv 1)))
   (aE (gK fo rfl (jO rfl T.gg (ah (ae (bD T.sU (Ai T) hr (ah (bv 1) ax))) ax)) (jl (i:=4) sS.nd rfl (az rfl))
    (BA 3 (aE (bo (i:=5) sS.nd rfl (az rfl) (bD T.Ui (aH9 T) hr (ah (bv 3) (ah (bv 4) ax))))
    (aB (cF (bU cw0 (bv 5) (ae Br) (bH _)) (aE (bo (i:=6) sS.nd rfl (az rfl) (lX (P:=P) (w:=w) (K:=K) (mg:=mg) (base:=base) (n:=1) (bv 0) (hr.mono (by decide)) (ah (ae (lX (P:=P) (w:=w) (K:=K) (mg:=mg) (base:=base) (n:=2) (bv 0) (hr.mono (by decide)) (ah (ae au) (ah (bB (bB (bv 3) (bv 5) (λ_ _=>rfl)) (bv 4) (λ_ _=>rfl)) ax)))) (ah (bB (bv 3) (bv 5) (λ_ _=>rfl)) ax))))
     (aE (bo (i:=3) sS.nd rfl (az rfl) (bD T.JW (U2 T) hr (ah (bv 0) (ah (ae (aA dr (ae (wL (bv 3) uw (uz (bv 5)))) (ae (wL (bv 3) (uz (ae (aA dr (bv 5) (ae au)))) uw)))) (ah (bv 6) (ah (bv 4) ax))))))
     (aB (bo (i:=2) sS.nd rfl (az rfl) (cs1 (bD T.JW (U2 T) hr (ah (bv 0) (ah (bv 2) (ah (bv 6) (ah (bv 4) ax))))) (dD (eQ (em 6) cP))))))) cQ)))))
   (aB (aR (em 2)))))),λds Q h=>?_⟩
 obtain⟨m,G,rfl,hm,hG,hR,hw,q⟩:=h
 have dH:=(cI hm).lo
 refine aD λU hU=>?_
 walk_at"l3"
 refine⟨by decide,hU _ ?_⟩
 clear hU U
 refine aD λU hU=>?_
 walk_at"l3"
 refine hU _ ?_
 clear hU U
 refine aD λU hU=>?_
 walk_at"l3"
 refine⟨G,rfl,by omega,λr bf=>?_,?_⟩
 ·rw[(hR r bf).1];omega
 refine⟨_,rfl,⟨by omega,by omega⟩,?_⟩
 refine yV (λk δ=>∃(o:Bool) (o1 o2 o3:Option D),δ=[some (fD t.aN t.aQ m),some (D.lst false (ao false G)),some (D.lst true (ao true (kg m G k).1)),some (D.lst o (ao o (kg m G k).2)),o1,o2,o3]) ⟨false,none,none,none,rfl⟩ ?_ ?_
 ·rintro k δ hk ⟨o,o1,o2,o3,rfl⟩
  have I:=Cc hm hR k
  rw[Hb]
  generalize kg m G k=s at I ⊢
  simp only[gN,oq,i8,i7,tH,tG,tI,exists_eq_left',cV,de]
  clear hU
  have il:=I.l
  refine aD λU hU=>?_
  walk_at"l3"
  refine⟨s.2,k,rfl,by omega,λr bf=>by rw[(I.b r bf).1];omega,?_⟩
  cases e:ke s.2 k with
  | none =>
   rw[show iW m s k=s by unfold iW;rw[e]]at hU
   refine hU _ ?_
   walk_at"l3"
   exact⟨false,_,_,_,⟨rfl,rfl⟩,rfl,rfl,rfl⟩
  | some i =>
   obtain⟨hi,h1,h2⟩:=Cb e
   have er:iW m s k=(hE m s.1 (dY m s.2 i k) k++[dY m s.2 i k],hE m (s.2.take i++s.2.drop (i+1)) (dY m s.2 i k) k):=by unfold iW;rw[e]
   rw[er]at hU
   refine hU _ ?_
   clear hU
   walk_at"l3"
   obtain⟨C,ns,xs,sp,e1,e2,e3,e4⟩:=b56 (P:=P) (w:=w) (base:=base) T hm
   refine aD λU hU=>?_
   walk_at"l3"
   obtain⟨lw,lr⟩:=I.b _ (cT hi)
   have bk:=lr.getD (show 0<aa m by omega) k
   refine⟨C,ns,xs,sp,e1,e2,e3,_,_,_,_,wX _ _ m,U5 T m,P1 m _ (by decide),.lst false (aq s.2[i]),pL false hi,?_⟩
   dsimp only
   refine⟨.int (s.2[i].getD k 0:Nat),by rw[kM (by omega) (by omega),iE],m,1,s.2[i].getD k 0,by rw[wX];rfl,hm,dH,bk,λz=>absurd z h1,λ_ f hf hfo=>⟨rfl,.lst false (aq s.2[i]),pL false hi,?_⟩⟩
   have ef:nh m (s.2[i].getD k 0)=f:=Ca hm hf hfo
   rw[m6]
   refine e4 _ _ _ hf lr (by omega) ⟨by rw[ix,jx],hU _ ?_⟩
   have el:s.2[i].map (gm m f)=dY m s.2 i k:=by unfold dY;rw[h2,ef]
   rw[el]
   have ll:(dY m s.2 i k).length=af G:=by rw[<-el,bt];exact lw
   have la:AllLt (aa m) (dY m s.2 i k):=λx hx=>by
    rw[<-el]at hx
    obtain⟨y,_,rfl⟩:=bE.mp hx
    exact bX hm _ _
   generalize dY m s.2 i k=ld at ll la ⊢
   clear hU
   refine aD λU hU=>?_
   walk_at"l3"
   have KI:∀r∈s.2.take i++s.2.drop (i+1),r.length=af G/\AllLt (aa m) r:=λr bf=>by
    rcases cg.mp bf with h | h
    ·exact I.b r (tE h)
    ·exact I.b r (nL h)
   have DH:∀X:List (List Nat),(D.lst true (ao true X)).fr=true:=λX=>by rw[fg,pK];rfl
   rw[GK,show((i:Int)+1)=((i+1:Nat):Int) by omega,BK,vg,de]
   refine⟨by rw[fV,iF];omega,m,_,ld,k,rfl,hm,by rw[di,fV,iF];omega,la,λr bf=>⟨by rw[(KI r bf).1];exact hk,by rw[(KI r bf).1];omega,(KI r bf).2⟩,DH _,hU _ ?_⟩
   clear hU
   walk_at"l3"
   refine⟨m,s.1,ld,k,rfl,hm,by omega,la,λr bf=>⟨by rw[(I.a r bf).1];exact hk,by rw[(I.a r bf).1];omega,(I.a r bf).2⟩,DH _,by decide,_,_,rfl,rfl,?_,true,_,_,_,vg true _ [ld],⟨rfl,rfl⟩,rfl,rfl,rfl⟩
   rw[iV,bt]
   show s.1.length+1<=_
   omega
 ·rintro δ ⟨o,o1,o2,o3,rfl⟩
  refine hU _ ?_
  walk_at"l3"
  exact q
noncomputable abbrev ca4:aX:=λds Q=>∃T:List (List Nat),ds=[.lst false (ao false T)]/\T.length<=1000/\(∀r∈T,r.length<=1000/\∃x∈r,x≠0)/\Q (.lst true (aq (T.map aU)))
theorem KJ(T:Txt K mg t):aJ P w K mg base aP 1 t.SE t.SF ["rows"] (aY (ca4 )):=by
 refine bw T.C9.F b70 (λds Q h=>by obtain⟨G,rfl,hG,hr,q⟩:=h<;>rfl) λaC A outer s H E hr=>⟨_,(aB (aR (dy [] ["row"] rfl (gx (bv 0)) (λ_ _ _ _=>(dM (i:=0) (show(["row"]:List Str).Nodup by decide +kernel))) (λ_ _ _ _=>cX) (by exact λ_ _ _ _=>(dq (bB (ae (dy [] ["place","x"] rfl (wK rfl T.xx (ah (bv 0) ax)) (λ_ _ _ _=>(zH (i1:=0) (i2:=1) (show(["place","x"]:List Str).Nodup by decide +kernel))) (λ_ _ _ _=>(Gk (bU (iQ (cH hr)) (bv 1) (ae au) (bH _)))) (λ_ _ _ _=>(dq (bv 0))) rfl)) (ae au) (λ_ _=>rfl)))) rfl))),λds Q h=>?_⟩
 obtain⟨G,rfl,hG,hr,q⟩:=h
 walk_at"l3"
 refine dE G (λr=>D.lst false (aq r)) (λr=>D.int (aU r:Nat)) (by rw[de];rfl) (λa b h=>kN a b h) (λr bf=>?_) (.inr λr _=>rfl) (by rw[sL];omega) ?_
 ·obtain⟨h1,x,hx,h3⟩:=hr r bf
  walk_at"l3"
  refine Ha (aF r.length) (λ(i:Nat)=>D.tup [.int (i:Int),.int ((r.getD i 0:Nat):Int)]) (λ(i:Nat)=>D.int (i:Int)) (λi=>r.getD i 0 != 0) (Qh r) (λa b h=>by injection h with h;simp at h;omega) (λi hi=>?_) (.inr λ_ _ _=>rfl) (by rw[bS,sL];omega) ?_
  ·walk_at"l3"
   refine⟨?_,λ_=>trivial⟩
   by_cases h0:r.getD i 0=0
   ·rw[h0];rfl
   ·rw[decide_eq_false (by omega),bne_iff_ne.mpr h0];rfl
  ·refine⟨.int (aU r:Nat),L3.yX (k:=0) ?_,rfl,rfl⟩
   rw[bO,Qi ⟨x,hx,h3⟩];rfl
 ·rw[dQ,bP]at q
  exact q
noncomputable abbrev aL7:aX:=λds Q=>∃w p:Nat,ds=[.int w,.int p]/\w<=1000/\Q (.lst true (aq (eX w p)))
theorem aL8(T:Txt K mg t):aJ P w K mg base aP 1 t.SG t.SH ["width","place"] (aY (aL7 )):=by
 refine bw T.Uo.F aL5 (λds Q h=>by obtain⟨w,p,rfl,hw,q⟩:=h<;>rfl) λaC A outer s H E hr=>⟨_,(aB (aR (dy [("place",1)] ["j"] rfl (jO rfl T.gg (ah (bv 0) ax)) (λ_ _ _ _=>(dM (i:=1) (show(["place","j"]:List Str).Nodup by decide +kernel))) (λ_ _ _ _=>cX) (λ_ _ _ _=>(Gd (bU (fY (cH hr)) (bv 1) (bv 0) (bH _)) au au)) rfl))),λds Q h=>?_⟩
 obtain⟨w,p,rfl,hw,q⟩:=h
 walk_at"l3"
 refine⟨⟨by omega,by omega⟩,dE (aF w) (λ(i:Nat)=>D.int (i:Int)) (λj=>D.int (((if j=p then 1 else 0:Nat):Nat):Int)) (pG _ rfl) g9 (λj hj=>?_) (.inr λ_ _=>rfl) (by rw[bS,sL];omega) ?_⟩
 ·walk_at"l3"
  by_cases h:j=p
  ·rw[if_pos (by omega),if_pos h];rfl
  ·rw[if_neg (by omega),if_neg h];rfl
 ·unfold eX at q
  rw[dQ,bP]at q
  exact q
noncomputable def KL:Option (List (List Nat))->D
 | some V=>.lst true (ao true V)
 | none=>.av
theorem b95(G:List (List Nat)):(gM (ao false G)).map D.sh=(aF G.length).map λ(i:Nat)=>D.tup [.int (i:Int),.lst false (aq (G.getD i []))]:=by
 apply xO
 intro i
 unfold gM ao
 rw[bO,vS,bO,bO]
 by_cases hi:i<G.length
 ·rw[aO hi,hW hi]
  show some (D.tup [D.int (i:Int),D.lst false (aq G[i])]).sh=some (D.tup [D.int (i:Int),D.lst false (aq (G.getD i []))])
  rw[l6 hi,jL]
  simp only[cK,i6,lU,m6]
 ·rw[fF (show G.length<=i by omega),fF (show(aF G.length).length<=i by simpa using hi)];rfl
theorem b83(G:List (List Nat)):ao true (cJ G)=(aF G.length).map λi=>D.lst true (aq (G.getD i []++eX G.length i)):=by
 apply xO
 intro i
 unfold ao cJ
 rw[bO,vS,bO]
 by_cases hi:i<G.length
 ·rw[aO hi,hW hi]
  show some (D.lst true (aq (G[i]++eX G.length i)))=some (D.lst true (aq (G.getD i []++eX G.length i)))
  rw[l6 hi]
 ·rw[fF (show G.length<=i by omega),fF (show(aF G.length).length<=i by simpa using hi)];rfl
noncomputable abbrev aL9(t:eO)(P:Program)(w:World)(K:Frag)(mg:Str->Option Value)(base:Heap):aX:=λds Q=>∃(m:Bool × Nat) (G:List (List Nat)),ds=[fD t.aN t.aQ m,.lst false (ao false G)]/\m∈ay/\0<G.length/\G.length<=64/\RT (aa m) (af G) G/\af G<=64/\Q (KL (pQ m G))
theorem aM0(T:Txt K mg t):aJ P w K mg base aP 4 t.SI t.SJ ["field","table"] (aY (aL9 t P w K mg base)):=by
 refine bw T.Up.F CS (λds Q h=>by obtain⟨m,G,rfl,hm,xy,hG,hR,hw,q⟩:=h<;>rfl) λaC A outer s H E hr=>⟨_,(aE (bo (i:=2) CS.nd rfl (bY rfl) (bD T.sU (Ai T) hr (ah (bv 1) ax)))
   (aE (Cf (i:=3) CS.nd rfl (az rfl) [("table",1)] ["i","row"] rfl (wK rfl T.xx (ah (bv 1) ax)) (λ_ _ _ _=>(zH (i1:=1) (i2:=2) (show(["table","i","row"]:List Str).Nodup by decide +kernel))) (λ_ _ _ _=>cX) (λ_ _ _ _=>(aA dr (bv 2) (ae (bD T.Uo (aL8 T) hr (ah (ae (du (fK) (by rfl) T.fC ft (ah (bv 0) ax))) (ah (bv 1) ax)))))) rfl)
   (aE (bo (i:=4) CS.nd rfl (az rfl) (b18 (bD T.xp (KH T) hr (ah (bv 0) (ah (bv 3) ax))) uw (uz (bv 2))))
   (aE (cF (bU (iQ (cH hr)) (ae (bD T.C9 (KJ T) hr (ah (bv 4) ax))) (ae (bG7 rfl (by rfl) T.vC (by rfl) T.gg (bv 2))) (bH _)) (aB (aR Br)) cQ)
   (aB (aR (dy [("width",2)] ["row"] rfl (gx (bv 4)) (λ_ _ _ _=>(dM (i:=1) (show(["width","row"]:List Str).Nodup by decide +kernel))) (λ_ _ _ _=>cX) (λ_ _ _ _=>(wL (bv 1) (uz (bv 0)) uw)) rfl))))))),λds Q h=>?_⟩
 obtain⟨m,G,rfl,hm,xy,hG,hR,hw,q⟩:=h
 have dH:=(cI hm).lo
 have DH:∀X:List (List Nat),(D.lst true (ao true X)).fr=true:=λX=>by rw[fg,pK];rfl
 obtain⟨b1,b2⟩:=Cr (show 1<aa m by omega) xy hR
 have b3:=b2
 rw[<-b1]at b3
 obtain⟨⟨Hd,I⟩,iR,il,sp⟩:=iy hm b3
 rw[vi]at il
 refine aD λU hU=>?_
 walk_at"l3"
 refine⟨G,rfl,by omega,λr bf=>by rw[(hR r bf).1];omega,hU _ ?_⟩
 clear hU U
 refine aD λU hU=>?_
 walk_at"l3"
 refine PY (aF G.length) (λ(i:Nat)=>D.tup [.int (i:Int),.lst false (aq (G.getD i []))]) (λi=>D.lst true (aq (G.getD i []++eX G.length i))) (b95 G) (λa b h=>?_) (λi hi=>?_) PZ (.inr λz _=>ix _) (by rw[bS,sL];omega) ?_
 ·injection h with h
  simp only[tJ,D.int.injEq]at h
  omega
 ·have hi:=cA.mp hi
  have hl:=(hR _ (cy hi [])).1
  walk_at"l3"
  refine⟨G.length,i,rfl,by omega,?_⟩
  dsimp only
  exact⟨⟨by rw[fu,fu,zF];omega,jo _,jo _⟩,kL _ _⟩
 rw[<-b83]
 refine hU _ ?_
 clear hU U
 refine aD λU hU=>?_
 walk_at"l3"
 refine⟨m,cJ G,rfl,hm,by rw[vi];omega,b3,by omega,DH _,_,rfl,?_⟩
 rw[sG,GK]
 unfold pQ at q
 refine hU _ ?_
 clear hU U
 have U6:RT (aa m) (af G+G.length) ((bj m (cJ G)).take (af G)):=λr bf=>by rw[<-b1];exact iR r (tE bf)
 have hn:∀r∈(bj m (cJ G)).take (af G),∃x∈r,x≠0:=λr bf=>by
  obtain⟨i,hi,rfl⟩:=gX (tE bf)
  have:=(I.wZ hm iR hi).2
  rw[l6 hi]at this
  exact this
 have lR:((bj m (cJ G)).take (af G)).length<=64:=by rw[fV];omega
 generalize (bj m (cJ G)).take (af G)=R at q U6 hn lR
 refine aD λU hU=>?_
 walk_at"l3"
 refine⟨R,rfl,by omega,λr bf=>⟨by rw[(U6 r bf).1];omega,hn r bf⟩,ix _,af G,rfl,by omega,vd 5 true _,?_⟩
 rw[m5]
 by_cases c:R.map aU=aF (af G)
 ·rw[decide_eq_true c,if_neg (by decide)]
  rw[if_pos c]at q
  refine hU _ ?_
  walk_at"l3"
  refine dE R (λr=>D.lst false (aq r)) (λr=>D.lst true (aq (r.drop (af G)))) (by rw[de];rfl) (λa b h=>kN a b h) (λr bf=>?_) (.inr λr _=>ix _) (by rw[sL];omega) ?_
  ·walk_at"l3"
   rw[BK]
  ·have e:KL (some (R.map λr=>r.drop (af G)))=.lst true (R.map λr=>D.lst true (aq (r.drop (af G)))):=by
    show D.lst true (ao true _)=_
    unfold ao
    rw[bP];rfl
   rw[e]at q
   exact q
 ·rw[decide_eq_false c,if_pos (by decide)]
  rw[if_neg c]at q
  exact q
noncomputable abbrev aN9:aX:=λds Q=>∃(G:List (List Nat)) (F:List Nat) (N w:Nat),ds=[.lst false (ao false G),.lst false (aq F)]/\RT N w G/\(∀j∈F,j<w)/\G.length<=1000/\F.length<=1000/\Q (.lst true (ao true (eY G F)))
theorem aO0(T:Txt K mg t):aJ P w K mg base aP 1 t.SK t.SM ["table","places"] (aY (aN9 )):=by
 refine bw T.Uq.F aN6 (λds Q h=>by obtain⟨G,F,N,wi,rfl,hR,hF,hG,hFl,q⟩:=h<;>rfl) λaC A outer s H E hr=>⟨_,(aB (aR (dy [("places",1)] ["row"] rfl (gx (bv 0)) (λ_ _ _ _=>(dM (i:=1) (show(["places","row"]:List Str).Nodup by decide +kernel))) (λ_ _ _ _=>cX) (by exact λ_ _ _ _=>(dy [("row",1)] ["j"] rfl (gx (bv 0)) (λ_ _ _ _=>(dM (i:=1) (show(["row","j"]:List Str).Nodup by decide +kernel))) (λ_ _ _ _=>cX) (λ_ _ _ _=>(dq (bB (bv 0) (bv 1) (λ_ _=>rfl)))) rfl)) rfl))),λds Q h=>?_⟩
 obtain⟨G,F,N,wi,rfl,hR,hF,hG,hFl,q⟩:=h
 walk_at"l3"
 refine dE G (λr=>D.lst false (aq r)) (λr=>D.lst true (aq (F.map λj=>r.getD j 0))) (by rw[de];rfl) (λa b h=>kN a b h) (λr bf=>?_) (.inr λr _=>ix _) (by rw[sL];omega) ?_
 ·have hl:=(hR r bf).1
  walk_at"l3"
  refine dE F (λ(i:Nat)=>D.int (i:Int)) (λ(j:Nat)=>D.int ((r.getD j 0:Nat):Int)) (mZ _) g9 (λj hj=>?_) (.inr λ_ _=>rfl) (by rw[sL];omega) ?_
  ·have:=hF j hj
   walk_at"l3"
   exact⟨.int (r.getD j 0:Nat),by rw[kM (by omega) (by omega),iE],rfl,rfl⟩
  ·rw[dQ,bP];rfl
 ·unfold eY ao at q
  rw[bP]at q
  exact q
theorem U7(T:Txt K mg t)(m:Bool × Nat)(G:List (List Nat))(k:Kd){Q:D->Prop}(q:Q (.int (fk G k:Nat))):∃C ns zs sp,iA t m G k=.obj C ns zs/\jV P w K mg base 1 "distance" C sp/\("distance":Str) ∉ ns/\sp [.obj C ns zs] Q:=by
 cases k with
 | vk b=>exact⟨_,_,_,UT t,rfl,⟨T.xw,_,_,_,T.df0,as4 T,T.Ue.b⟩,by decide,m,G,b,rfl,q⟩
 | rep=>exact⟨_,_,_,UU t,rfl,⟨T.Dt,_,_,_,T.df5,ar8 T,T.Ug.b⟩,by decide,m,G,rfl,q⟩
 | vm e f=>exact⟨_,_,_,UW t,rfl,⟨T.vA,_,_,_,T.df6,at7 T,T.Uh.b⟩,by decide,m,G,e,f,rfl,q⟩
noncomputable abbrev U8(t:eO):aX:=λds Q=>∃(m:Bool × Nat) (G:List (List Nat)) (k:Kd),ds=[iA t m G k]/\gR m G/\1<=G.length/\af G<=12/\zJ m G k/\Q (.lst true ((lex (af G) (fk G k-1) 0).map λS=>.tup [.lst true (aq S),.lst true (ao true (gC m G S))]))
theorem U9(T:Txt K mg t):aJ P w K mg base aP 5 t.SN t.SO ["code"] (aY (U8 t)):=by
 refine bw T.JY.F IK (λds Q h=>by obtain⟨m,G,k,rfl,hc,g1,mh,hk,q⟩:=h<;>rfl) λaC A outer s H E hr=>⟨_,(aE (cx1 (ae (bD T.Uc (aF4 T) hr (ah (bv 0) ax))))
   (aE (bo (i:=1) IK.nd rfl (bY rfl) (zr (P:=P) (w:=w) (K:=K) (mg:=mg) (base:=base) (n:=2) (bv 0) (hr.mono (by decide))))
   (aE (bo (i:=2) IK.nd rfl (az rfl) (bD T.Ud (aN2 T) hr (ah (fL (K:=K) (bv 0)) (ah (ae (aA dX (ae (zr (P:=P) (w:=w) (K:=K) (mg:=mg) (base:=base) (n:=1) (bv 0) (hr.mono (by decide)))) (ae au))) ax))))
   (aB (aR (b36 2 [("code",0),("checks",1)] rfl (by first | exact az rfl | exact bY (az rfl)) rfl (λ_ _ _ _=>cE8 (i:=2) (show(["code","checks","places"]:List Str).Nodup by decide +kernel)) (λ_ _ _ _=>bV (pv 2) (bV (bD T.Up (aM0 T) hr (ah (fL (K:=K) (bv 0)) (ah (ae (bD T.Uq (aO0 T) hr (ah (bv 1) (ah (bv 2) ax)))) ax))) eB)) rfl)))))),λds Q h=>?_⟩
 obtain⟨m,G,k,rfl,hc,g1,mh,hk,q⟩:=h
 have hm:=hc.hm
 have gl:=hc.len
 have kp:=hk.pos
 have sg:=hc.HJ hk.zK
 have sz:=hc.sz
 refine aD λU hU=>?_
 walk_at"l3"
 rw[CF]
 refine⟨m,G,k,rfl,mh,by rw[HG];rfl,hU _ ?_⟩
 clear hU U
 refine aD λU hU=>?_
 walk_at"l3"
 refine Kz T T.zX T.z7 T.z9 (KG T) T.C8.b (by decide) ⟨m,G,k,rfl,hc,hU _ ?_⟩
 clear hU U
 refine aD λU hU=>?_
 walk_at"l3"
 refine Ac T m G k ?_
 refine U7 T m G k ?_
 dsimp only
 refine⟨af G,fk G k-1,by rw[show((fk G k:Nat):Int)-1=((fk G k-1:Nat):Int) by omega];rfl,mh,by omega,rfl,hU _ ?_⟩
 clear hU U
 have lZ:=xg (af G) (af G) (fk G k-1) 0 rfl
 have KD:2 ^ af G<=4096:=nG (by decide) mh
 have ok:=zM (af G) (fk G k-1) 0
 generalize lex (af G) (fk G k-1) 0=L at lZ ok q ⊢
 walk_at"l3"
 refine cw4 L (λS=>D.lst true (aq S)) (λS=>D.lst true (ao true (gC m G S))) rfl (λa b h=>kN a b h) (λS hS=>?_) (by rw[sL];omega) q
 obtain⟨o1,o2,o3⟩:=ok S hS
 have pp:=Ru hm g1 hc.rt hk.zK (S:=S) ⟨o2,λx hx=>(o3 x hx).2⟩ (by omega)
 rw[m6]
 walk_at"l3"
 have ew:KL (pQ m (eY G S))=D.lst true (ao true (gC m G S)):=by rw[pp.wy];rfl
 have fw:(D.lst true (ao true (gC m G S))).fr=true:=by rw[fg,pK];rfl
 obtain⟨p1,p2⟩:=Cw (F:=S) (show 0<aa m by have:=(cI hm).lo;omega) hc.rt
 have wp:=HE (F:=S) g1
 rw[CF]
 refine b58 T m G k ?_
 refine⟨G,S,aa m,af G,rfl,hc.rt,λj hj=>(o3 j hj).2,by omega,by omega,m,eY G S,⟨G5 _ _ _,by rw[cV,de]⟩,hm,by omega,by omega,by rw[wp];exact p1,by omega,?_⟩
 rw[ew]
 exact⟨by rw[fw,jx],rfl,fw⟩
noncomputable abbrev aI0:aX:=λds Q=>∃i:Int,ds=[.int i]/\Q (.bl true)
theorem Va(T:Txt K mg t):aJ P w K mg base aP 1 t.SQ t.SR ["_law_x"] (aY (aI0 )):=by
 refine bw T.JZ.F aH1 (λds Q h=>by obtain⟨i,rfl,q⟩:=h<;>rfl) λaC A outer s H E hr=>⟨_,(aB (aR (qR (ae (mW (by rfl) T.nu (by rfl) T.Kt FH (bv 0))) (wc (Oq (ae (mW (by rfl) T.nu (by rfl) T.UL N6 (bv 0)))))))),λds Q h=>?_⟩
 obtain⟨i,rfl,q⟩:=h
 walk_at"l3"
 exact q
noncomputable abbrev aD6:aX:=λds Q=>∃(l:List Nat) (w n:Nat),ds=[.lst false (aq l),.int w,.int n]/\l.length=w/\w<=1000/\AllLt n l/\Q (.bl true)
theorem aD7(T:Txt K mg t):aJ P w K mg base aP 2 t.SS t.SU ["_law_row","_law_wide","_law_many_here"] (aY (aD6 )):=by
 refine bw T.Ur.F aD2 (λds Q h=>by obtain⟨l,w,n,rfl,hl,hw,ha,q⟩:=h<;>rfl) λaC A outer s H E hr=>⟨_,(aE (cF (PW.pt (mM (kF (ig (ae (mW (by rfl) T.nu (by rfl) T.vC uf (bv 0))))) (qB (bU (iQ (cH hr)) (ae (du (fK) (by rfl) T.fC ft (ah (bv 0) ax))) (bv 1) (bH _))))) (aB (aR g7)) cQ)
   (aB (aR (du (uv rfl) (by rfl) T.vB ue (ah (ae (dy [("_law_many_here",2)] ["_law_x"] rfl (gx (bv 0)) (λ_ _ _ _=>(dM (i:=1) (show(["_law_many_here","_law_x"]:List Str).Nodup by decide +kernel))) (λ_ _ _ _=>cX) (λ_ _ _ _=>(qR (ae (bD T.JZ (Va T) hr (ah (bv 1) ax))) (wc (uu kI um (ae au) (bv 1) (bv 0))))) rfl)) ax))))),λds Q h=>?_⟩
 obtain⟨l,w,n,rfl,hl,hw,ha,q⟩:=h
 refine aD λU hU=>?_
 walk_at"l3"
 rw[if_neg (by rw[hl];simp)]
 refine hU _ ?_
 clear hU U
 walk_at"l3"
 refine dE l (λ(i:Nat)=>D.int (i:Int)) (λ_=>D.bl true) (mZ l) g9 (λi hi=>?_) (.inr λ_ _=>rfl) (by rw[sL];omega) ?_
 ·walk_at"l3"
  have:=ha i hi
  refine⟨i,rfl,true,rfl,?_⟩
  rw[if_pos rfl,if_pos (by omega)]
  omega
 ·refine⟨l.map λ_=>true,by unfold lN;rw[bP];rfl,?_⟩
  have e:(l.map λ_=>true).all id=true:=by simp
  rw[e];exact q
noncomputable abbrev az8:aX:=λds Q=>∃(T:List (List Nat)) (r w n:Nat),ds=[.lst false (ao false T),.int r,.int w,.int n]/\T.length=r/\r<=1000/\w<=1000/\RT n w T/\Q (.bl true)
theorem az9(T:Txt K mg t):aJ P w K mg base aP 3 t.SV t.SW ["_law_table_here","_law_rows","_law_wide","_law_many_here"] (aY (az8 )):=by
 refine bw T.Us.F ax1 (λds Q h=>by obtain⟨G,r,w,n,rfl,hG,hr,hw,hR,q⟩:=h<;>rfl) λaC A outer s H E hr=>⟨_,(aE (cF (PW.pt (mM (kF (ig (ae (mW (by rfl) T.nu (by rfl) T.vC uf (bv 0))))) (qB (bU (iQ (cH hr)) (ae (du (fK) (by rfl) T.fC ft (ah (bv 0) ax))) (bv 1) (bH _))))) (aB (aR g7)) cQ)
   (aB (aR (du (uv rfl) (by rfl) T.vB ue (ah (ae (dy [("_law_wide",2),("_law_many_here",3)] ["_law_row"] rfl (gx (bv 0)) (λ_ _ _ _=>(dM (i:=2) (show(["_law_wide","_law_many_here","_law_row"]:List Str).Nodup by decide +kernel))) (λ_ _ _ _=>cX) (λ_ _ _ _=>(bD T.Ur (aD7 T) hr (ah (bv 2) (ah (bv 0) (ah (bv 1) ax))))) rfl)) ax))))),λds Q h=>?_⟩
 obtain⟨G,r,w,n,rfl,hG,hr,hw,hR,q⟩:=h
 refine aD λU hU=>?_
 walk_at"l3"
 rw[if_neg (by rw[hG];simp)]
 refine hU _ ?_
 clear hU U
 walk_at"l3"
 refine dE G (λr=>D.lst false (aq r)) (λ_=>D.bl true) (by rw[de];rfl) (λa b h=>kN a b h) (λl nO=>?_) (.inr λ_ _=>rfl) (by rw[sL];omega) ?_
 ·walk_at"l3"
  exact⟨l,w,n,rfl,(hR l nO).1,hw,(hR l nO).2,rfl⟩
 ·refine⟨G.map λ_=>true,by unfold lN;rw[bP];rfl,?_⟩
  have e:(G.map λ_=>true).all id=true:=by simp
  rw[e];exact q
noncomputable abbrev aK4:aX:=λds Q=>∃m:Bool × Nat,ds=[cB m]/\bl m.2<=1000/\1<=bl m.2/\Q (.int (aa m:Nat))
theorem Aj(T:Txt K mg t):aJ P w K mg base aP 1 t.SX t.SY ["_law_told_here"] (aY (aK4 )):=by
 refine bw T.xq.F aJ5 (λds Q h=>by obtain⟨m,rfl,h1,h2,q⟩:=h<;>rfl) λaC A outer s H E hr=>⟨_,(aE (cF (ig (bB (bv 0) (ae au) (λ_ _=>rfl))) (aB (aR (aA wH (ae au) (ae (aA dX (ae (oQ (bB (bv 0) (ae au) (λ_ _=>rfl)))) (ae au)))))) cQ)
   (aB (aR (dq (bB (bv 0) (ae au) (λ_ _=>rfl)))))),λds Q h=>?_⟩
 obtain⟨m,rfl,h1,h2,q⟩:=h
 unfold cB at *
 refine aD λU hU=>?_
 walk_at"l3"
 obtain⟨b,n⟩:=m
 cases b with
 | true =>
  refine⟨_,rfl,true,rfl,?_⟩
  rw[if_pos rfl]
  refine⟨_,rfl,?_⟩
  have o1:bl (1:Int).natAbs=1:=by decide
  have e:(1:Int)*2 ^ (((bl ((n:Int)).natAbs:Nat):Int)-1).toNat=((aa (true,n):Nat):Int):=by
   have j6:1<=bl n:=h2
   rw[jy,show(((bl n:Nat):Int)-1)=((bl n-1:Nat):Int) by omega,show(1:Int)=((1:Nat):Int) from rfl,wo,EI];rfl
  refine⟨?_,by rw[e];exact q⟩
  rw[jy]
  have kD:bl n<=1000:=h1
  have j6:1<=bl n:=h2
  exact⟨by omega,by omega⟩
 | false =>
  refine⟨_,rfl,false,rfl,?_⟩
  rw[if_neg (by decide)]
  refine hU _ ?_
  walk_at"l3"
  exact⟨_,rfl,rfl,q⟩
noncomputable abbrev aK5:aX:=λds Q=>∃(m:Bool × Nat) (a b:Nat),ds=[cB m,.int a,.int b]/\0<m.2/\Q (.int (gp m a b:Nat))
theorem aK6(T:Txt K mg t):aJ P w K mg base aP 1 t.S0 t.S1 ["_law_told_here","_law_a","_law_b"] (aY (aK5 )):=by
 refine bw T.Ut.F aJ6 (λds Q h=>by obtain⟨m,a,b,rfl,h0,q⟩:=h<;>rfl) λaC A outer s H E hr=>⟨_,(aE (cF (ig (bB (bv 0) (ae au) (λ_ _=>rfl))) (aB (aR (aA yP (bv 1) (bv 2)))) cQ)
   (aB (aR (aA dJ (ae (aA dr (bv 1) (bv 2))) (bB (bv 0) (ae au) (λ_ _=>rfl)))))),λds Q h=>?_⟩
 obtain⟨m,a,b,rfl,h0,q⟩:=h
 unfold cB at *
 obtain⟨k,n⟩:=m
 refine aD λU hU=>?_
 walk_at"l3"
 cases k with
 | true =>
  refine⟨_,rfl,true,rfl,?_⟩
  rw[if_pos rfl,qH]
  exact q
 | false =>
  refine⟨_,rfl,false,rfl,?_⟩
  rw[if_neg (by decide)]
  refine hU _ ?_
  walk_at"l3"
  refine⟨_,rfl,?_⟩
  refine⟨by omega,?_⟩
  have e:((gp (false,n) a b:Nat):Int)=((a:Int)+b)%n:=by
   show(((a+b)%n:Nat):Int)=_
   rw[tF,Eu]
  rw[<-e];exact q
noncomputable abbrev aI1:aX:=λds Q=>∃(m:Bool × Nat) (a b:Nat),ds=[cB m,.int a,.int b]/\m∈ay/\a<aa m/\b<aa m/\Q (.int (gm m a b:Nat))
theorem aI2(T:Txt K mg t):aJ P w K mg base aP 1 t.S2 t.S3 ["_law_told_here","_law_a","_law_b"] (aY (aI1 )):=by
 refine bw T.Uu.F xi (λds Q h=>by obtain⟨m,a,b,rfl,hm,ha,hb,q⟩:=h<;>rfl) λaC A outer s H E hr=>⟨_,(aE (cF (kF (ig (bB (bv 0) (ae au) (λ_ _=>rfl)))) (aB (aR (aA dJ (ae (aA iP (bv 1) (bv 2))) (bB (bv 0) (ae au) (λ_ _=>rfl))))) cQ)
   (aE (bo (i:=3) xi.nd rfl (az rfl) au)
   (aE (yJ fo (bU uo (bv 2) (ae au) (bH _))
    (aE (cF (bU (fY (cH hr)) (ae (aA OB (bv 2) (ae au))) (ae au) (bH _)) (aB (bo (i:=3) xi.nd rfl (az rfl) (aA yP (bv 3) (bv 1)))) cQ)
    (aE (bo (i:=1) xi.nd rfl (az rfl) (aA wH (bv 1) (ae au)))
    (aE (cF (bU (fY (cH hr)) (ae (oQ (bv 1))) (ae (oQ (bB (bv 0) (ae au) (λ_ _=>rfl)))) (bH _)) (aB (bo (i:=1) xi.nd rfl (az rfl) (aA yP (bv 1) (bB (bv 0) (ae au) (λ_ _=>rfl))))) cQ)
    (aB (bo (i:=2) xi.nd rfl (az rfl) (aA OA (bv 2) (ae au))))))))
   (aB (aR (em 3)))))),λds Q h=>?_⟩
 obtain⟨m,a,b,rfl,hm,ha,hb,q⟩:=h
 unfold cB at *
 obtain⟨k,n⟩:=m
 refine aD λU hU=>?_
 walk_at"l3"
 have hF:=cI hm
 cases k with
 | false =>
  refine⟨_,rfl,false,rfl,?_⟩
  have vD:n<=64:=hF.hi
  have l2:2<=n:=hF.lo
  have ha':a<n:=ha
  have y9:b<n:=hb
  rw[if_pos (by decide)]
  refine⟨j4.ok (.inr ⟨by omega,by omega⟩),_,rfl,by omega,?_⟩
  have e:((gm (false,n) a b:Nat):Int)=(a:Int)*b%n:=by
   show((a*b%n:Nat):Int)=_
   rw[tF,xW]
  rw[<-e];exact q
 | true =>
  refine⟨_,rfl,true,rfl,?_⟩
  rw[if_neg (by decide)]
  have hp:=zo hm
  have bp:=PJ n hp
  have DF:=PK n hp
  have p0:n≠0:=λz=>by rw[z,nZ]at DF;omega
  have gL:bl a<bl n:=by
   have:=fc.mpr (show a<2 ^ (bl n-1) from ha)
   omega
  have hy0:bl b<bl n:=by
   have:=fc.mpr (show b<2 ^ (bl n-1) from hb)
   omega
  refine hU _ ?_
  clear hU U
  refine aD λU hU=>?_
  walk_at"l3"
  refine hU _ ?_
  clear hU U
  refine aD λU hU=>?_
  walk_at"l3"
  refine⟨λm δ=>∃(x y z:Nat),δ=[some (.tup [.bl true,.int n]),some (.int (x:Nat)),some (.int (y:Nat)),some (.int (z:Nat))]/\z ^^^ md (cl x y) n=gm (true,n) a b/\bl x<bl n/\bl y<bl n/\m=bl y,
   ⟨bl b,a,b,0,rfl,by rw[qo];rfl,gL,hy0,rfl⟩,?_⟩
  rintro m δ ⟨x,y,z,rfl,inv,hx,hy,rfl⟩
  walk_at"l3"
  split
  ·rename_i KN
   have xf:=iG (show y≠0 by omega)
   have DG:bl (y/2)=bl y-1:=Z5 y
   have e1:((x:Int)*2 ^ (1:Int).toNat)=((2*x:Nat):Int):=by
    show(x:Int)*(2:Int) ^ 1=_
    omega
   have e2:((y:Int)/2 ^ (1:Int).toNat)=((y/2:Nat):Int):=by
    show(y:Int)/(2:Int) ^ 1=_
    omega
   have a1:qh (y:Int) 1=((y%2:Nat):Int):=by
    rw[show(1:Int)=((1:Nat):Int) from rfl,N2,Nat.and_one_is_mod]
   have tm:=ck4 (y:=y) p0 hx
   have tb:=co6 p0 hx
   clear hU
   refine aD λU hU=>?_
   walk_at"l3"
   have fin:∀z':Nat,z'=z ^^^ (if y%2=1 then x else 0)->U [some (.tup [.bl true,.int n]),some (.int x),some (.int y),some (.int z')]:=by
    intro z' hz
    have dn9:z' ^^^ md (cl (if bl (2*x)=bl n then 2*x ^^^ n else 2*x) (y/2)) n=gm (true,n) a b:=by
     rw[hz,tw,<- tm];exact inv
    refine hU _ ?_
    clear hU
    refine aD λU hU=>?_
    walk_at"l3"
    refine⟨⟨by decide,by simp only[jy];omega⟩,hU _ ?_⟩
    clear hU
    rw[e1]
    refine aD λU hU=>?_
    walk_at"l3"
    have last:∀x':Nat,x'=(if bl (2*x)=bl n then 2*x ^^^ n else 2*x)->U [some (.tup [.bl true,.int n]),some (.int (x':Nat)),some (.int y),some (.int z')]:=by
     intro x' cU
     refine hU _ ?_
     walk_at"l3"
     exact⟨by decide,bl (y/2),by omega,x',y/2,z',⟨rfl,e2,rfl⟩,by rw[cU];exact dn9,by rw[cU];exact tb,by omega,rfl⟩
    refine⟨_,rfl,?_⟩
    show(if(((bl (((2*x:Nat):Int)).natAbs:Nat):Int)=((bl ((n:Int)).natAbs:Nat):Int))then _ else _)
    rw[jy,jy]
    split
    ·rename_i hc
     refine⟨_,rfl,?_⟩
     have g:=last (2*x ^^^ n) (by rw[if_pos (by omega)])
     rw[<-qH]at g
     exact g
    ·rename_i hc
     exact last (2*x) (by rw[if_neg (by omega)])
   rw[a1]
   split
   ·rename_i DE
    have odd:y%2=1:=by omega
    have g:=fin (z ^^^ x) (by rw[if_pos odd])
    rw[<-qH]at g
    exact g
   ·rename_i DE
    exact fin z (by rw[if_neg (by omega),mj])
  ·rename_i KN
   have hy:y=0:=by omega
   subst hy
   rw[ZP,zk (by rw[nZ];exact iG p0),mj]at inv
   subst inv
   refine hU _ ?_
   walk_at"l3"
   exact q
noncomputable abbrev aM1:aX:=λds Q=>∃(m:Bool × Nat) (xs ys:List Nat),ds=[cB m,.lst false (aq xs),.lst false (aq ys)]/\m∈ay/\xs.length=ys.length/\xs.length<=64/\(∀x∈xs,x<aa m)/\(∀y∈ys,y<aa m)/\Q (.int (gd m xs ys:Nat))
theorem aM2(T:Txt K mg t):aJ P w K mg base aP 2 t.S4 t.S5 ["_law_told_here","_law_xs","_law_ys"] (aY (aM1 )):=by
 refine bw T.Uv.F CT (λds Q h=>by obtain⟨m,xs,ys,rfl,hm,hl,DI,hx,hy,q⟩:=h<;>rfl) λaC A outer s H E hr=>⟨_,(aE (bo (i:=3) CT.nd rfl (az rfl) au)
   (aE (gK fo rfl (yW rfl T.Aa (ah (bv 1) (ah (bv 2) ax))) (si (i1:=4) (i2:=5) rfl CT.nd rfl (az rfl) rfl (az rfl))
    (aB (bo (i:=3) CT.nd rfl (az rfl) (bD T.Ut (aK6 T) hr (ah (bv 0) (ah (bv 3) (ah (ae (bD T.Uu (aI2 T) hr (ah (bv 0) (ah (bv 4) (ah (bv 5) ax))))) ax)))))))
   (aB (aR (em 3))))),λds Q h=>?_⟩
 obtain⟨m,xs,ys,rfl,hm,hl,DI,hx,hy,q⟩:=h
 refine aD λU hU=>?_
 walk_at"l3"
 refine hU _ ?_
 clear hU U
 refine aD λU hU=>?_
 walk_at"l3"
 refine⟨_,_,rfl,rfl,?_⟩
 refine gJ.mk (λi δ=>∃o1 o2,δ=[some (cB m),some (.lst false (aq xs)),some (.lst false (aq ys)),some (.int (((eI (gm m) xs ys).take i).foldl (gp m) 0:Nat)),o1,o2]) ⟨none,none,rfl⟩ ?_ ?_
 ·rintro i d δ hd ⟨o1,o2,rfl⟩
  obtain⟨hi,hj,rfl⟩:∃(hi:i<xs.length) (hj:i<ys.length),d=.tup [.int (xs[i]:Nat),.int (ys[i]:Nat)]:=by
   unfold fh at hd
   rw[dQ,dQ,Er]at hd
   by_cases hi:i<xs.length
   ·have hj:i<ys.length:=by omega
    rw[xS,aO hi,aO hj]at hd
    exact⟨hi,hj,(dh hd).symm⟩
   ·rw[fF (by simp;omega)]at hd;cases hd
  have cR:=hx xs[i] (cT _)
  have KN:=hy ys[i] (cT _)
  walk_at"l3"
  have hF:=cI hm
  have t1:(cB m).sh=cB m:=rfl
  have t2:(cB m).pl=true:=rfl
  have m0:0<m.2:=b8 m hm
  refine⟨m,xs[i],ys[i],rfl,hm,cR,KN,m,_,gm m xs[i] ys[i],rfl,m0,by simp[D.pl],_,_,?_,rfl,rfl⟩
  rw[List.take_succ,Ex,xS,aO hi,aO hj];rfl
 ·rintro δ ⟨o1,o2,rfl⟩
  refine hU _ ?_
  walk_at"l3"
  have e:(fh (aq xs) (aq ys)).length=xs.length:=by unfold fh;rw[nM,fu,fu];omega
  rw[e,AJ (by rw[nM];omega)]
  exact q
noncomputable abbrev aG3:aX:=λds Q=>∃(m:Bool × Nat) (xs:List Nat) (T:List (List Nat)) (w:Nat),ds=[cB m,.lst false (aq xs),.lst false (ao false T),.int w]/\m∈ay/\AllLt (aa m) xs/\xs.length<=64/\T.length=xs.length/\w<=1000/\RT (aa m) w T/\Q (.lst true (aq (jq m xs T w)))
theorem Vb(T:Txt K mg t):aJ P w K mg base aP 3 t.S6 t.S7 ["_law_told_here","_law_xs","_law_table_here","_law_wide"] (aY (aG3 )):=by
 refine bw T.J0.F aF7 (λds Q h=>by obtain⟨m,xs,G,wi,rfl,hm,hx,yQ,hG,hw,hR,q⟩:=h<;>rfl) λaC A outer s H E hr=>⟨_,(aB (aR (dy [("_law_told_here",0),("_law_xs",1),("_law_table_here",2)] ["_law_k"] rfl (jO rfl T.gg (ah (bv 3) ax)) (λ_ _ _ _=>(dM (i:=3) (show(["_law_told_here","_law_xs","_law_table_here","_law_k"]:List Str).Nodup by decide +kernel))) (λ_ _ _ _=>cX) (by exact λ_ _ _ _=>(bD T.Uv (aM2 T) hr (ah (bv 0) (ah (bv 1) (ah (ae (dy [("_law_k",3)] ["_law_row"] rfl (gx (bv 2)) (λ_ _ _ _=>(dM (i:=1) (show(["_law_k","_law_row"]:List Str).Nodup by decide +kernel))) (λ_ _ _ _=>cX) (λ_ _ _ _=>(dq (bB (bv 1) (bv 0) (λ_ _=>rfl)))) rfl)) ax))))) rfl))),λds Q h=>?_⟩
 obtain⟨m,xs,G,wi,rfl,hm,hx,yQ,hG,hw,hR,q⟩:=h
 walk_at"l3"
 refine⟨⟨by omega,by omega⟩,dE (aF wi) (λ(i:Nat)=>D.int (i:Int)) (λk=>D.int ((gd m xs (G.map λr=>r.getD k 0):Nat):Int)) (pG _ rfl) g9 (λk hk=>?_) (.inr λ_ _=>rfl) (by rw[bS,sL];omega) ?_⟩
 ·have hk:=cA.mp hk
  walk_at"l3"
  refine dE G (λr=>D.lst false (aq r)) (λr=>D.int ((r.getD k 0:Nat):Int)) (by rw[de];rfl) (λa b h=>kN a b h) (λr bf=>?_) (.inr λr _=>rfl) (by rw[sL];omega) ?_
  ·walk_at"l3"
   have hl:=(hR r bf).1
   exact⟨.int (r.getD k 0:Nat),by rw[kM (by omega) (by omega),iE],rfl,rfl⟩
  ·refine⟨m,xs,G.map λr=>r.getD k 0,?_,hm,by rw[bt,hG],yQ,hx,λy hy=>?_,?_⟩
   ·rw[dQ (G.map _),bP,cV,bP];rfl
   ·obtain⟨r,bf,rfl⟩:=bE.mp hy
    exact(hR r bf).2.getD (by have:=(cI hm).lo;omega) k
   ·exact⟨by rw[rT,jx],rfl⟩
 ·unfold jq at q
  rw[dQ,bP]at q
  exact q
noncomputable abbrev aA0:aX:=λds Q=>∃(m:Bool × Nat) (G V:List (List Nat)),ds=[cB m,.lst false (ao false G),.lst false (ao false V)]/\m∈ay/\0<G.length/\G.length<=64/\RT (aa m) (af G) G/\af G<=64/\V.length=af G/\RT (aa m) G.length V/\(∀k,k<af G->jq m (V.getD k []) G (af G)=eX (af G) k)/\Q (.bl true)
theorem aA1(T:Txt K mg t):aJ P w K mg base aP 4 t.S8 t.S9 ["_law_told_here","_law_table_here","_law_found"] (aY (aA0 )):=by
 refine bw T.Uw.F IZ (λds Q h=>by obtain⟨m,G,V,rfl,hm,xy,hG,hR,hw,hV,KO,hu,q⟩:=h<;>rfl) λaC A outer s H E hr=>⟨_,(aE (bo (i:=3) IZ.nd rfl (az rfl) (du (fK) (by rfl) T.fC ft (ah (bB (bv 1) (ae au) (λ_ _=>rfl)) ax)))
   (aE (cF (kF (ig (ae (bD T.Us (az9 T) hr (ah (bv 2) (ah (bv 3) (ah (ae (du (fK) (by rfl) T.fC ft (ah (bv 1) ax))) (ah (ae (bD T.xq (Aj T) hr (ah (bv 0) ax))) ax)))))))) (aB (aR g7)) cQ)
   (aE (gK fo rfl (jO rfl T.gg (ah (bv 3) ax)) (jl (i:=4) IZ.nd rfl (bY rfl))
    (aB (cF (bU (iQ (cH hr)) (ae (bD T.J0 (Vb T) hr (ah (bv 0) (ah (bB (bv 2) (bv 4) (λ_ _=>rfl)) (ah (bv 1) (ah (bv 3) ax)))))) (ae (dy [("_law_k",4)] ["_law_i"] rfl (jO rfl T.gg (ah (bv 3) ax)) (λ_ _ _ _=>(dM (i:=1) (show(["_law_k","_law_i"]:List Str).Nodup by decide +kernel))) (λ_ _ _ _=>cX) (λ_ _ _ _=>(OM cs5 (by rfl) T.Kt FH (ah (ae (yH (fY (cH hr)) (bv 1) (bv 0) (bH _))) ax))) rfl)) (bH _)) (aB (aR g7)) cQ)))
   (aB (aR g7))))),λds Q h=>?_⟩
 obtain⟨m,G,V,rfl,hm,xy,hG,hR,hw,hV,KO,hu,q⟩:=h
 have dH:=(cI hm).lo
 have DJ:=zt m hm
 refine aD λU hU=>?_
 walk_at"l3"
 refine⟨.lst false (aq G[0]),pL false xy,?_⟩
 dsimp only
 rw[fu,(hR _ (cT xy)).1]
 refine hU _ ?_
 clear hU U
 refine aD λU hU=>?_
 walk_at"l3"
 refine⟨m,rfl,by omega,by omega,?_⟩
 dsimp only
 refine⟨V,af G,G.length,aa m,rfl,hV,by omega,by omega,KO,rfl,true,rfl,?_⟩
 rw[if_neg (by decide)]
 refine hU _ ?_
 clear hU U
 refine aD λU hU=>?_
 walk_at"l3"
 refine⟨⟨by omega,by omega⟩,yV (λk δ=>∃o1:Option D,δ=[some (cB m),some (.lst false (ao false G)),some (.lst false (ao false V)),some (.int (af G)),o1]) ⟨_,rfl⟩ ?_ ?_⟩
 ·rintro k δ hk ⟨o1,rfl⟩
  simp only[gN,i8,i7]
  clear hU
  have pM:k<V.length:=by omega
  walk_at"l3"
  refine⟨.lst false (aq V[k]),pL false pM,?_⟩
  obtain⟨vl,va⟩:=KO _ (cT pM)
  have Vc:=hu k hk
  rw[l6 pM]at Vc
  rw[m6]
  refine⟨m,V[k],G,af G,rfl,hm,va,by omega,by omega,by omega,hR,?_⟩
  rw[Vc]
  refine⟨by rw[ix,jx],⟨by omega,by omega⟩,dE (aF (af G)) (λ(i:Nat)=>D.int (i:Int)) (λj=>D.int (((if j=k then 1 else 0:Nat):Nat):Int)) (pG _ rfl) g9 (λj hj=>?_) (.inr λ_ _=>rfl) (by rw[bS,sL];omega) ?_⟩
  ·walk_at"l3"
   by_cases e:j=k
   ·rw[if_pos e,if_pos (by omega)];rfl
   ·rw[if_neg e,if_neg (by omega)];rfl
  have e2:((aF (af G)).map λj=>D.int (((if j=k then 1 else 0:Nat):Nat):Int))=aq (eX (af G) k):=by unfold eX;rw[dQ,bP];rfl
  rw[e2,m5,decide_eq_true rfl,if_neg (by decide)]
  exact⟨⟨vd 5 true _,vd 5 true _⟩,_,rfl⟩
 ·rintro δ ⟨o1,rfl⟩
  refine hU _ ?_
  walk_at"l3"
  exact q
noncomputable abbrev aK7:aX:=λds Q=>∃(m:Bool × Nat) (G:List (List Nat)) (S:List Nat),ds=[cB m,.lst false (ao false G),.lst false (aq S),.lst false (ao false (gC m G S))]/\m∈ay/\0<G.length/\G.length<=64/\RT (aa m) (af G) G/\S.length<=64/\(∀j∈S,j<af G)/\af G<=64/\HP m G S/\Q (.bl true)
theorem aK8(T:Txt K mg t):aJ P w K mg base aP 5 t.Ta t.Tc ["_law_told_here","_law_checks","_law_places","_law_found"] (aY (aK7 )):=by
 refine bw T.Ux.F RD (λds Q h=>by obtain⟨m,G,S,rfl,hm,g0,hG,hR,hS,hj,hw,hp,q⟩:=h<;>rfl) λaC A outer s H E hr=>⟨_,(aE (cF (bU (fY (cH hr)) (bv 2) (ae (dD cP)) (bH _)) (aB (aR (yH (fY (cH hr)) (bv 3) (ae (dD cP)) (bH _)))) cQ)
   (aE (Cf (i:=4) RD.nd rfl (az rfl) [("_law_places",2)] ["_law_row"] rfl (gx (bv 1)) (λ_ _ _ _=>(dM (i:=1) (show(["_law_places","_law_row"]:List Str).Nodup by decide +kernel))) (λ_ _ _ _=>cX) (by exact λ_ _ _ _=>(dy [("_law_row",1)] ["_law_k"] rfl (gx (bv 0)) (λ_ _ _ _=>(dM (i:=1) (show(["_law_row","_law_k"]:List Str).Nodup by decide +kernel))) (λ_ _ _ _=>cX) (λ_ _ _ _=>(dq (bB (bv 0) (bv 1) (λ_ _=>rfl)))) rfl)) rfl)
   (aB (aR (bD T.Uw (aA1 T) hr (ah (bv 0) (ah (bv 4) (ah (bv 3) ax)))))))),λds Q h=>?_⟩
 obtain⟨m,G,S,rfl,hm,g0,hG,hR,hS,hj,hw,hp,q⟩:=h
 have dH:=(cI hm).lo
 refine aD λU hU=>?_
 walk_at"l3"
 refine⟨by decide,rfl,?_⟩
 rw[show D.lst true []=D.lst true (aq []) from rfl,m5]
 by_cases c:S=[]
 ·subst c
  rw[decide_eq_true rfl,if_pos rfl,xU.mp hp.ln]
  refine⟨by decide,⟨rfl,rfl⟩,?_⟩
  rw[show D.lst false (ao false [])=D.lst false (aq []) from rfl,m5]
  exact q
 rw[decide_eq_false c,if_neg (by decide)]
 refine hU _ ?_
 clear hU U
 refine aD λU hU=>?_
 walk_at"l3"
 refine dE G (λr=>D.lst false (aq r)) (λr=>D.lst true (aq (S.map λj=>r.getD j 0))) (by rw[de];rfl) (λa b h=>kN a b h) (λr bf=>?_) (.inr λr _=>ix _) (by rw[sL];omega) ?_
 ·have hl:=(hR r bf).1
  walk_at"l3"
  refine dE S (λ(i:Nat)=>D.int (i:Int)) (λ(j:Nat)=>D.int ((r.getD j 0:Nat):Int)) (mZ _) g9 (λj hj'=>?_) (.inr λ_ _=>rfl) (by rw[sL];omega) ?_
  ·have:=hj j hj'
   walk_at"l3"
   exact⟨.int (r.getD j 0:Nat),by rw[kM (by omega) (by omega),iE],rfl,rfl⟩
  ·rw[dQ,bP];rfl
 rw[show(G.map λr=>D.lst true (aq (S.map λj=>r.getD j 0)))=ao true (eY G S) by unfold eY ao;rw[bP];rfl]
 refine hU _ ?_
 clear hU U
 obtain⟨p1,p2⟩:=Cw (F:=S) (show 0<aa m by omega) hR
 have wp:=HE (F:=S) g0
 obtain⟨-,h2,h3,h4⟩:=hp
 walk_at"l3"
 exact⟨m,eY G S,gC m G S,rfl,hm,by omega,by omega,by rw[wp];exact p1,by omega,by omega,by rw[p2];exact h3,by rw[wp];exact h4,rfl,q⟩
noncomputable abbrev Vd:aX:=λds Q=>∃(m:Bool × Nat) (G Ls:List (List Nat)),ds=[cB m,.lst false (ao false G),.lst false (ao false Ls),.lst false (Ls.map λS=>D.tup [.lst false (aq S),.lst false (ao false (gC m G S))])]/\m∈ay/\0<G.length/\G.length<=64/\RT (aa m) (af G) G/\af G<=64/\Ls.length<=5000/\(∀S∈Ls,S.length<=64/\(∀j∈S,j<af G)/\HP m G S)/\Q (.bl true)
theorem Ve(T:Txt K mg t):aJ P w K mg base aP 6 t.Td t.Te ["_law_told_here","_law_checks","_law_sets_here","_law_found"] (aY (Vd )):=by
 refine bw T.J1.F RE (λds Q h=>by obtain⟨m,G,Ls,rfl,hm,g0,hG,hR,hw,hL,hS,q⟩:=h<;>rfl) λaC A outer s H E hr=>⟨_,(aE (cF (PW.pt (mM (kF (ig (ae (mW (by rfl) T.nu (by rfl) T.vC uf (bv 3))))) (qB (bU (iQ (cH hr)) (ae (du (fK) (by rfl) T.fC ft (ah (bv 3) ax))) (ae (du (fK) (by rfl) T.fC ft (ah (bv 2) ax))) (bH _))))) (aB (aR g7)) cQ)
   (aE (gK fo rfl (yW rfl T.Aa (ah (bv 2) (ah (bv 3) ax))) (si (i1:=4) (i2:=5) rfl RE.nd rfl (az rfl) rfl (az rfl))
    (aE (cF (PW.pt (mM (kF (ig (ae (mW (by rfl) T.nu (by rfl) T.df8 η (bv 5))))) (mM (bU (iQ (cH hr)) (ae (du (fK) (by rfl) T.fC ft (ah (bv 5) ax))) (ae au) (bH _)) (mM (kF (ig (ae (mW (by rfl) T.nu (by rfl) T.vC uf (bB (bv 5) (ae au) (λ_ _=>rfl)))))) (qB (bU (iQ (cH hr)) (bB (bv 5) (ae au) (λ_ _=>rfl)) (bv 4) (bH _))))))) (aB (aR g7)) cQ)
    (aE (cF (PW.pt (mM (kF (ig (ae (mW (by rfl) T.nu (by rfl) T.vC uf (bB (bv 5) (ae au) (λ_ _=>rfl)))))) (qB (kF (ig (ae (du (uv rfl) (by rfl) T.vB ue (ah (ae (dy [] ["_law_x"] rfl (gx (bB (bv 5) (ae au) (λ_ _=>rfl))) (λ_ _ _ _=>(dM (i:=0) (show(["_law_x"]:List Str).Nodup by decide +kernel))) (λ_ _ _ _=>cX) (λ_ _ _ _=>(bD T.JZ (Va T) hr (ah (bv 0) ax))) rfl)) ax)))))))) (aB (aR g7)) cQ)
    (aB (cF (kF (ig (ae (bD T.Ux (aK8 T) hr (ah (bv 0) (ah (bv 1) (ah (bv 4) (ah (bB (bv 5) (ae au) (λ_ _=>rfl)) ax)))))))) (aB (aR g7)) cQ)))))
   (aB (aR g7)))),λds Q h=>?_⟩
 obtain⟨m,G,Ls,rfl,hm,g0,hG,hR,hw,hL,hS,q⟩:=h
 refine aD λU hU=>?_
 walk_at"l3"
 rw[bt,decide_eq_true rfl,if_neg (by decide)]
 refine hU _ ?_
 clear hU U
 refine aD λU hU=>?_
 walk_at"l3"
 refine⟨_,_,rfl,rfl,by rw[dG];intro x hx;obtain⟨S,_,rfl⟩:=bE.mp hx;rw[jK,cL,cL,fW,fW,jo,m9];rfl,?_⟩
 have ez:fh (ao false Ls) (Ls.map λS=>D.tup [D.lst false (aq S),D.lst false (ao false (gC m G S))])=Ls.map λS=>D.tup [.lst false (aq S),D.tup [D.lst false (aq S),D.lst false (ao false (gC m G S))]]:=by
  unfold fh ao
  rw[Er,List.zipWith_self]
 rw[ez]
 refine gJ.mk (λj δ=>∃o1 o2,δ=[some (cB m),some (D.lst false (ao false G)),some (D.lst false (ao false Ls)),some (D.lst false (Ls.map λS=>D.tup [D.lst false (aq S),D.lst false (ao false (gC m G S))])),o1,o2]) ⟨_,_,rfl⟩ ?_ ?_
 ·rintro j d δ hd ⟨o1,o2,rfl⟩
  rw[bO]at hd
  obtain⟨S,hx,rfl⟩:=xN.mp hd
  obtain⟨s1,s2,s3⟩:=hS S (s9 hx)
  clear hd hU
  simp only[ik,i8,i7]
  refine aD λU hU=>?_
  walk_at"l3"
  rw[if_neg (by decide)]
  refine⟨_,rfl,true,rfl,?_⟩
  rw[if_neg (by decide)]
  refine⟨_,rfl,vd 5 false _,?_⟩
  rw[m5,decide_eq_true rfl,if_neg (by decide)]
  refine hU _ ?_
  clear hU
  refine aD λU hU=>?_
  walk_at"l3"
  refine⟨_,rfl,true,rfl,?_⟩
  rw[if_neg (by decide)]
  refine⟨_,rfl,_,rfl,dE S (λ(i:Nat)=>D.int (i:Int)) (λ_=>D.bl true) (mZ S) g9 (λi hi=>?_) (.inr λ_ _=>rfl) (by rw[sL];omega) ⟨S.map λ_=>true,by unfold lN;rw[bP];rfl,?_⟩⟩
  ·walk_at"l3"
   exact⟨i,rfl,rfl⟩
  rw[if_neg (by rw[show(S.map λ_=>true).all id=true by simp];decide)]
  refine hU _ ?_
  clear hU
  walk_at"l3"
  refine⟨_,rfl,m,G,S,by rw[cV,de],hm,g0,hG,hR,s1,s2,hw,s3,?_⟩
  refine⟨jx _,true,rfl,?_⟩
  rw[if_neg (by decide)]
  exact⟨_,_,rfl,rfl⟩
 ·rintro δ ⟨o1,o2,rfl⟩
  refine hU _ ?_
  walk_at"l3"
  exact q
noncomputable def nz(ns:List Int)(k:Int):Int:=if k<ns.length then ns.getD k.toNat 0 else(k*k*48271+ns.length*7919)%65537
noncomputable abbrev aK9:aX:=λds Q=>∃(ns:List Int) (k:Int),ds=[.fz (aI ns),.int k]/\0<=k/\k<=1000000/\Q (.int (nz ns k))
theorem vE(T:Txt K mg t):aJ P w K mg base aP 1 t.Tf t.Tg ["_law_script","_law_k"] (aY (aK9 )):=by
 refine bw T.sV.F aJ7 (λds Q h=>by obtain⟨ns,k,rfl,hk,pP,q⟩:=h<;>rfl) λaC A outer s H E hr=>⟨_,(aE (cF (bU um (bv 1) (ae (du (fK) (by rfl) T.fC ft (ah (bv 0) ax))) (bH _)) (aB (aR (dq (bB (bv 0) (bv 1) (λ_ _=>rfl))))) cQ)
   (aB (aR (aA dJ (ae (aA dr (ae (aA iP (ae (aA iP (bv 1) (bv 1))) (ae au))) (ae (aA iP (ae (du (fK) (by rfl) T.fC ft (ah (bv 0) ax))) (ae au))))) (ae au))))),λds Q h=>?_⟩
 obtain⟨ns,k,rfl,hk,pP,q⟩:=h
 unfold nz at q
 refine aD λU hU=>?_
 walk_at"l3"
 split
 ·rename_i h
  rw[if_pos h]at q
  exact⟨_,mY hk h,rfl,q⟩
 ·rename_i h
  rw[if_neg h]at q
  refine hU _ ?_
  walk_at"l3"
  exact⟨j4.ok (.inl ⟨by omega,by omega⟩),j4.ok (.inr ⟨by decide,by decide⟩),j4.ok (.inr ⟨by decide,by decide⟩),by decide,q⟩
noncomputable abbrev aG4:aX:=λds Q=>∃(T:List (List Nat)) (w:Nat),ds=[.lst false (ao false T),.int w]/\T.length<=1000/\w<=1000/\(∀r∈T,r.length<=1000/\∃x∈r,x≠0)/\Q (.lst true (aq (eD T w)))
theorem Vf(T:Txt K mg t):aJ P w K mg base aP 2 t.Th t.Ti ["rows","width"] (aY (aG4 )):=by
 refine bw T.zV.F RF (λds Q h=>by obtain⟨G,w,rfl,hG,hw,hr,q⟩:=h<;>rfl) λaC A outer s H E hr=>⟨_,(aE (bo (i:=2) RF.nd rfl (bY rfl) (bD T.C9 (KJ T) hr (ah (bv 0) ax)))
   (aB (aR (dy [("taken",2)] ["place"] rfl (jO rfl T.gg (ah (bv 1) ax)) (λ_ _ _ _=>(dM (i:=1) (show(["taken","place"]:List Str).Nodup by decide +kernel))) (λ_ _ _ _=>(Gk (bU cu0 (bv 1) (bv 0) (by with_unfolding_all rfl)))) (λ_ _ _ _=>(dq (bv 1))) rfl)))),λds Q h=>?_⟩
 obtain⟨G,w,rfl,hG,hw,hr,q⟩:=h
 refine aD λU hU=>?_
 walk_at"l3"
 refine⟨G,rfl,hG,hr,?_⟩
 refine hU _ ?_
 clear hU U
 walk_at"l3"
 refine⟨⟨by omega,by omega⟩,Ha (aF w) (λ(i:Nat)=>D.int (i:Int)) (λ(i:Nat)=>D.int (i:Int)) (λj=>!(G.map aU).contains j) (pG _ rfl) g9 (λj hj=>?_) (.inr λ_ _ _=>rfl) (by rw[bS,sL];omega) ?_⟩
 ·walk_at"l3"
  exact⟨_,rfl,by rw[b87],λ_=>trivial⟩
 ·rw[dQ]at q
  exact q
noncomputable abbrev Vg:aX:=λds Q=>∃(d:D) (a b:Nat),ds=[d,.int a,.int b]/\Q (.int (a ^^^ b:Nat))
theorem aB7(T:Txt K mg t):aJ P w K mg base aP 1 t.JL t.Tj ["self","a","b"] (aY (Vg )):=by
 refine bw T.Uy.F aB2 (λds Q h=>by obtain⟨d,a,b,rfl,q⟩:=h<;>rfl) λaC A outer s H E hr=>⟨_,(aB (aR (aA yP (bv 1) (bv 2)))),λds Q h=>?_⟩
 obtain⟨d,a,b,rfl,q⟩:=h
 walk_at"l3"
 rw[qH];exact q
noncomputable abbrev Vh(K:Frag):aX:=λds Q=>∃(C:Addr) (p:Nat) (a b:Int),ds=[wW C p,.int a,.int b]/\dk K C/\br K C "prime"/\0<p/\Q (.int ((a-b)%p))
theorem aw7(T:Txt K mg t):aJ P w K mg base aP 1 t.JM t.Tn ["self","a","b"] (aY (Vh K)):=by
 refine bw T.Uz.F aw3 (λds Q h=>by obtain⟨C,p,a,b,rfl,hC,hn,hp,q⟩:=h<;>rfl) λaC A outer s H E hr=>⟨_,(aB (aR (aA dJ (ae (aA dX (bv 1) (bv 2))) (fL (K:=K) (bv 0))))),λds Q h=>?_⟩
 obtain⟨C,p,a,b,rfl,hC,hn,hp,q⟩:=h
 walk_at"l3"
 refine⟨C,_,_,.int p,rfl,hC,hn,rfl,?_⟩
 exact⟨by omega,q⟩
theorem Vi(T:Txt K mg t){m:Bool × Nat}(h0:0<m.2):∃C ns xs sp,fD t.aN t.aQ m=.obj C ns xs/\jV P w K mg base 1 "minus" C sp/\("minus":Str) ∉ ns/\∀(a b:Nat) (Q:D->Prop),Q (.int (gl m a b))->sp [.obj C ns xs,.int a,.int b] Q:=by
 obtain⟨k,n⟩:=m
 cases k with
 | true=>exact⟨_,_,_,Vg,rfl,⟨T.fQ,_,_,_,T.aB5,aB7 T,T.Uy.b⟩,by decide,λa b Q q=>⟨_,a,b,rfl,q⟩⟩
 | false=>exact⟨_,_,_,Vh K,rfl,⟨T.gD,_,_,_,T.aw5,aw7 T,T.Uz.b⟩,by decide,λa b Q q=>⟨_,n,a,b,rfl,T.gD,T.vz,h0,q⟩⟩
noncomputable abbrev au1(cb cp:Addr):aX:=λds Q=>∃(m:Bool × Nat) (T:List (List Nat)) (w:Nat),ds=[fD cb cp m,.lst false (ao false T),.int w]/\m∈ay/\T.length<=1000/\w<=1000/\RT (aa m) w T/\(∀r∈T,∃x∈r,x≠0)/\Q (.lst true (ao true (jr m T w)))
theorem au2(T:Txt K mg t):aJ P w K mg base aP 3 t.To t.Tp ["field","rows","width"] (aY (au1 t.aN t.aQ)):=by
 refine bw T.Dc.F xj (λds Q h=>by obtain⟨m,G,wi,rfl,hm,hG,hw,hR,hr,q⟩:=h<;>rfl) λaC A outer s H E hr=>⟨_,(aE (bo (i:=3) xj.nd rfl (az rfl) (bD T.C9 (KJ T) hr (ah (bv 1) ax)))
   (aE (bo (i:=4) xj.nd rfl (az rfl) (dD cP))
   (BA 3 (aE (gK fo rfl (yK (bD T.zV (Vf T) hr (ah (bv 1) (ah (bv 2) ax)))) (jl (i:=5) xj.nd rfl (az rfl))
    (aE (bo (i:=6) xj.nd rfl (az rfl) (aA iP (ae (dD (eQ au cP))) (bv 2)))
    (aE (GA (i:=6) rfl (by first | exact az rfl | exact bY (az rfl)) au (bv 5))
    (aE (gK fo rfl (yW rfl T.Aa (ah (bv 3) (ah (bv 1) ax))) (si (i1:=7) (i2:=8) rfl xj.nd rfl (az rfl) rfl (az rfl))
     (aB (GA (i:=6) rfl (by first | exact az rfl | exact bY (az rfl)) (lX (P:=P) (w:=w) (K:=K) (mg:=mg) (base:=base) (n:=1) (bv 0) (hr.mono (by decide)) (ah (ae au) (ah (bB (bv 8) (bv 5) (λ_ _=>rfl)) ax))) (bv 7))))
    (aB (uA (i:=4) rfl (by first | exact az rfl | exact bY (az rfl)) (em 6)))))))
   (aB (aR (em 4))))))),λds Q h=>?_⟩
 obtain⟨m,G,wi,rfl,hm,hG,hw,hR,hr,q⟩:=h
 have m0:=b8 m hm
 have dH:=(cI hm).lo
 refine aD λU hU=>?_
 walk_at"l3"
 refine⟨G,rfl,hG,λr bf=>⟨by rw[(hR r bf).1];exact hw,hr r bf⟩,hU _ ?_⟩
 clear hU U
 refine aD λU hU=>?_
 walk_at"l3"
 refine⟨by decide,hU _ ?_⟩
 clear hU U
 refine⟨_,rfl,?_⟩
 rw[m6]
 simp only[i8,i7]
 refine aD λU hU=>?_
 walk_at"l3"
 refine⟨G,wi,rfl,hG,hw,λr bf=>⟨by rw[(hR r bf).1];exact hw,hr r bf⟩,?_⟩
 refine⟨_,rfl,?_⟩
 have hfp:∀j∈eD G wi,j<wi:=λj hj=>cA.mp (qf.mp hj).1
 have lfp:(eD G wi).length<=wi:=by
  have:=W9 (λj=>!(G.map aU).contains j) (aF wi)
  rw[bS]at this
  exact this
 rw[oW]
 refine gJ.mk (λi δ=>∃o1 o2 o3 o4,δ=[some (fD t.aN t.aQ m),some (D.lst false (ao false G)),some (D.int wi),some (D.lst false (aq (G.map aU))),some (D.lst true (ao true (((eD G wi).take i).map (gz m G wi)))),o1,o2,o3,o4]) ⟨_,_,_,_,rfl⟩ ?_ ?_
 ·rintro i d δ hd ⟨o1,o2,o3,o4,rfl⟩
  rw[dQ,bO]at hd
  obtain⟨f,hf,rfl⟩:=xN.mp hd
  have hfw:=hfp f (s9 hf)
  clear hd
  refine aD λU hU=>?_
  walk_at"l3"
  have er:aI (bg wi 0)=aq (bg wi 0):=by
   rw[dQ,MK];unfold aI;rw[MK];rfl
  rw[iE,er]
  refine⟨by decide,⟨by omega,by omega,by omega⟩,hU _ ?_⟩
  clear hU
  refine aD λU hU=>?_
  walk_at"l3"
  refine⟨_,f,rfl,?_,?_⟩
  ·rw[P6 (by omega) (by rw[fu,gj];omega)];rfl
  rw[show(aq (bg wi 0)).set f (D.int 1)=aq ((bg wi 0).set f 1) from P7 _ _ 1]
  refine hU _ ?_
  clear hU
  refine aD λU hU=>?_
  walk_at"l3"
  refine⟨_,_,rfl,rfl,?_⟩
  refine gJ.mk (λk δ=>∃o3 o4,δ=[some (fD t.aN t.aQ m),some (D.lst false (ao false G)),some (D.int wi),some (D.lst false (aq (G.map aU))),some (D.lst true (ao true (((eD G wi).take i).map (gz m G wi)))),some (D.int f),some (D.lst true (aq ((((G.map aU).zip G).take k).foldl (λx z=>x.set z.1 (bx m 0 (z.2.getD f 0))) ((bg wi 0).set f 1)))),o3,o4]) ⟨_,_,rfl⟩ ?_ ?_
  ·rintro k d δ hd ⟨o3,o4,rfl⟩
   obtain⟨hk,rfl⟩:=ck2 hd
   clear hd
   obtain⟨lw,la⟩:=hR _ (cT hk)
   have xl:=Qk (λz:Nat × List Nat=>z.1) (λz=>bx m 0 (z.2.getD f 0)) (((G.map aU).zip G).take k) ((bg wi 0).set f 1)
   rw[qk,gj]at xl
   obtain⟨C,ns,xs,sp,e1,e2,e3,e4⟩:=Vi (P:=P) (w:=w) (base:=base) T m0
   have hld:aU G[k]<wi:=by
    rw[<-lw]
    obtain⟨x,hx,h0⟩:=hr _ (cT hk)
    exact MA ⟨x,hx,by simpa using h0⟩
   have ga:=iU hm (a:=0) (b:=G[k].getD f 0) (by omega) (la.getD (by omega) f)
   walk_at"l3"
   refine⟨C,ns,xs,sp,e1,e2,e3,.int (G[k].getD f 0:Nat),by rw[kM (by omega) (by omega),iE],e4 0 (G[k].getD f 0) _ ⟨rfl,_,aU G[k],rfl,?_,_,_,?_,rfl,rfl⟩⟩
   ·rw[P6 (by omega) (by rw[fu,xl];omega)];rfl
   ·rw[ga.1,P7,nK,Ex]
    have ez:((G.map aU).zip G)[k]?=some (aU G[k],G[k]):=by
     rw[List.zip,xS,bO,aO hk];rfl
    rw[ez];rfl
  ·rintro δ ⟨o3,o4,rfl⟩
   refine hU _ ?_
   walk_at"l3"
   refine⟨⟨_,rfl⟩,by rw[bt,fV];omega,_,_,_,_,?_,rfl,rfl,rfl,rfl⟩
   rw[show((G.map aU).zip G).take (fh (aq (G.map aU)) (ao false G)).length=(G.map aU).zip G from AJ (by unfold fh;rw[Mx,nM,fu,iV];exact bL _),nK,hf,eo]
   exact vg true _ [gz m G wi f]
 ·rintro δ ⟨o1,o2,o3,o4,rfl⟩
  refine hU _ ?_
  walk_at"l3"
  rw[qq]
  exact q
noncomputable abbrev aL0(t:eO)(K:Frag):L2.Sp:=λvs H Q _=>∃(F H0:Hp) (x dx C:Addr) (vf vc:V) (m:Bool × Nat) (G:List (List Nat)) (pre:List (Str × V)),vs=[.ref x,vf,vc]/\L3.ag F H0/\H0 x=none/\L3.ag H0 H/\H x=some (.ins C dx (pre++[]))/\vn pre/\c78 K C /\
 R F H0 [fD t.aN t.aQ m] [vf] []/\R F H0 [.lst false (ao false G)] [vc] []/\m∈ay/\RT (aa m) (af G) G/\G.length<=64/\af G<=64 /\
 ∀H' p1 p2 p3 A1 A2 A3,bM x H H'->H' x=some (.ins C dx (pre++pV.zip [vf,.int (af G:Nat),.ref p1,.ref p2,.ref p3,.int ((eD (bj m G) (af G)).length:Nat)]))->R (λ_=>none) H' [.lst true (ao true G)] [.ref p1] A1->R (λ_=>none) H' [.lst true (ao true (jr m (bj m G) (af G)))] [.ref p2] A2->R (λ_=>none) H' [.lst true (aq (eD (bj m G) (af G)))] [.ref p3] A3->(A1++(A2++A3)).Nodup->(∀a∈A1++(A2++A3),H a=none)->Q .av H'
theorem KP(T:Txt K mg t):aJ P w K mg base aP 4 t.JN t.Tq ["self","field","checks"] (aL0 t K):=by
 refine T.De.F.ok RG (λvs H Q E h=>?_) λaC A outer s H vs Q E hr h=>?_
 ·obtain⟨F,H0,x,dx,C,vf,vc,m,G,pre,rfl,_⟩:=h;rfl
 obtain⟨F,H0,x,dx,C,vf,vc,m,G,pre,rfl,e0,gL,s0,hx,hp,hC,rf,rc,hm,hG,hGl,hGw,q⟩:=h
 refine⟨_,eK (EW (i:=3) RG.nd rfl (az rfl) (jF ((KH T).mono (by decide)) hr rfl T.xp.g T.xp.F.kp T.xp.b .nil da (bV (pv 1) (bV (pv 2) eB))))
  (eK (ie (pv 0) (pv 1) rfl)
  (eK (ie (pv 0) (jF ((Ai T).mono (by decide)) hr rfl T.sU.g T.sU.F.kp T.sU.b .nil da (bV (pv 2) eB)) rfl)
  (eK (ie (pv 0) (jF ((US T).mono (by decide)) hr rfl T.zU.g T.zU.F.kp T.zU.b .nil da (bV (pv 2) eB)) rfl)
  (eK (ie (pv 0) (jF ((au2 T).mono (by decide)) hr rfl T.Dc.g T.Dc.F.kp T.Dc.b .nil da (bV (pv 1) (bV (pv 3) (bV (tY (pv 0) rfl) eB)))) rfl)
  (eK (ie (pv 0) (jF ((Vf T).mono (by decide)) hr rfl T.zV.g T.zV.F.kp T.zV.b .nil da (bV (pv 3) (bV (tY (pv 0) rfl) eB))) rfl)
  (jC (ie (pv 0) (Fg NA rfl T.fC ft (bV (tY (pv 0) rfl) eB)) rfl))))))),?_⟩
 try dsimp only[jR,jS]
 have hn:=cr4 hm hG
 have hk:=cC1 hm hG
 obtain⟨_,iR,iL,_⟩:=iy hm hG
 have fR:∀X:List (List Nat),[D.lst true (ao true X)].all D.fr=true:=λX=>by rw[cL,fg,pK];rfl
 have fN:∀X:List Nat,[D.lst true (aq X)].all D.fr=true:=λX=>by rw[cL,ix];rfl
 refine⟨_,rfl,_,rfl,F,[fD t.aN t.aQ m,.lst false (ao false G)],λd=>d=.lst true (ao true (bj m G)),e0.trans s0,R.cons (A:=[]) (rf.shared (L3.ag.refl _) s0) (rc.shared (L3.ag.refl _) s0),⟨m,G,rfl,hm,by omega,hG,by omega,rfl⟩,λd v F1 H1 A1 hd eE Ak Al Vj r1 Vk KQ=>?_⟩
 subst hd
 obtain⟨p0,rfl⟩:=xa r1
 have cR:=eE.get _ _ hx rfl
 have z1:bM x H H1:=eE.x
 have r1:=r1.qK (fR _) Ak
 have xB:∀X:List (List Nat),[D.lst true (ao true X)].map D.sh=[D.lst false (ao false X)]:=λX=>by rw[cK,cV,de];rfl
 have av:∀{F' H':Hp} {d:D} {v:V} {A':List Addr},R F' H' [d] [v] A'->[d].all D.fr=true->R (λ_=>none) H' [d] [v] A':=λr h=>r.qK h (L3.ag.of λb o e=>by cases e)
 have mv:∀{F' H' xC:Hp} {ds:List D} {vs:List V} {A':List Addr} {fs fs':List (Str × V)},R F' H' ds vs A'->L3.ag H' xC->xC x=some (.ins C dx fs)->ds.all D.fr=true->R F' (upd xC x (.ins C dx fs')) ds vs A':=λr h cU hd=>(r.grow (L3.ag.refl _) h λa ha=>(r.lists a ha).2).vb cU hd
 refine⟨vf,rfl,.ref x,rfl,x,C,dx,_,rfl,cR,hC.cls,hC.field,hp.lt (by decide),?_⟩
 have r2:=mv r1 (L3.ag.refl _) cR (fR _) (fs':=bC "field" vf (pre++[]))
 have z2:=z1.trans (bM.upd (C:=x) (dx:=dx) cR rfl (o':=.ins C dx (bC "field" vf (pre++[]))))
 have eC:upd H1 x (.ins C dx (bC "field" vf (pre++[]))) x=some (.ins C dx (pre++([("field",vf)]:List (Str × V)))):=by rw[bA,hp.put _ _ _ (by decide)];rfl
 generalize upd H1 x (.ins C dx (bC "field" vf (pre++[])))=H2 at r2 z2 eC ⊢
 have t2:=bM.of0 gL s0 z2
 refine⟨_,rfl,F,[.lst false (ao false G)],λd=>d=.int (af G:Nat),e0.trans t2,rc.shared (L3.ag.refl _) t2,⟨G,rfl,by omega,λr bf=>by rw[(hG r bf).1];omega,rfl⟩,λd v F3 H3 A3 hd iB Ag he3 h33 r3 nd3 E2=>?_⟩
 subst hd
 cases r3
 have fm:=iB.get _ _ eC rfl
 refine⟨.ref x,rfl,x,C,dx,_,rfl,fm,hC.cls,hC.length,hp.lt (by show 1<=6;decide),?_⟩
 have r4:=mv r2 iB fm (fR _) (fs':=bC "length" (.int (af G:Nat)) (pre++([("field",vf)]:List (Str × V))))
 have z4:=(z2.trans (iB.x (x:=x))).trans (bM.upd (C:=x) (dx:=dx) fm rfl (o':=.ins C dx (bC "length" (.int (af G:Nat)) (pre++([("field",vf)]:List (Str × V))))))
 have jX:upd H3 x (.ins C dx (bC "length" (.int (af G:Nat)) (pre++([("field",vf)]:List (Str × V))))) x=some (.ins C dx (pre++([("field",vf),("length",.int (af G:Nat))]:List (Str × V)))):=by rw[bA,hp.put _ _ _ (by decide)];rfl
 generalize upd H3 x (.ins C dx (bC "length" (.int (af G:Nat)) (pre++([("field",vf)]:List (Str × V)))))=H4 at r4 z4 jX ⊢
 have t4:=bM.of0 gL s0 z4
 refine⟨_,rfl,F,[.lst false (ao false G)],λd=>d=.lst true (ao true G),e0.trans t4,rc.shared (L3.ag.refl _) t4,⟨G,rfl,by omega,rfl⟩,λd v F5 H5 A5 hd kQ hf5 he5 h35 r5 nd5 yf=>?_⟩
 subst hd
 obtain⟨p1,rfl⟩:=xa r5
 have jt:=kQ.get _ _ jX rfl
 refine⟨.ref x,rfl,x,C,dx,_,rfl,jt,hC.cls,hC.c79,hp.lt (by show 2<=6;decide),?_⟩
 have r6:=mv r4 kQ jt (fR _) (fs':=bC "check_rows" (.ref p1) (pre++([("field",vf),("length",.int (af G:Nat))]:List (Str × V))))
 have k6:=mv (av r5 (fR _)) (L3.ag.refl _) jt (fR _) (fs':=bC "check_rows" (.ref p1) (pre++([("field",vf),("length",.int (af G:Nat))]:List (Str × V))))
 have z6:=(z4.trans (kQ.x (x:=x))).trans (bM.upd (C:=x) (dx:=dx) jt rfl (o':=.ins C dx (bC "check_rows" (.ref p1) (pre++([("field",vf),("length",.int (af G:Nat))]:List (Str × V))))))
 have sW:upd H5 x (.ins C dx (bC "check_rows" (.ref p1) (pre++([("field",vf),("length",.int (af G:Nat))]:List (Str × V))))) x=some (.ins C dx (pre++([("field",vf),("length",.int (af G:Nat)),("check_rows",.ref p1)]:List (Str × V)))):=by rw[bA,hp.put _ _ _ (by decide)];rfl
 generalize upd H5 x (.ins C dx (bC "check_rows" (.ref p1) (pre++([("field",vf),("length",.int (af G:Nat))]:List (Str × V)))))=H6 at r6 k6 z6 sW ⊢
 have n5:∀a∈A5,H a=none:=λa ha=>z4.free (by rw[jX];simp) (yf a ha)
 have t6:=bM.of0 gL s0 z6
 have e6:=e0.trans t6
 refine⟨_,rfl,_,rfl,.ref x,rfl,x,C,dx,_,.int (af G:Nat),rfl,sW,hC.cls,hC.length,(hp.look _ _ (by decide)).trans rfl,L3.bu F H6 A1,[fD t.aN t.aQ m,.lst false (ao false (bj m G)),.int (af G:Nat)],λd=>d=.lst true (ao true (jr m (bj m G) (af G))),n8 e6,R.cons (A:=[]) (rf.shared (iJ e6) t6) (R.cons (A:=[]) (xB _ ▸ r6.bu e6 A1 λ_ h=>h) (.int .nil)),⟨m,bj m G,af G,rfl,hm,by omega,by omega,iR,hn,rfl⟩,λd v F7 H7 A7 hd qa hf7 he7 h37 r7 nd7 Vl=>?_⟩
 subst hd
 obtain⟨p2,rfl⟩:=xa r7
 have nv:=qa.get _ _ sW rfl
 refine⟨.ref x,rfl,x,C,dx,_,rfl,nv,hC.cls,hC.c80,hp.lt (by show 3<=6;decide),?_⟩
 have r8:=mv r6 qa nv (fR _) (fs':=bC "word_rows" (.ref p2) (pre++([("field",vf),("length",.int (af G:Nat)),("check_rows",.ref p1)]:List (Str × V))))
 have k8:=mv k6 qa nv (fR _) (fs':=bC "word_rows" (.ref p2) (pre++([("field",vf),("length",.int (af G:Nat)),("check_rows",.ref p1)]:List (Str × V))))
 have w8:=mv (av r7 (fR _)) (L3.ag.refl _) nv (fR _) (fs':=bC "word_rows" (.ref p2) (pre++([("field",vf),("length",.int (af G:Nat)),("check_rows",.ref p1)]:List (Str × V))))
 have z8:=(z6.trans (qa.x (x:=x))).trans (bM.upd (C:=x) (dx:=dx) nv rfl (o':=.ins C dx (bC "word_rows" (.ref p2) (pre++([("field",vf),("length",.int (af G:Nat)),("check_rows",.ref p1)]:List (Str × V))))))
 have DK:upd H7 x (.ins C dx (bC "word_rows" (.ref p2) (pre++([("field",vf),("length",.int (af G:Nat)),("check_rows",.ref p1)]:List (Str × V))))) x=some (.ins C dx (pre++([("field",vf),("length",.int (af G:Nat)),("check_rows",.ref p1),("word_rows",.ref p2)]:List (Str × V)))):=by rw[bA,hp.put _ _ _ (by decide)];rfl
 generalize upd H7 x (.ins C dx (bC "word_rows" (.ref p2) (pre++([("field",vf),("length",.int (af G:Nat)),("check_rows",.ref p1)]:List (Str × V)))))=H8 at r8 k8 w8 z8 DK ⊢
 have n7:∀a∈A7,H a=none:=λa ha=>z6.free (by rw[sW];simp) (Vl a ha)
 have d57:∀a∈A5,a ∉ A7:=λa ha hb=>by
  obtain⟨⟨ws,e⟩,_⟩:=k6.lists a ha
  rw[Vl a hb]at e;cases e
 have t8:=bM.of0 gL s0 z8
 have e8:=e0.trans t8
 refine⟨_,rfl,.ref x,rfl,x,C,dx,_,.int (af G:Nat),rfl,DK,hC.cls,hC.length,(hp.look _ _ (by decide)).trans rfl,L3.bu F H8 A1,[.lst false (ao false (bj m G)),.int (af G:Nat)],λd=>d=.lst true (aq (eD (bj m G) (af G))),n8 e8,R.cons (A:=[]) (xB _ ▸ r8.bu e8 A1 λ_ h=>h) (.int .nil),⟨bj m G,af G,rfl,by omega,by omega,λr bf=>⟨by rw[(iR r bf).1];omega,hn r bf⟩,rfl⟩,λd v F9 H9 A9 hd DL hf9 he9 h39 r9 nd9 KR=>?_⟩
 subst hd
 obtain⟨p3,rfl⟩:=xa r9
 have Am:=DL.get _ _ DK rfl
 refine⟨.ref x,rfl,x,C,dx,_,rfl,Am,hC.cls,hC.Q7,hp.lt (by show 4<=6;decide),?_⟩
 have Vm:=mv k8 DL Am (fR _) (fs':=bC "message_places" (.ref p3) (pre++([("field",vf),("length",.int (af G:Nat)),("check_rows",.ref p1),("word_rows",.ref p2)]:List (Str × V))))
 have Vn:=mv w8 DL Am (fR _) (fs':=bC "message_places" (.ref p3) (pre++([("field",vf),("length",.int (af G:Nat)),("check_rows",.ref p1),("word_rows",.ref p2)]:List (Str × V))))
 have KS:=mv (av r9 (fN _)) (L3.ag.refl _) Am (fN _) (fs':=bC "message_places" (.ref p3) (pre++([("field",vf),("length",.int (af G:Nat)),("check_rows",.ref p1),("word_rows",.ref p2)]:List (Str × V))))
 have Vo:=(z8.trans (DL.x (x:=x))).trans (bM.upd (C:=x) (dx:=dx) Am rfl (o':=.ins C dx (bC "message_places" (.ref p3) (pre++([("field",vf),("length",.int (af G:Nat)),("check_rows",.ref p1),("word_rows",.ref p2)]:List (Str × V))))))
 have vF:upd H9 x (.ins C dx (bC "message_places" (.ref p3) (pre++([("field",vf),("length",.int (af G:Nat)),("check_rows",.ref p1),("word_rows",.ref p2)]:List (Str × V))))) x=some (.ins C dx (pre++([("field",vf),("length",.int (af G:Nat)),("check_rows",.ref p1),("word_rows",.ref p2),("message_places",.ref p3)]:List (Str × V)))):=by rw[bA,hp.put _ _ _ (by decide)];rfl
 generalize upd H9 x (.ins C dx (bC "message_places" (.ref p3) (pre++([("field",vf),("length",.int (af G:Nat)),("check_rows",.ref p1),("word_rows",.ref p2)]:List (Str × V)))))=H10 at Vm Vn KS Vo vF ⊢
 have n9:∀a∈A9,H a=none:=λa ha=>z8.free (by rw[DK];simp) (KR a ha)
 have d59:∀a∈A5,a ∉ A9:=λa ha hb=>by
  obtain⟨⟨ws,e⟩,_⟩:=k8.lists a ha
  rw[KR a hb]at e;cases e
 have d79:∀a∈A7,a ∉ A9:=λa ha hb=>by
  obtain⟨⟨ws,e⟩,_⟩:=w8.lists a ha
  rw[KR a hb]at e;cases e
 obtain⟨ws,lw,ew⟩:∃ws,ws.length=(eD (bj m G) (af G)).length/\H10 p3=some (.lst ws):=by
  cases KS with
  | own h _ r _=>exact⟨_,by rw[<-r.length,fu],h⟩
 refine⟨.ref x,rfl,x,C,dx,_,.ref p3,rfl,vF,hC.cls,hC.Q7,(hp.look _ _ (by decide)).trans rfl,p3,ws,rfl,.inl (bF.of ew),.ref x,rfl,x,C,dx,_,rfl,vF,hC.cls,hC.size,hp.lt (by show 5<=6;decide),?_⟩
 rw[lw]
 refine q _ p1 p2 p3 A5 A7 A9 (Vo.trans (bM.upd (C:=x) (dx:=dx) vF rfl)) (by rw[bA,hp.put _ _ _ (by decide)];rfl) (mv Vm (L3.ag.refl _) vF (fR _)) (mv Vn (L3.ag.refl _) vF (fR _)) (mv KS (L3.ag.refl _) vF (fN _)) ?_ ?_
 ·exact fX.mpr ⟨nd5,fX.mpr ⟨nd7,nd9,d79⟩,λa ha hb=>(cg.mp hb).elim (d57 a ha) (d59 a ha)⟩
 ·intro a ha
  rcases cg.mp ha with ha | ha
  ·exact n5 a ha
  ·exact(cg.mp ha).elim (n7 a) (n9 a)
noncomputable def vG(M n e f:Int):Prop:=2<=n/\n<=M-1/\1<=e/\e<=n-1/\0<=f/\f<=M-2
noncomputable instance (M n e f:Int):Decidable (vG M n e f):=by unfold vG;infer_instance
noncomputable abbrev aA2:aX:=λds Q=>∃(M n e f:Int),ds=[.int M,.int n,.int e,.int f]/\Q (.bl (decide (vG M n e f)))
theorem aA3(T:Txt K mg t):aJ P w K mg base aP 1 t.Tr t.Ts ["many","length","extra","first"] (aY (aA2 )):=by
 refine bw T.Df.F ax4 (λds Q h=>by obtain⟨M,n,e,f,rfl,q⟩:=h<;>rfl) λaC A outer s H E hr=>⟨_,(aB (aR (qR (ae (uu kI kI (ae au) (bv 1) (ae (aA dX (bv 0) (ae au))))) (qR (ae (uu kI kI (ae au) (bv 2) (ae (aA dX (bv 1) (ae au))))) (wc (uu kI kI (ae au) (bv 3) (ae (aA dX (bv 0) (ae au))))))))),λds Q h=>?_⟩
 obtain⟨M,n,e,f,rfl,q⟩:=h
 walk_at"l3"
 have z:∀b:Bool,(b=true↔vG M n e f)->Q (.bl b):=λb h=>by rw[show b=decide (vG M n e f) by rw[tD,decide_eq_true_eq];exact h];exact q
 unfold vG at z
 repeat' split
 all_goals exact z _ (by simp only[decide_eq_true_eq,tK,false_iff];omega)
noncomputable abbrev bB0(t:eO):List D->List Str->List D->Prop:=λds ns xs=>∃(m:Bool × Nat) (n e f:Nat),ds=[fD t.aN t.aQ m,.int n,.int e,.int f]/\m∈ay/\2<=n/\n+1<=aa m/\1<=e/\e+1<=n/\f+2<=aa m/\ns=(["extra","first","field","length","check_rows","word_rows","message_places","size"]:List Str)/\xs=[.int e,.int f]++nj t.aN t.aQ true m (fP m f (aF n) e)
theorem Vp(T:Txt K mg t)(hB:Bm mg base):aJ P w K mg base aP 5 t.JO t.JP ["self","field","length","extra","first"] (Cz [t.iX,t.iY] t.bR (bB0 t)):=by
 refine T.de1.ok RH (λvs H Q E h=>?_) λaC A outer s H vs Q E hr h=>?_
 ·obtain⟨F,H0,x,dx,bW,ds,ns,xs,rfl,_,_,_,_,_,r,⟨m,n,e,f,rfl,_⟩,_⟩:=h
  have:=r.length
  simp at this
  simp[this]
 obtain⟨F,H0,x,dx,bW,ds,ns,xs,rfl,tb,e0,gL,s0,hx,r,⟨m,n,e,f,rfl,hm,h1,h2,h3,h4,h5,rfl,rfl⟩,q⟩:=h
 have KU:=(cI hm).hi
 obtain⟨vf,DM,B1,B2,rfl,KW,rf,r2⟩:=R.cE r
 obtain⟨rfl,rfl⟩:=qt.mp KW.symm
 obtain rfl:DM=[.int n,.int e,.int f]:=by
  cases r2 with
  | int r=>cases r with
   | int r=>cases r with
    | int r=>cases r;rfl
 refine⟨_,eK (tQ (kF (ig (ae (uj ((aA3 T).mono (by decide)) hr rfl T.Df.g T.Df.F.kp T.Df.b da (ah (fL (K:=K) (bv 1)) (ah (bv 2) (ah (bv 3) (ah (bv 4) ax)))))))) (jC tR) tP)
  (eK (ie (pv 0) (pv 3) rfl)
  (eK (ie (pv 0) (pv 4) rfl)
  (eK (b48 (i:=5) RH.nd rfl (az rfl) [("field",1),("first",4),("length",2)] ["i"] rfl (jO rfl T.gg (ah (bv 3) ax)) (λ_ _ _ _=>(jl (i:=3) (show(["field","first","length","i"]:List Str).Nodup by decide +kernel) rfl (bY rfl) (by decide) (az rfl))) (λ_ _ _ _=>cX) (by exact λ_ _ _ _=>(dy [("field",0),("first",1),("i",3)] ["j"] rfl (jO rfl T.gg (ah (bv 2) ax)) (λ_ _ _ _=>(jl (i:=3) (show(["field","first","i","j"]:List Str).Nodup by decide +kernel) rfl (az (lookup_relabel_local rfl)) (by decide) (bY (lookup_relabel_local rfl)))) (λ_ _ _ _=>cX) (λ_ _ _ _=>(lX (P:=P) (w:=w) (K:=K) (mg:=mg) (base:=base) (n:=1) (bv 0) (hr.mono (by decide)) (ah (ae (aA iP (ae (aA dr (bv 1) (bv 2))) (bv 3))) ax))) rfl)) rfl ⟨rfl,⟨rfl,⟨rfl,trivial⟩⟩⟩ (λ_=>by repeat' (first | exact trivial | refine⟨.inl rfl,?_⟩ | refine⟨.inr (.inl rfl),?_⟩ | refine⟨.inr (.inr ⟨_,rfl⟩),?_⟩)) (λ_=>⟨⟨rfl,.inl rfl,.inl rfl,_,rfl,rfl⟩,⟨⟨rfl,.inl rfl,.inl rfl,_,rfl,rfl⟩,⟨⟨rfl,.inl rfl,.inl rfl,_,rfl,rfl⟩,trivial⟩⟩⟩) rfl (by decide +kernel))
  (jC (mC (HF (E:=E0) T.Ks ((KP T).mono (by decide)) hr T.De.b da rfl T.Ab (bV (pv 0) (bV (pv 1) (bV (pv 5) eB))))))))),?_⟩
 try dsimp only[jR,jS]
 refine⟨⟨H,F⟩,F,[none,some (fD t.aN t.aQ m),some (.int n),some (.int e),some (.int f),none],[],λb _=>b=false,aj.self (e0.trans s0) (.dO (A:=[]) (C:=[]) (rf.shared (L3.ag.refl _) s0) (.dO (A:=[]) (C:=[]) (.int .nil) (.dO (A:=[]) (C:=[]) (.int .nil) (.dO (A:=[]) (C:=[]) (.int .nil) (.av .nil))))),?_,λb ai F1 H1 hb Ak eE c1=>?_⟩
 ·walk_at"l3"
  exact cr7 T m ⟨aa m,n,e,f,rfl,rfl,true,by rw[decide_eq_true (by unfold vG;omega)],rfl⟩
 subst hb
 refine ji ?_
 have s1:=s0.trans eE
 have cR:=eE.get _ _ hx rfl
 refine⟨.int e,rfl,.ref x,rfl,x,t.bR,dx,_,rfl,cR,T.vA,T.Dz,by decide,?_⟩
 have eC:upd H1 x (.ins t.bR dx (bC "extra" (.int e) [])) x=some (.ins t.bR dx [("extra",.int e)]):=by rw[bA];rfl
 have z2:=(eE.x (x:=x)).trans (bM.upd (C:=x) (dx:=dx) cR rfl (o':=.ins t.bR dx (bC "extra" (.int e) [])))
 generalize upd H1 x (.ins t.bR dx (bC "extra" (.int e) []))=H2 at z2 eC ⊢
 refine⟨.int f,rfl,.ref x,rfl,x,t.bR,dx,_,rfl,eC,T.vA,T.Ko,by show 1<1000;decide,?_⟩
 have fm:upd H2 x (.ins t.bR dx (bC "first" (.int f) [("extra",.int e)])) x=some (.ins t.bR dx [("extra",.int e),("first",.int f)]):=by rw[bA];rfl
 have z3:=z2.trans (bM.upd (C:=x) (dx:=dx) eC rfl (o':=.ins t.bR dx (bC "first" (.int f) [("extra",.int e)])))
 generalize upd H2 x (.ins t.bR dx (bC "first" (.int f) [("extra",.int e)]))=H3 at z3 fm ⊢
 have s3:=bM.of0 gL s0 z3
 obtain⟨g1,g2,g3⟩:=HH hm f n (show 1<=e by omega)
 refine⟨⟨H3,F⟩,F,[none,some (fD t.aN t.aQ m),some (.int n),some (.int e),some (.int f),none],[],λd _=>d=.lst true (ao true (fP m f (aF n) e)),aj.self (e0.trans s3) (.dO (A:=[]) (C:=[]) (rf.shared (L3.ag.refl _) s3) (.dO (A:=[]) (C:=[]) (.int .nil) (.dO (A:=[]) (C:=[]) (.int .nil) (.dO (A:=[]) (C:=[]) (.int .nil) (.av .nil))))),?_,λd ai v F4 H4 hd hf4 An c4=>?_⟩
 ·walk_at"l3"
  refine⟨⟨by omega,by omega⟩,dE (aF e) (λ(i:Nat)=>D.int (i:Int)) (λ(i:Nat)=>D.lst true (aq ((aF n).map λ(p:Nat)=>eS m (((f:Int)+(i:Int))*(p:Int))))) (pG _ (by omega)) g9 (λi hi=>?_) (.inr λ_ _=>ix _) (by rw[bS,sL];omega) ?_⟩
  ·have hi:=cA.mp hi
   walk_at"l3"
   refine⟨⟨by omega,by omega⟩,dE (aF n) (λ(i:Nat)=>D.int (i:Int)) (λ(p:Nat)=>D.int ((eS m (((f:Int)+(i:Int))*(p:Int)):Nat):Int)) (pG _ (by omega)) g9 (λp mP=>?_) (.inr λ_ _=>rfl) (by rw[bS,sL];omega) ?_⟩
   ·have:=cA.mp mP
    walk_at"l3"
    obtain⟨C,ns,xs,sp,e1,e2,e3,e4⟩:=by8 (P:=P) (w:=w) (base:=base) T hm (n:=((f:Int)+(i:Int))*(p:Int)) (Q:=λr=>r=D.int ((eS m (((f:Int)+(i:Int))*(p:Int)):Nat):Int)) rfl
    exact⟨C,ns,xs,sp,e1,e2,e3,j4.ok (.inl ⟨by omega,by omega⟩),e4⟩
   ·rw[dQ,bP];rfl
  ·unfold fP ao
   rw[bP];rfl
 subst hd
 obtain⟨A4,C4,r4,_,Vq,KY⟩:=c4.own
 have r4:R F4 H4 [.lst true (ao true (fP m f (aF n) e))] [v] A4:=r4
 obtain⟨pc,rfl⟩:=xa r4
 have jX:=An.get _ _ fm rfl
 have fR:∀X:List (List Nat),[D.lst true (ao true X)].all D.fr=true:=λX=>by rw[cL,fg,pK];rfl
 have xB:∀X:List (List Nat),[D.lst true (ao true X)].map D.sh=[D.lst false (ao false X)]:=λX=>by rw[cK,cV,de];rfl
 have r4:=r4.qK (fR _) hf4
 have KY:∀a∈A4,H3 a=none:=λa ha=>KY a (dZ _ ha)
 have Vq:=(fX.mp Vq).1
 have Vr:=s3.trans An
 have xA:x ∉ A4:=λz=>by rw[KY x z]at fm;cases fm
 have s5:L3.ag H0 (L3.bu H0 H4 A4):=iJ Vr
 have e5:=e0.trans s5
 have r5:R F (L3.bu H0 H4 A4) [.lst true (ao true (fP m f (aF n) e))] [.ref pc] A4:=Q6 r4 λa ha=>by unfold L3.bu;rw[if_pos ha]
 refine⟨.ref x,rfl,vf,rfl,.ref pc,rfl,L3.bu F (L3.bu H0 H4 A4) A4,L3.bu H0 H4 A4,x,dx,t.bR,vf,.ref pc,m,fP m f (aF n) e,[("extra",.int e),("first",.int f)],rfl,n8 e5,by rw[qJ xA];exact gL,n8 Vr,jX,.two _ _,⟨T.vA,T.DA,T.DB,T.Dy,T.Kr,T.Kp,T.Kq⟩,rf.shared (iJ e5) s5,xB _ ▸ r5.bu e5 A4 λ_ h=>h,hm,by rw[g3];exact g1,by omega,by omega,λH' p1 p2 p3 B1 B2 B3 sx cU k1 k2 k3 nd fr=>?_⟩
 have z:=(z3.trans (An.x (x:=x))).trans sx
 have so:=bM.of0 gL s0 z
 have ee:=e0.trans s3
 refine q H' [.int e,.int f,vf,.int (af (fP m f (aF n) e):Nat),.ref p1,.ref p2,.ref p3,.int ((cS m (fP m f (aF n) e)).length:Nat)] (B1++(B2++(B3++[]))) z cU rfl ?_ ?_ ?_
 ·have up:∀{ds:List D} {vs:List V} {B:List Addr},R (λ_=>none) H' ds vs B->(∀a∈B,H4 a=none)->R F H' ds vs B:=λr h=>r.keep (L3.ag.of λb o e=>by cases e) (gw.same (L3.ag.refl _)) gZ.nil (λa ha=>ee.free (An.free (h a ha))) (by simp)
  exact .int (.int (R.cons (A:=[]) (rf.shared (L3.ag.refl _) so) (.int (R.cons (up k1 λa ha=>fr a (dZ _ ha)) (R.cons (up k2 λa ha=>fr a (cY _ (dZ _ ha))) (R.cons (up k3 λa ha=>fr a (cY _ (cY _ ha))) (.int .nil)))))))
 ·rw[eH];exact nd
 ·rw[eH]
  intro a ha
  exact z3.free (by rw[fm];simp) (An.free (fr a ha))
theorem DN{m:Bool × Nat}(hm:m∈ay){G:List (List Nat)}(hR:RT (aa m) (af G) G)(h:G.length<af G)(hw:af G<=64):gR m G:=by
 refine⟨hm,hR,by omega,hw,?_⟩
 obtain⟨⟨H,I⟩,iR,_⟩:=iy hm hR
 have f:=I.Cp hm iR
 have r:=cj3 hm hR hR λi hi=>by
  rw[aM,aO hi]
  exact bQ.of (cT hi)
 unfold cS
 omega
noncomputable abbrev aI3(t:eO):aX:=λds Q=>∃(m:Bool × Nat) (ns:List Int),ds=[cB m,.fz (aI ns),fD t.aN t.aQ m]/\m∈ay/\4<aa m/\∀(G:List (List Nat)) (k:Kd),gR m G->1<=G.length->2<=af G->af G<=12->zJ m G k->fk G k<=7->Q (iA t m G k)
theorem aI4(T:Txt K mg t)(hB:Bm mg base):aJ P w K mg base aP 7 t.Tt t.Tu ["_law_told_here","_law_script","_law_field_here"] (u6 [t.iX,t.iY] (aY (aI3 t))):=by
 refine BV T.Dg.F Jj (λds Q h=>by obtain⟨m,ns,rfl,hm,h4,q⟩:=h<;>rfl) λaC A outer s H E hT hr=>⟨_,(aE (bo (i:=3) Jj.nd rfl (az rfl) (bD T.xq (Aj T) hr (ah (bv 0) ax)))
   (aE (bo (i:=4) Jj.nd rfl (az rfl) (bD T.sV (vE T) hr (ah (bv 1) (ah (ae au) ax))))
   (aB (aR (CA hT T.Dx ((Vp T hB).mono (by decide)) hr rfl T.DD T.UA da (ah (bv 2) (ah (ae (du (ON rfl) (by rfl) T.UM N5 (ah (ae (aA dX (bv 3) (ae au))) (ah (ae (aA dr (ae au) (ae (aA dJ (ae (aA mS (bv 4) (ae au))) (ae au))))) ax)))) (ah (ae (aA dr (ae au) (ae (aA dJ (bv 4) (ae au))))) (ah (ae (aA dJ (ae (aA mS (bv 4) (ae au))) (ae (aA dX (bv 3) (ae au))))) ax))))))))),λds Q h=>?_⟩
 obtain⟨m,ns,rfl,hm,h4,q⟩:=h
 have hF:=cI hm
 have dH:=hF.lo
 have KU:=hF.hi
 have DJ:=zt m hm
 refine aD λU hU=>?_
 walk_at"l3"
 refine⟨m,rfl,by omega,by omega,hU _ ?_⟩
 clear hU U
 refine aD λU hU=>?_
 walk_at"l3"
 refine⟨ns,2,rfl,by decide,by decide,hU _ ?_⟩
 clear hU U
 generalize nz ns 2=mr
 walk_at"l3"
 obtain⟨n,en,hn,dY7,hnM⟩:∃k:Nat,(if 6+mr/64%7<(aa m:Int)-1 then 6+mr/64%7 else(aa m:Int)-1)=k/\4<=k/\k<=12/\k+1<=aa m:=⟨(if 6+mr/64%7<(aa m:Int)-1 then 6+mr/64%7 else(aa m:Int)-1).toNat,by split<;>omega,by split<;>omega,by split<;>omega,by split<;>omega⟩
 obtain⟨e,ee,Al,he2⟩:∃k:Nat,1+mr%2=k/\1<=k/\k<=2:=⟨(1+mr%2).toNat,by omega,by omega,by omega⟩
 obtain⟨f,ef,hf⟩:∃f:Nat,mr/512%((aa m:Int)-1)=f/\f+2<=aa m:=by
  have n0:=jv (mr/512) (show(aa m:Int)-1≠0 by omega)
  have n1:=jw (mr/512) (show 0<(aa m:Int)-1 by omega)
  exact⟨(mr/512%((aa m:Int)-1)).toNat,by omega,by omega⟩
 rw[en,ee,ef]
 refine⟨mR (by decide) (by decide),by decide,by decide,mR (by decide) (by decide),by omega,_,_,⟨m,n,e,f,rfl,hm,by omega,by omega,by omega,by omega,by omega,rfl,rfl⟩,?_⟩
 rw[eo,CD]
 obtain⟨g1,g2,g3⟩:=HH hm f n (show 1<=e by omega)
 exact q (fP m f (aF n) e) (.vm e f) (DN hm (by rw[g3];exact g1) (by omega) (by omega)) (by omega) (by omega) (by omega) ⟨Rh hm (by omega) g3,by show 1<=e+1;omega,λ_ _ z=>by cases z;rw[g3];exact⟨rfl,by omega,by omega,by omega,by omega⟩⟩ (by show e+1<=7;omega)
noncomputable abbrev KZ(K:Frag):aX:=λds Q=>∃(C:Addr) (ns:List Str) (xs:List D) (n:Nat) (x:D),ds=[.obj C ns xs,x]/\dk K C/\br K C "many"/\(ns.zip xs).lookup ("many":Str)=some (.int n)/\((∃i,x=.int i/\Q (.bl (decide (0<=i)&&decide (i<n))))\/(x=.av/\Q (.bl false)))
theorem Vs(T:Txt K mg t):aJ P w K mg base aP 1 t.CV t.Tv ["self","x"] (aY (KZ K)):=by
 refine bw T.J2.F aF8 (λds Q h=>by obtain⟨C,ns,xs,n,x,rfl,h1,h2,h3,q⟩:=h<;>rfl) λaC A outer s H E hr=>⟨_,(aB (aR (qR (ae (mW (by rfl) T.nu (by rfl) T.Kt FH (bv 1))) (qR (ae (Oq (ae (mW (by rfl) T.nu (by rfl) T.UL N6 (bv 1))))) (wc (uu kI um (ae au) (bv 1) (fL (K:=K) (bv 0)))))))),λds Q h=>?_⟩
 obtain⟨C,ns,xs,n,x,rfl,h1,h2,h3,q⟩:=h
 rcases q with⟨i,rfl,q⟩ | ⟨rfl,q⟩
 ·walk_at"l3"
  split
  ·rename_i h0
   refine⟨C,ns,xs,_,rfl,h1,h2,h3,?_⟩
   dsimp only
   rw[decide_eq_true h0,kS]at q
   exact q
  ·rename_i h0
   rw[decide_eq_false h0,qg]at q
   exact q
 ·walk_at"l3"
  exact q
theorem cm4(T:Txt K mg t)(m:Bool × Nat){x:D}{Q:D->Prop}(h:(∃i,x=.int i/\Q (.bl (decide (0<=i)&&decide (i<aa m))))\/(x=.av/\Q (.bl false))):P2 P w K mg base 1 t.aN t.aQ m "holds" [x] Q:=by
 obtain⟨k,n⟩:=m
 cases k with
 | true=>exact⟨_,_,_,KZ K,rfl,⟨T.fQ,_,_,_,T.J7,Vs T,T.J2.b⟩,by decide,_,_,_,aa (true,n),x,rfl,T.fQ,T.vx,rfl,h⟩
 | false=>exact⟨_,_,_,KZ K,rfl,⟨T.gD,_,_,_,T.Ki,Vs T,T.J2.b⟩,by decide,_,_,_,aa (false,n),x,rfl,T.gD,T.vy,rfl,h⟩
noncomputable abbrev aB8(t:eO):aX:=λds Q=>∃(m:Bool × Nat) (G:List (List Nat)),ds=[fD t.aN t.aQ m,.lst false (ao false G)]/\m∈ay/\RT (aa m) (af G) G/\1<=G.length/\G.length<=12/\2<=af G/\af G<=12/\Q (.bl true)
theorem aB9(T:Txt K mg t):aJ P w K mg base aP 2 t.Tw t.Tx ["field","table"] (aY (aB8 t)):=by
 refine bw T.Dh.F RI (λds Q h=>by obtain⟨m,G,rfl,hm,hR,g1,Ao,w2,mh,q⟩:=h<;>rfl) λaC A outer s H E hr=>⟨_,(aE (cF (PW.pt (mM (bU um (ae (du (fK) (by rfl) T.fC ft (ah (bv 1) ax))) (ae au) (bH _)) (qB (bU uo (ae (du (fK) (by rfl) T.fC ft (ah (bv 1) ax))) (ae au) (bH _))))) (aB (aR g7)) cQ)
   (aE (bo (i:=2) RI.nd rfl (bY rfl) (du (fK) (by rfl) T.fC ft (ah (bB (bv 1) (ae au) (λ_ _=>rfl)) ax)))
   (aE (cF (PW.pt (mM (bU um (bv 2) (ae au) (bH _)) (mM (bU uo (bv 2) (ae au) (bH _)) (qB (ig (ae (du (cD2 rfl) (by rfl) T.df7 ζ (ah (ae (dy [("width",2)] ["row"] rfl (gx (bv 1)) (λ_ _ _ _=>(dM (i:=1) (show(["width","row"]:List Str).Nodup by decide +kernel))) (λ_ _ _ _=>cX) (λ_ _ _ _=>(yH (iQ (cH hr)) (ae (du (fK) (by rfl) T.fC ft (ah (bv 1) ax))) (bv 0) (bH _))) rfl)) ax)))))))) (aB (aR g7)) cQ)
   (aB (aR (du (uv rfl) (by rfl) T.vB ue (ah (ae (dy [("field",0)] ["row"] rfl (gx (bv 1)) (λ_ _ _ _=>(dM (i:=1) (show(["field","row"]:List Str).Nodup by decide +kernel))) (λ_ _ _ _=>cX) (by exact λ_ _ _ _=>(du (uv rfl) (by rfl) T.vB ue (ah (ae (dy [("field",0)] ["x"] rfl (gx (bv 1)) (λ_ _ _ _=>(dM (i:=1) (show(["field","x"]:List Str).Nodup by decide +kernel))) (λ_ _ _ _=>cX) (λ_ _ _ _=>(lX (P:=P) (w:=w) (K:=K) (mg:=mg) (base:=base) (n:=1) (bv 0) (hr.mono (by decide)) (ah (bv 1) ax))) rfl)) ax))) rfl)) ax))))))),λds Q h=>?_⟩
 obtain⟨m,G,rfl,hm,hR,g1,Ao,w2,mh,q⟩:=h
 obtain⟨g,G',rfl⟩:∃g G',G=g::G':=by
  cases G with
  | nil=>exact absurd g1 (by decide)
  | cons g G'=>exact⟨g,G',rfl⟩
 refine aD λU hU=>?_
 walk_at"l3"
 rw[if_neg (by omega),if_neg (by rw[fU]at Ao;omega)]
 refine hU _ ?_
 clear hU U
 refine aD λU hU=>?_
 walk_at"l3"
 refine⟨.lst false (aq g),pL false (T:=g::G') (i:=0) (MJ _),?_⟩
 show U [some (fD t.aN t.aQ m),some (.lst false (ao false (g::G'))),some (.int ((aq g).length:Nat))]
 have gl:(aq g).length=af (g::G'):=by rw[fu];rfl
 rw[gl]
 generalize g::G'=G at hR g1 Ao w2 mh gl hU ⊢
 refine hU _ ?_
 clear hU U
 refine aD λU hU=>?_
 walk_at"l3"
 rw[if_neg (by omega),if_neg (by omega)]
 refine dE G (λr=>D.lst false (aq r)) (λ_=>D.bl false) (by rw[de];rfl) (λa b h=>kN a b h) (λr bf=>?_) (.inr λr _=>rfl) (by rw[sL];omega) ?_
 ·have:=(hR r bf).1
  walk_at"l3"
  rw[decide_eq_true (by omega)];rfl
 refine⟨G.map λ_=>false,by unfold lN;rw[bP];rfl,?_⟩
 rw[if_neg (by simp)]
 refine hU _ ?_
 clear hU U
 walk_at"l3"
 refine dE G (λr=>D.lst false (aq r)) (λ_=>D.bl true) (by rw[de];rfl) (λa b h=>kN a b h) (λr bf=>?_) (.inr λr _=>rfl) (by rw[sL];omega) ?_
 ·obtain⟨r1,r2⟩:=hR r bf
  walk_at"l3"
  refine dE r (λ(i:Nat)=>D.int (i:Int)) (λ_=>D.bl true) (mZ _) g9 (λi hi=>?_) (.inr λ_ _=>rfl) (by rw[sL];omega) ?_
  ·have:=r2 i hi
   walk_at"l3"
   refine cm4 T m (.inl ⟨_,rfl,?_⟩)
   rw[decide_eq_true (by omega),decide_eq_true (by omega)];rfl
  ·refine⟨r.map λ_=>true,by unfold lN;rw[bP];rfl,?_⟩
   simp
 ·refine⟨G.map λ_=>true,by unfold lN;rw[bP];rfl,?_⟩
  rw[show(G.map λ_=>true).all id=true by simp]
  exact q
noncomputable abbrev cl7(t:eO)(P:Program)(w:World)(K:Frag)(mg:Str->Option Value)(base:Heap):aX:=λds Q=>∃(m:Bool × Nat) (G:List (List Nat)),ds=[fD t.aN t.aQ m,.lst false (ao false G)]/\m∈ay/\G.length<=900/\RT (aa m) (af G) G/\af G<=900/\Q (.int (bj m G).length)
theorem cl9(T:Txt K mg t):aJ P w K mg base aP 4 t.Tz t.TB ["field","table"] (aY (cl7 t P w K mg base)):=by
 refine bw T.Di.F co2 (λds Q h=>by obtain⟨m,G,rfl,hm,hG,hR,hw,q⟩:=h<;>rfl) λaC A outer s H E hr=>⟨_,(aB (aR (du (fK) (by rfl) T.fC ft (ah (ae (bD T.xp (KH T) hr (ah (bv 0) (ah (bv 1) ax)))) ax)))),λds Q h=>?_⟩
 obtain⟨m,G,rfl,hm,hG,hR,hw,q⟩:=h
 walk_at"l3"
 refine⟨m,G,rfl,hm,hG,hR,hw,?_⟩
 dsimp only
 rw[iV];exact q
noncomputable abbrev aO1:aX:=λds Q=>∃T:List (List Nat),ds=[.lst false (ao false T)]/\T.length<=1000/\(∀r∈T,r.length=af T)/\af T<=1000/\Q (.lst true (ao true (fA T)))
theorem aO2(T:Txt K mg t):aJ P w K mg base aP 2 t.TC t.TF ["table"] (aY (aO1 )):=by
 refine bw T.UB.F aN7 (λds Q h=>by obtain⟨G,rfl,hG,hr,hw,q⟩:=h<;>rfl) λaC A outer s H E hr=>⟨_,(aB (aR (dy [("table",0)] ["j"] rfl (jO rfl T.gg (ah (ae (bD T.sU (Ai T) hr (ah (bv 0) ax))) ax)) (λ_ _ _ _=>(dM (i:=1) (show(["table","j"]:List Str).Nodup by decide +kernel))) (λ_ _ _ _=>cX) (by exact λ_ _ _ _=>(dy [("j",1)] ["row"] rfl (gx (bv 0)) (λ_ _ _ _=>(dM (i:=1) (show(["j","row"]:List Str).Nodup by decide +kernel))) (λ_ _ _ _=>cX) (λ_ _ _ _=>(dq (bB (bv 1) (bv 0) (λ_ _=>rfl)))) rfl)) rfl))),λds Q h=>?_⟩
 obtain⟨G,rfl,hG,hr,hw,q⟩:=h
 walk_at"l3"
 refine⟨G,rfl,hG,λr bf=>by rw[hr r bf];exact hw,?_⟩
 dsimp only
 refine⟨_,rfl,⟨by omega,by omega⟩,?_⟩
 refine dE (aF (af G)) (λ(i:Nat)=>D.int (i:Int)) (λj=>D.lst true (aq (G.map λr=>r.getD j 0))) (pG _ rfl) g9 (λj hj=>?_) (.inr λj _=>ix _) (by rw[bS,sL];omega) ?_
 ·have hj:=cA.mp hj
  walk_at"l3"
  refine dE G (λr=>D.lst false (aq r)) (λr=>D.int ((r.getD j 0:Nat):Int)) (by rw[de];rfl) (λa b h=>kN a b h) (λr bf=>?_) (.inr λr _=>rfl) (by rw[sL];omega) ?_
  ·walk_at"l3"
   have hl:=hr r bf
   exact⟨.int (r.getD j 0:Nat),by rw[kM (by omega) (by omega),iE],rfl,rfl⟩
  ·rw[dQ,bP];rfl
 ·unfold fA ao at q
  rw[bP]at q
  exact q
noncomputable abbrev aL1:aX:=λds Q=>∃c:List Nat,ds=[.lst false (aq c)]/\c.length<=1000/\Q (.bl (nul c))
theorem aL2(T:Txt K mg t):aJ P w K mg base aP 1 t.TH t.TJ ["column"] (aY (aL1 )):=by
 refine bw T.UC.F aJ8 (λds Q h=>by obtain⟨c,rfl,hc,q⟩:=h<;>rfl) λaC A outer s H E hr=>⟨_,(aB (aR (du (uv rfl) (by rfl) T.vB ue (ah (ae (dy [] ["x"] rfl (gx (bv 0)) (λ_ _ _ _=>(dM (i:=0) (show(["x"]:List Str).Nodup by decide +kernel))) (λ_ _ _ _=>cX) (λ_ _ _ _=>(yH (fY (cH hr)) (bv 0) (ae au) (bH _))) rfl)) ax)))),λds Q h=>?_⟩
 obtain⟨c,rfl,hc,q⟩:=h
 walk_at"l3"
 refine dE c (λ(i:Nat)=>D.int (i:Int)) (λ(x:Nat)=>D.bl (x==0)) (mZ _) g9 (λx hx=>?_) (.inr λ_ _=>rfl) (by rw[sL];omega) ?_
 ·walk_at"l3"
  congr 1
  exact propext (by omega)
 dsimp only
 refine⟨c.map (·==0),by unfold lN;rw[bP];rfl,?_⟩
 rw[qu]
 exact q
noncomputable abbrev Vt(K:Frag):aX:=λds Q=>∃(C:Addr) (p a b:Nat),ds=[zj C p,.int a,.int b]/\dk K C/\br K C "products"/\p∈iq/\a<aa (true,p)/\b<aa (true,p)/\Q (.int (gm (true,p) a b:Nat))
theorem aC0(T:Txt K mg t):aJ P w K mg base aP 1 t.JQ t.TK ["self","a","b"] (aY (Vt K)):=by
 refine bw T.UD.F aB3 (λds Q h=>by obtain⟨C,p,a,b,rfl,hC,hn,hp,ha,hb,q⟩:=h<;>rfl) λaC A outer s H E hr=>⟨_,(aB (aR (dq (bB (bB (fL (K:=K) (bv 0)) (bv 1) (λ_ _=>rfl)) (bv 2) (λ_ _=>rfl))))),λds Q h=>?_⟩
 obtain⟨C,p,a,b,rfl,hC,hn,hp,ha,hb,q⟩:=h
 walk_at"l3"
 refine⟨C,_,_,_,rfl,hC,hn,rfl,?_⟩
 exact⟨_,G4 hp ha,_,G3 hp ha hb,rfl,q⟩
noncomputable abbrev Vu(K:Frag):aX:=λds Q=>∃(C:Addr) (p:Nat) (a b:Int),ds=[wW C p,.int a,.int b]/\dk K C/\br K C "prime"/\0<p/\IntMulOk a b/\Q (.int (a*b%p))
theorem aw8(T:Txt K mg t):aJ P w K mg base aP 1 t.JR t.TL ["self","a","b"] (aY (Vu K)):=by
 refine bw T.UE.F aw4 (λds Q h=>by obtain⟨C,p,a,b,rfl,hC,hn,hp,hm,q⟩:=h<;>rfl) λaC A outer s H E hr=>⟨_,(aB (aR (aA dJ (ae (aA iP (bv 1) (bv 2))) (fL (K:=K) (bv 0))))),λds Q h=>?_⟩
 obtain⟨C,p,a,b,rfl,hC,hn,hp,hm,q⟩:=h
 walk_at"l3"
 exact⟨hm,C,_,_,.int p,rfl,hC,hn,rfl,by omega,q⟩
theorem cp3(T:Txt K mg t){m:Bool × Nat}(hm:m∈ay):∃C ns xs sp,fD t.aN t.aQ m=.obj C ns xs/\jV P w K mg base 1 "times" C sp/\("times":Str) ∉ ns/\∀(a b:Nat) (Q:D->Prop),a<aa m->b<aa m->Q (.int (gm m a b:Nat))->sp [.obj C ns xs,.int a,.int b] Q:=by
 have hF:=cI hm
 obtain⟨k,n⟩:=m
 cases k with
 | true=>exact⟨_,_,_,Vt K,rfl,⟨T.fQ,_,_,_,T.aB6,aC0 T,T.UD.b⟩,by decide,λa b Q ha hb q=>⟨_,n,a,b,rfl,T.fQ,T.xv,zo hm,ha,hb,q⟩⟩
 | false =>
  have vD:n<=64:=hF.hi
  refine⟨_,_,_,Vu K,rfl,⟨T.gD,_,_,_,T.aw6,aw8 T,T.UE.b⟩,by decide,λa b Q ha hb q=>?_⟩
  have ha':a<n:=ha
  have y9:b<n:=hb
  refine⟨_,n,a,b,rfl,T.gD,T.vz,by omega,j4.ok (.inr ⟨by omega,by omega⟩),?_⟩
  have e:((gm (false,n) a b:Nat):Int)=(a:Int)*b%n:=by
   show((a*b%n:Nat):Int)=_
   rw[tF,xW]
  rw[<-e];exact q
noncomputable abbrev co5(t:eO)(P:Program)(w:World)(K:Frag)(mg:Str->Option Value)(base:Heap):aX:=λds Q=>∃(m:Bool × Nat) (c:List Nat) (os:List (List Nat)),ds=[fD t.aN t.aQ m,.lst false (aq c),.lst false (ao false os)]/\m∈ay/\nul c=false/\c.length<=64/\AllLt (aa m) c/\RT (aa m) c.length os/\os.length<=1000/\Q (.lst true (ao true (gP m c os)))
theorem cn4(T:Txt K mg t):aJ P w K mg base aP 3 t.TM t.TN ["field","column","others"] (aY (co5 t P w K mg base)):=by
 refine bw T.UG.F xk (λds Q h=>by obtain⟨m,c,os,rfl,hm,hn,hc,K0,l8,hol,q⟩:=h<;>rfl) λaC A outer s H E hr=>⟨_,(aE (bo (i:=3) xk.nd rfl (az rfl) (dq (bB (ae (dy [] ["k","x"] rfl (wK rfl T.xx (ah (bv 1) ax)) (λ_ _ _ _=>(zH (i1:=0) (i2:=1) (show(["k","x"]:List Str).Nodup by decide +kernel))) (λ_ _ _ _=>(Gk (bU (iQ (cH hr)) (bv 1) (ae au) (bH _)))) (λ_ _ _ _=>(dq (bv 0))) rfl)) (ae au) (λ_ _=>rfl))))
   (aE (bo (i:=4) xk.nd rfl (az rfl) (lX (P:=P) (w:=w) (K:=K) (mg:=mg) (base:=base) (n:=2) (bv 0) (hr.mono (by decide)) (ah (ae au) (ah (bB (bv 1) (bv 3) (λ_ _=>rfl)) ax))))
   (aE (bo (i:=5) xk.nd rfl (az rfl) (dD cP))
   (aE (gK fo rfl (yK (dq (bv 2))) (jl (i:=6) xk.nd rfl (az rfl))
    (aE (bo (i:=7) xk.nd rfl (az rfl) (lX (P:=P) (w:=w) (K:=K) (mg:=mg) (base:=base) (n:=1) (bv 0) (hr.mono (by decide)) (ah (bv 6) (ah (ae (lX (P:=P) (w:=w) (K:=K) (mg:=mg) (base:=base) (n:=1) (bv 0) (hr.mono (by decide)) (ah (bB (bv 6) (bv 3) (λ_ _=>rfl)) (ah (bv 4) ax)))) (ah (bv 1) ax)))))
    (aB (uA (i:=5) rfl (by first | exact az rfl | exact bY (az rfl)) (aA dr (ae (wL (bv 7) uw (uz (bv 3)))) (ae (wL (bv 7) (uz (ae (aA dr (bv 3) (ae au)))) uw)))))))
   (aB (aR (em 5))))))),λds Q h=>?_⟩
 obtain⟨m,c,os,rfl,hm,hn,hc,K0,l8,hol,q⟩:=h
 have dH:=(cI hm).lo
 obtain⟨pl,pn⟩:=Hw hn
 have cp:=K0.getD (show 0<aa m by omega) (aU c)
 have cx:∃x∈c,x≠0:=⟨_,cy pl 0,pn⟩
 refine aD λU hU=>?_
 walk_at"l3"
 refine Ha (aF c.length) (λ(i:Nat)=>D.tup [.int (i:Int),.int ((c.getD i 0:Nat):Int)]) (λ(i:Nat)=>D.int (i:Int)) (λi=>c.getD i 0 != 0) (Qh c) (λa b h=>by injection h with h;simp at h;omega) (λi hi=>?_) (.inr λ_ _ _=>rfl) (by rw[bS,sL];omega) ?_
 ·walk_at"l3"
  refine⟨?_,λ_=>trivial⟩
  by_cases h0:c.getD i 0=0
  ·rw[h0];rfl
  ·rw[decide_eq_false (by omega),bne_iff_ne.mpr h0];rfl
 dsimp only
 refine⟨.int (aU c:Nat),L3.yX (k:=0) (by rw[bO,Qi cx];rfl),rfl,hU _ ?_⟩
 clear hU U
 refine aD λU hU=>?_
 walk_at"l3"
 refine⟨_,_,_,_,wX _ _ m,U5 T m,P1 m _ (by decide),.int (c.getD (aU c) 0:Nat),by rw[kM (by omega) (by omega),iE],m,1,c.getD (aU c) 0,by rw[wX];rfl,hm,dH,cp,λz=>absurd z pn,λ_ iv Vv Hx=>?_⟩
 have ei:nh m (c.getD (aU c) 0)=iv:=Ca hm Vv Hx
 refine⟨rfl,hU _ ?_⟩
 clear hU U
 refine aD λU hU=>?_
 walk_at"l3"
 refine⟨by decide,hU _ ?_⟩
 clear hU U
 refine aD λU hU=>?_
 walk_at"l3"
 refine gJ.mk (λi δ=>∃o6 o7,δ=[some (fD t.aN t.aQ m),some (D.lst false (aq c)),some (D.lst false (ao false os)),some (D.int (aU c)),some (D.int iv),some (D.lst true (ao true (gP m c (os.take i)))),o6,o7]) ⟨_,_,rfl⟩ ?_ ?_
 ·rintro i d δ hd ⟨o6,o7,rfl⟩
  obtain⟨hi,rfl⟩:=b32 hd
  clear hd hU
  obtain⟨ol,oa⟩:=l8 _ (cT hi)
  have op:=oa.getD (show 0<aa m by omega) (aU c)
  obtain⟨C,ns,xs,sp,e1,e2,e3,e4⟩:=U1 (P:=P) (w:=w) (base:=base) T hm
  refine aD λU hU=>?_
  walk_at"l3"
  obtain⟨C1,n1,x1,sp1,g1,g2,g3,g4⟩:=cp3 (P:=P) (w:=w) (base:=base) T hm
  refine⟨C,ns,xs,sp,e1,e2,e3,C1,n1,x1,sp1,g1,g2,g3,.int (os[i].getD (aU c) 0:Nat),by rw[kM (by omega) (by omega),iE],g4 _ iv _ op Vv ⟨rfl,e4 os[i] c (gm m (os[i].getD (aU c) 0) iv) _ (bX hm _ _) K0 (by omega) ⟨rfl,hU _ ?_⟩⟩⟩
  clear hU
  have ep:gP m c (os.take (i+1))=gP m c (os.take i)++[(eI (λx y=>bx m x (gm m (gm m (os[i].getD (aU c) 0) iv) y)) os[i] c).take (aU c)++(eI (λx y=>bx m x (gm m (gm m (os[i].getD (aU c) 0) iv) y)) os[i] c).drop (aU c+1)]:=by
   unfold gP
   rw[nK,aO hi,Mp,eo,cK,i6,ei]
  rw[ep]
  have ll:(eI (λx y=>bx m x (gm m (gm m (os[i].getD (aU c) 0) iv) y)) os[i] c).length<=64:=by rw[nM];omega
  generalize eI (λx y=>bx m x (gm m (gm m (os[i].getD (aU c) 0) iv) y)) os[i] c=lf at ll ⊢
  have pl2:(gP m c (os.take i)).length<=1000:=by rw[Hz,fV];omega
  walk_at"l3"
  rw[GK,show((aU c:Int)+1)=((aU c+1:Nat):Int) by omega,BK]
  exact⟨⟨_,rfl⟩,by rw[fV,iF];omega,by omega,_,_,vg true _ [lf.take (aU c)++lf.drop (aU c+1)],rfl,rfl⟩
 ·rintro δ ⟨o6,o7,rfl⟩
  refine hU _ ?_
  walk_at"l3"
  rw[qq]
  exact q
noncomputable def fS(o:Bool)(l:List Cs):List D:=l.map λs=>.tup [.lst o (aq s.1),.lst o (ao o s.2)]
theorem Vw(o:Bool)(l:List Cs):(fS o l).map D.sh=fS false l:=by
 unfold fS
 rw[bP]
 refine qw λs _=>?_
 show(D.tup [.lst o (aq s.1),.lst o (ao o s.2)]).sh=_
 rw[jL,cK,cK,i6,m6,cV,de]
theorem cm3(l:List Cs):(fS false l).all D.pl=true:=by
 rw[dG]
 intro d hd
 obtain⟨s,_,rfl⟩:=bE.mp hd
 show(D.tup [.lst false (aq s.1),.lst false (ao false s.2)]).pl=true
 rw[jK,cL,cL,fW,fW,jo,m9];rfl
theorem b31(o:Bool)(a b:List Cs):fS o a++fS o b=fS o (a++b):=by unfold fS;rw[eo]
theorem cm9{o:Bool}{l:List Cs}{i:Nat}{d:D}(hd:(fS o l)[i]?=some d):∃hi:i<l.length,d=.tup [.lst o (aq l[i].1),.lst o (ao o l[i].2)]:=by
 unfold fS at hd
 rw[bO]at hd
 by_cases hi:i<l.length
 ·rw[aO hi]at hd
  exact⟨hi,(dh hd).symm⟩
 ·rw[fF (by omega)]at hd;cases hd
theorem b25(o:Bool)(l:List Cs):dP 6 (.lst o (fS o l))=true:=by
 show(fS o l).all (dP 5)=true
 rw[dG]
 intro d hd
 obtain⟨s,_,rfl⟩:=bE.mp hd
 show([D.lst o (aq s.1),.lst o (ao o s.2)]).all (dP 4)=true
 rw[cL,cL,vd 3 o s.1,Qe 2 o o s.2];rfl
theorem bT0{m:Bool × Nat}{c:List Nat}{os:List (List Nat)}{N:Nat}(h:∀o∈os,o.length<=N):∀x∈gP m c os,x.length<=N:=λx hx=>by
 obtain⟨o,ho,rfl⟩:=bE.mp hx
 have:=h o ho
 rw[di,fV,iF,nM]
 omega
noncomputable def ku(l:List Cs):Nat:=(l.map λs=>2 ^ s.2.length).sum
theorem K1(a b:List Cs):ku (a++b)=ku a+ku b:=by unfold ku;rw[eo,List.sum_append]
theorem Vx:∀l:List Cs,(dF l).length<=ku l
 | []=>iC _
 | s::l=>by
  have ih:=Vx l
  have h1:=Nat.lt_two_pow_self (n:=s.2.length)
  show(fB s++dF l).length<=2 ^ s.2.length+ku l
  rw[di,show(fB s).length=s.2.length by unfold fB;rw[bt,bS]]
  omega
theorem Vy(m:Bool × Nat)(w:Nat)(s:Cs):∀i,i<=s.2.length->ku (((aF i).map λi=>(s,i)).map (gQ m w))+2 ^ (s.2.length-i)=2 ^ s.2.length
 | 0,_=>Mw _
 | i+1,h=>by
  have ih:=Vy m w s i (by omega)
  rw[MC,eo,eo,K1]
  have e:ku (([i].map λi=>(s,i)).map (gQ m w))=2 ^ (s.2.length-(i+1)):=by
   show 2 ^ (gP m _ (s.2.drop (i+1))).length+0=_
   rw[Hz,iF];rfl
  rw[e]
  have:2 ^ (s.2.length-i)=2 ^ (s.2.length-(i+1))*2:=by rw[<-nE];congr 1;omega
  omega
theorem Vz(m:Bool × Nat)(w:Nat):∀l:List Cs,ku ((dF l).map (gQ m w))<=ku l
 | []=>bL _
 | s::l=>by
  have ih:=Vz m w l
  have h1:=Vy m w s s.2.length (bL _)
  show ku ((fB s++dF l).map (gQ m w))<=2 ^ s.2.length+ku l
  rw[eo,K1]
  exact Nat.add_le_add (by rw[<-h1];exact Nat.le_add_right ..) ih
noncomputable def cK0:Option (List Nat)->D
 | some l=>.lst true (aq l)
 | none=>.av
noncomputable abbrev aG5(t:eO)(P:Program)(w:World)(K:Frag)(mg:Str->Option Value)(base:Heap):aX:=λds Q=>∃(m:Bool × Nat) (G:List (List Nat)),ds=[fD t.aN t.aQ m,.lst false (ao false G)]/\m∈ay/\G.length<=64/\RT (aa m) (af G) G/\0<af G/\af G<=12/\Q (cK0 (l9 m G))
theorem aG6(T:Txt K mg t):aJ P w K mg base aP 4 t.TQ t.TR ["field","table"] (aY (aG5 t P w K mg base)):=by
 refine bw T.Dj.F sT (λds Q h=>by obtain⟨m,G,rfl,hm,hG,hR,DO,hw,q⟩:=h<;>rfl) λaC A outer s H E hr=>⟨_,(aE (bo (i:=2) sT.nd rfl (az rfl) (bD T.sU (Ai T) hr (ah (bv 1) ax)))
   (aE (bo (i:=3) sT.nd rfl (az rfl) (dD (eQ (yI (eQ (dD cP) (eQ (bD T.UB (aO2 T) hr (ah (bv 1) ax)) cP))) cP)))
   (aE (yJ fo (bU (iQ (cH hr)) (bv 3) (ae (dD cP)) (bH _))
    (aE (bo (i:=4) sT.nd rfl (az rfl) (dD cP))
    (BA 3 (aE (gK fo rfl (yK (dq (bv 3))) (si (i1:=5) (i2:=6) rfl sT.nd rfl (az rfl) rfl (az rfl))
     (aB (gK fo rfl (wK rfl T.xx (ah (bv 6) ax)) (si (i1:=7) (i2:=8) rfl sT.nd rfl (az rfl) rfl (az rfl))
      (aE (bo (i:=9) sT.nd rfl (az rfl) (aA dr (bv 5) (ae (dD (eQ (aA dr (ae (aA dX (bv 2) (ae (du (fK) (by rfl) T.fC ft (ah (bv 6) ax))))) (bv 7)) cP)))))
      (aE (cF (ig (ae (bD T.UC (aL2 T) hr (ah (bv 8) ax)))) (aB (aR (em 9))) cQ)
      (aB (uA (i:=4) rfl (by first | exact az rfl | exact bY (az rfl)) (yI (eQ (em 9) (eQ (bD T.UG (cn4 T) hr (ah (bv 0) (ah (bv 8) (ah (ae (wL (bv 6) (uz (ae (aA dr (bv 7) (ae au)))) uw)) ax)))) cP))))))))))
    (aB (bo (i:=3) sT.nd rfl (az rfl) (em 4)))))))
   (aB (aR Br))))),λds Q h=>?_⟩
 obtain⟨m,G,rfl,hm,hG,hR,DO,hw,q⟩:=h
 have dH:=(cI hm).lo
 refine aD λU hU=>?_
 walk_at"l3"
 refine⟨G,rfl,by omega,λr bf=>by rw[(hR r bf).1];omega,hU _ ?_⟩
 clear hU U
 refine aD λU hU=>?_
 walk_at"l3"
 refine⟨by decide,G,rfl,by omega,λr bf=>(hR r bf).1,by omega,by decide,by decide,hU _ ?_⟩
 clear hU U
 have Ls:=Lv.start hm DO hR
 refine aD λU hU=>?_
 walk_at"l3"
 refine⟨λn δ=>∃(l:List Cs) (k:Nat) (o4 o5 o6 o7 o8 o9:Option D),δ=[some (fD t.aN t.aQ m),some (D.lst false (ao false G)),some (D.int (af G)),some (D.lst true (fS true l)),o4,o5,o6,o7,o8,o9]/\Lv m (gb G) (af G) k l/\k+n=af G+1/\vj m (af G) n l=l9 m G/\ku l<=4096/\∀s∈l,∀r∈s.2,r.length<=64,⟨af G+1,[([],fA G)],0,_,_,_,_,_,_,rfl,Ls,by omega,rfl,?_,λs hs r bf=>?_⟩,?_⟩
 ·show 2 ^ (fA G).length+0<=4096
  rw[(Hq (by omega) DO hR).1]
  exact nG (by decide) hw
 ·rw[gn.mp hs]at bf
  have:=((Hq (by omega) DO hR).2.2 r bf).1
  omega
 rintro n δ ⟨l,k,o4,o5,o6,o7,o8,o9,rfl,L,hk,K2,hll,DI⟩
 walk_at"l3"
 refine⟨by decide,⟨b25 true l,rfl⟩,?_⟩
 by_cases l0:l=[]
 ·subst l0
  rw[show bN (D.lst true (fS true [])) (D.lst true [])=true from rfl,if_neg (by decide)]
  refine hU _ ?_
  walk_at"l3"
  have e0:l9 m G=none:=by
   rw[<-K2]
   cases n with
   | zero=>rfl
   | succ n=>rfl
  rw[e0]at q
  exact q
 have d0:bN (D.lst true (fS true l)) (D.lst true [])=false:=by
  cases l with
  | nil=>exact absurd rfl l0
  | cons s l=>rfl
 rw[d0,if_pos (by decide)]
 have K3:∀s∈l,gB (af G) s.1/\s.2.length<=12:=λs hs=>by
  have g:=(L.gs s hs).1
  have gl:=g.le
  exact⟨⟨g.inc,λx hx=>by have:=g.off x hx;omega⟩,by omega⟩
 obtain⟨n,rfl⟩:∃n',n=n'+1:=by
  cases n with
  | succ n=>exact⟨n,rfl⟩
  | zero =>
   exfalso
   cases l with
   | nil=>exact l0 rfl
   | cons s l =>
    have h1:=(K3 s (gE ..)).1.len
    have h2:=(L.gs s (gE ..)).2
    omega
 clear hU
 have dt6:∀a,(dF (l.take a)).length<=4096:=λa=>by
  have h1:=Vx (l.take a)
  have h2:=K1 (l.take a) (l.drop a)
  rw[vT]at h2
  omega
 refine aD λU hU=>?_
 walk_at"l3"
 refine⟨by decide,hU _ ?_⟩
 clear hU
 refine⟨_,rfl,?_⟩
 rw[cV,Vw]
 simp only[i8,i7]
 refine aD λU hU=>?_
 walk_at"l3"
 refine⟨cm3 l,?_⟩
 rw[Vw]
 refine gJ.mk (λa δ=>(∀z∈dF (l.take a),pT z=false)/\∃o5 o6 o7 o8 o9,δ=[some (fD t.aN t.aQ m),some (D.lst false (ao false G)),some (D.int (af G)),some (D.lst false (fS false l)),some (D.lst true (fS true ((dF (l.take a)).map (gQ m (af G))))),o5,o6,o7,o8,o9]) ⟨λz hz=>absurd hz hJ,_,_,_,_,_,rfl⟩ ?_ ?_
 ·rintro a d δ hd ⟨sM,o5,o6,o7,o8,o9,rfl⟩
  obtain⟨ha,rfl⟩:=cm9 hd
  clear hd hU
  have hs:=cT ha
  obtain⟨gs,gk⟩:=L.gs _ hs
  obtain⟨hh,K4⟩:=gs.rt
  have g6:=(K3 _ hs).2
  have et:dF (l.take (a+1))=dF (l.take a)++fB l[a]:=by
   unfold dF
   rw[nK,aO ha,Mp,EH,EG,List.flatMap_nil,eH]
  rw[et]
  have VA:=dt6 (a+1)
  rw[et,di]at VA
  generalize hS:l[a]=s0 at hs gs gk K4 g6 et VA ⊢
  have l1:(fB s0).length=s0.2.length:=by unfold fB;rw[bt,bS]
  walk_at"l3"
  refine gJ.mk (λi δ=>(∀z∈(fB s0).take i,pT z=false)/\∃o7 o8 o9,δ=[some (fD t.aN t.aQ m),some (D.lst false (ao false G)),some (D.int (af G)),some (D.lst false (fS false l)),some (D.lst true (fS true ((dF (l.take a)++(fB s0).take i).map (gQ m (af G))))),some (D.lst false (aq s0.1)),some (D.lst false (ao false s0.2)),o7,o8,o9]) ⟨λz hz=>absurd hz hJ,_,_,_,by rw[List.take_zero,eH]⟩ ?_ ?_
  ·rintro i d δ hd ⟨Ap,o7,o8,o9,rfl⟩
   obtain⟨hi,rfl⟩:=Qg hd
   clear hd
   obtain⟨cl,ca⟩:=K4 _ (cT hi)
   have gc:s0.2.getD i []=s0.2[i]:=by rw[aM,aO hi];rfl
   have gle:=gs.le
   have ei:(fB s0).take (i+1)=(fB s0).take i++[(s0,i)]:=by
    rw[nK]
    congr 1
    unfold fB
    rw[bO,hW hi];rfl
   have hh6:hh<=64:=by have:=DI _ hs _ (cT hi);omega
   have il1:=(K3 _ hs).1.len
   simp only[ik,i8,i7]
   refine aD λU hU=>?_
   walk_at"l3"
   have eb:aq s0.1++[D.int ((af G:Int)-(s0.2.length:Int)+(i:Int))]=aq (kq (af G) (s0,i)):=by
    unfold kq
    rw[dQ,dQ,eo]
    show _=_++[D.int ((af G-s0.2.length+i:Nat):Int)]
    rw[show(af G:Int)-(s0.2.length:Int)+(i:Int)=((af G-s0.2.length+i:Nat):Int) by omega]
   rw[eb]
   refine⟨by decide,by omega,hU _ ?_⟩
   clear hU
   refine aD λU hU=>?_
   walk_at"l3"
   refine⟨s0.2[i],rfl,by omega,nul s0.2[i],rfl,?_⟩
   cases hz:nul s0.2[i]with
   | true =>
    rw[if_pos rfl]
    have ef:l9 m G=some (kq (af G) (s0,i)):=by
     rw[<-K2,vj,if_neg l0]
     have:(dF l).find? pT=some (s0,i):=by
      refine W8.mpr ⟨by show nul (s0.2.getD i [])=true;rw[gc];exact hz,dF (l.take a)++(fB s0).take i,(fB s0).drop (i+1)++dF (l.drop (a+1)),?_,λz K5=>?_⟩
      ·have e1:dF l=dF (l.take (a+1))++dF (l.drop (a+1)):=by
        conv=>lhs;rw[<-vT (a+1) l]
        unfold dF
        rw[EH]
       have e2:fB s0=(fB s0).take i++(s0,i)::(fB s0).drop (i+1):=by
        conv=>lhs;rw[<-vT (i+1) (fB s0),ei,cZ]
        rfl
       rw[e1,et]
       conv=>lhs;rw[e2]
       simp only[cZ,ju]
      ·have:=(cg.mp K5).elim (sM z) (Ap z)
       rw[this];rfl
     rw[this];rfl
    rw[ef]at q
    exact q
   | false =>
    rw[if_neg (by decide)]
    refine hU _ ?_
    clear hU
    walk_at"l3"
    rw[show((i:Int)+1)=((i+1:Nat):Int) by omega,BK,ei]
    refine⟨⟨_,rfl⟩,m,s0.2[i],s0.2.drop (i+1),rfl,hm,hz,by omega,ca,λr bf=>by rw[cl];exact K4 r (nL bf),by rw[iF];omega,by rw[fg,pK];rfl,by decide,?_,λz K5=>?_,_,_,_,?_,rfl,rfl,rfl⟩
    ·unfold fS
     rw[bt,bt,di,fV]
     omega
    ·rcases cg.mp K5 with y | y
     ·exact Ap z y
     ·rw[gn.mp y]
      show nul (s0.2.getD i [])=false
      rw[gc];exact hz
    ·rw[<-cZ,eo (l₁:=dF (l.take a)++(fB s0).take i),<- b31]
     congr 1
     show _=[D.tup [.lst true (aq (gQ m (af G) (s0,i)).1),.lst true (ao true (gQ m (af G) (s0,i)).2)]]
     show _=[D.tup [.lst true (aq (kq (af G) (s0,i))),.lst true (ao true (gP m (s0.2.getD i []) (s0.2.drop (i+1))))]]
     rw[gc]
  ·rintro δ ⟨Ap,o7,o8,o9,rfl⟩
   rw[show(gM (ao false s0.2)).length=(fB s0).length by rw[wJ,iV,l1],qq]at Ap ⊢
   exact⟨λz hz=>(cg.mp hz).elim (sM z) (Ap z),_,_,_,_,_,rfl⟩
 ·rintro δ ⟨sM,o5,o6,o7,o8,o9,rfl⟩
  refine hU _ ?_
  clear hU
  rw[show(fS false l).length=l.length by unfold fS;rw[bt],qq]at sM ⊢
  walk_at"l3"
  have hf:(dF l).find? pT=none:=MB.mpr λz hz=>by rw[sM z hz];decide
  refine⟨n,by omega,_,k+1,_,_,_,_,_,_,⟨rfl,rfl,rfl,rfl,rfl,rfl,rfl⟩,L.next hm (HC hm hR) sM,by omega,?_,?_,λs hs r bf=>?_⟩
  ·rw[<-K2,vj,if_neg l0,hf]
  ·exact fE (Vz m (af G) l) hll
  ·obtain⟨z,hz,rfl⟩:=bE.mp hs
   exact bT0 (λo ho=>DI _ (w9.mp hz).1 o (nL ho)) r bf
noncomputable abbrev bv8(t:eO):List D->List Str->List D->Prop:=λds ns xs=>∃(m:Bool × Nat) (G:List (List Nat)) (Fb:List Nat),ds=[fD t.aN t.aQ m,.lst false (ao false G)]/\gR m G/\1<=G.length/\G.length<=12/\2<=af G/\af G<=12/\l9 m G=some Fb/\ns=(["field","length","check_rows","word_rows","message_places","size","bound"]:List Str)/\xs=nj t.aN t.aQ true m G++[.int (Fb.length:Nat)]
theorem aC1(T:Txt K mg t)(hB:Bm mg base):aJ P w K mg base aP 5 t.JS t.TU ["self","field","table"] (Cz [t.iX,t.iY] t.cC (bv8 t)):=by
 refine T.UH.F.ok aB4 (λvs H Q E h=>?_) λaC A outer s H vs Q E hr h=>?_
 ·obtain⟨F,H0,x,dx,bW,ds,ns,xs,rfl,_,_,_,_,_,r,⟨m,G,Fb,rfl,_⟩,_⟩:=h
  have:=r.length
  simp at this
  simp[this]
 obtain⟨F,H0,x,dx,bW,ds,ns,xs,rfl,tb,e0,gL,s0,hx,r,⟨m,G,Fb,rfl,hc,g1,Ao,w2,w6,hF,rfl,rfl⟩,q⟩:=h
 have hm:=hc.hm
 have hG:=hc.rt
 obtain⟨vf,DM,B1,B2,rfl,KW,rf,r2⟩:=R.cE r
 obtain⟨rfl,rfl⟩:=qt.mp KW.symm
 obtain⟨vc,FV,B1,B2,rfl,dt9,rc,r3⟩:=R.cE r2
 obtain⟨rfl,rfl⟩:=qt.mp dt9.symm
 cases r3
 refine⟨_,eK (tQ (Ba (A6 (jF ((aB9 T).mono (by decide)) hr rfl T.Dh.g T.Dh.F.kp T.Dh.b .nil da (bV (pv 1) (bV (pv 2) eB))))) (jC tR) tP)
  (eK (tQ (bU (fY (cH hr)) (ae (uj ((cl9 T).mono (by decide)) hr rfl T.Di.g T.Di.F.kp T.Di.b da (ah (bv 1) (ah (bv 2) ax)))) (ae (du (fK) (by rfl) T.fC ft (ah (bB (bv 2) (ae au) (λ_ _=>rfl)) ax))) (bH _)) (jC tR) tP)
  (eK (mC (HF (E:=E0) T.Ks ((KP T).mono (by decide)) hr T.De.b da rfl T.Ab (bV (pv 0) (bV (pv 1) (bV (pv 2) eB)))))
  (jC (ie (pv 0) (du (fK) (by rfl) T.fC ft (ah (ae (uj ((aG6 T).mono (by decide)) hr rfl T.Dj.g T.Dj.F.kp T.Dj.b da (ah (bv 1) (ah (bv 2) ax)))) ax)) rfl)))),?_⟩
 try dsimp only[jR,jS]
 refine⟨_,rfl,_,rfl,F,[fD t.aN t.aQ m,.lst false (ao false G)],λd=>d=.bl true,e0.trans s0,R.cons (A:=[]) (rf.shared (L3.ag.refl _) s0) (rc.shared (L3.ag.refl _) s0),⟨m,G,rfl,hm,hG,g1,Ao,w2,by omega,rfl⟩,λd v F1 H1 A1 hd eE Ak Al Vj r1 Vk KQ=>?_⟩
 subst hd
 cases r1
 refine⟨true,rfl,?_⟩
 refine ji ?_
 have s1:=s0.trans eE
 have cR:=eE.get _ _ hx rfl
 have nr:(bj m G).length≠af G:=λz=>by
  obtain⟨⟨Hd,I⟩,iR⟩:=hc.red
  have:=I.Cp hm iR
  have h0:=hc.sz
  unfold cS at h0
  omega
 refine⟨⟨H1,F⟩,F,[none,some (fD t.aN t.aQ m),some (.lst false (ao false G))],[],λb _=>b=false,aj.self (e0.trans s1) (.dO (A:=[]) (C:=[]) (rf.shared (L3.ag.refl _) s1) (.dO (A:=[]) (C:=[]) (rc.shared (L3.ag.refl _) s1) .nil)),?_,λb ai F2 H2 hb hf2 eM c2=>?_⟩
 ·walk_at"l3"
  refine⟨m,G,rfl,hm,by omega,hG,by omega,?_⟩
  obtain⟨g,G',rfl⟩:∃g G',G=g::G':=by
   cases G with
   | nil=>exact absurd g1 (by decide)
   | cons g G'=>exact⟨g,G',rfl⟩
  refine⟨.lst false (aq g),pL false (T:=g::G') (i:=0) (MJ _),oU 5 ((bj m (g::G')).length:Nat),?_⟩
  rw[lW,fu]
  exact decide_eq_false λz=>nr (Int.ofNat.inj z)
 subst hb
 refine ji ?_
 have s2:=s1.trans eM
 have eC:=eM.get _ _ cR rfl
 refine⟨.ref x,rfl,vf,rfl,vc,rfl,F,H0,x,dx,t.cC,vf,vc,m,G,[],rfl,e0,gL,s2,eC,.nil,⟨T.xw,T.Dr,T.Ds,T.Dq,T.Ke,T.Ka,T.Kb⟩,rf,rc,hm,hG,by omega,by omega,λH' p1 p2 p3 B1 B2 B3 sx cU k1 k2 k3 nd fr=>?_⟩
 have so:=bM.of0 gL s2 sx
 refine⟨⟨H',F⟩,F,[none,some (fD t.aN t.aQ m),some (.lst false (ao false G))],[],λd _=>d=.int (Fb.length:Nat),aj.self (e0.trans so) (.dO (A:=[]) (C:=[]) (rf.shared (L3.ag.refl _) so) (.dO (A:=[]) (C:=[]) (rc.shared (L3.ag.refl _) so) .nil)),?_,λd ai v F3 H3 hd Ag iB c3=>?_⟩
 ·walk_at"l3"
  refine⟨m,G,rfl,hm,by omega,hG,by omega,w6,?_⟩
  rw[hF]
  show(((aq Fb).length:Nat):Int)=_
  rw[fu]
 subst hd
 obtain⟨A3,C3,r3,_,nd3,_⟩:=c3.own
 obtain rfl:v=.int (Fb.length:Nat):=by cases r3;rfl
 have fm:=iB.get _ _ cU rfl
 refine⟨.ref x,rfl,x,t.cC,dx,_,rfl,fm,T.xw,T.Dn,by show 6<1000;decide,?_⟩
 have mv:∀{ds:List D} {vs:List V} {A':List Addr} {fs':List (Str × V)},R (λ_=>none) H' ds vs A'->ds.all D.fr=true->R (λ_=>none) (upd H3 x (.ins t.cC dx fs')) ds vs A':=λr hd=>(r.grow (L3.ag.refl _) iB λa ha=>(r.lists a ha).2).vb fm hd
 have fR:∀X:List (List Nat),[D.lst true (ao true X)].all D.fr=true:=λX=>by rw[cL,fg,pK];rfl
 have fN:∀X:List Nat,[D.lst true (aq X)].all D.fr=true:=λX=>by rw[cL,ix];rfl
 have z:=((((eE.trans eM).x (x:=x)).trans sx).trans (iB.x (x:=x))).trans (bM.upd (C:=x) (dx:=dx) fm rfl (o':=.ins t.cC dx (bC "bound" (.int (Fb.length:Nat)) ([]++pV.zip [vf,.int (af G:Nat),.ref p1,.ref p2,.ref p3,.int ((cS m G).length:Nat)]))))
 refine q _ [vf,.int (af G:Nat),.ref p1,.ref p2,.ref p3,.int ((cS m G).length:Nat),.int (Fb.length:Nat)] (B1++(B2++(B3++[]))) z (by rw[bA];rfl) rfl ?_ ?_ ?_
 ·have e:=e0.trans s0
  have up:∀{xC:Hp} {ds:List D} {vs:List V} {B:List Addr},R (λ_=>none) xC ds vs B->(∀a∈B,H2 a=none)->R F xC ds vs B:=λr h=>r.keep (L3.ag.of λb o e=>by cases e) (gw.same (L3.ag.refl _)) gZ.nil (λa ha=>e.free ((eE.trans eM).free (h a ha))) (by simp)
  exact R.cons (A:=[]) (rf.shared (L3.ag.refl _) (bM.of0 gL s0 z)) (.int (R.cons (up (mv k1 (fR _)) λa ha=>fr a (dZ _ ha)) (R.cons (up (mv k2 (fR _)) λa ha=>fr a (cY _ (dZ _ ha))) (R.cons (up (mv k3 (fN _)) λa ha=>fr a (cY _ (cY _ ha))) (.int (.int .nil))))))
 ·rw[eH];exact nd
 ·rw[eH]
  intro a ha
  exact(eE.trans eM).free (fr a ha)
noncomputable abbrev aD8(t:eO):aX:=λds Q=>∃(m:Bool × Nat) (n:Nat),ds=[fD t.aN t.aQ m,.int n]/\m∈ay/\2<=n/\n<=24/\Q (.lst true (ao true (fj m n)))
theorem aD9(T:Txt K mg t):aJ P w K mg base aP 2 t.TV t.TX ["field","length"] (aY (aD8 t)):=by
 refine bw T.Dk.F RJ (λds Q h=>by obtain⟨m,n,rfl,hm,h2,K6,q⟩:=h<;>rfl) λaC A outer s H E hr=>⟨_,(aE (bo (i:=2) RJ.nd rfl (bY rfl) (lX (P:=P) (w:=w) (K:=K) (mg:=mg) (base:=base) (n:=1) (bv 0) (hr.mono (by decide)) (ah (ae au) (ah (ae au) ax))))
   (aB (aR (dy [("less_one",2),("length",1)] ["i"] rfl (jO rfl T.gg (ah (ae (aA dX (bv 1) (ae au))) ax)) (λ_ _ _ _=>(dM (i:=2) (show(["less_one","length","i"]:List Str).Nodup by decide +kernel))) (λ_ _ _ _=>cX) (λ_ _ _ _=>(aA dr (ae (aA dr (ae (aA dr (ae (aA iP (ae (dD (eQ au cP))) (bv 2))) (ae (dD (eQ au cP))))) (ae (aA iP (ae (dD (eQ au cP))) (ae (aA dX (ae (aA dX (bv 1) (ae au))) (bv 2))))))) (zE (ah (bv 0) ax)))) rfl)))),λds Q h=>?_⟩
 obtain⟨m,n,rfl,hm,h2,K6,q⟩:=h
 have m0:=b8 m hm
 have dH:=(cI hm).lo
 obtain⟨C,ns,zs,sp,e1,e2,e3,e4⟩:=Vi (P:=P) (w:=w) (base:=base) T m0
 refine aD λU hU=>?_
 walk_at"l3"
 refine⟨C,ns,zs,sp,e1,e2,e3,e4 0 1 _ ?_⟩
 rw[(iU hm (show 0<aa m by omega) (show 1<aa m by omega)).1]
 refine hU _ ?_
 clear hU U e1 e2 e3 e4
 walk_at"l3"
 refine⟨⟨by omega,by omega⟩,dE (aF (n-1)) (λ(i:Nat)=>D.int (i:Int)) (λi=>D.lst true (aq (mf m n i))) (pG _ (by omega)) g9 (λi hi=>?_) (.inr λ_ _=>ix _) (by rw[bS,sL];omega) ?_⟩
 ·have hi:=cA.mp hi
  walk_at"l3"
  unfold mf
  have zn:∀k:Nat,aI (bg k (0:Int))=aq (bg k 0):=λk=>by unfold aq;rw[MK];rfl
  rw[iE,show((n:Int)-2-(i:Int)).toNat=n-2-i by omega,zn,zn,show [D.int 1]=aq [1] from rfl,show [D.int ((bx m 0 1:Nat):Int)]=aq [bx m 0 1] from rfl,kL,kL,kL,jo,jo,fu,fu]
  simp only[di,gj,qm]
  exact⟨by decide,⟨by omega,by omega,by omega⟩,by decide,by omega,by decide,⟨by omega,by omega,by omega⟩,⟨by omega,trivial⟩,by decide,⟨by omega,trivial⟩,trivial⟩
 ·rw[show((aF (n-1)).map λi=>D.lst true (aq (mf m n i)))=ao true (fj m n) by unfold ao fj;rw[bP];rfl]
  exact q
noncomputable abbrev br9(t:eO):List D->List Str->List D->Prop:=λds ns xs=>∃(m:Bool × Nat) (n:Nat),ds=[fD t.aN t.aQ m,.int n]/\m∈ay/\2<=n/\n<=24/\ns=pV/\xs=nj t.aN t.aQ true m (fj m n)
theorem aA4(T:Txt K mg t)(hB:Bm mg base):aJ P w K mg base aP 5 t.JT t.TY ["self","field","length"] (Cz [t.iX,t.iY] t.df (br9 t)):=by
 refine T.UI.F.ok ax5 (λvs H Q E h=>?_) λaC A outer s H vs Q E hr h=>?_
 ·obtain⟨F,H0,x,dx,bW,ds,ns,xs,rfl,_,_,_,_,_,r,⟨m,n,rfl,_⟩,_⟩:=h
  have:=r.length
  simp at this
  simp[this]
 obtain⟨F,H0,x,dx,bW,ds,ns,xs,rfl,tb,e0,gL,s0,hx,r,⟨m,n,rfl,hm,h2,K6,rfl,rfl⟩,q⟩:=h
 obtain⟨g1,g2,g3⟩:=zG hm h2
 obtain⟨vf,DM,B1,B2,rfl,hB,rf,r2⟩:=R.cE r
 obtain⟨rfl,rfl⟩:=qt.mp hB.symm
 obtain rfl:DM=[.int n]:=by
  cases r2 with
  | int r=>cases r;rfl
 refine⟨_,eK (tQ (PW.pt (MX (E8 M5 (pv 2) nQ (bH _)) (qB (E8 M6 (pv 2) nQ (bH _))))) (jC tR) tP)
  (jC (mC (HF (E:=E0) T.Ks ((KP T).mono (by decide)) hr T.De.b da rfl T.Ab (bV (pv 0) (bV (pv 1) (bV (jF ((aD9 T).mono (by decide)) hr rfl T.Dk.g T.Dk.F.kp T.Dk.b .nil da (bV (pv 1) (bV (pv 2) eB))) eB)))))),?_⟩
 try dsimp only[jR,jS]
 refine⟨.int n,rfl,_,_,rfl,rfl,_,rfl,?_⟩
 rw[decide_eq_false (by omega)]
 refine ji ?_
 refine⟨.int n,rfl,_,_,rfl,rfl,_,rfl,?_⟩
 rw[decide_eq_false (by omega)]
 refine ji ?_
 have e:=e0.trans s0
 refine⟨.ref x,rfl,vf,rfl,vf,rfl,.int n,rfl,F,[fD t.aN t.aQ m,.int n],λd=>d=.lst true (ao true (fj m n)),e,R.cons (A:=[]) (rf.shared (L3.ag.refl _) s0) (.int .nil),⟨m,n,rfl,hm,h2,K6,rfl⟩,λd v F1 H1 A1 hd eE Ak Al Vj r1 Vk KQ=>?_⟩
 subst hd
 obtain⟨pc,rfl⟩:=xa r1
 have cR:=eE.get _ _ hx rfl
 have fR:∀X:List (List Nat),[D.lst true (ao true X)].all D.fr=true:=λX=>by rw[cL,fg,pK];rfl
 have xB:∀X:List (List Nat),[D.lst true (ao true X)].map D.sh=[D.lst false (ao false X)]:=λX=>by rw[cK,cV,de];rfl
 have r1:=r1.qK (fR _) Ak
 have VB:=s0.trans eE
 have xA:x ∉ A1:=λz=>by rw[KQ x z]at hx;cases hx
 have s2:L3.ag H0 (L3.bu H0 H1 A1):=iJ VB
 have e2:=e0.trans s2
 have r2:R F (L3.bu H0 H1 A1) [.lst true (ao true (fj m n))] [.ref pc] A1:=Q6 r1 λa ha=>by unfold L3.bu;rw[if_pos ha]
 refine⟨L3.bu F (L3.bu H0 H1 A1) A1,L3.bu H0 H1 A1,x,dx,t.df,vf,.ref pc,m,fj m n,[],rfl,n8 e2,by rw[qJ xA];exact gL,n8 VB,cR,.nil,⟨T.Dt,T.Dv,T.Dw,T.Du,T.Kn,T.Kl,T.Km⟩,rf.shared (iJ e2) s2,xB _ ▸ r2.bu e2 A1 λ_ h=>h,hm,by rw[g3];exact g1,by omega,by omega,λH' p1 p2 p3 B1 B2 B3 sx cU k1 k2 k3 nd fr=>?_⟩
 have z:=(eE.x (x:=x)).trans sx
 have so:=bM.of0 gL s0 z
 refine q H' [vf,.int (af (fj m n):Nat),.ref p1,.ref p2,.ref p3,.int ((cS m (fj m n)).length:Nat)] (B1++(B2++(B3++[]))) z cU rfl ?_ ?_ ?_
 ·have up:∀{ds:List D} {vs:List V} {B:List Addr},R (λ_=>none) H' ds vs B->(∀a∈B,H1 a=none)->R F H' ds vs B:=λr h=>r.keep (L3.ag.of λb o e=>by cases e) (gw.same (L3.ag.refl _)) gZ.nil (λa ha=>e.free (eE.free (h a ha))) (by simp)
  exact R.cons (A:=[]) (rf.shared (L3.ag.refl _) so) (.int (R.cons (up k1 λa ha=>fr a (dZ _ ha)) (R.cons (up k2 λa ha=>fr a (cY _ (dZ _ ha))) (R.cons (up k3 λa ha=>fr a (cY _ (cY _ ha))) (.int .nil)))))
 ·rw[eH];exact nd
 ·rw[eH]
  intro a ha
  exact eE.free (fr a ha)
theorem cC4{tc:fI}{t u:dd}{En:qL}{δ:Dl}(h:∀W:Bool->Dl->Prop,(∀ai,t En ai->W true ai)->(∀ai,u En ai->W false ai)->tc δ W):ou tc t u En δ:=h (λb ai=>if b=true then t En ai else u En ai) (λ_ z=>by rw[if_pos rfl];exact z) (λ_ z=>by rw[if_neg (by decide)];exact z)
noncomputable abbrev aI5:aX:=λds Q=>∃(m:Bool × Nat) (ns:List Int) (b r w y:Nat),ds=[cB m,.fz (aI ns),.int b,.int r,.int w,.int y]/\m∈ay/\b<=1000/\r<=64/\1<=w/\w<=64/\∀T:List (List Nat),T.length=r->RT (aa m) w T->Q (.lst true (ao true T))
theorem aI6(T:Txt K mg t):aJ P w K mg base aP 4 t.TZ t.T1 ["_law_told_here","_law_script","_law_begin","_law_rows","_law_wide","_law_way"] (aY (aI5 )):=by
 refine bw T.UJ.F xm (λds Q h=>by obtain⟨m,ns,b,r,wi,y,rfl,hm,hb,bf,hw1,hw,q⟩:=h<;>rfl) λaC A outer s H E hr=>⟨_,(aE (bo (i:=6) xm.nd rfl (az rfl) (dD cP))
   (aE (gK fo rfl (jO rfl T.gg (ah (bv 3) ax)) (jl (i:=7) xm.nd rfl (bY rfl))
    (aE (Cf (i:=8) xm.nd rfl (az rfl) [("_law_script",1),("_law_told_here",0),("_law_begin",2),("_law_i",7),("_law_wide",4)] ["_law_k"] rfl (jO rfl T.gg (ah (bv 4) ax)) (λ_ _ _ _=>(dM (i:=5) (show(["_law_script","_law_told_here","_law_begin","_law_i","_law_wide","_law_k"]:List Str).Nodup by decide +kernel))) (λ_ _ _ _=>cX) (λ_ _ _ _=>(aA dJ (ae (bD T.sV (vE T) hr (ah (bv 0) (ah (ae (aA dr (ae (aA dr (bv 2) (ae (aA iP (bv 3) (bv 4))))) (bv 5))) ax)))) (ae (bD T.xq (Aj T) hr (ah (bv 1) ax))))) rfl)
    (aE (cF (bU (fY (cH hr)) (ae (aA dJ (bv 5) (ae au))) (ae au) (bH _)) (aB (Cf (i:=8) xm.nd rfl (az rfl) [] ["_law_x"] rfl (gx (bv 8)) (λ_ _ _ _=>(dM (i:=0) (show(["_law_x"]:List Str).Nodup by decide +kernel))) (λ_ _ _ _=>cX) (λ_ _ _ _=>(aA dJ (bv 0) (ae au))) rfl)) cQ)
    (aE (cF (PW.pt (Bu (bU (fY (cH hr)) (ae (aA dJ (ae (aA mS (bv 5) (ae au))) (ae au))) (ae au) (bH _)) (Bu (bU uo (bv 7) (ae au) (bH _)) (ES (bU (fY (cH hr)) (ae (aA dJ (ae (aA mS (ae (bD T.sV (vE T) hr (ah (bv 1) (ah (ae (aA dr (bv 2) (ae (aA iP (bv 7) (bv 4))))) ax)))) (ae au))) (ae au))) (ae au) (bH _)))))) (aB (bo (i:=8) xm.nd rfl (az rfl) (bD T.J0 (Vb T) hr (ah (bv 0) (ah (zE (ah (bB (bv 8) (ae au) (λ_ _=>rfl)) (ah (bB (bv 8) (ae (aA dX (bv 4) (ae au))) (λ_ _=>rfl)) ax))) (ah (zE (ah (bB (bv 6) (ae au) (λ_ _=>rfl)) (ah (bB (bv 6) (ae (aA dX (bv 7) (ae au))) (λ_ _=>rfl)) ax))) (ah (bv 4) ax))))))) cQ)
    (aB (uA (i:=6) rfl (by first | exact az rfl | exact bY (az rfl)) (em 8)))))))
   (aB (aR (em 6))))),λds Q h=>?_⟩
 obtain⟨m,ns,b,r,wi,y,rfl,hm,hb,bf,hw1,hw,q⟩:=h
 have dH:=(cI hm).lo
 have DJ:=zt m hm
 have du8:∀z:Int,z%(aa m:Int)=(((z%(aa m:Int)).toNat:Nat):Int):=λz=>by
  have n0:=jv z (show(aa m:Int)≠0 by omega)
  omega
 have du9:∀z:Int,(z%(aa m:Int)).toNat<aa m:=λz=>by
  have n1:=jw z (show(0:Int)<(aa m:Int) by omega)
  omega
 refine aD λU hU=>?_
 walk_at"l3"
 refine⟨by decide,hU _ ?_⟩
 clear hU U
 refine aD λU hU=>?_
 walk_at"l3"
 refine⟨⟨by omega,by omega⟩,yV (λi δ=>∃(G:List (List Nat)) (o1 o2:Option D),δ=[some (cB m),some (.fz (aI ns)),some (.int b),some (.int r),some (.int wi),some (.int y),some (.lst true (ao true G)),o1,o2]/\G.length=i/\RT (aa m) wi G) ⟨[],_,_,rfl,rfl,λ_ h=>nomatch h⟩ ?_ ?_⟩
 ·rintro i δ hi ⟨G,o1,o2,rfl,hG,hR⟩
  simp only[gN,i8,i7]
  clear hU
  have iw:i*wi<=64*64:=Nat.mul_le_mul (by omega) hw
  have eiw:(i:Int)*(wi:Int)=((i*wi:Nat):Int):=by rw[xW]
  refine aD λU hU=>?_
  walk_at"l3"
  refine⟨⟨by omega,by omega⟩,dE (aF wi) (λ(i:Nat)=>D.int (i:Int)) (λk=>D.int (((nz ns ((b:Int)+(i:Int)*(wi:Int)+(k:Int))%(aa m:Int)).toNat:Nat):Int)) (pG _ rfl) g9 (λk hk=>?_) (.inr λ_ _=>rfl) (by rw[bS,sL];omega) ?_⟩
  ·have hk:=cA.mp hk
   walk_at"l3"
   refine⟨j4.ok (.inl ⟨by omega,by omega⟩),ns,_,rfl,by omega,by omega,m,rfl,by omega,by omega,?_⟩
   dsimp only
   exact⟨by omega,du8 _⟩
  obtain⟨row,er,qe,sX⟩:∃wd:List Nat,((aF wi).map λ(k:Nat)=>D.int (((nz ns ((b:Int)+(i:Int)*(wi:Int)+(k:Int))%(aa m:Int)).toNat:Nat):Int))=aq wd/\AllLt (aa m) wd/\wd.length=wi:=by
   refine⟨(aF wi).map λ(k:Nat)=>(nz ns ((b:Int)+(i:Int)*(wi:Int)+(k:Int))%(aa m:Int)).toNat,by rw[dQ,bP];rfl,λa ha=>?_,by simp⟩
   obtain⟨k,_,rfl⟩:=bE.mp ha
   exact du9 _
  rw[er]
  refine hU _ ?_
  clear hU
  refine aD λU hU=>?_
  walk_at"l3"
  have fin:∀row:List Nat,AllLt (aa m) row->row.length=wi->U [some (cB m),some (D.fz (aI ns)),some (D.int b),some (D.int r),some (D.int wi),some (D.int y),some (D.lst true (ao true G)),some (D.int i),some (D.lst true (aq row))]:=by
   clear er qe sX row
   intro row qe sX
   refine hU _ ?_
   clear hU
   refine aD λU hU=>?_
   have fin2:∀row:List Nat,AllLt (aa m) row->row.length=wi->U [some (cB m),some (D.fz (aI ns)),some (D.int b),some (D.int r),some (D.int wi),some (D.int y),some (D.lst true (ao true G)),some (D.int i),some (D.lst true (aq row))]:=by
    clear qe sX row
    intro row qe sX
    refine hU _ ?_
    walk_at"l3"
    refine⟨⟨_,rfl⟩,by omega,G++[row],_,_,⟨vg true G [row],rfl,rfl⟩,by rw[di,hG];rfl,hR.app λx hx=>?_⟩
    rw[gn]at hx
    rw[hx];exact⟨sX,qe⟩
   refine cC4 λW wt wf=>?_
   have K7:∀z:Bool,z=false->W z [some (cB m),some (D.fz (aI ns)),some (D.int (b:Nat)),some (D.int r),some (D.int wi),some (D.int y),some (D.lst true (ao true G)),some (D.int i),some (D.lst true (aq row))]:=λz hz=>by
    subst hz
    refine wf _ ?_
    walk_at"l3"
    exact fin2 row qe sX
   dsimp only[ qU,ot,qV,qW,ou,dT,lF,mK,mL,dC,oh,mN,om,oj,oo,qT,mU,rL,oN,rN,rO,qM,qN,qO,qP,qQ,qS,oi,rH,oI,oJ,ii,oE,rk,oG,rl,rm,rn,rp,rq,rz,iI,g8,rA,rB,rC,rD,oH,mT,rF,rG,gN,rP,rJ,qX,qZ,q5,q8,q9,rh,rQ,rR,rS,mO,kG,eR,jm,iN,qp,ql,vU,vV,oq,lH,jN,oK,oM,rY,jR,sj,oV,rZ,ik,jS,u0,u3,cK,i6,ju,nC,fU,vW,bg,tG,tH,i7,i8,tI,exists_eq_left',exists_eq_left,D.bl.injEq,D.int.injEq,D.lst.injEq,D.fz.injEq,D.str.injEq,D.tup.injEq,tJ,and_true,true_and,cL,qv,kT,kS,uB,uC,uD,uE,uF,uG,fW,jK,lU,uK,uL,uM,uN,uO,cV,jL,rT,uH,uI,uJ,fg,n6,vX,vY,qg,jx,vZ,v3,tf,uS,uT,uU,uV,uW,uX,uY,kK,mX,oR,jQ,oS,uQ,rX,uP,oU,uR,lW,rW,if_true,tK,if_false,reduceIte,uZ,decide_eq_true_eq,fu,jo,oW,u5,kL,u4,qY,sq,se,oZ,pd,pf,sA,ve,pH,sF,sH,sI,de,m9,iV,sG,pJ,sN,sO,sP,sQ]
   walk_at"l3"
   refine⟨mR (by decide) (by decide),by decide,?_⟩
   split
   ·split
    ·rename_i h0
     refine⟨j4.ok (.inl ⟨by omega,by omega⟩),ns,_,rfl,by omega,by omega,?_⟩
     dsimp only
     refine⟨mR (by decide) (by decide),by decide,?_⟩
     cases hc:decide (nz ns ((b:Int)+(i:Int)*(wi:Int))/64%2=1)with
     | false=>exact K7 _ rfl
     | true =>
      refine wt _ ?_
      dsimp only[ qU,ot,qV,qW,ou,dT,lF,mK,mL,dC,oh,mN,om,oj,oo,qT,mU,rL,oN,rN,rO,qM,qN,qO,qP,qQ,qS,oi,rH,oI,oJ,ii,oE,rk,oG,rl,rm,rn,rp,rq,rz,iI,g8,rA,rB,rC,rD,oH,mT,rF,rG,gN,rP,rJ,qX,qZ,q5,q8,q9,rh,rQ,rR,rS,mO,kG,eR,jm,iN,qp,ql,vU,vV,oq,lH,jN,oK,oM,rY,jR,sj,oV,rZ,ik,jS,u0,u3,cK,i6,ju,nC,fU,vW,bg,tG,tH,i7,i8,tI,exists_eq_left',exists_eq_left,D.bl.injEq,D.int.injEq,D.lst.injEq,D.fz.injEq,D.str.injEq,D.tup.injEq,tJ,and_true,true_and,cL,qv,kT,kS,uB,uC,uD,uE,uF,uG,fW,jK,lU,uK,uL,uM,uN,uO,cV,jL,rT,uH,uI,uJ,fg,n6,vX,vY,qg,jx,vZ,v3,tf,uS,uT,uU,uV,uW,uX,uY,kK,mX,oR,jQ,oS,uQ,rX,uP,oU,uR,lW,rW,if_true,tK,if_false,reduceIte,uZ,decide_eq_true_eq,fu,jo,oW,u5,kL,u4,qY,sq,se,oZ,pd,pf,sA,ve,pH,sF,sH,sI,de,m9,iV,sG,pJ,sN,sO,sP,sQ]
      walk_at"l3"
      have g0:0<G.length:=by omega
      have g1:i-1<G.length:=by omega
      have l0:0<aa m:=by omega
      refine⟨.int (row.getD 0 0:Nat),by rw[kM (by omega) (by show 0<row.length;omega)];rfl,.int (row.getD (wi-1) 0:Nat),by rw[kM (by omega) (by omega),show((wi:Int)-1).toNat=wi-1 by omega],by decide,.lst true (aq G[0]),pL true g0,.lst true (aq G[i-1]),by rw[show((i:Int)-1)=((i-1:Nat):Int) by omega];exact pL true g1,by decide,?_⟩
      refine⟨m,[row.getD 0 0,row.getD (wi-1) 0],[G[0],G[i-1]],wi,by rw[m6,m6];rfl,hm,λx hx=>?_,by show 2<=64;omega,rfl,by omega,λx hx=>?_,ix _,fin2 _ (QB hm _ rfl) (zC _ _ _ _)⟩
      ·simp only[cj,hJ,or_false]at hx
       rcases hx with rfl | rfl
       ·exact qe.getD l0 _
       ·exact qe.getD l0 _
      ·simp only[cj,hJ,or_false]at hx
       rcases hx with rfl | rfl
       ·exact hR _ (cT g0)
       ·exact hR _ (cT g1)
    ·exact K7 _ rfl
   ·exact K7 _ rfl
  refine⟨by decide,?_⟩
  split
  ·refine dE row (λ(i:Nat)=>D.int (i:Int)) (λ(i:Nat)=>D.int ((i%2:Nat):Int)) (mZ row) g9 (λx hx=>?_) (.inr λ_ _=>rfl) (by rw[sL];omega) ?_
   ·walk_at"l3"
    exact⟨by decide,by omega⟩
   ·have:=fin (row.map (· % 2)) (λa ha=>by
     obtain⟨x,_,rfl⟩:=bE.mp ha
     omega) (by rw[bt];exact sX)
    rw[dQ,bP]at this
    exact this
  ·exact fin row qe sX
 ·rintro δ ⟨G,o1,o2,rfl,hG,hR⟩
  refine hU _ ?_
  walk_at"l3"
  exact q G hG hR
theorem cE7{m:Bool × Nat}(hm:m∈ay){G:List (List Nat)}(hR:RT (aa m) (af G) G)(h:G.length<af G):∃Fb,l9 m G=some Fb:=by
 cases e:l9 m G with
 | some Fb=>exact⟨Fb,rfl⟩
 | none=>exact absurd (cl1 hm (by omega) hR e (aF (af G)) (b06 (bL _))) (bO0 hm hR (by rw[bS];exact h))
noncomputable abbrev VC(t:eO):aX:=λds Q=>∃(m:Bool × Nat) (ns:List Int),ds=[cB m,.fz (aI ns),fD t.aN t.aQ m]/\m∈ay/\∀(G:List (List Nat)) (k:Kd),gR m G->1<=G.length->2<=af G->af G<=12->zJ m G k->fk G k<=7->Q (iA t m G k)
theorem aL3(T:Txt K mg t)(hB:Bm mg base):aJ P w K mg base aP 7 t.T2 t.T3 ["_law_told_here","_law_script","_law_field_here"] (u6 [t.iX,t.iY] (aY (VC t))):=by
 refine BV T.Dm.F xn (λds Q h=>by obtain⟨m,ns,rfl,hm,q⟩:=h<;>rfl) λaC A outer s H E hT hr=>⟨_,(aE (bo (i:=3) xn.nd rfl (az rfl) (bD T.sV (vE T) hr (ah (bv 1) (ah (ae au) ax))))
   (aE (bo (i:=4) xn.nd rfl (az rfl) (aA dr (ae au) (ae (aA dJ (ae (aA mS (bv 3) (ae au))) (ae au)))))
   (aE (bo (i:=5) xn.nd rfl (az rfl) (bD T.sV (vE T) hr (ah (bv 1) (ah (ae au) ax))))
   (aE (bo (i:=6) xn.nd rfl (az rfl) (bD T.xq (Aj T) hr (ah (bv 0) ax)))
   (aE (cF (PW.pt (Bu (bU (fY (cH hr)) (ae (aA dJ (bv 3) (ae au))) (ae au) (bH _)) (ES (bU uo (bv 6) (ae au) (bH _))))) (aE (bo (i:=4) xn.nd rfl (az rfl) (du (ON rfl) (by rfl) T.UM N5 (ah (bv 4) (ah (ae (aA dX (bv 6) (ae au))) ax))))
    (aB (aR (CA hT T.Dx ((Vp T hB).mono (by decide)) hr rfl T.DD T.UA da (ah (bv 2) (ah (bv 4) (ah (ae (aA dr (ae au) (ae (aA dJ (bv 5) (ae (aA dX (bv 4) (ae au))))))) (ah (ae (aA dJ (ae (aA mS (bv 5) (ae au))) (ae (aA dX (bv 6) (ae au))))) ax)))))))) cQ)
   (aE (cF (bU (fY (cH hr)) (ae (aA dJ (bv 3) (ae au))) (ae au) (bH _)) (aB (aR (CA hT T.Kk ((aA4 T hB).mono (by decide)) hr rfl T.Kx T.UI.b da (ah (bv 2) (ah (bv 4) ax))))) cQ)
   (aB (aR (CA hT T.J9 ((aC1 T hB).mono (by decide)) hr rfl T.Kv T.UH.b da (ah (bv 2) (ah (cy1 (bD T.UJ (aI6 T) hr (ah (bv 0) (ah (bv 1) (ah (ae au) (ah (ae (aA dr (ae au) (ae (aA dJ (bv 5) (ae (aA dX (bv 4) (ae au))))))) (ah (bv 4) (ah (ae (aA dJ (ae (aA mS (bv 5) (ae au))) (ae au))) ax)))))))) ax))))))))))),λds Q h=>?_⟩
 obtain⟨m,ns,rfl,hm,q⟩:=h
 have hF:=cI hm
 have dH:=hF.lo
 have KU:=hF.hi
 have DJ:=zt m hm
 refine aD λU hU=>?_
 walk_at"l3"
 refine⟨ns,1,rfl,by decide,by decide,hU _ ?_⟩
 clear hU U
 generalize nz ns 1=pk
 refine aD λU hU=>?_
 walk_at"l3"
 obtain⟨n,en,yk,hn5⟩:∃k:Nat,2+pk/3%4=k/\2<=k/\k<=5:=⟨(2+pk/3%4).toNat,by omega,by omega,by omega⟩
 rw[en]
 refine⟨mR (by decide) (by decide),by decide,hU _ ?_⟩
 clear hU U en
 refine aD λU hU=>?_
 walk_at"l3"
 refine⟨ns,2,rfl,by decide,by decide,hU _ ?_⟩
 clear hU U
 generalize nz ns 2=mr
 refine aD λU hU=>?_
 walk_at"l3"
 refine⟨m,rfl,by omega,by omega,hU _ ?_⟩
 clear hU U
 refine aD λU hU=>?_
 walk_at"l3"
 refine⟨by decide,?_⟩
 suffices h:U [some (cB m),some (D.fz (aI ns)),some (fD t.aN t.aQ m),some (D.int pk),some (D.int n),some (D.int mr),some (D.int (aa m))] by
  split
  ·split
   ·clear hU h
    refine aD λU hU=>?_
    walk_at"l3"
    obtain⟨n',en,dZ6,hnM,dZ7⟩:∃k:Nat,(if(aa m:Int)-1<n then(aa m:Int)-1 else n)=k/\2<=k/\k+1<=aa m/\k<=5:=⟨(if(aa m:Int)-1<n then(aa m:Int)-1 else n).toNat,by split<;>omega,by split<;>omega,by split<;>omega,by split<;>omega⟩
    rw[en]
    refine hU _ ?_
    clear hU U en
    walk_at"l3"
    obtain⟨e,ee,Al,hen⟩:∃k:Nat,1+mr%((n':Int)-1)=k/\1<=k/\k+1<=n':=by
     have n0:=jv mr (show(n':Int)-1≠0 by omega)
     have n1:=jw mr (show 0<(n':Int)-1 by omega)
     exact⟨(1+mr%((n':Int)-1)).toNat,by omega,by omega,by omega⟩
    obtain⟨f,ef,hf⟩:∃f:Nat,mr/64%((aa m:Int)-1)=f/\f+2<=aa m:=by
     have n0:=jv (mr/64) (show(aa m:Int)-1≠0 by omega)
     have n1:=jw (mr/64) (show 0<(aa m:Int)-1 by omega)
     exact⟨(mr/64%((aa m:Int)-1)).toNat,by omega,by omega⟩
    rw[ee,ef]
    refine⟨by omega,mR (by decide) (by decide),by omega,_,_,⟨m,n',e,f,rfl,hm,by omega,by omega,by omega,by omega,by omega,rfl,rfl⟩,?_⟩
    rw[eo,CD]
    obtain⟨g1,g2,g3⟩:=HH hm f n' (show 1<=e by omega)
    exact q (fP m f (aF n') e) (.vm e f) (DN hm (by rw[g3];exact g1) (by omega) (by omega)) (by omega) (by omega) (by omega) ⟨Rh hm (by omega) g3,by show 1<=e+1;omega,λ_ _ z=>by cases z;rw[g3];exact⟨rfl,by omega,by omega,by omega,by omega⟩⟩ (by show e+1<=7;omega)
   ·exact h
  ·exact h
 refine hU _ ?_
 clear hU U
 refine aD λU hU=>?_
 walk_at"l3"
 refine⟨by decide,?_⟩
 split
 ·refine⟨_,_,⟨m,n,rfl,hm,by omega,by omega,rfl,rfl⟩,?_⟩
  obtain⟨r1,r2,r3⟩:=zG hm (show 2<=n by omega)
  rw[CD]
  exact q (fj m n) .rep (DN hm (by rw[r3];exact r1) (by omega) (by omega)) (by omega) (by omega) (by omega) ⟨by show vq m (fj m n) (af (fj m n));rw[r3];exact cp8 hm (by omega),by show 1<=af (fj m n);omega,λ_ _ z=>nomatch z⟩ (by show af (fj m n)<=7;omega)
 refine hU _ ?_
 clear hU U
 walk_at"l3"
 obtain⟨e,ee,Al,hen⟩:∃k:Nat,1+mr%((n:Int)-1)=k/\1<=k/\k+1<=n:=by
  have n0:=jv mr (show(n:Int)-1≠0 by omega)
  have n1:=jw mr (show 0<(n:Int)-1 by omega)
  exact⟨(1+mr%((n:Int)-1)).toNat,by omega,by omega,by omega⟩
 obtain⟨y,ey⟩:∃k:Nat,mr/64%4=k:=⟨(mr/64%4).toNat,by omega⟩
 rw[ee,ey]
 refine⟨by omega,mR (by decide) (by decide),by decide,m,ns,20,e,n,y,rfl,hm,by decide,by omega,by omega,by omega,λG lG hG=>?_⟩
 have wG:af G=n:=zD hG λz=>by rw[z]at lG;exact absurd lG (by show ¬ 0=e;omega)
 rw[<-wG]at hG
 obtain⟨Fb,eF⟩:=cE7 hm hG (by omega)
 have cG:=DN hm hG (by omega) (by omega)
 have fs:=cj4 hm (by omega) hG eF
 have aG:zJ m G (.vk Fb.length):=⟨Ra hm hG λS hS hl=>fs.2.2.2 S hS (.inl hl),fs.2.1,λ_ _ z=>nomatch z⟩
 have sg:=cG.HJ aG.zK
 have sz:=cG.sz
 have kd:fk G (.vk Fb.length)=Fb.length:=rfl
 dsimp only
 rw[cV,de]
 refine⟨by rw[fW,m9];rfl,_,_,⟨m,G,Fb,rfl,cG,by omega,by omega,by omega,by omega,eF,rfl,rfl⟩,?_⟩
 rw[eo,CD]
 exact q G (.vk Fb.length) cG (by omega) (by omega) (by omega) aG (by omega)
theorem cz4(T:Txt K mg t)(hB:Bm mg base):aJ P w K mg base aP 11 t.T4 t.T5 ["_law_script"] (u6 [t.iX,t.iY] (aY (OR ))):=by
 refine BV T.de2.F vw (λds Q h=>by obtain⟨ns,rfl,hl,q⟩:=h<;>rfl) λaC A outer s H E hT hr=>⟨_,(aE (bo (i:=1) vw.nd rfl (az rfl) (bD T.T8 (aK0 T) hr (ah (ae (bD T.sV (vE T) hr (ah (bv 0) (ah (ae au) ax)))) ax)))
   (aE (bo (i:=2) vw.nd rfl (az rfl) (GW hT ((aH6 T hB).mono (by decide)) hr rfl T.C7.g T.C7.F.kp T.C7.b da (ah (bv 1) ax)))
   (aE (cF (PW.pt (Bu (bU (fY (cH hr)) (ae (aA dJ (ae (bD T.sV (vE T) hr (ah (bv 0) (ah (ae au) ax)))) (ae au))) (ae au) (bH _)) (ES (bU uo (ae (bD T.xq (Aj T) hr (ah (bv 1) ax))) (ae au) (bH _))))) (aB (bo (i:=3) vw.nd rfl (az rfl) (GW hT ((aI4 T hB).mono (by decide)) hr rfl T.Dg.g T.Dg.F.kp T.Dg.b da (ah (bv 1) (ah (bv 0) (ah (bv 2) ax)))))) (aB (bo (i:=3) vw.nd rfl (az rfl) (GW hT ((aL3 T hB).mono (by decide)) hr rfl T.Dm.g T.Dm.F.kp T.Dm.b da (ah (bv 1) (ah (bv 0) (ah (bv 2) ax)))))))
   (aE (bo (i:=4) vw.nd rfl (az rfl) (bD T.zT (aK3 T) hr (ah (ae au) (ah (fL (K:=K) (bv 3)) (ah (ae (aA dX (ae (zr (P:=P) (w:=w) (K:=K) (mg:=mg) (base:=base) (n:=1) (bv 3) (hr.mono (by decide)))) (ae au))) ax)))))
   (aE (bo (i:=5) vw.nd rfl (az rfl) (bD T.JY (U9 T) hr (ah (bv 3) ax)))
   (aE (cF (kF (ig (ae (bD T.J1 (Ve T) hr (ah (bv 1) (ah (ae (zr (P:=P) (w:=w) (K:=K) (mg:=mg) (base:=base) (n:=2) (bv 3) (hr.mono (by decide)))) (ah (bv 4) (ah (bv 5) ax)))))))) (aB (aR g7)) cQ)
   (aE (Rj (i:=5) rfl (by first | exact az rfl | exact bY (az rfl)) (dq (fL (K:=K) (bv 3))))
   (aE (Rj (i:=5) rfl (by first | exact az rfl | exact bY (az rfl)) (dD cP))
   (aE (cF8 (i:=5) rfl (by first | exact az rfl | exact bY (az rfl)))
   (aB (aR (bD T.J1 (Ve T) hr (ah (bv 1) (ah (ae (zr (P:=P) (w:=w) (K:=K) (mg:=mg) (base:=base) (n:=2) (bv 3) (hr.mono (by decide)))) (ah (bv 4) (ah (ae (bD T.JY (U9 T) hr (ah (bv 3) ax))) ax)))))))))))))))),λds Q h=>?_⟩
 obtain⟨ns,rfl,hl,q⟩:=h
 refine aD λU hU=>?_
 walk_at"l3"
 refine⟨ns,0,rfl,by decide,by decide,_,rfl,rfl,hU _ ?_⟩
 clear hU U
 generalize VD:sE (nz ns 0)=m
 have hm:m∈ay:=by rw[<-VD];exact b26 _
 clear VD
 have dH:=(cI hm).lo
 have KU:=(cI hm).hi
 have DJ:=zt m hm
 refine aD λU hU=>?_
 walk_at"l3"
 refine⟨m,rfl,hm,hU _ ?_⟩
 clear hU U
 refine aD λU hU=>?_
 walk_at"l3"
 suffices h:∀(G:List (List Nat)) (k:Kd),gR m G->1<=G.length->2<=af G->af G<=12->zJ m G k->fk G k<=7->U [some (D.fz (aI ns)),some (cB m),some (fD t.aN t.aQ m),some (iA t m G k),none,none] by
  refine⟨ns,18,rfl,by decide,by decide,by decide,?_⟩
  have hC:VC t [cB m,D.fz (aI ns),fD t.aN t.aQ m] λd=>U [some (D.fz (aI ns)),some (cB m),some (fD t.aN t.aQ m),some d,none,none]:=⟨m,ns,rfl,hm,h⟩
  split
  ·refine⟨m,rfl,by omega,by omega,?_⟩
   dsimp only
   split
   ·exact⟨m,ns,rfl,hm,by omega,h⟩
   ·exact hC
  ·exact hC
 intro G k hc g1 w2 mh hk k7
 refine hU _ ?_
 clear hU U
 have hw:=hc.wid
 have gl:=hc.len
 have kp:=hk.pos
 have sg:=hc.HJ hk.zK
 have sz:=hc.sz
 refine aD λU hU=>?_
 walk_at"l3"
 refine Ac T m G k ?_
 refine U7 T m G k ?_
 dsimp only
 refine⟨0,af G,fk G k-1,by rw[show((fk G k:Nat):Int)-1=((fk G k-1:Nat):Int) by omega];rfl,by omega,by omega,by omega,by omega,?_⟩
 refine⟨rfl,hU _ ?_⟩
 clear hU U
 have lZ:=xg (af G) (af G) (fk G k-1) 0 rfl
 have KD:2 ^ af G<=4096:=nG (by decide) mh
 have ok:=zM (af G) (fk G k-1) 0
 have ne:=Rq (af G) (fk G k-1) 0 (by omega)
 have pp:=λ(S:List Nat) (hS:S∈lex (af G) (fk G k-1) 0)=>Ru hc.hm g1 hc.rt hk.zK (S:=S) ⟨(ok S hS).2.1,λx hx=>((ok S hS).2.2 x hx).2⟩ (by have:=(ok S hS).1;omega)
 refine aD λU hU=>?_
 walk_at"l3"
 rw[CF]
 refine⟨m,G,k,rfl,hc,g1,mh,hk,by rw[HG];rfl,hU _ ?_⟩
 clear hU U
 have VE:∀Q:D->Prop,Q (.lst true (pY true m G (lex (af G) (fk G k-1) 0)))->U8 t [iA t m G k] Q:=λQ q=>⟨m,G,k,rfl,hc,g1,mh,hk,q⟩
 show Bw _ _ _ [_,_,_,_,_,some (D.lst true (pY true m G (lex (af G) (fk G k-1) 0)))]
 generalize lex (af G) (fk G k-1) 0=L at lZ ok ne pp VE ⊢
 have hold:∀Q:D->Prop,Q (.bl true)->Vd [cB m,.lst false (ao false G),.lst false (ao false L),.lst false (pY false m G L)] Q:=λQ q=>⟨m,G,L,rfl,hm,g1,gl,hc.rt,hw,by omega,λS hS=>⟨by have:=(ok S hS).1;omega,λj hj=>((ok S hS).2.2 j hj).2,pp S hS⟩,q⟩
 refine aD λU hU=>?_
 walk_at"l3"
 refine Kz T T.zX T.z7 T.z9 (KG T) T.C8.b (by decide) ⟨m,G,k,rfl,hc,?_⟩
 dsimp only
 rw[cV,de,Rw]
 refine hold _ ⟨jx _,true,rfl,?_⟩
 rw[if_neg (by decide)]
 refine hU _ ?_
 clear hU U
 obtain⟨S,L',eL⟩:∃S L',L=S::L':=by
  cases L with
  | nil=>exact absurd rfl ne
  | cons S L'=>exact⟨S,L',rfl⟩
 have eP:pY true m G L=.tup ([]++.lst true (aq S)::[.lst true (ao true (gC m G S))])::pY true m G L':=by rw[eL];rfl
 rw[eP]
 have lS:=(ok S (by rw[eL];exact gE)).1
 have lP:=(pp S (by rw[eL];exact gE)).ln
 refine aD λU hU=>?_
 walk_at"l3"
 refine⟨[],_,_,_,⟨rfl,rfl⟩,rfl,Ac T m G k ?_⟩
 refine⟨rfl,⟨rfl,rfl⟩,by rw[fu];omega,hU _ ?_⟩
 clear hU U
 show Bw _ _ _ [_,_,_,_,_,some (D.lst true (D.tup ([D.lst true (aq S++[D.int (af G:Nat)])]++.lst true (ao true (gC m G S))::[])::pY true m G L'))]
 refine aD λU hU=>?_
 walk_at"l3"
 refine⟨[_],_,_,_,⟨rfl,rfl⟩,rfl,by decide,⟨rfl,rfl⟩,by rw[iV];omega,hU _ ?_⟩
 clear hU U
 refine aD λU hU=>?_
 walk_at"l3"
 refine⟨List.cons_ne_nil _ _,hU _ ?_⟩
 clear hU U
 generalize D.lst true (List.dropLast _)=dZ8
 walk_at"l3"
 refine Kz T T.zX T.z7 T.z9 (KG T) T.C8.b (by decide) ⟨m,G,k,rfl,hc,?_⟩
 dsimp only
 rw[CF,cV,de]
 refine VE _ ⟨by rw[HG];rfl,?_⟩
 rw[cV,Rw]
 exact hold _ ⟨jx _,q⟩
end
set_option maxHeartbeats 0 in
theorem all_mk{l:PySem.W.OpenLaw}{w:World}{K:Frag}{h:Heap}{mg:Str->Option Value}{fa:Addr}{ts:List Addr}(X:K.In h)(G:h.Ns mainGlobals mg)(hfa:mg "law"=some (.ref fa))
  {od7 an7:Option Addr} {sl7:Array (Option Value)} {oc7 kV7 dc7 pm7 ct7:Value} {f7:Addr}
  {Aq iX:Addr} {aA6:Option Addr} {aA7:Array (Option Value)} {VF:Array Value} {aA8:Value}
  {dw6 dw7:Option Addr} {dw8:Array (Option Value)} {dw9 dx0 dx1 dx2 dx3:Value} {Ar:Addr}
  {As iY:Addr} {aE0:Option Addr} {aE1:Array (Option Value)} {VG:Array Value} {aE2:Value}
  {dx7 VH:Option Addr} {dx8:Array (Option Value)} {dx9 VI VJ VL K8 VM:Value} {Au:Addr}
  {K9:Addr} {dy0:Value} {dy1:Value} {dy2:Option Addr} {dy3:Array (Option Value)} {dy4:Nat}
  {dy5 VN:Option Addr} {dy6:Array (Option Value)} {dy7 VO VP VQ La VR:Value} {Lb:Addr}
  {f0 f1 f2 f3 f4 f5 f6 f8 f9 Lc Ld kH Le Lf Lg Lh vH Li DP DQ DR Lj yM DS DT DU DV Lk xD Ll Lm Ln Lo Lp Lq Lr Lu Lw Lx Ly Lz LA LB LC LD LF LG LH DW DX LJ Av LL LM xE LN LO LP LQ DY DZ LR LS D0 LU D1 LV LW:Addr} {fd0 fd1 fd2 fd3 fd4 fd5 fd6 fd8 fd9 dz7 dz8 dz9 dA0 dA1 dA2 dA3 dA4 dA5 dA6 dA7 dA8 dA9 dB0 dB1 dB2 dB3 dB4 dB5 dB6 dB7 dB8 dB9 dC0 dC1 dC2 dC3 dC4 dC5 dC6 dC7 dC8 dC9 dD0 dD1 dD2 dD3 dD4 dD5 dD6 dD7 dD8 dD9 dE0 dE1 dE2 dE3 dE4 dE5 dE6 dE7 dE8 dE9 dF0 dF1 dF2 dF3 dF4 dF5:FuncData}
  {aN cC nk kP aQ df bR:Addr}
  (Ku:nsIn K mainGlobals "BitField"=some (some (.ref aN)))
  (Kv:nsIn K mainGlobals "CheckCode"=some (some (.ref cC)))
  (Ab:nsIn K mainGlobals "Code"=some (some (.ref nk)))
  (DC:nsIn K mainGlobals "Field"=some (some (.ref kP)))
  (Kw:nsIn K mainGlobals "PrimeField"=some (some (.ref aQ)))
  (Kx:nsIn K mainGlobals "RepeatCode"=some (some (.ref df)))
  (DD:nsIn K mainGlobals "RootCode"=some (some (.ref bR)))
  (a0:nsIn K mainGlobals "_law_told"=some (some (.ref f0)))
  (a1:nsIn K mainGlobals "powers_of"=some (some (.ref f1)))
  (a2:nsIn K mainGlobals "step_powers"=some (some (.ref f2)))
  (a3:nsIn K mainGlobals "logs_of"=some (some (.ref f3)))
  (a4:findIn K (.ref kP) "step_power"=some (some (.ref f4)))
  (VS:isFn K (.ref f4)=true)
  (a5:findIn K (.ref kP) "__init__"=some (some (.ref f5)))
  (mf5:isFn K (.ref f5)=true)
  (a6:nsIn K mainGlobals "makes_prime_field"=some (some (.ref f6)))
  (a7:findIn K (.ref aQ) "__init__"=some (some (.ref f7)))
  (mf7:isFn K (.ref f7)=true)
  (a8:nsIn K mainGlobals "product_rows"=some (some (.ref f8)))
  (a9:nsIn K mainGlobals "bits_divided"=some (some (.ref f9)))
  (a10:nsIn K mainGlobals "stands_alone"=some (some (.ref Lc)))
  (a11:nsIn K mainGlobals "makes_bit_field"=some (some (.ref Ld)))
  (a12:nsIn K mainGlobals "bits_times"=some (some (.ref kH)))
  (a13:findIn K (.ref aN) "__init__"=some (some (.ref Ar)))
  (dG1:isFn K (.ref Ar)=true)
  (a14:nsIn K mainGlobals "_law_field"=some (some (.ref Le)))
  (a15:nsIn K mainGlobals "_law_sets"=some (some (.ref Lf)))
  (a16:nsIn K mainGlobals "refuse_large"=some (some (.ref Lg)))
  (a17:nsIn K mainGlobals "copied"=some (some (.ref Lh)))
  (a18:findIn K (.ref nk) "checks"=some (some (.ref vH)))
  (LX:isFn K (.ref vH)=true)
  (a19:nsIn K mainGlobals "sets_of"=some (some (.ref Li)))
  (a20:findIn K (.ref cC) "distance"=some (some (.ref DP)))
  (dG8:isFn K (.ref DP)=true)
  (a21:findIn K (.ref df) "distance"=some (some (.ref DQ)))
  (dH0:isFn K (.ref DQ)=true)
  (a22:findIn K (.ref bR) "distance"=some (some (.ref DR)))
  (dH2:isFn K (.ref DR)=true)
  (a23:nsIn K mainGlobals "width_of"=some (some (.ref Lj)))
  (a24:nsIn K mainGlobals "first_with"=some (some (.ref yM)))
  (a25:findIn K (.ref aN) "scaled"=some (some (.ref DS)))
  (dH6:isFn K (.ref DS)=true)
  (a26:findIn K (.ref aQ) "scaled"=some (some (.ref DT)))
  (dH8:isFn K (.ref DT)=true)
  (a27:findIn K (.ref aN) "lessened"=some (some (.ref DU)))
  (dI0:isFn K (.ref DU)=true)
  (a28:findIn K (.ref aQ) "lessened"=some (some (.ref DV)))
  (dI2:isFn K (.ref DV)=true)
  (a29:nsIn K mainGlobals "cleared"=some (some (.ref Lk)))
  (a30:findIn K (.ref kP) "over"=some (some (.ref xD)))
  (VT:isFn K (.ref xD)=true)
  (a31:nsIn K mainGlobals "reduced"=some (some (.ref Ll)))
  (a32:nsIn K mainGlobals "leads"=some (some (.ref Lm)))
  (a33:nsIn K mainGlobals "unit_row"=some (some (.ref Ln)))
  (a34:nsIn K mainGlobals "way_back"=some (some (.ref Lo)))
  (a35:nsIn K mainGlobals "picked"=some (some (.ref Lp)))
  (a36:nsIn K mainGlobals "paper"=some (some (.ref Lq)))
  (a37:nsIn K mainGlobals "_law_whole"=some (some (.ref Lr)))
  (a38:nsIn K mainGlobals "_law_row_kind"=some (some (.ref Lu)))
  (a39:nsIn K mainGlobals "_law_table_kind"=some (some (.ref Lw)))
  (a40:nsIn K mainGlobals "_law_many"=some (some (.ref Lx)))
  (a41:nsIn K mainGlobals "_law_plus"=some (some (.ref Ly)))
  (a42:nsIn K mainGlobals "_law_times"=some (some (.ref Lz)))
  (a43:nsIn K mainGlobals "_law_dot"=some (some (.ref LA)))
  (a44:nsIn K mainGlobals "_law_by_row"=some (some (.ref LB)))
  (a45:nsIn K mainGlobals "_law_leads_back"=some (some (.ref LC)))
  (a46:nsIn K mainGlobals "_law_back"=some (some (.ref LD)))
  (a47:nsIn K mainGlobals "_law_holds"=some (some (.ref LF)))
  (a48:nsIn K mainGlobals "_law_cell"=some (some (.ref LG)))
  (a49:nsIn K mainGlobals "free_places"=some (some (.ref LH)))
  (a50:findIn K (.ref aN) "minus"=some (some (.ref DW)))
  (dK4:isFn K (.ref DW)=true)
  (a51:findIn K (.ref aQ) "minus"=some (some (.ref DX)))
  (dK6:isFn K (.ref DX)=true)
  (a52:nsIn K mainGlobals "kernel_of_reduced"=some (some (.ref LJ)))
  (a53:findIn K (.ref nk) "__init__"=some (some (.ref Av)))
  (d03:isFn K (.ref Av)=true)
  (a54:nsIn K mainGlobals "makes_root_code"=some (some (.ref LL)))
  (a55:findIn K (.ref bR) "__init__"=some (some (.ref Au)))
  (dL0:isFn K (.ref Au)=true)
  (a56:nsIn K mainGlobals "_law_large"=some (some (.ref LM)))
  (a57:findIn K (.ref kP) "holds"=some (some (.ref xE)))
  (VU:isFn K (.ref xE)=true)
  (a58:nsIn K mainGlobals "is_small_table"=some (some (.ref LN)))
  (a59:nsIn K mainGlobals "rank"=some (some (.ref LO)))
  (a60:nsIn K mainGlobals "turned"=some (some (.ref LP)))
  (a61:nsIn K mainGlobals "is_nought"=some (some (.ref LQ)))
  (a62:findIn K (.ref aN) "times"=some (some (.ref DY)))
  (dL7:isFn K (.ref DY)=true)
  (a63:findIn K (.ref aQ) "times"=some (some (.ref DZ)))
  (dL9:isFn K (.ref DZ)=true)
  (a64:nsIn K mainGlobals "past"=some (some (.ref LR)))
  (a65:nsIn K mainGlobals "first_bound"=some (some (.ref LS)))
  (a66:findIn K (.ref cC) "__init__"=some (some (.ref D0)))
  (dM3:isFn K (.ref D0)=true)
  (a67:nsIn K mainGlobals "repeat_checks"=some (some (.ref LU)))
  (a68:findIn K (.ref df) "__init__"=some (some (.ref D1)))
  (dM6:isFn K (.ref D1)=true)
  (a69:nsIn K mainGlobals "_law_table"=some (some (.ref LV)))
  (a70:nsIn K mainGlobals "_law_code"=some (some (.ref LW)))
  (VV:nsIn K mainGlobals "law"=some (some (.ref Lb)))
  (aM3:plainGet K aN xG=true)
  (aM4:hasDictIn K aN=true)
  (aM5:plainOver K aN=true)
  (aM6:findIn K (.ref aN) "__setattr__"=some (some (.builtin "object.__setattr__")))
  (J3:makesIn K aN=true)
  (aM7:keepIn K (.ref aN)=true)
  (J4:findIn K (.ref aN) "bits"=some none)
  (xt:findIn K (.ref aN) "logs"=some none)
  (vx:findIn K (.ref aN) "many"=some none)
  (xu:findIn K (.ref aN) "powers"=some none)
  (xv:findIn K (.ref aN) "products"=some none)
  (J5:findIn K (.ref aN) "step"=some none)
  (J6:findIn K (.ref aN) "wide"=some none)
  (J7:findIn K (.ref aN) "holds"=some (some (.ref xE)))
  (J8:findIn K (.ref aN) "over"=some (some (.ref xD)))
  (zW:findIn K (.ref aN) "step_power"=some (some (.ref f4)))
  (dN4:plainGet K cC xG=true)
  (dN5:hasDictIn K cC=true)
  (dN6:plainOver K cC=true)
  (dN7:findIn K (.ref cC) "__setattr__"=some (some (.builtin "object.__setattr__")))
  (J9:makesIn K cC=true)
  (dN8:keepIn K (.ref cC)=true)
  (Dn:findIn K (.ref cC) "bound"=some none)
  (Dq:findIn K (.ref cC) "check_rows"=some none)
  (Dr:findIn K (.ref cC) "field"=some none)
  (Ds:findIn K (.ref cC) "length"=some none)
  (Ka:findIn K (.ref cC) "message_places"=some none)
  (Kb:findIn K (.ref cC) "size"=some none)
  (Ke:findIn K (.ref cC) "word_rows"=some none)
  (zX:findIn K (.ref cC) "checks"=some (some (.ref vH)))
  (aI7:plainGet K aQ xG=true)
  (aI8:hasDictIn K aQ=true)
  (aI9:plainOver K aQ=true)
  (aJ0:findIn K (.ref aQ) "__setattr__"=some (some (.builtin "object.__setattr__")))
  (Kf:makesIn K aQ=true)
  (aJ1:keepIn K (.ref aQ)=true)
  (zY:findIn K (.ref aQ) "logs"=some none)
  (vy:findIn K (.ref aQ) "many"=some none)
  (zZ:findIn K (.ref aQ) "powers"=some none)
  (vz:findIn K (.ref aQ) "prime"=some none)
  (Kg:findIn K (.ref aQ) "step"=some none)
  (Kh:findIn K (.ref aQ) "wide"=some none)
  (Ki:findIn K (.ref aQ) "holds"=some (some (.ref xE)))
  (Kj:findIn K (.ref aQ) "over"=some (some (.ref xD)))
  (z5:findIn K (.ref aQ) "step_power"=some (some (.ref f4)))
  (dO4:plainGet K df xG=true)
  (dO5:hasDictIn K df=true)
  (dO6:plainOver K df=true)
  (dO7:findIn K (.ref df) "__setattr__"=some (some (.builtin "object.__setattr__")))
  (Kk:makesIn K df=true)
  (dO8:keepIn K (.ref df)=true)
  (Du:findIn K (.ref df) "check_rows"=some none)
  (Dv:findIn K (.ref df) "field"=some none)
  (Dw:findIn K (.ref df) "length"=some none)
  (Kl:findIn K (.ref df) "message_places"=some none)
  (Km:findIn K (.ref df) "size"=some none)
  (Kn:findIn K (.ref df) "word_rows"=some none)
  (z7:findIn K (.ref df) "checks"=some (some (.ref vH)))
  (dO9:plainGet K bR xG=true)
  (dP2:hasDictIn K bR=true)
  (dP3:plainOver K bR=true)
  (dP4:findIn K (.ref bR) "__setattr__"=some (some (.builtin "object.__setattr__")))
  (Dx:makesIn K bR=true)
  (dP5:keepIn K (.ref bR)=true)
  (Dy:findIn K (.ref bR) "check_rows"=some none)
  (Dz:findIn K (.ref bR) "extra"=some none)
  (DA:findIn K (.ref bR) "field"=some none)
  (Ko:findIn K (.ref bR) "first"=some none)
  (DB:findIn K (.ref bR) "length"=some none)
  (Kp:findIn K (.ref bR) "message_places"=some none)
  (Kq:findIn K (.ref bR) "size"=some none)
  (Kr:findIn K (.ref bR) "word_rows"=some none)
  (z9:findIn K (.ref bR) "checks"=some (some (.ref vH)))
  (dP6:PySem.W.specialIn K (.ref nk) "__getattribute__"=some (some (.builtin "type.__getattribute__")))
  (dP7:PySem.W.readsIn K nk (.type "type")=true)
  (dP8:PySem.W.findCls K (.ref nk) (.type "type") "__init__"=some (.val (.ref Av)))
  (aJ2:PySem.W.specialIn K (.ref kP) "__getattribute__"=some (some (.builtin "type.__getattribute__")))
  (aJ3:PySem.W.readsIn K kP (.type "type")=true)
  (aJ4:PySem.W.findCls K (.ref kP) (.type "type") "__init__"=some (.val (.ref f5)))
  (dQ2:nsIn K mainGlobals "all"=some none)
  (dQ3:nsIn K mainGlobals "any"=some none)
  (dQ4:nsIn K mainGlobals "bool"=some none)
  (dQ5:nsIn K mainGlobals "enumerate"=some none)
  (dQ6:nsIn K mainGlobals "int"=some none)
  (dQ7:nsIn K mainGlobals "isinstance"=some none)
  (dQ8:nsIn K mainGlobals "len"=some none)
  (dQ9:nsIn K mainGlobals "list"=some none)
  (dR0:nsIn K mainGlobals "min"=some none)
  (dR3:nsIn K mainGlobals "range"=some none)
  (dR4:nsIn K mainGlobals "tuple"=some none)
  (dR5:nsIn K mainGlobals "zip"=some none)
  (F0:aZ K "_law_told" "_law_told" HQ f0 fd0)
  (F1:aZ K "powers_of" "powers_of" HS f1 fd1)
  (F2:aZ K "step_powers" "step_powers" HU f2 fd2)
  (F3:aZ K "logs_of" "logs_of" HV f3 fd3)
  (F4:aZ K "step_power" "Field.step_power" HX f4 fd4)
  (F5:aZ K "__init__" "Field.__init__" HY f5 fd5)
  (F6:aZ K "makes_prime_field" "makes_prime_field" HZ f6 fd6)
  (F8:aZ K "product_rows" "product_rows" Ia f8 fd8)
  (F9:aZ K "bits_divided" "bits_divided" Ib f9 fd9)
  (VW:aZ K "stands_alone" "stands_alone" Ic Lc dz7)
  (VX:aZ K "makes_bit_field" "makes_bit_field" Ig Ld dz8)
  (VY:aZ K "bits_times" "bits_times" Ih kH dz9)
  (VZ:aZ K "_law_field" "_law_field" Ii Le dA0)
  (V0:aZ K "_law_sets" "_law_sets" Ij Lf dA1)
  (V1:aZ K "refuse_large" "refuse_large" Ik Lg dA2)
  (V2:aZ K "copied" "copied" Il Lh dA3)
  (Aw:aZ K "checks" "Code.checks" Im vH dA4)
  (V3:aZ K "sets_of" "sets_of" Io Li dA5)
  (LY:aZ K "distance" "CheckCode.distance" Ip DP dA6)
  (LZ:aZ K "distance" "RepeatCode.distance" Iq DQ dA7)
  (L0:aZ K "distance" "RootCode.distance" Ir DR dA8)
  (V4:aZ K "width_of" "width_of" Iu Lj dA9)
  (V5:aZ K "first_with" "first_with" Iw yM dB0)
  (L1:aZ K "scaled" "BitField.scaled" Iy DS dB1)
  (L4:aZ K "scaled" "PrimeField.scaled" Iz DT dB2)
  (L5:aZ K "lessened" "BitField.lessened" IA DU dB3)
  (L6:aZ K "lessened" "PrimeField.lessened" IB DV dB4)
  (V6:aZ K "cleared" "cleared" IC Lk dB5)
  (D2:aZ K "over" "Field.over" ID xD dB6)
  (V7:aZ K "reduced" "reduced" IE Ll dB7)
  (V8:aZ K "leads" "leads" IF Lm dB8)
  (V9:aZ K "unit_row" "unit_row" IG Ln dB9)
  (Wa:aZ K "way_back" "way_back" IH Lo dC0)
  (Wb:aZ K "picked" "picked" II Lp dC1)
  (Wc:aZ K "paper" "paper" IJ Lq dC2)
  (We:aZ K "_law_whole" "_law_whole" IL Lr dC3)
  (Wf:aZ K "_law_row_kind" "_law_row_kind" IM Lu dC4)
  (Wg:aZ K "_law_table_kind" "_law_table_kind" IQ Lw dC5)
  (Wh:aZ K "_law_many" "_law_many" IS Lx dC6)
  (Wi:aZ K "_law_plus" "_law_plus" IT Ly dC7)
  (Wj:aZ K "_law_times" "_law_times" IU Lz dC8)
  (Wk:aZ K "_law_dot" "_law_dot" IV LA dC9)
  (Wl:aZ K "_law_by_row" "_law_by_row" IW LB dD0)
  (Wm:aZ K "_law_leads_back" "_law_leads_back" IY LC dD1)
  (Wn:aZ K "_law_back" "_law_back" I0 LD dD2)
  (Wo:aZ K "_law_holds" "_law_holds" Ja LF dD3)
  (Wq:aZ K "_law_cell" "_law_cell" Jb LG dD4)
  (Wr:aZ K "free_places" "free_places" Jc LH dD5)
  (L7:aZ K "minus" "BitField.minus" Jd DW dD6)
  (L8:aZ K "minus" "PrimeField.minus" Je DX dD7)
  (Ws:aZ K "kernel_of_reduced" "kernel_of_reduced" Jf LJ dD8)
  (L9:aZ K "__init__" "Code.__init__" Jg Av dD9)
  (Wt:aZ K "makes_root_code" "makes_root_code" Jh LL dE0)
  (Wu:aZ K "_law_large" "_law_large" Ji LM dE1)
  (D3:aZ K "holds" "Field.holds" Jk xE dE2)
  (Wv:aZ K "is_small_table" "is_small_table" Jl LN dE3)
  (Ww:aZ K "rank" "rank" Jm LO dE4)
  (Wx:aZ K "turned" "turned" Jn LP dE5)
  (Wy:aZ K "is_nought" "is_nought" Jo LQ dE6)
  (Ma:aZ K "times" "BitField.times" Jp DY dE7)
  (Mb:aZ K "times" "PrimeField.times" Jq DZ dE8)
  (Wz:aZ K "past" "past" Jr LR dE9)
  (WA:aZ K "first_bound" "first_bound" Js LS dF0)
  (WB:aZ K "__init__" "CheckCode.__init__" Jt D0 dF1)
  (WC:aZ K "repeat_checks" "repeat_checks" Ju LU dF2)
  (WD:aZ K "__init__" "RepeatCode.__init__" Jv D1 dF3)
  (WE:aZ K "_law_table" "_law_table" Jw LV dF4)
  (WG:aZ K "_law_code" "_law_code" Jx LW dF5)
  (l7:K.lookup f7=some ⟨oc7,od7,.func (fnOf "__init__" "PrimeField.__init__" (jh pZ) (gr pZ) (aL pZ) .none kV7 dc7 pm7 an7 (.ref Aq) ct7),sl7⟩)
  (c7:codeIn K (.ref Aq) "PrimeField.__init__"=true)
  (k7:keepIn K (.ref f7)=true)
  (aO3:K.lookup Aq=some ⟨aA8,aA6,.fields VF,aA7⟩)
  (aO4:VF[11]?=some (.ref iX))
  (aA9:codeHdIn K Aq iX=true)
  (l13:K.lookup Ar=some ⟨dw9,dw6,.func (fnOf "__init__" "BitField.__init__" (jh p7) (gr p7) (aL p7) .none dx0 dx1 dx2 dw7 (.ref As) dx3),dw8⟩)
  (c13:codeIn K (.ref As) "BitField.__init__"=true)
  (k13:keepIn K (.ref Ar)=true)
  (aO5:K.lookup As=some ⟨aE2,aE0,.fields VG,aE1⟩)
  (aO6:VG[11]?=some (.ref iY))
  (aE3:codeHdIn K As iY=true)
  (l55:K.lookup Au=some ⟨dx9,dx7,.func (fnOf "__init__" "RootCode.__init__" (jh p8) (gr p8) (aL p8) (.ref K9) VI VJ VL VH K8 VM),dx8⟩)
  (dS2:K.lookup K9=some ⟨dy0,dy2,.seq #[dy1] dy4,dy3⟩)
  (c55:codeIn K K8 "RootCode.__init__"=true)
  (k55:keepIn K (.ref Au)=true)
  (l71:K.lookup Lb=some ⟨dy7,dy5,.func (fnOf "law" "law" (jh p9) (gr p9) (aL p9) .none VO VP VQ VN La VR),dy6⟩)
  (c71:codeIn K La "law"=true)
  (k71:keepIn K (.ref Lb)=true)
  (nl:K.all (λp=>GB p.2)=true)
  (sub:∀P∈[iX,iY],P∈ts) :
  ∃fd:FuncData,(∀(s:Shared) (v:Value),BindsTo s fd ⟨[v],[]⟩ [("_law_script",v)])/\∀base:Heap,K.In base->base.Ns mainGlobals mg->Bm mg base->aJ l.prog w K mg base aP 11 fa fd ["_law_script"] (BN ts K):=by
 have e:=hfa.symm.trans (mg_of X G VV)
 cases e
 have F7:=Bk (st:=pZ) l7 c7 k7
 have b7:=F7.binds (ps:=["self","prime"]) λ_ _ _ _ _ _=>fM (λ_ _=>rfl)
 have WH:=Bk (st:=p7) l13 c13 k13
 have b13:=WH.binds (ps:=["self","bits"]) λ_ _ _ _ _ _=>fM (λ_ _=>rfl)
 have F55:=ci5 (st:=p8) l55 c55 k55
 have b55:=cA0 (ps:=["self","field","length","extra","first"]) (fd:=fnOf "__init__" "RootCode.__init__" (jh p8) (gr p8) (aL p8) (.ref K9) VI VJ VL VH K8 VM) rfl dS2 rfl (QM (λ_ _ _ _ _=>⟨_,rfl,rfl⟩))
 have WI:=Bk (st:=p9) l71 c71 k71
 have b71:=WI.binds (ps:=["_law_script"]) λ_ _ _ _ _ _=>fZ (λ_=>rfl)
 have T:Txt K mg ⟨f0,_,f1,_,f2,_,f3,_,f4,_,f5,_,f6,_,f7,_,f8,_,f9,_,Lc,_,Ld,_,kH,_,Ar,_,Le,_,Lf,_,Lg,_,Lh,_,vH,_,Li,_,DP,_,DQ,_,DR,_,Lj,_,yM,_,DS,_,DT,_,DU,_,DV,_,Lk,_,xD,_,Ll,_,Lm,_,Ln,_,Lo,_,Lp,_,Lq,_,Lr,_,Lu,_,Lw,_,Lx,_,Ly,_,Lz,_,LA,_,LB,_,LC,_,LD,_,LF,_,LG,_,LH,_,DW,_,DX,_,LJ,_,Av,_,LL,_,Au,_,LM,_,xE,_,LN,_,LO,_,LP,_,LQ,_,DY,_,DZ,_,LR,_,LS,_,D0,_,LU,_,D1,_,LV,_,LW,_,fa,_,Aq,iX,As,iY,aN,cC,nk,kP,aQ,df,bR⟩:=⟨⟨F0,mg_of X G a0,F0.binds λ_ _ _ _ _ _=>fZ λ_=>rfl⟩,⟨F1,mg_of X G a1,F1.binds λ_ _ _ _ _ _=>fM λ_ _=>rfl⟩,⟨F2,mg_of X G a2,F2.binds λ_ _ _ _ _ _=>fM λ_ _=>rfl⟩,⟨F3,mg_of X G a3,F3.binds λ_ _ _ _ _ _=>fZ λ_=>rfl⟩,⟨F4,F4.binds λ_ _ _ _ _ _=>fM λ_ _=>rfl⟩,⟨F5,F5.binds λ_ _ _ _ _ _=>fO λ_ _ _=>rfl⟩,⟨F6,mg_of X G a6,F6.binds λ_ _ _ _ _ _=>fZ λ_=>rfl⟩,⟨F7,b7⟩,⟨F8,mg_of X G a8,F8.binds λ_ _ _ _ _ _=>fM λ_ _=>rfl⟩,⟨F9,mg_of X G a9,F9.binds λ_ _ _ _ _ _=>fM λ_ _=>rfl⟩,⟨VW,mg_of X G a10,VW.binds λ_ _ _ _ _ _=>fZ λ_=>rfl⟩,⟨VX,mg_of X G a11,VX.binds λ_ _ _ _ _ _=>fZ λ_=>rfl⟩,⟨VY,mg_of X G a12,VY.binds λ_ _ _ _ _ _=>fM λ_ _=>rfl⟩,⟨WH,b13⟩,⟨VZ,mg_of X G a14,VZ.binds λ_ _ _ _ _ _=>fZ λ_=>rfl⟩,⟨V0,mg_of X G a15,V0.binds λ_ _ _ _ _ _=>fO λ_ _ _=>rfl⟩,⟨V1,mg_of X G a16,V1.binds λ_ _ _ _ _ _=>fZ λ_=>rfl⟩,⟨V2,mg_of X G a17,V2.binds λ_ _ _ _ _ _=>fZ λ_=>rfl⟩,⟨Aw,Aw.binds λ_ _ _ _ _ _=>fZ λ_=>rfl⟩,⟨V3,mg_of X G a19,V3.binds λ_ _ _ _ _ _=>fM λ_ _=>rfl⟩,⟨LY,LY.binds λ_ _ _ _ _ _=>fZ λ_=>rfl⟩,⟨LZ,LZ.binds λ_ _ _ _ _ _=>fZ λ_=>rfl⟩,⟨L0,L0.binds λ_ _ _ _ _ _=>fZ λ_=>rfl⟩,⟨V4,mg_of X G a23,V4.binds λ_ _ _ _ _ _=>fZ λ_=>rfl⟩,⟨V5,mg_of X G a24,V5.binds λ_ _ _ _ _ _=>fM λ_ _=>rfl⟩,⟨L1,L1.binds λ_ _ _ _ _ _=>fO λ_ _ _=>rfl⟩,⟨L4,L4.binds λ_ _ _ _ _ _=>fO λ_ _ _=>rfl⟩,⟨L5,L5.binds λ_ _ _ _ _ _=>pS λ_ _ _ _=>rfl⟩,⟨L6,L6.binds λ_ _ _ _ _ _=>pS λ_ _ _ _=>rfl⟩,⟨V6,mg_of X G a29,V6.binds λ_ _ _ _ _ _=>pS λ_ _ _ _=>rfl⟩,⟨D2,D2.binds λ_ _ _ _ _ _=>fO λ_ _ _=>rfl⟩,⟨V7,mg_of X G a31,V7.binds λ_ _ _ _ _ _=>fM λ_ _=>rfl⟩,⟨V8,mg_of X G a32,V8.binds λ_ _ _ _ _ _=>fZ λ_=>rfl⟩,⟨V9,mg_of X G a33,V9.binds λ_ _ _ _ _ _=>fM λ_ _=>rfl⟩,⟨Wa,mg_of X G a34,Wa.binds λ_ _ _ _ _ _=>fM λ_ _=>rfl⟩,⟨Wb,mg_of X G a35,Wb.binds λ_ _ _ _ _ _=>fM λ_ _=>rfl⟩,⟨Wc,mg_of X G a36,Wc.binds λ_ _ _ _ _ _=>fZ λ_=>rfl⟩,⟨We,mg_of X G a37,We.binds λ_ _ _ _ _ _=>fZ λ_=>rfl⟩,⟨Wf,mg_of X G a38,Wf.binds λ_ _ _ _ _ _=>fO λ_ _ _=>rfl⟩,⟨Wg,mg_of X G a39,Wg.binds λ_ _ _ _ _ _=>pS λ_ _ _ _=>rfl⟩,⟨Wh,mg_of X G a40,Wh.binds λ_ _ _ _ _ _=>fZ λ_=>rfl⟩,⟨Wi,mg_of X G a41,Wi.binds λ_ _ _ _ _ _=>fO λ_ _ _=>rfl⟩,⟨Wj,mg_of X G a42,Wj.binds λ_ _ _ _ _ _=>fO λ_ _ _=>rfl⟩,⟨Wk,mg_of X G a43,Wk.binds λ_ _ _ _ _ _=>fO λ_ _ _=>rfl⟩,⟨Wl,mg_of X G a44,Wl.binds λ_ _ _ _ _ _=>pS λ_ _ _ _=>rfl⟩,⟨Wm,mg_of X G a45,Wm.binds λ_ _ _ _ _ _=>fO λ_ _ _=>rfl⟩,⟨Wn,mg_of X G a46,Wn.binds λ_ _ _ _ _ _=>pS λ_ _ _ _=>rfl⟩,⟨Wo,mg_of X G a47,Wo.binds λ_ _ _ _ _ _=>pS λ_ _ _ _=>rfl⟩,⟨Wq,mg_of X G a48,Wq.binds λ_ _ _ _ _ _=>fM λ_ _=>rfl⟩,⟨Wr,mg_of X G a49,Wr.binds λ_ _ _ _ _ _=>fM λ_ _=>rfl⟩,⟨L7,L7.binds λ_ _ _ _ _ _=>fO λ_ _ _=>rfl⟩,⟨L8,L8.binds λ_ _ _ _ _ _=>fO λ_ _ _=>rfl⟩,⟨Ws,mg_of X G a52,Ws.binds λ_ _ _ _ _ _=>fO λ_ _ _=>rfl⟩,⟨L9,L9.binds λ_ _ _ _ _ _=>fO λ_ _ _=>rfl⟩,⟨Wt,mg_of X G a54,Wt.binds λ_ _ _ _ _ _=>pS λ_ _ _ _=>rfl⟩,F55,b55,⟨Wu,mg_of X G a56,Wu.binds λ_ _ _ _ _ _=>fO λ_ _ _=>rfl⟩,⟨D3,D3.binds λ_ _ _ _ _ _=>fM λ_ _=>rfl⟩,⟨Wv,mg_of X G a58,Wv.binds λ_ _ _ _ _ _=>fM λ_ _=>rfl⟩,⟨Ww,mg_of X G a59,Ww.binds λ_ _ _ _ _ _=>fM λ_ _=>rfl⟩,⟨Wx,mg_of X G a60,Wx.binds λ_ _ _ _ _ _=>fZ λ_=>rfl⟩,⟨Wy,mg_of X G a61,Wy.binds λ_ _ _ _ _ _=>fZ λ_=>rfl⟩,⟨Ma,Ma.binds λ_ _ _ _ _ _=>fO λ_ _ _=>rfl⟩,⟨Mb,Mb.binds λ_ _ _ _ _ _=>fO λ_ _ _=>rfl⟩,⟨Wz,mg_of X G a64,Wz.binds λ_ _ _ _ _ _=>fO λ_ _ _=>rfl⟩,⟨WA,mg_of X G a65,WA.binds λ_ _ _ _ _ _=>fM λ_ _=>rfl⟩,⟨WB,WB.binds λ_ _ _ _ _ _=>fO λ_ _ _=>rfl⟩,⟨WC,mg_of X G a67,WC.binds λ_ _ _ _ _ _=>fM λ_ _=>rfl⟩,⟨WD,WD.binds λ_ _ _ _ _ _=>fO λ_ _ _=>rfl⟩,⟨WE,mg_of X G a69,WE.binds λ_ _ _ _ _ _=>cy0 λ_ _ _ _ _ _=>rfl⟩,⟨WG,mg_of X G a70,WG.binds λ_ _ _ _ _ _=>fO λ_ _ _=>rfl⟩,⟨WI,mg_of X G VV,b71⟩,rfl,aA9,rfl,aE3,⟨aM3,aM4,aM5,aM6⟩,⟨J3,a13,dG1,aM7⟩,J4,xt,vx,xu,xv,J5,J6,⟨J7,VU,D3.kp⟩,⟨a27,dI0,L5.kp⟩,⟨a50,dK4,L7.kp⟩,⟨J8,VT,D2.kp⟩,⟨a25,dH6,L1.kp⟩,⟨zW,VS,F4.kp⟩,⟨a62,dL7,Ma.kp⟩,⟨dN4,dN5,dN6,dN7⟩,⟨J9,a66,dM3,dN8⟩,Dn,Dq,Dr,Ds,Ka,Kb,Ke,⟨zX,LX,Aw.kp⟩,⟨a20,dG8,LY.kp⟩,⟨aI7,aI8,aI9,aJ0⟩,⟨Kf,a7,mf7,aJ1⟩,zY,vy,zZ,vz,Kg,Kh,⟨Ki,VU,D3.kp⟩,⟨a28,dI2,L6.kp⟩,⟨a51,dK6,L8.kp⟩,⟨Kj,VT,D2.kp⟩,⟨a26,dH8,L4.kp⟩,⟨z5,VS,F4.kp⟩,⟨a63,dL9,Mb.kp⟩,⟨dO4,dO5,dO6,dO7⟩,⟨Kk,a68,dM6,dO8⟩,Du,Dv,Dw,Kl,Km,Kn,⟨z7,LX,Aw.kp⟩,⟨a21,dH0,LZ.kp⟩,⟨dO9,dP2,dP3,dP4⟩,⟨Dx,a55,dL0,dP5⟩,Dy,Dz,DA,Ko,DB,Kp,Kq,Kr,⟨z9,LX,Aw.kp⟩,⟨a22,dH2,L0.kp⟩,⟨dP6,dP7,dP8,L9.kp⟩,⟨aJ2,aJ3,aJ4,F5.kp⟩,mg_none_of X G dQ2,mg_none_of X G dQ3,mg_none_of X G dQ4,mg_none_of X G dQ5,mg_none_of X G dQ6,mg_none_of X G dQ7,mg_none_of X G dQ8,mg_none_of X G dQ9,mg_none_of X G dR0,mg_none_of X G dR3,mg_none_of X G dR4,mg_none_of X G dR5,mg_of X G Ku,mg_of X G Kv,mg_of X G Ab,mg_of X G DC,mg_of X G Kw,mg_of X G Kx,mg_of X G DD⟩
 exact⟨fnOf "law" "law" (jh p9) (gr p9) (aL p9) .none VO VP VQ VN La VR,λs v=>.of_eq rfl,λbase _ _ hB=>(cz4 T hB).imp λvs H Q E h=>let z:=b94 nl h;⟨λP hP=>z.1 P (sub P hP),z.2⟩⟩
theorem aB0{K:Frag}{h:Heap}{c f k P:Addr}{od an:Option Addr}{sl:Array (Option Value)}{oc kV dc pm ct kt:Value}{ko:Option Addr}{ks:Array (Option Value)}{kf:Array Value}(X:K.In h)(a:nsIn K mainGlobals "PrimeField"=some (some (.ref c)))(b:findIn K (.ref c) "__init__"=some (some (.ref f)))
  (l:K.lookup f=some ⟨oc,od,.func (fnOf "__init__" "PrimeField.__init__" (jh pZ) (gr pZ) (aL pZ) .none kV dc pm an (.ref k) ct),sl⟩) (lk:K.lookup k=some ⟨kt,ko,.fields kf,ks⟩) (lp:kf[11]?=some (.ref P)) (n:K.lookup P=none) (e:codeHdIn K k P=true):K.lookup P=none/\∃c,CodeHd h c P:=⟨n,k,PySem.W.codeHd_of_K X e⟩
theorem aE4{K:Frag}{h:Heap}{c f k P:Addr}{od an:Option Addr}{sl:Array (Option Value)}{oc kV dc pm ct kt:Value}{ko:Option Addr}{ks:Array (Option Value)}{kf:Array Value}(X:K.In h)(a:nsIn K mainGlobals "BitField"=some (some (.ref c)))(b:findIn K (.ref c) "__init__"=some (some (.ref f)))
  (l:K.lookup f=some ⟨oc,od,.func (fnOf "__init__" "BitField.__init__" (jh p7) (gr p7) (aL p7) .none kV dc pm an (.ref k) ct),sl⟩) (lk:K.lookup k=some ⟨kt,ko,.fields kf,ks⟩) (lp:kf[11]?=some (.ref P)) (n:K.lookup P=none) (e:codeHdIn K k P=true):K.lookup P=none/\∃c,CodeHd h c P:=⟨n,k,PySem.W.codeHd_of_K X e⟩
theorem walk{l:PySem.W.OpenLaw}{q:Program}{loose:List Str}{XP:(Str->Option Value)->Heap->Prop}{YP:World->Heap->Prop}{d:DefRec}{K:Params->Frag}{ts:List Addr}(hn:l.most=some 63)(yr:d.params.defaults=[])
  (hY:∀(w:World) (h:Heap),YP w h->(K w.params).In h/\∀P∈ts,h.get? P=some (PySem.W.tabObj #[]))
  (hC:∀(w:World) (h:Heap),(K w.params).In h->∀P∈ts,(K w.params).lookup P=none/\∃c,CodeHd h c P)
  (F:∀(w:World) (mg:Str->Option Value) (fa:Addr) (h:Heap),(K w.params).In h->h.Ns mainGlobals mg->mg d.name=some (.ref fa) ->
   ∃fd:FuncData,(∀(s:Shared) (u:Value),BindsTo s fd ⟨[u],[]⟩ [("_law_script",u)])/\∀base:Heap,(K w.params).In base->base.Ns mainGlobals mg->Bm mg base->aJ l.prog w (K w.params) mg base aP 11 fa fd ["_law_script"] (BN ts (K w.params))) :
  PySem.W.WalkO q loose XP YP l.row.toRowW d [] (λf vs=>PySem.call f vs) :=
 L2.cS5 (n:=63) (k:=11) (x:="_law_script") (CX:=λ_=>aP) (sp:=λw=>BN ts (K w.params)) hn (by decide) yr ⟨rfl,by decide,by decide⟩ hY hC F (λ_ _ a ns hl hO hS=>⟨a,ns,rfl,hO,hS,hl,λ_=>rfl⟩) λ_ _ _ _ _ z=>z
end HK42
set_option genInjectivity false in
set_option genSizeOf false in
structure PySem.W.Fast:Prop where
 (tw9952191065272353856 tw6672660082660942944 tw1168075833637781600 tw12156802821750219872 tw15398033080982616224 tw3320489560777801888 tw15653298224900017376 tw1922111183555827936 tw672827759189571808 tw12264985779849765184 tw1188707144612508992 tw1079661191078148448 tw1480143851060497792 tw4612809749569052096 tw10241872595106962080 tw13237043969049526976 tw12536975181545667264 tw9396984972350007040 tw1573871102060005152 tw9803990490354855744 tw8301264636331453248 tw7019086434553491296 tw17299292362530227168 tw7815079312607088608 tw1767095850317886432 tw7030789562145560544 tw5623310658541889537 tw8657859983090492449 tw16697337946457388065 tw8654040349123442721 tw4726174736332311713 tw3790680447636056257 tw3244390580944880865 tw16001761704645048577 tw764055120967865601 tw18303075800492802337 tw2341263827271871777 tw174082815352299841 tw5860519734909016417 tw8814240685396401505:True)
 (tw14157868191708627393 tw5874162215248294401 tw3386449435987228193 tw12896963987587488321 tw9164399962717314625 tw9621154349120563873 tw10729988327241736865 tw3535383624918035105 tw13345364358792521409 tw11455744468274718401 tw8962327839663698625 tw3400355193124047553 tw10752844528058226369 tw7393647026717073185 tw16622241123273527073 tw3856091354502847265 tw9806901383537685281 tw8902048653889392449 tw5593087376180879233 tw7012423324819687329 tw9518300485723405249 tw9722240300365133793 tw5357165704067206113 tw10362546925098999842 tw1969657967853846562 tw11673783686852437026 tw13870170224236464194 tw7240270907094054978 tw13350948085165658210 tw9483590073780033666 tw14789452011996155010 tw4997132633225754818 tw9200337858383655138 tw16557156474718944482 tw14461800330113791234 tw16304728321210248546 tw7250974246677907906 tw8487861969707860546 tw13641351746324914754 tw15561920418708350562:True)
 (tw16157359597923055234 tw14901066418818828930 tw11282087792547154562 tw13887750118934183586 tw14274021372302212802 tw11283844615317115586 tw15923341809525676738 tw15236470505017436866 tw17446767429751642882 tw10170177536435789602 tw9503081412509000482 tw335390078045040450 tw17611572139341407074 tw17458952939542213474 tw3708585425869681538 tw12687912786567450498 tw2873886385743850370 tw2293936214512391106 tw15225753990914760642 tw6503453484787399618 tw3979256121100100611 tw10448684864747246659 tw287307302188460131 tw15716571872332788835 tw9510999281639093379 tw16070731991205607587 tw6374543750038344899 tw17296016789136903363 tw11753507123876736227 tw5123045629082829059 tw11690236155715280131 tw17434927009268826403 tw7258503004644609315 tw15304589851762050339 tw14539479406026455331 tw383062220241744195 tw438567258910591331 tw7857623830737510755 tw9534598718790246819 tw3676491083465746915:True)
 (tw4260071201463083555 tw4884693918017729059 tw488760395619797571 tw1466191227618869827 tw16282677452197530211 tw15153923615871487587 tw13950987786929500771 tw11111700891692925571 tw16785358386299383427 tw1088388336567251587 tw15539348382944162467 tw10011201991857006339 tw13574489120513401635 tw18051731778748399395 tw5808810104980792099 tw11702652010178803523 tw17249583820900662083 tw7803446156716690275 tw15656981063256142691 tw13715966161564404611 tw9260363037839515523 tw14144737826265078723 tw4387852083922080772 tw15365515099889624068 tw11547570746890125476 tw1189496108325716132 tw14291458372171356324 tw8453310800704300292 tw11286682491197819172 tw1414108523424550244 tw10839802875118501220 tw12809282279446900100 tw12553715638308236740 tw184629981861834180 tw16697032577391081956 tw16378013529477936612 tw8840199584926019076 tw13029377726425092676 tw11791896939994638916 tw14213562942294969988:True)
 (tw5352635313174173316 tw5231736607238785700 tw5788612006614980292 tw8189515217717655236 tw12193274519302635204 tw27160334521839364 tw4652843141254175492 tw16855384468046423844 tw3863932986799336260 tw17954028631037851492 tw5931065071336851332 tw13993808750938006500 tw5050124712324082660 tw3704128019415398372 tw3678585421361344549 tw2909054788865455141 tw12873690785506596933 tw15039434115860442213 tw7242042375985711205 tw15755910604932836485 tw1804792995687179429 tw13102621287259135141 tw9405580685476722853 tw12694803586006713541 tw1260747039569221829 tw3353946709419040037 tw2108771135726060869 tw16433358436514527621 tw1157893382164464037 tw17271714223157953957 tw8920770847312465317 tw7539866714338123173 tw8670344822591588805 tw14116230753660933573 tw237826916390501829 tw5084977563050072549 tw3310132401155805733 tw3766666780593250853 tw4169820627883682341 tw14350056594842028677:True)
 (tw17563904596339534501 tw16215058143351538437 tw11840699907721443077 tw13276137800016327461 tw17084002134409326405 tw5497726776781342565 tw5649231283994162053 tw6179238684186874789 tw7911299996121055173 tw4921325935087701957 tw10167358117524331461 tw16393477248048066501 tw12227626482690867173 tw13825108080511684646 tw15314674238634654790 tw5531842994290656326 tw2274177290592807014 tw14428427587900014726 tw17747175761236233350 tw2252825100118447238 tw11337409754472382630 tw2351972263206880486 tw13682039037712670950 tw12387598223966768422 tw16015428709574359334 tw1981701250043202854 tw10278727218628027686 tw7726393167502077254 tw10342340458000455014 tw14065405664394754406 tw15765971953994989958 tw3865969224649931142 tw6429806457384961446 tw11706778377857544614 tw13367717811999240614 tw14199416524968074726 tw2803696301958388198 tw16051542851258546726 tw18176531762877172294 tw6535116875856053862:True)
 (tw8358703197807625830 tw1255149905639475974 tw301831878902900486 tw17225953058746765126 tw5109048185215401798 tw17018672092588512102 tw10367202965862633318 tw2937463497156208518 tw5325635039431680966 tw8716657891821677542 tw1303620242061417479 tw9385651485191735335 tw8704031225391949863 tw9071399486779441191 tw875849742762612807 tw13856387379198224487 tw6682683632891814023 tw3932352576676098215 tw14022757503693151431 tw616498161277007143 tw2085175679838551367 tw3833333538996268391 tw13274010937311452519 tw8688295431288710503 tw5752521684727422407 tw1961122191385841127 tw13370635291228090887 tw11624054082461863495 tw5997590291874639495 tw2109579603264205447 tw11795638929347247751 tw6616470880091969255 tw11668868006452661095 tw2203182666240887655 tw1317532045098615719 tw7268491156845510599 tw8038321935635994599 tw3855701216043186184 tw7960054110219452424 tw8174602387615854632:True)
 (tw6413847401437055112 tw15591476972385538248 tw18181396230752150728 tw8469742546526908616 tw12725305654735955144 tw626042441516248264 tw3103405812978382088 tw3634909042847650088 tw10196843403100222760 tw5740452561918413128 tw4175579359104369000 tw8182983420387163496 tw6078633102150416808 tw4495790059444648360 tw10980477871625841096 tw2341577148815075784 tw14381129028237709864 tw1605154321890872904 tw8637547061414498888 tw2336321460736208456 tw16592197303696374344 tw3750193897748676168 tw18325088502630766152 tw1801970583621851752 tw12590881091103098504 tw10081373670913075848 tw12519962528757395112 tw13207798502660260520 tw3632816669491362472 tw12812405301740056264 tw2136480452688793288 tw8259493631987347144 tw16562807669790916328 tw13213110438914267944 tw4262281445686390568 tw7467874781414895400 tw13624542401279117160 tw7977185981600983912 tw8085917891473007496 tw11880317028909710345:True)
 (tw11974538434937901097 tw16005991252628668489 tw3724437769981573193 tw2377455348486704265 tw11393133504753485961 tw5545449457188756617 tw12808494127112891561 tw8142742371194429641 tw7900829701758325033 tw3663307819314208041 tw18422009899772110153 tw4403112368767922505 tw8913224117271442793 tw17283734672108782985 tw16656374486318471593 tw10960930489672858025 tw1015775362864785929 tw3548373912605052425 tw11708874356098008617 tw11041458441282843177 tw3579787120799964745 tw13113808069079836329 tw10178204713687663305 tw2490161037499286313 tw626517865309913961 tw16039739779765565289 tw5338097035860483977 tw12710095792343600009 tw8300981515706259337 tw14770955719472978857 tw14908841362559525801 tw539438894914120714 tw2353234056908808266 tw471685640799245482 tw17897110330858158282 tw9902928148348520746 tw1081161719343047978 tw4712898986950833514 tw4013707801183240554 tw2765694519913151850:True)
 (tw14454608217415112074 tw4706578648180381066 tw17800696715445796234 tw14484223870878090762 tw17041142406250566186 tw9132869982718229034 tw5210392519545166410 tw15870300811464552010 tw12110364617725393482 tw14859617722796714602 tw6022503565106330218 tw13709624423367753354 tw15403368114211909258 tw5485513040435881770 tw17035995860950444842 tw15020110027513266026 tw5474078674115245962 tw15723307309136996234 tw9379785397183686634 tw4334603289545581611 tw2569772566927228971 tw3419688802882713643 tw7305361746050568267 tw17668430167495899307 tw8891083644221864203 tw6948525275096924427 tw7748188069171542315 tw2788263913250970923 tw12485956692536785195 tw14905570610156515659 tw8141376029794421067 tw874801722432517451 tw3227767703031847275 tw8210851073026254187 tw10811330391164825995 tw7896743324507685259 tw11697508941820196235 tw2841361743271172523 tw16857454202896796075 tw15485964217697889771:True)
 (tw11266158824229761515 tw7362366503078326795 tw697513030370096683 tw12802867469475930731 tw18056787481233263243 tw5201456467845837483 tw5921330039237078731 tw14885376669140415179 tw13133503942586649323 tw17046790129777054475 tw310279268867844875 tw5217926487343625035 tw7555188771714301803 tw6780856427530324907 tw7830645087546530763 tw15547432414613708844 tw11823609254323807308 tw15088959343747252364 tw10905859957585471628 tw13651808613288832140 tw10975139037815434380 tw14822658259663604908 tw18102681973487528172 tw11920859967257573612 tw11805819001815047436 tw2142102588165388556 tw11507996787053340972 tw16113713095926162764 tw10185866481932815692 tw3794751101701477708 tw7071522967606289740 tw11141807458692369900 tw18420960176621070828 tw4258415870900376076 tw1622302780420268556 tw16333219168557424172 tw8338097490014365228 tw42475475171886764 tw15363297816071617228 tw9283643405067692812:True)
 (tw1338193429408886540 tw17458083982693115756 tw2154782730982738796 tw2740811864427528044 tw3449786520306654124 tw12548840116735622124 tw14370033116646920172 tw5784081709698293869 tw11269543219701801133 tw10999539816325769389 tw10683433843021093069 tw11097916346086433997 tw1357823977939066061 tw7255756960103601389 tw5710500654966906093 tw15297286482474269933 tw18013041160789566765 tw9907300898874346829 tw4670569992825730381 tw4909429210882807149 tw18176932200293114221 tw11771166757243836813 tw2596777450914701709 tw5832169872799505837 tw376289453674081709 tw12718995815519220237 tw374828268053963309 tw162759534456756781 tw14152607188963470957 tw18004834801360361101 tw13257685793968316045 tw6809082954387406541 tw6687296943175302861 tw3891561826975097581 tw12447351296187492077 tw14262291433304065837 tw11945440963252502317 tw6435946618521405229 tw802227801840281389 tw14395335533415023469:True)
 (tw12326553695225685901 tw12787307163384720269 tw16940724373122895789 tw14277675098673047501 tw4725603517570249677 tw3644621346242151405 tw463589531416325101 tw8962871982936030189 tw15811163668001223694 tw17223393244965763086 tw8206944486441101358 tw2761476811978517550 tw3562792797968070734 tw17589027955431297134 tw17900388131910348910 tw2494506713543371918 tw9037588322869889198 tw16077069388932360430 tw16548124023940528366 tw10486004851293553966 tw18045071254552224046 tw12970707786783732046 tw8082545260530105678 tw13387468788279876974 tw11102343050378160494 tw12178723603212629390 tw13451009033479653806 tw10604813163692074414 tw6980421748922887630 tw1877618056122131918 tw8157882190578450926 tw13472759618055733742 tw11337505481909100014 tw8385113353546233326 tw322642014480516654 tw5535695748262074958 tw15297113051582105198 tw9554299703541928622 tw12031438075710284494 tw1390465922340354798:True)
 (tw3257513444397355790 tw12523271432958689102 tw17684044921689181038 tw7128498244586698670 tw2990253123942473678 tw421498738950040526 tw8404788485147392974 tw5813906806192926702 tw4397113764669335567 tw11212805924751825967 tw6265971502734435375 tw13686140105095375919 tw3724709376582653007 tw14385907423672373359 tw12134254142136706159 tw16768840957926406255 tw15204700623270430927 tw1689543035691073775 tw12792589586259624175 tw8208468304552940783 tw9970901591666952463 tw11888121498369632527 tw17839864152559023375 tw7450933841732134191 tw4793018871400825199 tw12707762476952983919 tw12888893553231437167 tw3417673536439366095 tw18070649814310271439 tw17753380366471355919 tw8072937834841278127 tw11144920322472354511 tw4189060816453077743 tw5413279080353183503 tw2521576247396888399 tw4597445540204948335 tw12805375627490576239 tw5843820171881458575 tw11806856637002603439 tw2033662517356474319:True)
 (tw1242622862716560367 tw1726569475977586704 tw14766372447615071248 tw3996321275029762128 tw8516366188938467440 tw18103204101407090800 tw2100963881579078768 tw11331625737654004848 tw9838741115361758448 tw17704900088566236432 tw18247294054284658992 tw16193813076585286960 tw2109791025782934832 tw2426810618142675280 tw16916997583840931216 tw2512756396773207568 tw16725277477500459536 tw4912231544255239728 tw14008938023805377104 tw8148333165324950096 tw12373313346012695184 tw14398385665029500560 tw3536467599394624176 tw8389065105692304080 tw1675804855382763216 tw9370348219253013328 tw16922997984262871920 tw6418388297718895504 tw18330640294508934032 tw3527739362614089648 tw209141600242545584 tw1361526563741358000 tw12538574611326625712 tw13783169976126190544 tw3007171484414912496 tw10255240588428586992 tw4642971423617144816 tw12294133334934789169 tw9824316801488631857 tw16768227461358110769:True)
 (tw8521623367579152465 tw9347064365338430577 tw15103361951571745905 tw15933966142498385009 tw7225059296896068721 tw11375097062099110001 tw13666398735764973713 tw14558757174273425585 tw16547509254031519985 tw18349684112676898033 tw9756830859279349009 tw12186730980577355057 tw4614637939575325009 tw3201379460579714385 tw14872103692588895601 tw7298282889715109265 tw5829121393553991057 tw1485242747381324209 tw618465030548462001 tw6816745876087246289 tw5200806488526780881 tw8418630384836231665 tw143458194583949905 tw938317976384388689 tw2206596102727446129 tw17463524610382382737 tw15288730721993108145 tw678017411537247985 tw1723983887677537009 tw9856728544207240945 tw16707742494572973841 tw3155198375453182737 tw15759730198836629297 tw3964806042507112241 tw12366184959980974929 tw597781492650298193 tw17750601935234062161 tw6551296244295784305 tw1423170386629911409 tw1997025111710629745:True)
 (tw7396549174110850961 tw10549862153972160401 tw16855612916695143345 tw5142263474632916913 tw10241237871994768337 tw7194935456123307985 tw16729922909622576146 tw2931321631605258322 tw6108669863390815346 tw962880006420933746 tw4164266387567175794 tw3464168503153944690 tw7381885583424286866 tw7457406868380293298 tw17361758912965749938 tw6417237753517917362 tw9492624902285574386 tw5338569838752592146 tw7365819426796922162 tw2574329581180070226 tw2314682198690805074 tw13913761828248190290 tw2994182547884281234 tw3699021816551417234 tw9506449196066137490 tw455620141409265042 tw1933638878870489554 tw3439552611615232466 tw3284686442005208562 tw11527088806260616690 tw3640186573397756434 tw12565526070558320178 tw18307594987171001938 tw3675073345821007442 tw14516156890610232914 tw14604467139190105746 tw9708594240636275346 tw3381673259304763058 tw6736451861818892978 tw16572496471850446514:True)
 (tw11966338415437920050 tw156857127764737842 tw11724738362532450098 tw1878242856380159794 tw16836040327616458546 tw2010381585407810418 tw7649553024930068338 tw5122094035910769522 tw3461957774593539986 tw2249833766554973106 tw2709558725629817778 tw18161156590481930194 tw5432756000911945714 tw8218975269653348371 tw8358991619376924691 tw2843105893064823827 tw11964731220404796435 tw1100556489469822035 tw12161986338053493843 tw6449238994596085843 tw15895190768879970451 tw4593222592032172307 tw13465417992743229747 tw6649104928394289459 tw667736995923606835 tw13314724511685442867 tw9422790272374519155 tw9545996191456574835 tw809020313195439475 tw9286377227557940627 tw970778876619504019 tw3210388567961103763 tw17635991044848656851 tw10408291302138155539 tw10174550357001304595 tw13743817128250016307 tw15763836513645423155 tw15784459799973459539 tw12082414648270071411 tw3061824447853864595:True)
 (tw9148044030582827667 tw6900945800722952851 tw9166082858990941843 tw2506014137551686323 tw4772812640164114099 tw7487219882620780211 tw9866875990382020307 tw17318450579011762963 tw13584214827609455379 tw8543285944662925107 tw7734983412344728371 tw2386350610646721331 tw5968729031424020307 tw17760673212464607091 tw11387561678449863539 tw6384360920994749331 tw13216881691346063251 tw7487990159715717140 tw9609316381597895732 tw6983221955588442164 tw1456684259816824884 tw1882590978321299540 tw1964161779537121396 tw2612240768297196660 tw16832674934474761332 tw1952467641697848468 tw9398656855389867220 tw11209390329159448788 tw16762693321057088756 tw3407804068216592692 tw12432829983807874388 tw16238638565655078324 tw18181194347693356500 tw6494908593013834196 tw13303798228764858868 tw11049901833566609940 tw1988657262991404564 tw17192646750963783220 tw1725247727368272436 tw8007701805933496916:True)
 (tw6752448664202023540 tw12443860716332612212 tw10559477344888307348 tw14478546877336854260 tw988984373556943636 tw10099551262355146516 tw9212276807810012948 tw4337805845060357940 tw15897071402824901428 tw8801752549740634964 tw5343169360752765812 tw6651163868798749620 tw174929198416459700 tw250537015935067124 tw14070158641646864405 tw15250141824353585173 tw2362274764509040693 tw363061557542876245 tw5866371709596174549 tw16977709098434770133 tw4252313644805342453 tw45748323932032277 tw15801687346491610389 tw3161884294773149013 tw2145195663466937685 tw2901992657730359637 tw17059833604028384629 tw17994217208062634357 tw4677566011496330613 tw15468049635578087829 tw3935701612757468629 tw1744308425314866677 tw9878671011140293109 tw3403889500815856149 tw7354996791882362421 tw7116912208769952341 tw10209533937100854901 tw2118690552582310549 tw3498353177166053045 tw7676252482745781973:True)
 (tw17534812065674057429 tw3178291045436779253 tw12438141995978432309 tw5266910231260026677 tw14264289659469355829 tw2800225129919631189 tw13630473672949489493 tw1628850618455018357 tw15225628904789401461 tw3016177208852152181 tw9108694187943861 tw11760640113723430869 tw16249621619842897877 tw3995239333358116982 tw6159957504017370294 tw7752120209662033078 tw3711917984714164470 tw14434344528336130358 tw16892545462199072086 tw5986983398633251190 tw15619243540404644214 tw12667006066687891830 tw13298183829788779926 tw16123194807536564662 tw4358300300881685974 tw4297932540060845558 tw10283314299486944886 tw7381140812412946102 tw11768497894921703126 tw8215011869639883510 tw7670846047332426518 tw16441454243840553750 tw8427934154527401846 tw16826343803991858134 tw4936085714631051222 tw6997969121955954678 tw256821965088128087 tw11618365390757533815 tw8845693384967900311 tw6875431387541956759:True)
 (tw14639757489153385655 tw7249362014210402487 tw16262164361342989495 tw10037734777398703287 tw5063874391613491383 tw12887392348055067831 tw11290116925426343127 tw3512612275700241719 tw17603601651321064759 tw2580487321909124471 tw16370438238838356375 tw5325709922880355735 tw15380707486143316407 tw3178661992161058231 tw14045850673398264247 tw3626809929311155639 tw11940971104547709399 tw14294744488242501079 tw14669107968517122551 tw4845875736821528055 tw10436077481201663511 tw10239122955931163191 tw6680712840598458967 tw17756131723350685271 tw17713715463848280663 tw15414303904165286551 tw7123245061133441719 tw7397897412660764343 tw16289067076653465303 tw11333813227022468823 tw1652049867533275863 tw5170244623839480567 tw11387575596178858743 tw7518554988289155831 tw5848787496262266615 tw2278969194896656215 tw2564012748217512823 tw4410624800919286679 tw15003807881405512663 tw6840848781688413175:True)
 (tw8319570096808436727 tw18274412379831556184 tw5914361385225377880 tw8990743919156183192 tw14556318852611036312 tw15344694552215282872 tw12672614776268777656 tw6286303697850402008 tw6113429957215916440 tw10437424751209015768 tw6663801929171962360 tw17769308161209906744 tw15891421421713174104 tw1857026259654211160 tw1603374866519355000 tw2416216797960208056 tw16367874638213086008 tw6808991065533209528 tw1362925889229450168 tw16845531535576737752 tw7852916469265765401 tw65336406021023769 tw6464403612785815577 tw13319209647461223513 tw10321269063149365369 tw9774758505424940153 tw11767327363618644153 tw4946184228129338553 tw1476093756431286489 tw10802172353866191097 tw14057249298342064409 tw7802017780269053369 tw14146847792214757849 tw578670147326398937 tw10497421630118681081 tw5850781908478855705 tw5237902959065080345 tw10871400532526076569 tw8112559773531827929 tw9659863525216500505:True)
 (tw10553374084438322969 tw14236074480841340729 tw15756254162775801689 tw14614569592408681337 tw11566986016845378425 tw7052370333947552633 tw14220565040668024761 tw5065229426183774201 tw2843448906834817050 tw12877755538524195866 tw5325601657977834586 tw12400811065689752698 tw3946575622476873882 tw11106528717330712794 tw11086123287209516250 tw15411217692461025498 tw5865276720079490298 tw14484666182853782778 tw8228213757604350234 tw17935270738036773146 tw16514083368901472570 tw293278118764277082 tw1768768596006764954 tw995616919586974106 tw4795298133904828858 tw4851875865455977914 tw16239614175227711994 tw1516889741185944090 tw12466611075464140314 tw798806533893759546 tw5726275974376683098 tw7546140408939074170 tw15894069334347627162 tw9740689984135939770 tw9590687900102986458 tw4576613118489066202 tw17246868537319064314 tw14346146102445274938 tw13279241145752054650 tw10807744249991864218:True)
 (tw15894440311089800090 tw7738361696639608730 tw17420747458312312762 tw9024724379071924283 tw6021481107688032347 tw16461639040705079419 tw2018754220237540475 tw6711856678388752571 tw7461213475823520987 tw14451036322475421915 tw10167147041290990843 tw5419424262682038523 tw5125957100518369627 tw5673531113580817755 tw14915861642118887867 tw9199483622609426907 tw8585263081486422523 tw969701987589666299 tw2000687290393169435 tw12318886116956488411 tw17180883554759556859 tw12906155995596811003 tw11911684610845559579 tw10965447591864656699 tw14896924155655328603 tw15643300903439816539 tw7481974530721676123 tw7806063615033017275 tw12925341703112144827 tw11683525550956311483 tw12112742029829212220 tw855604325115797564 tw6808442694458715228 tw6477295924936727676 tw4265435480669072572 tw16536887323443285180 tw11789029633554224348 tw12835425709583685852 tw12408754077486181596 tw1049863288485231868:True)
 (tw5563936316306857308 tw4174005848923819356 tw11377016992038916476 tw10947802109106868604 tw18058217777537734012 tw4437571519769348508 tw16625531338381476284 tw6478849269354514876 tw2407951936351949244 tw17739816250999984604 tw16278006791030754812 tw2184659201901354492 tw9422413770619345436 tw4884637310420445724 tw11742044801217039932 tw11544335840719901244 tw14154743152076857916 tw14008848164976039516 tw5257931672631777884 tw18238096317394537052 tw1924428595893568124 tw18059070917635850908 tw7483937842532731548 tw1812108101309196956 tw12538393385709368988 tw2002090066720095900 tw9042266844606903996 tw16304146860729901788 tw2017466187512887004 tw11204016930083428060 tw7826503287360032508 tw8897452765717067516 tw16557935519420861244 tw13266735413618874204 tw14830726686394820444 tw4693426820392342364 tw1247055898140924764 tw9056064311452913532 tw2599095551206187900 tw6198769385187109756:True)
 (tw1152698918721481596 tw9193152302034298780 tw228043781367393212 tw5886139121752286172 tw14885305178425282589 tw6157345552849068061 tw9589618429163198525 tw4888787467579289693 tw12441378322196774045 tw2977580636067059933 tw12889861889086650589 tw2153097372359162141 tw3571530596220911965 tw16281526023864831357 tw3816289869093795229 tw3484399478374779325 tw11464861319626323389 tw6006566266921259549 tw4678752604244153917 tw505524148808562237 tw4378149096721462845 tw3441112556201542237 tw5620923563320708733 tw18386928594684377757 tw16347906723768336029 tw543247570386063069 tw13621123247074173693 tw15304713099784321789 tw18125443172159050525 tw12414732168760260381 tw6557396639112788765 tw13685691211244931901 tw13892829706353851197 tw12084439048319244157 tw9179073392224674685 tw15005897523625623421 tw9326620788671205277 tw16823914175211972541 tw16322674660818641853 tw4615411356202898397:True)
 (tw15249206170034840541 tw4000173208968524862 tw14162476484306078814 tw8427245324436580510 tw6680268296124818590 tw3569464615928272062 tw17305175672026631390 tw13067956631020312798 tw3087905516438984926 tw14199318916398849246 tw11044532112737676510 tw8259454824326147326 tw17385733697703793918 tw17084364138187872510 tw10430249929257111838 tw12630754304874866974 tw7411623062390454622 tw195296964956537246 tw1875007996680796574 tw10854055282770496958 tw16468105518611996158 tw4691223425444212254 tw11167184444014073406 tw11274313266276706878 tw3957267080410913406 tw13861655373971220094 tw7159078676508336926 tw8868137780567771966 tw3450008945083686750 tw3556674392400340862 tw15921524481382054782 tw10904972463988585374 tw11373541536051238878 tw13082471241481515998 tw1233828727184783326 tw15010753340921904126 tw6515074780787417119 tw2887492065307086879 tw18031530270584401951 tw4370853130680098975:True)
 (tw15235593488670144767 tw10882958201465474335 tw5398075682543926559 tw6151491986047204799 tw5931710678881156607 tw7041924020092635679 tw7013207227792626207 tw13859068501465764383 tw5090337852074404383 tw4927355589946767935 tw1174606652874985119 tw16703000777874966239 tw10893830363834365663 tw860646870141090591 tw3848345254180417311 tw2377191305438623615 tw17657020977602527167 tw9159203976109765599 tw17744274638968809906:True)
open PySem PySem.W PyProof.Rows
set_option maxRecDepth 100000 in
set_option maxHeartbeats 0 in
theorem PySem.Challenge.cw_mendfield_k42_paper_told_holds : PySem.Challenge.rw_mendfield_k42_paper_told.Holds := by
 w_on;o_law;k_head;(case hw=>w_witness2)
 k_fill
 refine HK42.walk (l:=PySem.Challenge.rw_mendfield_k42_paper_told) rfl rfl (λw h Y=>⟨PySem.W.km_in_of Y,PySem.W.km_tabs_of Y⟩) ?C ?F
 case C =>
  intro w h hX
  repeat' (first | exact List.forall_mem_nil _ | refine List.forall_mem_cons.mpr ⟨?_,?_⟩)
  all_goals first | (refine' HK42.aB0 hX ?a ?b ?l ?lk ?lp ?n ?e;(case a=>k_is);(case b=>k_is);(case l=>k_is);(case lk=>k_is);(case lp=>first | rfl | with_unfolding_all rfl);(case n=>kernel_rfl);(case e=>kernel_rfl)) | (refine' HK42.aE4 hX ?a ?b ?l ?lk ?lp ?n ?e;(case a=>k_is);(case b=>k_is);(case l=>k_is);(case lk=>k_is);(case lp=>first | rfl | with_unfolding_all rfl);(case n=>kernel_rfl);(case e=>kernel_rfl))
 case F =>
  intro w mg fa h KX G yt
  apply HK42.all_mk KX G yt
  iterate 192 (k_is)
  iterate 68 (apply L2.Bk<;>k_is)
  iterate 4 (k_is)
  (first | rfl | with_unfolding_all rfl)
  (kernel_rfl)
  iterate 4 (k_is)
  (first | rfl | with_unfolding_all rfl)
  (kernel_rfl)
  iterate 7 (k_is)
  (first | k_is | rfl | decide)
  (decide)
