import PyProof.Rows.All
import Wide.All
import OpenK.KLine
import KE.KItem
import Wide.FinOn
import Lean
import PyProof.EqAt
import PyProof.EqKinds
import PyProof.TupleCall
import PyProof.NeKinds
import PyProof.Rows.Range3
import PyProof.FitsBits
import PyProof.StationsW
import PyProof.NsDelKeeps
import PyProof.Rows.CatchOwn
import KE.KTryMore
import PyProof.ExcArgsOwn
import PyProof.ExcAttrAll.ValueError
import OpenK.KOwn
import PyProof.ZipIter
import PyProof.WalksEnum
import PyProof.EnumMake
import KE.KIntText
import PyProof.Conv_int
import PyProof.StrWalks
import PyProof.StrLawsFirst
import KE.KLam
import KE.KNestM
import KE.KRevIter
import PyProof.ListRange
import PyProof.Rows.SortWalk
import PyProof.Rows.SetFrom
import PyProof.FactsAll.set
import PyProof.Rows.SeqMore
import PyProof.FString
import PySem.Challenge.RW_mendfield_k41_lightest_word
open Array renaming append_assoc→sS,length_toList→xD,getElem?_eq_some_iff→Js,toList_append→VM
open Bool renaming and_eq_true→eU,or_true→ix,false_ne_true→jf,and_true→kn,true_and→kQ,false_eq_true→mh,false_and→pW,eq_iff_iff→qf,or_false→sV,not_false→vN,not_true→vO,true_or→vP,false_or→vQ
open Classical renaming byContradiction→DN
open Decidable renaming byContradiction→VZ
open False renaming elim→fH
open ForInStep renaming yield→DO
open Int renaming toNat_natCast→iq,emod_nonneg→ir,emod_lt_of_pos→iu,natAbs_natCast→jg,natCast_emod→ql,natCast_mul→vI,toNat_of_nonneg→xO,natCast_add→AM,emod_eq_of_lt→D1,natCast_nonneg→Jl,zero_add→JF,fdiv_eq_ediv_of_nonneg→Vy
open List renaming range→aL,getElem?_eq_getElem→aM,getD_eq_getElem?_getD→aN,replicate→aV,length_map→bq,mem_map→bw,mem_cons→bR,mem_range→bU,length_range→bV,map_map→bW,mem_append→bY,getElem?_map→cu,map_cons→da,all_cons→de,mem_append_right→dj,zipWith→dm,all_eq_true→dy,getElem_mem→dE,size_toArray→dU,append_assoc→eC,mem_append_left→eN,length_append→eO,mem_singleton→fc,mem_cons_of_mem→ft,append_nil→fu,map_append→fv,length_replicate→fP,lookup_cons→fZ,mem_cons_self→gj,getElem?_eq_none→gn,length_cons→gH,getElem_of_mem→gI,not_mem_nil→gJ,nodup_cons→jF,length_take→jG,map_nil→jH,length_drop→jI,length_zipWith→jJ,getElem?_eq_some_iff→km,set_cons_zero→kq,set_cons_succ→kr,getElem?_range→kR,lookup→l9,cons.inj→mi,mem_filter→nk,getElem?_replicate→nq,all_map→nB,getElem?_zipWith→nC,getElem?_append_right→pZ,length_singleton→p8,nil_append→p9,perm_append_comm→qg,take_add_one→qh,mem_of_mem_drop→qi,all_nil→qj,cons_append→qk,getElem?_set_ne→sT,getElem?_append_left→sU,length_set→sX,replicate_succ→sY,append_eq_nil_iff→s8,mem_replicate→s9,getElem_map→tf,getElem?_cons_zero→tw,getElem?_cons_succ→tD,of_mem_zip→vA,mem_of_getElem?→vB,flatten_cons→vC,foldl_cons→vD,take_length→vF,map_congr_left→vG,length_nil→vL,cons.injEq→vM,take_of_length_le→xH,mem_of_mem_take→xI,foldl_append→xP,pairwise_cons→xQ,filterMap_cons→Au,getElem?_set_self→Av,length→AD,zipWith_map→AK,getElem?_mapIdx→AL,mem_map_of_mem→AN,ext_getElem→AO,length_zip→AQ,getElem_range→AS,nodup_range→AU,pairwise_append→AV,map_replicate→AW,any_eq_true→DP,append_inj→DV,map→DX,map_zipWith→DY,mem_or_eq_of_mem_set→DZ,zip→D0,contains_iff_mem→D3,pairwise_iff_getElem→D7,pairwise_lt_range→D8,take_append_drop→D9,length_eq_zero_iff→Ea,getElem_inj→Jj,Pairwise.nil→Jo,Sublist.refl→Ju,set_set→Jv,mem_of_find?_eq_some→Jx,map_drop→Jy,map_take→Jz,ext_getElem?→JA,getElem?_drop→JB,drop_eq_nil_of_le→JC,sum_cons→JH,zipWith_cons_cons→JI,filter_map→JJ,filter_congr→JK,findIdx_lt_length_of_exists→JL,find?_eq_none→JM,range_succ→JN,Pairwise.filter→JP,pairwise_singleton→JQ,mem_filterMap→Vx,getElem?_take_of_lt→Vz,set_eq_of_length_le→VG,eq_nil_iff_forall_not_mem→VH,filter_eq_self→VI,range_succ_eq_map→VJ,getElem?_take→VL,zip_cons_cons→VN,sublist_cons_self→VO,findIdx_getElem→VP,findIdx?_eq_some_iff_getElem→VQ,findIdx?_eq_none_iff→VR,perm_ext_iff_of_nodup→VS,countP_eq_length_filter→VT,find?_eq_some_iff_append→VU,length_eraseIdx_of_lt→VV,map_eq_nil_iff→VW,range_eq_range'→VX,length_filter_le→VY,filter_eq_nil_iff→V0,flatMap_append→V1
open Nat renaming le_refl→bE,lt_of_lt_of_le→cB,ne_of_lt→dN,le_trans→fG,lt_irrefl→gi,zero_le→jE,shiftLeft_eq→kP,xor_zero→mf,mul_comm→nt,testBit_xor→nu,lt_of_le_of_lt→nv,pow_succ→qa,zero_xor→qe,xor_assoc→sZ,mul_assoc→vE,mod_lt→vH,succ.inj→vJ,add_comm→xE,two_pow_pos→xF,pow_le_pow_right→xG,not_lt→xJ,mul_mod→xK,mod_eq_of_lt→xM,mod_add_mod→xN,le_of_lt→As,le_of_eq→Az,lt_succ_self→AA,eq_of_testBit_eq→AF,testBit_zero→AG,xor_self→AH,min_self→AI,le_of_succ_le→AR,testBit_lt_two_pow→DK,testBit_succ→DL,strongRecOn→DM,add_assoc→DW,zero_add→D2,lt_or_ge→D6,one_shiftLeft→Eb,ne_of_gt→Jk,le_of_not_lt→Jn,xor_comm→Jp,testBit_and→Jq,lt_succ_of_lt→JE,mod_mod→JG,sub_self→JO,succ_pos→JR,testBit_eq_decide_div_mod_eq→VA,shiftLeft_xor_distrib→VB,mul_lt_mul_right→VC,testBit_shiftLeft→VD,shiftRight_eq_div_pow→VE
open Ne renaming symm→e7
open Option renaming some.inj→c9,getD_some→nz,getD_none→p7,map_some→tu,some.injEq→tE,map_none→vK,isSome_iff_exists→AB,map_eq_some_iff→AJ,toList_some→Jw,bind_some→VF
open Or renaming inl→aA,inr→cJ
open PyProof renaming Rows.callWith_type1→Aw
open PySem renaming Heap.lt_size→bD,Value.ref→fq,Heap.get?_push_of_some→fO,PassesOwn.never→f7,Heap.get?_push_size→gG,Value.int→pV,Builtin.bitAnd→pX,Builtin.bitXor→pY,Value.none→sR,Heap.get?_update_other→sW,Heap.size_push→vz,Obj.mapSeq→AE,Value.bool→DH,Heap.get?_update_self→DI,SeqAt.EqAt→DJ,Walks.list→DQ,Obj.data_mapFields→DR,Value.builtin→DS,Value.type.inj→DT,Builtin.Str.strSliceIndices→DU,NameKind.cell→D4,Builtin.List.listTooLong→Jm,Obj.isFreed_of_fields→Jr,Heap.MadeExcOf→Jt,Calls.Name_function_global→Vw
open Sum renaming inl→vw,inr→vx
open True renaming intro→vy
set_option Elab.async false
set_option linter.all false
set_option maxRecDepth 100000
local macro_rules | `(tactic| omega)=>`(tactic| lia)
namespace L2
open PySem PySem.Spec PyProof.Rows
noncomputable abbrev Key:=Sum Int Str
noncomputable def JS:Key->Value->Bool
 | .inl k,v=>Value.isInt k v
 | .inr x,v=>Value.isStrOf x v
noncomputable def V2(w:World):Key->Int
 | .inl k=>hashInt k
 | .inr x=>hashStr w x
theorem nD:∀{k:Key} {v:Value},JS k v=true->(∃i t,k=vw i/\v=pV i t)\/(∃x t,k=vx x/\v=Value.str x t)
 | .inl i,v,h=>by
  obtain⟨t,e⟩:=Value.isInt_shape (k:=i) (v:=v) h
  exact .inl ⟨i,t,rfl,e⟩
 | .inr x,v,h=>by
  obtain⟨t,e⟩:=Value.isStrOf_shape (x:=x) (v:=v) h
  exact .inr ⟨x,t,rfl,e⟩
theorem V3(a b:Int):decide ((vw a:Key)=vw b)=(a==b):=by
 by_cases e:a=b
 ·subst e;simp
 ·have h:¬ (vw a:Key)=vw b:=λq=>e (Sum.inl.inj q)
  rw[decide_eq_false h]
  exact(beq_eq_false_iff_ne.mpr e).symm
theorem V4(a b:Str):decide ((vx a:Key)=vx b)=decide (a=b):=by
 by_cases e:a=b
 ·subst e;simp
 ·have h:¬ (vx a:Key)=vx b:=λq=>e (Sum.inr.inj q)
  rw[decide_eq_false h,decide_eq_false e]
theorem V5(a:Int)(b:Str):decide ((vw a:Key)=vx b)=false:=decide_eq_false (λq=>nomatch q)
theorem V6(a:Str)(b:Int):decide ((vx a:Key)=vw b)=false:=decide_eq_false (λq=>nomatch q)
noncomputable def JT(prog:Program)(w:World):PySem.KeyKind prog w Key where
 is:=JS
 hash:=V2 w
 inj:=λv a b ha hb=>by
  rcases nD ha with⟨i,t,rfl,rfl⟩ | ⟨x,t,rfl,rfl⟩
  ·rcases nD hb with⟨j,u,rfl,e⟩ | ⟨y,u,rfl,e⟩
   ·injection e with e1 _;rw[e1]
   ·exact nomatch e
  ·rcases nD hb with⟨j,u,rfl,e⟩ | ⟨y,u,rfl,e⟩
   ·exact nomatch e
   ·injection e with e1 _;rw[e1]
 byValue:=λk v h=>by
  rcases nD h with⟨i,t,rfl,rfl⟩ | ⟨x,t,rfl,rfl⟩<;>rfl
 pyHash:=λhv h=>by
  rcases nD hv with⟨i,t,rfl,rfl⟩ | ⟨x,t,rfl,rfl⟩
  ·exact wpAny_pyHash_int h
  ·exact wpAny_pyHash_str h
 eqBool:=λhu hv h=>by
  rcases nD hu with⟨i,t,rfl,rfl⟩ | ⟨x,t,rfl,rfl⟩
  ·rcases nD hv with⟨j,u,rfl,rfl⟩ | ⟨y,u,rfl,rfl⟩
   ·rw[V3]at h;exact wpAny_eqBool_int h
   ·rw[V5]at h;exact SeqAt.EqAt.int_str i t y u _ _ _ _ h
  ·rcases nD hv with⟨j,u,rfl,rfl⟩ | ⟨y,u,rfl,rfl⟩
   ·rw[V6]at h;exact SeqAt.EqAt.str_int x t j u _ _ _ _ h
   ·rw[V4]at h;exact wpAny_eqBool_str h
 «strs»:=λk x t v h=>by
  rcases nD h with⟨i,u,rfl,e⟩ | ⟨y,u,rfl,e⟩
  ·exact nomatch e
  ·injection e with e1 _
   subst e1
   cases v<;>rfl
end L2
namespace L2
open PySem PySem.Spec PyProof.Rows
inductive V where
 | au | bl (b:Bool) | int (i:Int) | str (x:Str) | AX (b:Array UInt8) | tF (b:UInt64) | ref (a:Addr) | ty (n:String)
 deriving DecidableEq
noncomputable def RelV:V->Value->Prop
 | .au,u=>u=sR
 | .bl b,u=>u=DH b
 | .int i,u=>∃t,u=pV i t
 | .str x,u=>∃t,u=Value.str x t
 | .AX b,u=>∃t,u=Value.bytes b t
 | .tF b,u=>∃t,u=Value.float b t
 | .ref a,u=>u=fq a
 | .ty n,u=>u=Value.type n
noncomputable abbrev Vals:List V->List Value->Prop:=Paired RelV
theorem Vals.length{xs:List V}{us:List Value}(r:Vals xs us):xs.length=us.length:=Paired.length r
theorem Vals.get:∀{xs:List V} {us:List Value} {i:Nat} {x:V},Vals xs us->xs[i]?=some x->∃u,us[i]?=some u/\RelV x u
 | _,_,_,_,.nil,e=>by simp at e
 | _,_,0,_,.cons r _,e=>by simp at e;subst e;exact⟨_,rfl,r⟩
 | _,_,i+1,x,.cons _ t,e=>by
  obtain⟨u,h1,h2⟩:=Vals.get (i:=i) (x:=x) t (by simpa using e)
  exact⟨u,by simpa using h1,h2⟩
theorem Vals.set{x:V}{u:Value}(r:RelV x u):∀{xs:List V} {us:List Value} (i:Nat),Vals xs us->Vals (xs.set i x) (us.set i u)
 | _,_,_,.nil=>.nil
 | _,_,0,.cons _ t=>.cons r t
 | _,_,i+1,.cons q t=>.cons q (Vals.set r i t)
theorem Vals.append:∀{xs ys:List V} {us ws:List Value},Vals xs us->Vals ys ws->Vals (xs++ys) (us++ws)
 | _,_,_,_,.nil,s=>s
 | _,_,_,_,.cons r t,s=>.cons r (Vals.append t s)
theorem Vals.take:∀{xs:List V} {us:List Value} (n:Nat),Vals xs us->Vals (xs.take n) (us.take n)
 | _,_,0,_=>.nil
 | _,_,_+1,.nil=>.nil
 | _,_,n+1,.cons r t=>.cons r (Vals.take n t)
theorem Vals.drop:∀{xs:List V} {us:List Value} (n:Nat),Vals xs us->Vals (xs.drop n) (us.drop n)
 | _,_,0,r=>r
 | _,_,_+1,.nil=>.nil
 | _,_,n+1,.cons _ t=>Vals.drop n t
noncomputable def mj:Option V->Option Value->Prop
 | some v,some u=>RelV v u
 | none,none=>True
 | _,_=>False
noncomputable def KV{κ:Type}:List (κ × V)->List (κ × Value)->Prop:=Paired λ(p:κ × V) (q:κ × Value)=>p.1=q.1/\RelV p.2 q.2
noncomputable def kV:Key->V
 | .inl i=>.int i
 | .inr x=>.str x
inductive HO where
 | lst (xs:List V)
 | tup (xs:List V)
 | dK (dW:List (Key × V)) | dT (dW:List (List Key × V))
 | set (S:Int->Bool) (n:Nat)
 | ins (C dx:Addr) (fs:List (Str × V))
 | own (x:Addr)
 | xd (fs:List (Str × V))
 | met (f x:Addr)
 | xR (lo hi:Int)
 | bj (o:Obj) (u:HO)
 | dO (ps:Array Value)
 | ext (φ:Heap->Prop)
noncomputable abbrev Hp:=Addr->Option HO
noncomputable def upd(H:Hp)(a:Addr)(o:HO):Hp:=λb=>if b=a then some o else H b
theorem bI{H:Hp}{a:Addr}{o:HO}:upd H a o a=some o:=by unfold upd;rw[if_pos rfl]
theorem aT{H:Hp}{a b:Addr}{o:HO}(h:b≠a):upd H a o b=H b:=by unfold upd;rw[if_neg h]
theorem dX{H:Hp}{a b:Addr}{o:HO}(h:H a=some o)(h':H b=none):a≠b:=by
 intro e;subst e;rw[h]at h';cases h'
section
variable(P:Program)(w:World)
noncomputable def eG(H:Hp)(h:Heap)(a:Addr):HO->Prop
 | .lst xs=>xs.length<=sizeLine/\∃(its:List Value) (n:Nat),Vals xs its/\h.get? a=some { cls:=.type "list",data:=.seq its.toArray n }
 | .tup xs=>xs.length<=sizeLine/\∃its:List Value,Vals xs its/\IsTup h a its.toArray
 | .dK dW=>dW.length<=sizeLine/\(a==sysModules)=false/\∃vs,KV dW vs/\h.DictOf (JT P w) a vs
 | .dT dW=>dW.length<=sizeLine/\(a==sysModules)=false/\∃xs:List (List Key × Addr × Value),
   Paired (λ(p:List Key × V) (q:List Key × Addr × Value)=>p.1=q.1/\H q.2.1=some (.tup (p.1.map kV))/\RelV p.2 q.2.2) dW xs /\
   ∃o es ep,h.get? a=some o/\o.ExactDict/\o.data=.dict es ep/\es.toList=xs.map (entryOfKey (tupleKind (JT P w)))/\(xs.map (·.1)).Nodup
 | .set S n=>h.SetOf (intKind P w) a S n
 | .ins C dx fs=>H dx=some (.own a)/\fs.length<=1000/\dx≠a/\h.get? a=some (PySem.W.instObj C dx) /\
   ∃mA,h.Ns1 dx mA/\(∀f,mj (fs.lookup f) (mA f))/\PySem.Within mA (fs.map (·.1))
 | .own _=>∃o,h.get? a=some o
 | .xd fs=>∃mA,h.Ns1 a mA/\∀f,mj (fs.lookup f) (mA f)
 | .xR lo hi=>∃t u v,h.get? a=some { cls:=.type "range",data:=.fields #[.int lo t,.int hi u,.int 1 v] }
 | .bj o u=>h.get? a=some o/\eG H h a u
 | .dO ps=>h.get? a=some { cls:=.none,data:=.fields ps }/\TriplesOk ps.toList/\∀pos cv,codeAmong pos ps.toList=some cv->∃c φ,cv=.ref c/\H c=some (.ext φ)/\∀h',φ h'->∃q,h'.CodeRec (.ref c) q
 | .met f x=>h.get? a=some (PySem.W.methodObj (.ref f) (.ref x))
 | .ext φ=>φ h/\(∃o,h.get? a=some o)/\∀h1 h2:Heap,φ h1->(∀b o,(b=a\/H b=some (.own a))->h1.get? b=some o->h2.get? b=some o)->φ h2
noncomputable def cK(H:Hp)(h:Heap):Prop:=∀a o,H a=some o->eG P w H h a o
end
section
variable{P:Program}{w:World}{H H':Hp}{h h':Heap}{a:Addr}{o:HO}
theorem eG.lt(x:eG P w H h a o):a<h.objs.size:=by
 cases o with
 | lst xs=>obtain⟨_,_,_,_,e⟩:=x;exact bD e
 | tup xs=>obtain⟨_,_,_,p⟩:=x;exact p.lt
 | dK dW=>obtain⟨_,_,_,_,o,_,_,e,_⟩:=x;exact bD e
 | dT dW=>obtain⟨_,_,_,_,o,_,_,e,_⟩:=x;exact bD e
 | set S n=>obtain⟨o,_,_,_,e,_⟩:=x;exact bD e
 | ins C dx fs=>obtain⟨_,_,_,e,_⟩:=x;exact bD e
 | own y=>obtain⟨_,e⟩:=x;exact bD e
 | xd fs=>obtain⟨_,⟨_,_,_,e,_⟩,_⟩:=x;exact bD e
 | xR lo hi=>obtain⟨_,_,_,e⟩:=x;exact bD e
 | bj ob u=>obtain⟨e,_⟩:=x;exact bD e
 | dO ps=>exact bD (show h.get? a=some _ from x.1)
 | met f y=>exact bD (show h.get? a=some _ from x)
 | ext φ=>obtain⟨_,⟨_,e⟩,_⟩:=x;exact bD e
theorem Paired.Ec{α β:Type}{F G:α->β->Prop}:∀{l₁:List α} {l₂:List β},Paired F l₁ l₂->(∀a b,F a b->G a b)->Paired G l₁ l₂
 | _,_,.nil,_=>.nil
 | _,_,.cons r t,f=>.cons (f _ _ r) (Paired.Ec t f)
theorem eG.jh(x:eG P w H h a o)(k:∀b u,(b=a\/H b=some (.own a))->h.get? b=some u->h'.get? b=some u)
  (ho:∀b,H b=some (.own a)->H' b=some (.own a)) (ht:∀b xs,H b=some (.tup xs)->H' b=some (.tup xs)) (hx:∀b φ,H b=some (.ext φ)->H' b=some (.ext φ)):eG P w H' h' a o:=by
 induction o with
 | lst xs=>obtain⟨z,its,n,r,e⟩:=x;exact⟨z,its,n,r,k _ _ (.inl rfl) e⟩
 | tup xs=>obtain⟨z,its,r,ob,e,c⟩:=x;exact⟨z,its,r,ob,k _ _ (.inl rfl) e,c⟩
 | dK dW=>obtain⟨z,y,vs,r,ob,es,ep,e,c⟩:=x;exact⟨z,y,vs,r,ob,es,ep,k _ _ (.inl rfl) e,c⟩
 | dT dW =>
  obtain⟨z,y,xs,r,ob,es,ep,e,c⟩:=x
  exact⟨z,y,xs,Paired.Ec r λp q z=>⟨z.1,ht _ _ z.2.1,z.2.2⟩,ob,es,ep,k _ _ (.inl rfl) e,c⟩
 | set S n=>obtain⟨ob,es,ep,t,e,c⟩:=x;exact⟨ob,es,ep,t,k _ _ (.inl rfl) e,c⟩
 | ins C dx fs =>
  obtain⟨d,z,ne,e,mA,⟨od,es,ep,e2,c⟩,r⟩:=x
  exact⟨ho _ d,z,ne,k _ _ (.inl rfl) e,mA,⟨od,es,ep,k _ _ (.inr d) e2,c⟩,r⟩
 | own y=>obtain⟨ob,e⟩:=x;exact⟨ob,k _ _ (.inl rfl) e⟩
 | xd fs=>obtain⟨mA,⟨od,es,ep,e,c⟩,r⟩:=x;exact⟨mA,⟨od,es,ep,k _ _ (.inl rfl) e,c⟩,r⟩
 | xR lo hi=>obtain⟨t,u,v,e⟩:=x;exact⟨t,u,v,k _ _ (.inl rfl) e⟩
 | bj ob u ih=>obtain⟨e,q⟩:=x;exact⟨k _ _ (.inl rfl) e,ih q⟩
 | dO ps =>
  obtain⟨e,t,c⟩:=x
  refine⟨k a _ (.inl rfl) e,t,λpos cv q=>?_⟩
  obtain⟨d,φ,e1,e2,e3⟩:=c pos cv q
  exact⟨d,φ,e1,hx _ _ e2,e3⟩
 | met f y =>
  have e:h.get? a=some (PySem.W.methodObj (.ref f) (.ref y)):=x
  show h'.get? a=some (PySem.W.methodObj (.ref f) (.ref y))
  exact k a _ (.inl rfl) e
 | ext φ=>obtain⟨p,⟨o,e⟩,st⟩:=x;exact⟨st _ _ p λb o hb q=>k _ _ hb q,⟨o,k _ _ (.inl rfl) e⟩,λh1 h2 p1 kk=>st h1 h2 p1 λb o hb q=>kk b o (hb.imp id (ho b)) q⟩
theorem cK.lt(x:cK P w H h)(e:H a=some o):a<h.objs.size:=(x a o e).lt
theorem cK.fresh(x:cK P w H h)(e:h.objs.size<=a):H a=none:=by
 cases q:H a with
 | none=>rfl
 | some u=>exact absurd (cB (x.lt q) e) (gi _)
theorem cK.kept(x:cK P w H h)(k:∀b u,h.get? b=some u->h'.get? b=some u):cK P w H h':=λa o e =>
 (x a o e).jh (λb u _ q=>k b u q) (λ_ q=>q) (λ_ _ q=>q) λ_ _ q=>q
theorem cK.laid(x:cK P w H h)(k:∀b u,h.get? b=some u->h'.get? b=some u)(hp:h.objs.size<=a)(new:eG P w (upd H a o) h' a o):cK P w (upd H a o) h':=λb u e=>by
 have hn:=x.fresh hp
 by_cases hb:b=a
 ·subst hb;rw[bI]at e;cases e;exact new
 ·rw[aT hb]at e
  exact(x b u e).jh (λc v _ q=>k c v q) (λc q=>by rw[aT (dX q hn)];exact q) (λc xs q=>by rw[aT (dX q hn)];exact q) λc xs q=>by rw[aT (dX q hn)];exact q
end
noncomputable def Rd(H:Hp)(a:Addr)(u:HO):Prop:=H a=some u\/∃o,H a=some (.bj o u)
theorem Rd.ok{P:Program}{w:World}{H:Hp}{h:Heap}{a:Addr}{u:HO}(r:Rd H a u)(x:cK P w H h):eG P w H h a u:=by
 rcases r with r | ⟨o,r⟩
 ·exact x a u r
 ·obtain⟨_,q⟩:=x a _ r
  exact q
noncomputable def AY:Option HO->Prop
 | some (.lst _)=>True
 | some (.dK _)=>True
 | some (.dT _)=>True
 | some (.set _ _)=>True
 | some (.ins _ _ _)=>True
 | _=>False
section
variable{P:Program}{w:World}{H:Hp}{h h':Heap}{x e:Addr}{o':HO}
theorem cK.write(ok:cK P w H h)(mu:AY (H x))(he:e=x\/H e=some (.own x))(k:∀b u,b≠e->h.get? b=some u->h'.get? b=some u)(vR:∃u,h'.get? e=some u)
  (new:eG P w (upd H x o') h' x o'):cK P w (upd H x o') h':=λb u q=>by
 have JU:∀c y,H c=some (.own y)->c≠x:=λc y r z=>by subst z;rw[r]at mu;exact mu
 have V7:∀c xs,H c=some (.tup xs)->c≠x:=λc xs r z=>by subst z;rw[r]at mu;exact mu
 by_cases hb:b=x
 ·subst hb;rw[bI]at q;cases q;exact new
 ·rw[aT hb]at q
  by_cases tG:b=e
  ·have q':H b=some (.own x):=by
    rcases he with z | z
    ·exact absurd (tG.trans z) hb
    ·rw[tG];exact z
   rw[q]at q';cases q'
   obtain⟨v,hv⟩:=vR
   exact⟨v,by rw[tG];exact hv⟩
  ·refine(ok b u q).jh (λc v hc r=>k c v ?_ r) (λc r=>by rw[aT (JU c b r)];exact r) (λc xs r=>by rw[aT (V7 c xs r)];exact r) λc φ r=>by rw[aT (λz=>by rw[z]at r;rw[r]at mu;exact mu)];exact r
   rcases hc with rfl | hc
   ·exact tG
   ·rintro rfl
    rcases he with z | z
    ·exact JU c b hc z
    ·rw[hc]at z;cases z;exact hb rfl
end
structure Un(fs ex:List Addr)(H H':Hp)(h h':Heap):Prop where
 keep:∀b o,h.get? b=some o->H b=none->b ∉ fs->b ∉ ex->h'.get? b=some o
 slot:∀b o,h.get? b=some o->H b=none->b∈fs->b ∉ ex->∃sl,h'.get? b=some { o with slots:=sl }
 free:∀b o,h.get? b=some o->H b=none->b ∉ ex->H' b=none
 there:∀b o,h.get? b=some o->b ∉ ex->∃o',h'.get? b=some o'
 iW:∀b xs,H b=some (.tup xs)->H' b=some (.tup xs)
 iy:∀b o u,H b=some (.bj o u)->H' b=some (.bj o u)
 gK:∀b ps,H b=some (.dO ps)->∃more,H' b=some (.dO (ps++more))
section
variable{fs Ee ex ex':List Addr}{H H1 H2:Hp}{h h1 h2 h':Heap}{a x e:Addr}{o:HO}
theorem Un.any(u:Un fs ex H H1 h h1){b:Addr}{ob:Obj}(q:h.get? b=some ob)(n:H b=none)(hx:b ∉ ex):∃sl,h1.get? b=some { ob with slots:=sl }:=by
 by_cases hb:b∈fs
 ·exact u.slot b ob q n hb hx
 ·exact⟨ob.slots,u.keep b ob q n hb hx⟩
theorem Un.kept(k:∀b u,h.get? b=some u->h'.get? b=some u):Un fs ex H H h h' :=
 ⟨λb ob q _ _ _=>k b ob q,λb ob q _ _ _=>⟨ob.slots,k b ob q⟩,λ_ _ _ n _=>n,λb ob q _=>⟨ob,k b ob q⟩,λ_ _ q=>q,λ_ _ _ q=>q,λ_ ps q=>⟨#[],by rw[q];simp⟩⟩
theorem Un.refl:Un fs ex H H h h:=Un.kept λ_ _ q=>q
theorem Un.laid(k:∀b u,h.get? b=some u->h'.get? b=some u)(hp:h.objs.size<=a)(hn:H a=none):Un fs ex H (upd H a o) h h' where
 keep:=λb u q _ _ _=>k b u q
 slot:=λb u q _ _ _=>⟨u.slots,k b u q⟩
 free:=λb u q n _=>by rw[aT (dN (cB (bD q) hp))];exact n
 there:=λb u q _=>⟨u,k b u q⟩
 iW:=λb xs q=>by rw[aT (dX q hn)];exact q
 iy:=λb u xs q=>by rw[aT (dX q hn)];exact q
 gK:=λb ps q=>⟨#[],by rw[aT (dX q hn),q];simp⟩
theorem Un.write(mu:AY (H x))(he:e=x\/H e=some (.own x))(k:∀b u,b≠e->h.get? b=some u->h'.get? b=some u)(vR:∃u,h'.get? e=some u):Un fs ex H (upd H x o) h h':=by
 have hx:∀b,H b=none->b≠x:=λb n z=>by subst z;rw[n]at mu;exact mu
 have hb:∀b,H b=none->b≠e:=λb n z=>by
  subst z
  rcases he with r | r
  ·exact hx b n r
  ·rw[n]at r;cases r
 have hm:∀b u,H b=some u->¬ AY (some u)->b≠x:=λb u q nm z=>by subst z;rw[q]at mu;exact nm mu
 refine⟨λb u q n _ _=>k b u (hb b n) q,λb u q n _ _=>⟨u.slots,k b u (hb b n) q⟩,λb u q n _=>by rw[aT (hx b n)];exact n,λb u q _=>?_,
  λb xs q=>by rw[aT (hm b _ q λz=>z)];exact q,λb u xs q=>by rw[aT (hm b _ q λz=>z)];exact q,λb ps q=>⟨#[],by rw[aT (hm b _ q λz=>z),q];simp⟩⟩
 by_cases tG:b=e
 ·subst tG;exact vR
 ·exact⟨u,k b u tG q⟩
end
noncomputable def AZ(h:Heap)(H:Hp):List Addr:=(aL h.objs.size).filter λa=>(H a).isSome
noncomputable def mm(h:Heap)(H:Hp):Heap:=PySem.W.hideAll h (AZ h H)
theorem V8(h:Heap)(H:Hp):(mm h H).objs.size=h.objs.size:=PySem.W.hideAll_size _ _
theorem V9{h:Heap}{H:Hp}{b:Addr}{o:Obj}(e:h.get? b=some o)(n:H b=none):(mm h H).get? b=some o :=
 PySem.W.hideAll_get _ e λhm=>by
  have q:(H b).isSome=true:=(nk.mp hm).2
  rw[n]at q;simp at q
theorem Wa{h:Heap}{H:Hp}{b:Addr}{o:Obj}(e:(mm h H).get? b=some o):h.get? b=some o/\H b=none:=by
 have e':h.get? b=some o:=PySem.W.of_hideAll (AZ h H) e
 refine⟨e',?_⟩
 cases q:H b with
 | none=>rfl
 | some x =>
  have hm:b∈AZ h H:=nk.mpr ⟨bU.mpr (bD e'),by simp[q]⟩
  have z:(mm h H).get? b=none:=PySem.W.hideAll_none (AZ h H) hm
  rw[z]at e;cases e
end L2
namespace L2
open PySem PySem.Spec PyProof.Rows
structure Mod(K:PySem.W.Frag)(mg:Str->Option Value)(base:Heap):Prop where
 nE:K.In base
 glob:base.Ns mainGlobals mg
 blt:∃mb,base.Ns builtinsNs mb/\∀x:Str,x≠"__name__"->mb x=bootBuiltins x
 nolimit:base.NoLimit
structure Cx where
 prog:Program
 w:World
 K:PySem.W.Frag
 mg:Str->Option Value
 base:Heap
 A:Around
 N:List Str
 cw:Shared
 jK:Hp
 env:Env
 outer:List Env
 stack:List Env
 ex:List Addr
 fn:Str->Bool
 calm:Bool
 pn:List (Addr × Obj)
 xe:Value->Shared->Prop
noncomputable def dY(l:List Env):List Addr:=l.filterMap (·.frame)
noncomputable abbrev Cx.fs(X:Cx):List Addr:=dY X.outer
noncomputable def nF(sc:Scope)(x:Str):Prop:=sc.names.lookup x=some .local\/sc.names.lookup x=some .cell\/sc.names.lookup x=some .free
noncomputable def Loc(sc:Scope)(x:Str):Prop:=sc.names.lookup x=some .local\/sc.names.lookup x=some .cell
noncomputable def Wb(env:Env)(h:Heap)(m:Str->Option Value)(x:Str)(u:Value):Prop :=
 (env.kindOf x=some .local/\m x=some u)\/((env.kindOf x=some .cell\/env.kindOf x=some .free)/\∃c,env.cells.lookup x=some c/\h.IsCell c (some u))
structure Cx.Ok(X:Cx):Prop where
 mod:Mod X.K X.mg X.base
 kind:X.env.scope.kind=.function
 glob:X.env.globals=mainGlobals
 blt:X.env.builtins=builtinsNs
 above:X.cw.heap.objs.size<=X.env.locals
 inj:∀x y c,X.env.cells.lookup x=some c->X.env.cells.lookup y=some c->x=y
 has:∀x,(X.env.kindOf x=some .cell\/X.env.kindOf x=some .free)->∃c,X.env.cells.lookup x=some c
 nG:∀x c,X.fn x=true->X.env.cells.lookup x=some c->X.cw.heap.objs.size<=c
 hd:X.calm=true->X.A.handled=none
 frames:X.A.frames=some X.stack
 tH:X.stack=X.outer\/(X.stack=X.env::X.outer/\X.env.frame=some X.env.locals)
 tI:∀b∈X.ex,b≠X.env.locals/\∀x c,X.env.cells.lookup x=some c->c≠b
 bs:∀b o,X.base.get? b=some o->X.cw.heap.get? b=some o/\X.jK b=none
 ji:X.base.objs.size<=X.cw.heap.objs.size
 qm:∀b o,X.base.get? b=some o->b ∉ X.ex
 qo:∀b∈X.ex,b ∉ X.fs
 gq:X.cw.heap.FunFrames X.base X.outer
 jj:∀b∈X.fs,X.jK b=none
structure Inv(X:Cx)(pins:List (Addr × Obj))(σ:List (Option V))(H:Hp)(s:Shared):Prop where
 ok:X.Ok
 os:s.os=X.cw.os
 bare:AllBare s.gens
 base:Un X.fs X.ex X.jK H X.cw.heap s.heap
 loc:∃m,s.heap.Ns X.env.locals m/\∀(i:Nat) (x:Str) (v:V),X.N[i]?=some x->σ[i]?=some (some v)->nF X.env.scope x->∃u,RelV v u/\Wb X.env s.heap m x u
 cell:∀x c,X.env.cells.lookup x=some c->∃v,s.heap.IsCell c v
 free:H X.env.locals=none
 f9:∀x c,X.env.cells.lookup x=some c->H c=none
 pin:∀p∈X.pn++pins,s.heap.get? p.1=some p.2/\H p.1=none/\p.1≠X.env.locals/\p.1 ∉ X.fs/\∀v,p.2.data≠.cell v
 aI:cK X.prog X.w H s.heap
 len:σ.length=X.N.length
section
variable{X:Cx}{pins:List (Addr × Obj)}{σ:List (Option V)}{H H':Hp}{s:Shared}{h':Heap}
theorem Cx.Ok.Wc(ok:X.Ok){b:Addr}{o:Obj}(e:X.base.get? b=some o):b ∉ X.fs:=λhb=>by
 have:=(ok.gq.mem hb).1
 rw[e]at this;cases this
theorem Inv.bs(I:Inv X pins σ H s):∀b o,X.base.get? b=some o->s.heap.get? b=some o/\H b=none:=λb o e =>
 ⟨I.base.keep b o (I.ok.bs b o e).1 (I.ok.bs b o e).2 (I.ok.Wc e) (I.ok.qm b o e),I.base.free b o (I.ok.bs b o e).1 (I.ok.bs b o e).2 (I.ok.qm b o e)⟩
theorem Inv.bk(I:Inv X pins σ H s):∀b o,X.base.get? b=some o->s.heap.get? b=some o:=λb o e=>(I.bs b o e).1
theorem Inv.mod(I:Inv X pins σ H s):Mod X.K X.mg X.base:=I.ok.mod
theorem Inv.cQ(I:Inv X pins σ H s):X.K.In s.heap:=I.ok.mod.nE.keeps I.bk
theorem Inv.lt(I:Inv X pins σ H s):X.env.locals<s.heap.objs.size:=let⟨_,hn,_⟩:=I.loc;hn.lt
theorem Inv.sz(I:Inv X pins σ H s):X.cw.heap.objs.size<=s.heap.objs.size:=fG I.ok.above (As I.lt)
theorem Inv.JV(I:Inv X pins σ H s){a:Addr}(h:s.heap.objs.size<=a):a ∉ X.fs:=λhb=>by
 obtain⟨_,o,ho,_⟩:=I.ok.gq.mem hb
 exact absurd (cB (bD ho) (fG I.sz h)) (gi _)
theorem Inv.ku(I:Inv X pins σ H s):∀x c,X.env.cells.lookup x=some c->c≠X.env.locals:=λx c e z=>by
 obtain⟨v,o,ho,hd⟩:=I.cell x c e
 obtain⟨m,⟨o',es,ep,kS,xS,_⟩,_⟩:=I.loc
 rw[z,kS]at ho;cases ho;rw[xS]at hd;cases hd
theorem Inv.gq(I:Inv X pins σ H s):s.heap.FunFrames X.base X.outer:=by
 have all:∀(l:List Env),(∀b∈dY l,b∈X.fs)->X.cw.heap.FunFrames X.base l->s.heap.FunFrames X.base l:=by
  intro l
  induction l with
  | nil=>intro _ _;trivial
  | cons env r ih =>
   intro hs hl
   obtain⟨hk,⟨L,o,hf,hn,ho,hd⟩,hr⟩:=hl
   have hL:L∈X.fs:=hs L (by unfold dY;rw[Au,hf];exact gj)
   obtain⟨sl,e⟩:=I.base.slot L o ho (I.ok.jj L hL) hL λz=>I.ok.qo L z hL
   exact⟨hk,⟨L,_,hf,hn,e,hd⟩,ih (λb hb=>hs b (by unfold dY;rw[Au,hf];exact ft _ hb)) hr⟩
 exact all X.outer (λ_ hb=>hb) I.ok.gq
theorem Inv.stack(I:Inv X pins σ H s):s.heap.FunFrames X.base X.stack:=by
 rcases I.ok.tH with e | ⟨e,hf⟩
 ·rw[e];exact I.gq
 ·rw[e]
  obtain⟨m,hn,_⟩:=I.loc
  refine .cons (by rw[I.ok.kind];decide) hf hn ?_ I.gq
  exact Heap.get?_none_of_le (fG I.ok.ji I.ok.above)
theorem Inv.xT(I:Inv X pins σ H s):∀b∈dY X.stack,b∈X.env.locals::X.fs:=λb hb=>by
 rcases I.ok.tH with e | ⟨e,hf⟩
 ·rw[e]at hb;exact ft _ hb
 ·rw[e]at hb
  unfold dY at hb
  rw[Au,hf]at hb
  exact hb
theorem Inv.A6(I:Inv X pins σ H s):∀b∈dY X.stack,H b=none:=λb hb=>by
 rcases bR.mp (I.xT b hb)with e | hb
 ·rw[e];exact I.free
 ·obtain⟨_,o,ho,_⟩:=I.ok.gq.mem hb
  exact I.base.free b o ho (I.ok.jj b hb) λz=>I.ok.qo b z hb
theorem Inv.step{g':Array GenState}{t':Nat}{d':Drawn}{ch:List Addr}(I:Inv X pins σ H s)
  (mn:∀b∈ch,(b∈X.ex\/X.cw.heap.objs.size<=b)/\b≠X.env.locals/\(∀x c,X.env.cells.lookup x=some c->c≠b)/\∀p∈X.pn++pins,p.1≠b)
  (keep:∀b o,b≠X.env.locals->b ∉ X.fs->b ∉ ch->s.heap.get? b=some o->H b=none->h'.get? b=some o)
  (slot:∀b o,b≠X.env.locals->b∈X.fs->b ∉ ch->s.heap.get? b=some o->H b=none->∃sl,h'.get? b=some { o with slots:=sl }) (free:∀b o,b ∉ ch->s.heap.get? b=some o->H b=none->H' b=none)
  (there:∀b o,b ∉ ch->s.heap.get? b=some o->∃o',h'.get? b=some o')
  (iW:∀b xs,H b=some (.tup xs)->H' b=some (.tup xs)) (iy:∀b o u,H b=some (.bj o u)->H' b=some (.bj o u)) (gK:∀b ps,H b=some (.dO ps)->∃more,H' b=some (.dO (ps++more)))
  (ns:∀m,s.heap.Ns X.env.locals m->h'.Ns X.env.locals m) (aI:cK X.prog X.w H' h') (hg:AllBare g') :
  Inv X pins σ H' { s with heap:=h',gens:=g',drawn:=d',toks:=t' }:=by
 have vS:∀b o,X.cw.heap.get? b=some o->b≠X.env.locals:=λb o e=>dN (cB (bD e) I.ok.above)
 have vT:∀b o,X.cw.heap.get? b=some o->b ∉ X.ex->b ∉ ch:=λb o e hx hb=>by
  rcases(mn b hb).1 with z | z
  ·exact hx z
  ·exact absurd (cB (bD e) z) (gi _)
 have cellK:∀x c,X.env.cells.lookup x=some c->∀v,s.heap.IsCell c v->h'.IsCell c v:=λx c e v ⟨o,ho,hd⟩=>by
  have xU:c ∉ ch:=λz=>(mn c z).2.2.1 x c e rfl
  by_cases hc:c∈X.fs
  ·obtain⟨sl,q⟩:=slot c o (I.ku x c e) hc xU ho (I.f9 x c e)
   exact⟨_,q,hd⟩
  ·exact⟨o,keep c o (I.ku x c e) hc xU ho (I.f9 x c e),hd⟩
 refine⟨I.ok,I.os,hg,⟨λb o e n hb hx=>?_,λb o e n hb hx=>?_,λb o e n hx=>?_,λb o e hx=>?_,λb xs e=>iW b xs (I.base.iW b xs e),λb o xs e=>iy b o xs (I.base.iy b o xs e),λb ps e=>?_⟩,?_,λx c e=>?_,?_,λx c e=>?_,λp hp=>?_,aI,I.len⟩
 ·exact keep b o (vS b o e) hb (vT b o e hx) (I.base.keep b o e n hb hx) (I.base.free b o e n hx)
 ·obtain⟨sl,e1⟩:=I.base.slot b o e n hb hx
  obtain⟨xV,e2⟩:=slot b _ (vS b o e) hb (vT b o e hx) e1 (I.base.free b o e n hx)
  exact⟨xV,e2⟩
 ·obtain⟨o',e1⟩:=I.base.there b o e hx
  exact free b o' (vT b o e hx) e1 (I.base.free b o e n hx)
 ·obtain⟨o',e1⟩:=I.base.there b o e hx
  exact there b o' (vT b o e hx) e1
 ·obtain⟨m1,e1⟩:=I.base.gK b ps e
  obtain⟨m2,e2⟩:=gK b _ e1
  exact⟨m1++m2,by rw[e2,sS]⟩
 ·obtain⟨m,hn,hl⟩:=I.loc
  refine⟨m,ns m hn,λi x v e1 e2 e3=>?_⟩
  obtain⟨u,r,l⟩:=hl i x v e1 e2 e3
  refine⟨u,r,?_⟩
  rcases l with l | ⟨k,c,e,z⟩
  ·exact .inl l
  ·exact .inr ⟨k,c,e,cellK x c e _ z⟩
 ·obtain⟨v,z⟩:=I.cell x c e
  exact⟨v,cellK x c e v z⟩
 ·obtain⟨m,⟨o,_,_,ho,_⟩,_⟩:=I.loc
  exact free _ o (λz=>(mn _ z).2.1 rfl) ho I.free
 ·obtain⟨v,o,ho,hd⟩:=I.cell x c e
  exact free c o (λz=>(mn c z).2.2.1 x c e rfl) ho (I.f9 x c e)
 ·obtain⟨e,n,ne,nf,d⟩:=I.pin p hp
  have xU:p.1 ∉ ch:=λz=>(mn p.1 z).2.2.2 p hp rfl
  exact⟨keep p.1 p.2 ne nf xU e n,free p.1 p.2 xU e n,ne,nf,d⟩
theorem Inv.un{t':Nat}(I:Inv X pins σ H s)(u:Un X.fs [] H H' s.heap h')(aI:cK X.prog X.w H' h'):Inv X pins σ H' { s with heap:=h',toks:=t' }:=by
 obtain⟨m,⟨o,es,ep,ho,r⟩,_⟩:=id I.loc
 obtain⟨sl,hL⟩:=u.any ho I.free (by simp)
 exact I.step (g':=s.gens) (d':=s.drawn) (ch:=[]) (λ_ z=>nomatch z) (λb o _ hb _ e n=>u.keep b o e n hb (by simp)) (λb o _ hb _ e n=>u.slot b o e n hb (by simp)) (λb o _ e n=>u.free b o e n (by simp)) (λb o _ e=>u.there b o e (by simp)) u.iW u.iy u.gK (λm' hm=>by
  obtain⟨o',Ef,Eg,kS,r'⟩:=hm
  rw[ho]at kS;cases kS
  exact⟨_,Ef,Eg,hL,r'⟩) aI I.bare
theorem Inv.call{g':Array GenState}{t':Nat}{d':Drawn}{ch:List Addr}(I:Inv X pins σ H s)(u:Un (dY X.stack) ch H H' s.heap h')(aI:cK X.prog X.w H' h')(hg:AllBare g')
  (mn:∀b∈ch,(b∈X.ex\/X.cw.heap.objs.size<=b)/\b≠X.env.locals/\(∀x c,X.env.cells.lookup x=some c->c≠b)/\∀p∈X.pn++pins,p.1≠b) :
  Inv X pins σ H' { s with heap:=h',gens:=g',drawn:=d',toks:=t' }:=by
 obtain⟨m,⟨o,es,ep,ho,r⟩,_⟩:=id I.loc
 obtain⟨sl,hL⟩:=u.any ho I.free λz=>(mn _ z).2.1 rfl
 exact I.step (ch:=ch) mn (λb o hL hb hc e n=>u.keep b o e n (λz=>(bR.mp (I.xT b z)).elim hL hb) hc) (λb o _ _ hc e n=>u.any e n hc) (λb o hc e n=>u.free b o e n hc) (λb o hc e=>u.there b o e hc) u.iW u.iy u.gK (λm' hm=>by
  obtain⟨o',Ef,Eg,kS,r'⟩:=hm
  rw[ho]at kS;cases kS
  exact⟨_,Ef,Eg,hL,r'⟩) aI hg
theorem Inv.turned{t':Nat}{it:Addr}(I:Inv X pins σ H s)(k:∀b o,b≠it->s.heap.get? b=some o->h'.get? b=some o)(hn:H it=none)(hL:it≠X.env.locals)
  (h1:it∈X.ex\/X.cw.heap.objs.size<=it) (h2:∀x c,X.env.cells.lookup x=some c->c≠it) (h3:∀p∈X.pn++pins,p.1≠it):Inv X pins σ H { s with heap:=h',toks:=t' }:=by
 have qp:∀b u,H b=some u->b≠it:=λb u e z=>by rw[z,hn]at e;cases e
 refine I.step (g':=s.gens) (d':=s.drawn) (ch:=[it]) (λb hb=>?_) (λb o _ _ hc e _=>k b o (λz=>hc (by simp[z])) e) (λb o _ _ hc e _=>⟨o.slots,k b o (λz=>hc (by simp[z])) e⟩) (λ_ _ _ _ n=>n)
  (λb o hc e=>⟨o,k b o (λz=>hc (by simp[z])) e⟩) (λ_ _ e=>e) (λ_ _ _ e=>e) (λb ps e=>⟨#[],by rw[e];simp⟩) (λm hm=>?_) (λb u e=>?_) I.bare
 ·have e:b=it:=by simpa using hb
  subst e
  exact⟨h1,hL,h2,h3⟩
 ·obtain⟨o,es,ep,ho,r⟩:=hm
  exact⟨o,es,ep,k _ o (e7 hL) ho,r⟩
 ·refine(I.aI b u e).jh (λc v hc q=>k c v ?_ q) (λ_ q=>q) (λ_ _ q=>q) λ_ _ q=>q
  rcases hc with z | z
  ·rw[z];exact qp b u e
  ·exact qp c _ z
theorem Inv.tok(I:Inv X pins σ H s)(t:Nat):Inv X pins σ H { s with toks:=t }:=I.un (h':=s.heap) (t':=t) Un.refl I.aI
theorem Inv.kept{t':Nat}(I:Inv X pins σ H s)(k:∀b u,s.heap.get? b=some u->h'.get? b=some u):Inv X pins σ H { s with heap:=h',toks:=t' }:=I.un (Un.kept k) (I.aI.kept k)
theorem Inv.laid{a:Addr}{o:HO}{t':Nat}(I:Inv X pins σ H s)(k:∀b u,s.heap.get? b=some u->h'.get? b=some u)(hp:s.heap.objs.size<=a)(new:eG X.prog X.w (upd H a o) h' a o) :
  Inv X pins σ (upd H a o) { s with heap:=h',toks:=t' }:=I.un (Un.laid k hp (I.aI.fresh hp)) (I.aI.laid k hp new)
theorem Inv.write{x e:Addr}{o:HO}{t':Nat}(I:Inv X pins σ H s)(mu:AY (H x))(he:e=x\/H e=some (.own x))(k:∀b u,b≠e->s.heap.get? b=some u->h'.get? b=some u)(vR:∃u,h'.get? e=some u)
  (new:eG X.prog X.w (upd H x o) h' x o):Inv X pins σ (upd H x o) { s with heap:=h',toks:=t' }:=I.un (Un.write mu he k vR) (I.aI.write mu he k vR new)
theorem Inv.weak{aF:List (Option V)}(I:Inv X pins σ H s)(hl:aF.length=σ.length)(w:∀(i:Nat) v,aF[i]?=some (some v)->σ[i]?=some (some v)):Inv X pins aF H s :=
 ⟨I.ok,I.os,I.bare,I.base,let⟨m,hn,Eh⟩:=I.loc;⟨m,hn,λi x v e1 e2 e3=>Eh i x v e1 (w i v e2) e3⟩,I.cell,I.free,I.f9,I.pin,I.aI,hl.trans I.len⟩
theorem Inv.JW{vU:List (Addr × Obj)}(I:Inv X pins σ H s)(h:∀p∈vU,s.heap.get? p.1=some p.2/\H p.1=none/\p.1≠X.env.locals/\p.1 ∉ X.fs/\∀v,p.2.data≠.cell v):Inv X vU σ H s :=
 ⟨I.ok,I.os,I.bare,I.base,I.loc,I.cell,I.free,I.f9,λp hp=>(bY.mp hp).elim (λz=>I.pin p (eN _ z)) (h p),I.aI,I.len⟩
theorem Ei{N:List Str}(hN:N.Nodup){i j:Nat}{x:Str}(a:N[i]?=some x)(b:N[j]?=some x):i=j:=by
 obtain⟨h1,e1⟩:=km.mp a
 obtain⟨h2,e2⟩:=km.mp b
 exact(Jj hN).mp (e1.trans e2.symm)
theorem We{M:Model}{A:Around}{E:Value->Shared->Prop}{i:Nat}{x:Str}{v:V}{u:Value}{Q:Unit->Shared->Prop}(I:Inv X pins σ H s)(hN:X.N.Nodup)(hi:X.N[i]?=some x)(hx:Loc X.env.scope x)(r:RelV v u)
  (h:∀s',Inv X pins (σ.set i (some v)) H s'->(∃a,Heap.SameBut a s.heap s'.heap/\(a=X.env.locals\/X.env.cells.lookup x=some a))->Q () s') (hf:X.fn x=true\/X.env.scope.names.lookup x=some .local:=by first | exact .inl rfl | exact .inr rfl | assumption):wpAny M A (storeName X.env x u) Q E s:=by
 obtain⟨m,hn,hl⟩:=id I.loc
 have Wf:(X.env.scope.kind==.class||(X.env.scope.kind==.module&&X.env.locals != X.env.globals))=false:=by rw[I.ok.kind];rfl
 have JX:i<σ.length:=by rw[I.len];exact(km.mp hi).1
 have ku:=I.ku
 have tracked:∀{a:Addr} {h':Heap},(∃o,s.heap.get? a=some o/\H a=none)->Heap.SameBut a s.heap h'->cK X.prog X.w H h':=λ{a h'} ha hs b ob e=>by
  obtain⟨_,_,JY⟩:=ha
  refine(I.aI b ob e).jh (λc w' hc q=>(hs.2 c ?_).trans q) (λ_ q=>q) (λ_ _ q=>q) λ_ _ q=>q
  rintro rfl
  rcases hc with rfl | hc
  ·rw[JY]at e;cases e
  ·rw[JY]at hc;cases hc
 rcases hx with hk | hk
 ·refine wpAny_storeName_local hk hn (λh' Ej hs=>?_) Wf
  obtain⟨oL,_,_,JZ,_⟩:=id hn
  refine h _ ⟨I.ok,I.os,I.bare,⟨λb o e n hb hx=>?_,λb o e n hb hx=>?_,I.base.free,λb o e hx=>?_,I.base.iW,I.base.iy,I.base.gK⟩,⟨_,Ej,λj y v' e1 e2 e3=>?_⟩,λy c e=>?_,I.free,I.f9,λp hp=>?_,tracked ⟨oL,JZ,I.free⟩ hs,by simpa using I.len⟩ ⟨_,hs,.inl rfl⟩
  ·exact(hs.2 b (dN (cB (bD e) I.ok.above))).trans (I.base.keep b o e n hb hx)
  ·obtain⟨sl,e1⟩:=I.base.slot b o e n hb hx
   exact⟨sl,(hs.2 b (dN (cB (bD e) I.ok.above))).trans e1⟩
  ·obtain⟨o',e1⟩:=I.base.there b o e hx
   exact⟨o',(hs.2 b (dN (cB (bD e) I.ok.above))).trans e1⟩
  ·by_cases hj:j=i
   ·subst hj
    rw[hi]at e1;cases e1
    rw[Av JX]at e2
    cases e2
    exact⟨u,r,.inl ⟨hk,by simp⟩⟩
   ·rw[sT (e7 hj)]at e2
    obtain⟨u',r',q⟩:=hl j y v' e1 e2 e3
    refine⟨u',r',?_⟩
    rcases q with⟨k,e⟩ | ⟨k,c,e,z⟩
    ·refine .inl ⟨k,?_⟩
     have:y≠x:=λe=>hj (Ei hN e1 (e ▸ hi))
     simp[this,e]
    ·exact .inr ⟨k,c,e,z.sameBut hs (ku y c e)⟩
  ·obtain⟨w',z⟩:=I.cell y c e
   exact⟨w',z.sameBut hs (ku y c e)⟩
  ·obtain⟨e,n,ne,nf,d⟩:=I.pin p hp
   exact⟨(hs.2 p.1 ne).trans e,n,ne,nf,d⟩
 ·have xW:X.fn x=true:=by
   rcases hf with z | z
   ·exact z
   ·rw[z]at hk;cases hk
  obtain⟨c,hc⟩:=I.ok.has x (.inl hk)
  obtain⟨w',z⟩:=I.cell x c hc
  refine wpAny_storeName_cell I.ok.kind hk hc z (λh' xX hs=>?_)
  obtain⟨oc,jk,Wg⟩:=id z
  refine h { s with heap:=h' } ⟨I.ok,I.os,I.bare,⟨λb o e n hb hx=>?_,λb o e n hb hx=>?_,I.base.free,λb o e hx=>?_,I.base.iW,I.base.iy,I.base.gK⟩,⟨m,hn.sameBut hs (e7 (ku x c hc)),λj y v' e1 e2 e3=>?_⟩,λy c' e=>?_,I.free,I.f9,λp hp=>?_,tracked ⟨oc,jk,I.f9 x c hc⟩ hs,by simpa using I.len⟩ ⟨c,hs,.inr hc⟩
  ·exact(hs.2 b (dN (cB (bD e) (I.ok.nG x c xW hc)))).trans (I.base.keep b o e n hb hx)
  ·obtain⟨sl,e1⟩:=I.base.slot b o e n hb hx
   exact⟨sl,(hs.2 b (dN (cB (bD e) (I.ok.nG x c xW hc)))).trans e1⟩
  ·obtain⟨o',e1⟩:=I.base.there b o e hx
   exact⟨o',(hs.2 b (dN (cB (bD e) (I.ok.nG x c xW hc)))).trans e1⟩
  ·by_cases hj:j=i
   ·subst hj
    rw[hi]at e1;cases e1
    rw[Av JX]at e2
    cases e2
    exact⟨u,r,.inr ⟨.inl hk,c,hc,xX⟩⟩
   ·rw[sT (e7 hj)]at e2
    obtain⟨u',r',q⟩:=hl j y v' e1 e2 e3
    refine⟨u',r',?_⟩
    rcases q with q | ⟨k,c',e,z'⟩
    ·exact .inl q
    ·refine .inr ⟨k,c',e,z'.sameBut hs ?_⟩
     rintro rfl
     exact hj (Ei hN e1 (I.ok.inj _ _ _ e hc ▸ hi))
  ·by_cases J0:c'=c
   ·subst J0;exact⟨_,xX⟩
   ·obtain⟨w2,z2⟩:=I.cell y c' e
    exact⟨w2,z2.sameBut hs J0⟩
  ·obtain⟨e,n,ne,nf,d⟩:=I.pin p hp
   refine⟨(hs.2 p.1 ?_).trans e,n,ne,nf,d⟩
   intro q
   rw[q,jk]at e
   have q':oc=p.2:=c9 e
   exact d w' (by rw[<-q'];exact Wg)
theorem A8{M:Model}{A:Around}{E:Value->Shared->Prop}{i:Nat}{x:Str}{v:V}{u:Value}{Q:Unit->Shared->Prop}(I:Inv X pins σ H s)(hN:X.N.Nodup)(hi:X.N[i]?=some x)(hx:Loc X.env.scope x)(r:RelV v u)
  (h:∀s',Inv X pins (σ.set i (some v)) H s'->Q () s') (hf:X.fn x=true\/X.env.scope.names.lookup x=some .local:=by first | exact .inl rfl | exact .inr rfl | assumption):wpAny M A (storeName X.env x u) Q E s :=
 We I hN hi hx r (λs' I' _=>h s' I') hf
theorem Inv.J1{s':Shared}{ch:List Addr}(I:Inv X pins σ H s)(ho:s'.os=s.os)(u:Un (dY X.stack) ch H H' s.heap s'.heap)(aI:cK X.prog X.w H' s'.heap)(hg:AllBare s'.gens)
  (mn:∀b∈ch,(b∈X.ex\/X.cw.heap.objs.size<=b)/\b≠X.env.locals/\(∀x c,X.env.cells.lookup x=some c->c≠b)/\∀p∈X.pn++pins,p.1≠b):Inv X pins σ H' s':=by
 obtain⟨h',g',d',t',o'⟩:=s'
 have e:o'=s.os:=ho
 subst e
 exact I.call (g':=g') (t':=t') (d':=d') u aI hg mn
end
noncomputable abbrev XK:=Value->Option Addr->Hp->Prop
noncomputable abbrev St:=List (Option V)
noncomputable abbrev VK:=V->Hp->Prop
noncomputable abbrev TE:=St->Hp->VK->Prop
noncomputable abbrev TT:=St->Hp->(Bool->Hp->Prop)->Prop
noncomputable abbrev TA:=St->Hp->(List V->Hp->Prop)->Prop
structure Ends where
 nx:St->Hp->Prop
 rt:VK
 bk:St->Hp->Prop:=λ_ _=>False
 ct:St->Hp->Prop:=λ_ _=>False
noncomputable abbrev TS:=Ends->St->Hp->Prop
inductive EP(X:Cx)(pins:List (Addr × Obj))(σ:St)(Q:VK)(u:Value)(s':Shared):Prop
 | mk (v H') (I:Inv X pins σ H' s') (r:RelV v u) (q:Q v H')
noncomputable def TP(X:Cx)(pins:List (Addr × Obj))(σ:St)(Q:Bool->Hp->Prop)(b:Bool)(s':Shared):Prop:=∃H',Inv X pins σ H' s'/\Q b H'
inductive AP(X:Cx)(pins:List (Addr × Obj))(σ:St)(Q:List V->Hp->Prop)(us:List Value)(s':Shared):Prop
 | mk (vs H') (I:Inv X pins σ H' s') (r:Vals vs us) (q:Q vs H')
noncomputable def SP(X:Cx)(pins:List (Addr × Obj))(D:Ends)(f:Flow)(s':Shared):Prop :=
 match f with
 | .next=>∃aF H',Inv X pins aF H' s'/\D.nx aF H'
 | .brk=>∃aF H',Inv X pins aF H' s'/\D.bk aF H'
 | .cont=>∃aF H',Inv X pins aF H' s'/\D.ct aF H'
 | .ret u=>∃v aF H',Inv X pins aF H' s'/\RelV v u/\D.rt v H'
noncomputable def PE(X:Cx)(e:Expr)(t:TE):Prop :=
 ∀(pins:List (Addr × Obj)) (s:Shared) (σ:St) (H:Hp) (Q:VK),Inv X pins σ H s->t σ H Q->wpAny (model X.prog X.w) X.A (eval e X.env) (EP X pins σ Q) X.xe s
noncomputable def PT(X:Cx)(e:Expr)(t:TT):Prop :=
 ∀(pins:List (Addr × Obj)) (s:Shared) (σ:St) (H:Hp) (Q:Bool->Hp->Prop),Inv X pins σ H s->t σ H Q->wpAny (model X.prog X.w) X.A (isTrue e X.env (eval e X.env)) (TP X pins σ Q) X.xe s
noncomputable def PW(X:Cx)(e:Expr)(t:TT):Prop :=
 ∀(whole:Sem Value) (pins:List (Addr × Obj)) (s:Shared) (σ:St) (H:Hp) (Q:Bool->Hp->Prop),Inv X pins σ H s->t σ H Q->wpAny (model X.prog X.w) X.A (isTrue e X.env whole) (TP X pins σ Q) X.xe s
theorem PW.pt{X:Cx}{e:Expr}{t:TT}(h:PW X e t):PT X e t:=h _
noncomputable def PA(X:Cx)(es:List Expr)(t:TA):Prop :=
 ∀(pos:Pos) (pins:List (Addr × Obj)) (s:Shared) (σ:St) (H:Hp) (Q:List V->Hp->Prop),Inv X pins σ H s->t σ H Q->wpAny (model X.prog X.w) X.A (spliced (backTo pos (starEach es X.env))) (AP X pins σ Q) X.xe s
noncomputable def PS(X:Cx)(st:Stmt)(t:TS):Prop :=
 ∀(pins:List (Addr × Obj)) (s:Shared) (σ:St) (H:Hp) (D:Ends),Inv X pins σ H s->t D σ H->wpAny (model X.prog X.w) X.A (exec st X.env) (SP X pins D) X.xe s
noncomputable def PSs(X:Cx)(st:List Stmt)(t:TS):Prop :=
 ∀(pins:List (Addr × Obj)) (s:Shared) (σ:St) (H:Hp) (D:Ends),Inv X pins σ H s->t D σ H->wpAny (model X.prog X.w) X.A (execs st X.env) (SP X pins D) X.xe s
theorem aS{α:Type}{t:Sem α}{Q Q':α->Shared->Prop}{M:Model}{A:Around}{E:Value->Shared->Prop}{s:Shared}(h:wpAny M A t Q E s)(hQ:∀a s,Q a s->Q' a s):wpAny M A t Q' E s:=wpAny_mono h hQ λ_ _ x=>x
end L2
namespace L2
open PySem PySem.Spec PyProof.Rows
section
variable{X:Cx}
noncomputable def J2(i:Nat):TE:=λσ H Q=>∃v,σ[i]?=some (some v)/\Q v H
noncomputable def tC(v:V):TE:=λ_ H Q=>Q v H
theorem vV{i:Nat}{x:Str}{pos:Pos}(hN:X.N[i]?=some x)(hv:nF X.env.scope x)(hd:(x==("__debug__":Str))=false:=by decide)(cR:(x==("__classdict__":Str))=false:=by decide):PE X (.Name x pos) (J2 i):=by
 intro pins s σ H Q I h
 obtain⟨v,e,h⟩:=h
 obtain⟨m,hn,hl⟩:=I.loc
 obtain⟨u,r,l⟩:=hl i x v hN e hv
 have fin:EP X pins σ Q u s:=⟨v,H,I,r,h⟩
 rcases l with⟨hk,hm⟩ | ⟨hk,c,hc,Ba⟩
 ·exact wpAny_Name (wpAny_loadName_local I.ok.kind hk hn hm fin) hd
 ·rcases hk with hk | hk
  ·exact wpAny_Name (wpAny_loadName_cell I.ok.kind hk hc Ba fin) hd
  ·exact wpAny_Name (wpAny_loadName_free I.ok.kind hk hc Ba fin cR) hd
theorem qq{i j pos}:PE X (.Constant (.int i) j pos) (tC (.int i)):=λ_ _ _ H _ I h=>wpAny_Constant_int ⟨.int i,H,I.tok _,⟨_,rfl⟩,h⟩
theorem Wh{b j pos}:PE X (.Constant (.bool b) j pos) (tC (.bl b)):=λ_ _ _ H _ I h=>Constant_bool ⟨.bl b,H,I,rfl,h⟩
theorem Wi{j pos}:PE X (.Constant .none j pos) (tC .au):=λ_ _ _ H _ I h=>Constant_none ⟨.au,H,I,rfl,h⟩
theorem Wj{x j pos}:PE X (.Constant (.str x) j pos) (tC (.str x)):=λ_ _ _ H _ I h=>Calls.Constant_str ⟨.str x,H,I.tok _,⟨_,rfl⟩,h⟩
noncomputable def Gl(X:Cx)(x:Str):Prop:=X.env.kindOf x=some .globalImplicit
theorem tJ{E:Value->Shared->Prop}{pins:List (Addr × Obj)}{s:Shared}{σ:St}{H:Hp}{x:Str}{u:Value}{pos:Pos}{Q:Value->Shared->Prop}(I:Inv X pins σ H s)(hg:Gl X x)(hm:X.mg x=some u)(h:Q u s)
  (hd:(x==("__debug__":Str))=false:=by decide):wpAny (model X.prog X.w) X.A (eval (.Name x pos) X.env) Q E s :=
 Vw I.ok.kind hg (Calls.loadGlobal_global (by rw[I.ok.glob];exact I.mod.glob.keeps I.bk) hm h) hd
theorem tK{E:Value->Shared->Prop}{pins:List (Addr × Obj)}{s:Shared}{σ:St}{H:Hp}{x:Str}{u:Value}{pos:Pos}{Q:Value->Shared->Prop}(I:Inv X pins σ H s)(hg:Gl X x)(hm:X.mg x=none)(hv:bootBuiltins x=some u)(h:Q u s)
  (hn:x≠"__name__":=by decide) (hd:(x==("__debug__":Str))=false:=by decide):wpAny (model X.prog X.w) X.A (eval (.Name x pos) X.env) Q E s:=by
 obtain⟨mb,h1,h2⟩:=I.mod.blt
 exact Vw I.ok.kind hg (Calls.loadGlobal_builtin (by rw[I.ok.glob];exact I.mod.glob.keeps I.bk) hm (by rw[I.ok.blt];exact h1.keeps I.bk) ((h2 x hn).trans hv) h) hd
theorem Wk{x:Str}{v:V}{u:Value}{pos:Pos}(hg:Gl X x)(hm:X.mg x=some u)(r:RelV v u)(hd:(x==("__debug__":Str))=false:=by decide):PE X (.Name x pos) (tC v) :=
 λ_ _ _ H _ I h=>tJ I hg hm ⟨v,H,I,r,h⟩ hd
theorem Wl{x:Str}{v:V}{u:Value}{pos:Pos}(hg:Gl X x)(hm:X.mg x=none)(hv:bootBuiltins x=some u)(r:RelV v u)(hn:x≠"__name__":=by decide)(hd:(x==("__debug__":Str))=false:=by decide):PE X (.Name x pos) (tC v) :=
 λ_ _ _ H _ I h=>tK I hg hm hv ⟨v,H,I,r,h⟩ hn hd
variable{a b:Expr}{ta tb:TE}{pos:Pos}
noncomputable def tB(t:TE):TT:=λσ H Q=>t σ H λx H1=>∃c,x=.bl c/\Q c H1
theorem Bb{e:Expr}{t:TE}(h:PE X e t)(he:∀whole,isTrue e X.env whole=(do let v<-whole;standAt e.pos;holding [v] (truthy v)):=by intro _;rfl):PT X e (tB t):=by
 intro pins s σ H Q I hw
 refine isTrue_plain (aS (h pins s σ H _ I hw) λv s1 ⟨x,H1,I1,r1,q1⟩=>?_) (he _)
 obtain⟨d,rfl,q⟩:=q1
 cases r1
 exact wpAny_truthy_bool ⟨H1,I1,q⟩
variable{tA Bc:TT}{rest:List Expr}
noncomputable def Wm(t u:TT):TT:=λσ H Q=>t σ H λc H1=>if c=true then u σ H1 Q else Q false H1
noncomputable def Wn(t u:TT):TT:=λσ H Q=>t σ H λc H1=>if c=true then Q true H1 else u σ H1 Q
noncomputable def Wo(t:TT):TT:=λσ H Q=>t σ H λc H1=>Q (!c) H1
theorem Ek(ha:PT X a tA):PW X (.BoolOp .And [a] pos) tA:=by
 intro wh pins s σ H Q I h
 refine isTrue_and (aS (ha pins s σ H Q I h) λc s1 e=>?_)
 cases c with
 | true=>exact isTrue_and_nil e
 | false=>exact e
theorem xY(ha:PT X a tA):PW X (.BoolOp .Or [a] pos) tA:=by
 intro wh pins s σ H Q I h
 refine isTrue_or (aS (ha pins s σ H Q I h) λc s1 e=>?_)
 cases c with
 | false=>exact isTrue_or_nil e
 | true=>exact e
theorem Wq(ha:PT X a tA)(hb:PW X (.BoolOp .And (b::rest) pos) Bc):PW X (.BoolOp .And (a::b::rest) pos) (Wm tA Bc):=by
 intro wh pins s σ H Q I h
 refine isTrue_and (aS (ha pins s σ H _ I h) λc s1 ⟨H1,I1,q1⟩=>?_)
 cases c with
 | true=>exact hb wh pins s1 σ H1 Q I1 q1
 | false=>exact⟨H1,I1,q1⟩
theorem J3(ha:PT X a tA)(hb:PW X (.BoolOp .Or (b::rest) pos) Bc):PW X (.BoolOp .Or (a::b::rest) pos) (Wn tA Bc):=by
 intro wh pins s σ H Q I h
 refine isTrue_or (aS (ha pins s σ H _ I h) λc s1 ⟨H1,I1,q1⟩=>?_)
 cases c with
 | true=>exact⟨H1,I1,q1⟩
 | false=>exact hb wh pins s1 σ H1 Q I1 q1
theorem Bd(ha:PT X a tA):PT X (.UnaryOp .Not a pos) (Wo tA):=by
 intro pins s σ H Q I h
 exact isTrue_not (ha pins s σ H (λc H1=>Q (!c) H1) I h)
noncomputable def Wr(ta tb:TE):TE:=λσ H Q=>ta σ H λx H1=>∃c,x=.bl c/\if c=true then tb σ H1 Q else Q (.bl false) H1
noncomputable def Ws(ta:TE):TE:=λσ H Q=>ta σ H λx H1=>∃c,x=.bl c/\Q (.bl (!c)) H1
theorem vW{op}{t:TE}(h:PE X a t):PE X (.BoolOp op [a] pos) t:=λpins s σ H Q I hw=>BoolOp_one (h pins s σ H Q I hw)
theorem Wt(ha:PE X a ta)(hb:PE X (.BoolOp .And (b::rest) pos) tb):PE X (.BoolOp .And (a::b::rest) pos) (Wr ta tb):=by
 intro pins s σ H Q I h
 refine BoolOp_and (aS (ha pins s σ H _ I h) λv s1 ⟨x,H1,I1,r1,q1⟩=>?_)
 obtain⟨c,rfl,q1⟩:=q1
 cases r1
 refine wpAny_truthy_bool ?_
 cases c with
 | true=>exact hb pins s1 σ H1 Q I1 q1
 | false=>exact⟨.bl false,H1,I1,rfl,q1⟩
theorem Wu(ha:PE X a ta):PE X (.UnaryOp .Not a pos) (Ws ta):=by
 intro pins s σ H Q I h
 refine UnaryOp_ (aS (ha pins s σ H _ I h) λv s1 ⟨x,H1,I1,r1,q1⟩=>?_)
 obtain⟨c,rfl,q1⟩:=q1
 cases r1
 exact not_of (wpAny_truthy_bool ⟨.bl (!c),H1,I1,rfl,q1⟩)
noncomputable def Wv(t:TT)(ta tb:TE):TE:=λσ H Q=>t σ H λc H1=>if c=true then ta σ H1 Q else tb σ H1 Q
theorem Ww{c:Expr}(hc:PT X c tA)(ha:PE X a ta)(hb:PE X b tb):PE X (.IfExp c a b pos) (Wv tA ta tb):=by
 intro pins s σ H Q I h
 refine wpAny_IfExp (aS (hc pins s σ H _ I h) λd s1 ⟨H1,I1,q1⟩=>?_)
 cases d with
 | true=>exact ha pins s1 σ H1 Q I1 q1
 | false=>exact hb pins s1 σ H1 Q I1 q1
end
end L2
namespace L2
open PySem PySem.Spec PyProof.Rows
noncomputable def bG(K:PySem.W.Frag)(H:Hp)(a:Addr)(xs:List V):Prop :=
 Rd H a (.lst xs) \/
  ∃(o:Obj) (its:Array Value) (n:Nat),K.lookup a=some o/\o.cls=.type "list"/\o.dict=none/\o.data=.seq its n/\its.size<=sizeLine/\Vals xs its.toList
noncomputable def iz(K:PySem.W.Frag)(H:Hp)(a:Addr)(xs:List V):Prop :=
 Rd H a (.tup xs) \/
  ∃(o:Obj) (its:Array Value) (n:Nat),K.lookup a=some o/\o.cls=.type "tuple"/\o.data=.seq its n/\its.size<=sizeLine/\Vals xs its.toList
noncomputable def Wx:Value->Option V
 | .none=>some .au
 | .bool b=>some (.bl b)
 | .int i _=>some (.int i)
 | .str x _=>some (.str x)
 | .bytes b _=>some (.AX b)
 | .float b _=>some (.tF b)
 | .ref a=>some (.ref a)
 | .type n=>some (.ty n)
 | _=>none
theorem RelV.abs{x:V}{u:Value}(r:RelV x u):Wx u=some x:=by
 cases x with
 | au=>cases r;rfl
 | bl _=>cases r;rfl
 | int _=>obtain⟨t,rfl⟩:=r;rfl
 | str _=>obtain⟨t,rfl⟩:=r;rfl
 | AX _=>obtain⟨t,rfl⟩:=r;rfl
 | tF _=>obtain⟨t,rfl⟩:=r;rfl
 | ref _=>cases r;rfl
 | ty _=>cases r;rfl
theorem RelV.inj{x y:V}{u:Value}(r:RelV x u)(q:RelV y u):x=y:=c9 (r.abs.symm.trans q.abs)
theorem Vals.inj:∀{xs ys:List V} {us:List Value},Vals xs us->Vals ys us->xs=ys
 | _,_,_,.nil,.nil=>rfl
 | _,_,_,.cons r t,.cons r' t'=>by rw[r.inj r',Vals.inj t t']
section
variable{X:Cx}{pins:List (Addr × Obj)}{σ:St}{H:Hp}{s:Shared}{a:Addr}{xs ys:List V}
theorem bG.of{K:PySem.W.Frag}(h:H a=some (.lst xs)):bG K H a xs:=.inl (.inl h)
theorem iz.of{K:PySem.W.Frag}(h:H a=some (.tup xs)):iz K H a xs:=.inl (.inl h)
theorem Inv.list(I:Inv X pins σ H s)(h:bG X.K H a xs):∃its:List Value,Vals xs its/\PlainL s.heap a its.toArray/\xs.length<=sizeLine:=by
 rcases h with h | ⟨o,its,n,hk,hc,hd,hs,hz,r⟩
 ·obtain⟨z,its,n,r,e⟩:=h.ok I.aI
  exact⟨its,r,⟨_,n,e,rfl,rfl,rfl⟩,z⟩
 ·refine⟨its.toList,r,⟨o,n,I.cQ a o hk,hc,hd,by simpa using hs⟩,?_⟩
  have e:=r.length
  simp only[xD]at e
  omega
theorem Inv.tuple(I:Inv X pins σ H s)(h:iz X.K H a xs):∃its:List Value,Vals xs its/\IsTup s.heap a its.toArray/\xs.length<=sizeLine:=by
 rcases h with h | ⟨o,its,n,hk,hc,hs,hz,r⟩
 ·obtain⟨z,its,r,p⟩:=h.ok I.aI
  exact⟨its,r,p,z⟩
 ·refine⟨its.toList,r,⟨o,I.cQ a o hk,hc,n,by simpa using hs⟩,?_⟩
  have e:=r.length
  simp only[xD]at e
  omega
theorem Inv.Be(I:Inv X pins σ H s)(h:bG X.K H a xs)(h':bG X.K H a ys):xs=ys:=by
 obtain⟨its,r,⟨o,n,e,_,_,d⟩,_⟩:=I.list h
 obtain⟨its',r',⟨o',n',e',_,_,d'⟩,_⟩:=I.list h'
 rw[e]at e';cases e'
 rw[d]at d'
 injection d' with d1 _
 have:its=its':=by simpa using congrArg Array.toList d1
 subst this
 exact r.inj r'
end
noncomputable abbrev Cx.kT(X:Cx)(E:Value->Shared->Prop):Cx:={ X with xe:=E }
noncomputable abbrev Cx.g7(X:Cx):Cx:=X.kT λ_ _=>False
theorem Cx.Ok.kT{X:Cx}(ok:X.Ok)(E:Value->Shared->Prop):(X.kT E).Ok :=
 ⟨ok.mod,ok.kind,ok.glob,ok.blt,ok.above,ok.inj,ok.has,ok.nG,ok.hd,ok.frames,ok.tH,ok.tI,ok.bs,ok.ji,ok.qm,ok.qo,ok.gq,ok.jj⟩
theorem Cx.Ok.nH{X:Cx}{E:Value->Shared->Prop}(ok:(X.kT E).Ok):X.Ok :=
 ⟨ok.mod,ok.kind,ok.glob,ok.blt,ok.above,ok.inj,ok.has,ok.nG,ok.hd,ok.frames,ok.tH,ok.tI,ok.bs,ok.ji,ok.qm,ok.qo,ok.gq,ok.jj⟩
section
variable{X:Cx}{pins:List (Addr × Obj)}{σ:St}{H:Hp}{s:Shared}{E:Value->Shared->Prop}
theorem Inv.kT(I:Inv X pins σ H s)(E:Value->Shared->Prop):Inv (X.kT E) pins σ H s:=⟨I.ok.kT E,I.os,I.bare,I.base,I.loc,I.cell,I.free,I.f9,I.pin,I.aI,I.len⟩
theorem Inv.nH(I:Inv (X.kT E) pins σ H s):Inv X pins σ H s:=⟨I.ok.nH,I.os,I.bare,I.base,I.loc,I.cell,I.free,I.f9,I.pin,I.aI,I.len⟩
theorem SP.nH{D:Ends}{f:Flow}{s':Shared}(h:SP (X.kT E) pins D f s'):SP X pins D f s':=by
 cases f with
 | next=>obtain⟨aF,H',I,q⟩:=h;exact⟨aF,H',I.nH,q⟩
 | brk=>obtain⟨aF,H',I,q⟩:=h;exact⟨aF,H',I.nH,q⟩
 | cont=>obtain⟨aF,H',I,q⟩:=h;exact⟨aF,H',I.nH,q⟩
 | ret u=>obtain⟨v,aF,H',I,r,q⟩:=h;exact⟨v,aF,H',I.nH,r,q⟩
theorem PE.g7{e:Expr}{t:TE}(h:PE X.g7 e t):PE X e t:=λpins s σ H Q I hw =>
 wpAny_mono (h pins s σ H Q (I.kT _) hw) (λ_ _ ⟨v,H',I',r,q⟩=>⟨v,H',I'.nH,r,q⟩) λ_ _ z=>fH z
theorem PSs.g7{st:List Stmt}{t:TS}(h:PSs X.g7 st t):PSs X st t:=λpins s σ H D I hw =>
 wpAny_mono (h pins s σ H D (I.kT _) hw) (λ_ _ q=>q.nH) λ_ _ z=>fH z
end
section
variable{X:Cx}{st:Stmt}{rest:List Stmt}{t u:TS}{e:Expr}{te:TE}{pos:Pos}
noncomputable def Wy:TS:=λD σ H=>D.nx σ H
noncomputable def Wz(t u:TS):TS:=λD σ H=>t { D with nx:=u D } σ H
theorem qt:PSs X [] Wy:=λ_ _ σ H _ I h=>wpAny_execs_nil ⟨σ,H,I,h⟩
theorem eV(h1:PS X st t)(h2:PSs X rest u):PSs X (st::rest) (Wz t u):=by
 intro pins s σ H D I h
 refine wpAny_execs_cons (aS (h1 pins s σ H { D with nx:=u D } I h) λf s1 q=>?_)
 cases f with
 | next =>
  obtain⟨aF,H',I',q⟩:=q
  exact h2 pins s1 aF H' D I' q
 | ret v=>exact q
 | brk=>exact q
 | cont=>exact q
theorem jl(h1:PS X st t):PSs X [st] t:=by
 intro pins s σ H D I h
 refine wpAny_execs_cons (aS (h1 pins s σ H D I h) λf s1 q=>?_)
 cases f with
 | next=>exact wpAny_execs_nil q
 | ret v=>exact q
 | brk=>exact q
 | cont=>exact q
theorem Inv.quiet{pins:List (Addr × Obj)}{σ:St}{H:Hp}{s:Shared}(I:Inv X pins σ H s):interactive X.env=false:=by simp[interactive,I.ok.kind]
noncomputable def WA(te:TE):TS:=λD σ H=>te σ H λ_ H1=>D.nx σ H1
theorem tL(he:PE X e te)(hs:swapsWith e none pos.line X.env=pure false:=by rfl):PS X (.Expr e pos) (WA te):=by
 intro pins s σ H D I h
 exact wpAny_Expr_any (aS (he pins s σ H _ I h) λv s1 ⟨x,H1,I1,r1,q1⟩=>⟨σ,H1,I1,q1⟩) I.quiet hs
noncomputable def WB(te:TE):TS:=λD σ H=>te σ H D.rt
theorem WC(he:PE X e te):PS X (.Return (some e) pos) (WB te):=by
 intro pins s σ H D I h
 exact wpAny_Return_some (aS (he pins s σ H _ I h) λv s1 ⟨x,H1,I1,r1,q1⟩=>⟨x,σ,H1,I1,r1,q1⟩)
noncomputable def WD(c:TT)(t u:TS):TS:=λD σ H=>c σ H λb H1=>if b=true then t D σ H1 else u D σ H1
theorem tM{c:Expr}{a b:List Stmt}{tc:TT}(hc:PT X c tc)(ha:PSs X a t)(hb:PSs X b u):PS X (.If c a b pos) (WD tc t u):=by
 intro pins s σ H D I h
 refine wpAny_If (aS (hc pins s σ H _ I h) λd s1 ⟨H1,I1,q1⟩=>?_)
 cases d with
 | true=>exact ha pins s1 σ H1 D I1 q1
 | false=>exact hb pins s1 σ H1 D I1 q1
noncomputable def J4:TS:=λ_ _ _=>False
theorem tN:PS X st J4:=λ_ _ _ _ _ _ h=>h.elim
theorem WE{qu:List Stmt}:PSs X qu J4:=λ_ _ _ _ _ _ h=>h.elim
end
noncomputable abbrev TG:=V->St->Hp->(St->Hp->Prop)->Prop
noncomputable abbrev tO:=List V->St->Hp->(St->Hp->Prop)->Prop
noncomputable def PG(X:Cx)(target:Expr)(t:TG):Prop :=
 ∀(pins:List (Addr × Obj)) (s:Shared) (σ:St) (H:Hp) (v:V) (u:Value) (Q:St->Hp->Prop),Inv X pins σ H s->RelV v u->t v σ H Q ->
  wpAny (model X.prog X.w) X.A (assign target X.env u) (λ_ s'=>∃aF H',Inv X pins aF H' s'/\Q aF H') X.xe s
noncomputable def Bf(X:Cx)(ts:List Expr)(t:tO):Prop :=
 ∀(pins:List (Addr × Obj)) (s:Shared) (σ:St) (H:Hp) (vs:List V) (us:List Value) (Q:St->Hp->Prop),Inv X pins σ H s->Vals vs us->t vs σ H Q ->
  wpAny (model X.prog X.w) X.A (assignInOrder ((assignEach ts X.env).map (·.2)) us) (λ_ s'=>∃aF H',Inv X pins aF H' s'/\Q aF H') X.xe s
noncomputable abbrev El:=V->V->V->Hp->(Hp->Prop)->Prop
noncomputable def J5(X:Cx)(t:El):Prop :=
 ∀(pins:List (Addr × Obj)) (s:Shared) (σ:St) (H:Hp) (o i v:V) (ov iv u:Value) (Q:Hp->Prop),Inv X pins σ H s->RelV o ov->RelV i iv->RelV v u->t o i v H Q ->
  wpAny (model X.prog X.w) X.A (setItem ov iv u) (λ_ s'=>∃H',Inv X pins σ H' s'/\Q H') X.xe s
noncomputable abbrev Em:=V->V->Hp->VK->Prop
noncomputable def WG(X:Cx)(op:Operator)(t:Em):Prop :=
 ∀(pins:List (Addr × Obj)) (s:Shared) (σ:St) (H:Hp) (x y:V) (v u:Value) (Q:VK),Inv X pins σ H s->RelV x v->RelV y u->t x y H Q ->
  wpAny (model X.prog X.w) X.A (inplaceOp op v u) (EP X pins σ Q) X.xe s
section
variable{X:Cx}{pos:Pos}
noncomputable def Bg(i:Nat):TG:=λv σ H Q=>Q (σ.set i (some v)) H
theorem Bh{i:Nat}{x:Str}(hN:X.N.Nodup)(hi:X.N[i]?=some x)(hx:Loc X.env.scope x)(hf:X.fn x=true\/X.env.scope.names.lookup x=some .local:=by first | exact .inl rfl | exact .inr rfl | assumption):PG X (.Name x pos) (Bg i):=by
 intro pins s σ H v u Q I r h
 exact wpAny_assign_Name (A8 I hN hi hx r (λs' I'=>⟨_,H,I',h⟩) hf)
noncomputable def WH:tO:=λvs σ H Q=>vs=[]/\Q σ H
noncomputable def WI(t:TG)(u:tO):tO:=λvs σ H Q=>∃v r,vs=v::r/\t v σ H λaF H'=>u r aF H' Q
theorem WJ:Bf X [] WH:=by
 intro pins s σ H vs us Q I r h
 obtain⟨e,h⟩:=h
 subst e
 cases r
 exact assignInOrder_nil ⟨σ,H,I,h⟩
theorem J6{e:Expr}{es:List Expr}{t:TG}{u:tO}(h1:PG X e t)(h2:Bf X es u)
  (hs:(assignEach (e::es) X.env).map (·.2)=assign e X.env::(assignEach es X.env).map (·.2):=by rfl):Bf X (e::es) (WI t u):=by
 intro pins s σ H vs us Q I r h
 obtain⟨v,vr,e1,h⟩:=h
 subst e1
 cases r with
 | cons r rr =>
  rw[hs]
  refine assignInOrder_cons (aS (h1 pins s σ H _ _ _ I r h) λ_ s1 ⟨g8,H1,I1,q1⟩=>?_)
  exact h2 pins s1 g8 H1 _ _ Q I1 rr q1
noncomputable def WK(K:PySem.W.Frag)(n:Nat)(t:tO):TG:=λv σ H Q=>∃a xs,v=.ref a/\iz K H a xs/\xs.length=n/\t xs σ H Q
theorem WL{es:List Expr}{k:Nat}{t:tO}{n:Nat}(hc:X.calm=true)(h:Bf X es t)
  (hn:(assignEach es X.env).length=n:=by rfl) (cy:(assignEach es X.env).findIdx? (·.1)=none:=by rfl):PG X (.Tuple es k pos) (WK X.K n t):=by
 intro pins s σ H v u Q I r hw
 obtain⟨a,xs,e1,hq,hl,hw⟩:=hw
 subst e1
 cases r
 obtain⟨its,rv,ht,hz⟩:=I.tuple hq
 refine assign_Tuple_tuple (I.ok.hd hc) ht (by simp[hn,<- hl,rv.length]) cy λh' hx=>?_
 have I1:Inv X pins σ H { s with heap:=h' }:=I.kept (t':=s.toks) λb o e=>hx b o (dN (bD e)) e
 exact h pins _ σ H xs _ Q I1 (by simpa using rv) hw
noncomputable def WM(to ti:TE)(t:El):TG:=λv σ H Q=>to σ H λo H1=>ti σ H1 λi H2=>t o i v H2 λH3=>Q σ H3
theorem WN{o i:Expr}{to ti:TE}{t:El}(ho:PE X o to)(hi:PE X i ti)(hs:J5 X t)
  (ha:∀v,assign (.Subscript o i pos) X.env v=(do
   let ov<-holding [v] (eval o X.env)
   let iv<-holding [v,ov] (eval i X.env)
   standAt pos
   holding [v,ov,iv] (setItem ov iv v)
   release [v,ov,iv] []):=by intro _;rfl):PG X (.Subscript o i pos) (WM to ti t):=by
 intro pins s σ H v u Q I r h
 rw[ha]
 refine wpAny_bind (wpAny_holding (aS (ho pins s σ H _ I h) λov s1 ⟨x,H1,I1,r1,q1⟩=>?_))
 refine wpAny_bind (wpAny_holding (aS (hi pins s1 σ H1 _ I1 q1) λiv s2 ⟨y,H2,I2,r2,q2⟩=>?_))
 refine wpAny_bind (wpAny_standAt (wpAny_bind (wpAny_holding (aS (hs pins s2 σ H2 x y v ov iv u _ I2 r1 r2 r q2) λ_ s3 ⟨H3,I3,q3⟩=>?_))))
 exact wpAny_release ⟨σ,H3,I3,q3⟩
noncomputable def Eo(te:TE)(g:TG):TS:=λD σ H=>te σ H λx H1=>g x σ H1 D.nx
theorem WO{tg e:Expr}{te:TE}{g:TG}(he:PE X e te)(hg:PG X tg g)(hs:swapsWithSole [tg] e pos.line X.env=pure false:=by rfl)(hw:swappedStores [tg] e X.env=pure none:=by rfl)
  (h1:(assignEach [tg] X.env).map (·.2)=[assign tg X.env]:=by rfl):PS X (.Assign [tg] e pos) (Eo te g):=by
 intro pins s σ H D I h
 refine wpAny_Assign_stores (aS (he pins s σ H _ I h) λv s1 ⟨x,H1,I1,r1,q1⟩=>?_) hs hw
 rw[h1]
 exact aS (hg pins s1 σ H1 x v _ I1 r1 q1) λ_ s2 q=>q
theorem Ep{i:Nat}{x:Str}{e:Expr}{te:TE}{pos':Pos}(hN:X.N.Nodup)(hi:X.N[i]?=some x)(hx:Loc X.env.scope x)(he:PE X e te)(hs:swapsWith e (some (.Name x pos')) pos.line X.env=pure false:=by rfl)(hf:X.fn x=true\/X.env.scope.names.lookup x=some .local:=by first | exact .inl rfl | exact .inr rfl | assumption) :
  PS X (.Assign [.Name x pos'] e pos) (Eo te (Bg i)):=by
 intro pins s σ H D I h
 refine wpAny_Assign_Name (aS (he pins s σ H _ I h) λv s1 ⟨y,H1,I1,r1,q1⟩=>?_) hs
 exact A8 I1 hN hi hx r1 (λs2 I2=>⟨_,H1,I2,q1⟩) hf
noncomputable def WQ(i:Nat)(te:TE)(ti:Em):TS:=λD σ H=>∃x,σ[i]?=some (some x)/\te σ H λy H1=>ti x y H1 λz H2=>D.nx (σ.set i (some z)) H2
theorem WR{i:Nat}{x:Str}{e:Expr}{te:TE}{op:Operator}{ti:Em}{pos':Pos}(hN:X.N.Nodup)(hi:X.N[i]?=some x)(hx:Loc X.env.scope x)(he:PE X e te)(ho:WG X op ti)(hf:X.fn x=true\/X.env.scope.names.lookup x=some .local:=by first | exact .inl rfl | exact .inr rfl | assumption) :
  PS X (.AugAssign (.Name x pos') op e pos) (WQ i te ti):=by
 intro pins s σ H D I h
 obtain⟨v,e1,h⟩:=h
 obtain⟨m,hn,hl⟩:=I.loc
 have WS:nF X.env.scope x:=by rcases hx with k | k;exact .inl k;exact .inr (.inl k)
 obtain⟨u,r,l⟩:=hl i x v hi e1 WS
 refine wpAny_AugAssign_Name ?_
 have go:wpAny (model X.prog X.w) X.A (eval e X.env) (λw jL=>wpAny (model X.prog X.w) X.A (inplaceOp op u w) (λr WT=>wpAny (model X.prog X.w) X.A (storeName X.env x r) (λ_=>SP X pins D .next) X.xe WT) X.xe jL) X.xe s:=by
  refine aS (he pins s σ H _ I h) λw s1 ⟨y,H1,I1,r1,q1⟩=>?_
  refine aS (ho pins s1 σ H1 v y u w _ I1 r r1 q1) λz s2 ⟨zv,H2,I2,r2,q2⟩=>?_
  exact A8 I2 hN hi hx r2 (λs3 I3=>⟨_,H2,I3,q2⟩) hf
 rcases l with⟨hk,hm⟩ | ⟨hk,c,hc,Ba⟩
 ·exact wpAny_loadName_local I.ok.kind hk hn hm go
 ·rcases hk with hk | hk
  ·exact wpAny_loadName_cell I.ok.kind hk hc Ba go
  ·rcases hx with k | k
   ·have:X.env.scope.names.lookup x=some .free:=hk
    rw[k]at this;cases this
   ·have:X.env.scope.names.lookup x=some .free:=hk
    rw[k]at this;cases this
end
section
variable{X:Cx}{pos:Pos}
noncomputable def WU(c:TT)(tb:TS):TS:=λD σ H=>∃W:Nat->St->Hp->Prop,(∃m,W m σ H)/\∀m σ H,W m σ H ->
 c σ H λb H1=>if b=true then ∃N:St->Hp->Prop,(∀aF H',N aF H'->∃m',m'<m/\W m' aF H')/\tb { D with nx:=N,ct:=N,bk:=D.nx } σ H1 else D.nx σ H1
theorem WV{c:Expr}{body:List Stmt}{tc:TT}{tb:TS}(hp:PassesOwn (model X.prog X.w) X.A X.env X.xe)(hc:PT X c tc)(hb:PSs X body tb):PS X (.While c body [] pos) (WU tc tb):=by
 intro pins s σ H D I h
 obtain⟨W,⟨m0,w0⟩,turn⟩:=h
 refine wpAny_While (codeAny_whileLoop (λn s'=>∃aF H',Inv X pins aF H' s'/\W n aF H') ?_ m0 ⟨σ,H,I,w0⟩)
 rintro n s1 ⟨g8,H1,I1,w1⟩
 refine wpAny_passesOwn hp (aS (hc pins s1 g8 H1 _ I1 (turn n g8 H1 w1)) λb s2 ⟨H2,I2,q2⟩=>?_)
 cases b with
 | true =>
  obtain⟨N,hN,q2⟩:=q2
  rw[if_pos rfl]
  refine wpAny_passesOwn hp (aS (hb pins s2 g8 H2 _ I2 q2) λf s3 q3=>?_)
  cases f with
  | next =>
   obtain⟨kU,H3,I3,n3⟩:=q3
   obtain⟨m',hm,w3⟩:=hN kU H3 n3
   exact⟨m',hm,kU,H3,I3,w3⟩
  | cont =>
   obtain⟨kU,H3,I3,n3⟩:=q3
   obtain⟨m',hm,w3⟩:=hN kU H3 n3
   exact⟨m',hm,kU,H3,I3,w3⟩
  | brk=>exact q3
  | ret v=>exact q3
 | false =>
  rw[if_neg jf]
  exact wpAny_execs_nil ⟨g8,H2,I2,q2⟩
end
structure It where
 go:Nat->Hp->Prop
 ky:Nat->Hp->V->Hp->Prop
 stop:Nat->Hp->Prop
noncomputable def jm(X:Cx)(pins:List (Addr × Obj))(H:Hp)(b:Addr):Prop :=
 H b=none/\b≠X.env.locals/\b ∉ X.fs/\(b∈X.ex\/X.cw.heap.objs.size<=b)/\(∀x c,X.env.cells.lookup x=some c->c≠b)/\∀p∈X.pn++pins,p.1≠b
theorem Inv.Bi{X:Cx}{pins:List (Addr × Obj)}{σ:St}{H H':Hp}{s:Shared}{b:Addr}(I:Inv X pins σ H s)(hb:s.heap.objs.size<=b)(hn:H' b=none):jm X pins H' b:=by
 refine⟨hn,Jk (cB I.lt hb),I.JV hb,.inr (fG I.sz hb),λx c e z=>?_,λp hp z=>?_⟩
 ·obtain⟨v,q⟩:=I.cell x c e
  exact absurd (cB q.lt (by rw[z];exact hb)) (gi _)
 ·exact absurd (cB (bD (I.pin p hp).1) (by rw[z];exact hb)) (gi _)
structure Turn(P:Program)(w:World)(K:PySem.W.Frag)(tg:Expr)(J:It)(fp:List Addr)(it:Addr)(tn:Nat->Heap->Prop):Prop where
 mem:it∈fp
 obj:∀i h,tn i h->∀b∈fp,∃o,h.get? b=some o/\∀v,o.data≠.cell v
 keep:∀i h h',tn i h->(∀b∈fp,∀o,h.get? b=some o->h'.get? b=some o)->tn i h'
 item:∀(X:Cx),X.prog=P->X.w=w->X.K=K->X.calm=true->∀(i:Nat) (pins:List (Addr × Obj)) (s:Shared) (σ:St) (H:Hp) (E:Value->Shared->Prop),Inv X pins σ H s->(∀b∈fp,jm X pins H b)->tn i s.heap->J.go i H ->
  wpAny (model P w) X.A (pyNext (.ref it)) (λr s1=>∃u,r=some u /\
   wpAny (model P w) X.A (letOwnedTupleGo tg (.ref it) u) (λ_ s2=>∃x H',Inv X pins σ H' s2/\RelV x u/\J.ky i H x H'/\tn (i+1) s2.heap/\∀b∈fp,H' b=none) E s1) E s
 done:∀(X:Cx),X.prog=P->X.w=w->X.K=K->X.calm=true->∀(i:Nat) (pins:List (Addr × Obj)) (s:Shared) (σ:St) (H:Hp) (E:Value->Shared->Prop),Inv X pins σ H s->(∀b∈fp,jm X pins H b)->tn i s.heap->J.stop i H ->
  wpAny (model P w) X.A (pyNext (.ref it)) (λr s1=>r=none/\Inv X pins σ H s1) E s
 self:∀(A:Around) (i:Nat) (s:Shared) (Q:Value->Shared->Prop) (E:Value->Shared->Prop),tn i s.heap->Q (.ref it) s->wpAny (model P w) A (pyIter (.ref it)) Q E s
noncomputable abbrev TI:=St->Hp->(It->Hp->Prop)->Prop
noncomputable def J7(X:Cx)(pins:List (Addr × Obj))(σ:St)(tg:Expr)(R:It->Hp->Prop)(Er:Value)(s2:Shared):Prop :=
 ∃(it:Addr) (fp:List Addr) (tn:Nat->Heap->Prop) (J:It) (H':Hp),Er=.ref it/\Inv X pins σ H' s2/\Turn X.prog X.w X.K tg J fp it tn/\tn 0 s2.heap/\(∀b∈fp,jm X pins H' b)/\R J H'
noncomputable def PI(X:Cx)(tg iter:Expr)(wi:TI):Prop :=
 ∀(pins:List (Addr × Obj)) (s:Shared) (σ:St) (H:Hp) (R:It->Hp->Prop),Inv X pins σ H s->wi σ H R ->
  wpAny (model X.prog X.w) X.A (eval iter X.env) (λv s1=>wpAny (model X.prog X.w) X.A (pyIter v) (J7 X pins σ tg R) X.xe s1) X.xe s
theorem J8{M:Model}{A:Around}{E:Value->Shared->Prop}{s:Shared}{tg:Expr}{it:Addr}{u:Value}{o:Obj}{n:String}{vs:Array Value}{Q:Unit->Shared->Prop}(ho:s.heap.get? it=some o)(hc:o.cls=.type n)(hd:o.data=.fields vs)
  (hn:["enumerate","zip","dict_itemiterator","dict_reverseitemiterator","odict_iterator","itertools.zip_longest","itertools.pairwise"].contains n=false) (hQ:Q () s):wpAny M A (letOwnedTupleGo tg (.ref it) u) Q E s:=by
 unfold letOwnedTupleGo
 cases tg<;>first
  | exact wpAny_pure hQ
  | (cases u<;>first
    | exact wpAny_pure hQ
    | (refine wpAny_bind (wpAny_load ho ?_)
       rw[hc,hd]
       show wpAny M A (if(["enumerate","zip","dict_itemiterator","dict_reverseitemiterator","odict_iterator","itertools.zip_longest","itertools.pairwise"].contains n&&vs[0]?==some (rawInt _))=true then _ else _) Q E s
       rw[if_neg (by intro h;rw[hn,pW]at h;cases h)]
       exact wpAny_pure hQ))
noncomputable def Es(K:PySem.W.Frag)(a:Addr):It :=
 ⟨λi H=>∃xs x,bG K H a xs/\xs[i]?=some x,λi H x H'=>H'=H/\∀xs,bG K H a xs->xs[i]?=some x,λi H=>∃xs,bG K H a xs/\xs.length<=i⟩
noncomputable def xZ(lo:Int)(n:Nat):It:=⟨λi _=>i<n,λi H x H'=>H'=H/\x=.int (lo+i),λi _=>n<=i⟩
theorem WW{P:Program}{w:World}{K:PySem.W.Frag}{tg:Expr}(a it:Addr):Turn P w K tg (Es K a) [it] it (λi h=>h.IsListIter it a i) where
 mem:=by simp
 obj:=λi h st b hb=>by
  have e:b=it:=by simpa using hb
  subst e
  obtain⟨o,e,c,d⟩:=st
  exact⟨o,e,λv z=>by rw[d]at z;cases z⟩
 keep:=λi h h' st k=>st.at λo e=>k it (by simp) o e
 item:=by
  intro X hP hw hK hc i pins s σ H E I hf st hg
  subst hP hw hK
  obtain⟨xs,x,hq,hx⟩:=hg
  obtain⟨its,rv,p,hz⟩:=I.list hq
  obtain⟨u,hu,ru⟩:=rv.get hx
  obtain⟨f0,f1,f2,f3,f4,f5⟩:=hf it (by simp)
  refine wpAny_pyNext_list_item st p.isList (x:=u) (by simpa using hu) λh' qv sb=>?_
  have I1:Inv X pins σ H { s with heap:=h' }:=I.turned (t':=s.toks) (λb o hb e=>(sb.2 b hb).trans e) f0 f1 f3 f4 f5
  obtain⟨o,e,c,d⟩:=id qv
  exact⟨u,rfl,J8 (s:={ s with heap:=h' }) e c d (by decide) ⟨x,H,I1,ru,⟨rfl,λys hy=>by rw[I.Be hy hq];exact hx⟩,qv,λb hb=>(hf b hb).1⟩⟩
 done:=by
  intro X hP hw hK hc i pins s σ H E I hf st hg
  subst hP hw hK
  obtain⟨xs,hq,hx⟩:=hg
  obtain⟨its,rv,p,hz⟩:=I.list hq
  obtain⟨f0,f1,f2,f3,f4,f5⟩:=hf it (by simp)
  have hl:=rv.length
  exact wpAny_pyNext_list_end (I.ok.hd hc) st p.isList (by simp;omega) λh' eb=>⟨rfl,I.turned (t':=s.toks) (λb o hb e=>eb b o hb e) f0 f1 f3 f4 f5⟩
 self:=λ_ _ _ _ _ st h=>wpAny_pyIter_listiter st h
theorem WX{P:Program}{w:World}{K:PySem.W.Frag}{tg:Expr}(it:Addr)(lo:Int)(n:Nat):Turn P w K tg (xZ lo n) [it] it (λi h=>IsRangeIter h it (lo+(i:Nat)*1) ((n:Int)-(i:Nat)) 1) where
 mem:=by simp
 obj:=λi h st b hb=>by
  have e:b=it:=by simpa using hb
  subst e
  exact⟨_,st,λv z=>by
   have z':Data.fields _=Data.cell v:=z
   cases z'⟩
 keep:=λi h h' st k=>k it (by simp) _ st
 item:=by
  intro X hP hw hK hc i pins s σ H E I hf st hg
  subst hP hw hK
  obtain⟨f0,f1,f2,f3,f4,f5⟩:=hf it (by simp)
  have W:=Walks.range (prog:=X.prog) (w:=X.w) (I.ok.hd hc) it lo 1 n
  refine W.item i s _ _ hg st λv h' tk hv qv kk=>?_
  obtain⟨t,rfl⟩:=hv
  have I1:Inv X pins σ H { s with heap:=h',toks:=tk }:=I.turned (λb o hb e=>kk b o (by simpa using hb) e) f0 f1 f3 f4 f5
  refine⟨_,rfl,J8 (s:={ s with heap:=h',toks:=tk }) (n:="range_iterator") qv rfl rfl (by decide) ⟨.int (lo+i),H,I1,⟨t,?_⟩,⟨rfl,rfl⟩,qv,λb hb=>(hf b hb).1⟩⟩
  rw[Int.mul_one]
 done:=by
  intro X hP hw hK hc i pins s σ H E I hf st hg
  subst hP hw hK
  obtain⟨f0,f1,f2,f3,f4,f5⟩:=hf it (by simp)
  exact wpAny_pyNext_range_end (I.ok.hd hc) st (by have:n<=i:=hg;omega) λh' eb=>⟨rfl,I.turned (t':=s.toks) (λb o hb e=>eb b o hb e) f0 f1 f3 f4 f5⟩
 self:=λ_ _ _ _ _ st h=>wpAny_pyIter_rangeiter st h
end L2
namespace L2
open PySem PySem.Spec PyProof.Rows
section
variable{X:Cx}{tg:Expr}
noncomputable def WY(K:PySem.W.Frag)(tl:TE):TI:=λσ H R=>tl σ H λx H1=>∃a,x=.ref a/\(∃xs,bG K H1 a xs)/\R (Es K a) H1
theorem J9{l:Expr}{tl:TE}(hl:PE X l tl):PI X tg l (WY X.K tl):=by
 intro pins s σ H R I h
 refine aS (hl pins s σ H _ I h) λv s1 ⟨x,H1,I1,r1,q1⟩=>?_
 obtain⟨a,e,⟨xs,hq⟩,q⟩:=q1
 subst e
 cases r1
 obtain⟨its,rv,p,hz⟩:=I1.list hq
 refine wpAny_pyIter_list p.isList ?_
 refine⟨s1.heap.objs.size,[s1.heap.objs.size],_,_,H1,rfl,I1.kept (t':=s1.toks) λb o e=>fO _ e,WW a _,⟨_,gG _ rfl,rfl,rfl⟩,λb hb=>?_,q⟩
 have e:b=s1.heap.objs.size:=by simpa using hb
 subst e
 exact I1.Bi (bE _) (I1.aI.fresh (bE _))
theorem Ka{pins:List (Addr × Obj)}{σ:St}{H:Hp}{s:Shared}{R:It->Hp->Prop}{E:Value->Shared->Prop}{lo hi:Int}{t u v:Tok}{tk:Nat}(I:Inv X pins σ H s)(h1:-(2 ^ 62)<=lo)(h2:lo<2 ^ 62)(h3:-(2 ^ 62)<=hi)(h4:hi<2 ^ 62)
  (q:R (xZ lo (hi-lo).toNat) H):wpAny (model X.prog X.w) X.A (pyIter (.ref s.heap.objs.size)) (J7 X pins σ tg R) E { s with heap:=s.heap.push { cls:=.type "range",data:=.fields #[.int lo t,.int hi u,.int 1 v] },toks:=tk }:=by
 refine wpAny_pyIter_range (IsRange.new ..) (small_one h1 h2 h3 h4) ?_
 have I1:Inv X pins σ H { s with heap:=s.heap.push { cls:=.type "range",data:=.fields #[.int lo t,.int hi u,.int 1 v] },toks:=tk }:=I.kept λb o e=>fO _ e
 refine⟨(s.heap.push { cls:=.type "range",data:=.fields #[.int lo t,.int hi u,.int 1 v] }).objs.size,[(s.heap.push { cls:=.type "range",data:=.fields #[.int lo t,.int hi u,.int 1 v] }).objs.size],_,_,H,rfl,
  I1.kept (t':=tk) λb o e=>fO _ e,WX _ lo (hi-lo).toNat,?_,λb hb=>?_,q⟩
 ·have e1:lo+((0:Nat):Int)*1=lo:=by simp
  have e2:(((hi-lo).toNat:Nat):Int)-((0:Nat):Int)=Builtin.Range.rangeSize lo hi 1:=by rw[rangeSize_one];split<;>omega
  show IsRangeIter _ _ (lo+((0:Nat):Int)*1) ((((hi-lo).toNat:Nat):Int)-((0:Nat):Int)) 1
  rw[e1,e2]
  exact gG _ rfl
 ·have e:b=(s.heap.push { cls:=.type "range",data:=.fields #[.int lo t,.int hi u,.int 1 v] }).objs.size:=by simpa using hb
  subst e
  exact I1.Bi (bE _) (I1.aI.fresh (bE _))
noncomputable def WZ(ta:TA):TI:=λσ H R=>ta σ H λvs H1=>∃j:Int,vs=[.int j]/\-(2 ^ 62)<=j/\j<2 ^ 62/\R (xZ 0 j.toNat) H1
noncomputable def W0(ta:TA):TI:=λσ H R=>ta σ H λvs H1=>∃i j:Int,vs=[.int i,.int j]/\(-(2 ^ 62)<=i/\i<2 ^ 62/\-(2 ^ 62)<=j/\j<2 ^ 62)/\R (xZ i (j-i).toNat) H1
theorem W2{a:Expr}{ta:TA}{p pos:Pos}(hg:Gl X "range")(hm:X.mg "range"=none)(ha:PA X [a] ta)(hs:starEach [a] X.env=[(false,eval a X.env)]:=by rfl):PI X tg (.Call (.Name "range" p) [a] [] pos) (WZ ta):=by
 intro pins s σ H R I h
 refine Call_ (tK I hg hm boot_range (Aw (aS (ha pos pins s σ H _ I h) λus s1 ⟨vs,H1,I1,r1,q1⟩=>?_) hs rfl))
 obtain⟨j,e,q1,q2,q⟩:=q1
 subst e
 cases r1 with
 | cons r rr =>
  cases rr
  obtain⟨t,rfl⟩:=r
  exact call_range_1 (Ka I1 (by omega) (by omega) q1 q2 (by simpa using q))
theorem W3{a b:Expr}{ta:TA}{p pos:Pos}(hg:Gl X "range")(hm:X.mg "range"=none)(ha:PA X [a,b] ta)(hs:starEach [a,b] X.env=[(false,eval a X.env),(false,eval b X.env)]:=by rfl)(dA:starEach [b] X.env=[(false,eval b X.env)]:=by rfl) :
  PI X tg (.Call (.Name "range" p) [a,b] [] pos) (W0 ta):=by
 intro pins s σ H R I h
 refine Call_ (tK I hg hm boot_range (Aw (aS (ha pos pins s σ H _ I h) λus s1 ⟨vs,H1,I1,r1,q1⟩=>?_) (by rw[hs,dA]) (by rw[dA];rfl)))
 obtain⟨i,j,e,⟨q1,q2,q3,q4⟩,q⟩:=q1
 subst e
 cases r1 with
 | cons r rr =>
  cases rr with
  | cons r' rr =>
   cases rr
   obtain⟨t,rfl⟩:=r
   obtain⟨t',rfl⟩:=r'
   exact call_range_2 (Ka I1 q1 q2 q3 q4 q)
noncomputable def W4(wi:TI)(g:TG)(tb:TS):TS:=λD σ H=>wi σ H λJ H1=>∃W:Nat->Nat->St->Hp->Prop,(∃m,W 0 m σ H1)/\∀i m σ H,W i m σ H ->
 (J.stop i H/\D.nx σ H)\/(J.go i H/\∃N:St->Hp->Prop,(∀aF H',N aF H'->∃m',m'<m/\W (i+1) m' aF H')/\∀x H',J.ky i H x H'->g x σ H' λjM H2=>tb { D with nx:=N,ct:=N,bk:=D.nx } jM H2)
noncomputable def x6(fp:List Addr)(h:Heap):List (Addr × Obj):=fp.filterMap λb=>(h.get? b).map λo=>(b,o)
theorem Bj{fp:List Addr}{h:Heap}{b:Addr}{o:Obj}(hb:b∈fp)(e:h.get? b=some o):(b,o)∈x6 fp h:=Vx.mpr ⟨b,hb,by rw[e];rfl⟩
theorem W5{fp:List Addr}{h:Heap}{p:Addr × Obj}(hp:p∈x6 fp h):p.1∈fp/\h.get? p.1=some p.2:=by
 obtain⟨b,hb,e⟩:=Vx.mp hp
 cases q:h.get? b with
 | none=>rw[q]at e;cases e
 | some o =>
  rw[q]at e
  have e':(b,o)=p:=c9 e
  subst e'
  exact⟨hb,q⟩
theorem Inv.pinned{pins:List (Addr × Obj)}{σ:St}{H:Hp}{s:Shared}{fp:List Addr}(I:Inv X pins σ H s)(hf:∀b∈fp,jm X pins H b)(ho:∀b∈fp,∃o,s.heap.get? b=some o/\∀v,o.data≠.cell v):Inv X (pins++x6 fp s.heap) σ H s :=
 I.JW λp hp=>(bY.mp hp).elim (λz=>I.pin p (dj _ z)) λz=>by
  obtain⟨hb,e⟩:=W5 z
  obtain⟨f0,f1,f2,_⟩:=hf p.1 hb
  obtain⟨o,e',d⟩:=ho p.1 hb
  rw[e]at e';cases e'
  exact⟨e,f0,f1,f2,d⟩
theorem Inv.x8{pins pl:List (Addr × Obj)}{σ:St}{H:Hp}{s:Shared}(I:Inv X (pins++pl) σ H s):Inv X pins σ H s:=I.JW λp hp=>I.pin p (dj _ (eN _ hp))
theorem W6{iter:Expr}{body:List Stmt}{wi:TI}{g:TG}{tb:TS}{pos:Pos}(hp:PassesOwn (model X.prog X.w) X.A X.env X.xe)(hc:X.calm=true)(hi:PI X tg iter wi)(hg:PG X tg g)(hb:PSs X body tb)
  (hs:∀x,foldedSetIterable iter X.env x=pure x:=by intro _;rfl):PS X (.For tg iter body [] pos) (W4 wi g tb):=by
 intro pins s σ H D I h
 refine wpAny_For (aS (hi pins s σ H _ I h) λv s1 h1=>aS h1 λEr s2 h2=>?_) hs
 obtain⟨it,fp,tn,J,H2,e,I2,T,x9,f2,W,⟨m0,w0⟩,turn⟩:=h2
 subst e
 have Et:∀{H':Hp},(∀b∈fp,H' b=none)->∀b∈fp,jm X pins H' b:=λhn b hb=>⟨hn b hb,(f2 b hb).2⟩
 refine codeAny_forLoop_any (λn s'=>∃i aF H',Inv X pins aF H' s'/\tn i s'.heap/\(∀b∈fp,H' b=none)/\W i n aF H') ?_ m0 ⟨0,σ,H2,I2,x9,λb hb=>(f2 b hb).1,w0⟩
 rintro n s3 ⟨i,kU,H3,I3,Kb,Eu,w3⟩
 rcases turn i n kU H3 w3 with⟨stop,qn⟩ | ⟨go,N,hN,step⟩
 ·refine wpAny_passesOwn hp (aS (T.done X rfl rfl rfl hc i pins s3 kU H3 X.xe I3 (Et Eu) Kb stop) λr s4 ⟨hr,I4⟩=>?_)
  subst hr
  exact wpAny_execs_nil ⟨kU,H3,I4,qn⟩
 ·refine wpAny_passesOwn hp (aS (T.item X rfl rfl rfl hc i pins s3 kU H3 X.xe I3 (Et Eu) Kb go) λr s4 ⟨u,hr,h4⟩=>?_)
  subst hr
  refine wpAny_passesOwn hp (aS h4 λ_ s5 ⟨x,H5,I5,r5,y5,tP,ya⟩=>?_)
  have Ew:=I5.pinned (Et ya) (T.obj _ _ tP)
  refine wpAny_passesOwn hp (aS (hg _ s5 kU H5 x u _ Ew r5 (step x H5 y5)) λ_ s6 ⟨Bk,H6,I6,q6⟩=>?_)
  refine wpAny_passesOwn hp (aS (hb _ s6 Bk H6 _ I6 q6) λf s7 q7=>?_)
  have again:∀{kW:St} {H7:Hp},Inv X (pins++x6 fp s5.heap) kW H7 s7->N kW H7->∃m,m<n/\∃i aF H',Inv X pins aF H' s7/\tn i s7.heap/\(∀b∈fp,H' b=none)/\W i m aF H':=λ{kW H7} I7 n7=>by
   obtain⟨m',hm,w7⟩:=hN kW H7 n7
   refine⟨m',hm,i+1,kW,H7,I7.x8,T.keep _ _ _ tP λb hb o e=>(I7.pin (b,o) (dj _ (dj _ (Bj hb e)))).1,λb hb=>?_,w7⟩
   obtain⟨o,e,d⟩:=T.obj _ _ tP b hb
   exact(I7.pin (b,o) (dj _ (dj _ (Bj hb e)))).2.1
  cases f with
  | next=>obtain⟨kW,H7,I7,n7⟩:=q7;exact again I7 n7
  | cont=>obtain⟨kW,H7,I7,n7⟩:=q7;exact again I7 n7
  | brk=>obtain⟨kW,H7,I7,q7⟩:=q7;exact⟨kW,H7,I7.x8,q7⟩
  | ret v=>obtain⟨x7,kW,H7,I7,r7,q7⟩:=q7;exact⟨x7,kW,H7,I7.x8,r7,q7⟩
end
end L2
namespace L2
open PySem PySem.Spec PyProof.Rows
noncomputable abbrev R2:=V->V->Hp->VK->Prop
noncomputable def cC(X:Cx)(f:Value->Value->Sem Value)(r:R2):Prop :=
 ∀(pins:List (Addr × Obj)) (s:Shared) (σ:St) (H:Hp) (x y:V) (v u:Value) (Q:VK),Inv X pins σ H s->RelV x v->RelV y u->r x y H Q ->
  wpAny (model X.prog X.w) X.A (f v u) (EP X pins σ Q) X.xe s
noncomputable def gu(X:Cx)(f:Value)(r:List V->Hp->VK->Prop):Prop :=
 ∀(pins:List (Addr × Obj)) (s:Shared) (σ:St) (H:Hp) (xs:List V) (us:List Value) (Q:VK),Inv X pins σ H s->Vals xs us->r xs H Q ->
  wpAny (model X.prog X.w) X.A (call f us) (EP X pins σ Q) X.xe s
noncomputable def yb(r:R2)(ta tb:TE):TE:=λσ H Q=>ta σ H λx H1=>tb σ H1 λy H2=>r x y H2 Q
noncomputable def rI(C:Int->Int->Prop)(g:Int->Int->V):R2:=λx y H Q=>∃i j,x=.int i/\y=.int j/\C i j/\Q (g i j) H
noncomputable def jN(g:Int->Int->V):R2:=λx y H Q=>∃i j,x=.int i/\y=.int j/\Q (g i j) H
section
variable{X:Cx}{a b c:Expr}{ta tb tc:TE}{pos:Pos}
theorem Ey(ha:PE X a ta)(hb:PE X b tb){pins:List (Addr × Obj)}{s:Shared}{σ:St}{H:Hp}{R:V->V->Hp->Prop}(I:Inv X pins σ H s)
  (h:ta σ H λx H1=>tb σ H1 λy H2=>R x y H2) {Q:Value->Shared->Prop} {f:Value->Value->Sem Value}
  (hf:∀v u s2 x y H2,Inv X pins σ H2 s2->RelV x v->RelV y u->R x y H2->wpAny (model X.prog X.w) X.A (f v u) Q X.xe s2) :
  wpAny (model X.prog X.w) X.A (eval a X.env) (λv bz=>wpAny (model X.prog X.w) X.A (eval b X.env) (λu jL=>wpAny (model X.prog X.w) X.A (f v u) Q X.xe jL) X.xe bz) X.xe s:=by
 refine aS (ha pins s σ H _ I h) λv s1 ⟨x,H1,I1,r1,q1⟩=>?_
 refine aS (hb pins s1 σ H1 _ I1 q1) λu s2 ⟨y,H2,I2,r2,q2⟩=>?_
 exact hf v u s2 x y H2 I2 r1 r2 q2
theorem yc{op:Operator}{r:R2}(ho:cC X (binaryOp op) r)(ha:PE X a ta)(hb:PE X b tb):PE X (.BinOp a op b pos) (yb r ta tb):=by
 intro pins s σ H Q I h
 exact wpAny_BinOp (Ey ha hb I h λv u s2 x y H2 I2 rx ry q=>ho pins s2 σ H2 x y v u Q I2 rx ry q)
theorem yd{f:Value->Value->Sem Value}{C:Int->Int->Prop}{g:Int->Int->Int}
  (rule:∀(i j:Int) (t u:Tok) (s:Shared) (Q:Value->Shared->Prop) (E:Value->Shared->Prop),C i j->Q (.int (g i j) s.toks) { s with toks:=s.toks+1 }->wpAny (model X.prog X.w) X.A (f (.int i t) (.int j u)) Q E s) :
  cC X f (rI C λi j=>.int (g i j)):=by
 intro pins s σ H x y v u Q I rx ry h
 obtain⟨i,j,rfl,rfl,hc,q⟩:=h
 obtain⟨t,rfl⟩:=rx
 obtain⟨t',rfl⟩:=ry
 exact rule i j t t' s _ _ hc ⟨.int (g i j),H,I.tok _,⟨_,rfl⟩,q⟩
theorem vX{f:Value->Value->Sem Value}{g:Int->Int->Int}
  (rule:∀(i j:Int) (t u:Tok) (s:Shared) (Q:Value->Shared->Prop) (E:Value->Shared->Prop),Q (.int (g i j) s.toks) { s with toks:=s.toks+1 }->wpAny (model X.prog X.w) X.A (f (.int i t) (.int j u)) Q E s) :
  cC X f (jN λi j=>.int (g i j)):=by
 intro pins s σ H x y v u Q I rx ry h
 obtain⟨i,j,rfl,rfl,q⟩:=h
 obtain⟨t,rfl⟩:=rx
 obtain⟨t',rfl⟩:=ry
 exact rule i j t t' s _ _ ⟨.int (g i j),H,I.tok _,⟨_,rfl⟩,q⟩
theorem Bl{f:Value->Value->Sem Value}{g:Int->Int->Bool}
  (rule:∀(i j:Int) (t u:Tok) (s:Shared) (Q:Value->Shared->Prop) (E:Value->Shared->Prop),Q (.bool (g i j)) s->wpAny (model X.prog X.w) X.A (f (.int i t) (.int j u)) Q E s) :
  cC X f (jN λi j=>.bl (g i j)):=by
 intro pins s σ H x y v u Q I rx ry h
 obtain⟨i,j,rfl,rfl,q⟩:=h
 obtain⟨t,rfl⟩:=rx
 obtain⟨t',rfl⟩:=ry
 exact rule i j t t' s _ _ ⟨.bl (g i j),H,I,rfl,q⟩
noncomputable def jn(i j:Int):Prop:=(-(2 ^ 64)<i/\i<2 ^ 64)\/(-(2 ^ 64)<j/\j<2 ^ 64)
theorem jn.ok{i j:Int}(h:jn i j):IntMulOk i j:=by
 rcases h with⟨h1,h2⟩ | ⟨h1,h2⟩
 ·exact .of_left (intBits_le_64 h1 h2)
 ·exact .of_right (intBits_le_64 h1 h2)
theorem W7(k:Nat):(0:Int)<=2 ^ k:=by
 rw[two_pow_cast]
 exact Jl _
theorem W8:cC X (binaryOp .Add) (jN λi j=>.int (i+j)):=vX λ_ _ _ _ _ _ _ q=>add_int q
theorem Ez:cC X (binaryOp .Sub) (jN λi j=>.int (i-j)):=vX λ_ _ _ _ _ _ _ q=>sub_int q
theorem W9:cC X (binaryOp .Mod) (rI (λ_ j=>0<j) λi j=>.int (i%j)):=yd λi j _ _ _ _ _ hc q=>by
 have h1:(0:Int)<j:=hc
 exact mod_int' (by omega) (by rw[Int.fmod_eq_emod_of_nonneg i (by omega)];exact q)
theorem Xa:cC X (binaryOp .RShift) (rI (λ_ j=>0<=j) λi j=>.int (i/2 ^ j.toNat)):=yd λi j _ _ _ _ _ hc q =>
 rshift_int hc (by rw[Vy i (W7 _)];exact q)
theorem Xb:cC X (binaryOp .BitAnd) (jN λi j=>.int (pX i j)):=vX λ_ _ _ _ _ _ _ q=>and_int q
theorem Xc:cC X (binaryOp .BitXor) (jN λi j=>.int (pY i j)):=vX λ_ _ _ _ _ _ _ q=>xor_int q
theorem Xd:cC X (inplaceOp .Add) (jN λi j=>.int (i+j)):=vX λ_ _ _ _ _ _ _ q=>iadd_int q
theorem Xe:cC X (inplaceOp .BitXor) (jN λi j=>.int (pY i j)):=vX λ_ _ _ _ _ _ _ q=>ixor_int q
end
section
variable{X:Cx}{a b c:Expr}{ta tb tc:TE}{pos:Pos}
theorem Ke{pins:List (Addr × Obj)}{σ:St}{H:Hp}{s:Shared}{Q:VK}{k k':Bool}(I:Inv X pins σ H s)(q:Q (.bl k) H)(e:k=k'):EP X pins σ Q (.bool k') s:=by
 subst e
 exact⟨.bl k,H,I,rfl,q⟩
theorem Kf:cC X (compareOp .Lt) (jN λi j=>.bl (decide (i<j))):=Bl λ_ _ _ _ _ _ _ q=>lt_int q
theorem Xf:cC X (compareOp .LtE) (jN λi j=>.bl (decide (i<=j))):=Bl λ_ _ _ _ _ _ _ q=>le_int q
theorem Kg:cC X (compareOp .Gt) (jN λi j=>.bl (decide (j<i))):=Bl λ_ _ _ _ _ _ _ q=>gt_int q
theorem Xg:cC X (compareOp .GtE) (jN λi j=>.bl (decide (j<=i))):=Bl λ_ _ _ _ _ _ _ q=>ge_int q
theorem Xh:cC X (compareOp .Is) (λx y H Q=>y=.au/\Q (.bl (decide (x=.au))) H):=by
 intro pins s σ H x y v u Q I rx ry h
 obtain⟨rfl,q⟩:=h
 cases ry
 refine is_none_gen (Ke I q ?_)
 cases x<;>first
  | (cases rx;rfl)
  | (obtain⟨t,rfl⟩:=rx;rfl)
theorem Xi:cC X (compareOp .IsNot) (λx y H Q=>y=.au/\Q (.bl (!decide (x=.au))) H):=by
 intro pins s σ H x y v u Q I rx ry h
 obtain⟨rfl,q⟩:=h
 cases ry
 refine isnot_none_gen (Ke I q ?_)
 cases x<;>first
  | (cases rx;rfl)
  | (obtain⟨t,rfl⟩:=rx;rfl)
theorem cC.or{f:Value->Value->Sem Value}{r r':R2}(h:cC X f r)(h':cC X f r'):cC X f (λx y H Q=>r x y H Q\/r' x y H Q):=by
 intro pins s σ H x y v u Q I rx ry q
 rcases q with q | q
 ·exact h pins s σ H x y v u Q I rx ry q
 ·exact h' pins s σ H x y v u Q I rx ry q
theorem bA(b:Expr){op:CmpOp}(h:op≠.In:=by decide)(h2:op≠.NotIn:=by decide):behindInMarks op b=false:=by
 have e1:(op==CmpOp.In)=false:=by cases op<;>first | rfl | exact absurd rfl h
 have e2:(op==CmpOp.NotIn)=false:=by cases op<;>first | rfl | exact absurd rfl h2
 cases b<;>simp[behindInMarks,e1,e2]
theorem Xj{op:CmpOp}{r:R2}(ho:cC X (compareOp op) r)(ha:PE X a ta)(hb:PE X b tb)(hm:behindInMarks op b=false):PE X (.Compare a [op] [b] pos) (yb r ta tb):=by
 intro pins s σ H Q I h
 exact wpAny_Compare1 (Ey ha hb I h λv u s2 x y H2 I2 rx ry q=>ho pins s2 σ H2 x y v u Q I2 rx ry q) hm
noncomputable def Kh(t:TE):TT:=λσ H Q=>t σ H λx H'=>∃k,x=.bl k/\Q k H'
theorem EA{op:CmpOp}{r:R2}(ho:cC X (compareOp op) r)(ha:PE X a ta)(hb:PE X b tb)(hm:behindInMarks op b=false):PT X (.Compare a [op] [b] pos) (Kh (yb r ta tb)):=by
 intro pins s σ H Q I h
 refine wpAny_isTrue_Compare1 (aS (ha pins s σ H _ I h) λv s1 ⟨x,H1,I1,r1,q1⟩=>aS (hb pins s1 σ H1 _ I1 q1) λu s2 ⟨y,H2,I2,r2,q2⟩ =>
  aS (ho pins s2 σ H2 x y v u _ I2 r1 r2 q2) λc s3 ⟨z,H3,I3,r3,k,e,q3⟩=>?_) hm
 subst e
 cases r3
 exact wpAny_truthy_bool ⟨H3,I3,q3⟩
noncomputable def Ki(r r':R2)(ta tb tc:TE):TE:=λσ H Q=>ta σ H λx H1=>tb σ H1 λy H2=>r x y H2 λz H3=>∃k,z=.bl k /\
 (if k=true then tc σ H3 λw' H4=>r' y w' H4 Q else Q (.bl false) H3)
theorem Xk{op tQ:CmpOp}{r r':R2}(ho:cC X (compareOp op) r)(kS:cC X (compareOp tQ) r')(ha:PE X a ta)(hb:PE X b tb)(hc:PE X c tc)
  (hm:lastMarks [op,tQ] [b,c]=false:=by with_unfolding_all rfl):PE X (.Compare a [op,tQ] [b,c] pos) (Ki r r' ta tb tc):=by
 intro pins s σ H Q I h
 refine Compare_chain (aS (ha pins s σ H _ I h) λv s1 ⟨x,H1,I1,r1,q1⟩=>chain_link (aS (hb pins s1 σ H1 _ I1 q1) λu s2 ⟨y,H2,I2,r2,q2⟩ =>
  aS (ho pins s2 σ H2 x y v u _ I2 r1 r2 q2) λd s3 ⟨z,H3,I3,r3,k,e,q3⟩=>?_)) hm
 subst e
 cases r3
 refine wpAny_truthy_bool ?_
 cases k with
 | false=>exact ite_ff ⟨.bl false,H3,I3,rfl,q3⟩
 | true=>exact ite_tt (chain_last (aS (hc pins s3 σ H3 _ I3 q3) λw' s4 ⟨z',H4,I4,r4,q4⟩=>kS pins s4 σ H4 y z' u w' Q I4 r2 r4 q4))
theorem vY:(sizeLine:Nat)<2 ^ 63:=by rw[sizeLine_eq];decide
theorem Xl:cC X (binaryOp .Add) (λx y H Q=>∃i j,x=.str i/\y=.str j/\i.length+j.length<=sizeLine/\Q (.str (i++j)) H):=by
 intro pins s σ H x y v u Q I rx ry h
 obtain⟨i,j,rfl,rfl,hz,q⟩:=h
 obtain⟨t,rfl⟩:=rx
 obtain⟨t',rfl⟩:=ry
 exact add_str (λt' tk=>⟨.str (i++j),H,I.tok _,⟨_,rfl⟩,q⟩) hz
theorem EB{x:V}{us:List Value}(r:Vals [x] us):∃u,us=[u]/\RelV x u:=by
 cases r with
 | cons r1 r2=>cases r2;exact⟨_,rfl,r1⟩
theorem Xm{x y:V}{us:List Value}(r:Vals [x,y] us):∃u w',us=[u,w']/\RelV x u/\RelV y w':=by
 cases r with
 | cons r1 r2 =>
  cases r2 with
  | cons r3 r4=>cases r4;exact⟨_,_,rfl,r1,r3⟩
theorem Xn(hc:X.calm=true):gu X (.builtin "min") (λxs H Q=>∃i j,xs=[.int i,.int j]/\Q (.int (if j<i then j else i)) H):=by
 intro pins s σ H xs us Q I r h
 obtain⟨i,j,rfl,q⟩:=h
 obtain⟨u,w',rfl,⟨t,rfl⟩,⟨t',rfl⟩⟩:=Xm r
 refine min_two_ints (I.ok.hd hc) λh' tk k=>⟨_,H,I.kept k,?_,q⟩
 by_cases hj:j<i
 ·rw[if_pos hj,if_pos hj];exact⟨_,rfl⟩
 ·rw[if_neg hj,if_neg hj];exact⟨_,rfl⟩
end
end L2
namespace L2
open PySem PySem.Spec PyProof.Rows
structure tR(h:Heap)(x dx C:Addr)(mA:Str->Option Value):Prop where
 obj:h.get? x=some (PySem.W.instObj C dx)
 ns:h.Ns1 dx mA
 ne:dx≠x
theorem Xo{h:Heap}{dx:Addr}{mA:Str->Option Value}(n:h.Ns1 dx mA):∃od,h.get? dx=some od/\∀name,PySem.W.lookIn name od=some (mA name):=by
 obtain⟨o,es,ep,ho,hd,hk,_,hm⟩:=n
 refine⟨o,ho,λname=>?_⟩
 have e:=hm name
 unfold nsFind findBy at e
 rw[<-Array.find?_toList]at e
 unfold PySem.W.lookIn
 rw[hd]
 dsimp only
 split
 ·rename_i y q
  rw[q]at e
  exact congrArg some e
 ·rename_i q
  rw[q]at e
  have a:es.toList.any (·.refKey)=false:=by
   rw[List.any_eq_false]
   intro y hy
   obtain⟨z,t,Xp⟩:=hk y (Array.mem_toList_iff.mp hy)
   simp[DictEntry.refKey,Xp]
  have a':¬ es.toList.any (·.refKey)=true:=by rw[a];exact jf
  rw[if_neg a']
  exact congrArg some e
theorem tR.look{h:Heap}{x dx C:Addr}{mA:Str->Option Value}(I:tR h x dx C mA):∃od,PySem.W.InstAt h x (PySem.W.instObj C dx) C (some od)/\∀name,PySem.W.lookIn name od=some (mA name) :=
 let⟨od,ho,hl⟩:=Xo I.ns
 ⟨od,⟨I.obj,rfl,rfl,ho⟩,hl⟩
section
variable{prog:Program}{w:World}{A:Around}{E:Value->Shared->Prop}{s:Shared}{K:PySem.W.Frag}{x dx C f:Addr}{mA:Str->Option Value}{name:Str}{v:Value}
theorem Xq{expr:Bool}{Q:Value->Shared->Prop}(X:K.In s.heap)(I:tR s.heap x dx C mA)(hg:PySem.W.plainGet K C name=true)(hh:PySem.W.hasDictIn K C=true)
  (ha:PySem.W.findIn K (.ref C) name=some none) (hv:mA name=some v) (Xr:PySem.W.handedIn v=true) (h:Q v { s with toks:=s.toks+1 }) :
  wpAny (model prog w) A (getAttr (.ref x) name expr) Q E s:=by
 obtain⟨od,J,hl⟩:=I.look
 exact PySem.W.get_value X J (PySem.W.plainGet_of hg).1 (PySem.W.findObj_own hh ha rfl (by rw[hl,hv])) Xr h
theorem Xs{pl:Sem Bool}{Q:Value × List Value->Shared->Prop}(X:K.In s.heap)(I:tR s.heap x dx C mA)(hg:PySem.W.plainGet K C name=true)
  (hf:PySem.W.findIn K (.ref C) name=some (some (.ref f))) (ht:PySem.W.isFn K (.ref f)=true) (hv:mA name=none) (h:Q (.ref f,[.ref x]) s) :
  wpAny (model prog w) A (getMethod (.ref x) name pl) Q E s:=by
 obtain⟨od,J,hl⟩:=I.look
 exact PySem.W.method_fn X J (PySem.W.plainGet_of hg).1 (PySem.W.plainGet_of hg).2 hf (beq_iff_eq.mp ht) (by show(PySem.W.lookIn name od).map (·.isSome)=some false;rw[hl,hv];rfl) h
theorem Xt{ns:List Str}{Q:Unit->Shared->Prop}(X:K.In s.heap)(I:tR s.heap x dx C mA)
  (hs:PySem.W.findIn K (.ref C) "__setattr__"=some (some (.builtin "object.__setattr__"))) (hp:PySem.W.plainOver K C=true) (ht:PySem.W.takerIn K C name=some none) (hh:PySem.W.hasDictIn K C=true)
  (hw:PySem.Within mA ns) (mq:ns.length<=sizeLine)
  (h:∀h',tR h' x dx C (λy=>if y=name then some v else mA y)->Heap.SameBut dx s.heap h'->Q () { s with heap:=h',toks:=s.toks+2 }) :
  wpAny (model prog w) A (setAttr (.ref x) name v) Q E s:=by
 obtain⟨od,J,hl⟩:=I.look
 refine PySem.W.set_plain X J hs (PySem.W.osa_open (s:={ s with toks:=s.toks+1 }) (r:=none) X J hp ht λb=>?_)
 obtain⟨cd,hc,xS⟩:=PySem.W.any_some hh
 have hx:s.heap.get? x=some ⟨.ref C,some dx,.plain,#[]⟩:=I.obj
 refine wpAny_bind (wpAny_pure (wpAny_bind (wpAny_bind (wpAny_loadPart hx (wpAny_bind (PySem.W.Looks.here (s:={ s with toks:=s.toks+1 }) (PySem.W.looks_clsIn X hc) ?_))))))
 rw[xS]
 refine wpAny_pure (a:=some dx) (wpAny_bind (wpAny_pure (wpAny_bind ?_)))
 refine wpAny_nsSet1 (s:={ s with toks:=s.toks+1 }) I.ns λh' ye dA=>?_
 obtain⟨oD,esD,epD,Xu,Xv,nI⟩:=ye.count (PySem.Within.cons name v hw)
 refine wpAny_bind (wpAny_lookBehind Xu (by rw[Xv];exact pastItsLine_dict (fG nI (by rw[gH];omega))) ?_)
 exact wpAny_pure (h _ ⟨(dA.2 _ (e7 I.ne)).trans I.obj,ye,I.ne⟩ dA)
theorem Xw{R:Result->Shared->Prop}{vs:List Value}{kw:List (Str × Value)}(X:K.In s.heap)(hm:PySem.W.makesIn K C=true)
  (hi:PySem.W.findIn K (.ref C) "__init__"=some (some (.ref f))) (hf:PySem.W.typeIn K (.ref f)=some (.type "function"))
  (h:codeAny (model prog w) (A.under (.builtin "type.__call__" ⟨.ref C::vs,kw⟩)) (.call (.ref f) ⟨.ref (s.heap.objs.size+1)::vs,kw⟩) (PySem.W.InitBack (s.heap.objs.size+1) R)
   { s with heap:=(s.heap.push PySem.W.emptyDict).push (PySem.W.instObj C s.heap.objs.size) }) :
  codeAny (model prog w) A (.call (.ref C) ⟨vs,kw⟩) R s:=by
 obtain⟨hh,g,d,t,os⟩:=s
 exact PySem.W.make_core (PySem.W.makes_of X hm) (PySem.W.looks_findIn X hi) (λself=>PySem.W.bind_fn X self hf) (.inl rfl) h
end
noncomputable def b9(f:Str)(v:V):List (Str × V)->List (Str × V)
 | []=>[(f,v)]
 | (g,x)::r=>if g=f then(g,v)::r else(g,x)::b9 f v r
theorem Kj(f g:Str)(v:V):∀fs:List (Str × V),(b9 f v fs).lookup g=if g=f then some v else fs.lookup g
 | []=>by
  show l9 g [(f,v)]=_
  by_cases h:g=f
  ·have hb:(g==f)=true:=beq_iff_eq.mpr h
   simp only[l9,hb,if_pos h]
  ·have hb:(g==f)=false:=beq_eq_false_iff_ne.mpr h
   simp only[l9,hb,if_neg h]
 | (k,x)::r=>by
  have ih:=Kj f g v r
  rw[show b9 f v ((k,x)::r)=(if k=f then(k,v)::r else(k,x)::b9 f v r) from rfl]
  by_cases hk:k=f
  ·rw[if_pos hk]
   by_cases h:g=k
   ·have hb:(g==k)=true:=beq_iff_eq.mpr h
    simp only[l9,hb,if_pos (h.trans hk)]
   ·have hb:(g==k)=false:=beq_eq_false_iff_ne.mpr h
    simp only[l9,hb,if_neg (λe:g=f=>h (e.trans hk.symm))]
  ·rw[if_neg hk]
   by_cases h:g=k
   ·have hb:(g==k)=true:=beq_iff_eq.mpr h
    simp only[l9,hb,if_neg (λe:g=f=>hk (h.symm.trans e))]
   ·have hb:(g==k)=false:=beq_eq_false_iff_ne.mpr h
    simp only[l9,hb]
    exact ih
theorem EC(f:Str)(v:V):∀fs:List (Str × V),f∈(b9 f v fs).map (·.1)/\∀g,g∈fs.map (·.1)->g∈(b9 f v fs).map (·.1)
 | []=>⟨by simp[b9],λg h=>by simp at h⟩
 | (k,x)::r=>by
  obtain⟨i1,i2⟩:=EC f v r
  rw[show b9 f v ((k,x)::r)=(if k=f then(k,v)::r else(k,x)::b9 f v r) from rfl]
  by_cases hk:k=f
  ·rw[if_pos hk]
   subst hk
   exact⟨by simp,λg h=>by simpa using h⟩
  ·rw[if_neg hk]
   refine⟨?_,λg h=>?_⟩
   ·rw[da]
    exact ft _ i1
   ·rw[da]at h ⊢
    rcases bR.mp h with e | e
    ·exact bR.mpr (.inl e)
    ·exact ft _ (i2 g e)
theorem Kk(f:Str)(v:V):∀fs:List (Str × V),(b9 f v fs).length<=fs.length+1
 | []=>by simp[b9]
 | (k,x)::r=>by
  have ih:=Kk f v r
  rw[show b9 f v ((k,x)::r)=(if k=f then(k,v)::r else(k,x)::b9 f v r) from rfl]
  by_cases hk:k=f
  ·rw[if_pos hk,gH,gH];omega
  ·rw[if_neg hk,gH,gH];omega
theorem mj.some_of{v:V}{o:Option Value}(r:mj (some v) o):∃u,o=some u/\RelV v u:=by
 cases o with
 | none=>exact(show False from r).elim
 | some u=>exact⟨u,rfl,r⟩
theorem mj.none_of{o:Option Value}(r:mj none o):o=none:=by
 cases o with
 | none=>rfl
 | some u=>exact(show False from r).elim
theorem Xx{v:V}{u:Value}(r:RelV v u):PySem.W.handedIn u=true:=by
 cases v with
 | au=>cases(show u=sR from r);rfl
 | bl b=>cases(show u=DH b from r);rfl
 | int i=>obtain⟨t,e⟩:=(show ∃t,u=pV i t from r);cases e;rfl
 | str x=>obtain⟨t,e⟩:=(show ∃t,u=Value.str x t from r);cases e;rfl
 | AX b=>obtain⟨t,e⟩:=(show ∃t,u=Value.bytes b t from r);cases e;rfl
 | tF b=>obtain⟨t,e⟩:=(show ∃t,u=Value.float b t from r);cases e;rfl
 | ref a=>cases(show u=fq a from r);rfl
 | ty n=>cases(show u=Value.type n from r);rfl
section
variable{P:Program}{w:World}{H H':Hp}{h h':Heap}{a C dx:Addr}{fs Ee:List (Str × V)}
theorem Bo(aI:cK P w H h)(e:H a=some (.ins C dx fs)):∃mA,tR h a dx C mA/\(∀f,mj (fs.lookup f) (mA f))/\PySem.Within mA (fs.map (·.1))/\fs.length<=1000/\H dx=some (.own a):=by
 obtain⟨d,z,ne,ob,mA,n,r,q⟩:=(show eG P w H h a (.ins C dx fs) from aI a _ e)
 exact⟨mA,⟨ob,n,ne⟩,r,q,z,d⟩
end
structure cE(K:PySem.W.Frag)(C:Addr):Prop where
 pg:PySem.W.plainGet K C Str.empty=true
 hd:PySem.W.hasDictIn K C=true
 po:PySem.W.plainOver K C=true
 sa:PySem.W.findIn K (.ref C) "__setattr__"=some (some (.builtin "object.__setattr__"))
theorem cE.get{K:PySem.W.Frag}{C:Addr}(c:cE K C)(f:Str):PySem.W.plainGet K C f=true:=c.pg
noncomputable def bf(K:PySem.W.Frag)(C:Addr)(f:Str):Prop:=PySem.W.findIn K (.ref C) f=some none
theorem bf.Xy{K:PySem.W.Frag}{C:Addr}{f:Str}(n:bf K C f):PySem.W.takerIn K C f=some none:=by
 unfold PySem.W.takerIn
 rw[show PySem.W.findIn K (.ref C) f=some none from n]
 rfl
structure Meth(K:PySem.W.Frag)(C:Addr)(m:Str)(f:Addr):Prop where
 at_:PySem.W.findIn K (.ref C) m=some (some (.ref f))
 fn:PySem.W.isFn K (.ref f)=true
 kp:PySem.W.keepIn K (.ref f)=true
section
variable{X:Cx}{pins:List (Addr × Obj)}{σ:St}{H:Hp}{s:Shared}{a C dx:Addr}{fs:List (Str × V)}{f:Str}{v:V}{A:Around}{E:Value->Shared->Prop}
theorem Xz{b:Bool}{Q:Value->Shared->Prop}(I:Inv X pins σ H s)(e:H a=some (.ins C dx fs))(c:cE X.K C)(n:bf X.K C f)(l:fs.lookup f=some v)
  (h:∀u s',Inv X pins σ H s'->RelV v u->Q u s'):wpAny (model X.prog X.w) A (getAttr (.ref a) f b) Q E s:=by
 obtain⟨mA,O,r,_,_,_⟩:=Bo I.aI e
 obtain⟨u,hu,ru⟩:=mj.some_of (v:=v) (o:=mA f) (by rw[<-l];exact r f)
 exact Xq I.cQ O (c.get f) c.hd n hu (Xx ru) (h u _ (I.tok _) ru)
theorem ED{m:Str}{g:Addr}{pl:Sem Bool}{Q:Value × List Value->Shared->Prop}(I:Inv X pins σ H s)(e:H a=some (.ins C dx fs))(c:cE X.K C)(k:Meth X.K C m g)(l:fs.lookup m=none)
  (h:Q (.ref g,[.ref a]) s):wpAny (model X.prog X.w) A (getMethod (.ref a) m pl) Q E s:=by
 obtain⟨mA,O,r,_,_,_⟩:=Bo I.aI e
 have hn:mA m=none:=mj.none_of (by rw[<-l];exact r m)
 exact Xs I.cQ O (c.get m) k.at_ k.fn hn h
theorem XA{y:V}{u:Value}{Q:Unit->Shared->Prop}(I:Inv X pins σ H s)(e:H a=some (.ins C dx fs))(c:cE X.K C)(n:bf X.K C f)(hl:fs.length<1000)(ry:RelV y u)
  (h:∀s',Inv X pins σ (upd H a (.ins C dx (b9 f y fs))) s'->Q () s'):wpAny (model X.prog X.w) A (setAttr (.ref a) f u) Q E s:=by
 obtain⟨mA,O,r,wi,_,ho⟩:=Bo I.aI e
 have hz:(fs.map (·.1)).length<=sizeLine:=by rw[bq,sizeLine_eq];omega
 refine Xt I.cQ O c.sa c.po n.Xy c.hd wi hz λh' O' sb=>h _ ?_
 have hd:∃o,h'.get? dx=some o:=let⟨o,_,_,e',_⟩:=O'.ns;⟨o,e'⟩
 refine I.write (x:=a) (e:=dx) (by rw[e];exact vy) (.inr ho) (λb q hb z=>(sb.2 b hb).trans z) hd ?_
 refine⟨by rw[aT O.ne];exact ho,?_,O.ne,O'.obj,_,O'.ns,λg=>?_,λg hg=>?_⟩
 ·have:=Kk f y fs;omega
 ·show mj ((b9 f y fs).lookup g) (if g=f then some u else mA g)
  rw[Kj]
  by_cases q:g=f
  ·rw[if_pos q,if_pos q];exact ry
  ·rw[if_neg q,if_neg q];exact r g
 ·by_cases q:g=f
  ·rw[q];exact(EC f y fs).1
  ·refine(EC f y fs).2 g (wi g λz=>hg ?_)
   show(if g=f then some u else mA g)=none
   rw[if_neg q];exact z
theorem Inv.made(I:Inv X pins σ H s):Inv X pins σ (upd (upd H s.heap.objs.size (.own (s.heap.objs.size+1))) (s.heap.objs.size+1) (.ins C s.heap.objs.size []))
  { s with heap:=(s.heap.push PySem.W.emptyDict).push (PySem.W.instObj C s.heap.objs.size) }:=by
 have e1:(s.heap.push PySem.W.emptyDict).get? s.heap.objs.size=some PySem.W.emptyDict:=gG s.heap rfl
 have e2:((s.heap.push PySem.W.emptyDict).push (PySem.W.instObj C s.heap.objs.size)).get? (s.heap.objs.size+1)=some (PySem.W.instObj C s.heap.objs.size):=by
  have:=gG (s.heap.push PySem.W.emptyDict) (o:=PySem.W.instObj C s.heap.objs.size) rfl
  rwa [vz]at this
 have e3:(s.heap.push PySem.W.emptyDict).Ns s.heap.objs.size (λ_=>none):=⟨PySem.W.emptyDict,#[],_,e1,rfl,(λe he=>absurd he (by simp)),λ_=>rfl⟩
 have I1:=I.laid (a:=s.heap.objs.size) (o:=.own (s.heap.objs.size+1)) (h':=s.heap.push PySem.W.emptyDict) (t':=s.toks) (λb u q=>fO _ q) (bE _) ⟨_,e1⟩
 refine I1.laid (a:=s.heap.objs.size+1) (o:=.ins C s.heap.objs.size []) (t':=s.toks) (λb u q=>fO _ q) (Az (vz _ _)) ?_
 have ne:s.heap.objs.size≠s.heap.objs.size+1:=dN (AA _)
 refine⟨by rw[aT ne,bI],jE _,ne,e2,λ_=>none,(Heap.Ns1.of_empty e3).at λo q=>fO _ q,λ_=>vy,λy hy=>absurd rfl hy⟩
theorem XB{prog:Program}{w:World}{env:Env}{e:Expr}{f:Str}{pos:Pos}{s:Shared}{Q:Value->Shared->Prop}(hb:attributeBase e f env (eval e env)=eval e env)
  (h:wpAny (model prog w) A (eval e env) (λo bz=>wpAny (model prog w) A (getAttr o f true) Q E bz) E s):wpAny (model prog w) A (eval (.Attribute e f pos) env) Q E s :=
 Attribute_any_ h (by rw[arm_eval_Attribute,hb])
end
noncomputable def XC(K:PySem.W.Frag)(ta:TE)(f:Str):TE:=λσ H Q=>ta σ H λx H1=>∃a C dx fs v,x=.ref a/\H1 a=some (.ins C dx fs)/\cE K C/\bf K C f/\fs.lookup f=some v/\Q v H1
noncomputable def XD(K:PySem.W.Frag)(ta tv:TE)(f:Str):TS:=λD σ H=>tv σ H λy H1=>ta σ H1 λx H2=>∃a C dx fs,x=.ref a/\H2 a=some (.ins C dx fs)/\cE K C/\bf K C f/\fs.length<1000 /\
 D.nx σ (upd H2 a (.ins C dx (b9 f y fs)))
section
variable{X:Cx}{o e value:Expr}{f:Str}{pos pos' nJ:Pos}{ta tv:TE}
theorem tS(he:PE X e ta)(hb:attributeBase e f X.env (eval e X.env)=eval e X.env):PE X (.Attribute e f pos) (XC X.K ta f):=by
 intro pins s σ H Q I h
 refine XB hb (aS (he pins s σ H _ I h) λu s1 ⟨x,H1,I1,rx,a,C,dx,fs,v,ex,ea,c,n,l,q⟩=>?_)
 subst ex
 obtain rfl:u=fq a:=rx
 exact Xz I1 ea c n l λu' s2 I2 ru=>⟨v,H1,I2,ru,q⟩
theorem g9(ha:PE X o ta)(hv:PE X value tv)(hs:swapsWith value (some (.Attribute o f pos')) pos.line X.env=pure false):PS X (.Assign [.Attribute o f pos'] value pos) (XD X.K ta tv f):=by
 intro pins s σ H D I h
 refine plainObj_wpAny_Assign_Attribute (aS (hv pins s σ H _ I h) λu s1 ⟨y,H1,I1,ry,q⟩=>aS (ha pins s1 σ H1 _ I1 q) λov s2 ⟨x,H2,I2,rx,a,C,dx,fs,ex,ea,c,n,l,q2⟩=>?_) hs
 subst ex
 obtain rfl:ov=fq a:=rx
 exact XA I2 ea c n l ry λs3 I3=>⟨σ,_,I3,q2⟩
end
section
variable{X:Cx}{pins:List (Addr × Obj)}{σ:St}{H:Hp}{s:Shared}{A:Around}{E:Value->Shared->Prop}{Q:Value->Shared->Prop}{c:Value}{b:Bool}
inductive iA(K:PySem.W.Frag)(H:Hp):V->Value->Prop where
 | au:iA K H .au (.type "NoneType")
 | bl (x:Bool):iA K H (.bl x) (.type "bool")
 | int (i:Int):iA K H (.int i) (.type "int")
 | str (x:Str):iA K H (.str x) (.type "str")
 | tF (x:UInt64):iA K H (.tF x) (.type "float")
 | lst {a:Addr} {xs:List V} (e:H a=some (.lst xs)):iA K H (.ref a) (.type "list")
 | bj {a:Addr} {o:Obj} {xs:List V} (e:H a=some (.bj o (.lst xs))):iA K H (.ref a) (.type "list")
 | tup {a:Addr} {xs:List V} (e:H a=some (.tup xs)):iA K H (.ref a) (.type "tuple")
 | dK {a:Addr} {dW:List (Key × V)} (e:H a=some (.dK dW)):iA K H (.ref a) (.type "dict")
 | dT {a:Addr} {dW:List (List Key × V)} (e:H a=some (.dT dW)):iA K H (.ref a) (.type "dict")
 | ins {a C dx:Addr} {fs:List (Str × V)} (e:H a=some (.ins C dx fs)) (cl:cE K C) (ha:PySem.W.findIn K (.ref C) "__class__"=some (some (.builtin "object.__class__")))
   (hn:PySem.W.specialIn K (.builtin "object.__class__") "__get__"=some (some (.builtin "getset_descriptor.__get__"))) (Kl:PySem.W.takesIn K (.builtin "object.__class__")=some true)
   (hm:PySem.W.mroIn K C (.type "object")=some true):iA K H (.ref a) (.ref C)
theorem Km{x:V}{u t:Value}(I:Inv X pins σ H s)(rx:RelV x u)(ty:iA X.K H x t)(e:PySem.W.kitOne X.K t c=some b)(h:∀tk,Q (.bool b) { s with toks:=tk }) :
  wpAny (model X.prog X.w) A (call (.builtin "isinstance") [u,c]) Q E s:=by
 cases ty with
 | au=>cases(show u=sR from rx);exact PySem.W.kia_one PySem.W.kitx_none I.cQ vy e (λz=>nomatch z) h
 | bl y=>cases(show u=DH y from rx);exact PySem.W.kia_one PySem.W.kitx_bool I.cQ vy e (λz=>nomatch z) h
 | int i=>obtain⟨t,q⟩:=(show ∃t,u=pV i t from rx);cases q;exact PySem.W.kia_one PySem.W.kitx_int I.cQ vy e (λz=>nomatch z) h
 | str y=>obtain⟨t,q⟩:=(show ∃t,u=Value.str y t from rx);cases q;exact PySem.W.kia_one PySem.W.kitx_str I.cQ vy e (λz=>nomatch z) h
 | tF y=>obtain⟨t,q⟩:=(show ∃t,u=Value.float y t from rx);cases q;exact PySem.W.kia_one PySem.W.kitx_float I.cQ vy e (λz=>nomatch z) h
 | @lst a xs ea =>
  cases(show u=fq a from rx)
  obtain⟨_,_,n,_,h1⟩:=(show eG X.prog X.w H s.heap a (.lst xs) from I.aI a _ ea)
  exact PySem.W.kia_one PySem.W.kitx_list I.cQ ⟨_,h1,rfl⟩ e (λz=>nomatch z) h
 | @bj a ob xs ea =>
  cases(show u=fq a from rx)
  obtain⟨_,_,_,n,_,h1⟩:=(show eG X.prog X.w H s.heap a (.bj ob (.lst xs)) from I.aI a _ ea)
  exact PySem.W.kia_one PySem.W.kitx_list I.cQ ⟨_,h1,rfl⟩ e (λz=>nomatch z) h
 | @tup a xs ea =>
  cases(show u=fq a from rx)
  obtain⟨_,_,_,p⟩:=(show eG X.prog X.w H s.heap a (.tup xs) from I.aI a _ ea)
  obtain⟨o,h1,h2,_⟩:=p
  exact PySem.W.kia_one PySem.W.kitx_tuple I.cQ ⟨o,h1,h2⟩ e (λz=>nomatch z) h
 | @dK a dW ea =>
  cases(show u=fq a from rx)
  obtain⟨_,_,vs,_,p⟩:=(show eG X.prog X.w H s.heap a (.dK dW) from I.aI a _ ea)
  obtain⟨o,es,ep,h1,h2,_⟩:=p
  exact PySem.W.kia_one PySem.W.kitx_dict I.cQ ⟨o,h1,h2.1⟩ e (λz=>nomatch z) h
 | @dT a dW ea =>
  cases(show u=fq a from rx)
  obtain⟨_,_,xs,_,o,es,ep,h1,h2,_⟩:=(show eG X.prog X.w H s.heap a (.dT dW) from I.aI a _ ea)
  exact PySem.W.kia_one PySem.W.kitx_dict I.cQ ⟨o,h1,h2.1⟩ e (λz=>nomatch z) h
 | @ins a C dx fs ea cl ha hn Kl hm =>
  cases(show u=fq a from rx)
  obtain⟨mA,O,_⟩:=Bo I.aI ea
  obtain⟨od,J,_⟩:=O.look
  exact PySem.W.kia_one (PySem.W.kitx_own (cl.get _) cl.hd ha hn Kl hm) I.cQ J e (λz=>nomatch z) h
end
end L2
namespace L2
open PySem PySem.Spec PyProof.Rows
structure bQ(k:Nat)(A:Around):Prop where
 hd:A.handled=none
 dp:A.depth+3*k+5<recursionLimit
 un:A.units+16*k+200<cLine
theorem bQ.mono{j k:Nat}{A:Around}(r:bQ k A)(h:j<=k):bQ j A:=⟨r.hd,by have:=r.dp;omega,by have:=r.un;omega⟩
theorem bQ.deeper{k:Nat}{A:Around}(r:bQ (k+1) A)(env:Env):bQ k (A.deeper env) :=
 ⟨r.hd,by have:=r.dp;show A.depth+1+3*k+5<_;omega,by have:=r.un;show A.units+3+16*k+200<_;omega⟩
theorem XE{A:Around}{C:Addr}{us:List Value}{kw:List (Str × Value)}:(A.under (.builtin "type.__call__" ⟨.ref C::us,kw⟩)).depth=A.depth+1:=by
 first | rfl | simp[Around.under,Code.weight,Code.isCreation,Code.isGuard,Code.isCaller,Code.frames,Code.isFrame,guardIds]
theorem XF{A:Around}{C:Addr}{us:List Value}{kw:List (Str × Value)}:(A.under (.builtin "type.__call__" ⟨.ref C::us,kw⟩)).units=A.units+1:=by
 first | rfl | simp[Around.under,Code.cUnits,Code.frames,Code.isFrame]
theorem bQ.make{k:Nat}{A:Around}(r:bQ (k+1) A)(C:Addr)(us:List Value)(kw:List (Str × Value)):bQ k (A.under (.builtin "type.__call__" ⟨.ref C::us,kw⟩)) :=
 ⟨r.hd,by have:=r.dp;rw[XE];omega,by have:=r.un;rw[XF];omega⟩
theorem bQ.depth{k:Nat}{A:Around}(r:bQ k A):A.depth<recursionLimit:=by have:=r.dp;omega
noncomputable def XG:TA:=λ_ H Q=>Q [] H
noncomputable def XH(ta:TE)(tr:TA):TA:=λσ H Q=>ta σ H λx H1=>tr σ H1 λxs H2=>Q (x::xs) H2
section
variable{X:Cx}{e:Expr}{es:List Expr}{te:TE}{t:TA}{pos:Pos}
theorem eX:PA X [] XG:=λ_ _ _ _ H Q I h=>Calls.spliced_nil ⟨[],H,I,.nil,h⟩
theorem bN(ha:PE X e te)(hr:PA X es t)(hs:starEach (e::es) X.env=(false,eval e X.env)::starEach es X.env:=by rfl):PA X (e::es) (XH te t):=by
 intro pos pins s σ H Q I h
 rw[hs]
 show wpAny _ _ (spliced ((false,eval e X.env)::backTo pos (starEach es X.env))) _ _ s
 refine Calls.spliced_cons (aS (ha pins s σ H _ I h) λu s1 ⟨x,H1,I1,r1,q1⟩=>?_)
 exact aS (hr pos pins s1 σ H1 _ I1 q1) λus s2 ⟨xs,H2,I2,r2,q2⟩=>⟨x::xs,H2,I2,.cons r1 r2,q2⟩
noncomputable def XI(t:TA):TE:=λσ H Q=>t σ H λxs H1=>xs.length<=sizeLine/\∀p,H1 p=none->Q (.ref p) (upd H1 p (.tup xs))
noncomputable def XJ(t:TA):TE:=λσ H Q=>t σ H λxs H1=>xs.length<=sizeLine/\∀p,H1 p=none->Q (.ref p) (upd H1 p (.lst xs))
theorem XM{x1}(h:PA X es t):PE X (.Tuple es x1 pos) (XI t):=by
 intro pins s σ H Q I hq
 refine wpAny_Tuple_spliced (aS (h pos pins s σ H _ I hq) λus s1 ⟨xs,H1,I1,r,z,q⟩=>⟨by rw[<-r.length];exact z,?_⟩)
 have hf:H1 s1.heap.objs.size=none:=I1.aI.fresh (bE _)
 refine⟨.ref s1.heap.objs.size,upd H1 s1.heap.objs.size (.tup xs),I1.laid (t':=s1.toks) (λb u e=>fO _ e) (bE _) ?_,rfl,q _ hf⟩
 exact⟨z,us,r,⟨_,gG _ rfl,rfl,_,rfl⟩⟩
theorem Kn(h:PA X es t):PE X (.List es pos) (XJ t):=by
 intro pins s σ H Q I hq
 refine wpAny_List_spliced (aS (h pos pins s σ H _ I hq) λus s1 ⟨xs,H1,I1,r,z,q⟩=>⟨by rw[<-r.length];exact z,?_⟩)
 have hf:H1 s1.heap.objs.size=none:=I1.aI.fresh (bE _)
 refine⟨.ref s1.heap.objs.size,upd H1 s1.heap.objs.size (.lst xs),I1.laid (t':=s1.toks) (λb u e=>fO _ e) (bE _) ?_,rfl,q _ hf⟩
 exact⟨z,us,0,r,gG _ rfl⟩
end
noncomputable abbrev Sp:=List V->Hp->VK->XK->Prop
noncomputable abbrev eP:=List Env->Hp->Shared->XK->Value->Shared->Prop
structure jo(P:Program)(w:World)(K:PySem.W.Frag)(mg:Str->Option Value)(base:Heap)(A:Around)(outer:List Env)(s:Shared)(H:Hp):Prop where
 frames:A.frames=some outer
 mod:Mod K mg base
 bs:∀b o,base.get? b=some o->s.heap.get? b=some o/\H b=none
 ji:base.objs.size<=s.heap.objs.size
 gq:s.heap.FunFrames base outer
 jj:∀b∈dY outer,H b=none
 aI:cK P w H s.heap
 bare:AllBare s.gens
noncomputable def CE(outer:List Env)(P:Program)(w:World)(H:Hp)(s:Shared)(Q:VK)(u:Value)(s':Shared):Prop :=
 ∃v H',s'.os=s.os/\AllBare s'.gens/\Un (dY outer) [] H H' s.heap s'.heap/\cK P w H' s'.heap/\RelV v u/\Q v H'
noncomputable def CR(CX:eP)(outer:List Env)(P:Program)(w:World)(H:Hp)(s:Shared)(Q:VK)(E:XK)(r:Result)(s':Shared):Prop :=
 match r with
 | .ok (.ret u)=>CE outer P w H s Q u s'
 | .ok _=>False
 | .error e=>CX outer H s E e s'
structure aH(P:Program)(w:World)(K:PySem.W.Frag)(mg:Str->Option Value)(base:Heap)(CX:eP)(k:Nat)(f:Addr)(fd:FuncData)(ps:List Str)(sp:Sp):Prop where
 len:∀vs H Q E,sp vs H Q E->vs.length=ps.length
 run:∀(A:Around) (outer:List Env) (s:Shared) (H:Hp) (args:Args) (us:List Value) (vs:List V) (Q:VK) (E:XK),bQ k A->jo P w K mg base A outer s H->BindsTo s fd args (ps.zip us)->Vals vs us->sp vs H Q E ->
  codeAny (model P w) A (.call (.ref f) args) (CR CX outer P w H s Q E) s
theorem aH.mono{P:Program}{w:World}{K:PySem.W.Frag}{mg:Str->Option Value}{base:Heap}{CX:eP}{j k:Nat}{f:Addr}{fd:FuncData}{ps:List Str}{sp:Sp}(F:aH P w K mg base CX j f fd ps sp)(h:j<=k) :
  aH P w K mg base CX k f fd ps sp:=⟨F.len,λA outer s H args us vs Q E hr=>F.run A outer s H args us vs Q E (hr.mono h)⟩
theorem aH.imp{P:Program}{w:World}{K:PySem.W.Frag}{mg:Str->Option Value}{base:Heap}{CX:eP}{k:Nat}{f:Addr}{fd:FuncData}{ps:List Str}{sp tT:Sp}(F:aH P w K mg base CX k f fd ps sp)
  (h:∀vs H Q E,tT vs H Q E->sp vs H Q E):aH P w K mg base CX k f fd ps tT :=
 ⟨λvs H Q E q=>F.len vs H Q E (h _ _ _ _ q),λA outer s H args us vs Q E hr he hb hv hs=>F.run A outer s H args us vs Q E hr he hb hv (h _ _ _ _ hs)⟩
theorem jo.make{P:Program}{w:World}{K:PySem.W.Frag}{mg:Str->Option Value}{base:Heap}{A:Around}{outer:List Env}{s:Shared}{H:Hp}(e:jo P w K mg base A outer s H)(C:Addr)(us:List Value)(kw:List (Str × Value)) :
  jo P w K mg base (A.under (.builtin "type.__call__" ⟨.ref C::us,kw⟩)) outer s H:=⟨by first | exact e.frames | (simpa[Around.under,Code.envs,Code.isFrame,pushEnvs]using e.frames),e.mod,e.bs,e.ji,e.gq,e.jj,e.aI,e.bare⟩
section
variable{X:Cx}{pins:List (Addr × Obj)}{σ:St}{H:Hp}{s s':Shared}
theorem Inv.vZ(I:Inv X pins σ H s):jo X.prog X.w X.K X.mg X.base X.A X.stack s H :=
 ⟨I.ok.frames,I.ok.mod,I.bs,fG I.ok.ji I.sz,I.stack,I.A6,I.aI,I.bare⟩
theorem Inv.after{Q:VK}{u:Value}(I:Inv X pins σ H s)(h:CE X.stack X.prog X.w H s Q u s'):EP X pins σ Q u s':=by
 obtain⟨v,H',os,bare,un,aI,r,q⟩:=h
 obtain⟨hh,g,d,t,XN⟩:=s'
 obtain rfl:XN=s.os:=os
 exact⟨v,H',I.call (h':=hh) (g':=g) (d':=d) (t':=t) (ch:=[]) un aI bare (λb z=>absurd z (by simp)),r,q⟩
end
noncomputable def XO(sp:Sp)(fw:List V)(E:XK)(t:TA):TE:=λσ H Q=>t σ H λvs H1=>sp (vs++fw) H1 Q E
noncomputable def XQ(C:Addr)(m:Str)(sp:Sp)(fw:List V)(E:XK)(ta:TE)(t:TA):TE:=λσ H Q=>ta σ H λx H1=>∃a dx fs,x=.ref a/\H1 a=some (.ins C dx fs)/\fs.lookup m=none /\
 t σ H1 λvs H2=>sp (x::(vs++fw)) H2 Q E
noncomputable def XR(C:Addr)(sp:Sp)(fw:List V)(E:XK)(t:TA):TE:=λσ H Q=>t σ H λvs H1=>∀x dx,H1 x=none->H1 dx=none->dx≠x ->
 sp (.ref x::(vs++fw)) (upd (upd H1 dx (.own x)) x (.ins C dx [])) (λv H2=>v=.au/\Q (.ref x) H2) E
noncomputable def Binds(K:PySem.W.Frag)(fd:FuncData)(ps:List Str)(ds:List Value):Prop :=
 ∀(s:Shared) (us:List Value),K.In s.heap->(us++ds).length=ps.length->BindsTo s fd ⟨us,[]⟩ (ps.zip (us++ds))
theorem Binds.all{K:PySem.W.Frag}{fd:FuncData}{ps:List Str}(h:∀us:List Value,us.length=ps.length->bindArgs fd ⟨us,[]⟩=pure (ps.zip us)):Binds K fd ps []:=λs us _ hl=>by
 rw[fu]at hl ⊢
 exact .of_eq (h us hl)
noncomputable def jO(CX:eP)(X:Cx)(E:XK):Prop:=∀(pins:List (Addr × Obj)) (σ:St) (H:Hp) (s:Shared) (e:Value) (s':Shared),Inv X pins σ H s->CX X.stack H s E e s'->X.xe e s'
section
variable{X:Cx}{CX:eP}{k:Nat}{f C:Addr}{fd:FuncData}{ps:List Str}{sp:Sp}{fw:List V}{ds:List Value}{E:XK}{x m:Str}{p pos apos:Pos}{e o:Expr}{es:List Expr}{ta:TE}{t:TA}
theorem yf{pins:List (Addr × Obj)}{σ:St}{H:Hp}{s:Shared}{Q:VK}{us:List Value}{vs:List V}(F:aH X.prog X.w X.K X.mg X.base CX k f fd ps sp)(hr:bQ k X.A)(hb:Binds X.K fd ps ds)(hd:Vals fw ds)(hx:jO CX X E)
  (I:Inv X pins σ H s) (r:Vals vs us) (h:sp (vs++fw) H Q E):wpAny (model X.prog X.w) X.A (call (.ref f) us) (EP X pins σ Q) X.xe s:=by
 have r2:Vals (vs++fw) (us++ds):=r.append hd
 have hl:(us++ds).length=ps.length:=by rw[<-r2.length];exact F.len _ _ _ _ h
 refine wpAny_call (codeAny_mono (F.run X.A X.stack s H ⟨us,[]⟩ (us++ds) (vs++fw) Q E hr I.vZ (hb s us I.cQ hl) r2 h) λr s' hq=>?_)
 cases r with
 | error e=>exact hx pins σ H s e s' I hq
 | ok fl =>
  cases fl with
  | ret u=>exact I.after hq
  | next=>exact fH hq
  | brk=>exact fH hq
  | cont=>exact fH hq
theorem jq(F:aH X.prog X.w X.K X.mg X.base CX k f fd ps sp)(hr:bQ k X.A)(hg:Gl X x)(hm:X.mg x=some (.ref f))(hk:PySem.W.keepIn X.K (.ref f)=true)(hb:Binds X.K fd ps ds)(hd:Vals fw ds)(hx:jO CX X E)
  (ha:PA X (e::es) t) (cS:(x==("__debug__":Str))=false:=by decide) (he:starEach (e::es) X.env=(false,eval e X.env)::starEach es X.env:=by rfl) (bu:(backTo pos (starEach es X.env)).any (·.1)=false:=by rfl) :
  PE X (.Call (.Name x p) (e::es) [] pos) (XO sp fw E t):=by
 intro pins s σ H Q I h
 refine wpAny_Call_Name_kw (tJ I hg hm ?_ cS)
 refine PySem.W.callWith_K (h₀:=X.base) I.ok.mod.nE hk (aS (ha pos pins s σ H _ I h) λus s1 ⟨vs,H1,I1,r,q⟩=>⟨I1.cQ,?_⟩) he bu
 exact yf F hr hb hd hx I1 r q
theorem XS{pl:Sem Bool}(he:PE X o ta)(c:cE X.K C)(hm:Meth X.K C m f)(F:aH X.prog X.w X.K X.mg X.base CX k f fd ps sp)(hr:bQ k X.A)(hb:Binds X.K fd ps ds)(hd:Vals fw ds)(hx:jO CX X E)(ha:PA X (e::es) t)
  (cy:starEach (e::es) X.env=(false,eval e X.env)::starEach es X.env:=by rfl) (bu:(backTo pos (starEach es X.env)).any (·.1)=false:=by rfl)
  (ht:eval (.Call (.Attribute o m apos) (e::es) [] pos) X.env=(do
   let ov<-eval o X.env
   standAt apos.atName
   let (f,first)<-holding [ov] (getMethod ov m pl)
   callWith pos f first (backTo pos (starEach (e::es) X.env)) (backToKw pos (keywordEach [] X.env))):=by rfl) :
  PE X (.Call (.Attribute o m apos) (e::es) [] pos) (XQ C m sp fw E ta t):=by
 intro pins s σ H Q I h
 refine PySem.W.methodCall_KW (pl:=pl) (aS (he pins s σ H _ I h) λu s1 ⟨x,H1,I1,rx,a,dx,fs,ex,ea,l,q⟩=>?_) ht
 subst ex
 obtain rfl:u=fq a:=rx
 refine ED I1 ea c hm l ?_
 refine PySem.W.callWith_K (first:=[.ref a]) (h₀:=X.base) I.ok.mod.nE hm.kp (aS (ha pos pins s1 σ H1 _ I1 q) λus s2 ⟨vs,H2,I2,r,q2⟩=>⟨I2.cQ,?_⟩) cy bu
 exact yf (us:=.ref a::us) (vs:=.ref a::vs) F hr hb hd hx I2 (.cons rfl r) q2
structure Mk(K:PySem.W.Frag)(C f:Addr):Prop where
 makes:PySem.W.makesIn K C=true
 init:PySem.W.findIn K (.ref C) "__init__"=some (some (.ref f))
 fn:PySem.W.isFn K (.ref f)=true
 kp:PySem.W.keepIn K (.ref C)=true
theorem XT{pins:List (Addr × Obj)}{σ:St}{H:Hp}{s:Shared}{Q:VK}{us:List Value}{vs:List V}(M:Mk X.K C f)(F:aH X.prog X.w X.K X.mg X.base CX k f fd ps sp)(hr:bQ (k+1) X.A)(hb:Binds X.K fd ps ds)(hd:Vals fw ds)
  (hx:jO CX X E) (I:Inv X pins σ H s) (r:Vals vs us)
  (h:∀x dx,H x=none->H dx=none->dx≠x->sp (.ref x::(vs++fw)) (upd (upd H dx (.own x)) x (.ins C dx [])) (λv H2=>v=.au/\Q (.ref x) H2) E) :
  wpAny (model X.prog X.w) X.A (call (.ref C) us) (EP X pins σ Q) X.xe s:=by
 have hq:=h (s.heap.objs.size+1) s.heap.objs.size (I.aI.fresh (Nat.le_succ _)) (I.aI.fresh (bE _)) (dN (AA _))
 have I2:=Inv.made (C:=C) I
 have r2:Vals (V.ref (s.heap.objs.size+1)::(vs++fw)) (fq (s.heap.objs.size+1)::(us++ds)):=.cons rfl (r.append hd)
 have hl:(fq (s.heap.objs.size+1)::us++ds).length=ps.length:=by
  have e:=r2.length
  rw[F.len _ _ _ _ hq]at e
  exact e.symm
 refine wpAny_call (Xw (f:=f) I.cQ M.makes M.init (beq_iff_eq.mp M.fn) (codeAny_mono (F.run _ X.stack _ _ ⟨fq (s.heap.objs.size+1)::us,[]⟩ (fq (s.heap.objs.size+1)::(us++ds)) _ _ E (hr.make C us [])
  (I2.vZ.make C us []) (hb _ (fq (s.heap.objs.size+1)::us) I2.cQ hl) r2 hq) λr s' nK=>?_))
 cases r with
 | error e=>exact hx pins σ _ _ e s' I2 nK
 | ok fl =>
  cases fl with
  | ret u =>
   obtain⟨v,H',I3,rv,ev,q3⟩:=I2.after nK
   subst ev
   exact⟨rv,⟨V.ref (s.heap.objs.size+1),H',I3,rfl,q3⟩⟩
  | next=>exact fH nK
  | brk=>exact fH nK
  | cont=>exact fH nK
theorem EE(M:Mk X.K C f)(F:aH X.prog X.w X.K X.mg X.base CX k f fd ps sp)(hr:bQ (k+1) X.A)(hg:Gl X x)(hm:X.mg x=some (.ref C))(hb:Binds X.K fd ps ds)(hd:Vals fw ds)(hx:jO CX X E)
  (ha:PA X (e::es) t) (cS:(x==("__debug__":Str))=false:=by decide) (he:starEach (e::es) X.env=(false,eval e X.env)::starEach es X.env:=by rfl) (bu:(backTo pos (starEach es X.env)).any (·.1)=false:=by rfl) :
  PE X (.Call (.Name x p) (e::es) [] pos) (XR C sp fw E t):=by
 intro pins s σ H Q I h
 refine wpAny_Call_Name_kw (tJ I hg hm ?_ cS)
 refine PySem.W.callWith_K (h₀:=X.base) I.ok.mod.nE M.kp (aS (ha pos pins s σ H _ I h) λus s1 ⟨vs,H1,I1,r,q⟩=>⟨I1.cQ,?_⟩) he bu
 exact XT M F hr hb hd hx I1 r q
end
section
variable{X:Cx}{CX:eP}{k:Nat}{f C:Addr}{fd:FuncData}{ps ks:List Str}{sp:Sp}{E:XK}{x m:Str}{p pos apos dx0:Pos}{e o:Expr}{es:List Expr}{kws:List Keyword}{te ta:TE}{t tk:TA}{nm:Option Str}
variable{g:List Value->List Value->List Value}{gV:List V->List V->List V}
end
structure aU(N P:List Str)(sc:Scope):Prop where
 kind:sc.kind=.function
 co:sc.isCoroutine=false
 gen:sc.isGenerator=false
 nd:N.Nodup
 pre:N.take P.length=P
 par:∀x∈P,sc.names.lookup x=some .local\/sc.names.lookup x=some .cell
 XU:∀y∈sc.names,y.2≠.free
theorem Ko{kindOf:Str->Option NameKind}{x:Str}:∀{binds:List (Str × Value)} {m:Str->Option Value},(∀v,(x,v) ∉ binds)->bindL kindOf binds m x=m x
 | [],_,_=>rfl
 | (n,v)::r,m,h=>by
  unfold bindL
  rw[Ko λw hw=>h w (ft _ hw)]
  split
  ·have:x≠n:=by rintro rfl;exact h v gj
   simp[this]
  ·rfl
theorem Kp{kindOf:Str->Option NameKind}{x:Str}:∀{binds:List (Str × Value)} {m:Str->Option Value},(∀v,(x,v) ∉ binds)->bindC kindOf binds m x=m x
 | [],_,_=>rfl
 | (n,v)::r,m,h=>by
  unfold bindC
  rw[Kp λw hw=>h w (ft _ hw)]
  split
  ·rfl
  ·have:x≠n:=by rintro rfl;exact h v gj
   simp[this]
theorem Kq{kindOf:Str->Option NameKind}{x:Str}{v:Value}:∀{P:List Str} {vs:List Value} {i:Nat} {m:Str->Option Value},P.Nodup->P[i]?=some x->vs[i]?=some v->kindOf x=some .local ->
  bindL kindOf (P.zip vs) m x=some v
 | [],_,_,_,_,h,_,_=>by simp at h
 | _::_,[],_,_,_,_,h,_=>by simp at h
 | p::P,w::vs,0,m,nd,h1,h2,hk=>by
  simp at h1 h2;subst h1;subst h2
  show bindL kindOf ((p,w)::P.zip vs) m p=_
  unfold bindL
  rw[Ko λv hv=>(jF.mp nd).1 (vA hv).1,if_pos hk]
  simp
 | p::P,w::vs,i+1,m,nd,h1,h2,hk=>by
  show bindL kindOf ((p,w)::P.zip vs) m x=_
  unfold bindL
  exact Kq (i:=i) (jF.mp nd).2 (by simpa using h1) (by simpa using h2) hk
theorem Kr{kindOf:Str->Option NameKind}{x:Str}{v:Value}:∀{P:List Str} {vs:List Value} {i:Nat} {m:Str->Option Value},P.Nodup->P[i]?=some x->vs[i]?=some v->kindOf x≠some .local ->
  bindC kindOf (P.zip vs) m x=some v
 | [],_,_,_,_,h,_,_=>by simp at h
 | _::_,[],_,_,_,_,h,_=>by simp at h
 | p::P,w::vs,0,m,nd,h1,h2,hk=>by
  simp at h1 h2;subst h1;subst h2
  show bindC kindOf ((p,w)::P.zip vs) m p=_
  unfold bindC
  rw[Kp λv hv=>(jF.mp nd).1 (vA hv).1,if_neg hk]
  simp
 | p::P,w::vs,i+1,m,nd,h1,h2,hk=>by
  show bindC kindOf ((p,w)::P.zip vs) m x=_
  unfold bindC
  exact Kr (i:=i) (jF.mp nd).2 (by simpa using h1) (by simpa using h2) hk
noncomputable def start(N:List Str)(vs:List V):St:=vs.map some++aV (N.length-vs.length) none
noncomputable def iX(CX:eP)(P:Program)(w:World)(K:PySem.W.Frag)(mg:Str->Option Value)(base:Heap)(N:List Str)(qual:Str)(scope:Scope)(f:Addr)(cd:Value)(A:Around)(outer:List Env)(s:Shared)(H:Hp)(E:XK):Cx where
 prog:=P
 w:=w
 K:=K
 mg:=mg
 base:=base
 A:=A.deeper (envOfC qual scope s.heap.objs.size f cd)
 N:=N
 cw:=s
 jK:=H
 env:=envOfC qual scope s.heap.objs.size f cd
 outer:=outer
 stack:=envOfC qual scope s.heap.objs.size f cd::outer
 ex:=[]
 calm:=true
 fn:=λ_=>true
 pn:=[]
 xe:=λe s'=>wpAny (model P w) (A.deeper (envOfC qual scope s.heap.objs.size f cd)) (leaving (envOfC qual scope s.heap.objs.size f cd) e) (λ_ tU=>CX outer H s E e tU) (λe' tU=>CX outer H s E e' tU) s'
theorem Ks{sc:Scope}{n:Nat}{x:Str}(h:sc.names.lookup x=some .cell):∃c,(cellsFrom n sc.names []).lookup x=some c:=by
 have q:=PySem.W.cellsFrom_some sc.names n [] (.inl h)
 exact AB.mp q
theorem XW{CX:eP}{P:Program}{w:World}{K:PySem.W.Frag}{mg:Str->Option Value}{base:Heap}{N ps:List Str}{qual:Str}{scope:Scope}{f:Addr}{cd:Value}{A:Around}{outer:List Env}{s s1:Shared}{H:Hp}{E:XK}{us:List Value}{vs:List V}
  (S:aU N ps scope) (hd:A.handled=none) (e0:jo P w K mg base A outer s H) (hl:vs.length=ps.length) (r:Vals vs us)
  (x:InCallC s s.heap.objs.size (bindL (envOfC qual scope s.heap.objs.size f cd).kindOf (ps.zip us) λ_=>none) (cellsFrom (s.heap.objs.size+1) scope.names []) (bindC (envOfC qual scope s.heap.objs.size f cd).kindOf (ps.zip us) λ_=>none) s1) :
  Inv (iX CX P w K mg base N qual scope f cd A outer s H E) [] (start N vs) H s1:=by
 have bu:ps.length<=N.length:=by have:=congrArg AD S.pre;rw[jG]at this;omega
 obtain⟨h1,tk,rfl,hk⟩:=x.done
 have yg:∀b:Addr,b ∉ (iX CX P w K mg base N qual scope f cd A outer s H E).ex:=λb z=>absurd (show b∈([]:List Addr) from z) (by simp)
 refine⟨⟨e0.mod,S.kind,rfl,rfl,bE _,λy z c h1 h2=>?_,λy hy=>?_,λy c _ h=>?_,λ_=>hd,Around.frames_deeper e0.frames,.inr ⟨rfl,rfl⟩,λb z=>absurd z (yg b),e0.bs,e0.ji,λb _ _=>yg b,λb z=>absurd z (yg b),e0.gq,e0.jj⟩,
  rfl,e0.bare,Un.kept hk,⟨_,x.toInCall.ns,λi y v h1 h2 h3=>?_⟩,λy c h=>⟨_,x.cell y c h⟩,e0.aI.fresh (bE _),λy c h=>?_,λp hp=>absurd (show p∈([]:List (Addr × Obj)) from hp) (by simp),e0.aI.kept hk,?_⟩
 ·exact name_of_addr x.apart (PySem.mem_of_lookup h1) (PySem.mem_of_lookup h2)
 ·have hy:scope.names.lookup y=some .cell\/scope.names.lookup y=some .free:=hy
  rcases hy with hy | hy
  ·exact Ks hy
  ·exact absurd rfl (S.XU _ (PySem.mem_of_lookup hy))
 ·exact As (x.above y c (PySem.mem_of_lookup h))
 ·have hi:i<vs.length:=by
   unfold start at h2
   by_cases hi:i<vs.length
   ·exact hi
   ·rw[pZ (by simpa using hi)]at h2
    rw[nq]at h2
    split at h2<;>cases h2
  have ha:vs[i]?=some v:=by
   unfold start at h2
   rw[sU (by simpa using hi),cu]at h2
   cases e:vs[i]? with
   | none=>rw[e]at h2;cases h2
   | some a=>rw[e]at h2;cases h2;rfl
  obtain⟨u,hu,rv⟩:=r.get ha
  have hp:ps[i]?=some y:=by
   rw[<-S.pre,Vz (by omega)];exact h1
  have Kt:ps.Nodup:=by rw[<-S.pre];exact S.nd.sublist (List.take_sublist _ _)
  refine⟨u,rv,?_⟩
  rcases S.par y (vB hp)with k | k
  ·exact .inl ⟨k,Kq Kt hp hu k⟩
  ·obtain⟨c,e⟩:=Ks (n:=s.heap.objs.size+1) k
   refine .inr ⟨.inl k,c,e,?_⟩
   have q:=x.cell y c e
   rw[Kr Kt hp hu (by show scope.names.lookup y≠_;rw[k];decide)]at q
   exact q
 ·exact e0.aI.fresh (As (x.above y c (PySem.mem_of_lookup h)))
 ·unfold start
  show _=N.length
  rw[eO,bq,fP]
  omega
theorem Bp{CX:eP}{P:Program}{w:World}{K:PySem.W.Frag}{mg:Str->Option Value}{base:Heap}{k:Nat}{f:Addr}{name qual:Str}{params:Arguments}{body:List Stmt}{scope:Scope}{dV kV doc pm ay ct oc:Value}{an od:Option Addr}
  {iB:Array (Option Value)} {N ps:List Str} {sp:Sp} (lk:K.lookup f=some ⟨oc,od,.func (PySem.W.fnOf name qual params body scope dV kV doc pm an ay ct),iB⟩) (cR:PySem.W.codeIn K ay qual=true) (S:aU N ps scope)
  (len:∀vs H Q E,sp vs H Q E->vs.length=ps.length)
  (hJ:∀(A:Around) (outer:List Env) (s:Shared) (H:Hp) (vs:List V) (Q:VK) (E:XK),bQ k (A.deeper (envOfC qual scope s.heap.objs.size f ay))->sp vs H Q E ->
   ∃t,PSs (iX CX P w K mg base N qual scope f ay A outer s H E) body t/\t { nx:=λ_ H'=>Q .au H',rt:=Q } (start N vs) H) :
  aH P w K mg base CX (k+1) f (PySem.W.fnOf name qual params body scope dV kV doc pm an ay ct) ps sp:=by
 refine⟨len,λA outer s H args us vs Q E hr e0 hb r jr=>?_⟩
 have hl:=len _ _ _ _ jr
 have KX:K.In s.heap:=e0.mod.nE.keeps λb o e=>(e0.bs b o e).1
 have lim:s.heap.NoLimit:=e0.mod.nolimit.keeps λb o e=>(e0.bs b o e).1
 have iC:∀y∈ps.zip us,scope.names.lookup y.1=some .local\/(scope.names.lookup y.1=some .cell/\((cellsFrom (s.heap.objs.size+1) scope.names []).lookup y.1).isSome=true):=λ⟨n,v⟩ hy=>by
  rcases S.par n (vA hy).1 with q | q
  ·exact .inl q
  ·exact .inr ⟨q,PySem.W.cellsFrom_some _ _ _ (.inl q)⟩
 refine codeAny_call_function hr.depth (KX _ _ lk) rfl S.co S.gen rfl (PySem.W.codeRec_of KX cR) (hb _ _ _ _ ?_)
 refine wpAny_newFunctionEnv_cells S.kind iC λenv he s1 x=>?_
 subst he
 refine⟨lim.keeps x.toInCall.keep,codeAny_func ?_⟩
 obtain⟨t,ht,hq⟩:=hJ A outer s H vs Q E (hr.deeper _) jr
 have I:Inv (iX CX P w K mg base N qual scope f ay A outer s H E) [] (start N vs) H s1:=XW S hr.hd e0 hl r x
 refine wpAny_mono (ht [] s1 (start N vs) H _ I hq) (λfl s' hs=>?_) λe s' hs=>hs
 have fin:∀{aF:St} {H':Hp} {v:V} {u:Value},Inv (iX CX P w K mg base N qual scope f ay A outer s H E) [] aF H' s'->RelV v u->Q v H'->CE outer P w H s Q u s' :=
  λ{aF H' v u} J rv q=>⟨v,H',J.os,J.bare,J.base,J.aI,rv,q⟩
 cases fl with
 | ret u =>
  obtain⟨v,aF,H',J,rv,q⟩:=hs
  exact fin J rv q
 | next =>
  obtain⟨aF,H',J,q⟩:=hs
  exact fin (v:=V.au) (u:=sR) J rfl q
 | brk =>
  obtain⟨_,_,_,q⟩:=hs
  exact fH q
 | cont =>
  obtain⟨_,_,_,q⟩:=hs
  exact fH q
end L2
namespace L2
open PySem PySem.Spec PyProof.Rows
section
variable{X:Cx}{x:Str}{p pos:Pos}{e:Expr}{es:List Expr}{t:TA}{id T:String}{r:List V->Hp->VK->Prop}
noncomputable def EF(r:List V->Hp->VK->Prop)(t:TA):TE:=λσ H Q=>t σ H λvs H1=>r vs H1 Q
theorem Bq(hc:gu X (.builtin id) r)(hg:Gl X x)(hm:X.mg x=none)(hv:bootBuiltins x=some (.builtin id))(ha:PA X (e::es) t)(hn:x≠"__name__":=by decide)(cS:(x==("__debug__":Str))=false:=by decide)
  (he:starEach (e::es) X.env=(false,eval e X.env)::starEach es X.env:=by rfl) (bu:(backTo pos (starEach es X.env)).any (·.1)=false:=by rfl):PE X (.Call (.Name x p) (e::es) [] pos) (EF r t):=by
 intro pins s σ H Q I h
 refine wpAny_Call_Name_kw (tK I hg hm hv ?_ hn cS)
 exact PyProof.Rows.callWith_builtin1 (aS (ha pos pins s σ H _ I h) λus s1 ⟨vs,H1,I1,r1,q1⟩=>hc pins s1 σ H1 vs us Q I1 r1 q1) he bu
theorem XX(hc:gu X (.type T) r)(hg:Gl X x)(hm:X.mg x=none)(hv:bootBuiltins x=some (.type T))(ha:PA X (e::es) t)(hn:x≠"__name__":=by decide)(cS:(x==("__debug__":Str))=false:=by decide)
  (he:starEach (e::es) X.env=(false,eval e X.env)::starEach es X.env:=by rfl) (bu:(backTo pos (starEach es X.env)).any (·.1)=false:=by rfl):PE X (.Call (.Name x p) (e::es) [] pos) (EF r t):=by
 intro pins s σ H Q I h
 refine wpAny_Call_Name_kw (tK I hg hm hv ?_ hn cS)
 exact Aw (aS (ha pos pins s σ H _ I h) λus s1 ⟨vs,H1,I1,r1,q1⟩=>hc pins s1 σ H1 vs us Q I1 r1 q1) he bu
end
end L2
namespace HT
open PySem PyProof.Rows
section
open PySem.SeqAt
open PySem.AutoSeq1 (wpAny_loadPart')
open PySem.MeetsSeq PySem.MeetsSeq2 PySem.MeetsSeq3
end
section
variable{prog:Program}{w:World}{A:Around}{E:Value->Shared->Prop}{s:Shared}
noncomputable def dq(n d:Nat):Option Int->Nat
 | none=>d
 | some v=>if v<0 then(v+(n:Int)).toNat else min v.toNat n
theorem EG(n d k:Nat):dq n d (some (k:Int))=min k n:=by
 show(if(k:Int)<0 then((k:Int)+(n:Int)).toNat else min (k:Int).toNat n)=min k n
 rw[if_neg (by omega),iq]
end
end HT
namespace L2
open PySem PySem.Spec PyProof.Rows
noncomputable abbrev TO:=St->Hp->(Option Int->Hp->Prop)->Prop
noncomputable def PO(X:Cx)(e:Option Expr)(t:TO):Prop :=
 ∀(pins:List (Addr × Obj)) (s:Shared) (σ:St) (H:Hp) (Q:Option Int->Hp->Prop),Inv X pins σ H s->t σ H Q ->
  wpAny (model X.prog X.w) X.A (evalPart e X.env) (λu s'=>∃o H',Inv X pins σ H' s'/\IsPart u o/\Q o H') X.xe s
noncomputable def XY:TO:=λ_ H Q=>Q none H
noncomputable def XZ(t:TE):TO:=λσ H Q=>t σ H λx H1=>∃i,x=.int i/\Q (some i) H1
theorem X0{ns:List Int}:∀{us:List Value},Vals (ns.map V.int) us->IntsAre us ns:=by
 induction ns with
 | nil=>intro us r;rw[jH]at r;cases r;exact .nil
 | cons n ns ih =>
  intro us r
  rw[da]at r
  cases r with
  | cons r1 r2 =>
   obtain⟨t,e⟩:=r1
   subst e
   exact .cons n t (ih r2)
section
variable{X:Cx}{e:Expr}{te:TE}{lo hi:Option Expr}{tl th:TO}{pos p2:Pos}
theorem X1:PO X none XY:=by
 intro pins s σ H Q I h
 rw[evalPart_none]
 exact wpAny_pure ⟨none,H,I,.none,h⟩
theorem X2(h:PE X e te):PO X (some e) (XZ te):=by
 intro pins s σ H Q I hw
 rw[evalPart_some]
 refine aS (h pins s σ H _ I hw) λu s1 ⟨x,H1,I1,r1,q1⟩=>?_
 obtain⟨i,rfl,q⟩:=q1
 obtain⟨t,rfl⟩:=r1
 exact⟨some i,H1,I1,.int i t,q⟩
noncomputable def tV(X:Cx)(r:V->Option Int->Option Int->Hp->VK->Prop):Prop :=
 ∀(pins:List (Addr × Obj)) (s:Shared) (σ:St) (H:Hp) (x:V) (v vl vu:Value) (lo hi:Option Int) (sl:Addr) (Q:VK),Inv X pins σ H s->RelV x v->s.heap.IsSliceOf sl vl vu .none->IsPart vl lo->IsPart vu hi->r x lo hi H Q ->
  ∃T id,typeLookup (.type T) "__getitem__"=pure (some (.builtin id))/\s.TypeIs v T/\wpAny (model X.prog X.w) X.A (getItem v (.ref sl)) (EP X pins σ Q) X.xe s
theorem tV.or{r r':V->Option Int->Option Int->Hp->VK->Prop}(h:tV X r)(h':tV X r'):tV X (λx lo hi H Q=>r x lo hi H Q\/r' x lo hi H Q):=by
 intro pins s σ H x v vl vu lo hi sl Q I rx hs pl pu q
 rcases q with q | q
 ·exact h pins s σ H x v vl vu lo hi sl Q I rx hs pl pu q
 ·exact h' pins s σ H x v vl vu lo hi sl Q I rx hs pl pu q
noncomputable def X3(r:V->Option Int->Option Int->Hp->VK->Prop)(te:TE)(tl th:TO):TE:=λσ H Q=>te σ H λx H1=>tl σ H1 λl H2=>th σ H2 λu H3=>r x l u H3 Q
theorem X4{r:V->Option Int->Option Int->Hp->VK->Prop}(hr:tV X r)(he:PE X e te)(hl:PO X lo tl)(hu:PO X hi th):PE X (.Subscript e (.Slice lo hi none p2) pos) (X3 r te tl th):=by
 intro pins s σ H Q I h
 refine Subscript_ (aS (he pins s σ H _ I h) λv s1 ⟨x,H1,I1,r1,q1⟩=>?_)
 refine wpAny_Slice (aS (hl pins s1 σ H1 _ I1 q1) λvl s2 ⟨l,H2,I2,pl,q2⟩=>aS (hu pins s2 σ H2 _ I2 q2) λvu s3 ⟨u,H3,I3,pu,q3⟩=>?_)
 rw[evalPart_none]
 refine wpAny_pure ?_
 have I4:Inv X pins σ H3 { s3 with heap:=s3.heap.push { cls:=.type "slice",data:=.fields #[vl,vu,.none] } }:=I3.kept (t':=s3.toks) λb ob q=>fO _ q
 obtain⟨T,id,hT,ht,hg⟩:=hr pins { s3 with heap:=s3.heap.push { cls:=.type "slice",data:=.fields #[vl,vu,.none] } } σ H3 x v vl vu l u s3.heap.objs.size Q I4 r1 (Heap.IsSliceOf.new ..) pl pu q3
 show wpAny (model X.prog X.w) X.A (subscriptTail e (.Slice lo hi none p2) v (.ref s3.heap.objs.size)) (EP X pins σ Q) X.xe { s3 with heap:=s3.heap.push { cls:=.type "slice",data:=.fields #[vl,vu,.none] } }
 exact tail_any (ops:=[.ref s3.heap.objs.size,v]) ht hT hg (by with_unfolding_all rfl)
noncomputable def v3(xs:List V)(lo hi:Option Int):List V:=(xs.drop (HT.dq xs.length 0 lo)).take (HT.dq xs.length xs.length hi-HT.dq xs.length 0 lo)
theorem X5(xs:List V)(lo hi:Option Int):(v3 xs lo hi).length<=xs.length:=by
 unfold v3
 rw[jG,jI]
 omega
end
end L2
namespace L2
open PySem PySem.Spec PyProof.Rows
noncomputable def jP(n:Nat)(i:Int):Option Nat:=if 0<=i then(if i<n then some i.toNat else none)else if -(n:Int)<=i then some (i+n).toNat else none
noncomputable def fA{α:Type}(xs:List α)(i:Int):Option α:=(jP xs.length i).bind λj=>xs[j]?
theorem Ku{n:Nat}{i:Int}{j:Nat}(h:jP n i=some j):seqIndex? i n=some j/\j<n/\-(n:Int)<=i/\i<n:=by
 unfold jP at h
 by_cases h0:0<=i
 ·rw[if_pos h0]at h
  by_cases h1:i<n
  ·rw[if_pos h1]at h
   have e:i.toNat=j:=c9 h
   exact⟨by rw[seqIndex_of h0 h1,e],by omega,by omega,h1⟩
  ·rw[if_neg h1]at h;cases h
 ·rw[if_neg h0]at h
  by_cases h1:-(n:Int)<=i
  ·rw[if_pos h1]at h
   have e:(i+n).toNat=j:=c9 h
   exact⟨by rw[seqIndex_neg (by omega) h1,e],by omega,h1,by omega⟩
  ·rw[if_neg h1]at h;cases h
theorem qw{α:Type}{xs:List α}{i:Int}{v:α}(h:fA xs i=some v):∃j,seqIndex? i xs.length=some j/\xs[j]?=some v/\j<xs.length/\-(xs.length:Int)<=i/\i<xs.length:=by
 unfold fA at h
 cases e:jP xs.length i with
 | none=>rw[e]at h;cases h
 | some j =>
  rw[e]at h
  obtain⟨h1,h2,h3,h4⟩:=Ku e
  exact⟨j,h1,h,h2,h3,h4⟩
noncomputable def EH(b:Expr):Prop:=∀o i,subscripted b false o i=operate [o,i] (getItem o i)
noncomputable def nL(X:Cx)(r:R2):Prop :=
 ∀(value slice:Expr) (pins:List (Addr × Obj)) (s:Shared) (σ:St) (H:Hp) (x y:V) (v u:Value) (Q:VK),Inv X pins σ H s->RelV x v->RelV y u->r x y H Q ->
  subscripted slice false v u=operate [v,u] (getItem v u)->wpAny (model X.prog X.w) X.A (subscriptTail value slice v u) (EP X pins σ Q) X.xe s
noncomputable def Br(X:Cx)(id:String)(r:V->List V->Hp->VK->Prop):Prop :=
 ∀(pins:List (Addr × Obj)) (s:Shared) (σ:St) (H:Hp) (x:V) (xs:List V) (v:Value) (us:List Value) (Q:VK),Inv X pins σ H s->RelV x v->Vals xs us->r x xs H Q ->
  wpAny (model X.prog X.w) X.A (call (.builtin id) (v::us)) (EP X pins σ Q) X.xe s
section
variable{X:Cx}{a b:Expr}{ta tb:TE}{pos:Pos}
theorem nL.or{r r':R2}(h:nL X r)(h':nL X r'):nL X (λx y H Q=>r x y H Q\/r' x y H Q):=by
 intro value slice pins s σ H x y v u Q I rx ry q hs
 rcases q with q | q
 ·exact h value slice pins s σ H x y v u Q I rx ry q hs
 ·exact h' value slice pins s σ H x y v u Q I rx ry q hs
theorem Kv{r:R2}(hr:nL X r)(ha:PE X a ta)(hb:PE X b tb)(hs:EH b):PE X (.Subscript a b pos) (yb r ta tb):=by
 intro pins s σ H Q I h
 exact Subscript_ (Ey ha hb I h λv u s2 x y H2 I2 rx ry q=>hr a b pins s2 σ H2 x y v u Q I2 rx ry q (hs _ _))
noncomputable def Kw(K:PySem.W.Frag):R2:=λx y H Q=>∃p xs i v,x=.ref p/\y=.int i/\bG K H p xs/\fA xs i=some v/\Q v H
noncomputable def Kx(K:PySem.W.Frag):R2:=λx y H Q=>∃p xs i v,x=.ref p/\y=.int i/\iz K H p xs/\fA xs i=some v/\Q v H
noncomputable def Ky:R2:=λx y H Q=>∃z i c,x=.str z/\y=.int i/\z.length<=sizeLine/\fA z.cps.toList i=some c/\Q (.str ⟨#[c]⟩) H
theorem Kz:nL X (Kw X.K):=by
 intro value slice pins s σ H x y v u Q I rx ry h hs
 obtain⟨p,xs,i,z,rfl,rfl,hq,he,q⟩:=h
 cases rx
 obtain⟨t,rfl⟩:=ry
 obtain⟨its,r,pl,hz⟩:=I.list hq
 obtain⟨j,h1,h2,h3,h4,h5⟩:=qw he
 obtain⟨w,ew,gv⟩:=r.get h2
 have hl:=r.length
 have hn:=vY
 have fin:EP X pins σ Q w s:=⟨z,H,I,gv,q⟩
 by_cases h0:0<=i
 ·have hj:i.toNat=j:=by
   rw[seqIndex_of h0 h5]at h1
   exact c9 h1
  exact item_listR pl.isList h0 (by omega) (by rw[hj];simpa using ew) fin hs
 ·have hj:(i+(its.toArray.size:Int)).toNat=j:=by
   rw[seqIndex_neg (by omega) h4]at h1
   rw[dU,<- hl]
   exact c9 h1
  exact subscriptTail_builtinR (x:=w) pl.isList.typeIs slot_list_getitem.lookup
   (wpAny_getItem_list_neg (Q:=λr s'=>r=w/\EP X pins σ Q r s') pl.isList (by omega) (by rw[dU]<;>omega) (by omega) (by rw[hj];simpa using ew) ⟨rfl,fin⟩) hs
theorem X6:nL X (Kx X.K):=by
 intro value slice pins s σ H x y v u Q I rx ry h hs
 obtain⟨p,xs,i,z,rfl,rfl,hq,he,q⟩:=h
 cases rx
 obtain⟨t,rfl⟩:=ry
 obtain⟨its,r,pl,hz⟩:=I.tuple hq
 obtain⟨j,h1,h2,h3,h4,h5⟩:=qw he
 obtain⟨w,ew,gv⟩:=r.get h2
 have hl:=r.length
 have hn:=vY
 have fin:EP X pins σ Q w s:=⟨z,H,I,gv,q⟩
 exact subscriptTail_builtinR (x:=w) pl.typeIs slot_tuple_getitem.lookup
  (getItem_tuple (j:=j) (Q:=λr s'=>r=w/\EP X pins σ Q r s') pl (by omega) (by omega) (by rw[dU,<- hl];exact h1) (by simpa using ew) ⟨rfl,fin⟩) hs
theorem X7:nL X Ky:=by
 intro value slice pins s σ H x y v u Q I rx ry h hs
 obtain⟨z,i,c,rfl,rfl,hz,he,q⟩:=h
 obtain⟨t,rfl⟩:=rx
 obtain⟨t',rfl⟩:=ry
 obtain⟨j,h1,h2,h3,h4,h5⟩:=qw he
 have hl:z.cps.toList.length=z.length:=by simp[Str.length]
 rw[hl]at h1 h4 h5
 have hn:=vY
 exact tail_any (typeIs_str s z t) slot_str_getitem.lookup (getItem_str (c:=c) (by
  have e1:decide (i < -(2 ^ 63:Int))=false:=decide_eq_false (by omega)
  have e2:decide (i ≥ 2 ^ 63)=false:=decide_eq_false (by omega)
  rw[e1,e2,sV]) (by rw[h1];simpa using h2) ⟨.str ⟨#[c]⟩,H,I.tok _,⟨_,rfl⟩,q⟩) hs
noncomputable def X8(K:PySem.W.Frag):R2:=λx y H Q=>Kw K x y H Q\/Kx K x y H Q\/Ky x y H Q
theorem X9:nL X (X8 X.K):=Kz.or (X6.or X7)
theorem Ya(its:List Value)(n j:Nat)(u:Value):AE (·.setIfInBounds j u) { cls:=.type "list",data:=.seq its.toArray n }={ cls:=.type "list",data:=.seq (its.set j u).toArray n }:=by
 simp[AE]
theorem Inv.lst{pins:List (Addr × Obj)}{σ:St}{H:Hp}{s:Shared}{p:Addr}{xs:List V}(I:Inv X pins σ H s)(h:H p=some (.lst xs)) :
  ∃(its:List Value) (n:Nat),Vals xs its/\s.heap.get? p=some { cls:=.type "list",data:=.seq its.toArray n }/\xs.length<=sizeLine:=by
 obtain⟨z,its,n,r,e⟩:=I.aI p _ h
 exact⟨its,n,r,e,z⟩
theorem Inv.Yb{pins:List (Addr × Obj)}{σ:St}{H:Hp}{s:Shared}{p:Addr}{xs ys:List V}{its its':List Value}{n n':Nat}{f:Obj->Obj}(I:Inv X pins σ H s)(h:H p=some (.lst xs))
  (ho:s.heap.get? p=some { cls:=.type "list",data:=.seq its.toArray n }) (hf:f { cls:=.type "list",data:=.seq its.toArray n }={ cls:=.type "list",data:=.seq its'.toArray n' }) (r:Vals ys its') (hz:ys.length<=sizeLine) (t:Nat) :
  Inv X pins σ (upd H p (.lst ys)) { s with heap:=s.heap.update p f,toks:=t }:=by
 have e:(s.heap.update p f).get? p=some { cls:=.type "list",data:=.seq its'.toArray n' }:=by
  rw[DI f ho (by rw[hf]<;>rfl),hf]
 refine I.write (x:=p) (e:=p) (by rw[h];trivial) (.inl rfl) (λb u hb q=>(sW _ _ (e7 hb)).trans q) ⟨_,e⟩ ?_
 exact⟨hz,its',n',r,e⟩
noncomputable def Yc:V->V->V->Hp->(Hp->Prop)->Prop:=λo i v H Q=>∃p xs k j,o=.ref p/\i=.int k/\H p=some (.lst xs)/\jP xs.length k=some j/\Q (upd H p (.lst (xs.set j v)))
theorem Yd:J5 X Yc:=by
 intro pins s σ H o i v ov iv u Q I ro ri rv h
 obtain⟨p,xs,k,j,rfl,rfl,hp,hj,q⟩:=h
 cases ro
 obtain⟨t,rfl⟩:=ri
 obtain⟨its,n,r,ho,hz⟩:=I.lst hp
 obtain⟨h1,h2,h3,h4⟩:=Ku hj
 have hl:=r.length
 have hn:=vY
 have I':Inv X pins σ (upd H p (.lst (xs.set j v))) { s with heap:=s.heap.update p (AE (·.setIfInBounds j u)) } :=
  I.Yb hp ho (Ya its n j u) (r.set rv j) (by rw[sX];exact hz) s.toks
 by_cases h0:0<=k
 ·have hk:k.toNat=j:=by
   rw[seqIndex_of h0 h4]at h1
   exact c9 h1
  exact PySem.W.ki_setAt ho h0 (by omega) (by rw[dU,<- hl];exact h4) (by rw[hk];exact⟨_,I',q⟩)
 ·have hk:(k+(its.toArray.size:Int)).toNat=j:=by
   rw[seqIndex_neg (by omega) h3]at h1
   rw[dU,<- hl]
   exact c9 h1
  exact PySem.W.ki_setBack ho (by omega) (by rw[dU,<- hl];exact h3) (by omega) (by rw[hk];exact⟨_,I',q⟩)
theorem EI(lo hi:Option Int)(n:Nat):(sliceBounds lo hi none n).1=((HT.dq n 0 lo:Nat):Int)/\(sliceBounds lo hi none n).2.1=((HT.dq n n hi:Nat):Int)/\(sliceBounds lo hi none n).2.2=1:=by
 refine⟨?_,?_,rfl⟩
 ·cases lo with
  | none=>simp[sliceBounds,HT.dq]
  | some i =>
   simp only[sliceBounds,HT.dq,p7,show(1:Int)>0 by decide,if_true]
   by_cases h:i<0
   ·simp only[h,if_true]<;>omega
   ·simp only[h,if_false]<;>omega
 ·cases hi with
  | none=>simp[sliceBounds,HT.dq]
  | some i =>
   simp only[sliceBounds,HT.dq,p7,show(1:Int)>0 by decide,if_true]
   by_cases h:i<0
   ·simp only[h,if_true]<;>omega
   ·simp only[h,if_false]<;>omega
theorem Ye(its:List Value)(lo hi:Option Int):slicePick its.toArray lo hi none=((its.drop (HT.dq its.length 0 lo)).take (HT.dq its.length its.length hi-HT.dq its.length 0 lo)).toArray:=by
 obtain⟨h1,h2,h3⟩:=EI lo hi its.toArray.size
 unfold slicePick
 rw[h1,h2,h3]
 simp only[sliceRange_one,pick_run,dU]<;>rfl
noncomputable def Yf(K:PySem.W.Frag):V->Option Int->Option Int->Hp->VK->Prop:=λx lo hi H Q=>∃a xs,x=.ref a/\bG K H a xs/\∀p,H p=none->Q (.ref p) (upd H p (.lst (v3 xs lo hi)))
theorem Yg:tV X (Yf X.K):=by
 intro pins s σ H x v vl vu lo hi sl Q I rx hs pl pu h
 obtain⟨a,xs,rfl,hx,q⟩:=h
 cases rx
 obtain⟨its,r,ht,hz⟩:=I.list hx
 have hlen:=r.length
 refine⟨"list",_,slot_list_getitem.lookup,ht.isList.typeIs,?_⟩
 refine wpAny_getItem_list_slice ht.isList hs pl pu .none (by simp) ?_ (by rw[dU]<;>omega)
 rw[Ye,<- hlen]
 refine⟨.ref s.heap.objs.size,_,I.laid (t':=s.toks) (o:=.lst (v3 xs lo hi)) (λb ob q=>fO _ q) (bE _) ?_,rfl,q _ (I.aI.fresh (bE _))⟩
 exact⟨fG (X5 xs lo hi) hz,_,0,(r.drop (HT.dq xs.length 0 lo)).take (HT.dq xs.length xs.length hi-HT.dq xs.length 0 lo),gG _ rfl⟩
noncomputable def nM:V->Bool
 | .au=>true
 | .bl _=>true
 | .int _=>true
 | .str _=>true
 | _=>false
noncomputable def mw:V->V->Bool
 | .au,.au=>true
 | .bl a,.bl b=>a==b
 | .bl a,.int b=>(if a then 1 else 0)==b
 | .int a,.bl b=>a==(if b then 1 else 0)
 | .int a,.int b=>a==b
 | .str a,.str b=>a==b
 | _,_=>false
theorem Yh{A:Around}{s:Shared}{y x:V}{u v:Value}(ry:RelV y u)(rx:RelV x v)(fy:nM y=true)(fx:nM x=true):DJ A s u v (mw y x):=by
 cases y with
 | au =>
  cases ry
  cases x with
  | au=>cases rx;exact SeqAt.EqAt.same _
  | bl b=>cases rx;exact SeqAt.EqAt.none_bool b
  | int b=>obtain⟨t,rfl⟩:=rx;exact SeqAt.EqAt.none_int b t
  | str b=>obtain⟨t,rfl⟩:=rx;exact SeqAt.EqAt.none_str b t
  | _=>exact absurd (show false=true from fx) jf
 | bl a =>
  cases ry
  cases x with
  | au=>cases rx;exact SeqAt.EqAt.bool_none a
  | bl b=>cases rx;exact SeqAt.EqAt.bool_bool a b
  | int b=>obtain⟨t,rfl⟩:=rx;exact SeqAt.EqAt.bool_int a b t
  | str b=>obtain⟨t,rfl⟩:=rx;exact SeqAt.EqAt.bool_str a b t
  | _=>exact absurd (show false=true from fx) jf
 | int a =>
  obtain⟨t',rfl⟩:=ry
  cases x with
  | au=>cases rx;exact SeqAt.EqAt.int_none a t'
  | bl b=>cases rx;exact SeqAt.EqAt.int_bool a t' b
  | int b=>obtain⟨t,rfl⟩:=rx;exact SeqAt.EqAt.int_int a t' b t
  | str b=>obtain⟨t,rfl⟩:=rx;exact SeqAt.EqAt.int_str a t' b t
  | _=>exact absurd (show false=true from fx) jf
 | str a =>
  obtain⟨t',rfl⟩:=ry
  cases x with
  | au=>cases rx;exact SeqAt.EqAt.str_none a t'
  | bl b=>cases rx;exact SeqAt.EqAt.str_bool a t' b
  | int b=>obtain⟨t,rfl⟩:=rx;exact SeqAt.EqAt.str_int a t' b t
  | str b=>obtain⟨t,rfl⟩:=rx;exact SeqAt.EqAt.str_str a t' b t
  | _=>exact absurd (show false=true from fx) jf
 | _=>exact absurd (show false=true from fy) jf
noncomputable def nN(x:V)(u:Value):Bool:=match u with
 | .none=>mw .au x
 | .bool b=>mw (.bl b) x
 | .int i _=>mw (.int i) x
 | .str z _=>mw (.str z) x
 | _=>false
theorem KA{x y:V}{u:Value}(r:RelV y u)(f:nM y=true):nN x u=mw y x:=by
 cases y with
 | au=>cases r;rfl
 | bl b=>cases r;rfl
 | int i=>obtain⟨t,rfl⟩:=r;rfl
 | str z=>obtain⟨t,rfl⟩:=r;rfl
 | _=>exact absurd (show false=true from f) jf
theorem EJ{x:V}:∀{xs:List V} {us:List Value},Vals xs us->xs.all nM=true->us.any (nN x)=xs.any λy=>mw y x
 | _,_,.nil,_=>rfl
 | y::xs,u::us,.cons r t,f=>by
  rw[de,eU]at f
  rw[List.any_cons,List.any_cons,KA r f.1,EJ t f.2]
theorem EK{A:Around}{s:Shared}{x:V}{v:Value}(rx:RelV x v)(fx:nM x=true):∀{xs:List V} {us:List Value},Vals xs us->xs.all nM=true->∀u∈us,DJ A s u v (nN x u)
 | _,_,.nil,_=>λu hu=>by cases hu
 | y::xs,u::us,.cons r t,f=>λu' hu=>by
  rw[de,eU]at f
  rcases bR.mp hu with rfl | hu
  ·rw[KA r f.1];exact Yh r rx f.1 fx
  ·exact EK rx fx t f.2 u' hu
noncomputable def Bt(x:V)(xs:List V):Bool:=xs.any λy=>mw y x
noncomputable def Yi(K:PySem.W.Frag)(neg:Bool):R2:=λx y H Q=>∃p xs,y=.ref p/\(bG K H p xs\/iz K H p xs)/\nM x=true/\xs.all nM=true/\Q (.bl (if neg then !Bt x xs else Bt x xs)) H
theorem Yj:cC X (compareOp .NotIn) (Yi X.K true):=by
 intro pins s σ H x y v u Q I rx ry h
 obtain⟨p,xs,rfl,hq,fx,fs,q⟩:=h
 cases ry
 rcases hq with hq | hq
 ·obtain⟨its,r,pl,hz⟩:=I.list hq
  refine SeqAt.notIn_listAt (nN x) pl.isList (λw hw=>EK rx fx r fs w (by simpa using hw)) ⟨.bl _,H,I,rfl,?_⟩
  rw[show its.toArray.any (nN x)=its.any (nN x) by simp,EJ r fs]
  exact q
 ·obtain⟨its,r,pl,hz⟩:=I.tuple hq
  refine SeqAt.notIn_tupleAt (nN x) pl (λw hw=>EK rx fx r fs w (by simpa using hw)) ⟨.bl _,H,I,rfl,?_⟩
  rw[show its.toArray.any (nN x)=its.any (nN x) by simp,EJ r fs]
  exact q
theorem KC:gu X (.builtin "len") (λxs H Q=>∃p ys,xs=[.ref p]/\(bG X.K H p ys\/iz X.K H p ys)/\Q (.int ys.length) H):=by
 intro pins s σ H xs us Q I r h
 obtain⟨p,ys,rfl,hq,q⟩:=h
 obtain⟨u,rfl,rx⟩:=EB r
 cases rx
 have hn:=vY
 rcases hq with hq | hq
 ·obtain⟨its,r',pl,hz⟩:=I.list hq
  have hlen:=r'.length
  exact Calls.call_len_list pl.isList (by simp only[dU]<;>omega) ⟨.int ys.length,H,I.tok _,⟨s.toks+1,by rw[dU,hlen]⟩,q⟩
 ·obtain⟨its,r',pl,hz⟩:=I.tuple hq
  have hlen:=r'.length
  exact len_tuple pl (by simp only[dU]<;>omega) ⟨.int ys.length,H,I.tok _,⟨s.toks+1,by rw[dU,hlen]⟩,q⟩
theorem Yk:gu X (.builtin "len") (λxs H Q=>∃z,xs=[.str z]/\z.length<=sizeLine/\Q (.int z.length) H):=by
 intro pins s σ H xs us Q I r h
 obtain⟨z,rfl,hz,q⟩:=h
 obtain⟨u,rfl,t,rfl⟩:=EB r
 have hn:=vY
 exact len_str (by omega) ⟨.int z.length,H,I.tok _,⟨_,rfl⟩,q⟩
theorem gu.or{f:Value}{r r':List V->Hp->VK->Prop}(h:gu X f r)(h':gu X f r'):gu X f (λxs H Q=>r xs H Q\/r' xs H Q):=by
 intro pins s σ H xs us Q I rs q
 rcases q with q | q
 ·exact h pins s σ H xs us Q I rs q
 ·exact h' pins s σ H xs us Q I rs q
theorem Yl:gu X (.type "list") (λxs H Q=>∃p ys,xs=[.ref p]/\(bG X.K H p ys\/iz X.K H p ys)/\∀l,H l=none->Q (.ref l) (upd H l (.lst ys))):=by
 intro pins s σ H xs us Q I r h
 obtain⟨p,ys,rfl,hq,q⟩:=h
 obtain⟨u,rfl,rx⟩:=EB r
 cases rx
 have fin:∀(its:List Value),Vals ys its->ys.length<=sizeLine->∀(h':Heap) (c':Nat),(∀b o',s.heap.get? b=some o'->h'.get? b=some o') ->
   h'.get? s.heap.objs.size=some { cls:=.type "list",dict:=none,data:=.seq its.toArray c',slots:=#[] }->EP X pins σ Q (.ref s.heap.objs.size) { s with heap:=h' }:=λits r' hz h' c' kp e =>
  ⟨.ref s.heap.objs.size,_,I.laid (t':=s.toks) kp (bE _) (show eG X.prog X.w _ h' _ (.lst ys) from⟨hz,its,c',r',e⟩),rfl,q _ (I.aI.fresh (bE _))⟩
 rcases hq with hq | hq
 ·obtain⟨its,r',pl,hz⟩:=I.list hq
  have hlen:=r'.length
  obtain⟨o,ho,hc,n,hd⟩:=pl.isList
  exact call_list_seq p (.inl rfl) ho hc hd (λh' c' kp e=>fin its r' hz h' c' kp e) (by simp only[dU]<;>omega)
 ·obtain⟨its,r',pl,hz⟩:=I.tuple hq
  have hlen:=r'.length
  obtain⟨o,ho,hc,n,hd⟩:=pl
  exact call_list_seq p (.inr rfl) ho hc hd (λh' c' kp e=>fin its r' hz h' c' kp e) (by simp only[dU]<;>omega)
noncomputable def EL(K:PySem.W.Frag)(T:String)(x:V)(H:Hp):Prop:=match x with
 | .str _=>T="str"
 | .int _=>T="int"
 | .ref p=>(T="list"/\∃xs,bG K H p xs)\/(T="tuple"/\∃o,K.lookup p=some o/\o.cls=.type "tuple"/\o.dict=none) \/
   (T="dict"/\((∃dW,H p=some (.dK dW))\/∃dW,H p=some (.dT dW)))\/(T="set"/\∃S n,H p=some (.set S n))
 | _=>False
theorem KD{pins:List (Addr × Obj)}{σ:St}{H:Hp}{s:Shared}{T:String}{x:V}{v:Value}(I:Inv X pins σ H s)(r:RelV x v)(ty:EL X.K T x H) :
  s.TypeIs v T/\∀a,v=.ref a->∃ob,s.heap.get? a=some ob/\ob.dict=none:=by
 cases x with
 | str z =>
  obtain⟨t,rfl⟩:=r
  cases(show T="str" from ty)
  exact⟨typeIs_str s z t,λ_ e=>nomatch e⟩
 | int i =>
  obtain⟨t,rfl⟩:=r
  cases(show T="int" from ty)
  exact⟨typeIs_int s i t,λ_ e=>nomatch e⟩
 | ref p =>
  cases r
  rcases ty with⟨rfl,xs,hq⟩ | ⟨rfl,o,hk,hc,hd⟩ | ⟨rfl,hk⟩ | ⟨rfl,S,n,hk⟩
  ·obtain⟨its,_,pl,_⟩:=I.list hq
   refine⟨pl.isList.typeIs,λa e=>?_⟩
   cases e
   obtain⟨o,n,e,c,hd,_⟩:=pl
   exact⟨o,e,hd⟩
  ·refine⟨⟨o,I.cQ p o hk,hc⟩,λa e=>?_⟩
   cases e
   exact⟨o,I.cQ _ o hk,hd⟩
  ·have z:∃o,s.heap.get? p=some o/\o.ExactDict:=by
    rcases hk with⟨dW,hk⟩ | ⟨dW,hk⟩
    ·obtain⟨_,_,_,_,o,_,_,e,ex,_⟩:=I.aI p _ hk
     exact⟨o,e,ex⟩
    ·obtain⟨_,_,_,_,o,_,_,e,ex,_⟩:=I.aI p _ hk
     exact⟨o,e,ex⟩
   obtain⟨o,e,ex⟩:=z
   refine⟨⟨o,e,ex.1⟩,λa e2=>?_⟩
   cases e2
   exact⟨o,e,ex.2.1⟩
  ·obtain⟨o,_,_,_,e,ex,_⟩:=I.aI p _ hk
   refine⟨⟨o,e,ex.1⟩,λa e2=>?_⟩
   cases e2
   exact⟨o,e,ex.2.1⟩
 | _=>exact fH ty
noncomputable def KG(K:PySem.W.Frag)(T:String)(r:V->List V->Hp->VK->Prop)(to:TE):TE:=λσ H Q=>to σ H λx H1=>EL K T x H1/\r x [] H1 Q
noncomputable def Ym(K:PySem.W.Frag)(T:String)(r:V->List V->Hp->VK->Prop)(to:TE)(t:TA):TE:=λσ H Q=>to σ H λx H1=>EL K T x H1/\t σ H1 λxs H2=>r x xs H2 Q
variable{o e:Expr}{es:List Expr}{to:TE}{t:TA}{name:Str}{apos cj:Pos}{T id:String}{r:V->List V->Hp->VK->Prop}
theorem Yn(pa:PlainAttrs T)(slot:Slot T name id)(EM:typeOf (.builtin id)=pure (.type "method_descriptor"))(hm:Br X id r)(ho:PE X o to)
  (nO:attributeBase o name X.env (eval o X.env)=eval o X.env:=by rfl) (nQ:(apos.endLine==cj.line)=true:=by rfl):PE X (.Call (.Attribute o name apos) [] [] cj) (KG X.K T r to):=by
 intro pins s σ H Q I h
 refine wpAny_Call_method0_late nO nQ (aS (ho pins s σ H _ I h) λv s1 ⟨x,H1,I1,r1,ty,q1⟩=>?_)
 obtain⟨h1,h2⟩:=KD I1 r1 ty
 exact⟨T,id,pa,slot,EM,h1,h2,Calls.callWith_builtin rfl (PySem.evalArgs_none (hm pins s1 σ H1 x [] v [] Q I1 r1 .nil q1))⟩
theorem Yo(pa:PlainAttrs T)(slot:Slot T name id)(EM:typeOf (.builtin id)=pure (.type "method_descriptor"))(hm:Br X id r)(ho:PE X o to)(ha:PA X (e::es) t)
  (nO:attributeBase o name X.env (eval o X.env)=eval o X.env:=by rfl)
  (EN:((backTo cj (starEach (e::es) X.env)).all (λx=>!x.1)&&(backToKw cj (keywordEach [] X.env)).all (λx=>x.1.isSome)
   && decide ((e::es).length+([]:List Keyword).length+(if([]:List Keyword).isEmpty then 0 else 1)<30))=true:=by rfl)
  (nQ:(apos.endLine==cj.line)=true:=by rfl) (hs:starEach (e::es) X.env=(false,eval e X.env)::starEach es X.env:=by rfl) (EO:(backTo cj (starEach es X.env)).any (·.1)=false:=by rfl) :
  PE X (.Call (.Attribute o name apos) (e::es) [] cj) (Ym X.K T r to t):=by
 intro pins s σ H Q I h
 refine wpAny_Call_method_late nO EN nQ rfl (aS (ho pins s σ H _ I h) λv s1 ⟨x,H1,I1,r1,ty,q1⟩=>?_)
 obtain⟨h1,h2⟩:=KD I1 r1 ty
 refine⟨T,id,pa,slot,EM,h1,h2,?_⟩
 have hA:=ha cj pins s1 σ H1 _ I1 q1
 rw[hs]at hA ⊢
 refine Calls.callWith_builtin (by show(false||(backTo cj (starEach es X.env)).any (·.1))=false;rw[EO]<;>rfl) (Calls.evalArgs_plain ?_)
 exact aS hA λus s2 ⟨vs,H2,I2,r2,q2⟩=>hm pins s2 σ H2 x vs v us Q I2 r1 r2 q2
/- xs.append(e),list.index on a dx2 tuple .. are Br facts of 06m -/
end
end L2
namespace L2
open PySem PySem.Spec PyProof.Rows
noncomputable def Yp(X:Cx)(id:String)(r:V->List V->Hp->VK->Prop):Prop :=
 ∀(pins:List (Addr × Obj)) (s:Shared) (σ:St) (H:Hp) (x:V) (xs:List V) (v:Value) (us:List Value) (Q:VK),Inv X pins σ H s->RelV x v->Vals xs us->r x xs H Q ->
  wpAny (model X.prog X.w) X.A (call (.builtin id) (v::us)) (EP X pins σ Q) X.xe s
theorem Vals.one:∀{x:V} {us:List Value},Vals [x] us->∃u,us=[u]/\RelV x u
 | _,_,h=>by cases h with | cons r h=>cases h;exact⟨_,rfl,r⟩
theorem Vals.two:∀{x y:V} {us:List Value},Vals [x,y] us->∃u v,us=[u,v]/\RelV x u/\RelV y v
 | _,_,_,h=>by cases h with | cons r h=>cases h with | cons q h=>cases h;exact⟨_,_,rfl,r,q⟩
theorem Vals.rep{xs:List V}{us:List Value}(h:Vals xs us):∀k:Nat,Vals (aV k xs).flatten (aV k us).flatten
 | 0=>.nil
 | k+1=>by
  rw[sY,sY,vC,vC]
  exact Vals.append h (Vals.rep h k)
theorem KH(its:List Value):∀(k:Nat) (acc:List Value),
  List.foldl (λx1 x2=>x1++x2) acc.toArray (aV k its.toArray)=(acc++(aV k its).flatten).toArray
 | 0,acc=>by simp
 | k+1,acc=>by
  have e:acc.toArray++its.toArray=(acc++its).toArray:=by simp
  have e2:(acc++its)++(aV k its).flatten=acc++(aV (k+1) its).flatten:=by
   rw[sY,vC,eC]
  rw[<-e2,<- KH its k (acc++its),<- e,sY,vD]
section
variable{X:Cx}{pins:List (Addr × Obj)}{σ:St}{H:Hp}{s:Shared}{l b:Addr}{xs ys zs:List V}
theorem Inv.Yq{its its':List Value}{n:Nat}{f:Array Value->Array Value}{t':Nat}(I:Inv X pins σ H s)(hH:H l=some (.lst xs))
  (e:s.heap.get? l=some { cls:=.type "list",data:=.seq its.toArray n }) (hf:f its.toArray=its'.toArray) (hv:Vals ys its') (hz:ys.length<=sizeLine) :
  Inv X pins σ (upd H l (.lst ys)) { s with heap:=s.heap.update l (AE f),toks:=t' }:=by
 have q:=PySem.IsL.update e f
 rw[hf]at q
 refine I.write (x:=l) (e:=l) (by rw[hH];exact trivial) (.inl rfl) (λb' u hb hu=>(sW s.heap (AE f) (e7 hb)).trans hu) ⟨_,q⟩ ?_
 exact⟨hz,its',_,hv,q⟩
theorem Inv.KI{its:List Value}{t':Nat}(I:Inv X pins σ H s)(hv:Vals ys its)(hz:ys.length<=sizeLine) :
  Inv X pins σ (upd H s.heap.objs.size (.lst ys)) { s with heap:=s.heap.push { cls:=.type "list",data:=.seq its.toArray },toks:=t' } :=
 I.laid (λ_ _ q=>fO _ q) (bE _) ⟨hz,its,0,hv,gG _ rfl⟩
theorem Inv.fresh(I:Inv X pins σ H s):H s.heap.objs.size=none:=I.aI.fresh (bE _)
theorem Inv.Bu(I:Inv X pins σ H s)(hH:H l=some (.lst xs)):xs.length<=sizeLine/\∃(its:List Value) (n:Nat),Vals xs its/\xs.length=its.length/\s.heap.get? l=some { cls:=.type "list",data:=.seq its.toArray n }:=by
 obtain⟨z,its,n,r,e⟩:=I.aI l _ hH
 exact⟨z,its,n,r,r.length,e⟩
theorem Yr{n:Nat}(h:n<=sizeLine):Jm n=false:=by
 unfold Jm
 exact decide_eq_false (by omega)
end
section
variable{X:Cx}
noncomputable def Ys:V->List V->Hp->VK->Prop:=λx vs H Q=>∃l xs y,x=.ref l/\vs=[y]/\H l=some (.lst xs)/\xs.length<sizeLine/\Q .au (upd H l (.lst (xs++[y])))
theorem KJ:Yp X "list.append" Ys:=by
 intro pins s σ H x vs v us Q I rx rv h
 obtain⟨l,xs,y,rfl,rfl,hH,hz,q⟩:=h
 cases rx
 obtain⟨u,rfl,ru⟩:=rv.one
 obtain⟨z,its,n,r,hl,e⟩:=I.Bu hH
 refine call_meets F.slot_list_append ⟨_,e,rfl⟩ F.entry_list_append (F.args_list_append_2 _ _) (PySem.list_append l its.toArray n u (by rw[dU];omega)) ⟨e,?_⟩
 refine⟨.au,_,I.Yq (its':=its++[u]) hH e (by simp) (r.append (.cons ru .nil)) ?_,rfl,q⟩
 rw[eO,p8]
 omega
noncomputable def Yt:R2:=λx y H Q=>∃l b xs zs,x=.ref l/\y=.ref b/\H l=some (.lst xs)/\H b=some (.lst zs)/\xs.length+zs.length<=sizeLine/\∀p,H p=none->Q (.ref p) (upd H p (.lst (xs++zs)))
theorem KL:cC X (binaryOp .Add) Yt:=by
 intro pins s σ H x y v u Q I rx ry h
 obtain⟨l,b,xs,zs,rfl,rfl,hH,hB,hz,q⟩:=h
 cases rx
 cases ry
 obtain⟨z,its,n,r,hl,e⟩:=I.Bu hH
 obtain⟨z2,KN,n2,r2,Bv,e2⟩:=I.Bu hB
 refine PySem.P.add_list e e2 ?_ (by rw[dU,dU];omega)
 have ea:its.toArray++KN.toArray=(its++KN).toArray:=by simp
 rw[ea]
 exact⟨.ref _,_,I.KI (t':=s.toks) (r.append r2) (by rw[eO];omega),rfl,q _ I.fresh⟩
noncomputable def Yu:R2:=λx y H Q=>∃l k xs,x=.ref l/\y=.int k/\H l=some (.lst xs)/\-(2 ^ 63)<=k/\k<2 ^ 63/\xs.length*k.toNat<=sizeLine /\
 ∀p,H p=none->Q (.ref p) (upd H p (.lst (aV k.toNat xs).flatten))
theorem Yv{α:Type}(xs:List α)(k:Nat):(aV k xs).flatten.length=k*xs.length:=by
 induction k with
 | zero=>simp
 | succ k ih=>rw[sY,vC,eO,ih,Nat.succ_mul,xE]
theorem Yw:cC X (binaryOp .Mult) Yu:=by
 intro pins s σ H x y v u Q I rx ry h
 obtain⟨l,k,xs,rfl,rfl,hH,h1,h2,hz,q⟩:=h
 cases rx
 obtain⟨t,rfl⟩:=ry
 obtain⟨z,its,n,r,hl,e⟩:=I.Bu hH
 have hlen:its.toArray.size*k.toNat<=sizeLine:=by rw[dU,<- hl];exact hz
 have Yx:¬ its.toArray.size*k.toNat>(2 ^ 63-1)/8:=by
  have:(sizeLine:Nat)<=(2 ^ 63-1)/8:=by decide
  omega
 have Yy:¬ (!Builtin.List.listFitsIndex k)=true:=by
  rw[fitsIndex_both h1 h2]
  exact jf
 have Yz:¬ Jm (its.toArray.size*k.toNat)=true:=by
  rw[Yr hlen]
  exact jf
 have YA:List.foldl (λx1 x2=>x1++x2) #[] (aV (if its.toArray.isEmpty=true then 0 else k.toNat) its.toArray)=(aV k.toNat its).flatten.toArray:=by
  have f0:∀m:Nat,List.foldl (λx1 x2=>x1++x2) #[] (aV m its.toArray)=(aV m its).flatten.toArray:=λm=>by
   have:=KH its m []
   rw[p9]at this
   exact this
  rw[f0]
  cases its with
  | nil=>simp
  | cons a r'=>rw[if_neg (by simp)]
 refine wpAny_binaryOp_repeat_ref (T:="list") (U:="int") (by decide) ⟨_,e,rfl⟩ (λs'=>typeIs_int s' k t) noFill_list_mul F.fills_int_mul F.slot_int_rmul repeat_list F.slot_int_index.lookup
  (call_meets F.slot_int_rmul (typeIs_int s k t) F.entry_int_rmul (F.args_int_rmul_2 _ _) (int___rmul___int_list k t l its.toArray n)
   ⟨e,rfl,⟨_,e,rfl⟩,call_meets F.slot_list_mul ⟨_,e,rfl⟩ F.entry_list_mul (F.args_list_mul_2 _ _) (AutoListH.list___mul___list_int_3 l its.toArray n k t Yy Yx Yz) ⟨e,?_⟩⟩)
 rw[YA]
 exact⟨.ref _,_,I.KI (t':=s.toks) (r.rep k.toNat) (by rw[Yv,nt];exact hz),rfl,q _ I.fresh⟩
end
section
variable{prog:Program}{w:World}{A:Around}{E:Value->Shared->Prop}{s:Shared}
end
section
variable{X:Cx}
end
end L2
namespace Att
open PySem PySem.W PySem.Calls PyProof.Rows
theorem YB{P:Params}{h:Heap}:∀(ns:List Int) (vs:List Value),WellAll P h vs (ns.map WData.int)->IntsAre vs ns:=by
 intro ns
 induction ns with
 | nil =>
  intro vs w
  rw[jH]at w
  cases w
  exact .nil
 | cons n ns ih =>
  intro vs w
  rw[da]at w
  cases w with
  | cons a b =>
   cases a
   exact .cons _ _ (ih _ b)
theorem YC{l:OpenLaw}{n:Nat}(hn:l.most=some n){P:Params}{h:Heap}{args:List WData}{vals:List Value}
  (Bw:l.row.toRowW.claim.pre args=true) (ER:WellAll P h vals args) :
  ∃a vs ns,vals=[fq a]/\args=[WData.list (ns.map WData.int)]/\h.get? a=some { cls:=.type "list",data:=.seq vs.toArray }/\IntsAre vs ns/\ns.length<=n:=by
 have yh:WShape.hasAll [] args [.list .int]=true:=(pre_splitW Bw).1
 have hc:l.pre.holds [] { args:=args }=true:=(pre_splitW Bw).2
 obtain⟨d,r,rfl,h1,h2⟩:=hasAllW_cons yh
 obtain rfl:=hasAllW_nil h2
 obtain⟨xs,rfl,h3⟩:=hasW_list h1
 obtain⟨ns,rfl⟩:=items_int h3
 have hlen:ns.length<=n:=by
  unfold OpenLaw.pre at hc
  have h4:(WTm.not (.lt (.lit (.int (n:Int))) (.len (.arg 0)))).holds [] { args:=[.list (ns.map .int)] }=true:=by
   have h4:=(holds_andW hc).1
   rw[hn]at h4
   exact h4
  have h5:=condW_of h4 (w_not (w_lt w_lit (w_len_list (w_arg rfl))))
  rw[bq]at h5
  refine Jn λq=>?_
  have q':(n:Int)<((ns.length:Nat):Int):=by omega
  first
   | (rw[decide_eq_true q']at h5;exact absurd h5 (by decide))
   | (simp at h5;omega)
 cases ER with
 | cons w1 w2 =>
  cases w2
  cases w1 with
  | list ho YD=>exact⟨_,_,ns,rfl,rfl,ho,YB ns _ YD,hlen⟩
theorem YE(l:OpenLaw)(args:List WData):l.row.toRowW.claim.post args (.bool true) args=true :=
 postW_of (r:=l.row.toRowW) (X:=(true==true))
  (show WShape.has [] (.bool true) .bool=true by first | rfl | decide | simp[WShape.has,WShape.arms,WShape.armsAll])
  (show(WTm.eq .res (.lit (.bool true))).value [] { args:=args,res:=some (.bool true),after:=args }=some (.bool (true==true)) from w_eq_bool (w_res rfl) w_lit) rfl
theorem YF{l:OpenLaw}{n:Nat}{q:Program}{loose:List Str}{XP:(Str->Option Value)->Heap->Prop}{YP:World->Heap->Prop}{d:DefRec}
  (hn:l.most=some n) (yi:d.params.defaults=[])
  (call:∀(w:World) (cw bz:Shared) (mg mb:Str->Option Value) (fa:Addr) (o:Obj) (pm cd doc:Value) (a:Addr) (vs:List Value) (ns:List Int),
   Ground q loose [] XP w cw mg mb bz.heap->YP w bz.heap ->
   bz.heap.get? fa=some o->o.data=.func (docDef d.name d.params d.body d.scope pm cd doc)->bz.heap.CodeRec cd d.name->mg d.name=some (.ref fa) ->
   bz.heap.get? a=some { cls:=.type "list",data:=.seq vs.toArray }->IntsAre vs ns->ns.length<=n->bz.gens=#[] ->
   codeAny (model l.prog w) callerA (.call (.ref fa) ⟨[.ref a],[]⟩) (λr s'=>r=.ok (.ret (.bool true))/\OldK bz.heap s'.heap/\s'.os=bz.os/\AllBare s'.gens) bz) :
  WalkO q loose XP YP l.row.toRowW d [] (λf vs=>PySem.call f vs):=by
 intro w cw bz mg mb G Y fa o pm cd doc dV kV ho hd cR hD yj hg args vals as Bw dx3 hrd ER cT
 obtain rfl:dV=.none:=Dflts.none hD yi
 obtain rfl:kV=.none:=Dflts.noKw hD
 obtain⟨a,vs,ns,rfl,rfl,ES,hints,hlen⟩:=YC hn Bw ER
 refine enter_call (codeAny_mono (call w cw bz mg mb fa o pm cd doc a vs ns G Y ho (fd_plain hd) cR yj ES hints hlen hg) λr s' hq=>?_)
 obtain⟨rfl,h2,h3,h4⟩:=hq
 exact⟨.inl ⟨.bool true,.bool true,[],rfl,λ_=>rfl,.bool true,YE l _,λ_=>⟨Jo,λ_ hm=>(nomatch hm)⟩⟩,h2,h3,h4⟩
section
variable{prog:Program}{w:World}{A:Around}{E:Value->Shared->Prop}{s:Shared}{K:Frag}
end
end Att
namespace L2
open PySem PySem.Spec PyProof.Rows
theorem KO:∀{vs:List Value} {ns:List Int},IntsAre vs ns->Vals (ns.map V.int) vs
 | _,_,.nil=>.nil
 | _,_,.cons n t h=>.cons ⟨t,rfl⟩ (KO h)
end L2
namespace L2
open PySem PySem.Spec PyProof.Rows
end L2
/- THE dx6 dx7 (shape;LID,My.* are dx9):
   My.cF: a structure of KP addresses dy0 dy1 dy2 names (classes,dy3);My.Txt K t: a structure (Prop) of KP equations over K;
   My.dy4:{K} {implicit addresses ..} (e1:nsIn K mainGlobals "law"=some (some (.ref f))) (e2:K.lookup f=some ⟨oc,od,.func (fnOf "law" "law" params body scope dV kV doc pm an ay ct),sl⟩) (e3:codeIn K ay "law"=true) ..:∃t,My.Txt K t
(KP tactic k_is has no namespace: write k_is) -/
namespace L2
open PySem PySem.Spec PyProof.Rows
noncomputable def eY(s:Stmt)(j:Nat):Stmt:=match s with
 | .ClassDef _ _ _ body _ _ _ _ _ _ _=>body.getD j (.Pass ⟨0,0,0,0⟩)
 | _=>.Pass ⟨0,0,0,0⟩
noncomputable def mx(s:Stmt):Arguments:=match s with
 | .FunctionDef _ a _ _ _ _ _ _ _ _=>a
 | _=>{ posonlyargs:=[],args:=[],vararg:=none,kwonlyargs:=[],kw_defaults:=[],kwarg:=none,defaults:=[] }
noncomputable def iD(s:Stmt):List Stmt:=match s with
 | .FunctionDef _ _ b _ _ _ _ _ _ _=>b
 | _=>[]
noncomputable def aK(s:Stmt):Scope:=match s with
 | .FunctionDef _ _ _ _ _ _ sc _ _ _=>sc
 | _=>{ kind:=.function,names:=[],isGenerator:=false,isCoroutine:=false }
noncomputable abbrev aP:eP:=λ_ _ _ _ _ _=>False
noncomputable abbrev E0:XK:=λ_ _ _=>False
theorem cL{X:Cx}:jO aP X E0:=λ_ _ _ _ _ _ _ h=>h.elim
structure jQ(K:PySem.W.Frag)(x qual:Str)(st:Stmt)(f:Addr)(fd:FuncData):Prop where
 ex:∃(oc:Value) (od:Option Addr) (kV doc pm:Value) (an:Option Addr) (ay ct:Value) (iB:Array (Option Value)),
  fd=PySem.W.fnOf x qual (mx st) (iD st) (aK st) .none kV doc pm an ay ct/\K.lookup f=some ⟨oc,od,.func fd,iB⟩/\PySem.W.codeIn K ay qual=true
 kp:PySem.W.keepIn K (.ref f)=true
section
variable{P:Program}{w:World}{K:PySem.W.Frag}{mg:Str->Option Value}{base:Heap}
theorem jQ.ok{x qual:Str}{st:Stmt}{f:Addr}{fd:FuncData}{N ps:List Str}{k:Nat}{sp:Sp}(F:jQ K x qual st f fd)(S:aU N ps (aK st))(len:∀vs H Q E,sp vs H Q E->vs.length=ps.length)
  (hJ:∀(ay:Value) (A:Around) (outer:List Env) (s:Shared) (H:Hp) (vs:List V) (Q:VK) (E:XK),bQ k (A.deeper (envOfC qual (aK st) s.heap.objs.size f ay))->sp vs H Q E ->
   ∃t,PSs (iX aP P w K mg base N qual (aK st) f ay A outer s H E).g7 (iD st) t/\t { nx:=λ_ H'=>Q .au H',rt:=Q } (start N vs) H):aH P w K mg base aP (k+1) f fd ps sp:=by
 obtain⟨oc,od,kV,doc,pm,an,ay,ct,iB,rfl,lk,cR⟩:=F.ex
 refine Bp lk cR S len λA outer s H vs Q E hr jr=>?_
 obtain⟨t,h,q⟩:=hJ ay A outer s H vs Q E hr jr
 exact⟨t,h.g7,q⟩
theorem jQ.binds{x qual:Str}{st:Stmt}{f:Addr}{fd:FuncData}{ps:List Str}(F:jQ K x qual st f fd)
  (h:∀(kV doc pm:Value) (an:Option Addr) (ay ct:Value) (us:List Value),us.length=ps.length->bindArgs (PySem.W.fnOf x qual (mx st) (iD st) (aK st) .none kV doc pm an ay ct) ⟨us,[]⟩=pure (ps.zip us)):Binds K fd ps []:=by
 obtain⟨oc,od,kV,doc,pm,an,ay,ct,iB,rfl,lk,cR⟩:=F.ex
 exact .all (h kV doc pm an ay ct)
theorem KQ{x qual:Str}{st:Stmt}{f:Addr}{oc:Value}{od an:Option Addr}{iB:Array (Option Value)}{kV doc pm ay ct:Value}(l:K.lookup f=some ⟨oc,od,.func (PySem.W.fnOf x qual (mx st) (iD st) (aK st) .none kV doc pm an ay ct),iB⟩)
  (c:PySem.W.codeIn K ay qual=true) (k:PySem.W.keepIn K (.ref f)=true):jQ K x qual st f (PySem.W.fnOf x qual (mx st) (iD st) (aK st) .none kV doc pm an ay ct):=⟨⟨oc,od,kV,doc,pm,an,ay,ct,iB,rfl,l,c⟩,k⟩
end
section
variable{X:Cx}
theorem pv(i:Nat){x:Str}{pos:Pos}(hN:X.N[i]?=some x:=by rfl)(hv:nF X.env.scope x:=by first | exact aA rfl | exact cJ (aA rfl) | exact cJ (cJ rfl))(hd:(x==("__debug__":Str))=false:=by decide)
  (cR:(x==("__classdict__":Str))=false:=by decide):PE X (.Name x pos) (J2 i):=vV hN hv hd cR
end
theorem iY{A B:Prop}(h:B):if false=true then A else B:=by
 rw[if_neg jf]
 exact h
theorem qy{A B:Prop}(h:A):if true=true then A else B:=by
 rw[if_pos rfl]
 exact h
end L2
namespace Mf
noncomputable def bl(n:Nat):Nat:=if n=0 then 0 else n.log2+1
theorem ff{n m:Nat}:bl n<=m↔n<2 ^ m:=by
 unfold bl
 by_cases h:n=0
 ·simp[h,xF]
 ·rw[if_neg h]
  rw[<-Nat.log2_lt h]
  omega
theorem ET{n m:Nat}:m<bl n↔2 ^ m<=n:=by
 have:=@ff n m
 omega
theorem js(n:Nat):n<2 ^ bl n:=ff.mp (bE _)
theorem KR{n:Nat}(h:n≠0):2 ^ (bl n-1)<=n:=by
 have:0<bl n:=by unfold bl;rw[if_neg h];omega
 exact ET.mp (by omega)
theorem iE{n:Nat}(h:n≠0):0<bl n:=by
 unfold bl;rw[if_neg h];omega
theorem nR:bl 0=0:=rfl
theorem v7{n:Nat}(h:n≠0):n.testBit (bl n-1)=true:=by
 have h1:=KR h
 have h2:=js n
 have hp:=iE h
 have e:bl n=(bl n-1)+1:=by omega
 rw[e,qa]at h2
 rw[VA]
 have:n/2 ^ (bl n-1)=1:=by
  apply Nat.div_eq_of_lt_le
  ·omega
  ·omega
 rw[this];rfl
theorem YG{x n:Nat}(h:∀i,n<=i->x.testBit i=false):x<2 ^ n:=by
 apply Nat.lt_pow_two_of_testBit
 intro i hi
 exact h i hi
theorem KS{x y n:Nat}(hx:x<2 ^ (n+1))(hy:y<2 ^ (n+1))(tx:x.testBit n=true)(ty:y.testBit n=true):x ^^^ y<2 ^ n:=by
 apply YG
 intro i hi
 rw[nu]
 by_cases e:i=n
 ·rw[e,tx,ty];rfl
 ·have gL:n+1<=i:=by omega
  have p:2 ^ (n+1)<=2 ^ i:=xG (by decide) gL
  rw[DK (cB hx p),DK (cB hy p)]
  rfl
theorem KU(x y z:Nat):(x ^^^ y) ^^^ (z ^^^ y)=x ^^^ z:=by
 apply AF;intro i;simp only[nu]
 cases x.testBit i<;>cases y.testBit i<;>cases z.testBit i<;>rfl
theorem KW(x y z t:Nat):(x ^^^ y) ^^^ (z ^^^ t)=(x ^^^ z) ^^^ (y ^^^ t):=by
 apply AF;intro i;simp only[nu]
 cases x.testBit i<;>cases y.testBit i<;>cases z.testBit i<;>cases t.testBit i<;>rfl
noncomputable def P(a b:Nat):Nat->Nat
 | 0=>0
 | k+1=>P a b k ^^^ (if b.testBit k then a <<< k else 0)
noncomputable def cl(a b:Nat):Nat:=P a b (bl b)
theorem KY{a b k:Nat}(h:b<2 ^ k):∀j,P a b (k+j)=P a b k
 | 0=>rfl
 | j+1=>by
  show P a b (k+j) ^^^ (if b.testBit (k+j)then a <<< (k+j)else 0)=_
  rw[KY h j]
  have p:2 ^ k<=2 ^ (k+j):=xG (by decide) (by omega)
  rw[DK (cB h p)]
  simp
theorem v9{a b k:Nat}(h:b<2 ^ k):P a b k=cl a b:=by
 have h1:=ff.mpr h
 have e:k=bl b+(k-bl b):=by omega
 rw[e,KY (js b)]
 rfl
theorem KZ(a a' b:Nat):∀k,P (a ^^^ a') b k=P a b k ^^^ P a' b k
 | 0=>(mf 0).symm
 | k+1=>by
  show P (a ^^^ a') b k ^^^ _=(P a b k ^^^ _) ^^^ (P a' b k ^^^ _)
  rw[KZ a a' b k]
  by_cases t:b.testBit k=true
  ·rw[if_pos t,if_pos t,if_pos t,VB]
   ac_rfl
  ·rw[if_neg t,if_neg t,if_neg t]
   simp
theorem K0(a b b':Nat):∀k,P a (b ^^^ b') k=P a b k ^^^ P a b' k
 | 0=>(mf 0).symm
 | k+1=>by
  show P a (b ^^^ b') k ^^^ _=(P a b k ^^^ _) ^^^ (P a b' k ^^^ _)
  rw[K0 a b b' k,nu]
  cases b.testBit k<;>cases b'.testBit k<;>simp
  ·ac_rfl
  ·ac_rfl
  ·exact(KU _ _ _).symm
theorem qA(a a' b:Nat):cl (a ^^^ a') b=cl a b ^^^ cl a' b:=KZ a a' b _
theorem wa{x y n:Nat}(hx:x<2 ^ n)(hy:y<2 ^ n):x ^^^ y<2 ^ n:=Nat.xor_lt_two_pow hx hy
theorem YH(a b b':Nat):cl a (b ^^^ b')=cl a b ^^^ cl a b':=by
 let k:=bl b+bl b'
 have h1:b<2 ^ k:=ff.mp (by omega)
 have h2:b'<2 ^ k:=ff.mp (by omega)
 rw[<-v9 (wa h1 h2),<- v9 h1,<- v9 h2,K0]
theorem YI(a:Nat):cl a 0=0:=rfl
theorem K1(b:Nat):∀k,P 0 b k=0
 | 0=>rfl
 | k+1=>by
  show P 0 b k ^^^ _=0
  rw[K1 b k];simp
theorem qB(b:Nat):cl 0 b=0:=K1 b _
theorem YJ(b k:Nat):(b/2).testBit k=b.testBit (k+1):=by
 rw[DL]
theorem K2(a b:Nat):∀k,P a b (k+1)=(if b%2=1 then a else 0) ^^^ P (2*a) (b/2) k
 | 0=>by
  show 0 ^^^ _=_ ^^^ 0
  rw[qe,mf,AG]
  simp
 | k+1=>by
  show P a b (k+1) ^^^ _=_ ^^^ (P (2*a) (b/2) k ^^^ _)
  rw[K2 a b k,YJ,sZ]
  have e:a <<< (k+1)=(2*a) <<< k:=by
   rw[kP,kP,qa]
   rw[nt 2 a,vE,nt 2]
  rw[e]
theorem K3{b k:Nat}(h:b<2 ^ (k+1)):b/2<2 ^ k:=by
 rw[qa]at h;omega
theorem K4(a b:Nat):cl a b=(if b%2=1 then a else 0) ^^^ cl (2*a) (b/2):=by
 have h:b<2 ^ (bl b+1):=Nat.lt_trans (js b) (by rw[qa];have:=xF (bl b);omega)
 rw[<-v9 h,K2,v9 (K3 h)]
theorem K5(a b:Nat):∀k,P (2*a) b k=2*P a b k
 | 0=>rfl
 | k+1=>by
  show P (2*a) b k ^^^ _=2*(P a b k ^^^ _)
  rw[K5 a b k]
  have d:∀x y:Nat,2*(x ^^^ y)=2*x ^^^ 2*y:=by
   intro x y
   have h:=@VB 1 x y
   rw[kP,kP,kP,Nat.pow_one]at h
   rw[nt 2 (x ^^^ y),nt 2 x,nt 2 y]
   exact h
  rw[d]
  by_cases t:b.testBit k=true
  ·rw[if_pos t,if_pos t,kP,kP,vE]
  ·rw[if_neg t,if_neg t]
theorem EU(a b:Nat):cl (2*a) b=2*cl a b:=K5 a b _
theorem yk(a c t:Nat)(ht:t<2):cl a (2*c+t)=2*cl a c ^^^ (if t=1 then a else 0):=by
 rw[K4,EU,Jp]
 have e1:(2*c+t)/2=c:=by omega
 have e2:(2*c+t)%2=t:=by omega
 rw[e1,e2]
theorem YK(a c:Nat):cl a (2*c)=2*cl a c:=by
 have h:=yk a c 0 (by decide)
 simpa using h
theorem K6(c t:Nat)(ht:t<2):2*c ^^^ t=2*c+t:=by
 apply AF
 intro i
 cases i with
 | zero =>
  rw[nu,AG,AG,AG]
  have:t=0\/t=1:=by omega
  rcases this with h | h<;>subst h<;>simp<;>omega
 | succ i =>
  rw[nu,DL,DL,DL]
  have e1:2*c/2=c:=by omega
  have e2:t/2=0:=by omega
  have e3:(2*c+t)/2=c:=by omega
  rw[e1,e2,e3];simp
theorem EV:∀b:Nat,cl 1 b=b:=by
 intro b
 induction b using DM with
 | ind b ih =>
  by_cases h:b=0
  ·subst h;rfl
  ·have e:b=2*(b/2)+b%2:=by omega
   rw[e,yk 1 (b/2) (b%2) (by omega),ih (b/2) (by omega)]
   have:b%2=0\/b%2=1:=by omega
   rcases this with h | h
   ·rw[h];simp
   ·rw[h];rw[if_pos rfl];exact K6 _ _ (by decide)
theorem ym:∀b a:Nat,cl a b=cl b a:=by
 intro b
 induction b using DM with
 | ind b ih =>
  intro a
  by_cases h:b=0
  ·subst h;rw[qB];rfl
  ·have e:b=2*(b/2)+b%2:=by omega
   have lt:b%2<2:=by omega
   have e':cl b a=cl (2*(b/2) ^^^ b%2) a:=by rw[K6 _ _ lt,<- e]
   rw[e',qA,EU,<- ih (b/2) (by omega) a]
   have YL:cl a b=cl a (2*(b/2)+b%2):=by rw[<-e]
   rw[YL,yk _ _ _ lt]
   have:b%2=0\/b%2=1:=by omega
   rcases this with h | h
   ·rw[h,qB];rfl
   ·rw[h,EV];rfl
theorem EW{a m:Nat}(h:a<2 ^ m)(b:Nat):∀k,P a b (k+1)<2 ^ (m+k)
 | 0=>by
  show 0 ^^^ _<_
  rw[qe,Nat.add_zero]
  by_cases t:b.testBit 0=true
  ·rw[if_pos t];simpa using h
  ·rw[if_neg t];exact xF m
 | k+1=>by
  show P a b (k+1) ^^^ _<_
  have i:=EW h b k
  have p:2 ^ (m+k)<=2 ^ (m+(k+1)):=xG (by decide) (by omega)
  apply wa (cB i p)
  by_cases t:b.testBit (k+1)=true
  ·rw[if_pos t,kP,Nat.pow_add 2 m]
   exact(VC (xF _)).mpr h
  ·rw[if_neg t];exact xF _
theorem YM{a b m n:Nat}(h:a<2 ^ m)(h':b<2 ^ (n+1)):cl a b<2 ^ (m+n):=by
 rw[<-v9 h'];exact EW h b n
theorem YN{a b:Nat}(ha:a≠0)(hb:b≠0):2 ^ (bl a-1+(bl b-1))<=cl a b:=by
 have e:bl b=(bl b-1)+1:=by have:=iE hb;omega
 have ta:=v7 ha
 have tb:=v7 hb
 apply Nat.ge_two_pow_of_testBit
 unfold cl
 rw[e]
 show(P a b (bl b-1) ^^^ _).testBit _=true
 have e2:bl b-1+1-1=bl b-1:=by omega
 rw[e2,nu,if_pos tb]
 have f:(P a b (bl b-1)).testBit (bl a-1+(bl b-1))=false:=by
  cases q:bl b-1 with
  | zero=>show Nat.testBit 0 _=false;exact Nat.zero_testBit _
  | succ k =>
   apply DK
   have l:=EW (js a) b k
   have p:=iE ha
   have e3:bl a-1+(k+1)=bl a+k:=by omega
   rw[e3];exact l
 rw[f,VD]
 have e4:bl a-1+(bl b-1)-(bl b-1)=bl a-1:=by omega
 rw[e4,ta]
 simp
theorem K7{a b:Nat}(ha:a≠0)(hb:b≠0):bl (cl a b)=bl a+bl b-1:=by
 have p1:=iE ha
 have p2:=iE hb
 have h1:bl (cl a b)<=bl a+(bl b-1):=ff.mpr (YM (js a) (by
  have e:bl b-1+1=bl b:=by omega
  rw[e];exact js b))
 have h2:=ET.mpr (YN ha hb)
 omega
theorem K8(s b:Nat):cl (2 ^ s) b=b <<< s:=by
 induction s with
 | zero=>rw[Nat.pow_zero,EV];rfl
 | succ s ih =>
  rw[qa,nt,EU,ih,kP,kP,qa]
  rw[<-vE,nt 2,vE,nt 2,<- vE,vE]
theorem YO{a q b r s:Nat}(h:a=cl q b ^^^ r):a=cl (q ^^^ 2 ^ s) b ^^^ (r ^^^ b <<< s):=by
 rw[qA,K8,h,KU]
theorem K9{b r:Nat}(hb:b≠0)(h:bl b<=bl r):bl (r ^^^ b <<< (bl r-bl b))<bl r:=by
 have p:=iE hb
 have hr:r≠0:=by
  intro z;rw[z,nR]at h;omega
 have:r ^^^ b <<< (bl r-bl b)<2 ^ (bl r-1):=by
  apply KS
  ·have e:bl r-1+1=bl r:=by omega
   rw[e];exact js r
  ·have e:bl r-1+1=bl b+(bl r-bl b):=by omega
   rw[e,kP,Nat.pow_add]
   exact(VC (xF _)).mpr (js b)
  ·exact v7 hr
  ·rw[VD]
   have e:bl r-1-(bl r-bl b)=bl b-1:=by omega
   rw[e,v7 hb]
   simp;omega
 have:=ff.mpr this
 omega
theorem YQ{x y z:Nat}(h:x ^^^ y=z):x=z ^^^ y:=by
 rw[<-h,sZ,AH,mf]
theorem EX{x y:Nat}(h:x ^^^ y=0):x=y:=by
 have:=YQ h
 rwa [qe]at this
theorem YR{b q r q' r':Nat}(h:cl q b ^^^ r=cl q' b ^^^ r')(hr:bl r<bl b)(aZ:bl r'<bl b):q=q'/\r=r':=by
 have hb:b≠0:=by intro z;rw[z,nR]at hr;omega
 have e:cl (q ^^^ q') b=r ^^^ r':=by
  rw[qA]
  have z:(cl q b ^^^ r) ^^^ (cl q' b ^^^ r')=0:=by rw[h,AH]
  rw[KW]at z
  exact EX z
 have lt:bl (r ^^^ r')<bl b:=by
  have h1:r<2 ^ (bl b-1):=ff.mp (by omega)
  have h2:r'<2 ^ (bl b-1):=ff.mp (by omega)
  have:=ff.mpr (wa h1 h2)
  have:=iE hb
  omega
 have z:q ^^^ q'=0:=by
  apply DN
  intro hq
  have h1:=K7 hq hb
  have h2:=iE hq
  rw[e]at h1
  omega
 have zq:=EX z
 subst zq
 rw[z,qB]at e
 exact⟨rfl,EX e.symm⟩
end Mf
namespace Mf
open PySem PySem.Builtin.Int
theorem YS(x y:Nat):(x ^^^ y)+2*(x &&& y)=x+y:=by
 induction x using DM generalizing y with
 | ind x ih =>
  by_cases h:x=0
  ·subst h;simp
  ·have h1:=ih (x/2) (by omega) (y/2)
   have e1:(x ^^^ y)/2=x/2 ^^^ y/2:=Nat.xor_div_two
   have e2:(x &&& y)/2=x/2 &&& y/2:=Nat.and_div_two
   have t:∀n:Nat,n%2=if n.testBit 0=true then 1 else 0:=by
    intro n
    rw[AG]
    by_cases h:n%2=1
    ·simp[h]
    ·simp[h];omega
   have m1:(x ^^^ y)%2=(x%2+y%2)%2:=by
    rw[t (x ^^^ y),t x,t y,nu]
    cases x.testBit 0<;>cases y.testBit 0<;>rfl
   have m2:(x &&& y)%2=x%2*(y%2):=by
    rw[t (x &&& y),t x,t y,Jq]
    cases x.testBit 0<;>cases y.testBit 0<;>rfl
   have d1:=Nat.div_add_mod (x ^^^ y) 2
   have d2:=Nat.div_add_mod (x &&& y) 2
   rw[e1]at d1
   rw[e2]at d2
   have hx:x%2=0\/x%2=1:=by omega
   have hy:y%2=0\/y%2=1:=by omega
   rcases hx with hx | hx<;>rcases hy with hy | hy<;>rw[hx,hy]at m1 m2<;>omega
theorem La{x y:Int}(hx:0<=x)(hy:0<=y):pX x y=((x.toNat &&& y.toNat:Nat):Int):=by
 unfold pX
 rw[decide_eq_true hx,decide_eq_true hy]
theorem YT{x y:Int}(hx:0<=x)(hy:0<=y):Builtin.bitOr x y=((x.toNat ||| y.toNat:Nat):Int):=by
 unfold Builtin.bitOr pX Builtin.bitNot
 rw[decide_eq_false (by omega),decide_eq_false (by omega)]
 show-(-((((- (-x-1)-1).toNat ||| (-(-y-1)-1).toNat:Nat):Int))-1)-1=_
 have e1:(- (-x-1)-1).toNat=x.toNat:=by omega
 have e2:(- (-y-1)-1).toNat=y.toNat:=by omega
 rw[e1,e2]
 omega
theorem YU(x y:Nat):(x ||| y)=(x ^^^ y)+(x &&& y):=by
 have d:(x ^^^ y) &&& (x &&& y)=0:=by
  apply AF;intro i
  simp only[nu,Jq,Nat.zero_testBit]
  cases x.testBit i<;>cases y.testBit i<;>rfl
 have e:(x ||| y)=(x ^^^ y) ^^^ (x &&& y):=by
  apply AF;intro i
  simp only[nu,Jq,Nat.testBit_or]
  cases x.testBit i<;>cases y.testBit i<;>rfl
 have h:=YS (x ^^^ y) (x &&& y)
 rw[d]at h
 rw[e];omega
theorem YV{x y:Int}(hx:0<=x)(hy:0<=y):pY x y=((x.toNat ^^^ y.toNat:Nat):Int):=by
 unfold pY
 rw[YT hx hy,La hx hy,YU]
 omega
theorem nS(x y:Nat):pY (x:Int) (y:Int)=((x ^^^ y:Nat):Int):=by
 rw[YV (by omega) (by omega)];rfl
theorem Lb(x y:Nat):pX (x:Int) (y:Int)=((x &&& y:Nat):Int):=by
 rw[La (by omega) (by omega)];rfl
theorem wb(x k:Nat):(x:Int)*2 ^ ((k:Int)).toNat=((x <<< k:Nat):Int):=by
 rw[kP]
 simp
theorem YW(x k:Nat):(x:Int)/2 ^ ((k:Int)).toNat=((x >>> k:Nat):Int):=by
 rw[VE]
 simp
theorem YX(x k:Nat):((x >>> k) &&& 1=1)↔x.testBit k=true:=by
 rw[VA,VE]
 have:(x/2 ^ k) &&& 1=(x/2 ^ k)%2:=Nat.and_two_pow_sub_one_eq_mod _ 1
 rw[this]
 simp
end Mf
namespace Mf
end Mf
namespace Mf
theorem Lc(a b:Nat):∀c,cl (cl a b) c=cl a (cl b c):=by
 intro c
 induction c using DM with
 | ind c ih =>
  by_cases h:c=0
  ·subst h;rfl
  ·have e:c=2*(c/2)+c%2:=by omega
   have lt:c%2<2:=by omega
   have i:=ih (c/2) (by omega)
   rw[e,yk _ _ _ lt,yk _ _ _ lt,i,YH,YK]
   have:c%2=0\/c%2=1:=by omega
   rcases this with h | h
   ·rw[h];rfl
   ·rw[h];rfl
noncomputable def wc:Nat->Nat->Nat->Nat
 | 0,a,_=>a
 | n+1,a,b=>if bl a<bl b then a else wc n (a ^^^ b <<< (bl a-bl b)) b
noncomputable def md(a b:Nat):Nat:=wc (bl a+1) a b
theorem Ld{b:Nat}(hb:b≠0):∀n a,bl a<n->(∃q,a=cl q b ^^^ wc n a b)/\bl (wc n a b)<bl b
 | 0,_,h=>absurd h (by omega)
 | n+1,a,h=>by
  unfold wc
  by_cases l:bl a<bl b
  ·rw[if_pos l]
   exact⟨⟨0,by rw[qB,qe]⟩,l⟩
  ·rw[if_neg l]
   have less:=K9 hb (show bl b<=bl a by omega)
   obtain⟨⟨q,e⟩,l2⟩:=Ld hb n (a ^^^ b <<< (bl a-bl b)) (by omega)
   refine⟨⟨q ^^^ 2 ^ (bl a-bl b),?_⟩,l2⟩
   rw[qA,K8]
   have e2:a=(a ^^^ b <<< (bl a-bl b)) ^^^ b <<< (bl a-bl b):=by rw[sZ,AH,mf]
   rw[e]at e2
   refine e2.trans ?_
   generalize wc n _ b=r
   rw[sZ,Jp r,<- sZ]
theorem yn{b:Nat}(hb:b≠0)(a:Nat):(∃q,a=cl q b ^^^ md a b)/\bl (md a b)<bl b:=Ld hb _ a (by omega)
theorem yo{a b q r:Nat}(h:a=cl q b ^^^ r)(hr:bl r<bl b):md a b=r:=by
 have hb:b≠0:=by intro z;rw[z,nR]at hr;omega
 obtain⟨⟨q',e⟩,l⟩:=yn hb a
 exact(YR (e.symm.trans h) l hr).2
theorem YY(q:Nat){b:Nat}(hb:b≠0):md (cl q b) b=0 :=
 yo (q:=q) (by rw[mf]) (by rw[nR];exact iE hb)
end Mf
namespace Mf
theorem YZ(y:Nat):bl (y/2)=bl y-1:=by
 by_cases h:y=0
 ·subst h;rfl
 ·have p:=iE h
  have h1:bl (y/2)<=bl y-1:=ff.mpr (K3 (by
   have e:bl y-1+1=bl y:=by omega
   rw[e];exact js y))
  have h2:bl y<=bl (y/2)+1:=ff.mpr (by
   have:=js (y/2)
   rw[qa];omega)
  omega
theorem Y0(x:Nat):bl (2*x)<=bl x+1:=ff.mpr (by
 have:=js x
 rw[qa];omega)
theorem EY{x y:Nat}(h:x<=y):bl x<=bl y:=ff.mpr (nv h (js y))
end Mf
namespace Mf
noncomputable def al(a:Nat):Bool:=decide (2<=a)&&(aL (2 ^ ((bl a-1)/2+1)-2)).all λi=>md a (2+i) != 0
theorem Y1{a:Nat}(h:a<2):al a=false:=by
 unfold al;rw[decide_eq_false (by omega)];rfl
theorem Y2{a:Nat}(h:2<=a)(k:∀i,i<2 ^ ((bl a-1)/2+1)-2->md a (2+i)≠0):al a=true:=by
 unfold al
 rw[decide_eq_true h,kQ,dy]
 intro i hi
 have:=k i (bU.mp hi)
 simpa using this
theorem Y3{a i:Nat}(k:i<2 ^ ((bl a-1)/2+1)-2)(z:md a (2+i)=0):al a=false:=by
 unfold al
 rw[Bool.and_eq_false_iff]
 right
 rw[List.all_eq_false]
 exact⟨i,bU.mpr k,by simp[z]⟩
theorem Y4{a:Nat}(h:2<=a){b:Nat}(hb:b<2 ^ ((bl a-1)/2+1)):b<a/\2*bl b<=bl a+1:=by
 have h2:2<=bl a:=by
  have:=ET.mpr (show 2 ^ 1<=a by omega)
  omega
 have l:=ff.mpr hb
 refine⟨cB hb (fG (xG (by decide) ?_) (KR (by omega))),by omega⟩
 omega
end Mf
namespace L2
open PySem PySem.Spec PyProof.Rows Mf
theorem gM:bootBuiltins "len"=some (.builtin "len"):=by decide +kernel
theorem Le:bootBuiltins "isinstance"=some (.builtin "isinstance"):=by decide +kernel
theorem Y5:bootBuiltins "min"=some (.builtin "min"):=by decide +kernel
theorem yp:bootBuiltins "all"=some (.builtin "all"):=by decide +kernel
theorem EZ:bootBuiltins "any"=some (.builtin "any"):=by decide +kernel
theorem Y6:bootBuiltins "sum"=some (.builtin "sum"):=by decide +kernel
theorem Lf:bootBuiltins "int"=some (.type "int"):=by decide +kernel
theorem Lg:bootBuiltins "bool"=some (.type "bool"):=by decide +kernel
theorem Bz:bootBuiltins "list"=some (.type "list"):=by decide +kernel
theorem Y7:bootBuiltins "ValueError"=some (.type "ValueError"):=by decide +kernel
section
variable{X:Cx}{a b o:Expr}{ta tb to:TE}{pos apos cj:Pos}
theorem Lh(i:Int):Builtin.Int.intBits i=bl i.natAbs:=by
 unfold Builtin.Int.intBits bl
 by_cases h:i=0
 ·subst h;rfl
 ·have h':¬ i.natAbs=0:=by omega
  rw[if_neg h',if_neg (by simpa using h)]
noncomputable def Li:V->List V->Hp->VK->Prop:=λx vs H Q=>∃i,x=.int i/\vs=[]/\Q (.int (bl i.natAbs:Nat)) H
theorem Y8:Br X "int.bit_length" Li:=by
 intro pins s σ H x xs v us Q I rx rs h
 obtain⟨i,rfl,rfl,q⟩:=h
 obtain⟨t,rfl⟩:=rx
 cases rs
 refine call_int_bit_length ?_
 rw[Lh]
 exact⟨.int _,H,I.tok _,⟨_,rfl⟩,q⟩
theorem E1(ho:PE X o to)(nO:attributeBase o "bit_length" X.env (eval o X.env)=eval o X.env:=by rfl)(nQ:(apos.endLine==cj.line)=true:=by rfl) :
  PE X (.Call (.Attribute o "bit_length" apos) [] [] cj) (KG X.K "int" Li to) :=
 Yn PySem.F.plainAttrs_int PySem.F.slot_int_bit_length PySem.F.type_int_bit_length Y8 ho nO nQ
noncomputable def Lj(i j:Int):Prop:=0<=j/\((bl i.natAbs:Nat):Int)+j<=134217728
theorem Lk:cC X (binaryOp .LShift) (rI Lj λi j=>.int (i*2 ^ j.toNat)):=yd λi j _ _ _ _ _ hc q =>
 lshift_int hc.1 (by rw[Lh];exact Int.le_trans hc.2 (by decide)) q
theorem Ll{x:Str}{n:String}(hg:Gl X x)(hm:X.mg x=none)(hv:bootBuiltins x=some (.type n))(hn:x≠"__name__":=by decide)(hd:(x==("__debug__":Str))=false:=by decide):PE X (.Name x pos) (tC (.ty n)) :=
 Wl hg hm hv rfl hn hd
noncomputable def Y9(K:PySem.W.Frag):List V->Hp->VK->Prop:=λxs H Q=>∃x n t b,xs=[x,.ty n]/\iA K H x t/\PySem.W.kitOne K t (.type n)=some b/\Q (.bl b) H
theorem Za:gu X (.builtin "isinstance") (Y9 X.K):=by
 intro pins s σ H xs us Q I r h
 obtain⟨x,n,t,b,rfl,ty,e,q⟩:=h
 obtain⟨u,v,rfl,ru,rv⟩:=r.two
 cases(show v=Value.type n from rv)
 exact Km I ru ty e λtk=>⟨.bl b,H,I.tok _,rfl,q⟩
end
theorem Zb(b i:Nat):decide (V.int (pX ((b:Int)/2 ^ ((0:Int)+(i:Int)).toNat) 1)=V.int 1)=b.testBit i:=by
 have e:((0:Int)+(i:Int)).toNat=((i:Int)).toNat:=by omega
 rw[e,YW,show(1:Int)=((1:Nat):Int) from rfl,Lb,qf,decide_eq_true_iff,<- YX]
 constructor
 ·intro h;injection h with h;omega
 ·intro h;rw[h]
theorem Zc{a b i:Nat}(h:b.testBit i=true):pY ((P a b i:Nat):Int) ((a:Int)*2 ^ ((0:Int)+(i:Int)).toNat)=((P a b (i+1):Nat):Int):=by
 have e:((0:Int)+(i:Int)).toNat=((i:Int)).toNat:=by omega
 rw[e,wb,nS]
 show _=((P a b i ^^^ (if b.testBit i then a <<< i else 0):Nat):Int)
 rw[if_pos h]
theorem Ze{a b i:Nat}(h:¬ b.testBit i=true):P a b (i+1)=P a b i:=by
 show P a b i ^^^ (if b.testBit i then a <<< i else 0)=_
 rw[if_neg h,mf]
theorem dI{i j:Int}:decide (V.int i=V.int j)=true↔i=j:=by
 rw[decide_eq_true_iff]
 exact⟨λh=>by injection h,λh=>by rw[h]⟩
end L2
namespace L2
open PySem PySem.Spec PyProof.Rows
section
variable{X:Cx}
end
end L2
namespace L2
open PySem PySem.Spec PyProof.Rows
noncomputable def BA(X:Cx)(scope:Scope)(N:List Str)(cl:List (Str × Addr))(C:Addr)(s:Shared)(H:Hp)(fp:List Addr):Cx where
 prog:=X.prog
 w:=X.w
 K:=X.K
 mg:=X.mg
 base:=X.base
 A:=X.A
 N:=N
 cw:=s
 jK:=H
 env:=compEnvC scope cl C X.env
 outer:=X.stack
 stack:=X.stack
 ex:=fp
 fn:=λ_=>false
 calm:=X.calm
 pn:=[]
 xe:=λ_ _=>False
noncomputable def my(X:Cx)(scope:Scope)(cl:List (Str × Addr)):List (Str × Nat)->Prop
 | []=>True
 | (y,i)::r=>(X.N[i]?=some y/\(X.env.scope.names.lookup y=some .cell\/X.env.scope.names.lookup y=some .free)/\((relabel scope X.env).names.lookup y=some .cell\/(relabel scope X.env).names.lookup y=some .free)/\∃c,cl.lookup y=some c/\X.env.cells.lookup y=some c)/\my X scope cl r
theorem my.at{X:Cx}{scope:Scope}{cl:List (Str × Addr)}:∀{az:List (Str × Nat)},my X scope cl az->∀p∈az,X.N[p.2]?=some p.1/\(X.env.scope.names.lookup p.1=some .cell\/X.env.scope.names.lookup p.1=some .free)/\((relabel scope X.env).names.lookup p.1=some .cell\/(relabel scope X.env).names.lookup p.1=some .free)/\∃c,cl.lookup p.1=some c/\X.env.cells.lookup p.1=some c
 | [],_,p,hp=>absurd hp (by simp)
 | (y,i)::r,h,p,hp=>by
  rcases bR.mp hp with e | e
  ·subst e;exact h.1
  ·exact my.at h.2 p e
noncomputable def mB(Y:Cx)(ifs:List Expr)(t:TT):Prop :=
 ∀(pins:List (Addr × Obj)) (s:Shared) (σ:St) (H:Hp) (Q:Bool->Hp->Prop),Inv Y pins σ H s->t σ H Q ->
  wpAny (model Y.prog Y.w) Y.A (forIn ifs true λc r=>if r=true then do let ok<-isTrue c Y.env (eval c Y.env);pure (DO ok)else pure (DO r)) (TP Y pins σ Q) Y.xe s
noncomputable def Zf:TT:=λ_ H Q=>Q true H
theorem Zg{Y:Cx}:mB Y [] Zf:=λ_ _ _ H _ I h=>wpAny_tests_nil ⟨H,I,h⟩
theorem Zh{Y:Cx}{c:Expr}{t:TT}(h:PT Y c t):mB Y [c] t:=λpins s σ H Q I q=>wpAny_tests_one (h pins s σ H Q I q)
section
variable{X:Cx}{elt iter:Expr}{x:Str}{px pos:Pos}{ifs:List Expr}{scope:Scope}{cl:List (Str × Addr)}{az:List (Str × Nat)}{wi:TI}{tt:TT}{te:TE}
end
section
variable{prog:Program}{w:World}{A:Around}{R:Result->Shared->Prop}{s:Shared}
theorem Zi{elt target iter:Expr}{ifs:List Expr}{scope:Scope}{pos:Pos}{it acc:Value}{env:Env}(Iv:Nat->Shared->Prop)
  (turn:∀n s,Iv n s->wpAny (model prog w) A (pyNext it) (λr s1=>match r with
   | none=>R (.ok .next) s1
   | some v=>wpAny (model prog w) A (letOwnedTupleGo target it v) (λ_ t1=>wpAny (model prog w) A (assign target env v) (λ_ s2 =>
     wpAny (model prog w) A (forIn ifs true λc r=>if r=true then do let ok<-isTrue c env (eval c env);pure (DO ok)else pure (DO r)) (λok s3 =>
      if ok=true then wpAny (model prog w) A (eval elt env) (λy s4=>wpAny (model prog w) A (call (.builtin "list.append") [acc,y]) (λ_ s5=>∃m,m<n/\Iv m s5) (λ_ _=>False) s4) (λ_ _=>False) s3
      else ∃m,m<n/\Iv m s3) (λ_ _=>False) s2) (λ_ _=>False) t1) (λ_ _=>False) s1) (λ_ _=>False) s)
  (n:Nat) (h:Iv n s):codeAny (model prog w) A (.compLoop (.ListComp elt [⟨target,iter,ifs,0⟩] scope pos) 0 it acc env) R s:=by
 refine codeAny_loop rfl Iv (λn s hI=>?_) n h
 change wpAny _ A (Sem.onRaise (compTurn (.ListComp elt [⟨target,iter,ifs,0⟩] scope pos) 0 it acc env) λx=>do noteFrame x env;theTreesLotGoes x) _ _ s
 refine wpAny_noted (wpAny_mono (E:=λ_ _=>False) ?_ (λ_ _ q=>q) λ_ _ z=>z.elim)
 rw[compTurn_list]
 refine wpAny_bind (wpAny_standAt (wpAny_bind (aS (turn n s hI) λr s1 h1=>?_)))
 cases r with
 | none=>exact wpAny_pure h1
 | some v =>
  refine wpAny_bind (aS h1 λ_ t1 k1=>wpAny_bind (aS k1 λ_ s2 h2=>wpAny_bind (aS h2 λok s3 h3=>?_)))
  cases ok with
  | false=>exact wpAny_pure ⟨rfl,h3⟩
  | true=>exact wpAny_bind (wpAny_bind (aS h3 λy s4 h4=>wpAny_bind (aS h4 λ_ s5 h5=>wpAny_pure (wpAny_pure ⟨rfl,h5⟩))))
end
section
variable{X:Cx}{elt iter:Expr}{x:Str}{px pos:Pos}{ifs:List Expr}{scope:Scope}{cl:List (Str × Addr)}{az:List (Str × Nat)}{wi:TI}{tt:TT}{te:TE}
end
end L2
namespace L2
open PySem PySem.Spec PyProof.Rows
section
variable{X:Cx}
theorem Lm{bs:List Bool}{us:List Value}(r:Vals (bs.map V.bl) us):bs.length=us.length/\∀(i:Nat) (v:Value),us[i]?=some v->∃b,bs[i]?=some b/\v=.bool b:=by
 have l:=r.length
 rw[bq]at l
 refine⟨l,λi v e=>?_⟩
 have hi:i<us.length:=(km.mp e).1
 have hb:i<bs.length:=by omega
 obtain⟨u,e2,q⟩:=r.get (i:=i) (x:=V.bl bs[i]) (by rw[cu,aM hb];rfl)
 rw[e]at e2
 cases e2
 exact⟨bs[i],aM hb,q⟩
theorem BB{s:Shared}{h':Heap}{o:Obj}(hk:∀b x,b ∉ [s.heap.objs.size]->(s.heap.push o).get? b=some x->h'.get? b=some x)(b:Addr)(x:Obj)(e:s.heap.get? b=some x):h'.get? b=some x :=
 hk b x (λhm=>gi _ (by have:=bD e;rw[fc.mp hm]at this;exact this)) (fO _ e)
theorem Zj(bs:List Bool):((aL bs.length).all λi=>(bs[i]?).getD true)=bs.all id:=by
 rw[qf,dy,dy]
 constructor
 ·intro h b hb
  obtain⟨i,hi,rfl⟩:=gI hb
  have:=h i (bU.mpr hi)
  rwa [aM hi]at this
 ·intro h i hi
  have gL:=bU.mp hi
  rw[aM gL]
  exact h _ (dE gL)
theorem Ln(bs:List Bool):((aL bs.length).any λi=>(bs[i]?).getD false)=bs.any id:=by
 rw[qf,DP,DP]
 constructor
 ·rintro⟨i,hi,h⟩
  have gL:=bU.mp hi
  rw[aM gL]at h
  exact⟨_,dE gL,h⟩
 ·rintro⟨b,hb,h⟩
  obtain⟨i,hi,rfl⟩:=gI hb
  exact⟨i,bU.mpr hi,by rw[aM hi];exact h⟩
theorem Zk(hc:X.calm=true):gu X (.builtin "all") (λxs H Q=>∃(p:Addr) (bs:List Bool),xs=[.ref p]/\bG X.K H p (bs.map V.bl)/\Q (.bl (bs.all id)) H):=by
 intro pins s σ H xs us Q I r h
 obtain⟨p,bs,rfl,hS,q⟩:=h
 obtain⟨u,rfl,ru⟩:=r.one
 cases ru
 obtain⟨its,rv,pl,hz⟩:=I.list hS
 obtain⟨hlen,yq⟩:=Lm rv
 have hl:=pl.isList
 have fg:p<s.heap.objs.size:=by obtain⟨_,e,_⟩:=hl;exact bD e
 refine call_all_walk (wpAny_pyIter_list hl ?_)
 refine⟨s.heap.objs.size,[s.heap.objs.size,p],[s.heap.objs.size],its.toArray.size,_,_,λi=>(bs[i]?).getD true,rfl,DQ (A:=X.A.in1) (I.ok.hd hc) _ p (dN fg) its.toArray,
  ⟨⟨_,gG _ rfl,rfl,rfl⟩,hl.push _⟩,λi v s' Q' E' hP hQ=>?_,λh' tk hk=>?_⟩
 ·obtain⟨b,e,rfl⟩:=yq i v (by simpa using hP)
  simp only[e,nz]at hQ
  exact wpAny_truthy_bool hQ
 ·have e:((aL its.toArray.size).all λi=>(bs[i]?).getD true)=bs.all id:=by
   rw[dU,<- hlen];exact Zj bs
  rw[e]
  exact⟨.bl _,H,I.kept (h':=h') (t':=tk) (BB hk),rfl,q⟩
theorem Zl(hc:X.calm=true):gu X (.builtin "any") (λxs H Q=>∃(p:Addr) (bs:List Bool),xs=[.ref p]/\bG X.K H p (bs.map V.bl)/\Q (.bl (bs.any id)) H):=by
 intro pins s σ H xs us Q I r h
 obtain⟨p,bs,rfl,hS,q⟩:=h
 obtain⟨u,rfl,ru⟩:=r.one
 cases ru
 obtain⟨its,rv,pl,hz⟩:=I.list hS
 obtain⟨hlen,yq⟩:=Lm rv
 have hl:=pl.isList
 have fg:p<s.heap.objs.size:=by obtain⟨_,e,_⟩:=hl;exact bD e
 refine call_any_walk (wpAny_pyIter_list hl ?_)
 refine⟨s.heap.objs.size,[s.heap.objs.size,p],[s.heap.objs.size],its.toArray.size,_,_,λi=>(bs[i]?).getD false,rfl,DQ (A:=X.A.in1) (I.ok.hd hc) _ p (dN fg) its.toArray,
  ⟨⟨_,gG _ rfl,rfl,rfl⟩,hl.push _⟩,λi v s' Q' E' hP hQ=>?_,λh' tk hk=>?_⟩
 ·obtain⟨b,e,rfl⟩:=yq i v (by simpa using hP)
  simp only[e,nz]at hQ
  exact wpAny_truthy_bool hQ
 ·have e:((aL its.toArray.size).any λi=>(bs[i]?).getD false)=bs.any id:=by
   rw[dU,<- hlen];exact Ln bs
  rw[e]
  exact⟨.bl _,H,I.kept (h':=h') (t':=tk) (BB hk),rfl,q⟩
end
noncomputable def mC(X:Cx):List (Str × Addr)->Prop
 | []=>True
 | (y,c)::r=>X.env.cells.lookup y=some c/\mC X r
theorem mC.all{X:Cx}:∀{cl:List (Str × Addr)},mC X cl->∀y c,cl.lookup y=some c->X.env.cells.lookup y=some c
 | [],_,y,c,h=>by simp at h
 | (z,d)::r,h,y,c,e=>by
  rw[fZ]at e
  cases q:y==z with
  | true =>
   rw[q]at e
   cases e
   rw[eq_of_beq q]
   exact h.1
  | false =>
   rw[q]at e
   exact mC.all h.2 y c e
noncomputable def mD(cl:List (Str × Addr)):List (Str × NameKind)->Prop
 | []=>True
 | (y,k)::r=>(k=.local\/k=.globalImplicit\/∃c,cl.lookup y=some c)/\mD cl r
theorem mD.all{cl:List (Str × Addr)}:∀{ns:List (Str × NameKind)},mD cl ns->∀y,(ns.lookup y=some .cell\/ns.lookup y=some .free)->∃c,cl.lookup y=some c
 | [],_,y,h=>by simp at h
 | (z,k)::r,h,y,e=>by
  rw[fZ]at e
  cases q:y==z with
  | true =>
   rw[q]at e
   rw[eq_of_beq q]
   rcases h.1 with g | g | g
   ·rw[g]at e;rcases e with e | e<;>cases e
   ·rw[g]at e;rcases e with e | e<;>cases e
   ·exact g
  | false =>
   rw[q]at e
   exact mD.all h.2 y e
section
variable{X:Cx}{elt iter:Expr}{x:Str}{px pos:Pos}{ifs:List Expr}{scope:Scope}{cl:List (Str × Addr)}{wi:TI}{tt:TT}{te:TE}
end
end L2
namespace L2
open PySem PySem.Spec PyProof.Rows Mf
end L2
namespace L2
end L2
namespace L2
open PySem PySem.Spec PyProof.Rows
noncomputable def iF(az:List (Str × Nat))(n:Nat)(σ:L2.St):St:=(az.map λp=>(σ[p.2]?).getD none)++aV n none
noncomputable def Lo(J:It)(az:List (Str × Nat))(n:Nat)(g:TG)(tt:TT)(te:TE)(σ:L2.St)(H1:Hp)(Q:VK):Prop:=∀D,H1 D=none->∃W:Nat->Nat->List V->Hp->Prop,(∃m,W 0 m [] (upd H1 D (.lst []))) /\
 ∀i m acc H2,W i m acc H2->H2 D=some (.lst acc)/\((J.stop i H2/\Q (.ref D) H2)\/(J.go i H2/\∀x H3,J.ky i H2 x H3->H3 D=some (.lst acc)/\g x (iF az n σ) H3 λg8 H4 =>
  (g8.length=(iF az n σ).length/\∀j,j<az.length->g8[j]?=(iF az n σ)[j]?)/\tt g8 H4 λb H5=>H5 D=some (.lst acc) /\
  if b=true then te g8 H5 λy H6=>H6 D=some (.lst acc)/\acc.length<sizeLine/\∃m',m'<m/\W (i+1) m' (acc++[y]) (upd H6 D (.lst (acc++[y])))else ∃m',m'<m/\W (i+1) m' acc H5))
noncomputable def BC(wi:TI)(az:List (Str × Nat))(n:Nat)(g:TG)(tt:TT)(te:TE):TE:=λσ H Q=>wi σ H λJ H1=>Lo J az n g tt te σ H1 Q
section
variable{X:Cx}{elt iter tg:Expr}{pos:Pos}{ifs:List Expr}{scope:Scope}{cl:List (Str × Addr)}{wi:TI}{tt:TT}{te:TE}{g:TG}
end
end L2
namespace L2
open PySem PySem.Spec PyProof.Rows
section
variable{X:Cx}{tg:Expr}
end
end L2
namespace L2
open PySem PySem.Spec PyProof.Rows
noncomputable def E2(h:Heap)(a T:Addr)(cls fl:Value):Prop :=
 ∃oe vs oT ts,h.get? a=some oe/\oe.cls=cls/\oe.dict=none/\oe.data=.fields vs/\vs[1]?=some (.ref T)/\T≠a/\h.get? T=some oT/\oT.data=.fields ts/\ts[3]?=some fl
noncomputable abbrev iG(h:Heap)(a T:Addr)(cls:Value):Prop:=E2 h a T cls .none
theorem Zm(o:Obj)(f:Array Value->Array Value):(o.mapFields f).dict=o.dict:=by
 obtain⟨c,d,dt,sl⟩:=o
 cases dt<;>rfl
section
variable{M:Model}{A:Around}{E:Value->Shared->Prop}{s:Shared}{base:Heap}{env:Env}{outer:List Env}{L a T:Addr}{cls:Value}{oe:Obj}{vs:Array Value}{Q:Unit->Shared->Prop}
structure Ent(fs:List Addr)(h h':Heap)(a T:Addr)(oe:Obj)(L:Addr):Prop where
 new:h.get? T=none
 ne:T≠a
 keep:∀b o,b≠a->b ∉ fs->h.get? b=some o->h'.get? b=some o
 slot:∀b o,b≠a->h.get? b=some o->∃sl,h'.get? b=some { o with slots:=sl }
 exc:h'.get? a=some (oe.mapFields λz=>z.setIfInBounds 1 (.ref T))
 ent:∃oT ts,h'.get? T=some oT/\oT.data=.fields ts/\ts[3]?=some (rawInt L)
theorem Lp{head:Value}{Zn:Bool}(df:A.frames=some (env::outer))(hl:s.heap.FunFrames base (env::outer))(hf:env.frame=some L)(he:s.heap.get? a=some oe)(hd:oe.data=.fields vs)(mq:1<vs.size)
  (na:a ∉ (env::outer).filterMap (·.frame)) (k:∀h' T',Ent ((env::outer).filterMap (·.frame)) s.heap h' a T' oe L->Q () { s with heap:=h' }) :
  wpAny M A (do let x<-frameOf env;let pl<-entryPlaceOf L Zn;let b<-EntryCells.newEntry head x .none (rawInt L) .none pl;setField (.ref a) 1 b) Q E s:=by
 refine wpAny_bind (wpAny_frameOf_fun df hl hf λg1 so=>wpAny_bind (wpAny_entryPlaceOf λpl ip=>?_))
 unfold EntryCells.newEntry newFields
 have e1:g1.get? a=some oe:=(so.2.1 a na).trans he
 refine wpAny_bind (wpAny_newObj_type ?_ (ip.sizeOk5 _ _ _ _ _))
 generalize Lq:({ cls:=.type "traceback",dict:=none,data:=.fields ([head,fq L,.none,rawInt L,.none]++(if pl.isEmpty then aV 6 sR else pl)).toArray }:Obj)=te
 have e2:(g1.push te).get? a=some oe:=fO te e1
 have Zo:te.data=.fields ([head,fq L,.none,rawInt L,.none]++(if pl.isEmpty then aV 6 sR else pl)).toArray:=by rw[<-Lq]
 have nf:te.isFreed=false:=by rw[<-Lq];rfl
 refine wpAny_setField e2 hd mq ?_
 have d3:=DR hd λz=>z.setIfInBounds 1 (fq g1.objs.size)
 have nT:g1.objs.size≠a:=Jk (bD e1)
 refine k _ g1.objs.size ⟨?_,nT,λb o hb hz q=>?_,λb o hb q=>?_,DI _ e2 (Jr d3),⟨te,_,?_,Zo,?_⟩⟩
 ·cases q:s.heap.get? g1.objs.size with
  | none=>rfl
  | some o=>obtain⟨sl,z⟩:=so.2.2 _ _ q;exact absurd (bD z) (gi _)
 ·rw[sW _ _ (e7 hb)]
  exact fO te ((so.2.1 b hz).trans q)
 ·obtain⟨sl,z⟩:=so.2.2 b o q
  refine⟨sl,?_⟩
  rw[sW _ _ (e7 hb)]
  exact fO te z
 ·rw[sW _ _ (e7 nT)]
  exact gG g1 nf
 ·first | (simp;done) | (rcases ip with rfl | ⟨_,_,_,_,_,_,_,rfl⟩<;>simp)
structure Lr(fs Z:List Addr)(h h':Heap)(a T:Addr)(cls:Value):Prop where
 new:h.get? T=none
 keep:∀b o,b ∉ Z->b ∉ fs->h.get? b=some o->h'.get? b=some o
 slot:∀b o,b ∉ Z->h.get? b=some o->∃sl,h'.get? b=some { o with slots:=sl }
 we:iG h' a T cls
theorem E3{fl:Value}(tr:E2 s.heap a T cls fl)(k:∀h',(∀b o,b≠T->s.heap.get? b=some o->h'.get? b=some o)->iG h' a T cls->Q () { s with heap:=h' }):wpAny M A (setFlight (.ref a) none) Q E s:=by
 obtain⟨oe,vs,oT,ts,h1,h2,h3,h4,h5,h6,h7,h8,h9⟩:=tr
 have sz:3<ts.size:=(Js.mp h9).1
 unfold setFlight
 refine wpAny_bind (wpAny_field h1 h4 h5 ?_)
 rw[if_pos (by simp)]
 refine wpAny_setField h7 h8 sz (k _ (λb o hb q=>(sW _ _ (e7 hb)).trans q) ?_)
 have d:=DR h8 λz=>z.setIfInBounds 3 ((none:Option Addr).elim sR λf=>rawInt f)
 exact⟨oe,vs,_,_,(sW _ _ h6).trans h1,h2,h3,h4,h5,h6,DI _ h7 (Jr d),d,by simp[sz]⟩
theorem Ent.fin{fs:List Addr}{h h':Heap}{a T L:Addr}{oe:Obj}{vs:Array Value}(e:Ent fs h h' a T oe L)(hd:oe.data=.fields vs)(mq:1<vs.size)(Zp:oe.dict=none):E2 h' a T oe.cls (rawInt L):=by
 obtain⟨oT,ts,e1,e2,e3⟩:=e.ent
 exact⟨_,_,oT,ts,e.exc,Obj.cls_mapFields _ _,by rw[Zm];exact Zp,DR hd _,by simp[mq],e.ne,e1,e2,e3⟩
theorem Lu(df:A.frames=some (env::outer))(hl:s.heap.FunFrames base (env::outer))(hf:env.frame=some L)(na:a ∉ (env::outer).filterMap (·.frame))(tr:iG s.heap a T cls)
  (k:∀h' T',Lr ((env::outer).filterMap (·.frame)) [a,T] s.heap h' a T' cls->Q () { s with heap:=h' }):wpAny M A (noteFrame (.ref a) env) (λ_ jL=>wpAny M A (setFlight (.ref a) none) Q E jL) E s:=by
 obtain⟨oe,vs,oT,ts,h1,h2,h3,h4,h5,h6,h7,h8,h9⟩:=tr
 have s1:1<vs.size:=(Js.mp h5).1
 have s3:3<ts.size:=(Js.mp h9).1
 unfold noteFrame
 simp only[hf]
 refine wpAny_bind (wpAny_field h1 h4 h5 ?_)
 rw[if_pos (by simp)]
 refine wpAny_bind (wpAny_field h7 h8 h9 ?_)
 rw[if_neg (by simp[rawInt])]
 refine wpAny_bind (wpAny_setField h7 h8 s3 ?_)
 generalize hg:s.heap.update T (Obj.mapFields λz=>z.setIfInBounds 3 sR)=g
 have tW:∀b,b≠T->g.get? b=s.heap.get? b:=λb hb=>by rw[<-hg];exact sW _ _ (e7 hb)
 have bT:∀b o,s.heap.get? b=some o->(∀ws,o.data≠.fields ws)->b≠T:=λb o q hn z=>by subst z;rw[h7]at q;cases q;exact hn ts h8
 have gT:∃Zq,g.get? T=some Zq:=⟨_,by rw[<-hg];exact DI _ h7 (Jr (DR h8 _))⟩
 refine Lp (s:={ s with heap:=g }) df (hl.of_keeps λb o q hn=>⟨o,(tW b (bT b o q hn)).trans q,rfl⟩) hf ((tW a (e7 h6)).trans h1) h4 s1 na λh' T' en=>?_
 have Zr:T'≠T:=λz=>by subst z;obtain⟨o,q⟩:=gT;rw[en.new]at q;cases q
 refine E3 (s:={ s with heap:=h' }) (h2 ▸ en.fin h4 s1 h3) λE4 kp E5=>?_
 refine k E4 T' ⟨(tW T' Zr).symm.trans en.new,λb o hz hb q=>?_,λb o hz q=>?_,E5⟩
 ·have z1:b≠a:=λz=>hz (by simp[z])
  have z2:b≠T:=λz=>hz (by simp[z])
  have z3:b≠T':=λz=>by have:=en.new;rw[<-z,tW b z2,q]at this;cases this
  exact kp b o z3 (en.keep b o z1 hb ((tW b z2).trans q))
 ·have z1:b≠a:=λz=>hz (by simp[z])
  have z2:b≠T:=λz=>hz (by simp[z])
  have z3:b≠T':=λz=>by have:=en.new;rw[<-z,tW b z2,q]at this;cases this
  obtain⟨sl,r⟩:=en.slot b o z1 ((tW b z2).trans q)
  exact⟨sl,kp b _ z3 r⟩
theorem Zs{h1:Heap}{args:List Value}(df:A.frames=some (env::outer))(hl:s.heap.FunFrames base (env::outer))(hf:env.frame=some L)(hx:Jt s.heap h1 a cls args)
  (k:∀h' T',Lr ((env::outer).filterMap (·.frame)) [] s.heap h' a T' cls->Q () { s with heap:=h' }):wpAny M A (noteFrame (.ref a) env) (λ_ jL=>wpAny M A (setFlight (.ref a) none) Q E jL) E { s with heap:=h1 }:=by
 obtain⟨t,e1,_,_⟩:=hx.there
 have na:a ∉ (env::outer).filterMap (·.frame):=λhb=>by obtain⟨_,o,ho,_⟩:=hl.mem hb;rw[hx.new]at ho;cases ho
 unfold noteFrame
 simp only[hf]
 refine wpAny_bind (wpAny_field (s:={ s with heap:=h1 }) e1 rfl (x:=.none) (by rfl) ?_)
 rw[if_neg (by decide)]
 refine Lp (s:={ s with heap:=h1 }) df (hl.of_keeps λb o q _=>⟨o,hx.keeps b o q,rfl⟩) hf e1 rfl (by simp) na λh' T' en=>?_
 refine E3 (s:={ s with heap:=h' }) (en.fin rfl (by simp) rfl) λE4 kp E5=>?_
 have ba:∀b o,s.heap.get? b=some o->b≠a:=λb o q z=>by rw[z,hx.new]at q;cases q
 have bT:∀b o,s.heap.get? b=some o->b≠T':=λb o q z=>by have:=hx.keeps b o q;rw[z,en.new]at this;cases this
 refine k E4 T' ⟨?_,λb o _ hb q=>kp b o (bT b o q) (en.keep b o (ba b o q) hb (hx.keeps b o q)),λb o _ q=>?_,E5⟩
 ·cases q:s.heap.get? T' with
  | none=>rfl
  | some o=>exact absurd rfl (bT T' o q)
 ·obtain⟨sl,r⟩:=en.slot b o (ba b o q) (hx.keeps b o q)
  exact⟨sl,kp b _ (bT b o q) r⟩
end
end L2
namespace L2
open PySem PySem.Spec PyProof.Rows
theorem eG.there{P:Program}{w:World}{H:Hp}{h:Heap}{a:Addr}{o:HO}(x:eG P w H h a o):∃u,h.get? a=some u:=by
 cases o with
 | lst xs=>obtain⟨_,_,_,_,e⟩:=x;exact⟨_,e⟩
 | tup xs=>obtain⟨_,_,_,o,e,_⟩:=x;exact⟨o,e⟩
 | dK dW=>obtain⟨_,_,_,_,o,_,_,e,_⟩:=x;exact⟨_,e⟩
 | dT dW=>obtain⟨_,_,_,_,o,_,_,e,_⟩:=x;exact⟨_,e⟩
 | set S n=>obtain⟨o,_,_,_,e,_⟩:=x;exact⟨_,e⟩
 | ins C dx fs=>obtain⟨_,_,_,e,_⟩:=x;exact⟨_,e⟩
 | own y=>exact x
 | xd fs=>obtain⟨_,⟨_,_,_,e,_⟩,_⟩:=x;exact⟨_,e⟩
 | xR lo hi=>obtain⟨_,_,_,e⟩:=x;exact⟨_,e⟩
 | bj ob u=>obtain⟨e,_⟩:=x;exact⟨_,e⟩
 | dO ps=>exact⟨_,show h.get? a=some _ from x.1⟩
 | met f y=>exact⟨_,show h.get? a=some _ from x⟩
 | ext φ=>obtain⟨_,e,_⟩:=x;exact e
theorem cK.none{P:Program}{w:World}{H:Hp}{h:Heap}{a:Addr}(x:cK P w H h)(e:h.get? a=.none):H a=.none:=by
 cases q:H a with
 | none=>rfl
 | some u=>obtain⟨o,z⟩:=(x a u q).there;rw[e]at z;cases z
structure Apart(X:Cx)(pins:List (Addr × Obj))(H:Hp)(b:Addr):Prop where
 old:X.cw.heap.get? b=none
 free:H b=none
 loc:b≠X.env.locals
 cell:∀x c,X.env.cells.lookup x=some c->c≠b
 pin:∀p∈X.pn++pins,p.1≠b
 fr:b ∉ dY X.stack
section
variable{X:Cx}{pins:List (Addr × Obj)}{σ:St}{H H':Hp}{s:Shared}{a T b:Addr}{cls:Value}{M:Model}{Q:Unit->Shared->Prop}{E:Value->Shared->Prop}{h':Heap}
theorem Zt(I:Inv X pins σ H s)(hb:b∈dY X.stack):∃o,s.heap.get? b=some o/\∀vs,o.data≠.fields vs:=(I.stack.mem hb).2
theorem Inv.old(I:Inv X pins σ H s)(hex:X.ex=[])(e:s.heap.get? b=none):X.cw.heap.get? b=none:=by
 cases q:X.cw.heap.get? b with
 | none=>rfl
 | some o=>obtain⟨o',z⟩:=I.base.there b o q (by rw[hex];simp);rw[e]at z;cases z
theorem Inv.apart(I:Inv X pins σ H s)(hex:X.ex=[])(e:s.heap.get? b=none)(n:H' b=none):Apart X pins H' b where
 old:=I.old hex e
 free:=n
 loc:=λz=>by obtain⟨m,⟨o,_,_,ho,_⟩,_⟩:=I.loc;rw[z,ho]at e;cases e
 cell:=λx c hc z=>by obtain⟨v,o,ho,_⟩:=I.cell x c hc;rw[z,e]at ho;cases ho
 pin:=λp hp z=>by have:=(I.pin p hp).1;rw[z,e]at this;cases this
 fr:=λhb=>by obtain⟨o,ho,_⟩:=Zt I hb;rw[e]at ho;cases ho
theorem Lw(I:Inv X pins σ H s)(cy:X.stack=X.env::X.outer)(hex:X.ex=[])(hf:X.env.frame=some X.env.locals)(Z:List Addr)(hZ:∀b∈Z,X.cw.heap.get? b=none/\H b=none)
  (keep:∀b o,b ∉ Z->b ∉ dY X.stack->s.heap.get? b=some o->h'.get? b=some o) (slots:∀b o,b ∉ Z->s.heap.get? b=some o->∃sl,h'.get? b=some { o with slots:=sl }) :
  Un (dY X.outer) [] X.jK H X.cw.heap h'/\cK X.prog X.w H h':=by
 have tX:∀b o,X.cw.heap.get? b=some o->b ∉ Z:=λb o e z=>by rw[(hZ b z).1]at e;cases e
 have sub:∀b,b∈dY X.stack->b=X.env.locals\/b∈dY X.outer:=λb hb=>by
  rw[cy]at hb
  unfold dY at hb
  rw[Au,hf]at hb
  exact bR.mp hb
 have sup:∀b,b∈dY X.outer->b∈dY X.stack:=λb hb=>by
  rw[cy]
  unfold dY
  rw[Au,hf]
  exact ft _ hb
 have vS:∀b o,X.cw.heap.get? b=some o->b≠X.env.locals:=λb o e=>dN (cB (bD e) I.ok.above)
 have nx:∀b:Addr,b ∉ X.ex:=λb=>by rw[hex];simp
 refine⟨⟨λb o e n hb _=>?_,λb o e n hb _=>?_,λb o e n _=>I.base.free b o e n (nx b),λb o e _=>?_,I.base.iW,I.base.iy,I.base.gK⟩,λb ob e=>?_⟩
 ·exact keep b o (tX b o e) (λz=>(sub b z).elim (vS b o e) hb) (I.base.keep b o e n hb (nx b))
 ·obtain⟨sl,e1⟩:=I.base.slot b o e n hb (nx b)
  exact(slots b _ (tX b o e) e1).imp λsl h=>h
 ·obtain⟨o',e1⟩:=I.base.there b o e (nx b)
  exact(slots b o' (tX b o e) e1).elim λsl q=>⟨_,q⟩
 ·refine(I.aI b ob e).jh (λc u hc q=>keep c u (λz=>?_) (λz=>?_) q) (λ_ q=>q) (λ_ _ q=>q) λ_ _ q=>q
  ·have n:=(hZ c z).2
   rcases hc with rfl | hc
   ·rw[n]at e;cases e
   ·rw[n]at hc;cases hc
  ·have n:=I.A6 c z
   rcases hc with rfl | hc
   ·rw[n]at e;cases e
   ·rw[n]at hc;cases hc
structure Lx(X:Cx)(H:Hp)(h':Heap)(a T:Addr)(cls:Value):Prop where
 un:Un (dY X.outer) [] X.jK H X.cw.heap h'
 aI:cK X.prog X.w H h'
 we:iG h' a T cls
 a0:X.cw.heap.get? a=none
 a1:H a=none
 t0:X.cw.heap.get? T=none
 t1:H T=none
theorem Zu(I:Inv X pins σ H s)(cy:X.stack=X.env::X.outer)(hex:X.ex=[])(hf:X.env.frame=some X.env.locals)(tr:iG s.heap a T cls)(pa:Apart X pins H a)(pT:Apart X pins H T)
  (hQ:∀h' T',Lx X H h' a T' cls->Q () { s with heap:=h' }):wpAny M X.A (leaving X.env (.ref a)) Q E s:=by
 have hZ:∀b∈[a,T],X.cw.heap.get? b=none/\H b=none:=λb hb=>by
  rcases bR.mp hb with rfl | hb
  ·exact⟨pa.old,pa.free⟩
  ·rw[fc.mp hb];exact⟨pT.old,pT.free⟩
 have na:a ∉ (X.env::X.outer).filterMap (·.frame):=by have:=pa.fr;rw[cy]at this;exact this
 refine wpAny_bind (Lu (base:=X.base) (by rw[I.ok.frames,cy]) (cy ▸ I.stack) hf na tr λh' T' st=>?_)
 have kp:∀b o,b ∉ [a,T]->b ∉ dY X.stack->s.heap.get? b=some o->h'.get? b=some o:=λb o hz hb q=>st.keep b o hz (by rw[cy]at hb;exact hb) q
 obtain⟨un,aI⟩:=Lw (h':=h') I cy hex hf [a,T] hZ kp st.slot
 exact hQ h' T' ⟨un,aI,st.we,pa.old,pa.free,I.old hex st.new,I.aI.none st.new⟩
theorem Zv{h1:Heap}{args:List Value}(I:Inv X pins σ H s)(cy:X.stack=X.env::X.outer)(hex:X.ex=[])(hf:X.env.frame=some X.env.locals)(hx:Jt s.heap h1 a cls args)
  (hQ:∀h' T',Lx X H h' a T' cls->Q () { s with heap:=h' }):wpAny M X.A (leaving X.env (.ref a)) Q E { s with heap:=h1 }:=by
 refine wpAny_bind (Zs (base:=X.base) (by rw[I.ok.frames,cy]) (cy ▸ I.stack) hf hx λh' T' st=>?_)
 have kp:∀b o,b ∉ ([]:List Addr)->b ∉ dY X.stack->s.heap.get? b=some o->h'.get? b=some o:=λb o hz hb q=>st.keep b o hz (by rw[cy]at hb;exact hb) q
 obtain⟨un,aI⟩:=Lw (h':=h') I cy hex hf [] (λb hb=>absurd hb (by simp)) kp st.slot
 exact hQ h' T' ⟨un,aI,st.we,I.old hex hx.new,I.aI.none hx.new,I.old hex st.new,I.aI.none st.new⟩
end
noncomputable def kz(P:Program)(w:World):eP:=λouter H s E e s'=>∃a T cls H',e=.ref a/\s'.os=s.os/\AllBare s'.gens/\Un (dY outer) [] H H' s.heap s'.heap/\cK P w H' s'.heap/\iG s'.heap a T cls /\
 s.heap.get? a=none/\H' a=none/\s.heap.get? T=none/\H' T=none/\E cls none H'
section
variable{X:Cx}{pins:List (Addr × Obj)}{σ:St}{H H':Hp}{s:Shared}{a T b:Addr}{cls:Value}{M:Model}{Q:Unit->Shared->Prop}{E:Value->Shared->Prop}{h':Heap}
theorem Inv.Ly(I:Inv X pins σ H s)(hex:X.ex=[])(Z:List Addr)(hZ:∀b∈Z,Apart X pins H b)
  (keep:∀b o,b ∉ Z->b ∉ dY X.stack->s.heap.get? b=some o->h'.get? b=some o) (slots:∀b o,b ∉ Z->s.heap.get? b=some o->∃sl,h'.get? b=some { o with slots:=sl }) (g':Array GenState) (t':Nat) (d':Drawn) (hg:AllBare g') :
  Inv X pins σ H { s with heap:=h',gens:=g',toks:=t',drawn:=d' }:=by
 have nx:∀b:Addr,b ∉ X.ex:=λb=>by rw[hex];simp
 have any:=slots
 have tX:∀b o,X.cw.heap.get? b=some o->b ∉ Z:=λb o e z=>by rw[(hZ b z).old]at e;cases e
 have vS:∀b o,X.cw.heap.get? b=some o->b≠X.env.locals:=λb o e=>dN (cB (bD e) I.ok.above)
 have cz:∀x c,X.env.cells.lookup x=some c->c ∉ Z:=λx c e z=>(hZ c z).cell x c e rfl
 have cellK:∀x c,X.env.cells.lookup x=some c->∀v,s.heap.IsCell c v->h'.IsCell c v:=λx c e v zz=>by
  obtain⟨o,ho,hd⟩:=zz
  obtain⟨sl,q⟩:=any c o (cz x c e) ho
  exact⟨_,q,hd⟩
 have Lz:∀b,b ∉ X.fs->b≠X.env.locals->b ∉ dY X.stack:=λb h1 h2 h3=>(bR.mp (I.xT b h3)).elim h2 h1
 refine⟨I.ok,I.os,hg,⟨λb o e n hb hx=>?_,λb o e n hb hx=>?_,I.base.free,λb o e hx=>?_,I.base.iW,I.base.iy,I.base.gK⟩,?_,λx c e=>?_,I.free,I.f9,λp hp=>?_,λb ob e=>?_,I.len⟩
 ·exact keep b o (tX b o e) (Lz b hb (vS b o e)) (I.base.keep b o e n hb hx)
 ·obtain⟨sl,e1⟩:=I.base.slot b o e n hb hx
  obtain⟨xV,e2⟩:=any b _ (tX b o e) e1
  exact⟨xV,e2⟩
 ·obtain⟨o',e1⟩:=I.base.there b o e hx
  obtain⟨sl,e2⟩:=any b o' (tX b o e) e1
  exact⟨_,e2⟩
 ·obtain⟨m,hn,hl⟩:=I.loc
  obtain⟨o,es,ep,ho,hd,r⟩:=id hn
  obtain⟨sl,q⟩:=slots _ o (λz=>(hZ _ z).loc rfl) ho
  refine⟨m,⟨_,es,ep,q,hd,r⟩,λi x v e1 e2 e3=>?_⟩
  obtain⟨u,r,l⟩:=hl i x v e1 e2 e3
  refine⟨u,r,?_⟩
  rcases l with l | ⟨k,c,e,z⟩
  ·exact .inl l
  ·exact .inr ⟨k,c,e,cellK x c e _ z⟩
 ·obtain⟨v,z⟩:=I.cell x c e
  exact⟨v,cellK x c e v z⟩
 ·obtain⟨e,n,ne,nf,d⟩:=I.pin p hp
  exact⟨keep p.1 p.2 (λz=>(hZ _ z).pin p hp rfl) (Lz _ nf ne) e,n,ne,nf,d⟩
 ·refine(I.aI b ob e).jh (λc u hc q=>keep c u (λz=>?_) (λz=>?_) q) (λ_ q=>q) (λ_ _ q=>q) λ_ _ q=>q
  ·have n:=(hZ c z).free
   rcases hc with rfl | hc
   ·rw[n]at e;cases e
   ·rw[n]at hc;cases hc
  ·have n:=I.A6 c z
   rcases hc with rfl | hc
   ·rw[n]at e;cases e
   ·rw[n]at hc;cases hc
theorem Zw(pa:Apart X pins H a)(pT:Apart X pins H T):∀b∈[a,T],Apart X pins H b:=λb hb=>by
 rcases bR.mp hb with rfl | hb
 ·exact pa
 ·rw[fc.mp hb];exact pT
theorem Zx(I:Inv X pins σ H s)(cy:X.stack=X.env::X.outer)(hex:X.ex=[])(hf:X.env.frame=some X.env.locals)(tr:iG s.heap a T cls)(pa:Apart X pins H a)(pT:Apart X pins H T)
  (hQ:∀h' T',Inv X pins σ H { s with heap:=h' }->iG h' a T' cls->Apart X pins H T'->Q () { s with heap:=h' }) :
  wpAny M X.A (noteFrame (.ref a) X.env) (λ_ jL=>wpAny M X.A (setFlight (.ref a) none) Q E jL) E s:=by
 have na:a ∉ (X.env::X.outer).filterMap (·.frame):=by have:=pa.fr;rw[cy]at this;exact this
 refine Lu (base:=X.base) (by rw[I.ok.frames,cy]) (cy ▸ I.stack) hf na tr λh' T' st=>?_
 exact hQ h' T' (I.Ly hex [a,T] (Zw pa pT) (λb o hz hb q=>st.keep b o hz (by rw[cy]at hb;exact hb) q) st.slot s.gens s.toks s.drawn I.bare) st.we (I.apart hex st.new (I.aI.none st.new))
theorem Zy{A:Around}(I:Inv X pins σ H s)(hex:X.ex=[])(tr:iG s.heap a T cls)(pT:Apart X pins H T)
  (hQ:∀h',Inv X pins σ H { s with heap:=h' }->iG h' a T cls->Q () { s with heap:=h' }):wpAny M A (setFlight (.ref a) none) Q E s:=by
 refine E3 tr λh' kp E6=>hQ h' (I.Ly hex [T] (λb hb=>by rw[fc.mp hb];exact pT) (λb o hz _ q=>kp b o (by simpa using hz) q) (λb o hz q=>⟨o.slots,kp b o (by simpa using hz) q⟩) s.gens s.toks s.drawn I.bare) E6
theorem Zz{A:Around}{i:Nat}{n:Str}{pos:Pos}(I:Inv X pins σ H s)(hN:X.N.Nodup)(hi:X.N[i]?=some n)(hl:X.env.kindOf n=some .local)
  (hQ:∀s',Inv X pins (σ.set i none) H s'->Q () s'):wpAny M A (do bindName X.env n .none;unbindBehindTheSuite X.env n pos) Q E s:=by
 obtain⟨m,hn,ZA⟩:=id I.loc
 have ku:=I.ku
 refine PySem.wpAny_nameGoes_keeps hl hn (by rw[I.ok.kind];rfl) λh' v Ej hs=>hQ _ ?_
 obtain⟨oL,_,_,JZ,_⟩:=id hn
 refine⟨I.ok,I.os,I.bare,⟨λb o e n' hb hx=>?_,λb o e n' hb hx=>?_,I.base.free,λb o e hx=>?_,I.base.iW,I.base.iy,I.base.gK⟩,⟨_,Ej,λj y w e1 e2 e3=>?_⟩,λy c e=>?_,I.free,I.f9,λp hp=>?_,λb ob e=>?_,by simpa using I.len⟩
 ·exact(hs.2 b (dN (cB (bD e) I.ok.above))).trans (I.base.keep b o e n' hb hx)
 ·obtain⟨sl,e1⟩:=I.base.slot b o e n' hb hx
  exact⟨sl,(hs.2 b (dN (cB (bD e) I.ok.above))).trans e1⟩
 ·obtain⟨o',e1⟩:=I.base.there b o e hx
  exact⟨o',(hs.2 b (dN (cB (bD e) I.ok.above))).trans e1⟩
 ·by_cases hj:j=i
  ·subst hj
   rw[List.getElem?_set_self']at e2
   cases q:σ[j]?<;>rw[q]at e2<;>cases e2
  ·rw[sT (e7 hj)]at e2
   obtain⟨u',r',q⟩:=ZA j y w e1 e2 e3
   refine⟨u',r',?_⟩
   rcases q with⟨k,e⟩ | ⟨k,c,e,z⟩
   ·refine .inl ⟨k,?_⟩
    have:y≠n:=λe=>hj (Ei hN e1 (e ▸ hi))
    simp[this,e]
   ·exact .inr ⟨k,c,e,z.sameBut hs (ku y c e)⟩
 ·obtain⟨w',z⟩:=I.cell y c e
  exact⟨w',z.sameBut hs (ku y c e)⟩
 ·obtain⟨e,n',ne,nf,d⟩:=I.pin p hp
  exact⟨(hs.2 p.1 ne).trans e,n',ne,nf,d⟩
 ·refine(I.aI b ob e).jh (λc w' hc q=>(hs.2 c ?_).trans q) (λ_ q=>q) (λ_ _ q=>q) λ_ _ q=>q
  rintro rfl
  rcases hc with rfl | hc
  ·rw[I.free]at e;cases e
  ·rw[I.free]at hc;cases hc
end
end L2
namespace L2
open PySem PySem.W PySem.Spec PySem.Calls PyProof.Rows
section
variable{prog:Program}{w:World}{A:Around}{E:Value->Shared->Prop}{s:Shared}{K:Frag}{x D:Addr}{ox:Obj}{qC:Option Obj}
theorem ZC{tk:Tok}{Q:Fin->Shared->Prop}(X:K.In s.heap)(I:PySem.W.InstAt s.heap x ox D qC)(hf:findObj K D qC "__class__"=some (.bind (.builtin "getset_descriptor.__get__") (.builtin "object.__class__")))(hm:mroIn K D (.type "object")=some true)
  (hq:Q (.done (.ret (.ref D))) s):wpAny (model prog w) A (Builtin.«object.__getattribute__» ⟨[.ref x,.str "__class__" tk],[]⟩) Q E s:=by
 have cg:=λ(R:Result->Shared->Prop) (hR:R (.ok (.ret (.ref D))) s) (A:Around)=>PySem.W.class_get (prog:=prog) (w:=w) (A:=A) (R:=R) (tp:=.ref D) X I hm hR
 obtain⟨hh,g,d,t,os⟩:=s
 have L0:=I.type (M:=model prog w)
 have L1:=looks_find (M:=model prog w) X I hf
 unfold Builtin.«object.__getattribute__»
 repeat (any_goals (first | assumption | refine wpAny_bind (L0.at ?_) | refine wpAny_bind (L1.at ?_) | wp_step))
 exact cg _ (wpAny_pure hq) _
theorem ZD{M:Model}{LA:Value}{Q:Unit->Shared->Prop}(X:K.In s.heap)(I:PySem.W.InstAt s.heap x ox D qC)(hb:mroIn K D (.type "BaseException")=some true)(hq:Q () s) :
  wpAny M A (checkBuiltinCall "BaseException.__getattribute__" ⟨[.ref x,LA],[]⟩) Q E s:=by
 obtain⟨hh,g,d,t,os⟩:=s
 have L0:=I.type (M:=M)
 have L1:=looks_mroIn (M:=M) X hb
 have hk:builtinKind "BaseException.__getattribute__"=some .slot:=by decide +kernel
 have ZE:splitId "BaseException.__getattribute__"=some ("BaseException","__getattribute__"):=by decide +kernel
 have ha:=F.args_bexc_ga (.ref x) LA
 simp only[checkBuiltinCall,hk,ZE]
 refine wpAny_bind ?_
 ·unfold isInstance
  repeat (first | refine wpAny_bind (L0.at ?_) | refine wpAny_bind (L1.at ?_) | refine L1.at ?_ | wp_step)
  exact hq
theorem ZF{tk:Tok}{R:Result->Shared->Prop}(X:K.In s.heap)(I:PySem.W.InstAt s.heap x ox D qC)(hf:findObj K D qC "__class__"=some (.bind (.builtin "getset_descriptor.__get__") (.builtin "object.__class__")))(hm:mroIn K D (.type "object")=some true)(hb:mroIn K D (.type "BaseException")=some true)
  (hq:R (.ok (.ret (.ref D))) s):codeAny (model prog w) A (.call (.builtin "BaseException.__getattribute__") ⟨[.ref x,.str "__class__" tk],[]⟩) R s :=
 codeAny_call_builtin (by decide +kernel) F.entry_bexc_ga (ZD X I hb (ZC X I hf hm hq))
end
end L2
namespace L2
open PySem PySem.W PySem.Spec PySem.Calls PyProof.Rows
section
variable{prog:Program}{w:World}{A:Around}{E:Value->Shared->Prop}{s:Shared}{K:Frag}{x D:Addr}{ox:Obj}{qC:Option Obj}
theorem ZG{Q:Option Value->Shared->Prop}(X:K.In s.heap)(I:PySem.W.InstAt s.heap x ox D qC)(ZH:findIn K (.ref D) "__getattribute__"=some (some (.builtin "BaseException.__getattribute__")))(ZI:findIn K (.ref D) "__getattr__"=some none)
  (hf:findObj K D qC "__class__"=some (.bind (.builtin "getset_descriptor.__get__") (.builtin "object.__class__"))) (hm:mroIn K D (.type "object")=some true) (hb:mroIn K D (.type "BaseException")=some true)
  (h:Q (some (.ref D)) { s with toks:=s.toks+1 }):wpAny (model prog w) A (getAttr? (.ref x) "__class__") Q E s:=by
 have xc:=λ(R:Result->Shared->Prop) (tk:Tok) (hR:R (.ok (.ret (.ref D))) { s with toks:=s.toks+1 }) (A:Around)=>ZF (prog:=prog) (w:=w) (A:=A) (R:=R) (tk:=tk) (s:={ s with toks:=s.toks+1 }) X I hf hm hb hR
 obtain⟨hh,g,d,t,os⟩:=s
 have L0:=I.type (M:=model prog w)
 have L1:=looks_findIn (M:=model prog w) X ZH
 have L2:=looks_findIn (M:=model prog w) X ZI
 have f3:=(F.excAttr_ValueError).ga.bind (.ref x)
 have dZ:(DS "BaseException.__getattribute__"==DS "object.__getattribute__")=false:=by decide +kernel
 have bO:(onTheHeap (fq D)&&DS "BaseException.__getattribute__"==DS "object.__getattribute__")=false:=by rw[dZ];rfl
 unfold getAttr? getAttrBy? getAttrBy
 refine wpAny_bind (wpAny_mkText (wpAny_bind (wpAny_attempt (wpAny_holding (wpAny_bind (L0.at (wpAny_bind (L1.at ?_))))))))
 dsimp only
 rw[bO]
 simp only[mh,if_false]
 unfold getAttrByItsOwn
 repeat (any_goals (first | assumption | refine wpAny_bind (L0.at ?_) | refine wpAny_bind (L2.at ?_) | wp_step))
 refine xc _ t ?_ _
 show wpAny _ _ (handedOut (.ref D)) _ _ _
 exact handed_on rfl (wpAny_pure h)
structure wg(K:Frag)(C:Addr):Prop where
 cls:(clsIn K C).isSome=true
 ga:findIn K (.ref C) "__getattribute__"=some (some (.builtin "BaseException.__getattribute__"))
 gt:findIn K (.ref C) "__getattr__"=some none
 ca:findIn K (.ref C) "__class__"=some (some (.builtin "object.__class__"))
 hn:specialIn K (.builtin "object.__class__") "__get__"=some (some (.builtin "getset_descriptor.__get__"))
 tk:takesIn K (.builtin "object.__class__")=some true
 mo:mroIn K C (.type "object")=some true
 mb:mroIn K C (.type "BaseException")=some true
noncomputable def mE(a C:Addr)(h:Heap):Prop:=∃o,h.get? a=some o/\o.cls=.ref C/\notCls o=true/\o.dict=none
theorem ZJ{K:Frag}{C:Addr}{name:Str}{a g:Value}(hc:(clsIn K C).isSome=true)(ha:findIn K (.ref C) name=some (some a))(hg:specialIn K a "__get__"=some (some g))(ht:takesIn K a=some true):findObj K C none name=some (.bind g a):=by
 obtain⟨cd,hc⟩:=AB.mp hc
 unfold findObj
 rw[hc,VF,ha,VF]
 simp[hg,ht]
theorem LB{a C:Addr}{h:Heap}(p:mE a C h):∃ox,PySem.W.InstAt h a ox C none:=by
 obtain⟨o,h1,h2,h3,h4⟩:=p
 exact⟨o,h1,h2,h3,by rw[h4];trivial⟩
theorem ZK{a C:Addr}(c:wg K C):KitX K (.ref a) (.ref C) (mE a C) where
 ty:=λ_ _ _ p=>let⟨_,I⟩:=LB p;I.type
 it:=λ_ _ X _=>by
  obtain⟨wj,nI⟩:=AB.mp c.cls
  unfold clsIn at nI
  split at nI
  ·rename_i c' d' ZL xV ho
   intro A' Q' E' s' k q
   unfold isType loadHead
   exact wpAny_bind (wpAny_loadPart (k _ _ (X _ _ ho)) (wpAny_pure q))
  ·cases nI
 ne:=λh tp dd its n sl X ZM=>by
  obtain⟨wj,nI⟩:=AB.mp c.cls
  refine Bool.eq_false_iff.mpr λq=>?_
  have e:C=tp:=Value.ref.inj (beq_iff_eq.mp q)
  subst e
  unfold clsIn at nI
  split at nI
  ·rename_i c' d' ZL xV ho
   have z:=(X _ _ ho).symm.trans ZM
   cases z
  ·cases nI
 ca:=λX p k=>let⟨_,I⟩:=LB p;ZG X I c.ga c.gt (ZJ c.cls c.ca c.hn c.tk) c.mo c.mb k
end
end L2
namespace L2
open PySem PySem.Spec PyProof.Rows
section
variable{X:Cx}{pins:List (Addr × Obj)}{σ:St}{H:Hp}{s:Shared}{h':Heap}{its:List Addr}{T:Addr}{o:HO}{t':Nat}
theorem Inv.BD(I:Inv X pins σ H s)(k:∀b o,b ∉ its->s.heap.get? b=some o->h'.get? b=some o)(hf:∀b∈its,jm X pins H b):Inv X pins σ H { s with heap:=h',toks:=t' }:=by
 have qp:∀b u,H b=some u->b ∉ its:=λb u e z=>by have:=(hf b z).1;rw[this]at e;cases e
 refine I.step (g':=s.gens) (d':=s.drawn) (ch:=its) (λb hb=>?_) (λb o _ _ hc e _=>k b o hc e) (λb o _ _ hc e _=>⟨o.slots,k b o hc e⟩) (λ_ _ _ _ n=>n)
  (λb o hc e=>⟨o,k b o hc e⟩) (λ_ _ e=>e) (λ_ _ _ e=>e) (λb ps e=>⟨#[],by rw[e];simp⟩) (λm hm=>?_) (λb u e=>?_) I.bare
 ·obtain⟨_,h1,_,h2,h3,h4⟩:=hf b hb
  exact⟨h2,h1,h3,h4⟩
 ·obtain⟨o,es,ep,ho,r⟩:=hm
  exact⟨o,es,ep,k _ o (λz=>(hf _ z).2.1 rfl) ho,r⟩
 ·refine(I.aI b u e).jh (λc v hc q=>k c v ?_ q) (λ_ q=>q) (λ_ _ q=>q) λ_ _ q=>q
  rcases hc with z | z
  ·rw[z];exact qp b u e
  ·exact qp c _ z
theorem Inv.LC(I:Inv X pins σ H s)(k:∀b o,b ∉ its->s.heap.get? b=some o->h'.get? b=some o)(hf:∀b∈its,jm X pins H b)(hT:s.heap.objs.size<=T)(new:eG X.prog X.w (upd H T o) h' T o) :
  Inv X pins σ (upd H T o) { s with heap:=h',toks:=t' }:=by
 have qp:∀b u,H b=some u->b ∉ its:=λb u e z=>by have:=(hf b z).1;rw[this]at e;cases e
 have fT:H T=none:=I.aI.fresh hT
 have neT:∀b u,H b=some u->b≠T:=λb u e z=>by rw[z,fT]at e;cases e
 have ZN:∀b u,s.heap.get? b=some u->b≠T:=λb u e z=>absurd (cB (bD e) hT) (by rw[z];exact gi _)
 refine I.step (g':=s.gens) (d':=s.drawn) (ch:=its) (λb hb=>?_) (λb o _ _ hc e _=>k b o hc e) (λb o _ _ hc e _=>⟨o.slots,k b o hc e⟩) (λb u _ e n=>by rw[aT (ZN b u e)];exact n)
  (λb o hc e=>⟨o,k b o hc e⟩) (λb _ e=>by rw[aT (neT b _ e)];exact e) (λb _ _ e=>by rw[aT (neT b _ e)];exact e) (λb ps e=>⟨#[],by rw[aT (neT b _ e),e];simp⟩) (λm hm=>?_) (λb u e=>?_) I.bare
 ·obtain⟨_,h1,_,h2,h3,h4⟩:=hf b hb
  exact⟨h2,h1,h3,h4⟩
 ·obtain⟨o,es,ep,ho,r⟩:=hm
  exact⟨o,es,ep,k _ o (λz=>(hf _ z).2.1 rfl) ho,r⟩
 ·by_cases hb:b=T
  ·subst hb;rw[bI]at e;cases e;exact new
  ·rw[aT hb]at e
   refine(I.aI b u e).jh (λc v hc q=>k c v ?_ q) (λc q=>by rw[aT (neT c _ q)];exact q) (λc _ q=>by rw[aT (neT c _ q)];exact q) λc _ q=>by rw[aT (neT c _ q)];exact q
   rcases hc with z | z
   ·rw[z];exact qp b u e
   ·exact qp c _ z
noncomputable def E7(K:PySem.W.Frag)(a b:Addr):It :=
 ⟨λi H=>∃xs ys x y,bG K H a xs/\bG K H b ys/\xs[i]?=some x/\ys[i]?=some y,
  λi H v H'=>∃T x y,v=.ref T/\H T=none/\H'=upd H T (.tup [x,y])/\(∀xs,bG K H a xs->xs[i]?=some x)/\∀ys,bG K H b ys->ys[i]?=some y,
  λi H=>∃xs ys,bG K H a xs/\bG K H b ys/\(xs.length<=i\/ys.length<=i)⟩
theorem qD{K:PySem.W.Frag}{a c:Addr}{xs:List V}(hk:X.K=K)(I:Inv X pins σ H s)(h:bG K H a xs)(hf:jm X pins H c)(ho:∃o,s.heap.get? c=some o/\o.cls≠.type "list"):a≠c:=by
 subst hk
 obtain⟨its,rv,p,hz⟩:=I.list h
 obtain⟨o,e,d⟩:=ho
 obtain⟨o',e',c',_⟩:=p.isList
 intro z
 subst z
 rw[e]at e';cases e'
 exact d c'
theorem ZO{P:Program}{w:World}{K:PySem.W.Frag}{elts:List Expr}{k:Nat}{pos:Pos}(a b z TI TO i1 i2:Addr)(D5:[z,TI,TO,i1,i2].Nodup) :
  Turn P w K (.Tuple elts k pos) (E7 K a b) [z,TI,TO,i1,i2] z (λi h=>IsZip h z TI TO .none/\IsPair h TI (.ref i1) (.ref i2)/\(∃u v,IsPair h TO u v)/\h.IsListIter i1 a i/\h.IsListIter i2 b i):=by
 have ap:∀(X:Cx) (pins:List (Addr × Obj)) (s:Shared) (σ:St) (H:Hp) (i:Nat) (xs ys:List V),X.K=K->Inv X pins σ H s->(∀b∈[z,TI,TO,i1,i2],jm X pins H b)->IsZip s.heap z TI TO .none->(∃u v,IsPair s.heap TO u v)->s.heap.IsListIter i1 a i->s.heap.IsListIter i2 b i ->
   bG K H a xs->bG K H b ys->ZipApart z TI TO i1 i2 a b:=by
  intro X pins s σ H i xs ys hK I hf hz jt h1 h2 hx hy
  simp only[jF,bR,not_or,gJ,not_false_eq_true,and_true]at D5
  obtain⟨⟨d1,d2,d3,d4⟩,⟨d5,d6,d7⟩,⟨d8,d9⟩,ZP,_⟩:=D5
  have oz:∃o,s.heap.get? z=some o/\o.cls≠.type "list":=⟨_,hz,by intro q;exact absurd (DT q) (by decide)⟩
  have LD:∃o,s.heap.get? TO=some o/\o.cls≠.type "list":=by obtain⟨u,v,e⟩:=jt;exact⟨_,e,by intro q;exact absurd (DT q) (by decide)⟩
  have o1:∃o,s.heap.get? i1=some o/\o.cls≠.type "list":=by obtain⟨o,e,c,d⟩:=h1;exact⟨_,e,by rw[c];intro q;exact absurd (DT q) (by decide)⟩
  have o2:∃o,s.heap.get? i2=some o/\o.cls≠.type "list":=by obtain⟨o,e,c,d⟩:=h2;exact⟨_,e,by rw[c];intro q;exact absurd (DT q) (by decide)⟩
  exact⟨e7 d1,e7 d2,e7 d3,e7 d4,d5,d6,d7,d8,d9,ZP,
   qD hK I hx (hf z (by simp)) oz,qD hK I hx (hf TO (by simp)) LD,qD hK I hx (hf i1 (by simp)) o1,qD hK I hx (hf i2 (by simp)) o2,
   qD hK I hy (hf z (by simp)) oz,qD hK I hy (hf TO (by simp)) LD,qD hK I hy (hf i1 (by simp)) o1,qD hK I hy (hf i2 (by simp)) o2⟩
 refine⟨by simp,λi h st c hc=>?_,λi h h' st kk=>?_,?_,?_,λ_ _ _ _ _ st h=>wpAny_pyIter_zip st.1 h⟩
 ·obtain⟨hz,kX,⟨u,v,jt⟩,⟨o1,e1,c1,d1⟩,⟨o2,e2,c2,d2⟩⟩:=st
  simp only[bR,gJ,or_false]at hc
  rcases hc with rfl | rfl | rfl | rfl | rfl
  ·exact⟨_,hz,λv q=>by cases q⟩
  ·exact⟨_,kX,λv q=>by cases q⟩
  ·exact⟨_,jt,λv q=>by cases q⟩
  ·exact⟨_,e1,λv q=>by rw[d1]at q;cases q⟩
  ·exact⟨_,e2,λv q=>by rw[d2]at q;cases q⟩
 ·obtain⟨hz,kX,⟨u,v,jt⟩,h1,h2⟩:=st
  exact⟨kk _ (by simp) _ hz,kk _ (by simp) _ kX,⟨u,v,kk _ (by simp) _ jt⟩,h1.at λo e=>kk _ (by simp) o e,h2.at λo e=>kk _ (by simp) o e⟩
 ·intro X hP hw hK hc i pins s σ H E I hf st hg
  obtain⟨xs,ys,x,y,hx,hy,ex,ey⟩:=hg
  obtain⟨hz,kX,⟨u,v,jt⟩,h1,h2⟩:=st
  have D:=ap X pins s σ H i xs ys hK I hf hz ⟨u,v,jt⟩ h1 h2 hx hy
  subst hP hw hK
  obtain⟨as,ra,pa,_⟩:=I.list hx
  obtain⟨bs,rb,pb,_⟩:=I.list hy
  obtain⟨ux,E8,rx⟩:=ra.get ex
  obtain⟨uy,ZQ,ry⟩:=rb.get ey
  refine wpAny_pyNext_zip_item D hz kX jt h1 h2 pa.isList pb.isList (x:=ux) (y:=uy) (by simpa using E8) (by simpa using ZQ) λh' z' ZR kA jR T' sz kk=>?_
  have fT:H s.heap.objs.size=none:=I.aI.fresh (bE _)
  have I1:Inv X pins σ (upd H s.heap.objs.size (.tup [x,y])) { s with heap:=h',toks:=s.toks }:=I.LC (its:=[z,TO,i1,i2]) (λc o hc e=>kk c o (λq=>hc (by simp[q])) (λq=>hc (by simp[q])) (λq=>hc (by simp[q])) (λq=>hc (by simp[q])) e)
   (λc hc=>hf c (by simp only[bR,gJ,or_false]at hc ⊢;rcases hc with rfl | rfl | rfl | rfl<;>simp)) (bE _) ⟨by show 2<=sizeLine;decide,[ux,uy],.cons rx (.cons ry .nil),⟨_,T',rfl,_,rfl⟩⟩
  have nT:∀c∈[z,TI,TO,i1,i2],c≠s.heap.objs.size:=λc hc q=>by
   have:∃o,s.heap.get? c=some o:=by
    simp only[bR,gJ,or_false]at hc
    rcases hc with rfl | rfl | rfl | rfl | rfl
    ·exact⟨_,hz⟩
    ·exact⟨_,kX⟩
    ·exact⟨_,jt⟩
    ·obtain⟨o,e,_⟩:=h1;exact⟨o,e⟩
    ·obtain⟨o,e,_⟩:=h2;exact⟨o,e⟩
   obtain⟨o,e⟩:=this
   exact absurd (bD e) (by rw[q];exact gi _)
  refine⟨_,rfl,wpAny_letOwnedTupleGo_zip z' λE9 Fc sb=>?_⟩
  have Fd:∀c∈[z],jm X pins (upd H s.heap.objs.size (.tup [x,y])) c:=λc hc=>by
   have e:c=z:=by simpa using hc
   subst e
   obtain⟨f0,fr⟩:=hf c (by simp)
   exact⟨by rw[aT (nT c (by simp))];exact f0,fr⟩
  have I2:=Inv.BD (h':=E9) (its:=[z]) (t':=s.toks) I1 (λc o hc e=>sb.extBut _ _ (λq=>hc (by simp[q])) e) Fd
  refine⟨.ref s.heap.objs.size,_,I2,rfl,⟨_,x,y,rfl,fT,rfl,λZS dr=>by rw[I.Be dr hx];exact ex,λLF ZT=>by rw[I.Be ZT hy];exact ey⟩,⟨Fc,sb.extBut _ _ D.TIz (kk _ _ D.TIz D.TITO D.TIi1 D.TIi2 kX),⟨ux,uy,sb.extBut _ _ D.TOz ZR⟩,kA.extBut sb.extBut D.i1z,jR.extBut sb.extBut D.i2z⟩,λc hc=>?_⟩
  rw[aT (nT c hc)]
  exact(hf c hc).1
 ·intro X hP hw hK hc i pins s σ H E I hf st hg
  obtain⟨xs,ys,hx,hy,hl⟩:=hg
  obtain⟨hz,kX,⟨u,v,jt⟩,h1,h2⟩:=st
  have D:=ap X pins s σ H i xs ys hK I hf hz ⟨u,v,jt⟩ h1 h2 hx hy
  subst hP hw hK
  obtain⟨as,ra,pa,_⟩:=I.list hx
  obtain⟨bs,rb,pb,_⟩:=I.list hy
  have la:=ra.length
  have lb:=rb.length
  refine wpAny_pyNext_zip_end (I.ok.hd hc) D hz kX jt h1 h2 pa.isList pb.isList (hl.imp (λq=>by simp;omega) λq=>by simp;omega) λh' kk=>⟨rfl,?_⟩
  exact I.BD (its:=[z,TO,i1,i2]) (t':=s.toks) (λc o hc e=>kk c o (λq=>hc (by simp[q])) (λq=>hc (by simp[q])) (λq=>hc (by simp[q])) (λq=>hc (by simp[q])) e)
   (λc hc=>hf c (by simp only[bR,gJ,or_false]at hc ⊢;rcases hc with rfl | rfl | rfl | rfl<;>simp))
noncomputable def Fe(K:PySem.W.Frag)(a:Addr):It :=
 ⟨λi H=>∃xs x,bG K H a xs/\xs[i]?=some x,
  λi H v H'=>∃T x,v=.ref T/\H T=none/\H'=upd H T (.tup [.int i,x])/\∀xs,bG K H a xs->xs[i]?=some x,
  λi H=>∃xs,bG K H a xs/\xs.length<=i⟩
theorem ZU{P:Program}{w:World}{K:PySem.W.Frag}{elts:List Expr}{k:Nat}{pos:Pos}(a z it:Addr)(jS:z≠it) :
  Turn P w K (.Tuple elts k pos) (Fe K a) [z,it] z (λi h=>(∃old,IsEnum h z it i old)/\h.IsListIter it a i):=by
 refine⟨by simp,λi h st c hc=>?_,λi h h' st kk=>?_,?_,?_,λ_ _ _ _ _ st h=>by obtain⟨⟨old,e⟩,_⟩:=st;exact wpAny_pyIter_enum e h⟩
 ·obtain⟨⟨old,hz⟩,⟨o1,e1,c1,d1⟩⟩:=st
  simp only[bR,gJ,or_false]at hc
  rcases hc with rfl | rfl
  ·exact⟨_,hz,λv q=>by cases q⟩
  ·exact⟨_,e1,λv q=>by rw[d1]at q;cases q⟩
 ·obtain⟨⟨old,hz⟩,h1⟩:=st
  exact⟨⟨old,kk _ (by simp) _ hz⟩,h1.at λo e=>kk _ (by simp) o e⟩
 ·intro X hP hw hK hc i pins s σ H E I hf st hg
  subst hP hw hK
  obtain⟨xs,x,hx,ex⟩:=hg
  obtain⟨⟨old,hz⟩,h1⟩:=st
  obtain⟨as,ra,pa,_⟩:=I.list hx
  obtain⟨ux,E8,rx⟩:=ra.get ex
  refine wpAny_pyNext_enum_item hz h1 pa.isList (x:=ux) (by simpa using E8) jS λh' z' kA T' sz kk=>?_
  have fT:H s.heap.objs.size=none:=I.aI.fresh (bE _)
  have I1:Inv X pins σ (upd H s.heap.objs.size (.tup [.int i,x])) { s with heap:=h',toks:=s.toks+1 }:=I.LC (its:=[z,it]) (λc o hc e=>kk c o (λq=>hc (by simp[q])) (λq=>hc (by simp[q])) e)
   (λc hc=>hf c hc) (bE _) ⟨by show 2<=sizeLine;decide,[.int i s.toks,ux],.cons ⟨_,rfl⟩ (.cons rx .nil),⟨_,T',rfl,_,rfl⟩⟩
  have nT:∀c∈[z,it],c≠s.heap.objs.size:=λc hc q=>by
   have:∃o,s.heap.get? c=some o:=by
    simp only[bR,gJ,or_false]at hc
    rcases hc with rfl | rfl
    ·exact⟨_,hz⟩
    ·obtain⟨o,e,_⟩:=h1;exact⟨o,e⟩
   obtain⟨o,e⟩:=this
   exact absurd (bD e) (by rw[q];exact gi _)
  refine⟨_,rfl,wpAny_letOwnedTupleGo_enum z' λE9 Fc sb=>?_⟩
  have Fd:∀c∈[z],jm X pins (upd H s.heap.objs.size (.tup [.int i,x])) c:=λc hc=>by
   have e:c=z:=by simpa using hc
   subst e
   obtain⟨f0,fr⟩:=hf c (by simp)
   exact⟨by rw[aT (nT c (by simp))];exact f0,fr⟩
  have I2:=Inv.BD (h':=E9) (its:=[z]) (t':=s.toks+1) I1 (λc o hc e=>sb.extBut _ _ (λq=>hc (by simp[q])) e) Fd
  refine⟨.ref s.heap.objs.size,_,I2,rfl,⟨_,x,rfl,fT,rfl,λZS dr=>by rw[I.Be dr hx];exact ex⟩,⟨⟨ux,by simpa using Fc⟩,kA.extBut sb.extBut (e7 jS)⟩,λc hc=>?_⟩
  rw[aT (nT c hc)]
  exact(hf c hc).1
 ·intro X hP hw hK hc i pins s σ H E I hf st hg
  subst hP hw hK
  obtain⟨xs,hx,hl⟩:=hg
  obtain⟨⟨old,hz⟩,h1⟩:=st
  obtain⟨as,ra,pa,_⟩:=I.list hx
  have la:=ra.length
  refine wpAny_pyNext_enum_end (I.ok.hd hc) hz h1 pa.isList (by simp;omega) λh' kk=>⟨rfl,?_⟩
  exact I.BD (its:=[it]) (t':=s.toks) (λc o hc e=>kk c o (λq=>hc (by simp[q])) e) (λc hc=>hf c (by simp at hc ⊢;simp[hc]))
end
section
variable{X:Cx}{a b:Expr}{ta:TA}{p pos nJ:Pos}{elts:List Expr}{x1:Nat}
noncomputable def ZV(K:PySem.W.Frag)(ta:TA):TI:=λσ H R=>ta σ H λvs H1=>∃a b,vs=[.ref a,.ref b]/\(∃xs,bG K H1 a xs)/\(∃ys,bG K H1 b ys)/\R (E7 K a b) H1
theorem ZW:bootBuiltins "zip"=some (.type "zip"):=by decide +kernel
theorem LG(hg:Gl X "zip")(hm:X.mg "zip"=none)(ha:PA X [a,b] ta)(hs:starEach [a,b] X.env=[(false,eval a X.env),(false,eval b X.env)]:=by rfl)(dA:starEach [b] X.env=[(false,eval b X.env)]:=by rfl) :
  PI X (.Tuple elts x1 nJ) (.Call (.Name "zip" p) [a,b] [] pos) (ZV X.K ta):=by
 intro pins s σ H R I h
 refine Call_ (tK I hg hm ZW (Aw (aS (ha pos pins s σ H _ I h) λus s1 zq=>?_) (by rw[hs,dA]) (by rw[dA];rfl)))
 obtain⟨vs,H1,I1,r1,q1⟩:=zq
 obtain⟨a,b,e,⟨xs,hx⟩,⟨ys,hy⟩,q⟩:=q1
 subst e
 cases r1 with
 | cons r rr =>
  cases rr with
  | cons r2 rr =>
   cases rr
   cases r
   cases r2
   obtain⟨as,ra,pa,_⟩:=I1.list hx
   obtain⟨bs,rb,pb,_⟩:=I1.list hy
   refine call_zip_2 pa.isList pb.isList λh' hz kX jt h1 h2 sz kk=>wpAny_pyIter_zip hz ?_
   refine⟨_,[s1.heap.objs.size+4,s1.heap.objs.size+2,s1.heap.objs.size+3,s1.heap.objs.size,s1.heap.objs.size+1],_,_,H1,rfl,I1.kept (t':=s1.toks) kk,ZO a b _ _ _ _ _ (by simp),⟨hz,kX,⟨_,_,jt⟩,h1,h2⟩,λc hc=>?_,q⟩
   have hle:s1.heap.objs.size<=c:=by
    simp only[bR,gJ,or_false]at hc
    rcases hc with rfl | rfl | rfl | rfl | rfl<;>omega
   exact I1.Bi hle (I1.aI.fresh hle)
noncomputable def ZX(K:PySem.W.Frag)(ta:TA):TI:=λσ H R=>ta σ H λvs H1=>∃a,vs=[.ref a]/\(∃xs,bG K H1 a xs)/\R (Fe K a) H1
theorem ZY:bootBuiltins "enumerate"=some (.type "enumerate"):=by decide +kernel
theorem ZZ(hg:Gl X "enumerate")(hm:X.mg "enumerate"=none)(ha:PA X [a] ta)(hs:starEach [a] X.env=[(false,eval a X.env)]:=by rfl) :
  PI X (.Tuple elts x1 nJ) (.Call (.Name "enumerate" p) [a] [] pos) (ZX X.K ta):=by
 intro pins s σ H R I h
 refine Call_ (tK I hg hm ZY (Aw (aS (ha pos pins s σ H _ I h) λus s1 zq=>?_) hs rfl))
 obtain⟨vs,H1,I1,r1,q1⟩:=zq
 obtain⟨a,e,⟨xs,hx⟩,q⟩:=q1
 subst e
 cases r1 with
 | cons r rr =>
  cases rr
  cases r
  obtain⟨as,ra,pa,_⟩:=I1.list hx
  refine call_enumerate_list pa.isList λh' hz h1 sz kk=>wpAny_pyIter_enum hz ?_
  refine⟨_,[s1.heap.objs.size+1,s1.heap.objs.size],_,_,H1,rfl,I1.kept (t':=s1.toks) kk,ZU a (s1.heap.objs.size+1) s1.heap.objs.size (Nat.succ_ne_self _),⟨⟨_,hz⟩,h1⟩,λc hc=>?_,q⟩
  have hle:s1.heap.objs.size<=c:=by
   simp only[bR,gJ,or_false]at hc
   rcases hc with rfl | rfl<;>omega
  exact I1.Bi hle (I1.aI.fresh hle)
end
end L2
namespace L2
open PySem PySem.Spec PyProof.Rows PySem.W PySem.Calls
section
variable{X:Cx}
noncomputable def wk{α:Type}(xs:List α)(lo hi:Option Int):List α:=(xs.drop (HT.dq xs.length 0 lo)).take (HT.dq xs.length xs.length hi-HT.dq xs.length 0 lo)
theorem Z0(x:Str)(lo hi:Option Int):Txt.slice x lo hi=⟨(wk x.cps.toList lo hi).toArray⟩:=by
 have hx:x.length=x.cps.size:=rfl
 have e:(DU lo hi 1 x.length).filterMap (x.cps[·]?)=wk x.cps.toList lo hi:=by
  obtain⟨h1,h2,h3⟩:=EI lo hi x.length
  have e0:DU lo hi 1 x.length=sliceRange (sliceBounds lo hi none x.length).1 (sliceBounds lo hi none x.length).2.1 1:=by
   cases lo<;>cases hi<;>rfl
  rw[e0,h1,h2]
  simp only[sliceRange_one,pick_run]
  unfold wk
  rw[hx,xD]
 unfold Txt.slice
 split
 ·rename_i h
  have hl:(DU lo hi 1 x.length).length=x.length:=by
   rw[eU]at h;exact eq_of_beq h.2
  have hs:(wk x.cps.toList lo hi)=x.cps.toList:=by
   have e2:HT.dq x.cps.toList.length x.cps.toList.length hi-HT.dq x.cps.toList.length 0 lo=x.length:=by
    obtain⟨h1,h2,h3⟩:=EI lo hi x.length
    have e0:DU lo hi 1 x.length=sliceRange (sliceBounds lo hi none x.length).1 (sliceBounds lo hi none x.length).2.1 1:=by
     cases lo<;>cases hi<;>rfl
    rw[e0,h1,h2]at hl
    simp only[sliceRange_one,bq,bV]at hl
    rw[xD,<- hx]
    omega
   unfold wk
   have le:HT.dq x.cps.toList.length x.cps.toList.length hi<=x.cps.toList.length:=by
    cases hi with
    | none=>simp[HT.dq]
    | some i=>simp only[HT.dq];split<;>omega
   have Z1:HT.dq x.cps.toList.length 0 lo<=x.cps.toList.length:=by
    cases lo with
    | none=>simp[HT.dq]
    | some i=>simp only[HT.dq];split<;>omega
   rw[xD,<- hx]at e2 le Z1 ⊢
   have z:HT.dq x.length 0 lo=0:=by omega
   have z2:HT.dq x.length x.length hi=x.length:=by omega
   rw[z,z2,List.drop_zero,Nat.sub_zero,hx,<- xD,vF]
  rw[hs]
 ·rw[e]
theorem Z2:tV X (λx lo hi H Q=>∃z,x=.str z/\z.length<=sizeLine/\Q (.str ⟨(wk z.cps.toList lo hi).toArray⟩) H):=by
 intro pins s σ H x v vl vu lo hi sl Q I rx hs pl pu h
 obtain⟨z,rfl,hz,q⟩:=h
 obtain⟨t,rfl⟩:=rx
 refine⟨"str",_,F.slot_str_getitem.lookup,typeIs_str _ _ _,?_⟩
 have fin:∀(l u:Option (Int × Tok)),l.map (·.1)=lo->u.map (·.1)=hi->partValue l=vl->partValue u=vu->wpAny (model X.prog X.w) X.A (getItem (.str z t) (.ref sl)) (EP X pins σ Q) X.xe s:=by
  intro l u h1 h2 h3 h4
  obtain⟨o,e1,e2,e3⟩:=hs
  refine wpAny_getItem_str_slice (l:=l) (u:=u) (st:=none) ⟨o,e1,e2,by rw[e3,h3,h4];rfl⟩ rfl ?_
  have e:Txt.slice z lo hi=(if(((none:Option (Int × Tok)).map (·.1)).getD 1==1&&(slicePicked z l u none).length==z.length)=true then z else⟨((slicePicked z l u none).filterMap (z.cps[·]?)).toArray⟩):=by
   unfold Txt.slice slicePicked;rw[h1,h2];rfl
  refine post_val_or_str ⟨?_,λt' k=>?_⟩
  ·rw[<-e];exact fG (Txt.slice_le z _ _) hz
  ·rw[<-e,Z0];exact⟨.str _,H,I.tok _,⟨_,rfl⟩,q⟩
 cases pl with
 | none =>
  cases pu with
  | none=>exact fin none none rfl rfl rfl rfl
  | int j tj=>exact fin none (some (j,tj)) rfl rfl rfl rfl
 | int i ti =>
  cases pu with
  | none=>exact fin (some (i,ti)) none rfl rfl rfl rfl
  | int j tj=>exact fin (some (i,ti)) (some (j,tj)) rfl rfl rfl rfl
end
end L2
namespace L3
open PySem L2
noncomputable def ju:HO->Bool
 | .dO _=>false
 | _=>true
structure af(H H':Hp):Prop where
 get:∀b o,H b=some o->(h:ju o=true:=by rfl)->H' b=some o
 tb:∀b ps,H b=some (.dO ps)->∃more,H' b=some (.dO (ps++more))
noncomputable instance {H H':Hp}:CoeFun (af H H') λ_=>∀b o,H b=some o->(h:ju o=true:=by rfl)->H' b=some o:=⟨λs=>@af.get _ _ s⟩
theorem Ff{o:HO}(h:ju o=false):∃ps,o=.dO ps:=by
 cases o with
 | dO ps=>exact⟨ps,rfl⟩
 | _=>cases h
theorem af.of{H H':Hp}(h:∀b o,H b=some o->H' b=some o):af H H':=⟨λb o e _=>h b o e,λb ps e=>⟨#[],by rw[h b _ e];simp⟩⟩
theorem af.refl(H:Hp):af H H:=.of λ_ _ h=>h
theorem af.trans{H H1 H2:Hp}(a:af H H1)(b:af H1 H2):af H H2 :=
 ⟨λc o h n=>b.get c o (a.get c o h n) n,λc ps h=>by
  obtain⟨m1,e1⟩:=a.tb c ps h
  obtain⟨m2,e2⟩:=b.tb c _ e1
  exact⟨m1++m2,by rw[e2,sS]⟩⟩
theorem af.any{H H':Hp}(e:af H H'){l:Addr}{o:HO}(h:H l=some o):∃o',H' l=some o':=by
 cases n:ju o with
 | true=>exact⟨o,e.get l o h n⟩
 | false =>
  obtain⟨ps,rfl⟩:=Ff n
  obtain⟨m,q⟩:=e.tb l ps h
  exact⟨_,q⟩
theorem af.free{H H':Hp}(e:af H H'){l:Addr}(h:H' l=Option.none):H l=Option.none:=by
 cases q:H l with
 | none=>rfl
 | some o =>
  obtain⟨o',z⟩:=e.any q
  rw[z]at h
  cases h
inductive wm where
 | ext (φ:Addr->Heap->Prop)
 | lam (of oc:Obj) (c k:Addr)
noncomputable instance:Coe (Addr->Heap->Prop) wm:=⟨.ext⟩
noncomputable def Fg(H:Hp)(k:Addr):Prop:=∃ψ,H k=some (.ext ψ)/\∀h,ψ h->∃q,h.CodeRec (.ref k) q
noncomputable def jT(of oc:Obj)(c p:Addr):Heap->Prop:=λh=>h.get? p=some of/\h.get? c=some oc
structure kB(H:Hp)(p:Addr)(of oc:Obj)(c k:Addr):Prop where
 fn:H p=some (.ext (jT of oc c p))
 cell:H c=some (.own p)
 Fh:Fg H k
noncomputable def tY(H:Hp)(p:Addr):wm->Prop
 | .ext φ=>H p=some (.ext (φ p))
 | .lam of oc c k=>kB H p of oc c k
theorem tY.mono{H H':Hp}{p:Addr}:∀{z:wm},tY H p z->(∀a o,H a=some o->(∀ws,o≠.lst ws)->ju o=true->H' a=some o)->tY H' p z
 | .ext φ,x,k=>k _ _ x (λws q=>by cases q) rfl
 | .lam of oc c k',x,k=>⟨k _ _ x.fn (λws q=>by cases q) rfl,k _ _ x.cell (λws q=>by cases q) rfl,let⟨ψ,e,h⟩:=x.Fh;⟨ψ,k _ _ e (λws q=>by cases q) rfl,h⟩⟩
inductive D where
 | au | bl (b:Bool) | int (i:Int) | str (x:Str)
 | lst (o:Bool) (xs:List D)
 | tup (xs:List D)
 | obj (C:Addr) (ns:List Str) (xs:List D)
 | fz (xs:List D)
 | bx (z:wm)
 deriving Inhabited
noncomputable def D.pl:D->Bool
 | .lst o xs=>!o&&yr xs
 | .tup xs=>yr xs
 | _=>true
where yr:List D->Bool
 | []=>true
 | d::ds=>d.pl&&yr ds
noncomputable def D.fr:D->Bool
 | .lst o xs=>o&&yt xs
 | .tup xs=>yt xs
 | .obj _ _ _=>false
 | .fz _=>false
 | _=>true
where yt:List D->Bool
 | []=>true
 | d::ds=>d.fr&&yt ds
noncomputable def D.sh:D->D
 | .lst _ xs=>.lst false (yu xs)
 | .tup xs=>.tup (yu xs)
 | d=>d
where yu:List D->List D
 | []=>[]
 | d::ds=>d.sh::yu ds
theorem LH(ds:List D):D.pl.yr ds=ds.all D.pl:=by induction ds with | nil=>rfl | cons d ds ih=>simp[D.pl.yr,ih]
theorem LJ(ds:List D):D.fr.yt ds=ds.all D.fr:=by induction ds with | nil=>rfl | cons d ds ih=>simp[D.fr.yt,ih]
theorem Fj(ds:List D):D.sh.yu ds=ds.map D.sh:=by induction ds with | nil=>rfl | cons d ds ih=>simp[D.sh.yu,ih]
theorem fB(o:Bool)(xs:List D):(D.lst o xs).pl=(!o&&xs.all D.pl):=by simp[D.pl,LH]
theorem jU(xs:List D):(D.tup xs).pl=xs.all D.pl:=by simp[D.pl,LH]
theorem eZ(o:Bool)(xs:List D):(D.lst o xs).fr=(o&&xs.all D.fr):=by simp[D.fr,LJ]
theorem nU(xs:List D):(D.tup xs).fr=xs.all D.fr:=by simp[D.fr,LJ]
theorem cU(o:Bool)(xs:List D):(D.lst o xs).sh=.lst false (xs.map D.sh):=by simp[D.sh,Fj]
theorem kC(xs:List D):(D.tup xs).sh=.tup (xs.map D.sh):=by simp[D.sh,Fj]
inductive R(F H:Hp):List D->List V->List Addr->Prop
 | nil:R F H [] [] []
 | au {ds vs B}:R F H ds vs B->R F H (.au::ds) (.au::vs) B
 | bl {b ds vs B}:R F H ds vs B->R F H (.bl b::ds) (.bl b::vs) B
 | int {i ds vs B}:R F H ds vs B->R F H (.int i::ds) (.int i::vs) B
 | str {x ds vs B}:R F H ds vs B->R F H (.str x::ds) (.str x::vs) B
 | shr {p ws xs ds vs B}:F p=some (.lst ws)->R F H xs ws []->R F H ds vs B->R F H (.lst false xs::ds) (.ref p::vs) B
 | own {p ws xs A ds vs B}:H p=some (.lst ws)->F p=none->R F H xs ws A->R F H ds vs B->R F H (.lst true xs::ds) (.ref p::vs) (p::(A++B))
 | tup {p ws xs A ds vs B}:H p=some (.tup ws)->R F H xs ws A->R F H ds vs B->R F H (.tup xs::ds) (.ref p::vs) (A++B)
 | obj {p C dx ns ws xs ds vs B}:H p=some (.ins C dx (ns.zip ws))->ns.length=ws.length->R F H xs ws []->R F H ds vs B->R F H (.obj C ns xs::ds) (.ref p::vs) B
 | fz {p o ws xs ds vs B}:F p=some (.bj o (.lst ws))->R F H xs ws []->R F H ds vs B->R F H (.fz xs::ds) (.ref p::vs) B
 | bx {p z ds vs B}:tY H p z->R F H ds vs B->R F H (.bx z::ds) (.ref p::vs) B
inductive S(F H:Hp):List D->List V->Prop
 | nil:S F H [] []
 | au {ds vs}:S F H ds vs->S F H (.au::ds) (.au::vs)
 | bl {b ds vs}:S F H ds vs->S F H (.bl b::ds) (.bl b::vs)
 | int {i ds vs}:S F H ds vs->S F H (.int i::ds) (.int i::vs)
 | str {x ds vs}:S F H ds vs->S F H (.str x::ds) (.str x::vs)
 | shr {p ws xs ds vs}:F p=some (.lst ws)->R F H xs ws []->S F H ds vs->S F H (.lst false xs::ds) (.ref p::vs)
 | own {p ws xs ds vs}:H p=some (.lst ws)->S F H xs ws->S F H ds vs->S F H (.lst true xs::ds) (.ref p::vs)
 | tup {p ws xs ds vs}:H p=some (.tup ws)->S F H xs ws->S F H ds vs->S F H (.tup xs::ds) (.ref p::vs)
 | obj {p C dx ns ws xs ds vs}:H p=some (.ins C dx (ns.zip ws))->ns.length=ws.length->R F H xs ws []->S F H ds vs->S F H (.obj C ns xs::ds) (.ref p::vs)
 | fz {p o ws xs ds vs}:F p=some (.bj o (.lst ws))->R F H xs ws []->S F H ds vs->S F H (.fz xs::ds) (.ref p::vs)
 | bx {p z ds vs}:tY H p z->S F H ds vs->S F H (.bx z::ds) (.ref p::vs)
section
variable{F F' H H':Hp}{d:D}{ds es:List D}{v:V}{vs ws:List V}{A B:List Addr}
theorem R.length(r:R F H ds vs A):ds.length=vs.length:=by
 induction r<;>simp_all
theorem S.length(r:S F H ds vs):ds.length=vs.length:=by
 induction r<;>simp_all
theorem R.kY{vs:List V}{A:List Addr}(r:R F H [] vs A):vs=[]/\A=[]:=by cases r;exact⟨rfl,rfl⟩
noncomputable def Rv(F H:Hp)(ds:List D)(v:V)(vs:List V)(B:List Addr):D->Prop
 | .lst true xs=>∃p ws A B',v=.ref p/\H p=some (.lst ws)/\F p=none/\R F H xs ws A/\R F H ds vs B'/\B=p::(A++B')
 | .tup xs=>∃p ws A B',v=.ref p/\H p=some (.tup ws)/\R F H xs ws A/\R F H ds vs B'/\B=A++B'
 | _=>R F H ds vs B
theorem R.rv{d:D}{ds:List D}{v:V}{vs:List V}{B:List Addr}(r:R F H (d::ds) (v::vs) B):Rv F H ds v vs B d:=by
 cases r with
 | au q=>exact q
 | bl q=>exact q
 | int q=>exact q
 | str q=>exact q
 | shr _ _ q=>exact q
 | own h f x q=>exact⟨_,_,_,_,rfl,h,f,x,q,rfl⟩
 | tup h x q=>exact⟨_,_,_,_,rfl,h,x,q,rfl⟩
 | obj _ _ _ q=>exact q
 | fz _ _ q=>exact q
 | bx _ q=>exact q
theorem R.cons(r:R F H [d] [v] A)(q:R F H ds vs B):R F H (d::ds) (v::vs) (A++B):=by
 cases r with
 | au r=>rw[r.kY.2];exact .au q
 | bl r=>rw[r.kY.2];exact .bl q
 | int r=>rw[r.kY.2];exact .int q
 | str r=>rw[r.kY.2];exact .str q
 | shr h x r=>rw[r.kY.2];exact .shr h x q
 | own h f x r=>rw[r.kY.2,fu];exact R.own h f x q
 | tup h x r=>rw[r.kY.2,fu];exact R.tup h x q
 | obj h l x r=>rw[r.kY.2];exact .obj h l x q
 | fz h x r=>rw[r.kY.2];exact .fz h x q
 | bx h r=>rw[r.kY.2];exact .bx h q
theorem R.cH(r:R F H (d::ds) vs A):∃v bK A1 A2,vs=v::bK/\A=A1++A2/\R F H [d] [v] A1/\R F H ds bK A2:=by
 cases r with
 | au r=>exact⟨_,_,[],_,rfl,rfl,.au .nil,r⟩
 | bl r=>exact⟨_,_,[],_,rfl,rfl,.bl .nil,r⟩
 | int r=>exact⟨_,_,[],_,rfl,rfl,.int .nil,r⟩
 | str r=>exact⟨_,_,[],_,rfl,rfl,.str .nil,r⟩
 | shr h x r=>exact⟨_,_,[],_,rfl,rfl,.shr h x .nil,r⟩
 | @own p _ _ A1 _ _ B1 h f x r=>exact⟨_,_,p::A1,B1,rfl,rfl,by simpa using R.own h f x .nil,r⟩
 | @tup p _ _ A1 _ _ B1 h x r=>exact⟨_,_,A1,B1,rfl,rfl,by simpa using R.tup h x .nil,r⟩
 | obj h l x r=>exact⟨_,_,[],_,rfl,rfl,.obj h l x .nil,r⟩
 | fz h x r=>exact⟨_,_,[],_,rfl,rfl,.fz h x .nil,r⟩
 | bx h r=>exact⟨_,_,[],_,rfl,rfl,.bx h .nil,r⟩
theorem S.cons(r:S F H [d] [v])(q:S F H ds vs):S F H (d::ds) (v::vs):=by
 cases r with
 | au r=>exact .au q
 | bl r=>exact .bl q
 | int r=>exact .int q
 | str r=>exact .str q
 | shr h x r=>exact .shr h x q
 | own h x r=>exact .own h x q
 | tup h x r=>exact .tup h x q
 | obj h l x r=>exact .obj h l x q
 | fz h x r=>exact .fz h x q
 | bx h r=>exact .bx h q
theorem S.cH(r:S F H (d::ds) vs):∃v bK,vs=v::bK/\S F H [d] [v]/\S F H ds bK:=by
 cases r with
 | au r=>exact⟨_,_,rfl,.au .nil,r⟩
 | bl r=>exact⟨_,_,rfl,.bl .nil,r⟩
 | int r=>exact⟨_,_,rfl,.int .nil,r⟩
 | str r=>exact⟨_,_,rfl,.str .nil,r⟩
 | shr h x r=>exact⟨_,_,rfl,.shr h x .nil,r⟩
 | own h x r=>exact⟨_,_,rfl,.own h x .nil,r⟩
 | tup h x r=>exact⟨_,_,rfl,.tup h x .nil,r⟩
 | obj h l x r=>exact⟨_,_,rfl,.obj h l x .nil,r⟩
 | fz h x r=>exact⟨_,_,rfl,.fz h x .nil,r⟩
 | bx h r=>exact⟨_,_,rfl,.bx h .nil,r⟩
theorem R.append:∀{ds:List D} {vs:List V} {A:List Addr},R F H ds vs A->R F H es ws B->R F H (ds++es) (vs++ws) (A++B)
 | [],_,_,r,q=>by cases r;exact q
 | d::ds,_,_,r,q=>by
  obtain⟨v,bK,A1,A2,rfl,rfl,h1,h2⟩:=r.cH
  simpa using h1.cons (R.append h2 q)
theorem S.append:∀{ds:List D} {vs:List V},S F H ds vs->S F H es ws->S F H (ds++es) (vs++ws)
 | [],_,r,q=>by cases r;exact q
 | d::ds,_,r,q=>by
  obtain⟨v,bK,rfl,h1,h2⟩:=r.cH
  exact h1.cons (S.append h2 q)
theorem R.split:∀{ds:List D} {vs:List V} {A:List Addr},R F H (ds++es) vs A->∃v1 v2 A1 A2,vs=v1++v2/\A=A1++A2/\R F H ds v1 A1/\R F H es v2 A2
 | [],vs,A,r=>⟨[],vs,[],A,rfl,rfl,.nil,r⟩
 | d::ds,_,_,r=>by
  obtain⟨v,bK,A1,A2,rfl,rfl,h1,h2⟩:=R.cH (ds:=ds++es) r
  obtain⟨v1,v2,B1,B2,rfl,rfl,h3,h4⟩:=R.split (ds:=ds) h2
  exact⟨v::v1,v2,A1++B1,B2,rfl,by simp,h1.cons h3,h4⟩
theorem R.get:∀{ds:List D} {vs:List V} {A:List Addr} {i:Nat},R F H ds vs A->ds[i]?=some d->∃v A1,vs[i]?=some v/\R F H [d] [v] A1/\A1 ⊆ A
 | [],_,_,_,_,e=>by simp at e
 | d'::ds,_,_,i,r,e=>by
  obtain⟨v,bK,A1,A2,rfl,rfl,h1,h2⟩:=r.cH
  cases i with
  | zero=>simp at e;subst e;exact⟨v,A1,rfl,h1,by simp⟩
  | succ i =>
   obtain⟨w,B1,e2,q,sb⟩:=R.get (ds:=ds) (i:=i) h2 (by simpa using e)
   exact⟨w,B1,by simpa using e2,q,λx hx=>dj _ (sb hx)⟩
theorem S.get:∀{ds:List D} {vs:List V} {i:Nat},S F H ds vs->ds[i]?=some d->∃v,vs[i]?=some v/\S F H [d] [v]
 | [],_,_,_,e=>by simp at e
 | d'::ds,_,i,r,e=>by
  obtain⟨v,bK,rfl,h1,h2⟩:=r.cH
  cases i with
  | zero=>simp at e;subst e;exact⟨v,rfl,h1⟩
  | succ i =>
   obtain⟨w,e2,q⟩:=S.get (ds:=ds) (i:=i) h2 (by simpa using e)
   exact⟨w,by simpa using e2,q⟩
theorem S.get':∀{ds:List D} {vs:List V} {i:Nat},S F H ds vs->vs[i]?=some v->∃d,ds[i]?=some d/\S F H [d] [v]
 | [],_,_,r,e=>by cases r;simp at e
 | d'::ds,_,i,r,e=>by
  obtain⟨v,bK,rfl,h1,h2⟩:=r.cH
  cases i with
  | zero=>simp at e;subst e;exact⟨d',rfl,h1⟩
  | succ i =>
   obtain⟨w,e2,q⟩:=S.get' (ds:=ds) (i:=i) h2 (by simpa using e)
   exact⟨w,by simpa using e2,q⟩
theorem S.take:∀{ds:List D} {vs:List V} (n:Nat),S F H ds vs->S F H (ds.take n) (vs.take n)
 | _,_,0,r=>by simpa using S.nil
 | [],_,n+1,r=>by cases r;exact .nil
 | d::ds,_,n+1,r=>by
  obtain⟨v,bK,rfl,h1,h2⟩:=r.cH
  exact h1.cons (S.take n h2)
theorem S.drop:∀{ds:List D} {vs:List V} (n:Nat),S F H ds vs->S F H (ds.drop n) (vs.drop n)
 | _,_,0,r=>by simpa using r
 | [],_,n+1,r=>by cases r;exact .nil
 | d::ds,_,n+1,r=>by
  obtain⟨v,bK,rfl,h1,h2⟩:=r.cH
  exact S.drop n h2
theorem hV{p:Addr}{o:HO}(h:Rd F p o)(s:af F F')(n:ju o=true:=by rfl):Rd F' p o:=by
 rcases h with h | ⟨u,h⟩
 ·exact .inl (s.get _ _ h n)
 ·exact .inr ⟨u,s _ _ h⟩
theorem R.s(r:R F H ds vs A):S F H ds vs:=by
 induction r with
 | nil=>exact .nil
 | au _ ih=>exact .au ih
 | bl _ ih=>exact .bl ih
 | int _ ih=>exact .int ih
 | str _ ih=>exact .str ih
 | shr h x _ _ ih=>exact .shr h x ih
 | own h f _ _ i1 i2=>exact .own h i1 i2
 | tup h _ _ i1 i2=>exact .tup h i1 i2
 | obj h l x _ _ ih=>exact .obj h l x ih
 | fz h x _ _ ih=>exact .fz h x ih
 | bx h _ ih=>exact .bx h ih
structure gb(W:List Addr)(H H':Hp):Prop where
 get:∀a o,H a=some o->a ∉ W->(h:ju o=true:=by rfl)->H' a=some o
noncomputable instance {W:List Addr} {H H':Hp}:CoeFun (gb W H H') λ_=>∀a o,H a=some o->a ∉ W->(h:ju o=true:=by rfl)->H' a=some o:=⟨λs=>@gb.get _ _ _ s⟩
noncomputable def gO(W:List Addr)(H:Hp):Prop:=∀a∈W,∃ws,H a=some (.lst ws)
theorem R.keep{W:List Addr}(hf:af F F')(hb:gb W H H')(hl:gO W H)(r:R F H ds vs A)(hn:∀a∈A,F' a=none)(hd:∀a∈A,a ∉ W):R F' H' ds vs A:=by
 induction r with
 | nil=>exact .nil
 | au _ ih=>exact .au (ih hn hd)
 | bl _ ih=>exact .bl (ih hn hd)
 | int _ ih=>exact .int (ih hn hd)
 | str _ ih=>exact .str (ih hn hd)
 | shr h x _ i1 ih=>exact .shr (hf _ _ h) (i1 (by simp) (by simp)) (ih hn hd)
 | own h f _ _ i1 i2 =>
  refine .own (hb _ _ h (hd _ (by simp))) (hn _ (by simp)) (i1 (λa ha=>hn a ?_) λa ha=>hd a ?_) (i2 (λa ha=>hn a ?_) λa ha=>hd a ?_)<;>simp[ha]
 | @tup p ws _ _ _ _ _ h _ _ i1 i2 =>
  refine .tup (hb _ _ h λz=>?_) (i1 (λa ha=>hn a ?_) λa ha=>hd a ?_) (i2 (λa ha=>hn a ?_) λa ha=>hd a ?_)<;>try simp[ha]
  obtain⟨q,e⟩:=hl _ z
  rw[h]at e;cases e
 | obj h l x _ i1 ih =>
  refine .obj (hb _ _ h λz=>?_) l (i1 (by simp) (by simp)) (ih hn hd)
  obtain⟨q,e⟩:=hl _ z
  rw[h]at e;cases e
 | fz h x _ i1 ih=>exact .fz (hf _ _ h) (i1 (by simp) (by simp)) (ih hn hd)
 | bx h _ ih =>
  exact .bx (h.mono λa o e n t=>hb.get a o e (λz=>by
   obtain⟨q,e'⟩:=hl _ z
   rw[e]at e';cases e';exact n _ rfl) t) (ih hn hd)
theorem gb.same(h:af H H'):gb [] H H':=⟨λa o e _ n=>h.get a o e n⟩
theorem gO.nil:gO [] H:=λa h=>absurd h (by simp)
theorem R.grow(hf:af F F')(hb:af H H')(r:R F H ds vs A)(hn:∀a∈A,F' a=none):R F' H' ds vs A :=
 r.keep hf (gb.same hb) gO.nil hn (by simp)
theorem R.shared(hf:af F F')(hb:af H H')(r:R F H ds vs []):R F' H' ds vs []:=r.grow hf hb (by simp)
theorem S.mono(hf:af F F')(hb:af H H')(r:S F H ds vs):S F' H' ds vs:=by
 induction r with
 | nil=>exact .nil
 | au _ ih=>exact .au ih
 | bl _ ih=>exact .bl ih
 | int _ ih=>exact .int ih
 | str _ ih=>exact .str ih
 | shr h x _ ih=>exact .shr (hf _ _ h) (x.shared hf hb) ih
 | own h _ _ i1 i2=>exact .own (hb _ _ h) i1 i2
 | tup h _ _ i1 i2=>exact .tup (hb _ _ h) i1 i2
 | obj h l x _ ih=>exact .obj (hb _ _ h) l (x.shared hf hb) ih
 | fz h x _ ih=>exact .fz (hf _ _ h) (x.shared hf hb) ih
 | bx h _ ih=>exact .bx (h.mono λa o e _ t=>hb.get a o e t) ih
theorem S.r(s:S F H ds vs)(p:ds.all D.pl=true):R F H ds vs []:=by
 induction s with
 | nil=>exact .nil
 | au _ ih=>exact .au (ih (by simpa[D.pl]using p))
 | bl _ ih=>exact .bl (ih (by simpa[D.pl]using p))
 | int _ ih=>exact .int (ih (by simpa[D.pl]using p))
 | str _ ih=>exact .str (ih (by simpa[D.pl]using p))
 | shr h x _ ih=>exact .shr h x (ih (by simp[fB]at p;simpa using p.2))
 | own h _ _ i1 i2=>simp[fB]at p
 | tup h _ _ i1 i2 =>
  rw[de,jU,eU]at p
  simpa using R.tup h (i1 p.1) (i2 p.2)
 | obj h l x _ ih=>exact .obj h l x (ih (by simpa[D.pl]using p))
 | fz h x _ ih=>exact .fz h x (ih (by simpa[D.pl]using p))
 | bx h _ ih=>exact .bx h (ih (by simpa[D.pl]using p))
theorem R.pl(r:R F H ds vs []):ds.all D.pl=true:=by
 generalize e:([]:List Addr)=A at r
 induction r with
 | nil=>rfl
 | au _ ih=>simp[D.pl];simpa using ih e
 | bl _ ih=>simp[D.pl];simpa using ih e
 | int _ ih=>simp[D.pl];simpa using ih e
 | str _ ih=>simp[D.pl];simpa using ih e
 | shr h x _ i1 ih=>simp only[de,fB,i1 rfl,ih e];rfl
 | own h f _ _ i1 i2=>cases e
 | tup h _ _ i1 i2 =>
  obtain⟨e1,e2⟩:=s8.mp e.symm
  simp only[de,jU,i1 e1.symm,i2 e2.symm];rfl
 | obj h l x _ i1 ih=>simp[D.pl];simpa using ih e
 | fz h x _ i1 ih=>simp[D.pl];simpa using ih e
 | bx h _ ih=>simp[D.pl];simpa using ih e
theorem D.BE:∀{d:D},d.pl=true->d.sh=d
 | .au,_=>rfl
 | .bl _,_=>rfl
 | .int _,_=>rfl
 | .str _,_=>rfl
 | .obj _ _ _,_=>rfl
 | .fz _,_=>rfl
 | .bx _,_=>rfl
 | .lst o xs,h=>by
  rw[fB,eU]at h
  have:∀(l:List D),(∀x∈l,x∈xs)->l.all D.pl=true->l.map D.sh=l:=by
   intro l hl hp
   induction l with
   | nil=>rfl
   | cons x l ih =>
    simp only[de,eU]at hp
    have hx:x∈xs:=hl x (by simp)
    rw[da,D.BE hp.1,ih (λy hy=>hl y (by simp[hy])) hp.2]
  rw[cU,this xs (λ_ h=>h) h.2]
  cases o<;>simp_all
 | .tup xs,h=>by
  rw[jU]at h
  have:∀(l:List D),(∀x∈l,x∈xs)->l.all D.pl=true->l.map D.sh=l:=by
   intro l hl hp
   induction l with
   | nil=>rfl
   | cons x l ih =>
    simp only[de,eU]at hp
    have hx:x∈xs:=hl x (by simp)
    rw[da,D.BE hp.1,ih (λy hy=>hl y (by simp[hy])) hp.2]
  rw[kC,this xs (λ_ h=>h) h]
termination_by d=>sizeOf d
theorem kZ{l:List D}(h:l.all D.pl=true):l.map D.sh=l:=by
 induction l with
 | nil=>rfl
 | cons x l ih =>
  simp only[de,eU]at h
  rw[da,D.BE h.1,ih h.2]
theorem S.frozen(e:af F H)(s:S F H ds vs):R H H (ds.map D.sh) vs []:=by
 induction s with
 | nil=>exact .nil
 | au _ ih=>exact .au ih
 | bl _ ih=>exact .bl ih
 | int _ ih=>exact .int ih
 | str _ ih=>exact .str ih
 | shr h x _ ih =>
  rw[da,cU,kZ x.pl]
  exact .shr (e _ _ h) (x.shared e (af.refl _)) ih
 | own h _ _ i1 i2=>rw[da,cU];exact .shr h i1 i2
 | tup h _ _ i1 i2=>rw[da,kC];simpa using R.tup h i1 i2
 | obj h l x _ ih=>exact .obj h l (x.shared e (af.refl _)) ih
 | fz h x _ ih=>exact .fz (e _ _ h) (x.shared e (af.refl _)) ih
 | bx h _ ih=>exact .bx h ih
noncomputable def bj(F H:Hp)(A:List Addr):Hp:=λa=>if a∈A then H a else F a
theorem iH(e:af F H):af F (bj F H A):=⟨λa o h n=>by unfold bj;split;exact e.get _ _ h n;exact h,λa ps h=>by unfold bj;split;exact e.tb _ _ h;exact⟨#[],by rw[h];simp⟩⟩
theorem nV(e:af F H):af (bj F H A) H:=⟨λa o h n=>by unfold bj at h;split at h;exact h;exact e.get _ _ h n,λa ps h=>by unfold bj at h;split at h;exact⟨#[],by rw[h];simp⟩;exact e.tb _ _ h⟩
theorem qE{a:Addr}(h:a ∉ A):bj F H A a=F a:=by unfold bj;rw[if_neg h]
theorem Z3{a:Addr}(h:a∈A):bj F H A a=H a:=by unfold bj;rw[if_pos h]
theorem R.bj(e:af F H)(r:R F H ds vs A):∀A',A ⊆ A'->R (L3.bj F H A') H (ds.map D.sh) vs []:=by
 induction r with
 | nil=>exact λ_ _=>.nil
 | au _ ih=>exact λA' h=>.au (ih A' h)
 | bl _ ih=>exact λA' h=>.bl (ih A' h)
 | int _ ih=>exact λA' h=>.int (ih A' h)
 | str _ ih=>exact λA' h=>.str (ih A' h)
 | shr h x _ i1 ih =>
  intro A' hA
  rw[da,cU,kZ x.pl]
  exact .shr (iH e _ _ h) (x.shared (iH e) (af.refl _)) (ih A' hA)
 | own h f _ _ i1 i2 =>
  intro A' hA
  rw[da,cU]
  exact .shr ((Z3 (hA (by simp))).trans h) (i1 A' λa ha=>hA (by simp[ha])) (i2 A' λa ha=>hA (by simp[ha]))
 | tup h _ _ i1 i2 =>
  intro A' hA
  rw[da,kC]
  simpa using R.tup h (i1 A' λa ha=>hA (by simp[ha])) (i2 A' λa ha=>hA (by simp[ha]))
 | obj h l x _ i1 ih=>exact λA' hA=>.obj h l (x.shared (iH e) (af.refl _)) (ih A' hA)
 | fz h x _ i1 ih=>exact λA' hA=>.fz (iH e _ _ h) (x.shared (iH e) (af.refl _)) (ih A' hA)
 | bx h _ ih=>exact λA' hA=>.bx h (ih A' hA)
theorem R.lists(r:R F H ds vs A):∀a∈A,(∃ws,H a=some (.lst ws))/\F a=none:=by
 induction r with
 | nil=>simp
 | au _ ih=>exact ih
 | bl _ ih=>exact ih
 | int _ ih=>exact ih
 | str _ ih=>exact ih
 | shr h x _ i1 ih=>exact ih
 | own h f _ _ i1 i2 =>
  intro a ha
  rcases bR.mp ha with rfl | ha
  ·exact⟨⟨_,h⟩,f⟩
  ·exact(bY.mp ha).elim (i1 a) (i2 a)
 | tup h _ _ i1 i2=>exact λa ha=>(bY.mp ha).elim (i1 a) (i2 a)
 | obj h l x _ i1 ih=>exact ih
 | fz h x _ i1 ih=>exact ih
 | bx h _ ih=>exact ih
theorem R.qF(r:R F H ds vs A)(hd:ds.all D.fr=true)(e:af F' F):R F' H ds vs A:=by
 induction r with
 | nil=>exact .nil
 | au _ ih=>exact .au (ih (by simpa[D.fr]using hd))
 | bl _ ih=>exact .bl (ih (by simpa[D.fr]using hd))
 | int _ ih=>exact .int (ih (by simpa[D.fr]using hd))
 | str _ ih=>exact .str (ih (by simpa[D.fr]using hd))
 | shr h x _ i1 ih=>simp[eZ]at hd
 | own h f _ _ i1 i2 =>
  rw[de,eZ,eU,kQ]at hd
  exact .own h (e.free f) (i1 hd.1) (i2 hd.2)
 | tup h _ _ i1 i2 =>
  rw[de,nU,eU]at hd
  exact .tup h (i1 hd.1) (i2 hd.2)
 | obj h l x _ i1 ih=>simp[D.fr]at hd
 | fz h x _ i1 ih=>simp[D.fr]at hd
 | bx h _ ih=>exact .bx h (ih (by simpa[D.fr]using hd))
theorem R.inj(r:R F H ds vs A):∀{B:List Addr},R F H ds vs B->A=B:=by
 induction r with
 | nil=>exact λq=>q.kY.2.symm
 | au _ ih=>exact λq=>ih q.rv
 | bl _ ih=>exact λq=>ih q.rv
 | int _ ih=>exact λq=>ih q.rv
 | str _ ih=>exact λq=>ih q.rv
 | shr h x _ i1 ih=>exact λq=>ih q.rv
 | own h f _ _ i1 i2 =>
  intro B q
  obtain⟨p,ws,A,B',e,h',f',x',q',rfl⟩:=q.rv
  cases e
  rw[h]at h';cases h'
  rw[i1 x',i2 q']
 | tup h _ _ i1 i2 =>
  intro B q
  obtain⟨p,ws,A,B',e,h',x',q',rfl⟩:=q.rv
  cases e
  rw[h]at h';cases h'
  rw[i1 x',i2 q']
 | obj h l x _ i1 ih=>exact λq=>ih q.rv
 | fz h x _ i1 ih=>exact λq=>ih q.rv
 | bx h _ ih=>exact λq=>ih q.rv
theorem R.perm{ps qs:List (D × V)}(hp:ps.Perm qs):∀{A:List Addr},R F H (ps.map (·.1)) (ps.map (·.2)) A->∃A',R F H (qs.map (·.1)) (qs.map (·.2)) A'/\A.Perm A':=by
 induction hp with
 | nil=>exact λr=>⟨_,r,.refl _⟩
 | cons x _ ih =>
  intro A r
  obtain⟨v,bK,A1,A2,e,rfl,h1,h2⟩:=R.cH r
  obtain⟨rfl,rfl⟩:=mi e
  obtain⟨A',r',p⟩:=ih h2
  exact⟨A1++A',h1.cons r',p.append_left _⟩
 | swap x y l =>
  intro A r
  obtain⟨v,bK,A1,A2,e,rfl,h1,h2⟩:=R.cH r
  obtain⟨rfl,rfl⟩:=mi e
  obtain⟨v2,Fl,B1,B2,e,rfl,h3,h4⟩:=R.cH h2
  obtain⟨rfl,rfl⟩:=mi e
  exact⟨B1++(A1++B2),h3.cons (h1.cons h4),by rw[<-eC,<- eC];exact qg.append_right _⟩
 | trans _ _ i1 i2 =>
  intro A r
  obtain⟨A',r',p⟩:=i1 r
  obtain⟨A2,r2,p2⟩:=i2 r'
  exact⟨A2,r2,p.trans p2⟩
noncomputable def Full(F H:Hp):Prop:=∀a o,H a=some o->(∀ws,o≠.lst ws)->F a=some o
theorem Full.refl(H:Hp):Full H H:=λ_ _ h _=>h
theorem R.full(hF:Full F H)(hs:af F H')(r:R F H ds vs A)(e:A=[]):R F H' ds vs []:=by
 induction r with
 | nil=>exact .nil
 | au _ ih=>exact .au (ih e)
 | bl _ ih=>exact .bl (ih e)
 | int _ ih=>exact .int (ih e)
 | str _ ih=>exact .str (ih e)
 | shr h x _ i1 ih=>exact .shr h (i1 rfl) (ih e)
 | own h f _ _ i1 i2=>cases e
 | tup h _ _ i1 i2 =>
  obtain⟨e1,e2⟩:=s8.mp e
  exact R.tup (A:=[]) (B:=[]) (hs _ _ (hF _ _ h (by intro ws z;cases z))) (i1 e1) (i2 e2)
 | obj h l x _ i1 ih=>exact .obj (hs _ _ (hF _ _ h (by intro ws z;cases z))) l (i1 rfl) (ih e)
 | fz h x _ i1 ih=>exact .fz h (i1 rfl) (ih e)
 | bx h _ ih=>exact .bx (h.mono λa o e n t=>hs.get a o (hF a o e n) t) (ih e)
open Classical in
noncomputable def snap(F H:Hp):Hp:=λa=>if(∃o,H a=some o/\∀ws,o≠.lst ws)then H a else F a
theorem tZ:Full (snap F H) H:=λa o h n=>by unfold snap;rw[if_pos ⟨o,h,n⟩];exact h
theorem qG(e:af F H):af F (snap F H):=⟨λa o h n=>by
 unfold snap;split
 ·exact e.get a o h n
 ·exact h,λa ps h=>by
 unfold snap;split
 ·exact e.tb a ps h
 ·exact⟨#[],by rw[h];simp⟩⟩
theorem Z4(e:af F H):af (snap F H) H:=⟨λa o h n=>by
 unfold snap at h;split at h
 ·exact h
 ·exact e.get a o h n,λa ps h=>by
 unfold snap at h;split at h
 ·exact⟨#[],by rw[h];simp⟩
 ·exact e.tb a ps h⟩
theorem Z5(e:af F H){a:Addr}{ws:List V}(h:snap F H a=some (.lst ws)):F a=some (.lst ws):=by
 unfold snap at h;split at h
 ·rename_i z
  obtain⟨o,h1,h2⟩:=z
  rw[h]at h1;exact absurd (c9 h1).symm (h2 ws)
 ·exact h
theorem Z6{a:Addr}{ws:List V}(h:H a=some (.lst ws))(n:F a=none):snap F H a=none:=by
 unfold snap;split
 ·rename_i z
  obtain⟨o,h1,h2⟩:=z
  rw[h]at h1;exact absurd (c9 h1).symm (h2 ws)
 ·exact n
end
end L3
namespace L3
open PySem L2
noncomputable abbrev Dl:=List (Option D)
inductive RS(F H:Hp):Dl->St->List Addr->Prop
 | nil:RS F H [] [] []
 | au {δ σ o C}:RS F H δ σ C->RS F H (none::δ) (o::σ) C
 | eo {d v A δ σ C}:R F H [d] [v] A->RS F H δ σ C->RS F H (some d::δ) (some v::σ) (A++C)
theorem ia{A B:List Addr}:(A++B).Nodup↔A.Nodup/\B.Nodup/\∀a∈A,a ∉ B:=by
 rw[List.nodup_append]
 constructor
 ·rintro⟨h1,h2,h3⟩;exact⟨h1,h2,λa ha hb=>h3 a ha a hb rfl⟩
 ·rintro⟨h1,h2,h3⟩;exact⟨h1,h2,λa ha b hb e=>h3 a ha (e ▸ hb)⟩
section
variable{F F' H H':Hp}{d:D}{v:V}{δ:Dl}{σ:St}{A C:List Addr}{i:Nat}
theorem RS.length(r:RS F H δ σ C):δ.length=σ.length:=by induction r<;>simp_all
theorem RS.pick:∀{δ:Dl} {σ:St} {C:List Addr} {i:Nat},RS F H δ σ C->δ[i]?=some (some d)->∃v A C',σ[i]?=some (some v)/\R F H [d] [v] A/\RS F H (δ.set i none) σ C'/\C.Perm (A++C')
 | _,_,_,_,.nil,e=>by simp at e
 | _,_,_,i,.au r,e=>by
  cases i with
  | zero=>simp at e
  | succ i =>
   obtain⟨v,A,C',e1,h1,h2,p⟩:=RS.pick r (by simpa using e)
   exact⟨v,A,C',by simpa using e1,h1,.au h2,p⟩
 | _,_,_,i,.eo (A:=A0) (C:=C0) h r,e=>by
  cases i with
  | zero =>
   simp at e;subst e
   exact⟨_,A0,C0,rfl,h,.au r,.refl _⟩
  | succ i =>
   obtain⟨v,A,C',e1,h1,h2,p⟩:=RS.pick r (by simpa using e)
   refine⟨v,A,A0++C',by simpa using e1,h1,.eo h h2,(p.append_left A0).trans ?_⟩
   rw[<-eC,<- eC]
   exact qg.append_right _
theorem RS.fill:∀{δ:Dl} {σ:St} {C:List Addr} {i:Nat},RS F H δ σ C->δ[i]?=some none->σ[i]?=some (some v)->R F H [d] [v] A->∃C',RS F H (δ.set i (some d)) σ C'/\C'.Perm (A++C)
 | _,_,_,_,.nil,e,_,_=>by simp at e
 | _,_,_,i,.au r,e,e2,h=>by
  cases i with
  | zero=>simp at e2;subst e2;exact⟨_,.eo h r,.refl _⟩
  | succ i =>
   obtain⟨C',h1,p⟩:=RS.fill r (by simpa using e) (by simpa using e2) h
   exact⟨C',.au h1,p⟩
 | _,_,_,i,.eo (A:=A0) (C:=C0) h0 r,e,e2,h=>by
  cases i with
  | zero=>simp at e
  | succ i =>
   obtain⟨C',h1,p⟩:=RS.fill r (by simpa using e) (by simpa using e2) h
   refine⟨A0++C',.eo h0 h1,(p.append_left A0).trans ?_⟩
   rw[<-eC,<- eC]
   exact qg.append_right _
theorem RS.drop:∀{δ:Dl} {σ:St} {C:List Addr} (i:Nat),RS F H δ σ C->∃C',RS F H (δ.set i none) σ C'/\C'.Sublist C
 | _,_,_,_,.nil=>⟨_,.nil,.refl _⟩
 | _,_,_,i,.au r=>by
  cases i with
  | zero=>exact⟨_,.au r,.refl _⟩
  | succ i=>obtain⟨C',h,s⟩:=RS.drop i r;exact⟨C',.au h,s⟩
 | _,_,_,i,.eo (A:=A0) h0 r=>by
  cases i with
  | zero=>exact⟨_,.au r,List.sublist_append_right _ _⟩
  | succ i=>obtain⟨C',h,s⟩:=RS.drop i r;exact⟨_,.eo h0 h,(Ju A0).append s⟩
theorem RS.wo:∀{δ:Dl} {σ:St} {C:List Addr} {i:Nat} (o:Option V),RS F H δ σ C->(δ[i]?=some none\/δ[i]?=none)->RS F H δ (σ.set i o) C
 | _,_,_,_,_,.nil,_=>.nil
 | _,_,_,i,_,.au r,e=>by
  cases i with
  | zero=>exact .au r
  | succ i=>exact .au (RS.wo _ r (by simpa using e))
 | _,_,_,i,_,.eo h0 r,e=>by
  cases i with
  | zero=>simp at e
  | succ i=>exact .eo h0 (RS.wo _ r (by simpa using e))
theorem RS.keep{W:List Addr}(hf:af F F')(hb:gb W H H')(hl:gO W H)(r:RS F H δ σ C)(hn:∀a∈C,F' a=none)(hd:∀a∈C,a ∉ W):RS F' H' δ σ C:=by
 induction r with
 | nil=>exact .nil
 | au _ ih=>exact .au (ih hn hd)
 | eo h _ ih=>exact .eo (h.keep hf hb hl (λa ha=>hn a (by simp[ha])) λa ha=>hd a (by simp[ha])) (ih (λa ha=>hn a (by simp[ha])) λa ha=>hd a (by simp[ha]))
theorem RS.lists(r:RS F H δ σ C):∀a∈C,(∃ws,H a=some (.lst ws))/\F a=none:=by
 induction r with
 | nil=>simp
 | au _ ih=>exact ih
 | eo h _ ih=>exact λa ha=>(bY.mp ha).elim (h.lists a) (ih a)
end
structure Bs where
 H0:Hp
 F0:Hp
inductive Z7(H0 F H:Hp)(σ:St)(δ:Dl)(ts:List (D × V)):Prop
 | mk (A C) (r:R F H (ts.map (·.1)) (ts.map (·.2)) A) (s:RS F H δ σ C) (nd:(A++C).Nodup) (fr:∀a∈A++C,H0 a=none)
structure ak(B:Bs)(F H:Hp)(σ:St)(δ:Dl)(ts:List (D × V)):Prop where
 ext:af F H
 b1:af B.H0 H
 b2:af B.F0 F
 b3:∀a ws,F a=some (.lst ws)->B.F0 a=some (.lst ws)\/B.H0 a=none
 own:Z7 B.H0 F H σ δ ts
section
variable{B:Bs}{F F' H H':Hp}{d:D}{v:V}{δ:Dl}{σ:St}{ts ps:List (D × V)}{A C W:List Addr}{i:Nat}{p:Addr}{xs ys:List D}{vs ws:List V}
theorem ak.look(c:ak B F H σ δ ts)(e:δ[i]?=some (some d)):∃v,σ[i]?=some (some v)/\S F H [d] [v]:=by
 obtain⟨A,C,r,s,nd,fr⟩:=c.own
 obtain⟨v,A',C',e1,h1,h2,p⟩:=s.pick e
 exact⟨v,e1,h1.s⟩
theorem ak.len(c:ak B F H σ δ ts):δ.length=σ.length:=let⟨_,_,_,s,_,_⟩:=c.own;s.length
theorem ak.grow(c:ak B F H σ δ ts)(h:af H H'):ak B F H' σ δ ts:=by
 obtain⟨A,C,r,s,nd,fr⟩:=c.own
 exact⟨c.ext.trans h,c.b1.trans h,c.b2,c.b3,A,C,r.grow (af.refl _) h λa ha=>(r.lists a ha).2,s.keep (af.refl _) (gb.same h) gO.nil (λa ha=>(s.lists a ha).2) (by simp),nd,fr⟩
theorem ak.pop(c:ak B F H σ δ ((d,v)::ts)):ak B F H σ δ ts:=by
 obtain⟨A,C,r,s,nd,fr⟩:=c.own
 obtain⟨w,bK,A1,A2,e,rfl,h1,h2⟩:=R.cH r
 obtain⟨rfl,rfl⟩:=mi e
 refine⟨c.ext,c.b1,c.b2,c.b3,A2,C,h2,s,?_,λa ha=>fr a (by simp at ha ⊢;exact .inr ha)⟩
 rw[eC]at nd
 exact(ia.mp nd).2.1
theorem ak.top(c:ak B F H σ δ ((d,v)::ts)):S F H [d] [v]:=by
 obtain⟨A,C,r,s,nd,fr⟩:=c.own
 obtain⟨w,bK,A1,A2,e,rfl,h1,h2⟩:=R.cH r
 obtain⟨rfl,rfl⟩:=mi e
 exact h1.s
theorem ak.pushS(c:ak B F H σ δ ts)(s:S F H [d] [v])(pl:d.pl=true):ak B F H σ δ ((d,v)::ts):=by
 obtain⟨A,C,r,q,nd,fr⟩:=c.own
 exact⟨c.ext,c.b1,c.b2,c.b3,A,C,(s.r (by simp[pl])).cons r,q,nd,fr⟩
theorem af.upd{o:HO}(h:H p=none):af H (upd H p o):=.of λb u e=>by rw[aT (dX e h)];exact e
theorem ak.pack(c:ak B F H σ δ (ps++ts))(hs:af H H')(k:∀A1,R F H' (ps.map (·.1)) (ps.map (·.2)) A1->A1.Nodup->∃A',R F H' [d] [v] A'/\A'.Nodup/\∀a∈A',a∈A1\/H a=none):ak B F H' σ δ ((d,v)::ts):=by
 obtain⟨A,C,r,s,nd,fr⟩:=c.own
 rw[fv,fv]at r
 obtain⟨v1,v2,A1,A2,e,rfl,h1,h2⟩:=R.split r
 have l1:(ps.map (·.2)).length=v1.length:=by rw[<-h1.length];simp
 obtain⟨rfl,rfl⟩:=DV e l1
 rw[eC]at nd fr
 obtain⟨n1,n2,n3⟩:=ia.mp nd
 have g1:=h1.grow (af.refl F) hs λa ha=>(h1.lists a ha).2
 have g2:=h2.grow (af.refl F) hs λa ha=>(h2.lists a ha).2
 have gs:=s.keep (af.refl F) (gb.same hs) gO.nil (λa ha=>(s.lists a ha).2) (by simp)
 obtain⟨A',r',Fo,sub⟩:=k A1 g1 n1
 refine⟨c.ext.trans hs,c.b1.trans hs,c.b2,c.b3,A'++A2,C,r'.cons g2,gs,?_,?_⟩
 ·rw[eC]
  refine ia.mpr ⟨Fo,n2,λa ha hb=>?_⟩
  rcases sub a ha with z | z
  ·exact n3 a z hb
  ·rcases bY.mp hb with y | y
   ·obtain⟨⟨_,q⟩,_⟩:=h2.lists a y;rw[z]at q;cases q
   ·obtain⟨⟨_,q⟩,_⟩:=s.lists a y;rw[z]at q;cases q
 ·intro a ha
  rw[eC]at ha
  rcases bY.mp ha with y | y
  ·rcases sub a y with z | z
   ·exact fr a (by simp[z])
   ·exact c.b1.free z
  ·exact fr a (dj _ y)
theorem ak.BF(c:ak B F H σ δ ts)(hs:af H H')(r:R F H' [d] [v] A)(nd:A.Nodup)(fr:∀a∈A,H a=none):ak B F H' σ δ ((d,v)::ts) :=
 ak.pack (ps:=[]) c hs λ_ _ _=>⟨A,r,nd,λa ha=>.inr (fr a ha)⟩
theorem ak.qH(c:ak B F H σ δ ts)(hp:H p=none)(s:S F H xs vs)(pl:xs.all D.pl=true):ak B F (upd H p (.lst vs)) σ δ ((.lst true xs,.ref p)::ts) :=
 c.BF (af.upd hp) (A:=[p]) (by simpa using R.own bI (c.ext.free hp) ((s.r pl).shared (af.refl _) (af.upd hp)) .nil) (by simp) (by simp[hp])
theorem ak.Z8(c:ak B F H σ δ (ps++ts))(hp:H p=none):ak B F (upd H p (.lst (ps.map (·.2)))) σ δ ((.lst true (ps.map (·.1)),.ref p)::ts):=by
 refine c.pack (af.upd hp) λA1 r nd=>⟨p::A1,by simpa using R.own bI (c.ext.free hp) r .nil,jF.mpr ⟨λh=>?_,nd⟩,λa ha=>?_⟩
 ·obtain⟨A,C,r0,_,_,_⟩:=c.own
  rw[fv,fv]at r0
  obtain⟨v1,v2,B1,B2,e,rfl,h1,h2⟩:=R.split r0
  have l1:(ps.map (·.2)).length=v1.length:=by rw[<-h1.length];simp
  obtain⟨rfl,rfl⟩:=DV e l1
  have g1:=h1.grow (af.refl F) (af.upd (o:=.lst (ps.map (·.2))) hp) λa ha=>(h1.lists a ha).2
  have:A1=B1:=R.inj r g1
  subst this
  obtain⟨⟨_,q⟩,_⟩:=h1.lists p h
  rw[hp]at q;cases q
 ·rcases bR.mp ha with rfl | h
  ·exact .inr hp
  ·exact .inl h
theorem ak.Z9(c:ak B F H σ δ (ps++ts))(hp:H p=none):ak B F (upd H p (.tup (ps.map (·.2)))) σ δ ((.tup (ps.map (·.1)),.ref p)::ts) :=
 c.pack (af.upd hp) λA1 r nd=>⟨A1,by simpa using R.tup (F:=F) bI r .nil,nd,λa ha=>.inl ha⟩
theorem ak.perm(c:ak B F H σ δ ps)(h:ps.Perm ts):ak B F H σ δ ts:=by
 obtain⟨A,C,r,s,nd,fr⟩:=c.own
 obtain⟨A',r',p⟩:=r.perm h
 have pp:=p.append_right C
 exact⟨c.ext,c.b1,c.b2,c.b3,A',C,r',s,pp.nodup_iff.mp nd,λa ha=>fr a (pp.mem_iff.mpr ha)⟩
theorem ak.move(c:ak B F H σ δ ts)(e:δ[i]?=some (some d)):∃v,σ[i]?=some (some v)/\ak B F H σ (δ.set i none) ((d,v)::ts):=by
 obtain⟨A,C,r,s,nd,fr⟩:=c.own
 obtain⟨v,A',C',e1,h1,h2,p⟩:=s.pick e
 have pp:(A++C).Perm ((A'++A)++C'):=by
  refine(p.append_left A).trans ?_
  rw[<-eC]
  exact qg.append_right _
 exact⟨v,e1,c.ext,c.b1,c.b2,c.b3,A'++A,C',h1.cons r,h2,pp.nodup_iff.mp nd,λa ha=>fr a (pp.mem_iff.mpr ha)⟩
theorem ak.forget(c:ak B F H σ δ ts)(i:Nat):ak B F H σ (δ.set i none) ts:=by
 obtain⟨A,C,r,s,nd,fr⟩:=c.own
 obtain⟨C',h,sb⟩:=s.drop i
 exact⟨c.ext,c.b1,c.b2,c.b3,A,C',r,h,nd.sublist ((Ju A).append sb),λa ha=>fr a (((Ju A).append sb).subset ha)⟩
theorem ak.fill(c:ak B F H σ δ ((d,v)::ts))(e:δ[i]?=some none)(e2:σ[i]?=some (some v)):ak B F H σ (δ.set i (some d)) ts:=by
 obtain⟨A,C,r,s,nd,fr⟩:=c.own
 obtain⟨w,bK,A1,A2,e',rfl,h1,h2⟩:=R.cH r
 obtain⟨rfl,rfl⟩:=mi e'
 obtain⟨C',s',p⟩:=s.fill e e2 h1
 have pp:((A1++A2)++C).Perm (A2++C'):=by
  refine((qg (l₁:=A1) (l₂:=A2)).append_right C).trans ?_
  rw[eC]
  exact(p.symm).append_left A2
 exact⟨c.ext,c.b1,c.b2,c.b3,A2,C',h2,s',pp.nodup_iff.mp nd,λa ha=>fr a (pp.mem_iff.mpr ha)⟩
theorem ak.wo(c:ak B F H σ δ ts)(o:Option V)(e:δ[i]?=some none\/δ[i]?=none):ak B F H (σ.set i o) δ ts:=by
 obtain⟨A,C,r,s,nd,fr⟩:=c.own
 exact⟨c.ext,c.b1,c.b2,c.b3,A,C,r,s.wo o e,nd,fr⟩
theorem ak.store(c:ak B F H σ δ ((d,v)::ts))(i:Nat):ak B F H (σ.set i (some v)) (δ.set i (some d)) ts:=by
 by_cases hi:i<δ.length
 ·have c1:=c.forget i
  have hs:i<σ.length:=by rw[<-c.len];exact hi
  have e:(δ.set i none)[i]?=some none:=by simp[hi]
  have c2:=(c1.wo (some v) (.inl e)).fill (i:=i) e (by simp[hs])
  rwa [Jv]at c2
 ·have hs:¬ i<σ.length:=by rw[<-c.len];exact hi
  rw[VG (by omega),VG (by omega)]
  exact c.pop
theorem ak.mut(c:ak B F H σ δ (ps++ts))(e:δ[i]?=some (some (.lst true xs)))(e2:σ[i]?=some (some (.ref p)))
  (k:∀ws A1 A2,H p=some (.lst ws)->R F H xs ws A1->R F H (ps.map (·.1)) (ps.map (·.2)) A2->(A1++A2).Nodup->∃A',R F H ys vs A'/\A'.Nodup/\∀a∈A',a∈A1++A2) :
  ak B F (upd H p (.lst vs)) σ (δ.set i (some (.lst true ys))) ts:=by
 have hi:i<δ.length:=(km.mp e).1
 obtain⟨v,e3,c1⟩:=c.move e
 rw[e2]at e3;cases e3
 obtain⟨A,C,r,s,nd,fr⟩:=c1.own
 have r':R F H (([.lst true xs]++ps.map (·.1))++ts.map (·.1)) ((.ref p::ps.map (·.2))++ts.map (·.2)) A:=by simpa using r
 obtain⟨v1,v2,A1,A2,e4,rfl,h1,h2⟩:=R.split r'
 have l1:(V.ref p::ps.map (·.2)).length=v1.length:=by rw[<-h1.length];simp
 obtain⟨rfl,rfl⟩:=DV e4 l1
 obtain⟨p',Fp,B1,B2,ep,hH,hF,hx,hr,rfl⟩:=h1.rv
 cases ep
 ·skip
  rw[eC]at nd fr
  obtain⟨n1,n2,n3⟩:=ia.mp nd
  obtain⟨m1,m2⟩:=jF.mp n1
  obtain⟨A',ra,γ,sub⟩:=k Fp B1 B2 hH hx hr m2
  have pA:p ∉ A':=λz=>m1 (sub _ z)
  have pR:p ∉ A2++C:=λz=>n3 p (by simp) z
  have but:gb [p] H (upd H p (.lst vs)):=⟨λa o q z _=>by rw[aT (by simpa using z)];exact q⟩
  have hl:gO [p] H:=λa ha=>by rw[fc.mp ha];exact⟨_,hH⟩
  have g1:=ra.keep (af.refl F) but hl (λa ha=>(ra.lists a ha).2) λa ha z=>pA (by rw[<-fc.mp z];exact ha)
  have g2:=h2.keep (af.refl F) but hl (λa ha=>(h2.lists a ha).2) λa ha z=>pR (by rw[<-fc.mp z];exact eN _ ha)
  have gs:=s.keep (af.refl F) but hl (λa ha=>(s.lists a ha).2) λa ha z=>pR (by rw[<-fc.mp z];exact dj _ ha)
  have fp:B.H0 p=none:=fr p (by simp)
  have b1:af B.H0 (upd H p (.lst vs)):=⟨λa o q n=>by
   rw[aT (λz=>by rw[z,fp]at q;cases q)]
   exact c1.b1.get a o q n,λa ps q=>by
   rw[aT (λz=>by rw[z,fp]at q;cases q)]
   exact c1.b1.tb a ps q⟩
  have ext:af F (upd H p (.lst vs)):=⟨λa o q n=>by
   rw[aT (λz=>by rw[z,hF]at q;cases q)]
   exact c1.ext.get a o q n,λa ps q=>by
   rw[aT (λz=>by rw[z,hF]at q;cases q)]
   exact c1.ext.tb a ps q⟩
  have c2:ak B F (upd H p (.lst vs)) σ (δ.set i none) ((.lst true ys,.ref p)::ts):=by
   refine⟨ext,b1,c1.b2,c1.b3,(p::A')++A2,C,R.cons (by simpa using R.own bI hF g1 .nil) g2,gs,?_,?_⟩
   ·rw[eC]
    refine ia.mpr ⟨jF.mpr ⟨pA,γ⟩,n2,λa ha hb=>?_⟩
    rcases bR.mp ha with rfl | ha
    ·exact pR hb
    ·exact n3 a (ft _ (sub a ha)) hb
   ·intro a ha
    rw[eC]at ha
    rcases bY.mp ha with z | z
    ·rcases bR.mp z with rfl | z
     ·exact fp
     ·exact fr a (eN _ (ft _ (sub a z)))
    ·exact fr a (dj _ z)
  have c3:=c2.fill (i:=i) (by simp[hi]) e2
  rwa [Jv]at c3
theorem ak.BG(c:ak B F H σ δ ((d,v)::ts)):∃F',af F F'/\ak B F' H σ δ ((d.sh,v)::ts):=by
 obtain⟨A,C,r,s,nd,fr⟩:=c.own
 obtain⟨w,bK,A1,A2,e',rfl,h1,h2⟩:=R.cH r
 obtain⟨rfl,rfl⟩:=mi e'
 rw[eC]at nd fr
 obtain⟨n1,n2,n3⟩:=ia.mp nd
 have out:∀a∈A2++C,bj F H A1 a=F a:=λa ha=>qE λz=>n3 a z ha
 have b3:∀a o,bj F H A1 a=some (.lst o)->B.F0 a=some (.lst o)\/B.H0 a=none:=λa o q=>by
  by_cases z:a∈A1
  ·exact .inr (fr a (eN _ z))
  ·rw[qE z]at q;exact c.b3 a o q
 refine⟨bj F H A1,iH c.ext,nV c.ext,c.b1,c.b2.trans (iH c.ext),b3,A2,C,?_,?_,n2,λa ha=>fr a (dj _ ha)⟩
 ·have g1:=h1.bj c.ext A1 (λ_ h=>h)
  exact R.cons (A:=[]) g1 (h2.keep (iH c.ext) (gb.same (af.refl H)) gO.nil (λa ha=>by rw[out a (eN _ ha)];exact(h2.lists a ha).2) (by simp))
 ·exact s.keep (iH c.ext) (gb.same (af.refl H)) gO.nil (λa ha=>by rw[out a (dj _ ha)];exact(s.lists a ha).2) (by simp)
theorem ak.freeze(c:ak B F H σ δ ts)(e:δ[i]?=some (some d)):∃F',af F F'/\ak B F' H σ (δ.set i (some d.sh)) ts:=by
 have hi:i<δ.length:=(km.mp e).1
 obtain⟨v,e2,c1⟩:=c.move e
 obtain⟨F',s,c2⟩:=c1.BG
 refine⟨F',s,?_⟩
 have c3:=c2.fill (i:=i) (by simp[hi]) e2
 rwa [Jv]at c3
theorem ak.rebase(c:ak B F H σ δ ts):ak ⟨B.H0,F⟩ F H σ δ ts:=⟨c.ext,c.b1,af.refl _,λ_ _ q=>.inl q,c.own⟩
theorem ak.ε{F1:Hp}(c:ak ⟨B.H0,F1⟩ F H σ δ ts)(h:af B.F0 F1)(h3:∀a ws,F1 a=some (.lst ws)->B.F0 a=some (.lst ws)\/B.H0 a=none):ak B F H σ δ ts :=
 ⟨c.ext,c.b1,h.trans c.b2,λa o q=>(c.b3 a o q).elim (h3 a o) .inr,c.own⟩
theorem ak.call(c:ak B F H σ δ ts)(hs:af H H')(hf:af F F')(he:af F' H')(h3:∀a ws,F' a=some (.lst ws)->F a=some (.lst ws)\/H a=none)(r:R F' H' [d] [v] A)(nd:A.Nodup)(fr:∀a∈A,H a=none) :
  ak B F' H' σ δ ((d,v)::ts):=by
 obtain⟨A0,C,r0,s,ζ,η⟩:=c.own
 have no:∀a,(∃ws,H a=some (.lst ws))/\F a=none->F' a=none:=λa zz=>by
  obtain⟨⟨ws,e⟩,n⟩:=zz
  cases q:F' a with
  | none=>rfl
  | some o =>
   have q2:H' a=some o:=by
    cases n:ju o with
    | true=>exact he.get a o q n
    | false =>
     obtain⟨ps,rfl⟩:=Ff n
     obtain⟨m,z⟩:=he.tb a ps q
     rw[hs a _ e]at z
     cases z
   rw[hs a _ e]at q2
   cases q2
   rcases h3 a ws q with z | z
   ·rw[n]at z;cases z
   ·rw[e]at z;cases z
 refine⟨he,c.b1.trans hs,c.b2.trans hf,λa o q=>(h3 a o q).elim (c.b3 a o) λz=>.inr (c.b1.free z),A++A0,C,R.cons r (r0.grow hf hs λa ha=>no a (r0.lists a ha)),
  s.keep hf (gb.same hs) gO.nil (λa ha=>no a (s.lists a ha)) (by simp),?_,?_⟩
 ·rw[eC]
  refine ia.mpr ⟨nd,ζ,λa ha hb=>?_⟩
  have z:=fr a ha
  rcases bY.mp hb with y | y
  ·obtain⟨⟨_,q⟩,_⟩:=r0.lists a y;rw[z]at q;cases q
  ·obtain⟨⟨_,q⟩,_⟩:=s.lists a y;rw[z]at q;cases q
 ·intro a ha
  rw[eC]at ha
  rcases bY.mp ha with y | y
  ·exact c.b1.free (fr a y)
  ·exact η a y
theorem ak.θ(c:ak B F H σ δ ((d,v)::ts)):ak B F H (some v::σ) (some d::δ) ts:=by
 obtain⟨A,C,r,s,nd,fr⟩:=c.own
 obtain⟨w,bK,A1,A2,e',rfl,h1,h2⟩:=R.cH r
 obtain⟨rfl,rfl⟩:=mi e'
 have pp:((A1++A2)++C).Perm (A2++(A1++C)):=by
  rw[<-eC];exact qg.append_right C
 exact⟨c.ext,c.b1,c.b2,c.b3,A2,A1++C,h2,.eo h1 s,pp.nodup_iff.mp nd,λa ha=>fr a (pp.mem_iff.mpr ha)⟩
theorem ak.ι{w:V}(c:ak B F H (some w::σ) (some d::δ) ts):ak B F H σ δ ((d,w)::ts):=by
 obtain⟨A,C,r,s,nd,fr⟩:=c.own
 cases s with
 | @eo _ _ A1 _ _ C1 h1 s =>
  have pp:(A++(A1++C1)).Perm ((A1++A)++C1):=by
   rw[<-eC];exact qg.append_right C1
  exact⟨c.ext,c.b1,c.b2,c.b3,A1++A,C1,R.cons h1 r,s,pp.nodup_iff.mp nd,λa ha=>fr a (pp.mem_iff.mpr ha)⟩
theorem ak.μ(c:ak B F H σ δ ((d,v)::(.lst true xs,.ref p)::ts))(hp:H p=some (.lst ws)):ak B F (upd H p (.lst (ws++[v]))) σ δ ((.lst true (xs++[d]),.ref p)::ts):=by
 have c1:=(c.perm (List.Perm.swap _ _ _)).θ
 refine(ak.mut (ps:=[(d,v)]) (i:=0) (ys:=xs++[d]) (vs:=ws++[v]) c1 rfl rfl λgP A1 A2 h r1 r2 nd=>?_).ι
 rw[hp]at h;cases h
 exact⟨A1++A2,r1.append r2,nd,λa ha=>ha⟩
theorem ak.app(c:ak B F H σ δ ((d,v)::ts))(e:δ[i]?=some (some (.lst true xs)))(e2:σ[i]?=some (some (.ref p)))(hp:H p=some (.lst ws)) :
  ak B F (upd H p (.lst (ws++[v]))) σ (δ.set i (some (.lst true (xs++[d])))) ts :=
 ak.mut (ps:=[(d,v)]) c e e2 λgP A1 A2 h r1 r2 nd=>by
  rw[hp]at h;cases h
  exact⟨A1++A2,r1.append r2,nd,λa ha=>ha⟩
theorem R.LL:∀{xs:List D} {ws:List V} {A1 A2:List Addr} (j:Nat),R F H xs ws A1->R F H [d] [v] A2->(A1++A2).Nodup->∃A',R F H (xs.set j d) (ws.set j v) A'/\A'.Nodup/\∀a∈A',a∈A1++A2
 | [],_,A1,A2,j,r,q,nd=>by cases r;exact⟨[],.nil,by simp,by simp⟩
 | x::xs,_,A1,A2,j,r,q,nd=>by
  obtain⟨w,gP,B1,B2,rfl,rfl,h1,h2⟩:=r.cH
  rw[eC]at nd
  obtain⟨n1,n2,n3⟩:=ia.mp nd
  cases j with
  | zero =>
   refine⟨A2++B2,q.cons h2,(qg (l₁:=B2) (l₂:=A2)).nodup_iff.mp n2,λa ha=>?_⟩
   simp only[bY]at ha ⊢
   rcases ha with z | z
   ·exact .inr z
   ·exact .inl (.inr z)
  | succ j =>
   obtain⟨A',r',Fo,sub⟩:=R.LL j h2 q n2
   refine⟨B1++A',h1.cons r',ia.mpr ⟨n1,Fo,λa ha hb=>n3 a ha (sub a hb)⟩,λa ha=>?_⟩
   rcases bY.mp ha with z | z
   ·simp[z]
   ·have:=sub a z
    simp only[bY]at this ⊢
    rcases this with z | z
    ·exact .inl (.inr z)
    ·exact .inr z
theorem ak.ν(c:ak B F H σ δ ((d,v)::ts))(e:δ[i]?=some (some (.lst true xs)))(e2:σ[i]?=some (some (.ref p)))(hp:H p=some (.lst ws))(j:Nat) :
  ak B F (upd H p (.lst (ws.set j v))) σ (δ.set i (some (.lst true (xs.set j d)))) ts :=
 ak.mut (ps:=[(d,v)]) c e e2 λgP A1 A2 h r1 r2 nd=>by
  rw[hp]at h;cases h
  exact r1.LL j r2 nd
theorem ak.ownAt(c:ak B F H σ δ ts)(e:δ[i]?=some (some (.lst true xs))):∃p ws,σ[i]?=some (some (.ref p))/\H p=some (.lst ws)/\xs.length=ws.length:=by
 obtain⟨v,e1,s⟩:=c.look e
 cases s with
 | own h x _=>exact⟨_,_,e1,h,x.length⟩
theorem RS.start{ds:List D}{vs:List V}(r:R F H ds vs [])(n:Nat):RS F H (ds.map some++aV n none) (vs.map some++aV n none) []:=by
 have z:∀n,RS F H (aV n none) (aV n none) []:=λn=>by
  induction n with
  | zero=>exact .nil
  | succ n ih=>exact .au ih
 have:∀(ds:List D) (vs:List V),R F H ds vs []->RS F H (ds.map some++aV n none) (vs.map some++aV n none) []:=by
  intro ds
  induction ds with
  | nil=>intro vs r;cases r;exact z n
  | cons d ds ih =>
   intro vs r
   obtain⟨v,bK,A1,A2,rfl,e,h1,h2⟩:=r.cH
   obtain⟨rfl,rfl⟩:=s8.mp e.symm
   exact .eo (A:=[]) h1 (ih _ h2)
 exact this ds vs r
theorem ak.start{ds:List D}{vs:List V}(e:af F H)(r:R F H ds vs [])(n:Nat):ak ⟨H,F⟩ F H (vs.map some++aV n none) (ds.map some++aV n none) [] :=
 ⟨e,af.refl _,af.refl _,λ_ _ q=>.inl q,[],[],.nil,RS.start r n,by simp,by simp⟩
theorem ak.snap(c:ak B F H σ δ ts):ak B (L3.snap F H) H σ δ ts:=by
 obtain⟨A,C,r,s,nd,fr⟩:=c.own
 have no:∀a,(∃ws,H a=some (.lst ws))/\F a=none->L3.snap F H a=none:=λa ⟨⟨ws,e⟩,n⟩=>Z6 e n
 exact⟨Z4 c.ext,c.b1,c.b2.trans (qG c.ext),λa ws q=>c.b3 a ws (Z5 c.ext q),A,C,r.grow (qG c.ext) (af.refl _) λa ha=>no a (r.lists a ha),
  s.keep (qG c.ext) (gb.same (af.refl _)) gO.nil (λa ha=>no a (s.lists a ha)) (by simp),nd,fr⟩
end
end L3
namespace L3
open PySem L2 PySem.Spec PyProof.Rows
noncomputable abbrev aO:=Dl->(D->Dl->Prop)->Prop
noncomputable abbrev fI:=Dl->(Bool->Dl->Prop)->Prop
noncomputable abbrev cm:=Dl->(List D->Dl->Prop)->Prop
structure nW where
 nx:Dl->Prop
 rt:D->Prop
 bk:Dl->Prop:=λ_=>False
 ct:Dl->Prop:=λ_=>False
 xc:Addr->Dl->Prop:=λ_ _=>False
 xr:Addr->Dl->Prop:=λ_ _=>False
noncomputable abbrev cV:=nW->Dl->Prop
inductive lE(t:aO)(σ:L2.St)(H:Hp)(Q:VK):Prop
 | mk (B F δ ts Qd) (c:ak B F H σ δ ts) (q:t δ Qd) (k:∀d ah v F' H',Qd d ah->af F F'->af H H'->ak B F' H' σ ah ((d,v)::ts)->Q v H')
inductive lB(t:aO)(σ:L2.St)(H:Hp)(Q:VK):Prop
 | mk (B F δ ts Qd) (c:ak B F H σ δ ts) (q:t δ Qd) (k:∀d ah v F' H',Qd d ah->af F F'->af H H'->ak B F' H' σ ah ts->S F' H' [d] [v]->Q v H')
inductive lT(t:fI)(σ:L2.St)(H:Hp)(Q:Bool->Hp->Prop):Prop
 | mk (B F δ ts Qd) (c:ak B F H σ δ ts) (q:t δ Qd) (k:∀b ah F' H',Qd b ah->af F F'->af H H'->ak B F' H' σ ah ts->Q b H')
inductive lA(t:cm)(σ:L2.St)(H:Hp)(Q:List V->Hp->Prop):Prop
 | mk (B F δ ts Qd) (c:ak B F H σ δ ts) (q:t δ Qd) (k:∀ds ah vs F' H',Qd ds ah->af F F'->af H H'->ak B F' H' σ ah ts->S F' H' ds vs->Q vs H')
inductive lO(t:cm)(σ:L2.St)(H:Hp)(Q:List V->Hp->Prop):Prop
 | mk (B F δ ts Qd) (c:ak B F H σ δ ts) (q:t δ Qd) (k:∀(ps:List (D × V)) ah F' H',Qd (ps.map (·.1)) ah->af F F'->af H H'->ak B F' H' σ ah (ps++ts)->Q (ps.map (·.2)) H')
noncomputable def XL(X:Cx)(B:Bs)(Dd:nW):Prop :=
 (∀C ah pins aF F' H' s' a T,Dd.xc C ah->ak B F' H' aF ah []->Inv X pins aF H' s'->iG s'.heap a T (.ref C)->Apart X pins H' a->Apart X pins H' T->X.xe (.ref a) s') /\
 (∀C ah pins aF F' H' s' h' e vs,Dd.xr C ah->ak B F' H' aF ah []->Inv X pins aF H' s'->Jt s'.heap h' e (.ref C) vs->X.xe (.ref e) { s' with heap:=h' })
theorem XL.none{X:Cx}{B:Bs}{Dd:nW}(h1:∀C δ,¬ Dd.xc C δ)(h2:∀C δ,¬ Dd.xr C δ):XL X B Dd:=⟨λC δ _ _ _ _ _ _ _ h=>absurd h (h1 C δ),λC δ _ _ _ _ _ _ _ _ h=>absurd h (h2 C δ)⟩
structure LK(X:Cx)(B:Bs)(Dd:nW)(D:Ends):Prop where
 k1:∀ah aF F' H',Dd.nx ah->ak B F' H' aF ah []->D.nx aF H'
 k2:∀d v ah aF F' H',Dd.rt d->ak B F' H' aF ah [(d,v)]->D.rt v H'
 k3:∀ah aF F' H',Dd.bk ah->ak B F' H' aF ah []->D.bk aF H'
 k4:(∀ah aF F' H',Dd.ct ah->ak B F' H' aF ah []->D.ct aF H')/\XL X B Dd
inductive lS(X:Cx)(t:cV)(D:Ends)(σ:L2.St)(H:Hp):Prop
 | mk (B F δ Dd) (c:ak B F H σ δ []) (q:t Dd δ) (k:LK X B Dd D)
section
variable{X:Cx}{e a b c:Expr}{es:List Expr}{pos:Pos}{st:Stmt}{qu:List Stmt}
theorem dF{t t':TE}(h:PE X e t)(m:∀σ H Q,t' σ H Q->t σ H Q):PE X e t':=λpins s σ H Q I q=>h pins s σ H Q I (m σ H Q q)
theorem Fq{t t':TT}(h:PT X e t)(m:∀σ H Q,t' σ H Q->t σ H Q):PT X e t':=λpins s σ H Q I q=>h pins s σ H Q I (m σ H Q q)
theorem LM{t t':TT}(h:PW X e t)(m:∀σ H Q,t' σ H Q->t σ H Q):PW X e t':=λwh pins s σ H Q I q=>h wh pins s σ H Q I (m σ H Q q)
theorem yv{t t':TA}(h:PA X es t)(m:∀σ H Q,t' σ H Q->t σ H Q):PA X es t':=λp pins s σ H Q I q=>h p pins s σ H Q I (m σ H Q q)
theorem kD{t t':TS}(h:PS X st t)(m:∀D σ H,t' D σ H->t D σ H):PS X st t':=λpins s σ H D I q=>h pins s σ H D I (m D σ H q)
theorem BH{t t':TS}(h:PSs X qu t)(m:∀D σ H,t' D σ H->t D σ H):PSs X qu t':=λpins s σ H D I q=>h pins s σ H D I (m D σ H q)
variable{t u ta tb tc:aO}
theorem ae(h:PE X e (lE t)):PE X e (lB t):=dF h λσ H Q zq=>by
 obtain⟨B,F,δ,ts,Qd,c,q,k⟩:=zq
 exact⟨B,F,δ,ts,Qd,c,q,λd ah v F' H' hd sf sh c'=>k d ah v F' H' hd sf sh c'.pop c'.top⟩
noncomputable def nX(t:aO):aO:=λδ Q=>t δ λd ah=>d.pl=true/\Q d ah
theorem du(h:PE X e (lB t)):PE X e (lE (nX t)):=dF h λσ H Q zq=>by
 obtain⟨B,F,δ,ts,Qd,c,q,k⟩:=zq
 exact⟨B,F,δ,ts,_,c,q,λd ah v F' H' hd sf sh c' s=>k d ah v F' H' hd.2 sf sh (c'.pushS s hd.1)⟩
noncomputable def mF(i:Nat):aO:=λδ Q=>match δ[i]? with
 | some (some d)=>Q d δ
 | _=>False
noncomputable def mG(i:Nat):aO:=λδ Q=>match δ[i]? with
 | some (some d)=>Q d (δ.set i none)
 | _=>False
theorem ξ{i:Nat}{δ:Dl}{Q:D->Dl->Prop}(h:mF i δ Q):∃d,δ[i]?=some (some d)/\Q d δ:=by
 unfold mF at h
 split at h
 ·rename_i d e;exact⟨d,e,h⟩
 ·exact h.elim
theorem ο{i:Nat}{δ:Dl}{Q:D->Dl->Prop}(h:mG i δ Q):∃d,δ[i]?=some (some d)/\Q d (δ.set i none):=by
 unfold mG at h
 split at h
 ·rename_i d e;exact⟨d,e,h⟩
 ·exact h.elim
noncomputable def dC(d:D):aO:=λδ Q=>Q d δ
theorem bv(i:Nat){x:Str}(hN:X.N[i]?=some x:=by rfl)(hv:nF X.env.scope x:=by first | exact aA rfl | exact cJ (aA rfl) | exact cJ (cJ rfl))(hd:(x==("__debug__":Str))=false:=by decide)
  (cR:(x==("__classdict__":Str))=false:=by decide):PE X (.Name x pos) (lB (mF i)):=dF (vV hN hv hd cR) λσ H Q zq=>by
 obtain⟨B,F,δ,ts,Qd,c,q,k⟩:=zq
 obtain⟨d,e,q⟩:=ξ q
 obtain⟨v,e1,s⟩:=c.look e
 exact⟨v,e1,k d δ v F H q (af.refl _) (af.refl _) c s⟩
theorem em(i:Nat){x:Str}(hN:X.N[i]?=some x:=by rfl)(hv:nF X.env.scope x:=by first | exact aA rfl | exact cJ (aA rfl) | exact cJ (cJ rfl))(hd:(x==("__debug__":Str))=false:=by decide)
  (cR:(x==("__classdict__":Str))=false:=by decide):PE X (.Name x pos) (lE (mG i)):=dF (vV hN hv hd cR) λσ H Q zq=>by
 obtain⟨B,F,δ,ts,Qd,c,q,k⟩:=zq
 obtain⟨d,e,q⟩:=ο q
 obtain⟨v,e1,c'⟩:=c.move e
 exact⟨v,e1,k d _ v F H q (af.refl _) (af.refl _) c'⟩
theorem BI{B:Bs}{F H:Hp}{σ:L2.St}{δ:Dl}{ts:List (D × V)}{Qd:D->Dl->Prop}{Q:VK}{d:D}{v:V}(c:ak B F H σ δ ts)(q:Qd d δ)(s:S F H [d] [v])(p:d.pl=true)
  (k:∀d ah v F' H',Qd d ah->af F F'->af H H'->ak B F' H' σ ah ((d,v)::ts)->Q v H'):Q v H:=k d δ v F H q (af.refl _) (af.refl _) (c.pushS s p)
theorem ao{i j}:PE X (.Constant (.int i) j pos) (lE (dC (.int i))):=dF qq λσ H Q ⟨B,F,δ,ts,Qd,c,q,k⟩=>BI c q (.int .nil) rfl k
theorem gw{i j}:PE X (.Constant (.bool i) j pos) (lE (dC (.bl i))):=dF Wh λσ H Q ⟨B,F,δ,ts,Qd,c,q,k⟩=>BI c q (.bl .nil) rfl k
theorem yw{j}:PE X (.Constant .none j pos) (lE (dC .au)):=dF Wi λσ H Q ⟨B,F,δ,ts,Qd,c,q,k⟩=>BI c q (.au .nil) rfl k
theorem π{x j}:PE X (.Constant (.str x) j pos) (lE (dC (.str x))):=dF Wj λσ H Q ⟨B,F,δ,ts,Qd,c,q,k⟩=>BI c q (.str .nil) rfl k
noncomputable abbrev cM:=D->D->(D->Prop)->Prop
noncomputable def BJ(r:R2)(rd:cM):Prop:=∀{B:Bs} {F H:Hp} {σ:L2.St} {δ:Dl} {ts:List (D × V)} {x y:D} {v w:V} {Q:VK} {Qd:D->Prop},ak B F H σ δ ts->S F H [x] [v]->S F H [y] [w]->rd x y Qd ->
 (∀d z H',Qd d->af H H'->ak B F H' σ δ ((d,z)::ts)->Q z H')->r v w H Q
noncomputable def bP(X:Cx)(f:Value->Value->Sem Value)(rd:cM):Prop:=∃r,cC X f r/\BJ r rd
theorem bP.or{f:Value->Value->Sem Value}{r1 r2:cM}(h1:bP X f r1)(h2:bP X f r2):bP X f λx y Q=>r1 x y Q\/r2 x y Q:=by
 obtain⟨q1,a1,b1⟩:=h1
 obtain⟨q2,a2,b2⟩:=h2
 refine⟨_,a1.or a2,λ{B F H σ δ ts x y v w Q Qd} c sx sy h k=>?_⟩
 rcases h with h | h
 ·exact .inl (b1 c sx sy h k)
 ·exact .inr (b2 c sx sy h k)
theorem bP.imp{f:Value->Value->Sem Value}{r1 r2:cM}(h1:bP X f r1)(h:∀x y Q,r2 x y Q->r1 x y Q):bP X f r2:=by
 obtain⟨q1,a1,b1⟩:=h1
 exact⟨q1,a1,λ{B F H σ δ ts x y v w Q Qd} c sx sy h2 k=>b1 c sx sy (h _ _ _ h2) k⟩
noncomputable def k7(rd:cM)(ta tb:aO):aO:=λδ Q=>ta δ λx aj=>tb aj λy a7=>rd x y λd=>Q d a7
theorem Fs{r:R2}{rd:cM}(hl:BJ r rd):∀σ H Q,lE (k7 rd ta tb) σ H Q->yb r (lB ta) (lB tb) σ H Q:=λσ H Q ⟨B,F,δ,ts,Qd,c,q,k⟩ =>
 ⟨B,F,δ,ts,_,c,q,λx aj v F1 H1 q1 f1 h1 c1 s1=>⟨B,F1,aj,ts,_,c1,q1,λy a7 w F2 H2 q2 f2 h2 c2 s2 =>
  hl c2 (s1.mono f2 h2) s2 q2 λd z H' hd hs c3=>k d a7 z F2 H' hd (f1.trans f2) ((h1.trans h2).trans hs) c3⟩⟩
theorem aB{op:Operator}{rd:cM}(ho:bP X (binaryOp op) rd)(ha:PE X a (lB ta))(hb:PE X b (lB tb)):PE X (.BinOp a op b pos) (lE (k7 rd ta tb)):=by
 obtain⟨r,h1,h2⟩:=ho
 exact dF (yc h1 ha hb) (Fs h2)
theorem yx{op:CmpOp}{rd:cM}(ho:bP X (compareOp op) rd)(ha:PE X a (lB ta))(hb:PE X b (lB tb))(hm:behindInMarks op b=false):PE X (.Compare a [op] [b] pos) (lE (k7 rd ta tb)):=by
 obtain⟨r,h1,h2⟩:=ho
 exact dF (Xj h1 ha hb hm) (Fs h2)
noncomputable def dT(t:aO):fI:=λδ Q=>t δ λd ah=>∃k,d=.bl k/\Q k ah
theorem ρ{te:TE}(h:∀σ H Q,lE t σ H Q->te σ H Q):∀σ H Q,lT (dT t) σ H Q->Kh te σ H Q:=λσ H Q zz=>by
 obtain⟨B,F,δ,ts,Qd,c,q,k⟩:=zz
 refine h σ H _ ⟨B,F,δ,ts,_,c,q,λd ah v F' H' hd sf sh c'=>?_⟩
 obtain⟨b,rfl,qb⟩:=hd
 have s:=c'.top
 cases s with
 | bl _=>exact⟨b,rfl,k b ah F' H' qb sf sh c'.pop⟩
theorem bJ{op:CmpOp}{rd:cM}(ho:bP X (compareOp op) rd)(ha:PE X a (lB ta))(hb:PE X b (lB tb))(hm:behindInMarks op b=false):PT X (.Compare a [op] [b] pos) (lT (dT (k7 rd ta tb))):=by
 obtain⟨r,h1,h2⟩:=ho
 exact Fq (EA h1 ha hb hm) (ρ (Fs h2))
noncomputable def nY(r r':cM)(ta tb tc:aO):aO:=λδ Q=>ta δ λx aj=>tb aj λy a7=>r x y λd=>∃k,d=.bl k/\if k=true then tc a7 λz iZ=>r' y z λd'=>Q d' iZ else Q (.bl false) a7
theorem jV(h:PE X e (lB t))(he:∀whole,isTrue e X.env whole=(do let v<-whole;standAt e.pos;holding [v] (truthy v)):=by intro _;rfl):PT X e (lT (dT t)) :=
 Fq (Bb h he) λσ H Q zq=>by
 obtain⟨B,F,δ,ts,Qd,c,q,k⟩:=zq
 exact⟨B,F,δ,ts,_,c,q,λd ah v F' H' hd sf sh c' s=>by
  obtain⟨b,rfl,qb⟩:=hd
  cases s with
  | bl _=>exact⟨b,rfl,k b ah F' H' qb sf sh c'⟩⟩
variable{tA tB:fI}{rest:List Expr}
noncomputable def qI(t u:fI):fI:=λδ Q=>t δ λc aj=>if c=true then u aj Q else Q false aj
noncomputable def qJ(t u:fI):fI:=λδ Q=>t δ λc aj=>if c=true then Q true aj else u aj Q
noncomputable def qK(t:fI):fI:=λδ Q=>t δ λc aj=>Q (!c) aj
theorem BK(ha:PT X a (lT tA))(hb:PW X (.BoolOp .And (b::rest) pos) (lT tB)):PW X (.BoolOp .And (a::b::rest) pos) (lT (qI tA tB)) :=
 LM (Wq ha hb) λσ H Q zq=>by
 obtain⟨B,F,δ,ts,Qd,c,q,k⟩:=zq
 exact⟨B,F,δ,ts,_,c,q,λb aj F1 H1 q1 f1 h1 c1=>by
  cases b with
  | true=>exact qy ⟨B,F1,aj,ts,Qd,c1,by simpa using q1,λb ah F' H' hd sf sh c'=>k b ah F' H' hd (f1.trans sf) (h1.trans sh) c'⟩
  | false=>exact iY (k false aj F1 H1 (by simpa using q1) f1 h1 c1)⟩
theorem yy(ha:PT X a (lT tA))(hb:PW X (.BoolOp .Or (b::rest) pos) (lT tB)):PW X (.BoolOp .Or (a::b::rest) pos) (lT (qJ tA tB)) :=
 LM (J3 ha hb) λσ H Q zq=>by
 obtain⟨B,F,δ,ts,Qd,c,q,k⟩:=zq
 exact⟨B,F,δ,ts,_,c,q,λb aj F1 H1 q1 f1 h1 c1=>by
  cases b with
  | true=>exact qy (k true aj F1 H1 (by simpa using q1) f1 h1 c1)
  | false=>exact iY ⟨B,F1,aj,ts,Qd,c1,by simpa using q1,λb ah F' H' hd sf sh c'=>k b ah F' H' hd (f1.trans sf) (h1.trans sh) c'⟩⟩
theorem t7(ha:PT X a (lT tA)):PT X (.UnaryOp .Not a pos) (lT (qK tA)) :=
 Fq (Bd ha) λσ H Q zq=>by
 obtain⟨B,F,δ,ts,Qd,c,q,k⟩:=zq
 exact⟨B,F,δ,ts,_,c,q,λb aj F1 H1 q1 f1 h1 c1=>k _ aj F1 H1 q1 f1 h1 c1⟩
noncomputable def qL(ta tb:aO):aO:=λδ Q=>ta δ λx aj=>∃c,x=.bl c/\if c=true then tb aj Q else Q (.bl false) aj
noncomputable def by4(ta:aO):aO:=λδ Q=>ta δ λx aj=>∃c,x=.bl c/\Q (.bl (!c)) aj
theorem qM(ha:PE X a (lB ta))(hb:PE X (.BoolOp .And (b::rest) pos) (lE tb)):PE X (.BoolOp .And (a::b::rest) pos) (lE (qL ta tb)) :=
 dF (Wt ha hb) λσ H Q zq=>by
 obtain⟨B,F,δ,ts,Qd,c,q,k⟩:=zq
 exact⟨B,F,δ,ts,_,c,q,λd aj v F1 H1 q1 f1 h1 c1 s1=>by
  obtain⟨b,rfl,qb⟩:=q1
  cases s1 with
  | bl _ =>
   refine⟨b,rfl,?_⟩
   cases b with
   | true=>exact qy ⟨B,F1,aj,ts,Qd,c1,by simpa using qb,λd ah v F' H' hd sf sh c'=>k d ah v F' H' hd (f1.trans sf) (h1.trans sh) c'⟩
   | false=>exact iY (k _ aj _ F1 H1 (by simpa using qb) f1 h1 (c1.pushS (.bl .nil) rfl))⟩
theorem Ft(ha:PE X a (lB ta)):PE X (.UnaryOp .Not a pos) (lE (by4 ta)) :=
 dF (Wu ha) λσ H Q zq=>by
 obtain⟨B,F,δ,ts,Qd,c,q,k⟩:=zq
 exact⟨B,F,δ,ts,_,c,q,λd aj v F1 H1 q1 f1 h1 c1 s1=>by
  obtain⟨b,rfl,qb⟩:=q1
  cases s1 with
  | bl _=>exact⟨b,rfl,k _ aj _ F1 H1 qb f1 h1 (c1.pushS (.bl .nil) rfl)⟩⟩
noncomputable def qN(t:fI)(ta tb:aO):aO:=λδ Q=>t δ λc aj=>if c=true then ta aj Q else tb aj Q
theorem τ(hc:PT X c (lT tA))(ha:PE X a (lE ta))(hb:PE X b (lE tb)):PE X (.IfExp c a b pos) (lE (qN tA ta tb)) :=
 dF (Ww hc ha hb) λσ H Q zq=>by
 obtain⟨B,F,δ,ts,Qd,c,q,k⟩:=zq
 exact⟨B,F,δ,ts,_,c,q,λb aj F1 H1 q1 f1 h1 c1=>by
  cases b with
  | true=>exact qy ⟨B,F1,aj,ts,Qd,c1,by simpa using q1,λd ah v F' H' hd sf sh c'=>k d ah v F' H' hd (f1.trans sf) (h1.trans sh) c'⟩
  | false=>exact iY ⟨B,F1,aj,ts,Qd,c1,by simpa using q1,λd ah v F' H' hd sf sh c'=>k d ah v F' H' hd (f1.trans sf) (h1.trans sh) c'⟩⟩
noncomputable def nZ:cm:=λδ Q=>Q [] δ
noncomputable def n6(t:aO)(r:cm):cm:=λδ Q=>t δ λd aj=>r aj λds a7=>Q (d::ds) a7
theorem av:PA X [] (lA nZ):=yv eX λσ H Q ⟨B,F,δ,ts,Qd,c,q,k⟩=>k [] δ [] F H q (af.refl _) (af.refl _) c .nil
variable{tr:cm}
theorem ag(ha:PE X e (lB t))(hr:PA X es (lA tr))(hs:starEach (e::es) X.env=(false,eval e X.env)::starEach es X.env:=by rfl):PA X (e::es) (lA (n6 t tr)) :=
 yv (bN ha hr hs) λσ H Q zq=>by
 obtain⟨B,F,δ,ts,Qd,c,q,k⟩:=zq
 exact⟨B,F,δ,ts,_,c,q,λd aj v F1 H1 q1 f1 h1 c1 s1=>⟨B,F1,aj,ts,_,c1,q1,λds a7 vs F2 H2 q2 f2 h2 c2 s2 =>
  k (d::ds) a7 (v::vs) F2 H2 q2 (f1.trans f2) (h1.trans h2) c2 ((s1.mono f2 h2).cons s2)⟩⟩
theorem dv:PA X [] (lO nZ):=yv eX λσ H Q ⟨B,F,δ,ts,Qd,c,q,k⟩=>k [] δ F H q (af.refl _) (af.refl _) c
theorem cW(ha:PE X e (lE t))(hr:PA X es (lO tr))(hs:starEach (e::es) X.env=(false,eval e X.env)::starEach es X.env:=by rfl):PA X (e::es) (lO (n6 t tr)) :=
 yv (bN ha hr hs) λσ H Q zq=>by
 obtain⟨B,F,δ,ts,Qd,c,q,k⟩:=zq
 exact⟨B,F,δ,ts,_,c,q,λd aj v F1 H1 q1 f1 h1 c1=>⟨B,F1,aj,(d,v)::ts,_,c1,q1,λps a7 F2 H2 q2 f2 h2 c2 =>
  k ((d,v)::ps) a7 F2 H2 q2 (f1.trans f2) (h1.trans h2) (c2.perm (List.perm_middle))⟩⟩
noncomputable def n8(t:cm):aO:=λδ Q=>t δ λds ah=>ds.length<=sizeLine/\Q (.lst true ds) ah
noncomputable def qO(t:cm):aO:=λδ Q=>t δ λds ah=>ds.length<=sizeLine/\Q (.tup ds) ah
theorem eD(h:PA X es (lO tr)):PE X (.List es pos) (lE (n8 tr)) :=
 dF (Kn h) λσ H Q zq=>by
 obtain⟨B,F,δ,ts,Qd,c,q,k⟩:=zq
 exact⟨B,F,δ,ts,_,c,q,λps aj F1 H1 q1 f1 h1 c1=>⟨by simpa using q1.1,λp hp=>k _ aj _ F1 _ q1.2 f1 (h1.trans (af.upd hp)) (c1.Z8 hp)⟩⟩
theorem yz{x1}(h:PA X es (lO tr)):PE X (.Tuple es x1 pos) (lE (qO tr)) :=
 dF (XM h) λσ H Q zq=>by
 obtain⟨B,F,δ,ts,Qd,c,q,k⟩:=zq
 exact⟨B,F,δ,ts,_,c,q,λps aj F1 H1 q1 f1 h1 c1=>⟨by simpa using q1.1,λp hp=>k _ aj _ F1 _ q1.2 f1 (h1.trans (af.upd hp)) (c1.Z9 hp)⟩⟩
end
end L3
namespace L3
open PySem L2 PySem.Spec PyProof.Rows
noncomputable abbrev aW:=List D->(D->Prop)->Prop
inductive a6(sp:aW)(vs:List V)(H:Hp)(Q:VK)(E:XK):Prop
 | mk (F ds Qd) (e:af F H) (r:R F H ds vs []) (q:sp ds Qd) (k:∀d v F' H' A,Qd d->af H H'->af F F'->af F' H'->(∀a ws,F' a=some (.lst ws)->F a=some (.lst ws)\/H a=none)->R F' H' [d] [v] A->A.Nodup->(∀a∈A,H a=none)->Q v H')
noncomputable def mH(sp:aW)(t:cm):aO:=λδ Q=>t δ λds ah=>sp (ds.map D.sh) λd=>(ds.all D.pl||d.fr)=true/\Q d ah
theorem BL{B:Bs}{F H:Hp}{σ:L2.St}{δ:Dl}{ts:List (D × V)}{Qd:D->Prop}{Q:VK}{E:XK}{ds:List D}{vs:List V}{sp:aW}(c:ak B F H σ δ ts)(s:S F H ds vs)(q:sp (ds.map D.sh) λd=>(ds.all D.pl||d.fr)=true/\Qd d)
  (k:∀d v F' H',Qd d->af F F'->af H H'->ak B F' H' σ δ ((d,v)::ts)->Q v H'):a6 sp vs H Q E:=by
 by_cases hp:ds.all D.pl=true
 ·rw[kZ hp]at q
  exact⟨F,ds,_,c.ext,s.r hp,q,λd v F' H' A hd hs hf he h3 r nd fr=>k d v F' H' hd.2 hf hs (c.call hs hf he h3 r nd fr)⟩
 ·refine⟨H,ds.map D.sh,_,af.refl _,s.frozen c.ext,q,λd v F' H' A hd hs hf he h3 r nd fr=>?_⟩
  have df:d.fr=true:=by
   have:=hd.1
   rw[Bool.or_eq_true]at this
   exact this.resolve_left hp
  exact k d v F H' hd.2 (af.refl _) hs (c.BF hs (r.qF (by simp[df]) (c.ext.trans hf)) nd fr)
section
variable{X:Cx}{CX:eP}{n:Nat}{f:Addr}{fd:FuncData}{ps:List Str}{sp:aW}{E:XK}{x:Str}{p pos:Pos}{e:Expr}{es:List Expr}{t:cm}
theorem t9(F:aH X.prog X.w X.K X.mg X.base CX n f fd ps (a6 sp))(hr:bQ n X.A)(hg:Gl X x)(hm:X.mg x=some (.ref f))(hk:PySem.W.keepIn X.K (.ref f)=true)(hb:Binds X.K fd ps [])(hx:jO CX X E)
  (ha:PA X (e::es) (lA t)) (cS:(x==("__debug__":Str))=false:=by decide) (he:starEach (e::es) X.env=(false,eval e X.env)::starEach es X.env:=by rfl) (bu:(backTo pos (starEach es X.env)).any (·.1)=false:=by rfl) :
  PE X (.Call (.Name x p) (e::es) [] pos) (lE (mH sp t)) :=
 dF (jq F hr hg hm hk hb .nil hx ha cS he bu) λσ H Q zq=>by
 obtain⟨B,F,δ,ts,Qd,c,q,k⟩:=zq
 exact⟨B,F,δ,ts,_,c,q,λds aj vs F1 H1 q1 f1 h1 c1 s1=>by
  show a6 sp (vs++[]) H1 Q E
  rw[fu]
  exact BL c1 s1 q1 λd v F' H' hd hf hs c'=>k d aj v F' H' hd (f1.trans hf) (h1.trans hs) c'⟩
end
noncomputable def jW(N:List Str)(ds:List D):Dl:=ds.map some++aV (N.length-ds.length) none
section
variable{P:Program}{w:World}{K:PySem.W.Frag}{mg:Str->Option Value}{base:Heap}
theorem bo{x qual:Str}{st:Stmt}{f:Addr}{fd:FuncData}{N ps:List Str}{k:Nat}{sp:aW}(F:jQ K x qual st f fd)(S:aU N ps (aK st))(len:∀ds Q,sp ds Q->ds.length=ps.length)
  (hJ:∀(ay:Value) (A:Around) (outer:List Env) (s:Shared) (H:Hp) (E:XK),bQ k (A.deeper (envOfC qual (aK st) s.heap.objs.size f ay)) ->
   ∃t:cV,PSs (iX aP P w K mg base N qual (aK st) f ay A outer s H E).g7 (iD st) (lS (iX aP P w K mg base N qual (aK st) f ay A outer s H E).g7 t)/\∀ds Q,sp ds Q->t { nx:=λ_=>Q .au,rt:=Q } (jW N ds)):aH P w K mg base aP (k+1) f fd ps (a6 sp):=by
 refine F.ok S (λvs H Q E ⟨F,ds,Qd,e,r,h,_⟩=>by rw[<-r.length];exact len ds Qd h) λay A outer s H vs Q E hr zz=>?_
 obtain⟨F,ds,Qd,e,r,h,k⟩:=zz
 obtain⟨t,ht,hq⟩:=hJ ay A outer s H E hr
 have fin:∀d v ah aF F' H',Qd d->ak ⟨H,F⟩ F' H' aF ah [(d,v)]->Q v H':=λd v ah aF F' H' hd c=>by
  obtain⟨A,C,r',s',nd,fr⟩:=c.own
  exact k d v F' H' A hd c.b1 c.b2 c.ext c.b3 r' (ia.mp nd).1 λa ha=>fr a (eN _ ha)
 have e1:L2.start N vs=vs.map some++aV (N.length-ds.length) none:=by unfold L2.start;rw[r.length]
 refine⟨_,ht,⟨H,F⟩,F,jW N ds,_,?_,hq ds Qd h,λah aF F' H' hd c=>fin .au .au ah aF F' H' hd (c.pushS (.au .nil) rfl),fin,λ_ _ _ _ z=>z.elim,λ_ _ _ _ z=>z.elim,XL.none (λ_ _ z=>z) λ_ _ z=>z⟩
 rw[e1]
 exact ak.start e r _
end
section
variable{X:Cx}{e a b c:Expr}{es:List Expr}{pos:Pos}{st:Stmt}{qu rest:List Stmt}{t u:cV}{te:aO}{tt:fI}
noncomputable def qP:cV:=λD δ=>D.nx δ
noncomputable def LN(t u:cV):cV:=λD δ=>t { D with nx:=u D } δ
theorem aD{t u:cV}{En:nW}{δ:Dl}(h:∀U:Dl->Prop,(∀ah,u En ah->U ah)->t { En with nx:=U } δ):LN t u En δ:=h (u En) λ_ z=>z
theorem cI:PSs X [] (lS X qP):=BH qt λD σ H ⟨B,F,δ,Dd,c,q,k⟩=>k.k1 δ σ F H q c
theorem aE(h1:PS X st (lS X t))(h2:PSs X rest (lS X u)):PSs X (st::rest) (lS X (LN t u)) :=
 BH (eV h1 h2) λD σ H zq=>by
 obtain⟨B,F,δ,Dd,c,q,k1,k2,k3,k4⟩:=zq
 exact⟨B,F,δ,{ Dd with nx:=u Dd },c,q,λah aF F' H' hq c'=>⟨B,F',ah,Dd,c',hq,k1,k2,k3,k4⟩,k2,k3,k4⟩
theorem aC(h1:PS X st (lS X t)):PSs X [st] (lS X t):=jl h1
theorem BM:PS X st (lS X λ_ _=>False):=kD tN λD σ H ⟨_,_,_,_,_,q,_⟩=>q.elim
theorem Fu:PSs X qu (lS X λ_ _=>False):=BH WE λD σ H ⟨_,_,_,_,_,q,_⟩=>q.elim
noncomputable def og(i:Nat)(t:cV):cV:=λD δ=>∃d,δ[i]?=some (some d)/\t D (δ.set i (some d.sh))
theorem BN(i:Nat)(h:PSs X qu (lS X t)):PSs X qu (lS X (og i t)):=BH h λD σ H zz=>by
 obtain⟨B,F,δ,Dd,c,⟨d,e,q⟩,k⟩:=zz
 obtain⟨F',s,c'⟩:=c.freeze e
 exact⟨B,F',_,Dd,c',q,k⟩
noncomputable def oh(i:Nat)(t:aO):cV:=λD δ=>t δ λd ah=>D.nx (ah.set i (some d))
theorem bc{i:Nat}{x:Str}{pos':Pos}(hN:X.N.Nodup)(hi:X.N[i]?=some x)(hx:Loc X.env.scope x)(he:PE X e (lE te))(hs:swapsWith e (some (.Name x pos')) pos.line X.env=pure false:=by rfl)
  (hf:X.fn x=true\/X.env.scope.names.lookup x=some .local:=by first | exact .inl rfl | exact .inr rfl | assumption):PS X (.Assign [.Name x pos'] e pos) (lS X (oh i te)) :=
 kD (Ep hN hi hx he hs hf) λD σ H zq=>by
 obtain⟨B,F,δ,Dd,c,q,k1,k2,k3,k4⟩:=zq
 exact⟨B,F,δ,[],_,c,q,λd ah v F' H' hd sf sh c'=>k1 _ _ F' H' hd (c'.store i)⟩
noncomputable def qQ(t:aO):cV:=λD δ=>t δ λd _=>D.rt d
theorem aQ(he:PE X e (lE te)):PS X (.Return (some e) pos) (lS X (qQ te)) :=
 kD (WC he) λD σ H zq=>by
 obtain⟨B,F,δ,Dd,c,q,k1,k2,k3,k4⟩:=zq
 exact⟨B,F,δ,[],_,c,q,λd ah v F' H' hd sf sh c'=>k2 d v ah σ F' H' hd c'⟩
noncomputable def qR(t:aO):cV:=λD δ=>t δ λ_ ah=>D.nx ah
theorem Fv(he:PE X e (lB te))(hs:swapsWith e none pos.line X.env=pure false:=by rfl):PS X (.Expr e pos) (lS X (qR te)) :=
 kD (tL he hs) λD σ H zq=>by
 obtain⟨B,F,δ,Dd,c,q,k1,k2,k3,k4⟩:=zq
 exact⟨B,F,δ,[],_,c,q,λd ah v F' H' hd sf sh c' s=>k1 ah σ F' H' hd c'⟩
noncomputable def oi(tc:fI)(t u:cV):cV:=λD δ=>tc δ λb ah=>if b=true then t D ah else u D ah
theorem cq{l r:List Stmt}(hc:PT X c (lT tt))(ha:PSs X l (lS X t))(hb:PSs X r (lS X u)):PS X (.If c l r pos) (lS X (oi tt t u)) :=
 kD (tM hc ha hb) λD σ H zq=>by
 obtain⟨B,F,δ,Dd,c,q,k⟩:=zq
 exact⟨B,F,δ,[],_,c,q,λb ah F' H' hq sf sh c'=>by
  cases b with
  | true=>exact qy ⟨B,F',ah,Dd,c',by simpa using hq,k⟩
  | false=>exact iY ⟨B,F',ah,Dd,c',by simpa using hq,k⟩⟩
noncomputable def qS(i:Nat)(rd:cM)(t:aO):cV:=λD δ=>∃x,δ[i]?=some (some x)/\t δ λy aj=>rd x y λz=>D.nx (aj.set i (some z))
theorem yA{i:Nat}{x:Str}{op:Operator}{rd:cM}{pos':Pos}(hN:X.N.Nodup)(hi:X.N[i]?=some x)(hx:Loc X.env.scope x)(he:PE X e (lB te))(ho:bP X (inplaceOp op) rd)
  (hf:X.fn x=true\/X.env.scope.names.lookup x=some .local:=by first | exact .inl rfl | exact .inr rfl | assumption):PS X (.AugAssign (.Name x pos') op e pos) (lS X (qS i rd te)):=by
 obtain⟨r,h1,h2⟩:=ho
 refine kD (WR hN hi hx he (ti:=r) h1 hf) λD σ H zz=>?_
 obtain⟨B,F,δ,Dd,c,⟨d0,e0,q⟩,k1,k2,k3,k4⟩:=zz
 obtain⟨v0,e1,s0⟩:=c.look e0
 exact⟨v0,e1,B,F,δ,[],_,c,q,λd ah v F' H' hd sf sh c' s=>h2 c' (s0.mono sf sh) s hd λz w H2 hz h3 c3=>k1 _ _ F' H2 hz (c3.store i)⟩
noncomputable def qT(tc:fI)(tb:cV):cV:=λD δ=>∃W:Nat->Dl->Prop,(∃m,W m δ)/\∀m δ,W m δ->tc δ λb ah=>if b=true then tb { D with nx:=λah=>∃m',m'<m/\W m' ah,ct:=λah=>∃m',m'<m/\W m' ah,bk:=D.nx } ah else D.nx ah
theorem yB{body:List Stmt}(hp:PassesOwn (model X.prog X.w) X.A X.env X.xe)(hc:PT X c (lT tt))(hb:PSs X body (lS X t)):PS X (.While c body [] pos) (lS X (qT tt t)) :=
 kD (WV hp hc hb) λD σ H zz=>by
  obtain⟨B,F,δ,Dd,c,⟨W,⟨m0,w0⟩,hw⟩,k1,k2,k3,k4⟩:=zz
  refine⟨λm σ H=>∃F δ,ak B F H σ δ []/\W m δ,⟨m0,F,δ,c,w0⟩,λm σ H ⟨F,δ,c,w⟩=>⟨B,F,δ,[],_,c,hw m δ w,λb ah F' H' hq sf sh c'=>?_⟩⟩
  cases b with
  | true =>
   refine qy ⟨λaF H'=>∃m',m'<m/\∃F δ,ak B F H' aF δ []/\W m' δ,λaF H' z=>z,B,F',ah,{ Dd with nx:=λah=>∃m',m'<m/\W m' ah,ct:=λah=>∃m',m'<m/\W m' ah,bk:=Dd.nx },c',by simpa using hq,λa7 jM F2 H2 ⟨m',hm,w2⟩ c2=>⟨m',hm,F2,a7,c2,w2⟩,k2,λa7 jM F2 H2 z c2=>k1 a7 jM F2 H2 z c2,λa7 jM F2 H2 ⟨m',hm,w2⟩ c2=>⟨m',hm,F2,a7,c2,w2⟩,k4.2⟩
  | false=>exact iY (k1 ah σ F' H' (by simpa using hq) c')
end
structure JD(J:It)(F:Hp)(xs:List D):Prop where
 go:∀i H,af F H->i<xs.length->J.go i H
 ky:∀i H x H',af F H->i<xs.length->J.ky i H x H'->∃d,xs[i]?=some d/\af H H'/\R F H' [d] [x] []
 stop:∀i H,af F H->xs.length<=i->J.stop i H
noncomputable abbrev i5:=Dl->(Bool->List D->Dl->Prop)->Prop
inductive lI(t:i5)(σ:L2.St)(H:Hp)(Rr:It->Hp->Prop):Prop
 | mk (B F δ ts Qd) (c:ak B F H σ δ ts) (q:t δ Qd) (k:∀g xs ah J F' H',Qd g xs ah->af F F'->af H H'->ak B F' H' σ ah ts->JD J H' (xs.map D.sh)->(g=true->xs.all D.pl=true/\JD J F' xs)->Rr J H')
noncomputable abbrev iJ:=D->Dl->(Dl->Prop)->Prop
inductive lG(m:Nat)(t:iJ)(v:V)(σ:L2.St)(H:Hp)(Q:L2.St->Hp->Prop):Prop
 | mk (B F δ ts d Qd) (c:ak B F H σ δ ((d,v)::ts)) (q:t d δ Qd) (k:∀ah aF,Qd ah->aF.length=σ.length->(∀j,j<m->aF[j]?=σ[j]?)->ak B F H aF ah ts->Q aF H)
noncomputable def i6:D->Option (List D)
 | .lst _ xs=>some xs
 | .fz xs=>some xs
 | _=>none
section
variable{B:Bs}{F H F1:Hp}{σ:L2.St}{δ:Dl}{ts:List (D × V)}
end
section
variable{X:Cx}{e a b c tg l iter:Expr}{es:List Expr}{pos:Pos}{t u:cV}{te:aO}{tt:fI}{ta:cm}{m:Nat}
theorem ua{w w':TI}(h:PI X tg iter w)(m:∀σ H Q,w' σ H Q->w σ H Q):PI X tg iter w':=λpins s σ H Q I q=>h pins s σ H Q I (m σ H Q q)
theorem LO{w w':TG}(h:PG X tg w)(m:∀v σ H Q,w' v σ H Q->w v σ H Q):PG X tg w':=λpins s σ H v u Q I r q=>h pins s σ H v u Q I r (m v σ H Q q)
noncomputable def gN(i:Nat):iJ:=λd δ Q=>Q (δ.set i (some d))
theorem mI{i:Nat}{x:Str}(hN:X.N.Nodup)(hi:X.N[i]?=some x)(hx:Loc X.env.scope x)(hm:m<=i:=by decide)(hf:X.fn x=true\/X.env.scope.names.lookup x=some .local:=by first | exact .inl rfl | exact .inr rfl | assumption):PG X (.Name x pos) (lG m (gN i)) :=
 LO (Bh hN hi hx hf) λv σ H Q ⟨B,F,δ,ts,d,Qd,c,q,k⟩=>k _ _ q (by simp) (λj hj=>by rw[sT (by omega)]) (c.store i)
theorem oj{K:PySem.W.Frag}{F H:Hp}{p:Addr}{xs:List D}{ws:List V}(hp:Rd F p (.lst ws))(r:R F H xs ws [])(hF:Full F H):JD (Es K p) F xs where
 go:=λi H' hs hi=>by
  have l:=r.length
  have gL:i<ws.length:=by omega
  exact⟨ws,ws[i],.inl (hV hp hs),aM gL⟩
 ky:=λi H' x H2 hs hi zz=>by
  obtain⟨e,y⟩:=zz
  subst e
  have hx:=y ws (.inl (hV hp hs))
  obtain⟨v,A1,e2,r1,sub⟩:=(r.full hF hs rfl).get (aM hi)
  rw[hx]at e2;cases e2
  have:A1=[]:=VH.mpr λa ha=>by simpa using sub ha
  subst this
  exact⟨_,aM hi,af.refl _,r1⟩
 stop:=λi H' hs hi=>⟨ws,.inl (hV hp hs),by have:=r.length;omega⟩
theorem BO{F:Hp}(lo:Int)(n:Nat):JD (xZ lo n) F ((aL n).map λ(k:Nat)=>D.int (lo+(k:Int))) where
 go:=λi H' hs hi=>by
  have gL:i<n:=by simpa using hi
  exact gL
 ky:=λi H' x H2 hs hi zz=>by
  obtain⟨e,y⟩:=zz
  subst e y
  have gL:i<n:=by simpa using hi
  exact⟨.int (lo+i),by simp[kR gL],af.refl _,.int .nil⟩
 stop:=λi H' hs hi=>by
  have gL:n<=i:=by simpa using hi
  exact gL
noncomputable def qU(t:aO):i5:=λδ Q=>t δ λd ah=>∃xs,i6 d=some xs/\Q true (xs.map D.sh) ah
theorem υ(xs:List D){F H:Hp}{ws:List V}(r:R F H (xs.map D.sh) ws []):(xs.map D.sh).map D.sh=xs.map D.sh:=kZ r.pl
theorem Fw(h:PE X l (lE te)):PI X tg l (lI (qU te)) :=
 ua (J9 h) λσ H Q zq=>by
 obtain⟨B,F,δ,ts,Qd,c,q,k⟩:=zq
 exact⟨B,F,δ,ts,_,c,q,λd aj v F1 H1 hd f1 h1 c1=>by
  obtain⟨xs,e,hq⟩:=hd
  obtain⟨F2,f2,c2⟩:=c1.BG
  have tp:=c2.top
  have c3:=c2.pop.snap
  have e2:=c2.ext
  have sn:=qG e2
  cases d with
  | lst o ys =>
   obtain rfl:=c9 e
   rw[cU]at tp
   cases tp with
   | @shr p ws _ _ _ hp r _ =>
    have r3:=r.shared sn (af.refl _)
    refine⟨p,rfl,⟨ws,bG.of (e2 _ _ hp)⟩,k true _ aj _ _ H1 hq ((f1.trans f2).trans sn) h1 c3 ?_ λ_=>⟨r.pl,oj (.inl (sn _ _ hp)) r3 tZ⟩⟩
    rw[υ _ r]
    exact oj (.inl (e2 _ _ hp)) (r.shared e2 (af.refl _)) (Full.refl _)
  | fz ys =>
   obtain rfl:=c9 e
   cases tp with
   | @fz p o ws _ _ _ hp r _ =>
    have r3:=r.shared sn (af.refl _)
    have es:=kZ r.pl
    rw[es]at hq
    refine⟨p,rfl,⟨ws,.inl (.inr ⟨o,e2 _ _ hp⟩)⟩,k true _ aj _ _ H1 hq ((f1.trans f2).trans sn) h1 c3 ?_ λ_=>⟨r.pl,oj (.inr ⟨o,sn _ _ hp⟩) r3 tZ⟩⟩
    rw[es]
    exact oj (.inr ⟨o,e2 _ _ hp⟩) (r.shared e2 (af.refl _)) (Full.refl _)
  | au=>cases e
  | bl _=>cases e
  | int _=>cases e
  | str _=>cases e
  | tup _=>cases e
  | obj _ _ _=>cases e
  | bx _=>cases e⟩
noncomputable def qV(t:aO):i5:=λδ Q=>t δ λd ah=>∃xs,i6 d=some xs/\Q d.pl xs ah
theorem gg(h:PE X l (lB te)):PI X tg l (lI (qV te)) :=
 ua (J9 h) λσ H Q zq=>by
 obtain⟨B,F,δ,ts,Qd,c,q,k⟩:=zq
 exact⟨B,F,δ,ts,_,c,q,λd aj v F1 H1 hd f1 h1 c1 s=>by
  obtain⟨xs,e,hq⟩:=hd
  have c3:=c1.snap
  have e2:=c1.ext
  have sn:=qG e2
  cases s with
  | @shr p ws ys _ _ hp r _ =>
   obtain rfl:=c9 e
   refine⟨p,rfl,⟨ws,bG.of (e2 _ _ hp)⟩,k _ _ aj _ _ H1 hq (f1.trans sn) h1 c3 ?_ λ_=>⟨r.pl,oj (.inl (sn _ _ hp)) (r.shared sn (af.refl _)) tZ⟩⟩
   rw[kZ r.pl]
   exact oj (.inl (e2 _ _ hp)) (r.shared e2 (af.refl _)) (Full.refl _)
  | @own p ws ys _ _ hp r _ =>
   obtain rfl:=c9 e
   refine⟨p,rfl,⟨ws,bG.of hp⟩,k _ _ aj _ _ H1 hq (f1.trans sn) h1 c3 (oj (.inl hp) (r.frozen e2) (Full.refl _)) λz=>by simp[fB]at z⟩
  | @fz p o ws ys _ _ hp r _ =>
   obtain rfl:=c9 e
   refine⟨p,rfl,⟨ws,.inl (.inr ⟨o,e2 _ _ hp⟩)⟩,k _ _ aj _ _ H1 hq (f1.trans sn) h1 c3 ?_ λ_=>⟨r.pl,oj (.inr ⟨o,sn _ _ hp⟩) (r.shared sn (af.refl _)) tZ⟩⟩
   rw[kZ r.pl]
   exact oj (.inr ⟨o,e2 _ _ hp⟩) (r.shared e2 (af.refl _)) (Full.refl _)
  | au _=>cases e
  | bl _=>cases e
  | int _=>cases e
  | str _=>cases e
  | tup _ _ _=>cases e
  | obj _ _ _ _=>cases e
  | bx _ _=>cases e⟩
theorem yC(f:Nat->Int)(l:List Nat):(l.map λk=>D.int (f k)).map D.sh=l.map λk=>D.int (f k):=by simp[D.sh]
theorem LP(f:Nat->Int)(l:List Nat):(l.map λk=>D.int (f k)).all D.pl=true:=by simp[D.pl]
noncomputable def qW(t:cm):i5:=λδ Q=>t δ λds ah=>∃j:Int,ds=[.int j]/\(-(2 ^ 62)<=j/\j<2 ^ 62)/\Q true ((aL j.toNat).map λ(k:Nat)=>D.int (0+(k:Int))) ah
theorem jX{p:Pos}(hg:Gl X "range")(hm:X.mg "range"=none)(ha:PA X [a] (lA ta))(hs:starEach [a] X.env=[(false,eval a X.env)]:=by rfl):PI X tg (.Call (.Name "range" p) [a] [] pos) (lI (qW ta)) :=
 ua (W2 hg hm ha hs) λσ H Q zq=>by
 obtain⟨B,F,δ,ts,Qd,c,q,k⟩:=zq
 exact⟨B,F,δ,ts,_,c,q,λds aj vs F1 H1 hd f1 h1 c1 s=>by
  obtain⟨j,rfl,⟨b1,b2⟩,hq⟩:=hd
  cases s with
  | int s =>
   cases s
   refine⟨j,rfl,b1,b2,k true _ aj _ _ H1 hq f1 h1 c1 ?_ λ_=>⟨LP _ _,BO 0 _⟩⟩
   rw[yC]
   exact BO 0 _⟩
noncomputable def qX(t:cm):i5:=λδ Q=>t δ λds ah=>∃i j:Int,ds=[.int i,.int j]/\(-(2 ^ 62)<=i/\i<2 ^ 62/\-(2 ^ 62)<=j/\j<2 ^ 62)/\Q true ((aL (j-i).toNat).map λ(k:Nat)=>D.int (i+(k:Int))) ah
theorem BP{p:Pos}(hg:Gl X "range")(hm:X.mg "range"=none)(ha:PA X [a,b] (lA ta))(hs:starEach [a,b] X.env=[(false,eval a X.env),(false,eval b X.env)]:=by rfl)(dA:starEach [b] X.env=[(false,eval b X.env)]:=by rfl) :
  PI X tg (.Call (.Name "range" p) [a,b] [] pos) (lI (qX ta)) :=
 ua (W3 hg hm ha hs dA) λσ H Q zq=>by
 obtain⟨B,F,δ,ts,Qd,c,q,k⟩:=zq
 exact⟨B,F,δ,ts,_,c,q,λds aj vs F1 H1 hd f1 h1 c1 s=>by
  obtain⟨i,j,rfl,bd,hq⟩:=hd
  cases s with
  | int s =>
   cases s with
   | int s =>
    cases s
    refine⟨i,j,rfl,bd,k true _ aj _ _ H1 hq f1 h1 c1 ?_ λ_=>⟨LP _ _,BO i _⟩⟩
    rw[yC]
    exact BO i _⟩
noncomputable def gQ(xs:List D)(g:iJ)(tb:cV):cV:=λEn aj=>∃Iv:Nat->Dl->Prop,Iv 0 aj /\
 (∀i d ah,xs[i]?=some d->Iv i ah->g d ah λa7=>tb { En with nx:=Iv (i+1),ct:=Iv (i+1),bk:=En.nx } a7)/\∀ah,Iv xs.length ah->En.nx ah
theorem gQ.mk{xs:List D}{g:iJ}{tb:cV}{En:nW}{δ:Dl}(Iv:Nat->Dl->Prop)(h0:Iv 0 δ)(ht:∀i d ah,xs[i]?=some d->Iv i ah->g d ah λa7=>tb { En with nx:=Iv (i+1),ct:=Iv (i+1),bk:=En.nx } a7)
  (hf:∀ah,Iv xs.length ah->En.nx ah):gQ xs g tb En δ:=⟨Iv,h0,ht,hf⟩
noncomputable def qY(ti:i5)(g:iJ)(tb:cV):cV:=λEn δ=>ti δ λsh xs aj=>sh=true/\gQ xs g tb En aj
theorem iK{ti:i5}{g:iJ}{body:List Stmt}(hp:PassesOwn (model X.prog X.w) X.A X.env X.xe)(hc:X.calm=true)(hi:PI X tg iter (lI ti))(hg:PG X tg (lG 0 g))(hb:PSs X body (lS X t))
  (hs:∀x,foldedSetIterable iter X.env x=pure x:=by intro _;rfl):PS X (.For tg iter body [] pos) (lS X (qY ti g t)) :=
 kD (W6 hp hc hi hg hb hs) λEn σ H zq=>by
 obtain⟨B,F,δ,Dd,c,q,k1,k2,k3,k4⟩:=zq
 exact⟨B,F,δ,[],_,c,q,λsh xs aj J F1 H1 hq f1 h1 c1 _ jd=>by
  obtain⟨yh,Iv,i0,turn,fin⟩:=hq
  obtain⟨bu,jd⟩:=jd yh
  have un:∀{F' H':Hp} {aF:L2.St} {ah:Dl} {ts:List (D × V)},ak ⟨B.H0,F1⟩ F' H' aF ah ts->ak B F' H' aF ah ts:=λc'=>c'.ε c1.b2 c1.b3
  refine⟨λi m σ H=>m=xs.length-i/\i<=xs.length/\∃F δ,ak ⟨B.H0,F1⟩ F H σ δ []/\Iv i δ,⟨_,rfl,jE _,F1,aj,c1.rebase,i0⟩,?_⟩
  rintro i m jM H2 ⟨rfl,hi,F2,a7,c2,iv⟩
  have s2:af F1 H2:=c2.b2.trans c2.ext
  by_cases fg:i<xs.length
  ·refine .inr ⟨jd.go i H2 s2 fg,λaF H'=>∃F δ,ak ⟨B.H0,F1⟩ F H' aF δ []/\Iv (i+1) δ,λaF H' z=>⟨xs.length-(i+1),by omega,rfl,fg,z⟩,λx H3 y=>?_⟩
   obtain⟨d,e,s3,r⟩:=jd.ky i H2 x H3 s2 fg y
   have c3:=(c2.grow s3).pushS (d:=d) (v:=x) ((r.s).mono c2.b2 (af.refl _)) (by have:=r.pl;simpa using this)
   refine⟨⟨B.H0,F1⟩,F2,a7,[],d,_,c3,turn i d a7 e iv,λah aF hq _ _ c4=>?_⟩
   exact⟨⟨B.H0,F1⟩,F2,ah,_,c4,hq,λjY om F5 H5 h5 c5=>⟨F5,jY,c5,h5⟩,λd5 v5 jY om F5 H5 h5 c5=>k2 d5 v5 jY om F5 H5 h5 (un c5),λjY om F5 H5 h5 c5=>k1 jY om F5 H5 h5 (un c5),λjY om F5 H5 h5 c5=>⟨F5,jY,c5,h5⟩,⟨λC jY pins om F5 H5 s5 a T h5 c5=>k4.2.1 C jY pins om F5 H5 s5 a T h5 (un c5),λC jY pins om F5 H5 s5 h' e vs h5 c5=>k4.2.2 C jY pins om F5 H5 s5 h' e vs h5 (un c5)⟩⟩
  ·have e:i=xs.length:=by omega
   subst e
   exact .inl ⟨jd.stop _ H2 s2 (bE _),k1 a7 jM F2 H2 (fin a7 iv) (un c2)⟩⟩
end
end L3
namespace L3
open PySem L2 PySem.Spec PyProof.Rows
noncomputable def i7(δ:Dl)(q:Str × Nat):Option D:=(δ[q.2]?).getD none
noncomputable def gx(δ:Dl)(q:Str × Nat):Bool:=match i7 δ q with
 | some d=>d.pl
 | none=>true
noncomputable def fh(az:List (Str × Nat))(n:Nat)(δ:Dl):Dl:=(az.map λq=>(i7 δ q).map D.sh)++aV n none
noncomputable def oo(sh:Bool)(xs:List D)(az:List (Str × Nat))(n:Nat)(g:iJ)(tt:fI)(te:aO)(aj:Dl)(Q:D->Dl->Prop):Prop:=∃(p:D->Bool) (f:D->D),
 (∀x∈xs.map D.sh,g x (fh az n aj) λa7=>tt a7 λb iZ=>b=p x/\(p x=true->te iZ λd _=>d=f x)) /\
 ((sh&&az.all (gx aj))=true\/∀x∈xs.map D.sh,p x=true->(f x).fr=true)/\xs.length<=sizeLine/\Q (.lst true (((xs.map D.sh).filter p).map f)) aj
noncomputable def mJ(ti:i5)(az:List (Str × Nat))(n:Nat)(g:iJ)(tt:fI)(te:aO):aO:=λδ Q=>ti δ λsh xs aj=>oo sh xs az n g tt te aj Q
noncomputable def i8:fI:=λδ Q=>Q true δ
theorem χ{sh:Bool}{xs:List D}{az:List (Str × Nat)}{n m:Nat}{te:aO}{aj:Dl}{Q:D->Dl->Prop}(f:D->D)(hx:∀x∈xs.map D.sh,te ((fh az n aj).set m (some x)) λd _=>d=f x)
  (df:(sh&&az.all (gx aj))=true\/∀x∈xs.map D.sh,(f x).fr=true) (hl:xs.length<=sizeLine) (hq:Q (.lst true ((xs.map D.sh).map f)) aj):oo sh xs az n (gN m) i8 te aj Q :=
 ⟨λ_=>true,f,λx h=>⟨rfl,λ_=>hx x h⟩,df.imp id λh x hx _=>h x hx,hl,by rw[VI.mpr (λ_ _=>rfl)];exact hq⟩
section
variable{B:Bs}{F H:Hp}{σ:L2.St}{δ:Dl}{ts:List (D × V)}
theorem LQ(c:ak B F H σ δ ts)(n:Nat):∀(az:List (Str × Nat)),az.all (gx δ)=true->RS F H (fh az n δ) (iF az n σ) []
 | [],_=>by
  have z:∀n,RS F H (aV n none) (aV n none) []:=λn=>by
   induction n with
   | zero=>exact .nil
   | succ n ih=>exact .au ih
  exact z n
 | q::r,h=>by
  rw[de,eU]at h
  have ih:=LQ c n r h.2
  show RS F H ((i7 δ q).map D.sh::fh r n δ) ((σ[q.2]?).getD none::iF r n σ) []
  cases e:i7 δ q with
  | none=>exact .au ih
  | some d =>
   have e2:δ[q.2]?=some (some d):=by
    unfold i7 at e
    cases z:δ[q.2]? with
    | none=>rw[z]at e;cases e
    | some o=>rw[z]at e;exact congrArg some e
   have hp:d.pl=true:=by have:=h.1;unfold gx at this;rw[e]at this;exact this
   obtain⟨v,e3,s⟩:=c.look e2
   rw[e3]
   show RS F H (some d.sh::_) (some v::_) []
   rw[D.BE hp]
   exact .eo (A:=[]) (s.r (by simp[hp])) ih
theorem LR(c:ak B F H σ δ ts)(n:Nat):∀(az:List (Str × Nat)),RS H H (fh az n δ) (iF az n σ) []
 | []=>by
  have z:∀n,RS H H (aV n none) (aV n none) []:=λn=>by
   induction n with
   | zero=>exact .nil
   | succ n ih=>exact .au ih
  exact z n
 | q::r=>by
  have ih:=LR c n r
  show RS H H ((i7 δ q).map D.sh::fh r n δ) ((σ[q.2]?).getD none::iF r n σ) []
  cases e:i7 δ q with
  | none=>exact .au ih
  | some d =>
   have e2:δ[q.2]?=some (some d):=by
    unfold i7 at e
    cases z:δ[q.2]? with
    | none=>rw[z]at e;cases e
    | some o=>rw[z]at e;exact congrArg some e
   obtain⟨v,e3,s⟩:=c.look e2
   rw[e3]
   exact .eo (A:=[]) (s.frozen c.ext) ih
theorem LS{α:Type}(xs:List α)(p:α->Bool)(i:Nat)(x:α)(h:xs[i]?=some x):(xs.take (i+1)).filter p=(xs.take i).filter p++(if p x=true then [x]else []):=by
 rw[qh,h,List.filter_append]
 simp only[Jw]
 by_cases hp:p x=true<;>simp[hp]
end
section
variable{X:Cx}{elt iter tg:Expr}{pos:Pos}{ifs:List Expr}{scope:Scope}{cl:List (Str × Addr)}{ti:i5}{tt:fI}{te:aO}{g:iJ}
theorem Fx{B:Bs}{F1 H1:Hp}{σ:L2.St}{aj:Dl}{ts:List (D × V)}{J:It}{Qd:D->Dl->Prop}{Q:VK}{xs:List D}{sh:Bool}{az:List (Str × Nat)}{n:Nat}(c1:ak B F1 H1 σ aj ts)
  (oq:JD J H1 (xs.map D.sh)) (ub:sh=true->xs.all D.pl=true/\JD J F1 xs) (p:D->Bool) (f:D->D)
  (hx:∀x∈xs.map D.sh,g x (fh az n aj) λa7=>tt a7 λb iZ=>b=p x/\(p x=true->te iZ λd _=>d=f x))
  (df:(sh&&az.all (gx aj))=true\/∀x∈xs.map D.sh,p x=true->(f x).fr=true) (hlen:xs.length<=sizeLine) (hq:Qd (.lst true (((xs.map D.sh).filter p).map f)) aj)
  (k:∀d ah v F' H',Qd d ah->af F1 F'->af H1 H'->ak B F' H' σ ah ((d,v)::ts)->Q v H'):Lo J az n (lG az.length g) (lT tt) (lE te) σ H1 Q:=by
 intro Dp hD
 have cD:ak B F1 (upd H1 Dp (.lst [])) σ aj ((.lst true [],.ref Dp)::ts):=c1.qH hD .nil rfl
 refine⟨λi m acc H2=>m=xs.length-i/\i<=xs.length/\H2 Dp=some (.lst acc)/\af H1 H2/\acc.length<=i/\∃F2,af F1 F2 /\
  ak B F2 H2 σ aj ((.lst true ((((xs.map D.sh).take i).filter p).map f),.ref Dp)::ts),⟨xs.length,rfl,jE _,bI,af.upd hD,bE _,F1,af.refl _,by simpa using cD⟩,?_⟩
 rintro i m acc H2 ⟨rfl,hi,Fy,yD,ω,F2,yE,c2⟩
 refine⟨Fy,?_⟩
 by_cases fg:i<xs.length
 case neg =>
  have e:i=xs.length:=by omega
  subst e
  refine .inl ⟨oq.stop _ H2 yD (by simp),k _ aj _ F2 H2 ?_ yE yD c2⟩
  have:(xs.map D.sh).take xs.length=xs.map D.sh:=by rw[xH (by simp)]
  rw[this]
  exact hq
 case pos =>
  refine .inr ⟨oq.go i H2 yD (by simpa using fg),λx H3 y=>?_⟩
  obtain⟨d0,e0,Fz,r0⟩:=oq.ky i H2 x H3 yD (by simpa using fg) y
  have LU:d0∈xs.map D.sh:=vB e0
  have LV:H3 Dp=some (.lst acc):=Fz _ _ Fy
  have c3:=c2.grow Fz
  have FA:=yD.trans Fz
  refine⟨LV,?_⟩
  have gy:=hx d0 LU
  have turn:∀Fi,af Fi H3->RS Fi H3 (fh az n aj) (iF az n σ) []->S Fi H3 [d0] [x]->d0.pl=true ->
    (∀d v F' H' A,d=f d0->p d0=true->af H3 H'->af Fi F'->af F' H'->(∀a ws,F' a=some (.lst ws)->Fi a=some (.lst ws)\/H3 a=none)->R F' H' [d] [v] A->A.Nodup->(∀a∈A,H3 a=none) ->
     ∃F4,af F2 F4/\ak B F4 H' σ aj ((d,v)::(.lst true ((((xs.map D.sh).take i).filter p).map f),.ref Dp)::ts)) ->
    lG az.length g x (iF az n σ) H3 λg8 H4 =>
     (g8.length=(iF az n σ).length/\∀j,j<az.length->g8[j]?=(iF az n σ)[j]?)/\lT tt g8 H4 λb H5=>H5 Dp=some (.lst acc) /\
     if b=true then lE te g8 H5 λy H6=>H6 Dp=some (.lst acc)/\acc.length<sizeLine/\∃m',m'<xs.length-i /\
      (m'=xs.length-(i+1)/\i+1<=xs.length/\upd H6 Dp (.lst (acc++[y])) Dp=some (.lst (acc++[y]))/\af H1 (upd H6 Dp (.lst (acc++[y])))/\(acc++[y]).length<=i+1/\∃F2,af F1 F2 /\
       ak B F2 (upd H6 Dp (.lst (acc++[y]))) σ aj ((.lst true ((((xs.map D.sh).take (i+1)).filter p).map f),.ref Dp)::ts))
     else ∃m',m'<xs.length-i/\(m'=xs.length-(i+1)/\i+1<=xs.length/\H5 Dp=some (.lst acc)/\af H1 H5/\acc.length<=i+1/\∃F2,af F1 F2 /\
       ak B F2 H5 σ aj ((.lst true ((((xs.map D.sh).take (i+1)).filter p).map f),.ref Dp)::ts)):=by
   intro Fi Γ Δ hS bu back
   have ci:ak ⟨H3,Fi⟩ Fi H3 (iF az n σ) (fh az n aj) []:=⟨Γ,af.refl _,af.refl _,λ_ _ q=>.inl q,[],[],.nil,Δ,by simp,by simp⟩
   refine⟨⟨H3,Fi⟩,Fi,fh az n aj,[],d0,_,ci.pushS hS bu,gy,λah g8 Θ l1 k1 c4=>⟨⟨l1,k1⟩,⟨H3,Fi⟩,Fi,ah,[],_,c4,Θ,λb jY F5 H5 hb f5 h5 c5=>?_⟩⟩
   obtain⟨hb,ht⟩:=hb
   have BQ:H5 Dp=some (.lst acc):=h5 _ _ LV
   refine⟨BQ,?_⟩
   by_cases hp:p d0=true
   ·rw[hb,hp]
    refine qy ⟨⟨H3,Fi⟩,F5,jY,[],_,c5,ht hp,λd δ6 v F6 H6 hd f6 h6 c6=>?_⟩
    have LW:H6 Dp=some (.lst acc):=h6 _ _ BQ
    obtain⟨A,C,r,s,nd,fr⟩:=c6.own
    obtain⟨F4,Λ,c7⟩:=back d v F6 H6 A hd hp c6.b1 c6.b2 c6.ext c6.b3 r (ia.mp nd).1 λa ha=>fr a (eN _ ha)
    have c8:=c7.μ LW
    refine⟨LW,by omega,xs.length-(i+1),by omega,rfl,fg,bI,?_,by simpa using ω,F4,yE.trans Λ,?_⟩
    ·have LX:=FA.trans c6.b1
     exact⟨λa o q n=>by rw[aT (dX q hD)];exact LX.get a o q n,λa ps q=>by rw[aT (dX q hD)];exact LX.tb a ps q⟩
    ·have e9:(((xs.map D.sh).take (i+1)).filter p).map f=(((xs.map D.sh).take i).filter p).map f++[d]:=by
      rw[LS _ p i d0 e0,hp,hd];simp
     rw[e9]
     exact c8
   ·have yF:p d0=false:=by simpa using hp
    rw[hb,yF]
    refine iY ⟨xs.length-(i+1),by omega,rfl,fg,BQ,FA.trans h5,by omega,F2,yE,?_⟩
    have e9:(((xs.map D.sh).take (i+1)).filter p).map f=(((xs.map D.sh).take i).filter p).map f:=by
     rw[LS _ p i d0 e0,yF];simp
    rw[e9]
    exact c3.grow h5
  by_cases hA:(sh&&az.all (gx aj))=true
  ·rw[eU]at hA
   obtain⟨bu,jd⟩:=ub hA.1
   have yh:=kZ bu
   rw[yh]at e0
   obtain⟨d1,e1,_,r1⟩:=jd.ky i H2 x H3 (yE.trans c2.ext) fg y
   rw[e0]at e1;cases e1
   have Ξ:d0.pl=true:=by have:=r1.pl;simpa using this
   refine turn F2 c3.ext (LQ c3 n az hA.2) ((r1.s).mono yE (af.refl _)) Ξ λd v F' H' A hd hp hs hf he h3 r nd fr=>⟨F',hf,c3.call hs hf he h3 r nd fr⟩
  ·have Φ:=df.resolve_left hA
   refine turn H3 (af.refl _) (LR c3 n az) ((r0.shared FA (af.refl _)).s) (by have:=r0.pl;simpa using this) λd v F' H' A hd hp hs hf he h3 r nd fr=>⟨F2,af.refl _,?_⟩
   exact c3.BF hs (r.qF (by rw[hd];simp[Φ d0 LU hp]) (c3.ext.trans hf)) nd fr
theorem dB{Y:Cx}:mB Y [] (lT i8):=λ_ _ _ H _ I ⟨B,F,δ,ts,Qd,c,q,k⟩=>Zg _ _ _ H _ I (k true δ F H q (af.refl _) (af.refl _) c)
theorem yG{Y:Cx}{c:Expr}(h:PT Y c (lT tt)):mB Y [c] (lT tt):=Zh h
end
end L3
namespace L3
open PySem L2 PySem.Spec PyProof.Rows
section
variable{X:Cx}{F H:Hp}{v w:V}
noncomputable def l2(rd:cM):R2:=λv w H Q=>∃B F σ δ ts x y Qd,ak B F H σ δ ts/\S F H [x] [v]/\S F H [y] [w]/\rd x y Qd/\∀d z H',Qd d->af H H'->ak B F H' σ δ ((d,z)::ts)->Q z H'
theorem bP.of{f:Value->Value->Sem Value}{rd:cM}(h:cC X f (l2 rd)):bP X f rd:=⟨_,h,λ{B F H σ δ ts x y v w Q Qd} c sx sy q k=>⟨B,F,σ,δ,ts,x,y,Qd,c,sx,sy,q,k⟩⟩
theorem yH{f:Value->Value->Sem Value}{C:Int->Int->Prop}{g:Int->Int->V}{gd:Int->Int->D}(ho:cC X f (rI C g))(hg:∀i j F H,S F H [gd i j] [g i j])(hp:∀i j,(gd i j).pl=true):bP X f λx y Q=>∃i j,x=.int i/\y=.int j/\C i j/\Q (gd i j) :=
 ⟨_,ho,λ{B F H σ δ ts x y v w Q Qd} c sx sy h k=>by
  obtain⟨i,j,rfl,rfl,hc,q⟩:=h
  cases sx;cases sy
  exact⟨i,j,rfl,rfl,hc,k _ _ _ q (af.refl _) (c.pushS (hg i j F H) (hp i j))⟩⟩
theorem mK{f:Value->Value->Sem Value}{g:Int->Int->V}{gd:Int->Int->D}(ho:cC X f (jN g))(hg:∀i j F H,S F H [gd i j] [g i j])(hp:∀i j,(gd i j).pl=true):bP X f λx y Q=>∃i j,x=.int i/\y=.int j/\Q (gd i j) :=
 ⟨_,ho,λ{B F H σ δ ts x y v w Q Qd} c sx sy h k=>by
  obtain⟨i,j,rfl,rfl,q⟩:=h
  cases sx;cases sy
  exact⟨i,j,rfl,rfl,k _ _ _ q (af.refl _) (c.pushS (hg i j F H) (hp i j))⟩⟩
theorem i9{o:Bool}{xs:List D}(s:S F H [.lst o xs] [v])(e:af F H):∃p ws,v=.ref p/\H p=some (.lst ws)/\S F H xs ws:=by
 cases s with
 | shr h r _=>exact⟨_,_,rfl,e _ _ h,r.s⟩
 | own h r _=>exact⟨_,_,rfl,h,r⟩
theorem k9{xs:List D}(s:S F H [.tup xs] [v]):∃p ws,v=.ref p/\H p=some (.tup ws)/\S F H xs ws:=by
 cases s with
 | tup h r _=>exact⟨_,_,rfl,h,r⟩
theorem lh{d:D}{xs:List D}(s:S F H [d] [v])(e:af F H)(h:i6 d=some xs):∃p ws,v=.ref p/\Rd H p (.lst ws)/\S F H xs ws:=by
 cases s with
 | shr h' r _=>cases h;exact⟨_,_,rfl,.inl (e _ _ h'),r.s⟩
 | own h' r _=>cases h;exact⟨_,_,rfl,.inl h',r⟩
 | fz h' r _=>cases h;exact⟨_,_,rfl,.inr ⟨_,e _ _ h'⟩,r.s⟩
 | au _=>cases h
 | bl _=>cases h
 | int _=>cases h
 | str _=>cases h
 | tup _ _ _=>cases h
 | obj _ _ _ _=>cases h
 | bx _ _=>cases h
theorem S.rep{xs:List D}{ws:List V}(s:S F H xs ws):∀k:Nat,S F H (aV k xs).flatten (aV k ws).flatten
 | 0=>by simpa using S.nil
 | k+1=>by
  rw[sY,sY,vC,vC]
  exact s.append (S.rep s k)
noncomputable def ot:cM:=λx y Q=>match x,y with
 | .int i,.int j=>Q (.int (i+j))
 | .str a,.str b=>a.length+b.length<=sizeLine/\Q (.str (a++b))
 | .lst _ xs,.lst _ ys=>(xs.length+ys.length<=sizeLine/\xs.all D.pl=true/\ys.all D.pl=true)/\Q (.lst true (xs++ys))
 | _,_=>False
theorem Ψ:bP X (binaryOp .Add) λx y Q=>∃o xs o' ys,x=.lst o xs/\y=.lst o' ys/\(xs.length+ys.length<=sizeLine/\xs.all D.pl=true/\ys.all D.pl=true)/\Q (.lst true (xs++ys)) :=
 ⟨_,KL,λ{B F H σ δ ts x y v w Q Qd} c sx sy h k=>by
  obtain⟨o,xs,o',ys,rfl,rfl,⟨hz,h1,h2⟩,q⟩:=h
  obtain⟨p,ws,rfl,e1,s1⟩:=i9 sx c.ext
  obtain⟨p',gP,rfl,e2,s2⟩:=i9 sy c.ext
  refine⟨p,p',ws,gP,rfl,rfl,e1,e2,by rw[<-s1.length,<- s2.length];exact hz,λr hr=>?_⟩
  exact k _ _ _ q (af.upd hr) (c.qH hr (s1.append s2) (by simp[h1,h2]))⟩
theorem Ω:bP X (binaryOp .Add) λx y Q=>∃i j,x=.str i/\y=.str j/\i.length+j.length<=sizeLine/\Q (.str (i++j)) :=
 ⟨_,Xl,λ{B F H σ δ ts x y v w Q Qd} c sx sy h k=>by
  obtain⟨i,j,rfl,rfl,hz,q⟩:=h
  cases sx;cases sy
  exact⟨i,j,rfl,rfl,hz,k _ _ _ q (af.refl _) (c.pushS (.str .nil) rfl)⟩⟩
theorem dw:bP X (binaryOp .Add) ot:=((mK (gd:=λi j=>.int (i+j)) W8 (λ_ _ _ _=>.int .nil) λ_ _=>rfl).or (Ω.or Ψ)).imp λx y Q h=>by
 unfold ot at h
 split at h
 ·exact .inl ⟨_,_,rfl,rfl,h⟩
 ·exact .inr (.inl ⟨_,_,rfl,rfl,h.1,h.2⟩)
 ·exact .inr (.inr ⟨_,_,_,_,rfl,rfl,h.1,h.2⟩)
 ·exact h.elim
noncomputable def iI(C:Int->Int->Prop)(g:Int->Int->D):cM:=λx y Q=>match x,y with
 | .int i,.int j=>C i j/\Q (g i j)
 | _,_=>False
noncomputable def gR(g:Int->Int->D):cM:=λx y Q=>match x,y with
 | .int i,.int j=>Q (g i j)
 | _,_=>False
theorem BR{f:Value->Value->Sem Value}{C:Int->Int->Prop}{g:Int->Int->D}(h:bP X f λx y Q=>∃i j,x=.int i/\y=.int j/\C i j/\Q (g i j)):bP X f (iI C g):=h.imp λx y Q h=>by
 unfold iI at h
 split at h
 ·exact⟨_,_,rfl,rfl,h.1,h.2⟩
 ·exact h.elim
theorem ou{f:Value->Value->Sem Value}{g:Int->Int->D}(h:bP X f λx y Q=>∃i j,x=.int i/\y=.int j/\Q (g i j)):bP X f (gR g):=h.imp λx y Q h=>by
 unfold gR at h
 split at h
 ·exact⟨_,_,rfl,rfl,h⟩
 ·exact h.elim
noncomputable def qZ:cM:=gR λi j=>.int (i-j)
theorem fi:bP X (binaryOp .Sub) qZ:=ou (mK Ez (λ_ _ _ _=>.int .nil) λ_ _=>rfl)
noncomputable def FC(_ j:Int):Prop:=0<j/\j.natAbs.log2<9000
theorem lj{i j:Int}(h1:0<j)(h2:j<1073741824):FC i j:=⟨h1,by
 have h:j.natAbs<2 ^ 30:=by omega
 have:=(Nat.log2_lt (show j.natAbs≠0 by omega)).mpr h
 omega⟩
theorem b67:cC X (binaryOp .FloorDiv) (rI FC λi j=>.int (i/j)):=yd λi j _ _ _ _ _ hc q =>
 floordiv_int (show j≠0 by have:=hc.1;omega) (by rw[Vy i (by have:=hc.1;omega)];exact q) (.inl (PyProof.noPylong_of_log2 hc.2))
noncomputable def q0:cM:=iI FC λi j=>.int (i/j)
theorem ly:bP X (binaryOp .FloorDiv) q0:=BR (yH b67 (λ_ _ _ _=>.int .nil) λ_ _=>rfl)
noncomputable def q8:cM:=iI (λ_ j=>0<j) λi j=>.int (i%j)
theorem cX:bP X (binaryOp .Mod) q8:=BR (yH W9 (λ_ _ _ _=>.int .nil) λ_ _=>rfl)
noncomputable def q9:cM:=iI Lj λi j=>.int (i*2 ^ j.toNat)
theorem wq:bP X (binaryOp .LShift) q9:=BR (yH Lk (λ_ _ _ _=>.int .nil) λ_ _=>rfl)
noncomputable def rh:cM:=iI (λ_ j=>0<=j) λi j=>.int (i/2 ^ j.toNat)
theorem LY:bP X (binaryOp .RShift) rh:=BR (yH Xa (λ_ _ _ _=>.int .nil) λ_ _=>rfl)
noncomputable def rj:cM:=gR λi j=>.int (pX i j)
theorem LZ:bP X (binaryOp .BitAnd) rj:=ou (mK Xb (λ_ _ _ _=>.int .nil) λ_ _=>rfl)
noncomputable def rk:cM:=gR λi j=>.int (pY i j)
theorem yI:bP X (binaryOp .BitXor) rk:=ou (mK Xc (λ_ _ _ _=>.int .nil) λ_ _=>rfl)
theorem b43:cC X (binaryOp .Mult) (rI IntMulOk λi j=>.int (i*j)):=yd λ_ _ _ _ _ _ _ hc q=>mul_int q hc
noncomputable def ow:cM:=λx y Q=>match x,y with
 | .int i,.int j=>IntMulOk i j/\Q (.int (i*j))
 | .lst _ xs,.int k=>(-(2 ^ 63)<=k/\k<2 ^ 63/\xs.length*k.toNat<=sizeLine/\xs.all D.pl=true)/\Q (.lst true (aV k.toNat xs).flatten)
 | _,_=>False
theorem cA1:bP X (binaryOp .Mult) λx y Q=>∃o xs k,x=.lst o xs/\y=.int k/\(-(2 ^ 63)<=k/\k<2 ^ 63/\xs.length*k.toNat<=sizeLine/\xs.all D.pl=true)/\Q (.lst true (aV k.toNat xs).flatten) :=
 ⟨_,Yw,λ{B F H σ δ ts x y v w Q Qd} c sx sy h k=>by
  obtain⟨o,xs,n,rfl,rfl,⟨b1,b2,hz,h1⟩,q⟩:=h
  obtain⟨p,ws,rfl,e1,s1⟩:=i9 sx c.ext
  cases sy
  refine⟨p,n,ws,rfl,rfl,e1,b1,b2,by rw[<-s1.length];exact hz,λr hr=>?_⟩
  refine k _ _ _ q (af.upd hr) (c.qH hr (s1.rep _) ?_)
  rw[dy]
  intro x hx
  obtain⟨l,hl,rm⟩:=List.mem_flatten.mp hx
  rw[(s9.mp hl).2]at rm
  exact dy.mp h1 x rm⟩
theorem gU:bP X (binaryOp .Mult) ow:=((yH (gd:=λi j=>.int (i*j)) b43 (λ_ _ _ _=>.int .nil) λ_ _=>rfl).or cA1).imp λx y Q h=>by
 unfold ow at h
 split at h
 ·exact .inl ⟨_,_,rfl,rfl,h.1,h.2⟩
 ·exact .inr ⟨_,_,_,rfl,rfl,h.1,h.2⟩
 ·exact h.elim
theorem cr4:bP X (inplaceOp .Add) (gR λi j=>.int (i+j)):=ou (mK Xd (λ_ _ _ _=>.int .nil) λ_ _=>rfl)
theorem BS:bP X (inplaceOp .BitXor) (gR λi j=>.int (pY i j)):=ou (mK Xe (λ_ _ _ _=>.int .nil) λ_ _=>rfl)
noncomputable def rn:cM:=gR λi j=>.bl (decide (i<j))
noncomputable def rp:cM:=gR λi j=>.bl (decide (i<=j))
noncomputable def rq:cM:=gR λi j=>.bl (decide (j<i))
noncomputable def rz:cM:=gR λi j=>.bl (decide (j<=i))
theorem oy:bP X (compareOp .Lt) rn:=ou (mK Kf (λ_ _ _ _=>.bl .nil) λ_ _=>rfl)
theorem kE:bP X (compareOp .LtE) rp:=ou (mK Xf (λ_ _ _ _=>.bl .nil) λ_ _=>rfl)
theorem wu:bP X (compareOp .Gt) rq:=ou (mK Kg (λ_ _ _ _=>.bl .nil) λ_ _=>rfl)
theorem cG5:bP X (compareOp .GtE) rz:=ou (mK Xg (λ_ _ _ _=>.bl .nil) λ_ _=>rfl)
noncomputable def lC:D->Bool
 | .au=>true
 | _=>false
noncomputable def oA:cM:=λx y Q=>match y with
 | .au=>Q (.bl (lC x))
 | _=>False
noncomputable def oB:cM:=λx y Q=>match y with
 | .au=>Q (.bl (!lC x))
 | _=>False
theorem L4{d:D}(s:S F H [d] [v]):decide (v=.au)=lC d:=by cases s<;>simp[lC]
theorem cG7:bP X (compareOp .Is) oA:=⟨_,Xh,λ{B F H σ δ ts x y v w Q Qd} c sx sy h k=>by
 unfold oA at h
 split at h
 ·cases sy
  refine⟨rfl,?_⟩
  rw[L4 sx]
  exact k _ _ _ h (af.refl _) (c.pushS (.bl .nil) rfl)
 ·exact h.elim⟩
theorem cy5:bP X (compareOp .IsNot) oB:=⟨_,Xi,λ{B F H σ δ ts x y v w Q Qd} c sx sy h k=>by
 unfold oB at h
 split at h
 ·cases sy
  refine⟨rfl,?_⟩
  rw[L4 sx]
  exact k _ _ _ h (af.refl _) (c.pushS (.bl .nil) rfl)
 ·exact h.elim⟩
noncomputable def bH:D->D->Bool
 | .au,.au=>true
 | .bl a,.bl b=>a==b
 | .bl a,.int b=>(if a then 1 else 0)==b
 | .int a,.bl b=>a==(if b then 1 else 0)
 | .int a,.int b=>a==b
 | .str a,.str b=>a==b
 | .lst _ xs,.lst _ ys=>gh xs ys
 | .tup xs,.tup ys=>gh xs ys
 | _,_=>false
where gh:List D->List D->Bool
 | [],[]=>true
 | x::xs,y::ys=>bH x y&&gh xs ys
 | _,_=>false
noncomputable def eA:Nat->D->Bool
 | _,.au=>true
 | _,.bl _=>true
 | _,.int _=>true
 | _,.str _=>true
 | n+1,.lst _ xs=>xs.all (eA n)
 | n+1,.tup xs=>xs.all (eA n)
 | _,_=>false
theorem FD:∀(xs ys:List D),xs.length=ys.length->bH.gh xs ys=(aL xs.length).all λj=>bH (xs.getD j .au) (ys.getD j .au)
 | [],[],_=>rfl
 | x::xs,y::ys,h=>by
  rw[gH,VJ,de,nB]
  show(bH x y&&bH.gh xs ys)=_
  rw[FD xs ys (by simpa using h)]
  rfl
theorem FE:∀(xs ys:List D),xs.length≠ys.length->bH.gh xs ys=false
 | [],[],h=>absurd rfl h
 | [],_::_,_=>rfl
 | _::_,[],_=>rfl
 | x::xs,y::ys,h=>by
  show(bH x y&&bH.gh xs ys)=false
  rw[FE xs ys (by simpa using h),Bool.and_false]
noncomputable def ofV:V->D
 | .bl b=>.bl b
 | .int i=>.int i
 | .str z=>.str z
 | _=>.au
theorem yJ{x:D}{v:V}(h:eA 0 x=true)(s:S F H [x] [v]):x=ofV v:=by
 cases s with
 | au _=>rfl
 | bl _=>rfl
 | int _=>rfl
 | str _=>rfl
 | _=>cases h
theorem L5{x:D}(h:eA 0 x=true):bH x x=true:=by
 cases x with
 | au=>rfl
 | bl b=>exact beq_self_eq_true b
 | int i=>exact beq_self_eq_true i
 | str z=>exact beq_self_eq_true z
 | _=>cases h
theorem rA{n:Nat}{x:D}(h:eA (n+1) x=true):eA 0 x=true\/(∃o xs,x=.lst o xs/\xs.all (eA n)=true)\/∃xs,x=.tup xs/\xs.all (eA n)=true:=by
 cases x with
 | lst o xs=>exact .inr (.inl ⟨o,xs,rfl,h⟩)
 | tup xs=>exact .inr (.inr ⟨xs,rfl,h⟩)
 | obj _ _ _=>exact absurd h jf
 | fz _=>exact absurd h jf
 | bx _=>exact absurd h jf
 | _=>exact .inl rfl
theorem BU{x:D}{p:Addr}(h:eA 0 x=true)(s:S F H [x] [.ref p]):False:=by
 rw[yJ h s]at s
 cases s
theorem L6:∀(n:Nat) {xs ys:List D} {vs:List V},xs.all (eA n)=true->ys.all (eA n)=true->S F H xs vs->S F H ys vs->af F H->bH.gh xs ys=true:=by
 intro n xs
 induction n generalizing xs with
 | zero =>
  induction xs with
  | nil=>intro ys vs _ _ s1 s2 _;cases s1;cases s2;rfl
  | cons x xs ih =>
   intro ys vs h1 h2 s1 s2 e
   obtain⟨v,bK,rfl,q1,r1⟩:=s1.cH
   cases ys with
   | nil=>cases s2
   | cons y ys =>
    obtain⟨v',Fl,ee,q2,r2⟩:=s2.cH
    obtain⟨rfl,rfl⟩:=mi ee
    rw[de,eU]at h1 h2
    show(bH x y&&bH.gh xs ys)=true
    rw[ih h1.2 h2.2 r1 r2 e,kn,yJ h2.1 q2,<- yJ h1.1 q1]
    exact L5 h1.1
 | succ n L7 =>
  induction xs with
  | nil=>intro ys vs _ _ s1 s2 _;cases s1;cases s2;rfl
  | cons x xs ih =>
   intro ys vs h1 h2 s1 s2 e
   obtain⟨v,bK,rfl,q1,r1⟩:=s1.cH
   cases ys with
   | nil=>cases s2
   | cons y ys =>
    obtain⟨v',Fl,ee,q2,r2⟩:=s2.cH
    obtain⟨rfl,rfl⟩:=mi ee
    rw[de,eU]at h1 h2
    show(bH x y&&bH.gh xs ys)=true
    rw[ih h1.2 h2.2 r1 r2 e,kn]
    have h1:=h1.1
    have h2:=h2.1
    clear ih r1 r2 s1 s2
    rcases rA h1 with k1 | ⟨o1,a1,rfl,k1⟩ | ⟨a1,rfl,k1⟩
    ·rcases rA h2 with k2 | ⟨o2,a2,rfl,k2⟩ | ⟨a2,rfl,k2⟩
     ·rw[yJ k2 q2,<- yJ k1 q1]
      exact L5 k1
     ·obtain⟨p,ws,rfl,_⟩:=i9 q2 e
      exact(BU k1 q1).elim
     ·obtain⟨p,ws,rfl,_⟩:=k9 q2
      exact(BU k1 q1).elim
    ·obtain⟨p,ws,rfl,e1,t1⟩:=i9 q1 e
     rcases rA h2 with k2 | ⟨o2,a2,rfl,k2⟩ | ⟨a2,rfl,k2⟩
     ·exact(BU k2 q2).elim
     ·obtain⟨p2,FF,ev,e2,t2⟩:=i9 q2 e
      cases ev
      cases e1.symm.trans e2
      exact L7 k1 k2 t1 t2 e
     ·obtain⟨p2,FF,ev,e2,t2⟩:=k9 q2
      cases ev
      cases e1.symm.trans e2
    ·obtain⟨p,ws,rfl,e1,t1⟩:=k9 q1
     rcases rA h2 with k2 | ⟨o2,a2,rfl,k2⟩ | ⟨a2,rfl,k2⟩
     ·exact(BU k2 q2).elim
     ·obtain⟨p2,FF,ev,e2,t2⟩:=i9 q2 e
      cases ev
      cases e1.symm.trans e2
     ·obtain⟨p2,FF,ev,e2,t2⟩:=k9 q2
      cases ev
      cases e1.symm.trans e2
      exact L7 k1 k2 t1 t2 e
end
end L3
namespace L3
open PySem L2 PySem.Spec PyProof.Rows
structure L8(A:Around)(s:Shared)(u w:Value)(b:Bool):Prop where
 rc:SeqAt.RcAt A s u w b
 ne:SeqAt.RcNeAt A s u w (!b)
 eq:DJ A s u w b
section
variable{X:Cx}{F H:Hp}{v w:V}
theorem L9{xs:List V}{us:List Value}(r:Vals xs us){j:Nat}(h:j<us.toArray.size):∃x,xs[j]?=some x/\RelV x us.toArray[j]:=by
 have l:=r.length
 have hj:j<xs.length:=by rw[l];simpa using h
 obtain⟨u,e,q⟩:=r.get (aM hj)
 obtain⟨_,z⟩:=km.mp e
 refine⟨_,aM hj,?_⟩
 have:us.toArray[j]=u:=by simpa using z
 rw[this];exact q
theorem Ma{xs:List D}{j:Nat}{d:D}(h:xs[j]?=some d):xs.getD j .au=d:=by rw[aN,h];rfl
theorem wz{x:D}{v:V}{u:Value}(h:eA 0 x=true)(s:S F H [x] [v])(r:RelV v u):(x=.au/\u=.none)\/(∃b,x=.bl b/\u=.bool b)\/(∃i t,x=.int i/\u=.int i t)\/∃z t,x=.str z/\u=.str z t:=by
 cases s with
 | au _=>cases r;exact .inl ⟨rfl,rfl⟩
 | bl _=>cases r;exact .inr (.inl ⟨_,rfl,rfl⟩)
 | int _=>obtain⟨t,rfl⟩:=r;exact .inr (.inr (.inl ⟨_,t,rfl,rfl⟩))
 | str _=>obtain⟨t,rfl⟩:=r;exact .inr (.inr (.inr ⟨_,t,rfl,rfl⟩))
 | _=>exact absurd h jf
theorem Mb{x y:D}{u u':Value}{A:Around}{s:Shared}(h1:(x=.au/\u=.none)\/(∃b,x=.bl b/\u=.bool b)\/(∃i t,x=.int i/\u=.int i t)\/∃z t,x=.str z/\u=.str z t)(h2:(y=.au/\u'=.none)\/(∃b,y=.bl b/\u'=.bool b)\/(∃i t,y=.int i/\u'=.int i t)\/∃z t,y=.str z/\u'=.str z t):L8 A s u u' (bH x y):=by
 rcases h1 with⟨rfl,rfl⟩ | ⟨a,rfl,rfl⟩ | ⟨a,t,rfl,rfl⟩ | ⟨a,t,rfl,rfl⟩<;>rcases h2 with⟨rfl,rfl⟩ | ⟨b,rfl,rfl⟩ | ⟨b,t',rfl,rfl⟩ | ⟨b,t',rfl,rfl⟩
 ·exact⟨.none_none,.none_none,.same _⟩
 ·exact⟨.none_bool _,.none_bool _,.none_bool _⟩
 ·exact⟨.none_int _ _,.none_int _ _,.none_int _ _⟩
 ·exact⟨.none_str _ _,.none_str _ _,.none_str _ _⟩
 ·exact⟨.bool_none _,.bool_none _,.bool_none _⟩
 ·exact⟨.bool_bool _ _,.bool_bool _ _,.bool_bool _ _⟩
 ·exact⟨.bool_int _ _ _,.bool_int _ _ _,.bool_int _ _ _⟩
 ·exact⟨.bool_str _ _ _,.bool_str _ _ _,.bool_str _ _ _⟩
 ·exact⟨.int_none _ _,.int_none _ _,.int_none _ _⟩
 ·exact⟨.int_bool _ _ _,.int_bool _ _ _,.int_bool _ _ _⟩
 ·exact⟨.int_int _ _ _ _,.int_int _ _ _ _,.int_int _ _ _ _⟩
 ·exact⟨.int_str _ _ _ _,.int_str _ _ _ _,.int_str _ _ _ _⟩
 ·exact⟨.str_none _ _,.str_none _ _,.str_none _ _⟩
 ·exact⟨.str_bool _ _ _,.str_bool _ _ _,.str_bool _ _ _⟩
 ·exact⟨.str_int _ _ _ _,.str_int _ _ _ _,.str_int _ _ _ _⟩
 ·exact⟨.str_str _ _ _ _,.str_str _ _ _ _,.str_str _ _ _ _⟩
theorem Mc{pins:List (Addr × Obj)}{σ:L2.St}{s:Shared}(I:Inv X pins σ H s)(e:af F H):∀(n:Nat) (x y:D) (v w:V) (u u':Value) (A:Around),eA n x=true->eA n y=true->S F H [x] [v]->S F H [y] [w]->RelV v u->RelV w u' ->
  A.units+n<cLine->L8 A s u u' (bH x y):=by
 intro n
 induction n with
 | zero =>
  intro x y v w u u' A hx hy sx sy rv gv hu
  exact Mb (wz hx sx rv) (wz hy sy gv)
 | succ n ih =>
  intro x y v w u u' A hx hy sx sy rv gv hu
  have bt:A.units<cLine:=nv (Nat.le_add_right ..) hu
  have Md:A.in1.units+n<cLine:=by show A.units+1+n<cLine;rw[DW,xE 1];exact hu
  have items:∀{xs ys:List D} {vs ws:List V} {us wA:List Value},xs.all (eA n)=true->ys.all (eA n)=true->S F H xs vs->S F H ys ws->Vals vs us->Vals ws wA ->
    ∀j (h1:j<us.toArray.size) (h2:j<wA.toArray.size),DJ A.in1 s us.toArray[j] wA.toArray[j] (bH (xs.getD j .au) (ys.getD j .au)):=by
   intro xs ys vs ws us wA hx hy sx sy r1 r2 j h1 h2
   obtain⟨a,e1,q1⟩:=L9 r1 h1
   obtain⟨b,e2,q2⟩:=L9 r2 h2
   obtain⟨d1,g1,t1⟩:=sx.get' e1
   obtain⟨d2,g2,t2⟩:=sy.get' e2
   rw[Ma g1,Ma g2]
   exact(ih d1 d2 a b _ _ A.in1 (dy.mp hx d1 (vB g1)) (dy.mp hy d2 (vB g2)) t1 t2 q1 q2 Md).eq
  clear ih hu Md
  rcases rA hx with k1 | ⟨o,xs,rfl,k1⟩ | ⟨xs,rfl,k1⟩
  ·have f:=wz k1 sx rv
   rcases rA hy with k2 | ⟨o',ys,rfl,k2⟩ | ⟨ys,rfl,k2⟩
   ·exact Mb f (wz k2 sy gv)
   ·obtain⟨p',gP,rfl,e2,t2⟩:=i9 sy e
    cases gv
    obtain⟨lD,r2,p2,z2⟩:=I.list (bG.of (K:=X.K) e2)
    have p2:=p2.isList
    rcases f with⟨rfl,rfl⟩ | ⟨a,rfl,rfl⟩ | ⟨a,t,rfl,rfl⟩ | ⟨a,t,rfl,rfl⟩
    ·exact⟨.none_list p2 bt,.none_list p2 bt,.none_list p2 bt⟩
    ·exact⟨.bool_list _ p2 bt,.bool_list _ p2 bt,.bool_list _ p2 bt⟩
    ·exact⟨.int_list _ _ p2 bt,.int_list _ _ p2 bt,.int_list _ _ p2 bt⟩
    ·exact⟨.str_list _ _ p2 bt,.str_list _ _ p2 bt,.str_list _ _ p2 bt⟩
   ·obtain⟨p',gP,rfl,e2,t2⟩:=k9 sy
    cases gv
    obtain⟨lD,r2,p2,z2⟩:=I.tuple (iz.of (K:=X.K) e2)
    rcases f with⟨rfl,rfl⟩ | ⟨a,rfl,rfl⟩ | ⟨a,t,rfl,rfl⟩ | ⟨a,t,rfl,rfl⟩
    ·exact⟨.none_tuple p2 bt,.none_tuple p2 bt,.none_tuple p2 bt⟩
    ·exact⟨.bool_tuple _ p2 bt,.bool_tuple _ p2 bt,.bool_tuple _ p2 bt⟩
    ·exact⟨.int_tuple _ _ p2 bt,.int_tuple _ _ p2 bt,.int_tuple _ _ p2 bt⟩
    ·exact⟨.str_tuple _ _ p2 bt,.str_tuple _ _ p2 bt,.str_tuple _ _ p2 bt⟩
  ·obtain⟨p,ws,rfl,e1,t1⟩:=i9 sx e
   cases rv
   obtain⟨its,r1,p1,z1⟩:=I.list (bG.of (K:=X.K) e1)
   have p1:=p1.isList
   rcases rA hy with k2 | ⟨o',ys,rfl,k2⟩ | ⟨ys,rfl,k2⟩
   ·rcases wz k2 sy gv with⟨rfl,rfl⟩ | ⟨a,rfl,rfl⟩ | ⟨a,t,rfl,rfl⟩ | ⟨a,t,rfl,rfl⟩
    ·exact⟨.list_none p1 bt,.list_none p1 bt,.list_none p1 bt⟩
    ·exact⟨.list_bool _ p1 bt,.list_bool _ p1 bt,.list_bool _ p1 bt⟩
    ·exact⟨.list_int _ _ p1 bt,.list_int _ _ p1 bt,.list_int _ _ p1 bt⟩
    ·exact⟨.list_str _ _ p1 bt,.list_str _ _ p1 bt,.list_str _ _ p1 bt⟩
   ·obtain⟨p',gP,rfl,e2,t2⟩:=i9 sy e
    cases gv
    obtain⟨lD,r2,p2,z2⟩:=I.list (bG.of (K:=X.K) e2)
    have p2:=p2.isList
    have ud:xs.length=its.length:=t1.length.trans r1.length
    have wB:ys.length=lD.length:=t2.length.trans r2.length
    by_cases hl:xs.length=ys.length
    ·have mq:its.toArray.size=lD.toArray.size:=by rw[dU,dU,<- ud,<- wB];exact hl
     have ev:(aL its.toArray.size).all (λj=>bH (xs.getD j .au) (ys.getD j .au))=bH (.lst o xs) (.lst o' ys):=by
      show _=bH.gh xs ys
      rw[FD xs ys hl,dU,<- ud]
     have a:=SeqAt.RcAt.lists (e:=λj=>bH (xs.getD j .au) (ys.getD j .au)) p1 p2 mq bt (items k1 k2 t1 t2 r1 r2)
     have b:=SeqAt.RcNeAt.lists (e:=λj=>bH (xs.getD j .au) (ys.getD j .au)) p1 p2 mq bt (items k1 k2 t1 t2 r1 r2)
     rw[ev]at a b
     refine⟨a,b,?_⟩
     by_cases ue:p=p'
     ·subst ue
      cases e1.symm.trans e2
      rw[show bH (.lst o xs) (.lst o' ys)=true from L6 n k1 k2 t1 t2 e]
      exact .same _
     ·exact .of_refs ue a
    ·have mq:(its.toArray.size != lD.toArray.size)=true:=bne_iff_ne.mpr (by rw[dU,dU,<- ud,<- wB];exact hl)
     rw[show bH (.lst o xs) (.lst o' ys)=false from FE xs ys hl]
     have a:=SeqAt.RcAt.lists_lengths p1 p2 mq bt
     refine⟨a,SeqAt.RcNeAt.lists_lengths p1 p2 mq bt,.of_refs (λue=>?_) a⟩
     subst ue
     cases e1.symm.trans e2
     exact hl (t1.length.trans t2.length.symm)
   ·obtain⟨p',gP,rfl,e2,t2⟩:=k9 sy
    cases gv
    obtain⟨lD,r2,p2,z2⟩:=I.tuple (iz.of (K:=X.K) e2)
    exact⟨.list_tuple p1 p2 bt,.list_tuple p1 p2 bt,.list_tuple p1 p2 bt⟩
  ·obtain⟨p,ws,rfl,e1,t1⟩:=k9 sx
   cases rv
   obtain⟨its,r1,p1,z1⟩:=I.tuple (iz.of (K:=X.K) e1)
   rcases rA hy with k2 | ⟨o',ys,rfl,k2⟩ | ⟨ys,rfl,k2⟩
   ·rcases wz k2 sy gv with⟨rfl,rfl⟩ | ⟨a,rfl,rfl⟩ | ⟨a,t,rfl,rfl⟩ | ⟨a,t,rfl,rfl⟩
    ·exact⟨.tuple_none p1 bt,.tuple_none p1 bt,.tuple_none p1 bt⟩
    ·exact⟨.tuple_bool _ p1 bt,.tuple_bool _ p1 bt,.tuple_bool _ p1 bt⟩
    ·exact⟨.tuple_int _ _ p1 bt,.tuple_int _ _ p1 bt,.tuple_int _ _ p1 bt⟩
    ·exact⟨.tuple_str _ _ p1 bt,.tuple_str _ _ p1 bt,.tuple_str _ _ p1 bt⟩
   ·obtain⟨p',gP,rfl,e2,t2⟩:=i9 sy e
    cases gv
    obtain⟨lD,r2,p2,z2⟩:=I.list (bG.of (K:=X.K) e2)
    have p2:=p2.isList
    exact⟨.tuple_list p1 p2 bt,.tuple_list p1 p2 bt,.tuple_list p1 p2 bt⟩
   ·obtain⟨p',gP,rfl,e2,t2⟩:=k9 sy
    cases gv
    obtain⟨lD,r2,p2,z2⟩:=I.tuple (iz.of (K:=X.K) e2)
    have ud:xs.length=its.length:=t1.length.trans r1.length
    have wB:ys.length=lD.length:=t2.length.trans r2.length
    have ev:((aL (min its.toArray.size lD.toArray.size)).all (λj=>bH (xs.getD j .au) (ys.getD j .au))&&its.toArray.size==lD.toArray.size)=bH (.tup xs) (.tup ys):=by
     show _=bH.gh xs ys
     rw[dU,dU,<- ud,<- wB]
     by_cases hl:xs.length=ys.length
     ·rw[FD xs ys hl,<- hl,AI,beq_self_eq_true,kn]
     ·rw[FE xs ys hl,beq_false_of_ne hl,Bool.and_false]
    have a:=SeqAt.RcAt.tuples (e:=λj=>bH (xs.getD j .au) (ys.getD j .au)) p1 p2 bt (items k1 k2 t1 t2 r1 r2)
    have b:=SeqAt.RcNeAt.tuples (e:=λj=>bH (xs.getD j .au) (ys.getD j .au)) p1 p2 bt (items k1 k2 t1 t2 r1 r2)
    rw[ev]at a b
    refine⟨a,b,?_⟩
    by_cases ue:p=p'
    ·subst ue
     cases e1.symm.trans e2
     rw[show bH (.tup xs) (.tup ys)=true from L6 n k1 k2 t1 t2 e]
     exact .same _
    ·exact .of_refs ue a
noncomputable def rB:cM:=λx y Q=>(eA 6 x=true/\eA 6 y=true)/\Q (.bl (bH x y))
noncomputable def rC:cM:=λx y Q=>(eA 6 x=true/\eA 6 y=true)/\Q (.bl (!bH x y))
theorem fQ(hu:X.A.units+6<cLine):bP X (compareOp .Eq) rB:=bP.of λpins s σ H v w u u' Q I rv gv zz=>by
 obtain⟨B,F,aF,δ,ts,x,y,Qd,c,sx,sy,⟨⟨hx,hy⟩,q⟩,k⟩:=zz
 exact(Mc I c.ext 6 x y v w u u' X.A hx hy sx sy rv gv hu).rc _ _ _ _ ⟨.bl _,H,I,rfl,k _ _ _ q (af.refl _) (c.pushS (.bl .nil) rfl)⟩
theorem jc(hu:X.A.units+6<cLine):bP X (compareOp .NotEq) rC:=bP.of λpins s σ H v w u u' Q I rv gv zz=>by
 obtain⟨B,F,aF,δ,ts,x,y,Qd,c,sx,sy,⟨⟨hx,hy⟩,q⟩,k⟩:=zz
 exact(Mc I c.ext 6 x y v w u u' X.A hx hy sx sy rv gv hu).ne _ _ _ _ ⟨.bl _,H,I,rfl,k _ _ _ q (af.refl _) (c.pushS (.bl .nil) rfl)⟩
end
end L3
namespace L3
open PySem L2 PySem.Spec PyProof.Rows
section
variable{X:Cx}{F H:Hp}{v w:V}{e a b c o:Expr}{es:List Expr}{pos p p2 apos cj:Pos}{t ta tb tc te:aO}{tr:cm}{x:Str}
theorem bZ0{r r':R2}{rd yK:cM}(hl:BJ r rd)(Eh:BJ r' yK):∀σ H Q,lE (nY rd yK ta tb tc) σ H Q->Ki r r' (lB ta) (lB tb) (lB tc) σ H Q:=λσ H Q ⟨B,F,δ,ts,Qd,c,q,k⟩ =>
 ⟨B,F,δ,ts,_,c,q,λx aj v F1 H1 q1 f1 h1 c1 s1=>⟨B,F1,aj,ts,_,c1,q1,λy a7 w F2 H2 q2 f2 h2 c2 s2=>by
  refine hl c2 (s1.mono f2 h2) s2 q2 λd z H' hd hs c3=>?_
  obtain⟨b,rfl,qb⟩:=hd
  have st:=c3.top
  cases st with
  | bl _ =>
   refine⟨b,rfl,?_⟩
   cases b with
   | true =>
    refine qy ⟨B,F2,a7,ts,_,c3.pop,by simpa using qb,λz iZ w3 F3 H3 q3 f3 h3 c4 s3=>?_⟩
    exact Eh c4 (s2.mono f3 (hs.trans h3)) s3 q3 λd z H' hd hs' c5=>k d iZ z F3 H' hd ((f1.trans f2).trans f3) ((((h1.trans h2).trans hs).trans h3).trans hs') c5
   | false=>exact iY (k _ a7 _ F2 H' (by simpa using qb) (f1.trans f2) ((h1.trans h2).trans hs) (c3.pop.pushS (.bl .nil) rfl))⟩⟩
theorem uf{op tQ:CmpOp}{rd yK:cM}(ho:bP X (compareOp op) rd)(kS:bP X (compareOp tQ) yK)(ha:PE X a (lB ta))(hb:PE X b (lB tb))(hc:PE X c (lB tc))
  (hm:lastMarks [op,tQ] [b,c]=false:=by with_unfolding_all rfl):PE X (.Compare a [op,tQ] [b,c] pos) (lE (nY rd yK ta tb tc)):=by
 obtain⟨r,h1,h2⟩:=ho
 obtain⟨r',kA,jR⟩:=kS
 exact dF (Xk h1 kA ha hb hc hm) (bZ0 h2 jR)
noncomputable def ug(t:aO):aO:=λδ Q=>t δ λd ah=>match d with
 | .int i=>Q (.int (-i)) ah
 | _=>False
noncomputable abbrev jv:=List D->(D->Prop)->Prop
noncomputable def lc(rd:jv):List V->Hp->VK->Prop:=λvs H Q=>∃B F σ δ ts ds Qd,ak B F H σ δ ts/\S F H ds vs/\rd ds Qd/\∀d z H',Qd d->af H H'->ak B F H' σ δ ((d,z)::ts)->Q z H'
noncomputable def gz(X:Cx)(f:Value)(rd:jv):Prop:=gu X f (lc rd)
theorem gz.of{f:Value}{r:List V->Hp->VK->Prop}{rd:jv}(h:gu X f r)(m:∀vs H Q,lc rd vs H Q->r vs H Q):gz X f rd:=λpins s σ H xs us Q I r q=>h pins s σ H xs us Q I r (m xs H Q q)
noncomputable def mL(rd:jv)(t:cm):aO:=λδ Q=>t δ λds ah=>rd ds λd=>Q d ah
theorem Me{rd:jv}:∀σ H Q,lE (mL rd tr) σ H Q->EF (lc rd) (lA tr) σ H Q:=λσ H Q zq=>by
 obtain⟨B,F,δ,ts,Qd,c,q,k⟩:=zq
 exact⟨B,F,δ,ts,_,c,q,λds aj vs F1 H1 q1 f1 h1 c1 s1 =>
 ⟨B,F1,σ,aj,ts,ds,_,c1,s1,q1,λd z H' hd hs c'=>k d aj z F1 H' hd f1 (h1.trans hs) c'⟩⟩
theorem eH{id:String}{rd:jv}(hc:gz X (.builtin id) rd)(hg:Gl X x)(hm:X.mg x=none)(hv:bootBuiltins x=some (.builtin id))(ha:PA X (e::es) (lA tr))(hn:x≠"__name__":=by decide)(cS:(x==("__debug__":Str))=false:=by decide)
  (he:starEach (e::es) X.env=(false,eval e X.env)::starEach es X.env:=by rfl) (bu:(backTo pos (starEach es X.env)).any (·.1)=false:=by rfl):PE X (.Call (.Name x p) (e::es) [] pos) (lE (mL rd tr)) :=
 dF (Bq hc hg hm hv ha hn cS he bu) Me
theorem FG{T:String}{rd:jv}(hc:gz X (.type T) rd)(hg:Gl X x)(hm:X.mg x=none)(hv:bootBuiltins x=some (.type T))(ha:PA X (e::es) (lA tr))(hn:x≠"__name__":=by decide)(cS:(x==("__debug__":Str))=false:=by decide)
  (he:starEach (e::es) X.env=(false,eval e X.env)::starEach es X.env:=by rfl) (bu:(backTo pos (starEach es X.env)).any (·.1)=false:=by rfl):PE X (.Call (.Name x p) (e::es) [] pos) (lE (mL rd tr)) :=
 dF (XX hc hg hm hv ha hn cS he bu) Me
theorem kF{d:D}{vs:List V}(s:S F H [d] vs):∃v,vs=[v]/\S F H [d] [v]:=by
 obtain⟨v,bK,rfl,h1,h2⟩:=s.cH
 cases h2
 exact⟨v,rfl,h1⟩
theorem cA0{d d':D}{vs:List V}(s:S F H [d,d'] vs):∃v v',vs=[v,v']/\S F H [d] [v]/\S F H [d'] [v']:=by
 obtain⟨v,bK,rfl,h1,h2⟩:=s.cH
 obtain⟨v',rfl,h3⟩:=kF h2
 exact⟨v,v',rfl,h1,h3⟩
theorem jZ{K:PySem.W.Frag}{p:Addr}{ws:List V}(h:Rd H p (.lst ws)):bG K H p ws:=.inl h
noncomputable def oE:jv:=λds Q=>match ds with
 | [.lst _ xs]=>Q (.int xs.length)
 | [.fz xs]=>Q (.int xs.length)
 | [.tup xs]=>Q (.int xs.length)
 | [.str z]=>z.length<=sizeLine/\Q (.int z.length)
 | _=>False
theorem ib:gz X (.builtin "len") oE:=gz.of (KC.or Yk) λvs H Q zz=>by
 obtain⟨B,F,σ,δ,ts,ds,Qd,c,s,q,k⟩:=zz
 unfold oE at q
 split at q
 ·obtain⟨v,rfl,s1⟩:=kF s
  obtain⟨p,ws,rfl,h,t⟩:=lh s1 c.ext rfl
  refine .inl ⟨p,ws,rfl,.inl (jZ h),?_⟩
  rw[<-t.length]
  exact k _ _ _ q (af.refl _) (c.pushS (.int .nil) rfl)
 ·obtain⟨v,rfl,s1⟩:=kF s
  obtain⟨p,ws,rfl,h,t⟩:=lh s1 c.ext rfl
  refine .inl ⟨p,ws,rfl,.inl (jZ h),?_⟩
  rw[<-t.length]
  exact k _ _ _ q (af.refl _) (c.pushS (.int .nil) rfl)
 ·obtain⟨v,rfl,s1⟩:=kF s
  obtain⟨p,ws,rfl,h,t⟩:=k9 s1
  refine .inl ⟨p,ws,rfl,.inr (iz.of h),?_⟩
  rw[<-t.length]
  exact k _ _ _ q (af.refl _) (c.pushS (.int .nil) rfl)
 ·obtain⟨v,rfl,s1⟩:=kF s
  cases s1
  exact .inr ⟨_,rfl,q.1,k _ _ _ q.2 (af.refl _) (c.pushS (.int .nil) rfl)⟩
 ·exact q.elim
noncomputable def oF:jv:=λds Q=>match ds with
 | [.lst _ xs]=>xs.all D.pl=true/\Q (.lst true xs)
 | [.fz xs]=>Q (.lst true xs)
 | [.tup xs]=>xs.all D.pl=true/\Q (.lst true xs)
 | _=>False
theorem FH:gz X (.type "list") oF:=gz.of Yl λvs H Q zz=>by
 obtain⟨B,F,σ,δ,ts,ds,Qd,c,s,q,k⟩:=zz
 unfold oF at q
 split at q
 ·obtain⟨v,rfl,s1⟩:=kF s
  obtain⟨p,ws,rfl,h,t⟩:=lh s1 c.ext rfl
  exact⟨p,ws,rfl,.inl (jZ h),λl hl=>k _ _ _ q.2 (af.upd hl) (c.qH hl t q.1)⟩
 ·obtain⟨v,rfl,s1⟩:=kF s
  cases s1 with
  | fz h r _=>exact⟨_,_,rfl,.inl (jZ (.inr ⟨_,c.ext _ _ h⟩)),λl hl=>k _ _ _ q (af.upd hl) (c.qH hl r.s r.pl)⟩
 ·obtain⟨v,rfl,s1⟩:=kF s
  obtain⟨p,ws,rfl,h,t⟩:=k9 s1
  exact⟨p,ws,rfl,.inr (iz.of h),λl hl=>k _ _ _ q.2 (af.upd hl) (c.qH hl t q.1)⟩
 ·exact q.elim
noncomputable def ii(g:Int->Int->Int):jv:=λds Q=>match ds with
 | [.int i,.int j]=>Q (.int (g i j))
 | _=>False
theorem cA3{f:Value}{g:Int->Int->Int}(h:gu X f (λxs H Q=>∃i j,xs=[.int i,.int j]/\Q (.int (g i j)) H)):gz X f (ii g):=gz.of h λvs H Q zz=>by
 obtain⟨B,F,σ,δ,ts,ds,Qd,c,s,q,k⟩:=zz
 unfold ii at q
 split at q
 ·obtain⟨v,v',rfl,s1,s2⟩:=cA0 s
  cases s1;cases s2
  exact⟨_,_,rfl,k _ _ _ q (af.refl _) (c.pushS (.int .nil) rfl)⟩
 ·exact q.elim
theorem cC6(hc:X.calm=true):gz X (.builtin "min") (ii λi j=>if j<i then j else i):=cA3 (Xn hc)
noncomputable def oG(bs:List Bool):List D:=bs.map D.bl
theorem FI:∀{bs:List Bool} {ws:List V},S F H (oG bs) ws->ws=bs.map V.bl
 | [],_,s=>by cases s;rfl
 | b::bs,_,s=>by
  cases s with
  | bl s=>rw[FI s];rfl
noncomputable def oH:jv:=λds Q=>match ds with
 | [.lst _ xs]=>∃bs,xs=oG bs/\Q (.bl (bs.all id))
 | _=>False
noncomputable def oI:jv:=λds Q=>match ds with
 | [.lst _ xs]=>∃bs,xs=oG bs/\Q (.bl (bs.any id))
 | _=>False
theorem yL(hc:X.calm=true):gz X (.builtin "all") oH:=gz.of (Zk hc) λvs H Q zz=>by
 obtain⟨B,F,σ,δ,ts,ds,Qd,c,s,q,k⟩:=zz
 unfold oH at q
 split at q
 ·obtain⟨v,rfl,s1⟩:=kF s
  obtain⟨bs,rfl,q⟩:=q
  obtain⟨p,ws,rfl,h,t⟩:=lh s1 c.ext rfl
  rw[FI t]at h
  exact⟨p,bs,rfl,jZ h,k _ _ _ q (af.refl _) (c.pushS (.bl .nil) rfl)⟩
 ·exact q.elim
theorem cA7(hc:X.calm=true):gz X (.builtin "any") oI:=gz.of (Zl hc) λvs H Q zz=>by
 obtain⟨B,F,σ,δ,ts,ds,Qd,c,s,q,k⟩:=zz
 unfold oI at q
 split at q
 ·obtain⟨v,rfl,s1⟩:=kF s
  obtain⟨bs,rfl,q⟩:=q
  obtain⟨p,ws,rfl,h,t⟩:=lh s1 c.ext rfl
  rw[FI t]at h
  exact⟨p,bs,rfl,jZ h,k _ _ _ q (af.refl _) (c.pushS (.bl .nil) rfl)⟩
 ·exact q.elim
noncomputable def BV:D->Option String
 | .int _=>some "int"
 | .bl _=>some "bool"
 | .au=>some "NoneType"
 | .str _=>some "str"
 | .lst _ _=>some "list"
 | .fz _=>some "list"
 | .tup _=>some "tuple"
 | _=>none
noncomputable def FJ(k n:String):Option Bool:=([("int","int",true),("int","bool",false),("int","list",false),("int","tuple",false),("int","str",false),("bool","int",true),("bool","bool",true),("bool","list",false),("bool","tuple",false),("bool","str",false),
 ("NoneType","int",false),("NoneType","bool",false),("NoneType","list",false),("NoneType","tuple",false),("NoneType","str",false),("str","int",false),("str","bool",false),("str","list",false),("str","tuple",false),("str","str",true),
 ("list","int",false),("list","bool",false),("list","list",true),("list","tuple",false),("list","str",false),("tuple","int",false),("tuple","bool",false),("tuple","list",false),("tuple","tuple",true),("tuple","str",false)].find? λz=>z.1==k&&z.2.1==n).map (·.2.2)
noncomputable def mM(n:String)(d:D):Option Bool:=(BV d).bind λk=>FJ k n
theorem cx5{K:PySem.W.Frag}{k n:String}{r:Bool}(h:FJ k n=some r):PySem.W.kitOne K (.type k) (.type n)=some r:=by
 unfold FJ at h
 obtain⟨z,hz,rfl⟩:=AJ.mp h
 have hm:=Jx hz
 have hp:=List.find?_some hz
 rw[eU,beq_iff_eq,beq_iff_eq]at hp
 obtain⟨rfl,rfl⟩:=hp
 simp only[bR,gJ,or_false]at hm
 repeat' (rcases hm with hm | hm)
 all_goals rfl
theorem oJ{K:PySem.W.Frag}{d:D}(s:S F H [d] [v])(e:af F H){k:String}(h:BV d=some k):iA K H v (.type k):=by
 cases s with
 | int _=>cases h;exact .int _
 | bl _=>cases h;exact .bl _
 | au _=>cases h;exact .au
 | str _=>cases h;exact .str _
 | shr h' _ _=>cases h;exact .lst (e _ _ h')
 | own h' _ _=>cases h;exact .lst h'
 | fz h' _ _=>cases h;exact .bj (e _ _ h')
 | tup h' _ _=>cases h;exact .tup h'
 | obj _ _ _ _=>cases h
 | bx _ _=>cases h
theorem cB5{K:PySem.W.Frag}{d:D}(s:S F H [d] [v])(e:af F H){n:String}{r:Bool}(h:mM n d=some r):∃t,iA K H v t/\PySem.W.kitOne K t (.type n)=some r:=by
 unfold mM at h
 cases hk:BV d with
 | none=>rw[hk]at h;cases h
 | some k=>rw[hk]at h;exact⟨_,oJ s e hk,cx5 h⟩
noncomputable def rD(n:String)(t:aO):aO:=λδ Q=>t δ λd ah=>∃r,mM n d=some r/\Q (.bl r) ah
theorem yM{n:String}{y:Str}{q:Pos}(hg:Gl X "isinstance")(hm:X.mg "isinstance"=none)(oK:Gl X y)(kG:X.mg y=none)(yN:bootBuiltins y=some (.type n))(ha:PE X a (lB ta))
  (hn:y≠"__name__":=by decide) (hd:(y==("__debug__":Str))=false:=by decide)
  (hs:starEach [a,.Name y q] X.env=(false,eval a X.env)::starEach [.Name y q] X.env:=by rfl) (dA:starEach [.Name y q] X.env=(false,eval (.Name y q) X.env)::starEach [] X.env:=by rfl) (bu:(backTo pos (starEach [.Name y q] X.env)).any (·.1)=false:=by rfl) :
  PE X (.Call (.Name "isinstance" p) [a,.Name y q] [] pos) (lE (rD n ta)) :=
 dF (Bq Za hg hm Le (bN ha (bN (Ll oK kG yN hn hd) eX dA) hs) (by decide) (by decide) hs bu) λσ H Q zq=>by
 obtain⟨B,F,δ,ts,Qd,c,q,k⟩:=zq
 exact⟨B,F,δ,ts,_,c,q,λd aj v F1 H1 q1 f1 h1 c1 s1=>by
  obtain⟨r,e,qr⟩:=q1
  obtain⟨t,h2,h3⟩:=cB5 (K:=X.K) s1 c1.ext e
  exact⟨v,n,t,r,rfl,h2,h3,k _ aj _ F1 H1 qr f1 h1 (c1.pushS (.bl .nil) rfl)⟩⟩
theorem FK{xs:List D}{ws:List V}{i:Int}{d:D}(s:S F H xs ws)(h:fA xs i=some d):∃v,fA ws i=some v/\S F H [d] [v]:=by
 unfold fA at h ⊢
 rw[<-s.length]
 cases e:jP xs.length i with
 | none=>rw[e]at h;cases h
 | some j =>
  rw[e]at h
  exact s.get h
noncomputable def oM(x y:D)(Q:D->Prop):Prop:=match x,y with
 | .lst _ xs,.int i=>∃d,fA xs i=some d/\Q d
 | .fz xs,.int i=>∃d,fA xs i=some d/\Q d
 | .tup xs,.int i=>∃d,fA xs i=some d/\Q d
 | .str z,.int i=>z.length<=sizeLine/\∃ch,fA z.cps.toList i=some ch/\Q (.str ⟨#[ch]⟩)
 | _,_=>False
noncomputable def rE(ta tb:aO):aO:=λδ Q=>ta δ λx aj=>tb aj λy a7=>oM x y λd=>Q d a7
theorem bB(ha:PE X a (lB ta))(hb:PE X b (lB tb))(hs:EH b):PE X (.Subscript a b pos) (lB (rE ta tb)) :=
 dF (Kv X9 ha hb hs) λσ H Q zq=>by
 obtain⟨B,F,δ,ts,Qd,c,q,k⟩:=zq
 exact⟨B,F,δ,ts,_,c,q,λx aj v F1 H1 q1 f1 h1 c1 s1=>⟨B,F1,aj,ts,_,c1,q1,λy a7 w F2 H2 q2 f2 h2 c2 s2=>by
  have lH:=s1.mono f2 h2
  have fin:∀d z,Qd d a7->S F2 H2 [d] [z]->Q z H2:=λd z hd s=>k d a7 z F2 H2 hd (f1.trans f2) (h1.trans h2) c2 s
  unfold oM at q2
  split at q2
  ·obtain⟨d,ed,qd⟩:=q2
   cases s2
   obtain⟨p,ws,rfl,h,t⟩:=lh lH c2.ext rfl
   obtain⟨z,ez,sz⟩:=FK t ed
   exact .inl ⟨p,ws,_,z,rfl,rfl,jZ h,ez,fin d z qd sz⟩
  ·obtain⟨d,ed,qd⟩:=q2
   cases s2
   obtain⟨p,ws,rfl,h,t⟩:=lh lH c2.ext rfl
   obtain⟨z,ez,sz⟩:=FK t ed
   exact .inl ⟨p,ws,_,z,rfl,rfl,jZ h,ez,fin d z qd sz⟩
  ·obtain⟨d,ed,qd⟩:=q2
   cases s2
   obtain⟨p,ws,rfl,h,t⟩:=k9 lH
   obtain⟨z,ez,sz⟩:=FK t ed
   exact .inr (.inl ⟨p,ws,_,z,rfl,rfl,iz.of h,ez,fin d z qd sz⟩)
  ·obtain⟨hz,ch,ec,qc⟩:=q2
   cases lH
   cases s2
   exact .inr (.inr ⟨_,_,ch,rfl,rfl,hz,ec,fin _ _ qc (.str .nil)⟩)
  ·exact q2.elim⟩⟩
noncomputable abbrev wC:=Dl->(Option Int->Dl->Prop)->Prop
inductive lP(t:wC)(σ:L2.St)(H:Hp)(Q:Option Int->Hp->Prop):Prop
 | mk (B F δ ts Qd) (c:ak B F H σ δ ts) (q:t δ Qd) (k:∀o ah F' H',Qd o ah->af F F'->af H H'->ak B F' H' σ ah ts->Q o H')
theorem Mg{oe:Option Expr}{u u':TO}(h:PO X oe u)(m:∀σ H Q,u' σ H Q->u σ H Q):PO X oe u':=λpins s σ H Q I q=>h pins s σ H Q I (m σ H Q q)
noncomputable def rF:wC:=λδ Q=>Q none δ
noncomputable def rG(t:aO):wC:=λδ Q=>t δ λd ah=>match d with
 | .int i=>Q (some i) ah
 | _=>False
theorem yO:PO X none (lP rF):=Mg X1 λσ H Q ⟨B,F,δ,ts,Qd,c,q,k⟩=>k none δ F H q (af.refl _) (af.refl _) c
theorem yP(h:PE X e (lB t)):PO X (some e) (lP (rG t)):=Mg (X2 h) λσ H Q zq=>by
 obtain⟨B,F,δ,ts,Qd,c,q,k⟩:=zq
 exact⟨B,F,δ,ts,_,c,q,λd aj v F1 H1 q1 f1 h1 c1 s1=>by
 cases s1 with
 | int _=>exact⟨_,rfl,k _ aj F1 H1 q1 f1 h1 c1⟩
 | _=>exact q1.elim⟩
noncomputable def fS{α:Type}(xs:List α)(lo hi:Option Int):List α:=(xs.drop (HT.dq xs.length 0 lo)).take (HT.dq xs.length xs.length hi-HT.dq xs.length 0 lo)
theorem S.cut{xs:List D}{ws:List V}(s:S F H xs ws)(lo hi:Option Int):S F H (fS xs lo hi) (v3 ws lo hi):=by
 unfold fS v3
 rw[<-s.length]
 exact(s.drop _).take _
theorem Mh{xs:List D}{p:D->Bool}(h:xs.all p=true)(lo hi:Option Int):(fS xs lo hi).all p=true:=by
 rw[dy]at h ⊢
 intro x hx
 exact h x (qi (xI hx))
noncomputable def rH(t:aO):aO:=λδ Q=>t δ λd ah=>match d with
 | .int i=>Q (.int (Mf.bl i.natAbs:Nat)) ah
 | _=>False
theorem oN(ho:PE X o (lB t))(nO:attributeBase o "bit_length" X.env (eval o X.env)=eval o X.env:=by rfl)(nQ:(apos.endLine==cj.line)=true:=by rfl):PE X (.Call (.Attribute o "bit_length" apos) [] [] cj) (lE (rH t)) :=
 dF (E1 ho nO nQ) λσ H Q zq=>by
 obtain⟨B,F,δ,ts,Qd,c,q,k⟩:=zq
 exact⟨B,F,δ,ts,_,c,q,λd aj v F1 H1 q1 f1 h1 c1 s1=>by
  cases s1 with
  | int _=>exact⟨rfl,_,rfl,rfl,k _ aj _ F1 H1 q1 f1 h1 (c1.pushS (.int .nil) rfl)⟩
  | _=>exact q1.elim⟩
end
end L3
namespace L3
open PySem L2 PySem.Spec PyProof.Rows
section
variable{X:Cx}{F H:Hp}{v w:V}{e a b c o tg:Expr}{es:List Expr}{pos p p2 apos cj pos':Pos}{t ta tb tc te ti:aO}{tr:cm}{x:Str}{i:Nat}
noncomputable def rJ(i:Nat)(t:aO):cV:=λD δ=>(∃xs,δ[i]?=some (some (.lst true xs)))/\t δ λd ah=>∃xs,ah[i]?=some (some (.lst true xs))/\xs.length<sizeLine/\D.nx (ah.set i (some (.lst true (xs++[d]))))
theorem wD(hN:X.N[i]?=some x)(hv:nF X.env.scope x)(he:PE X e (lE t))(hd:(x==("__debug__":Str))=false:=by decide)(cR:(x==("__classdict__":Str))=false:=by decide)
  (nO:attributeBase (.Name x p) "append" X.env (eval (.Name x p) X.env)=eval (.Name x p) X.env:=by rfl)
  (EN:((backTo cj (starEach [e] X.env)).all (λx=>!x.1)&&(backToKw cj (keywordEach [] X.env)).all (λx=>x.1.isSome)
   && decide ([e].length+([]:List Keyword).length+(if([]:List Keyword).isEmpty then 0 else 1)<30))=true:=by rfl)
  (nQ:(apos.endLine==cj.line)=true:=by rfl) (hs:starEach [e] X.env=(false,eval e X.env)::starEach [] X.env:=by rfl) (EO:(backTo cj (starEach [] X.env)).any (·.1)=false:=by rfl)
  (uh:swapsWith (.Call (.Attribute (.Name x p) "append" apos) [e] [] cj) none pos.line X.env=pure false:=by rfl) :
  PS X (.Expr (.Call (.Attribute (.Name x p) "append" apos) [e] [] cj) pos) (lS X (rJ i t)) :=
 kD (tL (Yo PySem.F.plainAttrs_list PySem.F.slot_list_append PySem.F.type_list_append KJ (vV hN hv hd cR) (bN he eX hs) nO EN nQ hs EO) uh) λEn σ H zz=>by
  obtain⟨B,F,δ,Dd,c,⟨⟨ys,ey⟩,q⟩,k1,k2,k3,k4⟩:=zz
  obtain⟨p0,Fp,g1,g2,g3⟩:=c.ownAt ey
  refine⟨.ref p0,g1,.inl ⟨rfl,_,bG.of g2⟩,B,F,δ,[],_,c,q,λd ah v F' H' hd sf sh c'=>?_⟩
  obtain⟨xs,ex,hl,hn⟩:=hd
  obtain⟨p1,ws,r1,r2,r3⟩:=c'.ownAt ex
  rw[g1]at r1;cases r1
  exact⟨p0,ws,v,rfl,rfl,r2,by omega,k1 _ _ F' _ hn (c'.app ex g1 r2)⟩
noncomputable def rK(i:Nat)(te ti:aO):cV:=λD δ=>te δ λd aj=>∃ys,aj[i]?=some (some (.lst true ys))/\nX ti aj λk a7=>match k with
 | .int n=>∃xs j,a7[i]?=some (some (.lst true xs))/\jP xs.length n=some j/\D.nx (a7.set i (some (.lst true (xs.set j d))))
 | _=>False
theorem yQ(hN:X.N[i]?=some x)(hv:nF X.env.scope x)(he:PE X e (lE te))(hi:PE X b (lB ti))(hd:(x==("__debug__":Str))=false:=by decide)(cR:(x==("__classdict__":Str))=false:=by decide)
  (ha:∀v,assign (.Subscript (.Name x p) b pos') X.env v=(do
   let ov<-holding [v] (eval (.Name x p) X.env)
   let iv<-holding [v,ov] (eval b X.env)
   standAt pos'
   holding [v,ov,iv] (setItem ov iv v)
   release [v,ov,iv] []):=by intro _;rfl)
  (hs:swapsWithSole [.Subscript (.Name x p) b pos'] e pos.line X.env=pure false:=by rfl) (hw:swappedStores [.Subscript (.Name x p) b pos'] e X.env=pure none:=by rfl)
  (h1:(assignEach [.Subscript (.Name x p) b pos'] X.env).map (·.2)=[assign (.Subscript (.Name x p) b pos') X.env]:=by rfl) :
  PS X (.Assign [.Subscript (.Name x p) b pos'] e pos) (lS X (rK i te ti)) :=
 kD (WO he (WN (vV hN hv hd cR) (du hi) Yd ha) hs hw h1) λEn σ H zq=>by
 obtain⟨B,F,δ,Dd,c,q,k1,k2,k3,k4⟩:=zq
 exact⟨B,F,δ,[],_,c,q,λd aj v F1 H1 hq f1 h1 c1=>by
  obtain⟨ys,ey,hq⟩:=hq
  obtain⟨p0,Fp,g1,g2,g3⟩:=c1.ownAt ey
  refine⟨.ref p0,g1,B,F1,aj,[(d,v)],_,c1,hq,λkd a7 kv F2 H2 hk f2 h2 c2=>?_⟩
  have st:=c2.top
  split at hk
  ·obtain⟨xs,j,ex,ej,hn⟩:=hk
   cases st
   have c3:=c2.pop
   obtain⟨p1,ws,r1,r2,r3⟩:=c3.ownAt ex
   rw[g1]at r1;cases r1
   exact⟨p0,ws,_,j,rfl,rfl,r2,by rw[<-r3];exact ej,k1 _ _ F2 _ hn (c3.ν ex g1 r2 j)⟩
  ·exact hk.elim⟩
end
end L3
namespace L3
open PySem L2 PySem.Spec PyProof.Rows
theorem cN{A:Around}{k:Nat}(hr:bQ k A):A.units+6<cLine:=by have:=hr.un;omega
noncomputable def aJ(ns:List Int):List D:=ns.map D.int
noncomputable def FL(o:Obj):Bool:=match o.cls with
 | .type n=>n != "list"
 | _=>true
noncomputable def Mi:aW:=λds Q=>∃ns:List Int,ds=[.fz (aJ ns)]/\ns.length<=63/\Q (.bl true)
theorem lJ{F H:Hp}:∀ns:List Int,R F H (aJ ns) (ns.map V.int) []
 | []=>.nil
 | n::ns=>.int (lJ ns)
theorem bE3{K:PySem.W.Frag}{a:Addr}{o:Obj}(h:K.lookup a=some o):(a,o)∈K:=by
 induction K with
 | nil=>cases h
 | cons p K ih =>
  obtain⟨b,u⟩:=p
  rw[fZ]at h
  split at h
  ·rename_i z
   have:a=b:=by simpa using z
   cases h;subst this;simp
  ·exact ft _ (ih h)
end L3
namespace L3
open PySem L2 PySem.Spec PyProof.Rows
section
variable{B:Bs}{F H:Hp}{σ:L2.St}{δ:Dl}{ts ps:List (D × V)}{i k:Nat}{p q:Addr}{l1 l2 ys LF:List D}{ws wA:List V}
end
section
variable{X:Cx}{F H:Hp}{e b:Expr}{pos p pr apos cj FN:Pos}{t ti te:aO}{x y:Str}{i j:Nat}
end
end L3
namespace L3
open PySem L2 PySem.Spec PyProof.Rows
theorem ui(i:Int):(D.int i).pl=true:=rfl
theorem uj(i:Bool):(D.bl i).pl=true:=rfl
theorem uk(i:Str):(D.str i).pl=true:=rfl
theorem um:D.au.pl=true:=rfl
theorem uo(xs:List D):(D.fz xs).pl=true:=rfl
theorem uq(C:Addr)(ns:List Str)(xs:List D):(D.obj C ns xs).pl=true:=rfl
theorem rL(i:Int):(D.int i).fr=true:=rfl
theorem ur(i:Bool):(D.bl i).fr=true:=rfl
theorem uu(i:Str):(D.str i).fr=true:=rfl
theorem uv:D.au.fr=true:=rfl
theorem lK(i:Int):(D.int i).sh=.int i:=rfl
theorem uw(i:Bool):(D.bl i).sh=.bl i:=rfl
theorem uz(i:Str):(D.str i).sh=.str i:=rfl
theorem uA:D.au.sh=.au:=rfl
theorem uB(xs:List D):(D.fz xs).sh=.fz xs:=rfl
theorem uC(C:Addr)(ns:List Str)(xs:List D):(D.obj C ns xs).sh=.obj C ns xs:=rfl
theorem uD{α:Type}(n:Nat)(x:α):(aV n [x]).flatten=aV n x:=by
 induction n with
 | zero=>rfl
 | succ n ih=>rw[sY,vC,ih];rfl
theorem lL(ns:List Int):(aJ ns).length=ns.length:=by simp[aJ]
theorem lM(ns:List Int):(aJ ns).all D.pl=true:=by simp[aJ,D.pl]
theorem oO(ns:List Int):(aJ ns).all D.fr=true:=by simp[aJ,D.fr]
theorem jw(ns:List Int):(aJ ns).map D.sh=aJ ns:=by simp[aJ,D.sh]
theorem oQ(a b:List Int):aJ a++aJ b=aJ (a++b):=by simp[aJ]
theorem uE(n:Nat)(i:Int):aV n (D.int i)=aJ (aV n i):=by simp[aJ]
theorem oR(n:Nat)(i:Int):eA n (.int i)=true:=by cases n<;>rfl
theorem uF(n:Nat)(i:Str):eA n (.str i)=true:=by cases n<;>rfl
theorem j3(i j:Int):bH (.int i) (.int j)=decide (i=j):=by
 show(i==j)=_
 rw[Bool.beq_eq_decide_eq]
theorem Mj:∀(a b:List Int),bH.gh (aJ a) (aJ b)=decide (a=b)
 | [],[]=>rfl
 | [],_::_=>by simp[aJ,bH.gh]
 | _::_,[]=>by simp[aJ,bH.gh]
 | x::xs,y::ys=>by
  show(bH (.int x) (.int y)&&bH.gh (aJ xs) (aJ ys))=_
  rw[Mj xs ys,j3,qf];simp
theorem rM(o o':Bool)(a b:List Int):bH (.lst o (aJ a)) (.lst o' (aJ b))=decide (a=b):=Mj a b
theorem b11{ns:List Int}{k:Nat}(h:k<ns.length):(aJ ns)[k]?=some (.int ns[k]):=by simp[aJ,h]
theorem mO{ns:List Int}{k:Int}(h0:0<=k)(h:k<ns.length):fA (aJ ns) k=some (.int (ns.getD k.toNat 0)):=by
 unfold fA jP
 rw[if_pos h0,lL,if_pos h]
 show(aJ ns)[k.toNat]?=_
 have hk:k.toNat<ns.length:=by omega
 rw[b11 hk,aN,aM hk];rfl
theorem rN(ns:List Int)(lo hi:Option Int):fS (aJ ns) lo hi=aJ (fS ns lo hi):=by simp[fS,aJ,Jy,Jz]
theorem uG(i:Int):mM "int" (.int i)=some true:=by rfl
theorem uH(i:Int):mM "bool" (.int i)=some false:=by rfl
theorem uI(i:Int):mM "list" (.int i)=some false:=by rfl
theorem uJ(o:Bool)(xs:List D):mM "list" (.lst o xs)=some true:=by rfl
theorem uK:mM "int" .au=some false:=by rfl
theorem uL(x:Str):mM "str" (.str x)=some true:=by rfl
theorem uM(xs:List D):mM "tuple" (.tup xs)=some true:=by rfl
theorem sL:sizeLine=16777216:=rfl
theorem uN{p:Prop}[Decidable p]:(decide p=true)=p:=by simp
theorem ck8{α:Type}(xs:List α)(a b:Nat):fS xs (some (a:Int)) (some (b:Int))=(xs.drop a).take (b-a):=by
 unfold fS
 rw[HT.EG,HT.EG]
 by_cases h:a<=xs.length
 ·rw[Nat.min_eq_left h]
  apply JA
  intro i
  rw[VL,VL,JB]
  by_cases hi:i<b-a
  ·rw[if_pos hi]
   by_cases hb:a+i<xs.length
   ·rw[if_pos (by omega)]
   ·rw[gn (by omega)];simp
  ·rw[if_neg hi,if_neg (by omega)]
 ·rw[Nat.min_eq_right (show xs.length<=a by omega),JC (bE _),JC (show xs.length<=a by omega)];simp
end L3
namespace L2
open PySem PySem.Spec PyProof.Rows
section
variable{X:Cx}{e:Expr}{te:TE}{lo hi:Option Expr}{st:Expr}{tl th ts:TO}{pos p2:Pos}
theorem Ml(ns:List Int):∀k,k<=ns.length->preSum (λi=>ns.getD i 0) k=(ns.take k).sum
 | 0,_=>rfl
 | k+1,h=>by
  show preSum (λi=>ns.getD i 0) k+ns.getD k 0=_
  rw[Ml ns k (by omega),qh,aM (by omega),List.sum_append,aN,aM (by omega)]
  simp
theorem bN4(hc:X.calm=true):gu X (.builtin "sum") (λxs H Q=>∃(p:Addr) (ns:List Int),xs=[.ref p]/\bG X.K H p (ns.map V.int)/\Q (.int ns.sum) H):=by
 intro pins s σ H xs us Q I r h
 obtain⟨p,ns,rfl,hS,q⟩:=h
 obtain⟨u,rfl,ru⟩:=r.one
 cases ru
 obtain⟨its,rv,pl,hz⟩:=I.list hS
 have hi:=X0 rv
 have hlen:ns.length=its.length:=by have:=rv.length;simpa using this
 have hl:=pl.isList
 have fg:p<s.heap.objs.size:=by obtain⟨_,e,_⟩:=hl;exact bD e
 refine call_sum_walkG (wpAny_pyIter_list hl ?_)
 refine⟨s.heap.objs.size,[s.heap.objs.size,p],[s.heap.objs.size],its.toArray.size,_,_,λi=>ns.getD i 0,rfl,DQ (A:=X.A.in1) (I.ok.hd hc) _ p (dN fg) its.toArray,
  ⟨⟨_,gG _ rfl,rfl,rfl⟩,hl.push _⟩,λb hb=>?_,λi v hP=>?_,λh' tk t' hk=>?_⟩
 ·simp only[vz]
  rcases bR.mp hb with rfl | hb
  ·exact AA _
  ·rw[fc.mp hb];exact JE fg
 ·have e:its[i]?=some v:=by simpa using hP
  obtain⟨x,ex,q2⟩:∃x,(ns.map V.int)[i]?=some x/\RelV x v:=by
   have gL:i<its.length:=(km.mp e).1
   obtain⟨u,e2,q2⟩:=rv.get (i:=i) (x:=V.int ns[i]) (by rw[cu,aM (by omega)];rfl)
   rw[e]at e2;cases e2
   exact⟨_,by rw[cu,aM (by omega)];rfl,q2⟩
  rw[cu]at ex
  obtain⟨n,en,rfl⟩:=AJ.mp ex
  obtain⟨t,rfl⟩:=q2
  exact⟨t,by show pV n t=pV (ns.getD i 0) t;rw[aN,en];rfl⟩
 ·rw[dU,<- hlen,Ml ns _ (bE _),vF]
  exact⟨.int _,H,I.kept (h':=h') (t':=tk) (BB hk),⟨_,rfl⟩,q⟩
end
end L2
namespace L3
open PySem L2 PySem.Spec PyProof.Rows
section
variable{X:Cx}{F H:Hp}{e:Expr}{t:aO}{lo hi:Option Expr}{st:Expr}{tl th td:wC}{pos p2:Pos}
theorem FP:∀{a:List Int} {ws:List V},S F H (aJ a) ws->ws=a.map V.int
 | [],_,s=>by cases s;rfl
 | b::bs,_,s=>by
  cases s with
  | int s=>rw[FP s];rfl
noncomputable def lN:jv:=λds Q=>match ds with
 | [.lst _ xs]=>∃a,xs=aJ a/\Q (.int a.sum)
 | _=>False
theorem cD3(hc:X.calm=true):gz X (.builtin "sum") lN:=gz.of (bN4 hc) λvs H Q zz=>by
 obtain⟨B,F,σ,δ,ts,ds,Qd,c,s,q,k⟩:=zz
 unfold lN at q
 split at q
 ·obtain⟨v,rfl,s1⟩:=kF s
  obtain⟨a,rfl,q⟩:=q
  obtain⟨p,ws,rfl,h,t⟩:=lh s1 c.ext rfl
  rw[FP t]at h
  exact⟨p,a,rfl,jZ h,k _ _ _ q (af.refl _) (c.pushS (.int .nil) rfl)⟩
 ·exact q.elim
noncomputable def FQ:Expr->Option Int
 | .Constant (.int i) _ _=>some i
 | _=>none
noncomputable def BW:List Expr->Option (List Int)
 | []=>some []
 | e::es=>(FQ e).bind λi=>(BW es).map (i :: ·)
theorem b55{e:Expr}{i:Int}(h:FQ e=some i):∃a b,e=.Constant (.int i) a b:=by
 cases e with
 | Constant c a b =>
  cases c with
  | int j=>cases h;exact⟨_,_,rfl⟩
  | _=>cases h
 | _=>cases h
noncomputable def cB7(ns:List Int):cm:=λδ Q=>Q (aJ ns) δ
theorem Mm:∀(es:List Expr) (ns:List Int),BW es=some ns->PA X es (lO (cB7 ns))
 | [],ns,h=>by cases h;exact dv
 | e::es,ns,h=>by
  obtain⟨i,hi,h2⟩:=Option.bind_eq_some_iff.mp (show(FQ e).bind (λi=>(BW es).map (i :: ·))=some ns from h)
  obtain⟨ms,hm,rfl⟩:=AJ.mp h2
  obtain⟨a,b,rfl⟩:=b55 hi
  exact yv (cW (ao (i:=i)) (Mm es ms hm)) λ_ _ _ q=>q
noncomputable def rO(ns:List Int):aO:=λδ Q=>ns.length<=sizeLine/\Q (.lst true (aJ ns)) δ
theorem Mn{es:List Expr}{ns:List Int}(h:BW es=some ns):PE X (.List es pos) (lE (rO ns)) :=
 dF (eD (Mm es ns h)) λ_ _ _ zq=>by
 obtain⟨B,F,δ,ts,Qd,c,q,k⟩:=zq
 exact⟨B,F,δ,ts,Qd,c,by
  show(aJ ns).length<=sizeLine/\_
  rw[lL];exact q,k⟩
theorem FR{n:Nat}{g:iJ}{tb:cV}{En:nW}{δ:Dl}(Iv:Nat->Dl->Prop)(h0:Iv 0 δ)(ht:∀k ah,k<n->Iv k ah->g (.int k) ah λa7=>tb { En with nx:=Iv (k+1),ct:=Iv (k+1),bk:=En.nx } a7)
  (hf:∀ah,Iv n ah->En.nx ah):gQ (DX (λ(k:Nat)=>D.int (0+(k:Int))) (aL (n:Int).toNat)) g tb En δ:=by
 rw[iq]
 refine gQ.mk Iv h0 (λi d ah hd iv=>?_) λah iv=>hf ah (by simpa using iv)
 rw[cu]at hd
 obtain⟨k,hk,rfl⟩:=AJ.mp hd
 have hi:i<n:=by have:=(km.mp hk).1;simpa using this
 rw[kR hi]at hk
 cases hk
 rw[JF]
 exact ht i ah hi iv
theorem qw{xs:List D}{k:Int}{d:D}(h0:0<=k)(h:xs[k.toNat]?=some d):fA xs k=some d:=by
 unfold fA jP
 have hk:k.toNat<xs.length:=(km.mp h).1
 rw[if_pos h0,if_pos (by omega)]
 exact h
end
end L3
namespace L3
open PySem L2 PySem.Spec PyProof.Rows
noncomputable abbrev oS:=List D->(D->Prop)->(Addr->Prop)->Prop
inductive oU(sp:oS)(vs:List V)(H:Hp)(Q:VK)(E:XK):Prop
 | mk (F ds Qd Ed) (e:af F H) (r:R F H ds vs []) (q:sp ds Qd Ed) (k:∀d v F' H' A,Qd d->af H H'->af F F'->af F' H'->(∀a ws,F' a=some (.lst ws)->F a=some (.lst ws)\/H a=none)->R F' H' [d] [v] A->A.Nodup->(∀a∈A,H a=none)->Q v H') (kx:∀C H',Ed C->af H H'->E (.ref C) none H')
section
variable{P:Program}{w:World}{K:PySem.W.Frag}{mg:Str->Option Value}{base:Heap}
theorem BX{x qual:Str}{st:Stmt}{f:Addr}{fd:FuncData}{N ps:List Str}{k:Nat}{sp:oS}(F:jQ K x qual st f fd)(S:aU N ps (aK st))(len:∀ds Q E,sp ds Q E->ds.length=ps.length)
  (hJ:∀(ay:Value) (A:Around) (outer:List Env) (s:Shared) (H:Hp) (E:XK),bQ k (A.deeper (envOfC qual (aK st) s.heap.objs.size f ay)) ->
   ∃t:cV,PSs (iX (kz P w) P w K mg base N qual (aK st) f ay A outer s H E) (iD st) (lS (iX (kz P w) P w K mg base N qual (aK st) f ay A outer s H E) t) /\
    ∀ds Q Ex,sp ds Q Ex->t { nx:=λ_=>Q .au,rt:=Q,xc:=λC _=>Ex C,xr:=λC _=>Ex C } (jW N ds)):aH P w K mg base (kz P w) (k+1) f fd ps (oU sp):=by
 obtain⟨oc,od,kV,doc,pm,an,ay,ct,iB,rfl,lk,cR⟩:=F.ex
 refine Bp lk cR S (λvs H Q E ⟨F,ds,Qd,Ed,e,r,h,_,_⟩=>by rw[<-r.length];exact len ds Qd Ed h) λA outer s H vs Q E hr zz=>?_
 obtain⟨F,ds,Qd,Ed,e,r,h,k,kx⟩:=zz
 obtain⟨t,ht,hq⟩:=hJ ay A outer s H E hr
 have fin:∀d v ah aF F' H',Qd d->ak ⟨H,F⟩ F' H' aF ah [(d,v)]->Q v H':=λd v ah aF F' H' hd c=>by
  obtain⟨A,C,r',s',nd,fr⟩:=c.own
  exact k d v F' H' A hd c.b1 c.b2 c.ext c.b3 r' (ia.mp nd).1 λa ha=>fr a (eN _ ha)
 have e1:L2.start N vs=vs.map some++aV (N.length-ds.length) none:=by unfold L2.start;rw[r.length]
 refine⟨_,ht,⟨H,F⟩,F,jW N ds,_,?_,hq ds Qd Ed h,λah aF F' H' hd c=>fin .au .au ah aF F' H' hd (c.pushS (.au .nil) rfl),fin,λ_ _ _ _ z=>z.elim,λ_ _ _ _ z=>z.elim,λC ah pins aF F' H' s' a T hx c I tr pa pT=>?_,λC ah pins aF F' H' s' h' e vs hx c I hm=>?_⟩
 ·rw[e1]
  exact ak.start e r _
 ·exact Zu I rfl rfl rfl tr pa pT λh' T' g=>⟨a,T',.ref C,H',rfl,I.os,I.bare,g.un,g.aI,g.we,g.a0,g.a1,g.t0,g.t1,kx C H' hx c.b1⟩
 ·exact Zv I rfl rfl rfl hm λh' T' g=>⟨e,T',.ref C,H',rfl,I.os,I.bare,g.un,g.aI,g.we,g.a0,g.a1,g.t0,g.t1,kx C H' hx c.b1⟩
end
noncomputable abbrev TEx:=L2.St->Hp->VK->(Value->Hp->Prop)->Prop
noncomputable def PX(X:Cx)(e:Expr)(t:TEx):Prop:=∀(pins:List (Addr × Obj)) (s:Shared) (σ:L2.St) (H:Hp) (Q:VK) (Z:Value->Hp->Prop),Inv X pins σ H s ->
 (∀a T cls H' s',Inv X pins σ H' s'->iG s'.heap a T cls->Apart X pins H' a->Apart X pins H' T->Z cls H'->X.xe (.ref a) s')->t σ H Q Z->wpAny (model X.prog X.w) X.A (eval e X.env) (EP X pins σ Q) X.xe s
noncomputable abbrev BY:=Dl->(D->Dl->Prop)->(Addr->Dl->Prop)->Prop
inductive lX(t:BY)(σ:L2.St)(H:Hp)(Q:VK)(Z:Value->Hp->Prop):Prop
 | mk (B F δ Qd Zd) (c:ak B F H σ δ []) (q:t δ Qd Zd) (k:∀d ah v F' H',Qd d ah->af F F'->af H H'->ak B F' H' σ ah [(d,v)]->Q v H') (kx:∀C ah F' H',Zd C ah->af F F'->af H H'->ak B F' H' σ ah []->Z (.ref C) H')
section
variable{X:Cx}{n:Nat}{f:Addr}{fd:FuncData}{ps:List Str}{sp:oS}{x:Str}{p pos:Pos}{e:Expr}{es:List Expr}{t:cm}{tx:BY}
theorem cA5{pins:List (Addr × Obj)}{σ:L2.St}{H:Hp}{s:Shared}{Q:VK}{E:XK}{us:List Value}{vs:List V}{sp:Sp}(F:aH X.prog X.w X.K X.mg X.base (kz X.prog X.w) n f fd ps sp)(hr:bQ n X.A)(hb:Binds X.K fd ps [])(hex:X.ex=[])
  (I:Inv X pins σ H s) (r:Vals vs us) (h:sp vs H Q E) (hx:∀a T cls H' s',Inv X pins σ H' s'->iG s'.heap a T cls->Apart X pins H' a->Apart X pins H' T->E cls none H'->X.xe (.ref a) s'):wpAny (model X.prog X.w) X.A (call (.ref f) us) (EP X pins σ Q) X.xe s:=by
 have hl:(us++[]).length=ps.length:=by rw[fu,<- r.length];exact F.len _ _ _ _ h
 have rP:=hb s us I.cQ hl
 rw[fu]at rP
 refine wpAny_call (codeAny_mono (F.run X.A X.stack s H ⟨us,[]⟩ us vs Q E hr I.vZ rP r h) λr s' hq=>?_)
 cases r with
 | error e =>
  obtain⟨a,T,cls,H',rfl,os,bare,un,aI,tr,a0,a1,t0,t1,hE⟩:=hq
  exact hx a T cls H' s' (I.J1 (ch:=[]) os un aI bare λb z=>absurd z (by simp)) tr (I.apart hex a0 a1) (I.apart hex t0 t1) hE
 | ok fl =>
  cases fl with
  | ret u=>exact I.after hq
  | next=>exact fH hq
  | brk=>exact fH hq
  | cont=>exact fH hq
noncomputable def rQ(sp:oS)(t:cm):BY:=λδ Q Z=>t δ λds ah=>sp (ds.map D.sh) (λd=>(ds.all D.pl||d.fr)=true/\Q d ah) λC=>Z C ah
theorem b26{B:Bs}{F H:Hp}{σ:L2.St}{δ:Dl}{ts:List (D × V)}{Qd:D->Prop}{Ed:Addr->Prop}{Q:VK}{E:XK}{ds:List D}{vs:List V}(c:ak B F H σ δ ts)(s:S F H ds vs)(q:sp (ds.map D.sh) (λd=>(ds.all D.pl||d.fr)=true/\Qd d) Ed)
  (k:∀d v F' H',Qd d->af F F'->af H H'->ak B F' H' σ δ ((d,v)::ts)->Q v H') (kx:∀C H',Ed C->af H H'->E (.ref C) none H'):oU sp vs H Q E:=by
 by_cases hp:ds.all D.pl=true
 ·rw[kZ hp]at q
  exact⟨F,ds,_,_,c.ext,s.r hp,q,λd v F' H' A hd hs hf he h3 r nd fr=>k d v F' H' hd.2 hf hs (c.call hs hf he h3 r nd fr),kx⟩
 ·refine⟨H,ds.map D.sh,_,_,af.refl _,s.frozen c.ext,q,λd v F' H' A hd hs hf he h3 r nd fr=>?_,kx⟩
  have df:d.fr=true:=by
   have:=hd.1
   rw[Bool.or_eq_true]at this
   exact this.resolve_left hp
  exact k d v F H' hd.2 (af.refl _) hs (c.BF hs (r.qF (by simp[df]) (c.ext.trans hf)) nd fr)
theorem wF(F:aH X.prog X.w X.K X.mg X.base (kz X.prog X.w) n f fd ps (oU sp))(hr:bQ n X.A)(hg:Gl X x)(hm:X.mg x=some (.ref f))(hk:PySem.W.keepIn X.K (.ref f)=true)(hb:Binds X.K fd ps [])(hex:X.ex=[])
  (ha:PA X (e::es) (lA t)) (cS:(x==("__debug__":Str))=false:=by decide) (he:starEach (e::es) X.env=(false,eval e X.env)::starEach es X.env:=by rfl) (bu:(backTo pos (starEach es X.env)).any (·.1)=false:=by rfl) :
  PX X (.Call (.Name x p) (e::es) [] pos) (lX (rQ sp t)):=by
 intro pins s σ H Q Z I hz zz
 obtain⟨B,F0,δ,Qd,Zd,c,q,k,kx⟩:=zz
 refine wpAny_Call_Name_kw (tJ I hg hm ?_ cS)
 refine PySem.W.callWith_K (h₀:=X.base) I.ok.mod.nE hk (aS (ha pos pins s σ H (λvs H1=>oU sp vs H1 Q λcls _ H'=>Z cls H') I ⟨B,F0,δ,[],_,c,q,λds aj vs F1 H1 q1 f1 h1 c1 s1=>?_⟩) λus s1 ⟨vs,H1,I1,r,q⟩=>⟨I1.cQ,?_⟩) he bu
 ·exact b26 c1 s1 q1 (λd v F' H' hd hf hs c'=>k d aj v F' H' hd (f1.trans hf) (h1.trans hs) c') λC H' hC hs=>kx C aj F1 H' hC f1 (h1.trans hs) (c1.grow hs)
 ·exact cA5 F hr hb hex I1 r q λa T cls H' s' I' tr pa pT hE=>hz a T cls H' s' I' tr pa pT hE
theorem cD0{B:Bs}{F H:Hp}{σ:L2.St}{Dd:nW}{pins:List (Addr × Obj)}(xl:XL X B Dd):∀a T cls H' s',Inv X pins σ H' s'->iG s'.heap a T cls->Apart X pins H' a->Apart X pins H' T->(∃C ah F',cls=.ref C/\Dd.xc C ah/\ak B F' H' σ ah [])->X.xe (.ref a) s':=by
 rintro a T cls H' s' I tr pa pT ⟨C,ah,F',rfl,hx,c⟩
 exact xl.1 C ah pins σ F' H' s' a T hx c I tr pa pT
noncomputable def rR(t:BY):cV:=λD δ=>t δ (λ_ ah=>D.nx ah) D.xc
theorem wH(he:PX X e (lX tx))(hs:swapsWith e none pos.line X.env=pure false:=by rfl):PS X (.Expr e pos) (lS X (rR tx)):=by
 intro pins s σ H D I zz
 obtain⟨B,F,δ,Dd,c,q,k1,k2,k3,k4,xl⟩:=zz
 refine wpAny_Expr_any (aS (he pins s σ H (λ_ H1=>D.nx σ H1) (λcls H'=>∃C ah F',cls=.ref C/\Dd.xc C ah/\ak B F' H' σ ah []) I (cD0 (H:=H) (F:=F) xl) ⟨B,F,δ,_,_,c,q,λd ah v F' H' hd _ _ c'=>k1 ah σ F' H' hd c'.pop,λC ah F' H' hC _ _ c'=>⟨C,ah,F',rfl,hC,c'⟩⟩) λv s1 ⟨x,H1,I1,r1,q1⟩=>⟨σ,H1,I1,q1⟩) I.quiet hs
noncomputable def rS(C:Addr)(t:cm):cV:=λD δ=>t δ λds ah=>ds.length<=9/\D.xr C ah
structure FT(K:PySem.W.Frag)(mg:Str->Option Value)(x:Str)(C:Addr):Prop where
 own:∀h:Heap,K.In h->h.Ns mainGlobals mg->∃newId Bn Mo Mp B Mq Mr BZ,OwnCls x C BZ newId mg h/\ExcBaseFacts Bn newId Mo Mp/\BZ.contains (.type Bn)=true/\ExcBaseFacts B Mq Mr BZ
theorem ck6{C:Addr}{np cj:Pos}(hm:FT X.K X.mg x C)(hc:X.calm=true)(hg:Gl X x)(ha:PA X (e::es) (lA t))(cS:(x==("__debug__":Str))=false:=by decide)
  (he:starEach (e::es) X.env=(false,eval e X.env)::starEach es X.env:=by rfl) (bu:(backTo cj (starEach es X.env)).any (·.1)=false:=by rfl) :
  PS X (.Raise (some (.Call (.Name x np) (e::es) [] cj)) none pos) (lS X (rS C t)):=by
 intro pins s σ H D I zz
 obtain⟨B,F,δ,Dd,c,q,k1,k2,k3,k4,xl⟩:=zz
 obtain⟨newId,Bn,Mo,Mp,B',Mq,Mr,BZ,O,Fn,hBn,FB⟩:=hm.own X.base I.ok.mod.nE I.ok.mod.glob
 obtain⟨tl,N,nm,qn,bs,hdct,sn,sub,ab,col,dd,k0,ud,wB,k3',k5,mN,hC,hN,mP,T⟩:=O.obj
 refine wpAny_Raise_call_subU (k5:=k5) (k3:=k3') (k2:=wB) (k1:=ud) (k0:=k0) (dd:=dd) (col:=col) (ab:=ab) (sub:=sub) (sn:=sn) (hdct:=hdct) (bs:=bs) (N:=N) (q:=qn) (nm:=nm) (C:=C) Fn hBn FB (mN:=mN) (T.hasType FB.hasBase) (I.ok.hd hc) (by rw[he];show(false||(backTo cj (starEach es X.env)).any (·.1))=false;rw[bu];rfl) mP (tJ I hg O.bound ⟨rfl,?_⟩ cS)
 have B0:=ha cj pins s σ H (λvs H1=>vs.length<=9/\∃ah F',Dd.xr C ah/\ak B F' H1 σ ah []) I ⟨B,F,δ,[],_,c,q,λds aj vs F1 H1 q1 f1 h1 c1 s1=>⟨by rw[<-s1.length];exact q1.1,aj,F1,q1.2,c1⟩⟩
 rw[he]at B0 ⊢
 refine Calls.evalArgs_plain (wpAny_mono B0 (λus s2 h2=>?_) λ_ _ y=>y)
 obtain⟨vs,H1,I1,r,hl,ah,F',hx,c'⟩:=h2
 exact⟨rfl,by rw[<-r.length];exact fG hl (by decide),I1.bk _ _ hC,hN.keeps I1.bk,T.keeps I1.bk,λh' e' hm'=>xl.2 C ah pins σ F' H1 s2 h' e' _ hx c' I1 hm'⟩
end
end L3
namespace L3
open PySem L2 PySem.Spec PyProof.Rows
section
variable{X:Cx}{pins vU:List (Addr × Obj)}{σ:L2.St}{H:Hp}{s:Shared}{a:Addr}
noncomputable abbrev tr(X:Cx)(xe:Value->Shared->Prop)(pn:List (Addr × Obj)):Cx:={ X with xe:=xe,pn:=pn }
noncomputable abbrev wI(X:Cx)(A:Around)(xe:Value->Shared->Prop):Cx:={ X with A:=A,calm:=false,xe:=xe }
theorem cz5(ok:X.Ok)(xe:Value->Shared->Prop)(pn:List (Addr × Obj)):(tr X xe pn).Ok :=
 ⟨ok.mod,ok.kind,ok.glob,ok.blt,ok.above,ok.inj,ok.has,ok.nG,ok.hd,ok.frames,ok.tH,ok.tI,ok.bs,ok.ji,ok.qm,ok.qo,ok.gq,ok.jj⟩
theorem cs2(I:Inv X pins σ H s)(xe:Value->Shared->Prop):Inv (tr X xe (X.pn++pins)) [] σ H s :=
 ⟨cz5 I.ok _ _,I.os,I.bare,I.base,I.loc,I.cell,I.free,I.f9,λp hp=>I.pin p (by simpa using hp),I.aI,I.len⟩
theorem yR{xe:Value->Shared->Prop}(ok:X.Ok)(I:Inv (tr X xe (X.pn++pins)) vU σ H s):Inv X pins σ H s :=
 ⟨ok,I.os,I.bare,I.base,I.loc,I.cell,I.free,I.f9,λp hp=>I.pin p (eN _ hp),I.aI,I.len⟩
theorem Ms{xe:Value->Shared->Prop}(p:Apart (tr X xe (X.pn++pins)) vU H a):Apart X pins H a:=⟨p.old,p.free,p.loc,p.cell,λq hq=>p.pin q (eN _ hq),p.fr⟩
theorem cq8(ok:X.Ok){A:Around}(hA:A.frames=X.A.frames)(xe:Value->Shared->Prop):(wI X A xe).Ok :=
 ⟨ok.mod,ok.kind,ok.glob,ok.blt,ok.above,ok.inj,ok.has,ok.nG,(λh=>Bool.noConfusion h),hA.trans ok.frames,ok.tH,ok.tI,ok.bs,ok.ji,ok.qm,ok.qo,ok.gq,ok.jj⟩
theorem Mt(I:Inv X pins σ H s){A:Around}(hA:A.frames=X.A.frames)(xe:Value->Shared->Prop):Inv (wI X A xe) pins σ H s :=
 ⟨cq8 I.ok hA xe,I.os,I.bare,I.base,I.loc,I.cell,I.free,I.f9,I.pin,I.aI,I.len⟩
theorem bY5{A:Around}{xe:Value->Shared->Prop}(ok:X.Ok)(I:Inv (wI X A xe) pins σ H s):Inv X pins σ H s:=⟨ok,I.os,I.bare,I.base,I.loc,I.cell,I.free,I.f9,I.pin,I.aI,I.len⟩
theorem bX5{φ:Heap->Prop}(I:Inv X pins σ H s)(pa:Apart X pins H a)(ho:∃o,s.heap.get? a=some o)(h1:φ s.heap)(h2:∀g g':Heap,φ g->(∀o,g.get? a=some o->g'.get? a=some o)->φ g'):Inv X pins σ (upd H a (.ext φ)) s:=by
 have ne:∀{b:Addr} {u:HO},H b=some u->b≠a:=λ{b u} q=>dX q pa.free
 refine⟨I.ok,I.os,I.bare,⟨I.base.keep,I.base.slot,λb o e n hx=>?_,I.base.there,λb xs e=>?_,λb o xs e=>?_,λb ps e=>?_⟩,I.loc,I.cell,?_,λx c e=>?_,λp hp=>?_,λb u e=>?_,I.len⟩
 ·rw[aT (λz=>by rw[z,pa.old]at e;cases e)];exact I.base.free b o e n hx
 ·have q:=I.base.iW b xs e;rw[aT (ne q)];exact q
 ·have q:=I.base.iy b o xs e;rw[aT (ne q)];exact q
 ·obtain⟨m,q⟩:=I.base.gK b ps e;exact⟨m,by rw[aT (ne q)];exact q⟩
 ·rw[aT (e7 pa.loc)];exact I.free
 ·rw[aT (pa.cell x c e)];exact I.f9 x c e
 ·obtain⟨q1,q2,q3,q4,q5⟩:=I.pin p hp
  exact⟨q1,by rw[aT (pa.pin p hp)];exact q2,q3,q4,q5⟩
 ·by_cases hb:b=a
  ·subst hb;rw[bI]at e;cases e;exact⟨h1,ho,λg g' p kk=>h2 g g' p λo q=>kk _ o (.inl rfl) q⟩
  ·rw[aT hb]at e
   exact(I.aI b u e).jh (λ_ _ _ q=>q) (λc q=>by rw[aT (ne q)];exact q) (λc xs q=>by rw[aT (ne q)];exact q) λc xs q=>by rw[aT (ne q)];exact q
end
theorem ak.unset{B:Bs}{F H:Hp}{σ:L2.St}{δ:Dl}{ts:List (D × V)}(c:ak B F H σ δ ts)(i:Nat):ak B F H (σ.set i none) (δ.set i none) ts:=by
 obtain⟨A,C,r,q,nd,fr⟩:=(c.forget i).own
 refine⟨c.ext,c.b1,c.b2,c.b3,A,C,r,q.wo none ?_,nd,fr⟩
 by_cases h:i<δ.length
 ·exact .inl (by rw[Av h])
 ·exact .inr (by rw[gn (by simpa using h)])
noncomputable abbrev exc(C:Addr):D:=.bx (.ext λa=>mE a C)
theorem Mu{h:Heap}{a T C:Addr}(t:iG h a T (.ref C)):mE a C h:=by
 obtain⟨oe,vs,oT,ts,h1,h2,h3,h4,_⟩:=t
 exact⟨oe,h1,h2,by obtain⟨c,d,dt,sl⟩:=oe;cases h4;rfl,h3⟩
theorem b64{a C:Addr}(g g':Heap)(h:mE a C g)(k:∀o,g.get? a=some o->g'.get? a=some o):mE a C g':=let⟨o,h1,r⟩:=h;⟨o,k o h1,r⟩
section
variable{X:Cx}{tb th:cV}{body FU:List Stmt}{FV:Stmt}{K n:Str}{Kc:Addr}{i:Nat}{kp Mv pos:Pos}
noncomputable def rT(K:PySem.W.Frag)(c:Value)(i:Nat)(tb th:cV):cV:=λD δ=>tb { D with
 xc:=λC ah=>PySem.W.exmOne K (.ref C) c=some true/\th { nx:=λa7=>D.nx (a7.set i none),rt:=λ_=>False } (ah.set i (some (exc C)))
 xr:=λ_ _=>False } δ
theorem cE8(hb:∀xe pn,PSs (tr X xe pn) body (lS (tr X xe pn) tb))(hsu:∀A' xe,PSs (wI X A' xe) (FV::FU) (lS (wI X A' xe) th))(hg:Gl X K)(hm:X.mg K=some (.ref Kc))(hN:X.N.Nodup)(hi:X.N[i]?=some n)
  (hl:X.env.scope.names.lookup n=some .local) (hex:X.ex=[]) (cy:X.stack=X.env::X.outer) (hf:X.env.frame=some X.env.locals) (cS:(K==("__debug__":Str))=false:=by decide) :
  PS X (.Try body [.ExceptHandler (some (.Name K kp)) (some n) (FV::FU) Mv] [] [] pos) (lS X (rT X.K (.ref Kc) i tb th)):=by
 intro pins s σ H D I zz
 obtain⟨B,F,δ,Dd,c,q,k1,k2,k3,k4,xl⟩:=zz
 refine wpAny_Try_except (wpAny_mono (hb (λe s'=>∃a T C aF F' H' ah,e=.ref a/\Inv X pins aF H' s'/\iG s'.heap a T (.ref C)/\Apart X pins H' a/\Apart X pins H' T/\ak B F' H' aF ah []/\PySem.W.exmOne X.K (.ref C) (.ref Kc)=some true/\th { nx:=λa7=>Dd.nx (a7.set i none),rt:=λ_=>False } (ah.set i (some (exc C)))) (X.pn++pins) [] s σ H D (cs2 I _) ⟨B,F,δ,_,c,q,k1,k2,k3,k4,λC ah vU aF F' H' s' a T hx c' I' E6 pa pT=>⟨a,T,C,aF,F',H',ah,rfl,yR I.ok I',E6,Ms pa,Ms pT,c',hx⟩,λ_ _ _ _ _ _ _ _ _ _ z=>z.elim⟩) (λf s1 hS=>?_) λe s1 hx=>?_)
 ·cases f with
  | next=>obtain⟨aF,H',I',q'⟩:=hS;exact qt (X:=X) pins s1 aF H' D (yR I.ok I') q'
  | brk=>obtain⟨aF,H',I',q'⟩:=hS;exact⟨aF,H',yR I.ok I',q'⟩
  | cont=>obtain⟨aF,H',I',q'⟩:=hS;exact⟨aF,H',yR I.ok I',q'⟩
  | ret u=>obtain⟨v,aF,H',I',r',q'⟩:=hS;exact⟨v,aF,H',yR I.ok I',r',q'⟩
 ·obtain⟨a,T,C,aF,F',H',ah,rfl,I1,t1,pa,pT,c1,bO,hth⟩:=hx
  refine Zx I1 cy hex hf t1 pa pT λh2 T2 I2 t2 pT2=>?_
  refine wpAny_handleBy_cons (codeAny_handlers_test (tJ (X:=wI X (X.A.mark (some (.ref a))) X.xe) (Mt (A:=X.A.mark (some (.ref a))) I2 rfl X.xe) hg hm ?_ cS)) (by intro z;cases z)
  have x2:=Mu t2
  obtain⟨o2,e2,hc2,_⟩:=id x2
  have LT:PySem.W.Looks (model X.prog X.w) h2 (typeOf (.ref a)) (.ref C):=hc2 ▸ (PySem.W.Looks.ld e2).andThen .now
  refine(PySem.W.exm_one I2.cQ LT bO).here ?_
  refine codeAny_handlers_suite_as (Zy I2 hex t2 pT2 λh3 I3 t3=>?_)
  have x3:=Mu t3
  have I4:=bX5 (φ:=mE a C) I3 pa (x3.imp λo z=>z.1) x3 (λg g' z k=>b64 g g' z k)
  refine A8 I4 hN hi (.inl hl) (v:=.ref a) rfl (λs5 I5=>?_) (.inr hl)
  refine wpAny_mono (hsu _ _ pins s5 _ _ { nx:=λjM H2=>D.nx (jM.set i none) H2,rt:=λ_ _=>False } (Mt (A:=X.A.mark (some (.ref a))) I5 rfl _) ⟨B,F',ah.set i (some (exc C)),_,?_,hth,λa7 jM F2 H2 hn c2=>k1 _ _ F2 H2 hn (c2.unset i),λ_ _ _ _ _ _ z=>z.elim,λ_ _ _ _ z=>z.elim,λ_ _ _ _ z=>z.elim,XL.none (λ_ _ z=>z) λ_ _ z=>z⟩) (λf s6 hS=>?_) λ_ _ z=>z
  ·exact((c1.grow (af.upd pa.free)).pushS (d:=exc C) (v:=.ref a) (.bx bI .nil) rfl).store i
  ·cases f with
   | next =>
    obtain⟨Bk,H6,I6,q6⟩:=hS
    exact Zz (bY5 I.ok I6) hN hi hl λs7 I7=>⟨_,H6,I7,q6⟩
   | brk=>obtain⟨_,_,_,z⟩:=hS;exact z.elim
   | cont=>obtain⟨_,_,_,z⟩:=hS;exact z.elim
   | ret u=>obtain⟨_,_,_,_,_,z⟩:=hS;exact z.elim
end
end L3
namespace L3
open PySem L2 PySem.Spec PyProof.Rows
noncomputable def FW:V->Option Value
 | .ref a=>some (.ref a)
 | .ty n=>some (.type n)
 | _=>none
theorem ch9{c:V}{u cv:Value}(h:FW c=some cv)(r:RelV c u):u=cv:=by
 cases c<;>cases h<;>exact r
inductive B4(K:PySem.W.Frag)(H:Hp):V->Value->Prop where
 | ty {v:V} {t:Value} (h:iA K H v t):B4 K H v t
 | exc {a C:Addr} (e:H a=some (.ext (mE a C))) (x:wg K C):B4 K H (.ref a) (.ref C)
noncomputable def cH6(K:PySem.W.Frag):List V->Hp->VK->Prop:=λxs H Q=>∃x c cv t b,xs=[x,c]/\FW c=some cv/\B4 K H x t/\PySem.W.kitOne K t cv=some b/\Q (.bl b) H
section
variable{X:Cx}{F H:Hp}{v:V}{a:Expr}{ta:aO}{p pos:Pos}
theorem bR5:gu X (.builtin "isinstance") (cH6 X.K):=by
 intro pins s σ H xs us Q I r h
 obtain⟨x,c,cv,t,b,rfl,hv,ty,e,q⟩:=h
 obtain⟨u,v,rfl,ru,rv⟩:=r.two
 cases ch9 hv rv
 cases ty with
 | ty ty=>exact Km I ru ty e λtk=>⟨.bl b,H,I.tok _,rfl,q⟩
 | @exc a C ea x =>
  cases(show u=fq a from ru)
  obtain⟨xa,_,_⟩:=(show eG X.prog X.w H s.heap a (.ext (mE a C)) from I.aI a _ ea)
  exact PySem.W.kia_one (ZK x) I.cQ xa e (λz=>nomatch z) λtk=>⟨.bl b,H,I.tok _,rfl,q⟩
noncomputable def FX(K:PySem.W.Frag)(cv:Value)(d:D)(r:Bool):Prop:=match d with
 | .bx φ=>∃C,(φ=.ext λa=>mE a C)/\wg K C/\PySem.W.kitOne K (.ref C) cv=some r
 | d=>∃k,BV d=some k/\PySem.W.kitOne K (.type k) cv=some r
theorem cx1{K:PySem.W.Frag}{cv:Value}{d:D}{r:Bool}(s:S F H [d] [v])(e:af F H)(h:FX K cv d r):∃t,B4 K H v t/\PySem.W.kitOne K t cv=some r:=by
 cases s with
 | bx h' _=>obtain⟨C,rfl,x,k⟩:=h;exact⟨_,.exc h' x,k⟩
 | int z=>obtain⟨k,hk,h⟩:=h;exact⟨_,.ty (oJ (.int .nil) e hk),h⟩
 | bl z=>obtain⟨k,hk,h⟩:=h;exact⟨_,.ty (oJ (.bl .nil) e hk),h⟩
 | au z=>obtain⟨k,hk,h⟩:=h;exact⟨_,.ty (oJ (.au .nil) e hk),h⟩
 | str z=>obtain⟨k,hk,h⟩:=h;exact⟨_,.ty (oJ (.str .nil) e hk),h⟩
 | shr h' q z=>obtain⟨k,hk,h⟩:=h;exact⟨_,.ty (oJ (.shr h' q .nil) e hk),h⟩
 | own h' q z=>obtain⟨k,hk,h⟩:=h;exact⟨_,.ty (oJ (.own h' q .nil) e hk),h⟩
 | fz h' q z=>obtain⟨k,hk,h⟩:=h;exact⟨_,.ty (oJ (.fz h' q .nil) e hk),h⟩
 | tup h' q z=>obtain⟨k,hk,h⟩:=h;exact⟨_,.ty (oJ (.tup h' q .nil) e hk),h⟩
 | obj _ _ _ _=>obtain⟨k,hk,h⟩:=h;cases hk
noncomputable def kH(K:PySem.W.Frag)(cv:Value)(t:aO):aO:=λδ Q=>t δ λd ah=>∃r,FX K cv d r/\Q (.bl r) ah
theorem Mw{y:Str}{q:Pos}{c:V}{cv:Value}(hg:Gl X "isinstance")(hm:X.mg "isinstance"=none)(hc:PE X (.Name y q) (tC c))(hcv:FW c=some cv)(ha:PE X a (lB ta))
  (hs:starEach [a,.Name y q] X.env=(false,eval a X.env)::starEach [.Name y q] X.env) (dA:starEach [.Name y q] X.env=(false,eval (.Name y q) X.env)::starEach [] X.env) (bu:(backTo pos (starEach [.Name y q] X.env)).any (·.1)=false) :
  PE X (.Call (.Name "isinstance" p) [a,.Name y q] [] pos) (lE (kH X.K cv ta)) :=
 dF (Bq bR5 hg hm Le (bN ha (bN hc eX dA) hs) (by decide) (by decide) hs bu) λσ H Q zq=>by
 obtain⟨B,F,δ,ts,Qd,c,q,k⟩:=zq
 exact⟨B,F,δ,ts,_,c,q,λd aj v F1 H1 q1 f1 h1 c1 s1=>by
  obtain⟨r,e,qr⟩:=q1
  obtain⟨t,h2,h3⟩:=cx1 (K:=X.K) s1 c1.ext e
  exact⟨v,_,_,t,r,rfl,hcv,h2,h3,k _ aj _ F1 H1 qr f1 h1 (c1.pushS (.bl .nil) rfl)⟩⟩
theorem cx9{y:Str}{q:Pos}{C:Addr}(hg:Gl X "isinstance")(hm:X.mg "isinstance"=none)(oK:Gl X y)(kG:X.mg y=some (.ref C))(ha:PE X a (lB ta))(hd:(y==("__debug__":Str))=false:=by decide)
  (hs:starEach [a,.Name y q] X.env=(false,eval a X.env)::starEach [.Name y q] X.env:=by rfl) (dA:starEach [.Name y q] X.env=(false,eval (.Name y q) X.env)::starEach [] X.env:=by rfl) (bu:(backTo pos (starEach [.Name y q] X.env)).any (·.1)=false:=by rfl) :
  PE X (.Call (.Name "isinstance" p) [a,.Name y q] [] pos) (lE (kH X.K (.ref C) ta)) :=
 Mw hg hm (Wk (v:=.ref C) oK kG rfl hd) rfl ha hs dA bu
theorem cw3{n:String}{y:Str}{q:Pos}(hg:Gl X "isinstance")(hm:X.mg "isinstance"=none)(oK:Gl X y)(kG:X.mg y=none)(yN:bootBuiltins y=some (.type n))(ha:PE X a (lB ta))
  (hn:y≠"__name__":=by decide) (hd:(y==("__debug__":Str))=false:=by decide)
  (hs:starEach [a,.Name y q] X.env=(false,eval a X.env)::starEach [.Name y q] X.env:=by rfl) (dA:starEach [.Name y q] X.env=(false,eval (.Name y q) X.env)::starEach [] X.env:=by rfl) (bu:(backTo pos (starEach [.Name y q] X.env)).any (·.1)=false:=by rfl) :
  PE X (.Call (.Name "isinstance" p) [a,.Name y q] [] pos) (lE (kH X.K (.type n) ta)) :=
 Mw hg hm (Ll oK kG yN hn hd) rfl ha hs dA bu
end
section
variable{K:PySem.W.Frag}{mg:Str->Option Value}{x:Str}{C:Addr}
theorem cO6(hm:mg x=some (.ref C))(q:PySem.W.excIn K C [.type "ValueError",.type "Exception",.type "BaseException",.type "object"] "ValueError.__new__"=true):FT K mg x C:=by
 refine⟨λh X G=>⟨"ValueError.__new__","ValueError",_,_,"ValueError",_,_,[.type "ValueError",.type "Exception",.type "BaseException",.type "object"],?_,PySem.F.excBase_ValueError,rfl,PySem.F.excBase_ValueError⟩⟩
 refine⟨hm,?_⟩
 unfold PySem.W.excIn at q
 split at q
 ·rename_i dd cd sl ho
  split at q
  ·rename_i C' bm k0 k1 k2 k3 n k5 hm hs
   simp only[eU,beq_iff_eq,Bool.not_eq_true']at q
   obtain⟨⟨⟨⟨⟨rfl,rfl⟩,Mx⟩,ht⟩,aI⟩,mP⟩:=q
   obtain⟨nm,bs,mro,ns,qn,hd,sn,sub,ab,col,del⟩:=cd
   dsimp only at hm Mx aI mP
   subst hm Mx
   have hsl:sl=#[k0,k1,k2,k3,some (.builtin "ValueError.__new__"),k5]:=by
    obtain⟨l⟩:=sl
    simp only at hs
    rw[hs]
   subst hsl
   exact⟨bm,ns,nm,qn,bs,hd,sn,sub,ab,col,dd,k0,k1,k2,k3,k5,_,X _ _ ho,.of_isNs (PySem.W.isNs_of_in X aI),PySem.W.nsMap_none_of_in X aI mP,PySem.W.tail_of_in X ht⟩
  ·cases q
 ·cases q
open PySem.W in
theorem cO8{c:Value}:kitOne K c c=some true:=by
 unfold kitOne
 rw[if_pos (by simp)]
open PySem.W in
theorem kit_cls{t:Value}{b:Bool}(jS:(t==.ref C)=false)(h1:(clsIn K C).isSome=true)(h2:typeIn K (.ref C)=some (.type "type"))(h3:subIn K t (.ref C)=some b):kitOne K t (.ref C)=some b:=by
 unfold kitOne kitCls
 rw[jS]
 simp only[mh,if_false]
 rw[h1,h2,if_pos (by rfl),h3]
open PySem.W in
theorem cO9{t:Value}{n:String}{b:Bool}(jS:(t==.type n)=false)(h1:kitMeta n=true)(h3:subIn K t (.type n)=some b):kitOne K t (.type n)=some b:=by
 unfold kitOne kitCls
 rw[jS]
 simp only[mh,if_false]
 rw[if_pos h1,h3]
open PySem.W in
theorem exm_cls{t:Value}{b:Bool}(h1:(clsIn K C).isSome=true)(h2:typeIn K (.ref C)=some (.type "type"))(h0:subIn K (.ref C) (.type "BaseException")=some true)(h3:subIn K t (.ref C)=some b):exmOne K t (.ref C)=some b:=by
 unfold exmOne kitCls
 rw[h0,if_pos (by rfl)]
 simp only
 rw[h1,h2,if_pos (by rfl),h3]
end
theorem cB9{P:Program}{w:World}{X:Cx}:jO (kz P w) X E0:=by
 rintro _ _ _ _ _ _ _ ⟨_,_,_,_,_,_,_,_,_,_,_,_,_,_,z⟩
 exact z.elim
theorem ci2{P:Program}{w:World}{K:PySem.W.Frag}{mg:Str->Option Value}{base:Heap}{k:Nat}{f:Addr}{fd:FuncData}{ps:List Str}{sp:oS}(h:aH P w K mg base (kz P w) k f fd ps (oU sp)) :
  aH P w K mg base (kz P w) k f fd ps (a6 λds Q=>sp ds Q λ_=>False) :=
 h.imp λvs H Q E zq=>by
 obtain⟨F,ds,Qd,e,r,q,k⟩:=zq
 exact⟨F,ds,Qd,_,e,r,q,k,λ_ _ z=>z.elim⟩
end L3
namespace L3
open PySem L2 PySem.Spec PyProof.Rows
theorem jx{CX:eP}{P:Program}{w:World}{K:PySem.W.Frag}{mg:Str->Option Value}{base:Heap}{N:List Str}{q:Str}{sc:Scope}{f:Addr}{ay:Value}{A:Around}{outer:List Env}{s:Shared}{H:Hp}{E:XK}:(iX CX P w K mg base N q sc f ay A outer s H E).K=K:=rfl
theorem yS{K:PySem.W.Frag}{cv:Value}{C:Addr}{r:Bool}(x:wg K C)(h:PySem.W.kitOne K (.ref C) cv=some r):FX K cv (exc C) r:=⟨C,rfl,x,h⟩
theorem uO(φ:wm):(D.bx φ).pl=true:=rfl
theorem uP(φ:wm):(D.bx φ).sh=.bx φ:=rfl
end L3
namespace L3
open PySem L2 PySem.Spec PyProof.Rows
theorem jy{X:Cx}:X.g7.K=X.K:=rfl
end L3
namespace L3
open PySem L2 PySem.Spec PyProof.Rows
noncomputable def dG(xs ys:List D):List D:=dm (λx y=>D.tup [x,y]) xs ys
noncomputable def fU(xs:List D):List D:=xs.mapIdx λi x=>D.tup [.int i,x]
theorem FY(xs ys:List D):(dG xs ys).map D.sh=dG (xs.map D.sh) (ys.map D.sh):=by
 unfold dG
 rw[DY,AK]
 congr 1
theorem Mz{xs ys:List D}(h1:xs.all D.pl=true)(h2:ys.all D.pl=true):(dG xs ys).all D.pl=true:=by
 unfold dG
 rw[dy]at h1 h2 ⊢
 intro d hd
 obtain⟨i,hi,e⟩:=gI hd
 rw[List.getElem_zipWith]at e
 subst e
 rw[jU]
 simp only[de,qj,kn,eU]
 exact⟨h1 _ (dE _),h2 _ (dE _)⟩
theorem b60(xs:List D):(fU xs).map D.sh=fU (xs.map D.sh):=by
 unfold fU
 apply JA
 intro i
 simp only[cu,AL,Option.map_map]
 cases xs[i]? with
 | none=>rfl
 | some x =>
  show some (D.sh (.tup [.int i,x]))=some (D.tup [.int i,x.sh])
  rw[kC];rfl
theorem b57{xs:List D}(h1:xs.all D.pl=true):(fU xs).all D.pl=true:=by
 unfold fU
 rw[dy]at h1 ⊢
 intro d hd
 obtain⟨i,hi,e⟩:=gI hd
 rw[List.getElem_mapIdx]at e
 subst e
 rw[jU]
 simp only[de,qj,kn,eU]
 exact⟨rfl,h1 _ (dE _)⟩
theorem uQ(xs:List D):(fU xs).length=xs.length:=by simp[fU]
theorem FZ(xs ys:List D):(dG xs ys).length=min xs.length ys.length:=by simp[dG]
section
variable{F H:Hp}{d:D}{v:V}{xs ys:List D}{ws us:List V}{p q:Addr}{K:PySem.W.Frag}
theorem yT(s:S F H [d] [v])(e2:af F H)(e:i6 d=some xs):∃p ws,v=.ref p/\Rd H p (.lst ws)/\R H H (xs.map D.sh) ws []/\(d.pl=true->xs.all D.pl=true/\Rd F p (.lst ws)/\R F H xs ws []):=by
 cases s with
 | @shr p ws ys _ _ hp r _ =>
  obtain rfl:=c9 e
  refine⟨p,ws,rfl,.inl (e2 _ _ hp),?_,λ_=>⟨r.pl,.inl hp,r⟩⟩
  rw[kZ r.pl]
  exact r.shared e2 (af.refl _)
 | @own p ws ys _ _ hp r _ =>
  obtain rfl:=c9 e
  exact⟨p,ws,rfl,.inl hp,r.frozen e2,λz=>by simp[fB]at z⟩
 | @fz p o ws ys _ _ hp r _ =>
  obtain rfl:=c9 e
  refine⟨p,ws,rfl,.inr ⟨o,e2 _ _ hp⟩,?_,λ_=>⟨r.pl,.inr ⟨o,hp⟩,r⟩⟩
  rw[kZ r.pl]
  exact r.shared e2 (af.refl _)
 | au _=>cases e
 | bl _=>cases e
 | int _=>cases e
 | str _=>cases e
 | tup _ _ _=>cases e
 | obj _ _ _ _=>cases e
 | bx _ _=>cases e
theorem F8(r:R F H xs ws []){i:Nat}(hi:i<xs.length){x:V}(hx:ws[i]?=some x):R F H [xs[i]] [x] []:=by
 obtain⟨v,A1,e2,r1,sub⟩:=r.get (aM hi)
 rw[hx]at e2;cases e2
 have:A1=[]:=VH.mpr λa ha=>by simpa using sub ha
 subst this
 exact r1
theorem B5(hp:Rd F p (.lst ws))(r:R F H xs ws [])(hq:Rd F q (.lst us))(t:R F H ys us [])(hF:Full F H):JD (E7 K p q) F (dG xs ys) where
 go:=λi H' hs hi=>by
  rw[FZ]at hi
  have l1:=r.length
  have l2:=t.length
  exact⟨ws,us,_,_,.inl (hV hp hs),.inl (hV hq hs),aM (show i<ws.length by omega),aM (show i<us.length by omega)⟩
 ky:=λi H' v H2 hs hi zz=>by
  obtain⟨T,x,y,e1,e2,e3,hx,hy⟩:=zz
  subst e1 e3
  have B6:=hi
  rw[FZ]at B6
  have h1:=F8 (r.full hF hs rfl) (show i<xs.length by omega) (hx ws (.inl (hV hp hs)))
  have h2:=F8 (t.full hF hs rfl) (show i<ys.length by omega) (hy us (.inl (hV hq hs)))
  have sm:=af.upd (o:=.tup [x,y]) e2
  refine⟨_,aM hi,sm,?_⟩
  have eg:(dG xs ys)[i]=.tup [xs[i]'(by omega),ys[i]'(by omega)]:=by simp[dG]
  rw[eg]
  exact R.tup (A:=[]) (B:=[]) bI ((h1.shared (af.refl _) sm).cons (h2.shared (af.refl _) sm)) .nil
 stop:=λi H' hs hi=>by
  rw[FZ]at hi
  have l1:=r.length
  have l2:=t.length
  exact⟨ws,us,.inl (hV hp hs),.inl (hV hq hs),by omega⟩
theorem MA(hp:Rd F p (.lst ws))(r:R F H xs ws [])(hF:Full F H):JD (Fe K p) F (fU xs) where
 go:=λi H' hs hi=>by
  rw[uQ]at hi
  have l1:=r.length
  exact⟨ws,_,.inl (hV hp hs),aM (show i<ws.length by omega)⟩
 ky:=λi H' v H2 hs hi zz=>by
  obtain⟨T,x,e1,e2,e3,hx⟩:=zz
  subst e1 e3
  have B6:=hi
  rw[uQ]at B6
  have h1:=F8 (r.full hF hs rfl) B6 (hx ws (.inl (hV hp hs)))
  have sm:=af.upd (o:=.tup [.int i,x]) e2
  refine⟨_,aM hi,sm,?_⟩
  have eg:(fU xs)[i]=.tup [.int i,xs[i]]:=by simp[fU]
  rw[eg]
  exact R.tup (A:=[]) (B:=[]) bI (.int (h1.shared (af.refl _) sm)) .nil
 stop:=λi H' hs hi=>by
  rw[uQ]at hi
  have l1:=r.length
  exact⟨ws,.inl (hV hp hs),by omega⟩
end
section
variable{X:Cx}{a b:Expr}{ta:cm}{p pos nJ:Pos}{elts:List Expr}{x1:Nat}
noncomputable def rU(t:cm):i5:=λδ Q=>t δ λds ah=>match ds with
 | [d1,d2]=>∃xs ys,i6 d1=some xs/\i6 d2=some ys/\Q (d1.pl&&d2.pl) (dG xs ys) ah
 | _=>False
theorem wJ(hg:Gl X "zip")(hm:X.mg "zip"=none)(ha:PA X [a,b] (lA ta))(hs:starEach [a,b] X.env=[(false,eval a X.env),(false,eval b X.env)]:=by rfl)(dA:starEach [b] X.env=[(false,eval b X.env)]:=by rfl) :
  PI X (.Tuple elts x1 nJ) (.Call (.Name "zip" p) [a,b] [] pos) (lI (rU ta)) :=
 ua (LG hg hm ha hs dA) λσ H Q zq=>by
 obtain⟨B,F,δ,ts,Qd,c,q,k⟩:=zq
 exact⟨B,F,δ,ts,_,c,q,λds aj vs F1 H1 hd f1 h1 c1 s=>by
  match ds,hd,s with
  | [d1,d2],⟨xs,ys,i1,i2,hq⟩,s =>
   obtain⟨v1,bK,rfl,s1,s2⟩:=s.cH
   obtain⟨v2,dy6,rfl,s2,s3⟩:=s2.cH
   cases s3
   have e2:=c1.ext
   have sn:=qG e2
   obtain⟨p1,w1,rfl,r1,t1,u1⟩:=yT s1 e2 i1
   obtain⟨p2,w2,rfl,r2,t2,u2⟩:=yT s2 e2 i2
   refine⟨p1,p2,rfl,⟨w1,.inl r1⟩,⟨w2,.inl r2⟩,k _ _ aj _ _ H1 hq (f1.trans sn) h1 c1.snap ?_ λz=>?_⟩
   ·rw[FY]
    exact B5 r1 t1 r2 t2 (Full.refl _)
   ·rw[eU]at z
    obtain⟨a1,a2,a3⟩:=u1 z.1
    obtain⟨b1,b2,b3⟩:=u2 z.2
    exact⟨Mz a1 b1,B5 (hV a2 sn) (a3.shared sn (af.refl _)) (hV b2 sn) (b3.shared sn (af.refl _)) tZ⟩⟩
noncomputable def rV(t:cm):i5:=λδ Q=>t δ λds ah=>match ds with
 | [d1]=>∃xs,i6 d1=some xs/\Q d1.pl (fU xs) ah
 | _=>False
theorem wK(hg:Gl X "enumerate")(hm:X.mg "enumerate"=none)(ha:PA X [a] (lA ta))(hs:starEach [a] X.env=[(false,eval a X.env)]:=by rfl) :
  PI X (.Tuple elts x1 nJ) (.Call (.Name "enumerate" p) [a] [] pos) (lI (rV ta)) :=
 ua (ZZ hg hm ha hs) λσ H Q zq=>by
 obtain⟨B,F,δ,ts,Qd,c,q,k⟩:=zq
 exact⟨B,F,δ,ts,_,c,q,λds aj vs F1 H1 hd f1 h1 c1 s=>by
  match ds,hd,s with
  | [d1],⟨xs,i1,hq⟩,s =>
   obtain⟨v1,bK,rfl,s1,s2⟩:=s.cH
   cases s2
   have e2:=c1.ext
   have sn:=qG e2
   obtain⟨p1,w1,rfl,r1,t1,u1⟩:=yT s1 e2 i1
   refine⟨p1,rfl,⟨w1,.inl r1⟩,k _ _ aj _ _ H1 hq (f1.trans sn) h1 c1.snap ?_ λz=>?_⟩
   ·rw[b60]
    exact MA r1 t1 (Full.refl _)
   ·obtain⟨a1,a2,a3⟩:=u1 z
    exact⟨b57 a1,MA (hV a2 sn) (a3.shared sn (af.refl _)) tZ⟩⟩
end
end L3
namespace L3
open PySem L2 PySem.Spec PyProof.Rows
section
variable{X:Cx}{F H:Hp}{e b:Expr}{pos p p2 p3 pr apos cj FN:Pos}{t ti te:aO}{x y:Str}{i j:Nat}
theorem B7{α:Type}{xs:List α}{k:Nat}{v:α}(h:xs[k]?=some v):fA xs (k:Int)=some v:=by
 unfold fA jP
 have hk:k<xs.length:=(km.mp h).1
 rw[if_pos (by omega),if_pos (by omega)]
 exact h
end
section
variable{X:Cx}{CX:eP}{k:Nat}{f:Addr}{fd:FuncData}{ps:List Str}{sp:aW}{E:XK}{fn x1 x2 y1 y2:Str}{i1 i2 j1 j2:Nat}{tk:Nat}
 {tp t1 t2 zp dy7 q1 q2 fp dy8 a1 a2 dy9 dz0 dz1 cp FN pr apos cj dz2 pos:Pos}
end
end L3
namespace L3
open PySem L2 PySem.Spec PyProof.Rows
theorem ak.cP4{B:Bs}{F H:Hp}{σ:L2.St}{δ:Dl}{ts:List (D × V)}{a b:D}{v:V}(c:ak B F H σ δ ((.tup [a,b],v)::ts)):∃p u w,v=.ref p/\H p=some (.tup [u,w])/\ak B F H σ δ ((a,u)::(b,w)::ts):=by
 obtain⟨A,C,r,s,nd,fr⟩:=c.own
 cases r with
 | @tup p ws xs A1 _ _ B1 hp r1 r2 =>
  obtain⟨u,gP,A2,A3,rfl,rfl,h1,h2⟩:=r1.cH
  obtain⟨w,dz3,A4,A5,rfl,rfl,h3,h4⟩:=h2.cH
  cases h4
  refine⟨p,u,w,rfl,hp,c.ext,c.b1,c.b2,c.b3,A2++(A4++B1),C,h1.cons (h3.cons r2),s,?_,?_⟩
  ·simpa using nd
  ·intro a ha;exact fr a (by simpa using ha)
section
variable{X:Cx}{y1 y2:Str}{i1 i2 tk m:Nat}{t1 t2 tp:Pos}
noncomputable def iM(i1 i2:Nat):iJ:=λd δ Q=>match d with
 | .tup [a,b]=>Q ((δ.set i1 (some a)).set i2 (some b))
 | _=>False
theorem mQ(hc:X.calm=true)(B8:X.N.Nodup)(m1:X.N[i1]?=some y1)(l1:Loc X.env.scope y1)(m2:X.N[i2]?=some y2)(l2:Loc X.env.scope y2)(MB:m<=i1:=by decide)(kG:m<=i2:=by decide)
  (f1:X.fn y1=true\/X.env.scope.names.lookup y1=some .local:=by first | exact .inl rfl | exact .inr rfl | assumption) (f2:X.fn y2=true\/X.env.scope.names.lookup y2=some .local:=by first | exact .inl rfl | exact .inr rfl | assumption)
  (Ga:(assignEach [.Name y1 t1,.Name y2 t2] X.env).map (·.2)=assign (.Name y1 t1) X.env::(assignEach [.Name y2 t2] X.env).map (·.2):=by rfl) (Gb:(assignEach [.Name y2 t2] X.env).map (·.2)=assign (.Name y2 t2) X.env::(assignEach [] X.env).map (·.2):=by rfl)
  (hn:(assignEach [.Name y1 t1,.Name y2 t2] X.env).length=2:=by rfl) (cy:(assignEach [.Name y1 t1,.Name y2 t2] X.env).findIdx? (·.1)=none:=by rfl) :
  PG X (.Tuple [.Name y1 t1,.Name y2 t2] tk tp) (lG m (iM i1 i2)) :=
 LO (WL hc (J6 (Bh B8 m1 l1 f1) (J6 (Bh B8 m2 l2 f2) WJ Gb) Ga) hn cy) λv σ H Q zz=>by
  obtain⟨B,F,δ,ts,d,Qd,c,q,k⟩:=zz
  obtain⟨a,b,rfl,q⟩:∃a b,d=D.tup [a,b]/\Qd ((δ.set i1 (some a)).set i2 (some b)):=by
   unfold iM at q
   split at q
   ·exact⟨_,_,rfl,q⟩
   ·exact q.elim
  obtain⟨p,u,w,rfl,hp,c2⟩:=c.cP4
  refine⟨p,[u,w],rfl,iz.of hp,rfl,u,[w],rfl,w,[],rfl,rfl,k _ _ q (by simp) (λj hj=>?_) ((c2.store i1).store i2)⟩
  rw[sT (by omega),sT (by omega)]
end
open Classical in
theorem oV{α:Type}{sh:Bool}{xs:List D}{az:List (Str × Nat)}{n m:Nat}{te:aO}{aj:Dl}{Q:D->Dl->Prop}(l:List α)(e g:α->D)(jz:xs.map D.sh=l.map e)(inj:∀a b,e a=e b->a=b)
  (hx:∀a∈l,te ((fh az n aj).set m (some (e a))) λd _=>d=g a) (df:(sh&&az.all (gx aj))=true\/∀a∈l,(g a).fr=true) (hl:l.length<=sizeLine) (hq:Q (.lst true (l.map g)) aj):oo sh xs az n (gN m) i8 te aj Q:=by
 let f:D->D:=λx=>if h:∃a∈l,e a=x then g h.choose else .au
 have hf:∀a∈l,f (e a)=g a:=λa ha=>by
  have h:∃b∈l,e b=e a:=⟨a,ha,rfl⟩
  show(if h:∃b∈l,e b=e a then g h.choose else .au)=g a
  rw[dif_pos h]
  exact congrArg g (inj _ _ h.choose_spec.2)
 refine χ f (λx h=>?_) (df.imp id λh x hx=>?_) ?_ ?_
 ·rw[jz]at h
  obtain⟨a,ha,rfl⟩:=bw.mp h
  rw[hf a ha];exact hx a ha
 ·rw[jz]at hx
  obtain⟨a,ha,rfl⟩:=bw.mp hx
  rw[hf a ha];exact h a ha
 ·have:=congrArg AD jz
  simp at this
  omega
 ·rw[jz,bW,show l.map (f ∘ e)=l.map g from vG λa ha=>hf a ha]
  exact hq
end L3
namespace L3
open PySem L2 PySem.Spec PyProof.Rows
end L3
namespace L2
open PySem PySem.Spec PyProof.Rows
section
variable{X:Cx}
end
end L2
namespace L3
open PySem L2 PySem.Spec PyProof.Rows
noncomputable abbrev tx(l:List Nat):D:=.str ⟨l.toArray⟩
section
variable{X:Cx}{F H:Hp}{e:Expr}{es:List Expr}{t:aO}{pos p p2 apos cj:Pos}
noncomputable def oW(x:D)(lo hi:Option Int)(Q:D->Prop):Prop:=match x with
 | .lst _ xs=>xs.all D.pl=true/\Q (.lst true (fS xs lo hi))
 | .fz xs=>Q (.lst true (fS xs lo hi))
 | .str z=>z.length<=sizeLine/\Q (tx (fS z.cps.toList lo hi))
 | _=>False
noncomputable def rW(t:aO)(tl th:wC):aO:=λδ Q=>t δ λx aj=>tl aj λl a7=>th a7 λu iZ=>oW x l u λd=>Q d iZ
theorem yU{lo hi:Option Expr}{tl th:wC}(he:PE X e (lB t))(hl:PO X lo (lP tl))(hu:PO X hi (lP th)):PE X (.Subscript e (.Slice lo hi none p2) pos) (lE (rW t tl th)) :=
 dF (X4 (Yg.or Z2) he hl hu) λσ H Q zq=>by
 obtain⟨B,F,δ,ts,Qd,c,q,k⟩:=zq
 exact⟨B,F,δ,ts,_,c,q,λx aj v F1 H1 q1 f1 h1 c1 s1=>⟨B,F1,aj,ts,_,c1,q1,λl a7 F2 H2 q2 f2 h2 c2=>⟨B,F2,a7,ts,_,c2,q2,λu iZ F3 H3 q3 f3 h3 c3=>by
  have lH:=s1.mono (f2.trans f3) (h2.trans h3)
  unfold oW at q3
  split at q3
  ·obtain⟨p,ws,rfl,h,t⟩:=lh lH c3.ext rfl
   exact .inl ⟨p,ws,rfl,jZ h,λr hr=>k _ iZ _ F3 _ q3.2 ((f1.trans f2).trans f3) (((h1.trans h2).trans h3).trans (af.upd hr)) (c3.qH hr (t.cut _ _) (Mh q3.1 _ _))⟩
  ·obtain⟨p,ws,rfl,h,t⟩:=lh lH c3.ext rfl
   cases lH with
   | fz h' r _=>exact .inl ⟨_,_,rfl,jZ (.inr ⟨_,c3.ext _ _ h'⟩),λr' hr=>k _ iZ _ F3 _ q3 ((f1.trans f2).trans f3) (((h1.trans h2).trans h3).trans (af.upd hr)) (c3.qH hr (r.s.cut _ _) (Mh r.pl _ _))⟩
  ·cases lH with
   | str _=>exact .inr ⟨_,rfl,q3.1,k _ iZ _ F3 H3 q3.2 ((f1.trans f2).trans f3) ((h1.trans h2).trans h3) (c3.pushS (.str .nil) rfl)⟩
  ·exact q3.elim⟩⟩⟩
end
theorem uR(a:List Nat):(⟨a.toArray⟩:Str).length=a.length:=by show a.toArray.size=_;simp
end L3
namespace L3
open PySem L2 PySem.Spec PyProof.Rows
noncomputable def aq(l:List Nat):List D:=aJ (l.map λ(n:Nat)=>(n:Int))
theorem eI(l:List Nat):(aq l).length=l.length:=by unfold aq;rw[lL,bq]
theorem cO(l:List Nat):aq l=l.map λ(n:Nat)=>D.int (n:Int):=by unfold aq aJ;rw[bW];rfl
theorem B9(l:List Nat):(aq l).map D.sh=l.map λ(n:Nat)=>D.int (n:Int):=by unfold aq;rw[jw];exact cO l
theorem rX(a b:Nat)(h:D.int (a:Int)=D.int (b:Int)):a=b:=by injection h with h;omega
theorem kI(l:List Nat):(aq l).all D.pl=true:=lM _
theorem mR(l:List Nat):(aq l).map D.sh=aq l:=jw _
theorem mS(a b:List Nat):aq a++aq b=aq (a++b):=by unfold aq;rw[oQ,fv]
theorem uS(l:List Nat)(lo hi:Option Int):fS (aq l) lo hi=aq (fS l lo hi):=by
 unfold aq
 rw[rN]
 congr 1
 unfold fS
 rw[bq,Jz,Jy]
theorem MC{α:Type}(xs:List α)(b:Nat):fS xs none (some (b:Int))=xs.take b:=by
 have:=ck8 xs 0 b
 unfold fS at this ⊢
 simpa[HT.dq]using this
theorem Gd{α:Type}(xs:List α)(a:Nat):fS xs (some (a:Int)) none=xs.drop a:=by
 unfold fS
 rw[HT.EG]
 show(xs.drop (min a xs.length)).take (xs.length-min a xs.length)=_
 by_cases h:a<=xs.length
 ·rw[Nat.min_eq_left h,xH (by rw[jI];exact bE _)]
 ·rw[Nat.min_eq_right (by omega),List.drop_length,JC (by omega)];simp
end L3
namespace L2
open PySem PySem.Spec PyProof.Rows
section
variable{X:Cx}{tg l o e:Expr}{tl to te:TE}{apos cj:Pos}
end
end L2
namespace L3
open PySem L2 PySem.Spec PyProof.Rows
section
variable{X:Cx}{F H:Hp}{tg l e:Expr}{te t tb:aO}{apos cj pos:Pos}
variable{o:Expr}
theorem Ge:∀{ns:List Int} {ws:List V},S F H (aJ ns) ws->ws=ns.map V.int
 | [],_,s=>by cases s;rfl
 | n::ns,_,s=>by
  cases s with
  | int s=>rw[Ge s];rfl
end
end L3
namespace L3
open PySem L2 PySem.Spec PyProof.Rows
end L3
namespace L2
open PySem PySem.Spec PyProof.Rows
noncomputable def Tb(ts:List Addr)(H:Hp):Prop:=∀P∈ts,∃ps,H P=some (.dO ps)
structure wL(ts:List Addr)(H:Hp):Prop where
 any:∀b,H b=none\/(∃o xs,H b=some (.bj o (.lst xs)))\/(b∈ts/\H b=some (.dO #[]))
 tab:∀P∈ts,H P=some (.dO #[])
theorem wL.tb{ts:List Addr}{H:Hp}(h:wL ts H):Tb ts H:=λP hP=>⟨#[],h.tab P hP⟩
noncomputable def Bm(mg:Str->Option Value)(base:Heap):Prop:=∃bm o,mg "__builtins__"=some (.ref bm)/\bm≠builtinsNs/\bm≠mainGlobals/\base.get? bm=some o/\o.cls=.type "module"/\o.dict=some builtinsNs/\o.data=.plain
theorem bO2{P:Program}{w:World}{K:PySem.W.Frag}{mg mb:Str->Option Value}{CX:eP}{k:Nat}{fa a:Addr}{fd:FuncData}{x:Str}{sp:Sp}{bz:Shared}{vs:List Value}{ns:List Int}{ts:List Addr}
  (KX:K.In bz.heap) (Ca:bz.heap.Ns mainGlobals mg) (hb:bz.heap.Ns builtinsNs mb) (hbb:∀x:Str,x≠"__name__"->mb x=bootBuiltins x) (cP7:bz.heap.NoLimit) (hg:bz.gens=#[])
  (ht:∀P∈ts,bz.heap.get? P=some (PySem.W.tabObj #[])) (Gf:∀P∈ts,isCodeTable bz.heap P) (hkt:∀P∈ts,K.lookup P=none)
  (ha:bz.heap.get? a=some { cls:=.type "list",data:=.seq vs.toArray }) (hi:IntsAre vs ns) (hl:ns.length<=sizeLine) (hr:bQ k callerA)
  (yV:Bm mg bz.heap) (F:∀base:Heap,K.In base->base.Ns mainGlobals mg->Bm mg base->aH P w K mg base CX k fa fd [x] sp) (cP9:∀(s:Shared) (u:Value),BindsTo s fd ⟨[u],[]⟩ [(x,u)])
  (jr:∀H:Hp,wL ts H->bG K H a (ns.map V.int)->sp [.ref a] H (λv _=>v=.bl true) λ_ _ _=>False)
  (Gg:∀H e s',CX [] H bz (λ_ _ _=>False) e s'->False) :
  codeAny (model P w) callerA (.call (.ref fa) ⟨[.ref a],[]⟩) (λr s'=>r=.ok (.ret (.bool true))/\OldK bz.heap s'.heap/\s'.os=bz.os/\AllBare s'.gens) bz:=by
 have rv:=KO hi
 have cQ0:=hi.length
 have nat:a ∉ ts:=λz=>by
  have:=ht a z
  rw[ha]at this
  cases this
 have core:∀H:Hp,wL ts H->bG K H a (ns.map V.int)->cK P w H bz.heap->(∀b,H b≠none->b=a\/b∈ts)->(H a≠none->K.lookup a=none) ->
   codeAny (model P w) callerA (.call (.ref fa) ⟨[.ref a],[]⟩) (λr s'=>r=.ok (.ret (.bool true))/\OldK bz.heap s'.heap/\s'.os=bz.os/\AllBare s'.gens) bz:=by
  intro H hO hS aI hA hK
  have Gh:∀{b:Addr} {o:Obj},bz.heap.get? b=some o->H b=none->(mm bz.heap H).get? b=some o:=λe n=>V9 e n
  have yg:∀{b:Addr} {o:Obj} {es:Array DictEntry} {ep:Nat},bz.heap.get? b=some o->o.data=.dict es ep->H b=none:=λ{b o es ep} e d=>by
   cases q:H b with
   | none=>rfl
   | some u =>
    rcases hA b (by rw[q];simp)with e' | e'
    ·subst e'
     rw[ha]at e;cases e
     have d':Data.seq vs.toArray _=Data.dict es ep:=d
     cases d'
    ·rw[ht b e']at e;cases e
     have d':Data.fields #[]=Data.dict es ep:=d
     cases d'
  have Cb:∀{b:Addr} {m:Str->Option Value},bz.heap.Ns b m->(mm bz.heap H).Ns b m:=λ{b m} ⟨o,es,ep,e,d,r⟩=>⟨o,es,ep,Gh e (yg e d),d,r⟩
  have MD:K.In (mm bz.heap H):=λb o e=>Gh (KX b o e) (by
   cases q:H b with
   | none=>rfl
   | some u =>
    rcases hA b (by rw[q];simp)with e' | e'
    ·subst e'
     rw[hK (by rw[q];simp)]at e;cases e
    ·rw[hkt b e']at e;cases e)
  have hBm:Bm mg (mm bz.heap H):=by
   obtain⟨bm,o,b1,b2,b3,b4,b5,b6,b7⟩:=yV
   refine⟨bm,o,b1,b2,b3,Gh b4 ?_,b5,b6,b7⟩
   cases q:H bm with
   | none=>rfl
   | some u =>
    rcases hA bm (by rw[q];simp)with e' | e'
    ·rw[e',ha]at b4;cases b4
     have d':Data.seq vs.toArray _=Data.plain:=b7
     cases d'
    ·rw[ht bm e']at b4;cases b4
     have d':Data.fields #[]=Data.plain:=b7
     cases d'
  have hM:Mod K mg (mm bz.heap H):=⟨MD,Cb Ca,⟨mb,Cb hb,hbb⟩,let⟨mc,h1,h2⟩:=cP7;⟨mc,Cb h1,h2⟩⟩
  have e0:jo P w K mg (mm bz.heap H) callerA [] bz H:=⟨rfl,hM,λb o e=>Wa e,Az (V8 _ _),trivial,λb hb=>absurd (show b∈([]:List Addr) from hb) (by simp),aI,.of_eq hg⟩
  refine codeAny_mono ((F _ MD (Cb Ca) hBm).run callerA [] bz H ⟨[.ref a],[]⟩ [.ref a] [.ref a] _ _ hr e0 (cP9 bz (.ref a)) (.cons rfl .nil) (jr H hO hS)) λr s' h=>?_
  cases r with
  | error e=>exact(Gg H e s' h).elim
  | ok fl =>
   cases fl with
   | next=>exact fH h
   | brk=>exact fH h
   | cont=>exact fH h
   | ret u =>
    obtain⟨v,H',os,bare,un,ME,r',q⟩:=h
    have q':v=.bl true:=q
    subst q'
    obtain rfl:u=DH true:=r'
    have each:∀b o,bz.heap.get? b=some o->asItWas bz.heap s'.heap b o/\∃o',s'.heap.get? b=some o':=λb o e=>by
     cases q:H b with
     | none =>
      have z:=un.keep b o e q (by intro z;exact absurd (show b∈([]:List Addr) from z) (by simp)) (by simp)
      exact⟨.inl z,o,z⟩
     | some u =>
      rcases hO.any b with z | ⟨ob,xs,z⟩ | ⟨j4,z⟩
      ·rw[q]at z;cases z
      ·have z2:=un.iy b ob _ z
       obtain⟨e1,_⟩:=aI b _ z
       obtain⟨e2,_⟩:=ME b _ z2
       rw[e]at e1;cases e1
       exact⟨.inl e2,_,e2⟩
      ·obtain⟨more,z2⟩:=un.gK b _ z
       have e2:=(ME b _ z2).1
       rw[ht b j4]at e;cases e
       exact⟨.inr (.inl ⟨Gf b j4,rfl,#[],more,rfl,e2⟩),_,e2⟩
    exact⟨rfl,⟨λb o e=>(each b o e).1,λb o e=>(each b o e).2⟩,os,bare⟩
 have tok:∀(H:Hp) (b:Addr),b∈ts->eG P w H bz.heap b (.dO #[]):=λH b hb=>⟨ht b hb,trivial,λpos cv q=>by cases q⟩
 cases hk:K.lookup a with
 | some o =>
  have e:=KX a o hk
  rw[ha]at e
  cases e
  refine core (λb=>if b∈ts then some (.dO #[])else none) ⟨λb=>?_,λb hb=>if_pos hb⟩ (.inr ⟨_,vs.toArray,_,hk,rfl,rfl,rfl,by rw[dU,cQ0];exact hl,by simpa using rv⟩) (λb u z=>?_) (λb z=>?_) λz=>absurd (if_neg nat) z
  ·by_cases hb:b∈ts
   ·exact .inr (.inr ⟨hb,if_pos hb⟩)
   ·exact .inl (if_neg hb)
  ·by_cases hb:b∈ts
   ·have z':=(if_pos hb).symm.trans z
    cases z'
    exact tok _ b hb
   ·have z':=(if_neg hb).symm.trans z
    cases z'
  ·by_cases hb:b∈ts
   ·exact .inr hb
   ·exact absurd (if_neg hb) z
 | none =>
  refine core (λb=>if b=a then some (.bj { cls:=.type "list",data:=.seq vs.toArray } (.lst (ns.map V.int)))else if b∈ts then some (.dO #[])else none) ⟨λb=>?_,λb hb=>?_⟩ (.inl (.inr ⟨{ cls:=.type "list",data:=.seq vs.toArray },if_pos rfl⟩)) (λb u z=>?_) (λb z=>?_) λ_=>hk
  ·by_cases hb:b=a
   ·exact .inr (.inl ⟨_,_,if_pos hb⟩)
   ·by_cases j4:b∈ts
    ·exact .inr (.inr ⟨j4,(if_neg hb).trans (if_pos j4)⟩)
    ·exact .inl ((if_neg hb).trans (if_neg j4))
  ·have jS:b≠a:=λz=>nat (z ▸ hb)
   exact(if_neg jS).trans (if_pos hb)
  ·by_cases hb:b=a
   ·have z':=(if_pos hb).symm.trans z
    cases z'
    subst hb
    exact⟨ha,by rw[bq];exact hl,vs,_,rv,ha⟩
   ·by_cases j4:b∈ts
    ·have z':=((if_neg hb).trans (if_pos j4)).symm.trans z
     cases z'
     exact tok _ b j4
    ·have z':=((if_neg hb).trans (if_neg j4)).symm.trans z
     cases z'
  ·by_cases hb:b=a
   ·exact .inl hb
   ·by_cases j4:b∈ts
    ·exact .inr j4
    ·exact absurd ((if_neg hb).trans (if_neg j4)) z
theorem cQ2{l:PySem.W.OpenLaw}{n k:Nat}{q:Program}{loose:List Str}{XP:(Str->Option Value)->Heap->Prop}{YP:World->Heap->Prop}{d:DefRec}{K:Params->PySem.W.Frag}{CX:World->eP}{sp:World->Sp}{x:Str}{ts:List Addr}
  (hn:l.most=some n) (ye:n<=sizeLine) (yi:d.params.defaults=[]) (hr:bQ k callerA)
  (hY:∀(w:World) (h:Heap),YP w h->(K w.params).In h/\∀P∈ts,h.get? P=some (PySem.W.tabObj #[]))
  (hC:∀(w:World) (h:Heap),(K w.params).In h->∀P∈ts,(K w.params).lookup P=none/\∃c,PySem.W.CodeHd h c P)
  (F:∀(w:World) (mg:Str->Option Value) (fa:Addr) (h:Heap),(K w.params).In h->h.Ns mainGlobals mg->mg d.name=some (.ref fa) ->
   ∃fd:FuncData,(∀(s:Shared) (u:Value),BindsTo s fd ⟨[u],[]⟩ [(x,u)]) /\
    ∀base:Heap,(K w.params).In base->base.Ns mainGlobals mg->Bm mg base->aH l.prog w (K w.params) mg base (CX w) k fa fd [x] (sp w))
  (jr:∀(w:World) (H:Hp) (a:Addr) (ns:List Int),ns.length<=n->wL ts H->bG (K w.params) H a (ns.map V.int)->sp w [.ref a] H (λv _=>v=.bl true) λ_ _ _=>False)
  (Gg:∀(w:World) (H:Hp) (s:Shared) (e:Value) (s':Shared),CX w [] H s (λ_ _ _=>False) e s'->False) :
  PySem.W.WalkO q loose XP YP l.row.toRowW d [] (λf vs=>PySem.call f vs):=by
 refine Att.YF hn yi λw cw bz mg mb fa o pm cd doc a vs ns G Y ho hd cR yj ES hints hlen hg=>?_
 obtain⟨KX,hT⟩:=hY w _ Y
 obtain⟨fd,hb,hF⟩:=F w mg fa _ KX G.T.g yj
 have Gf:∀P∈ts,isCodeTable bz.heap P:=λP hP=>by
  obtain⟨_,c,C⟩:=hC w _ KX P hP
  exact(C.tab (hT P hP)).isCodeTable
 have yV:Bm mg bz.heap:=by
  obtain⟨bm,ob,b1,b2,b3,b4,b5,b6⟩:=G.T.bmain
  refine⟨bm,ob,b1,b2,λq=>?_,b3,b4,b5,b6⟩
  obtain⟨o,es,ep,e,hd,_⟩:=G.T.g
  rw[q,e]at b3;cases b3;rw[hd]at b6;cases b6
 exact bO2 KX G.T.g G.T.b G.T.builtins G.T.nolimit hg hT Gf (λP hP=>(hC w _ KX P hP).1) ES hints (fG hlen ye) hr yV hF hb (λH hO hS=>jr w H a ns hlen hO hS) λH e s'=>Gg w H bz e s'
end L2
namespace L3
open PySem L2 PySem.Spec PyProof.Rows
noncomputable def rY(ts:List Addr)(sp:Sp):Sp:=λvs H Q E=>Tb ts H/\sp vs H Q E
theorem Cc{X:Cx}{pins:List (Addr × Obj)}{σ:L2.St}{H:Hp}{s:Shared}{ts:List Addr}(I:Inv X pins σ H s)(h:Tb ts X.jK):Tb ts H:=λP hP=>by
 obtain⟨ps,e⟩:=h P hP
 obtain⟨m,e2⟩:=I.base.gK P ps e
 exact⟨_,e2⟩
noncomputable def Cd(ts:List Addr)(K:PySem.W.Frag):Sp:=λvs H Q _=>∃(a:Addr) (ns:List Int),vs=[.ref a]/\wL ts H/\bG K H a (ns.map V.int)/\ns.length<=63/\∀H',Q (.bl true) H'
theorem b39{ts:List Addr}{K:PySem.W.Frag}(nl:K.all (λp=>FL p.2)=true){vs:List V}{H:Hp}{Q:VK}{E:XK}(h:Cd ts K vs H Q E):rY ts (a6 Mi) vs H Q E:=by
 obtain⟨a,ns,rfl,hO,hS,hl,q⟩:=h
 have hz:∃o,H a=some (.bj o (.lst (ns.map V.int))):=by
  rcases hS with (hS | hS) | ⟨o,its,n,hk,hc,_⟩
  ·rcases hO.any a with z | ⟨o,xs,z⟩ | ⟨_,z⟩
   ·rw[hS]at z;cases z
   ·rw[hS]at z;cases z
   ·rw[hS]at z;cases z
  ·exact hS
  ·have hm:=bE3 hk
   have:=dy.mp nl _ hm
   simp[FL,hc]at this
 obtain⟨o,ho⟩:=hz
 refine⟨hO.tb,H,[.fz (aJ ns)],λd=>d=.bl true,af.refl _,.fz ho (lJ ns) .nil,⟨ns,rfl,hl,rfl⟩,λd v F' H' A hd hs hf he h3 r nd fr=>?_⟩
 subst hd
 cases r
 exact q H'
end L3
namespace L2
open PySem PySem.Spec PyProof.Rows
noncomputable def rem(H:Hp)(f c:Addr):Hp:=λb=>if b=f\/b=c then none else H b
noncomputable def oX(H H':Hp)(f c:Addr):Hp:=λb=>if b=f\/b=c then H b else H' b
section
variable{P:Program}{w:World}{H H':Hp}{h:Heap}{a b f c:Addr}{o:HO}{of oc:Obj}
theorem MF:rem H f c f=none:=if_pos (.inl rfl)
theorem Ce:rem H f c c=none:=if_pos (.inr rfl)
theorem iN(h1:b≠f)(h2:b≠c):rem H f c b=H b:=if_neg (by simp[h1,h2])
theorem wM(e:H b=none):rem H f c b=none:=by unfold rem;split;rfl;exact e
theorem MG(e:rem H f c b=some o):b≠f/\b≠c/\H b=some o:=by
 unfold rem at e
 split at e
 ·cases e
 ·rename_i n
  exact⟨λz=>n (.inl z),λz=>n (.inr z),e⟩
theorem rZ(h1:b≠f)(h2:b≠c):oX H H' f c b=H' b:=if_neg (by simp[h1,h2])
theorem MH:oX H H' f c f=H f:=if_pos (.inl rfl)
theorem Gi:oX H H' f c c=H c:=if_pos (.inr rfl)
theorem eG.rem{φ:Heap->Prop}(x:eG P w H h a o)(ha:a≠f)(hf:H f=some (.ext φ))(hc:H c=some (.own f)\/H c=none)(Gj:¬ ∀h',φ h'->∃q,h'.CodeRec (.ref f) q):eG P w (rem H f c) h a o:=by
 have own:∀b,H b=some (.own a)->L2.rem H f c b=some (.own a):=λb e=>by
  rw[iN (λz=>by subst z;rw[hf]at e;cases e) (λz=>by subst z;rcases hc with hc | hc<;>(rw[hc]at e;cases e);exact ha rfl)];exact e
 have tup:∀b xs,H b=some (.tup xs)->L2.rem H f c b=some (.tup xs):=λb xs e=>by
  rw[iN (λz=>by subst z;rw[hf]at e;cases e) (λz=>by subst z;rcases hc with hc | hc<;>(rw[hc]at e;cases e))];exact e
 induction o with
 | lst xs=>exact x
 | tup xs=>exact x
 | dK dW=>exact x
 | dT dW =>
  obtain⟨z,y,xs,r,ob⟩:=x
  exact⟨z,y,xs,Paired.Ec r λp q z=>⟨z.1,tup _ _ z.2.1,z.2.2⟩,ob⟩
 | set S n=>exact x
 | ins C dx fs =>
  obtain⟨d,r⟩:=x
  exact⟨own _ d,r⟩
 | own y=>exact x
 | xd fs=>exact x
 | xR lo hi=>exact x
 | bj ob u ih=>obtain⟨e,q⟩:=x;exact⟨e,ih q⟩
 | dO ps =>
  obtain⟨e,t,cc⟩:=x
  refine⟨e,t,λpos cv q=>?_⟩
  obtain⟨d,φ,e1,e2,e3⟩:=cc pos cv q
  refine⟨d,φ,e1,?_,e3⟩
  rw[iN (λz=>?_) (λz=>by subst z;rcases hc with hc | hc<;>(rw[hc]at e2;cases e2))]
  ·exact e2
  ·subst z
   rw[hf]at e2;cases e2
   exact Gj e3
 | met f y=>exact x
 | ext φ=>obtain⟨p,r,st⟩:=x;exact⟨p,r,λh1 h2 p1 kk=>st h1 h2 p1 λb o hb q=>kk b o (hb.imp id (own b)) q⟩
theorem MI{φ:Heap->Prop}{fd:FuncData}(p:φ h)(g:∀h',φ h'->h'.get? f=some of)(hd:of.data=.func fd):¬ ∀h',φ h'->∃q,h'.CodeRec (.ref f) q:=λz=>by
 obtain⟨q,k,ok,vs,t,q1,q2,q3,_⟩:=z h p
 cases q1
 rw[g h p]at q2;cases q2
 rw[hd]at q3;cases q3
theorem cK.lam(ok:cK P w H h)(hf:H f=some (.ext (L3.jT of oc c f))):L3.jT of oc c f h:=(ok f _ hf).1
theorem cK.rem{fd:FuncData}(ok:cK P w H h)(hf:H f=some (.ext (L3.jT of oc c f)))(hc:H c=some (.own f))(hd:of.data=.func fd):cK P w (rem H f c) h:=λb o e =>
 let⟨h1,_,h3⟩:=MG e;(ok b o h3).rem h1 hf (.inl hc) (MI (ok.lam hf) (λ_ p=>p.1) hd)
end
theorem jo.rem{P:Program}{w:World}{K:PySem.W.Frag}{mg:Str->Option Value}{base:Heap}{A:Around}{outer:List Env}{s:Shared}{H:Hp}{f c:Addr}{of oc:Obj}{fd:FuncData}(e:jo P w K mg base A outer s H)
  (hf:H f=some (.ext (L3.jT of oc c f))) (hc:H c=some (.own f)) (hd:of.data=.func fd):jo P w K mg base A outer s (rem H f c) :=
 ⟨e.frames,e.mod,λb o q=>⟨(e.bs b o q).1,wM (e.bs b o q).2⟩,e.ji,e.gq,λb hb=>wM (e.jj b hb),e.aI.rem hf hc hd,e.bare⟩
theorem CE.add{P:Program}{w:World}{K:PySem.W.Frag}{mg:Str->Option Value}{base:Heap}{A:Around}{outer:List Env}{s s':Shared}{H:Hp}{f c:Addr}{of oc:Obj}{Q Q':VK}{u:Value}(e0:jo P w K mg base A outer s H)
  (hf:H f=some (.ext (L3.jT of oc c f))) (hc:H c=some (.own f)) (h:CE outer P w (rem H f c) s Q u s') (hQ:∀v H',Q v H'->H' f=none->H' c=none->Q' v (oX H H' f c)):CE outer P w H s Q' u s':=by
 obtain⟨v,H',os,bare,un,aI,r,q⟩:=h
 obtain⟨gf,gc⟩:=e0.aI.lam hf
 have MJ:∀{b o},H b=some o->b ∉ dY outer:=λ{b o} e z=>by rw[e0.jj b z]at e;cases e
 have nf:H' f=none:=un.free f _ gf MF (by simp)
 have nc:H' c=none:=un.free c _ gc Ce (by simp)
 have kf:=un.keep f _ gf MF (MJ hf) (by simp)
 have kc:=un.keep c _ gc Ce (MJ hc) (by simp)
 refine⟨v,oX H H' f c,os,bare,⟨λb o e n=>un.keep b o e (wM n),λb o e n=>un.slot b o e (wM n),λb o e n x=>?_,un.there,λb xs e=>?_,λb ob xs e=>?_,λb ps e=>?_⟩,λb o e=>?_,r,hQ v H' q nf nc⟩
 ·rw[rZ (λz=>by subst z;rw[hf]at n;cases n) (λz=>by subst z;rw[hc]at n;cases n)]
  exact un.free b o e (wM n) x
 ·have n1:b≠f:=λz=>by subst z;rw[hf]at e;cases e
  have n2:b≠c:=λz=>by subst z;rw[hc]at e;cases e
  rw[rZ n1 n2]
  exact un.iW b xs (by rw[iN n1 n2];exact e)
 ·have n1:b≠f:=λz=>by subst z;rw[hf]at e;cases e
  have n2:b≠c:=λz=>by subst z;rw[hc]at e;cases e
  rw[rZ n1 n2]
  exact un.iy b ob xs (by rw[iN n1 n2];exact e)
 ·have n1:b≠f:=λz=>by subst z;rw[hf]at e;cases e
  have n2:b≠c:=λz=>by subst z;rw[hc]at e;cases e
  rw[rZ n1 n2]
  exact un.gK b ps (by rw[iN n1 n2];exact e)
 ·by_cases z:b=f
  ·subst z
   rw[MH,hf]at e;cases e
   refine⟨⟨kf,kc⟩,⟨_,kf⟩,λh1 h2 p kk=>⟨kk b _ (.inl rfl) p.1,kk c _ (.inr ?_) p.2⟩⟩
   rw[Gi];exact hc
  ·by_cases z2:b=c
   ·subst z2
    rw[Gi,hc]at e;cases e
    exact⟨_,kc⟩
   ·rw[rZ z z2]at e
    have up:∀{b' o'},H' b'=some o'->oX H H' f c b'=some o':=λ{b' o'} q=>by
     rw[rZ (λz=>by subst z;rw[nf]at q;cases q) (λz=>by subst z;rw[nc]at q;cases q)];exact q
    exact(aI b o e).jh (λ_ _ _ q=>q) (λ_ q=>up q) (λ_ _ q=>up q) λ_ _ q=>up q
theorem b47{prog:Program}{w:World}{A:Around}{R:Result->Shared->Prop}{s:Shared}{a:Addr}{args:Args}{o:Obj}{fd:FuncData}{body:Expr}{q:Str}(cQ5:A.depth<recursionLimit)
  (ho:s.heap.get? a=some o)
  (xS:o.data=.func fd) (hco:fd.scope.isCoroutine=false) (cQ7:fd.scope.isGenerator=false) (hJ:fd.body=.expr body) (cR:s.heap.CodeRec fd.code q)
  (h:wpAny (model prog w) A.in1 (bindArgs fd args) (λbinds bz =>
   wpAny (model prog w) A.in1 (newFunctionEnv fd.scope fd.globals fd.closure binds (q++".<locals>.") (some a) fd.code none fd.builtins)
    (λenv jL=>jL.heap.NoLimit/\codeAny (model prog w) A (.expr body env) R jL) (λe s'=>R (.error e) s') bz) (λe s'=>R (.error e) s') s) :
  codeAny (model prog w) A (.call (.ref a) args) R s:=by
 refine codeAny_of_tree ?_
 show wpAny _ A.in1 (callAny (.ref a) args) _ _ s
 simp only[callAny]
 refine wpAny_bind (wpAny_load ho ?_)
 obtain⟨c,oc,vs,tq,hc,jk,Gk,hq⟩:=cR
 simp only[xS,callFunction,hco,cQ7,hJ,hc]
 rw[hc]at h
 refine wpAny_bind (m:=field (.ref c) 1) (wpAny_field jk Gk hq (wpAny_bind (wpAny_pure ?_)))
 exact wpAny_bind (wpAny_mono h (λbinds bz Cf=>wpAny_bind (wpAny_mono Cf (λenv jL MK=>wpAny_bind (wpAny_enterFrame MK.1 cQ5
  (wpAny_pure (And.intro rfl MK.2)))) λ_ _ h'=>h')) λ_ _ h'=>h')
structure ML(p1 p2 x:Str)(sc:Scope):Prop where
 kind:sc.kind=.function
 co:sc.isCoroutine=false
 gen:sc.isGenerator=false
 nd:[p1,p2,x].Nodup
 l1:sc.names.lookup p1=some .local
 l2:sc.names.lookup p2=some .local
 MM:∀y∈sc.names,y.2≠.cell
 only:∀y∈sc.names,y.2=.free->y.1=x
 lx:sc.names.lookup x=some .free
noncomputable def uT(CX:eP)(P:Program)(w:World)(K:PySem.W.Frag)(mg:Str->Option Value)(base:Heap)(N:List Str)(qual:Str)(scope:Scope)(f:Addr)(cd:Value)(cl:List (Str × Addr))(A:Around)(outer:List Env)(s:Shared)(H:Hp)(E:XK):Cx where
 prog:=P
 w:=w
 K:=K
 mg:=mg
 base:=base
 A:=A.deeper (PySem.W.envX qual scope s.heap.objs.size f cd cl)
 N:=N
 cw:=s
 jK:=H
 env:=PySem.W.envX qual scope s.heap.objs.size f cd cl
 outer:=outer
 stack:=PySem.W.envX qual scope s.heap.objs.size f cd cl::outer
 ex:=[]
 calm:=true
 fn:=λ_=>false
 pn:=[]
 xe:=λe s'=>wpAny (model P w) (A.deeper (PySem.W.envX qual scope s.heap.objs.size f cd cl)) (leaving (PySem.W.envX qual scope s.heap.objs.size f cd cl) e) (λ_ tU=>CX outer H s E e tU) (λe' tU=>CX outer H s E e' tU) s'
theorem ck7{CX:eP}{P:Program}{w:World}{K:PySem.W.Frag}{mg:Str->Option Value}{base:Heap}{p1 p2 x qn q:Str}{params:Arguments}{body:Expr}{scope:Scope}{pm jA:Value}{f c c':Addr}{k:Nat}{A:Around}{outer:List Env}{s:Shared}{H:Hp}{E:XK}
  {u1 u2 uc:Value} {v1 v2 vc:V} {Q:VK} {t:TE} {args:Args} (S:ML p1 p2 x scope) (e0:jo P w K mg base A outer s H) (hr:bQ (k+1) A)
  (hf:s.heap.get? f=some (PySem.W.kla_obj "<lambda>" qn params body scope [(x,c)] pm c' jA)) (hc:s.heap.IsCell c (some uc)) (rc:RelV vc uc) (hH:H c=none) (cR:s.heap.CodeRec (.ref c') q)
  (hb:bindArgs (PySem.W.kla_fn "<lambda>" qn params body scope [(x,c)] pm (.ref c') jA) args=pure [(p1,u1),(p2,u2)]) (r1:RelV v1 u1) (r2:RelV v2 u2)
  (ht:PE (uT CX P w K mg base [p1,p2,x] q scope f (.ref c') [(x,c)] A outer s H E) body t) (h:t [some v1,some v2,some vc] H Q) :
  codeAny (model P w) A (.call (.ref f) args) (CR CX outer P w H s Q E) s:=by
 have lim:s.heap.NoLimit:=e0.mod.nolimit.keeps λb o e=>(e0.bs b o e).1
 refine b47 hr.depth hf rfl S.co S.gen rfl cR ?_
 rw[hb]
 have cQ9:∀y∈[(p1,u1),(p2,u2)],scope.names.lookup y.1=some .local:=λy hy=>by
  simp at hy
  rcases hy with rfl | rfl
  ·exact S.l1
  ·exact S.l2
 refine wpAny_pure (wpAny_newFunctionEnv S.MM cQ9 (λCf Ca MN=>⟨lim.fresh _ MN,?_⟩) S.kind)
 show codeAny _ _ (.expr body (PySem.W.envX q scope s.heap.objs.size f (.ref c') [(x,c)])) _ _
 have hk:∀b o,s.heap.get? b=some o->Cf.get? b=some o:=λb o e=>MN.extBut b o (dN (bD e)) (fO _ e)
 have bO:p1≠p2/\p1≠x/\p2≠x:=by have:=S.nd;simp at this;exact⟨this.1.1,this.1.2,this.2⟩
 have look:∀y d,([(x,c)]:List (Str × Addr)).lookup y=some d->y=x/\d=c:=λy d e=>by
  rw[fZ]at e
  split at e
  ·rename_i z;exact⟨beq_iff_eq.mp z,(c9 e).symm⟩
  ·cases e
 have I:Inv (uT CX P w K mg base [p1,p2,x] q scope f (.ref c') [(x,c)] A outer s H E) [] [some v1,some v2,some vc] H { s with heap:=Cf,toks:=s.toks+[(p1,u1),(p2,u2)].length }:=by
  refine⟨⟨e0.mod,S.kind,rfl,rfl,bE _,λy z d h1 h2=>?_,λy hy=>?_,λy d z _=>absurd z (by simp[uT]),λ_=>hr.hd,Around.frames_deeper e0.frames,.inr ⟨rfl,rfl⟩,λb z=>absurd z (by simp[uT]),e0.bs,e0.ji,λb _ _=>by simp[uT],λb z=>absurd z (by simp[uT]),e0.gq,e0.jj⟩,
   rfl,e0.bare,Un.kept hk,⟨_,Ca,λi y v h1 h2 h3=>?_⟩,λy d h=>?_,e0.aI.fresh (bE _),λy d h=>?_,λp hp=>absurd (show p∈([]:List (Addr × Obj)) from hp) (by simp),e0.aI.kept hk,rfl⟩
  ·exact(look y d h1).1.trans (look z d h2).1.symm
  ·have hy:scope.names.lookup y=some .cell\/scope.names.lookup y=some .free:=hy
   rcases hy with hy | hy
   ·exact absurd rfl (S.MM _ (PySem.mem_of_lookup hy))
   ·obtain rfl:y=x:=S.only _ (PySem.mem_of_lookup hy) rfl
    exact⟨c,by show([(y,c)]:List (Str × Addr)).lookup y=_;rw[fZ,beq_self_eq_true]⟩
  ·match i,h1,h2 with
   | 0,h1,h2 =>
    cases h1;cases h2
    exact⟨u1,r1,.inl ⟨S.l1,by
     show([(p1,u1),(p2,u2)]:List (Str × Value)).reverse.lookup p1=_
     simp[fZ,beq_eq_false_iff_ne.mpr bO.1]⟩⟩
   | 1,h1,h2 =>
    cases h1;cases h2
    exact⟨u2,r2,.inl ⟨S.l2,by
     show([(p1,u1),(p2,u2)]:List (Str × Value)).reverse.lookup p2=_
     simp[fZ]⟩⟩
   | 2,h1,h2 =>
    cases h1;cases h2
    exact⟨uc,rc,.inr ⟨.inr S.lx,c,by show([(x,c)]:List (Str × Addr)).lookup x=_;rw[fZ,beq_self_eq_true],hc.keeps hk⟩⟩
   | n+3,h1,h2=>cases h2
  ·obtain⟨rfl,rfl⟩:=look y d h
   exact⟨_,hc.keeps hk⟩
  ·obtain⟨rfl,rfl⟩:=look y d h
   exact hH
 refine PySem.W.kla_codeExpr (wpAny_mono (ht [] _ _ H _ I h) (λu s' hs=>?_) λe s' hs=>hs)
 obtain⟨v,H',J,rv,q⟩:=hs
 exact⟨v,H',J.os,J.bare,J.base,J.aI,rv,q⟩
end L2
namespace L3
open PySem L2 PySem.Spec PyProof.Rows
theorem af.oX{H H':Hp}{f c:Addr}{o1 o2:HO}(h:af (rem H f c) H')(h1:H f=some o1)(n1:ju o1=true)(h2:H c=some o2)(n2:ju o2=true):af H (oX H H' f c) where
 get b o e n:=by
  by_cases z:b=f
  ·rw[z,MH,<- z];exact e
  ·by_cases z2:b=c
   ·rw[z2,Gi,<- z2];exact e
   ·rw[rZ z z2];exact h.get b o (by rw[iN z z2];exact e) n
 tb b ps e:=by
  have z:b≠f:=λz=>by subst z;rw[h1]at e;cases e;cases n1
  have z2:b≠c:=λz=>by subst z;rw[h2]at e;cases e;cases n2
  rw[rZ z z2]
  exact h.tb b ps (by rw[iN z z2];exact e)
noncomputable abbrev wN:=Int->Int->(Int->Prop)->Prop
structure yW(P:Program)(w:World)(K:PySem.W.Frag)(mg:Str->Option Value)(base:Heap)(n:Nat)(of oc:Obj)(c k:Addr)(sp:wN):Prop where
 fn:∃o1 od fd sl,of=⟨o1,od,.func fd,sl⟩
 run:∀(A:Around) (outer:List Env) (s:Shared) (H:Hp) (f:Addr) (t u:Tok) (i j:Int) (Qd:Int->Prop),bQ n A->jo P w K mg base A outer s H->s.heap.get? f=some of->s.heap.get? c=some oc->H c=none->(∃q,s.heap.CodeRec (.ref k) q)->sp i j Qd ->
  codeAny (model P w) A (.call (.ref f) ⟨[.int i t,.int j u],[]⟩) (CR aP outer P w H s (λv H'=>∃r,v=.int r/\Qd r/\af H H') (λ_ _ _=>False)) s
noncomputable def se(L:Obj->Obj->Addr->Addr->wN->Prop)(i:Nat)(ta:cm):aO:=λδ Q=>∃of oc c k sp,δ[i]?=some (some (.bx (.lam of oc c k)))/\L of oc c k sp/\ta δ λds ah=>∃a b,ds=[.int a,.int b]/\sp a b λr=>Q (.int r) ah
theorem MP{X:Cx}{n i:Nat}{x:Str}{p pos:Pos}{e1 e2:Expr}{ta:cm}(hN:X.N[i]?=some x)(hv:nF X.env.scope x)(hr:bQ n X.A)(ha:PA X [e1,e2] (lA ta))
  (hd:(x==("__debug__":Str))=false:=by decide) (cR:(x==("__classdict__":Str))=false:=by decide) (he:starEach [e1,e2] X.env=(false,eval e1 X.env)::starEach [e2] X.env:=by rfl) (bu:(backTo pos (starEach [e2] X.env)).any (·.1)=false:=by rfl) :
  PE X (.Call (.Name x p) [e1,e2] [] pos) (lE (se (yW X.prog X.w X.K X.mg X.base n) i ta)):=by
 intro pins s σ H Q I zz
 obtain⟨B,F,δ,ts,Qd,c,⟨of,oc,cc,k,sp,ed,L,q⟩,kk⟩:=zz
 obtain⟨v,ev,sv⟩:=c.look ed
 obtain⟨f,rfl,lam⟩:∃f,v=.ref f/\kB H f of oc cc k:=by
  cases sv with
  | bx h _=>exact⟨_,rfl,h⟩
 refine wpAny_Call_Name_kw (aS (vV hN hv hd cR pins s σ H (λv' H'=>v'=.ref f/\H'=H) I ⟨_,ev,rfl,rfl⟩) λu s1 zz=>?_)
 obtain⟨v',H',I1,r1,e1,e2⟩:=zz
 subst e1 e2
 obtain rfl:u=.ref f:=r1
 have fnAt:∀{H1:Hp} {s2:Shared},Inv X pins σ H1 s2->kB H1 f of oc cc k->PySem.W.FnAt f s2.heap:=λ{H1 s2} J l=>by
  obtain⟨o1,od,fd,sl,e⟩:=L.fn
  exact⟨o1,od,fd,sl,by rw[<-e];exact(J.aI.lam l.fn).1⟩
 refine PySem.W.callWith_F (fnAt I1 lam) (aS (ha pos pins s1 σ H' (λvs H2=>∃a b ah F',vs=[.int a,.int b]/\(sp a b λr=>Qd (.int r) ah)/\af F F'/\af H' H2/\ak B F' H2 σ ah ts) I1
  ⟨B,F,δ,ts,_,c,q,λds ah vs F' H2 ⟨a,b,eds,q2⟩ f1 h1 c1 s1=>?_⟩) λus s2 ⟨vs,H2,I2,r2,a,b,ah,F',evs,q2,f1,h1,c1⟩=>⟨fnAt I2 ((show tY H' f (.lam of oc cc k) from lam).mono λa o e _ t=>h1.get a o e t),?_⟩) he bu
 ·subst eds
  refine⟨a,b,ah,F',?_,q2,f1,h1,c1⟩
  cases s1 with
  | int s1=>cases s1 with
   | int s1=>cases s1;rfl
 ·subst evs
  have si:kB H2 f of oc cc k:=(show tY H' f (.lam of oc cc k) from lam).mono λa o e _ t=>h1.get a o e t
  obtain⟨o1,od,fd,sl,eof⟩:=L.fn
  have cR2:of.data=.func fd:=by rw[eof]
  obtain⟨gf,gc⟩:=I2.aI.lam si.fn
  obtain⟨ψ,eψ,yX⟩:=si.Fh
  obtain⟨u1,u2,t1,t2,rfl⟩:∃(u1 u2:Unit) (t1 t2:Tok),us=[.int a t1,.int b t2]:=by
   cases r2 with
   | cons ra r2=>cases r2 with
    | cons rb r2 =>
     cases r2
     obtain⟨t1,rfl⟩:=ra
     obtain⟨t2,rfl⟩:=rb
     exact⟨(),(),t1,t2,rfl⟩
  refine wpAny_call (codeAny_mono (L.run X.A X.stack s2 (rem H2 f cc) f t1 t2 a b _ hr (I2.vZ.rem si.fn si.cell cR2) gf gc Ce (yX _ (I2.aI k _ eψ).1) q2) λr s' hq=>?_)
  cases r with
  | error e=>exact hq.elim
  | ok fl =>
   cases fl with
   | ret u =>
    refine I2.after (CE.add I2.vZ si.fn si.cell hq (Q':=Q) ?_)
    rintro v H3 ⟨r,rfl,hqd,hs⟩ nf nc
    have sm:=hs.oX si.fn rfl si.cell rfl
    exact kk _ ah _ F' _ hqd f1 (h1.trans sm) ((c1.grow sm).pushS (.int .nil) rfl)
   | next=>exact fH hq
   | brk=>exact fH hq
   | cont=>exact fH hq
end L3
namespace L2
open PySem PySem.Spec PyProof.Rows
theorem bu6{p:Pos}{c:Value}(l:List Value)(h:TriplesOk l):TriplesOk (l++[rawInt p.line,rawInt p.col,c]):=by
 fun_induction TriplesOk l with
 | case1=>simp[TriplesOk,rawInt]
 | case2 a b d e f rest ih=>exact ih h
 | case3=>exact h.elim
theorem bL5{p q:Pos}{c cv:Value}(l:List Value)(h:TriplesOk l)(e:codeAmong q (l++[rawInt p.line,rawInt p.col,c])=some cv):codeAmong q l=some cv\/cv=c:=by
 fun_induction TriplesOk l with
 | case1 =>
  simp only[p9,rawInt,codeAmong]at e
  split at e
  ·exact .inr (c9 e).symm
  ·cases e
 | case2 a b d e' f rest ih =>
  simp only[qk,codeAmong]at e ⊢
  split at e
  ·rename_i z;rw[if_pos z];exact .inl e
  ·rename_i z;rw[if_neg z];exact ih h e
 | case3=>exact h.elim
noncomputable def oY(f:Addr)(o:Obj):Heap->Prop:=λh=>h.get? f=some o
noncomputable def cH7(P c:Addr)(x:Str)(params:Arguments)(body:Expr)(scope:Scope):TE:=λ_ H Q=>(∃ps,H P=some (.dO ps)) /\
 ∀f k qn pm jA H',H f=none->H' f=some (.ext (oY f (PySem.W.kla_obj "<lambda>" qn params body scope [(x,c)] pm k jA)))->L3.Fg H' k->k≠f->L3.af H H'->(∀a ws,H' a=some (.lst ws)->H a=some (.lst ws))->Q (.ref f) H'
theorem MQ{X:Cx}{P c cc:Addr}{x:Str}{params:Arguments}{body:Expr}{scope:Scope}{pos:Pos}(ie:closureFor scope X.env=pure [(x,c)])(Cg:X.env.code=.ref cc)(hK:PySem.W.codeHdIn X.K cc P=true)(yV:Bm X.mg X.base)
  (cR8:defaultsOf params X.env=([],[]):=by rfl):PE X (.Lambda params body scope pos) (cH7 P c x params body scope):=by
 intro pins s σ H Q I zz
 obtain⟨⟨ps,hP⟩,q⟩:=zz
 obtain⟨bm,ob,b1,b2,b3,b4,b5,b6,b7⟩:=yV
 have C:=PySem.W.codeHd_of_K I.cQ hK
 obtain⟨oP,Ci,codes⟩:=I.aI P _ hP
 have hg:=I.mod.glob.keeps I.bk
 have MR:∀{b o},X.base.get? b=some o->b≠P:=λ{b o} e z=>by
  have:=(I.bs b o e).2
  rw[z,hP]at this;cases this
 have hgP:mainGlobals≠P:=by
  obtain⟨o,es,ep,e,_⟩:=I.mod.glob
  exact MR e
 have MS:s.heap.BuiltinsAt X.mg P:=⟨bm,ob,b1,b2,b3,MR b4,I.bk _ _ b4,b5,b6,b7⟩
 refine PySem.W.kla_eval cR8 ?_
 have fresh:∀{b:Addr},s.heap.objs.size<=b->H b=none:=λ{b} h=>I.aI.fresh h
 cases Gm:codeAmong pos ps.toList with
 | none =>
  refine PySem.W.kla_makeFunction (mg:=X.mg) ie I.ok.glob hg Cg C oP Ci Gm hgP MS λk jA h' tk hx yY fg cS0 MT=>?_
  have Gp:P<s.heap.objs.size:=bD oP
  have hPk:k≠P:=λz=>by rw[z]at yY;exact absurd Gp (xJ.mpr yY)
  have uU:s.heap.objs.size<=h'.objs.size:=fG yY (As fg)
  have hPf:h'.objs.size≠P:=λz=>by rw[<-z]at Gp;exact absurd Gp (xJ.mpr uU)
  have MU:k≠h'.objs.size:=dN fg
  generalize MV:PySem.W.kla_obj "<lambda>" (X.env.qual++"<lambda>") params body scope [(x,c)] ((X.mg "__name__").getD .none) k jA=obj
  have df:obj.isFreed=false:=by rw[<-MV];rfl
  have yZ:∀b,b≠P->b≠k->b≠h'.objs.size->upd (upd (upd H P (.dO (ps++#[rawInt pos.line,rawInt pos.col,.ref k]))) k (.ext λh=>∃q,h.CodeRec (.ref k) q)) h'.objs.size (.ext (oY h'.objs.size obj)) b=H b:=λb n1 n2 n3=>by
   rw[aT n3,aT n2,aT n1]
  have Cj:upd (upd (upd H P (.dO (ps++#[rawInt pos.line,rawInt pos.col,.ref k]))) k (.ext λh=>∃q,h.CodeRec (.ref k) q)) h'.objs.size (.ext (oY h'.objs.size obj)) h'.objs.size=some (.ext (oY h'.objs.size obj)):=bI
  have atK:upd (upd (upd H P (.dO (ps++#[rawInt pos.line,rawInt pos.col,.ref k]))) k (.ext λh=>∃q,h.CodeRec (.ref k) q)) h'.objs.size (.ext (oY h'.objs.size obj)) k=some (.ext λh=>∃q,h.CodeRec (.ref k) q):=by rw[aT MU,bI]
  have Ck:upd (upd (upd H P (.dO (ps++#[rawInt pos.line,rawInt pos.col,.ref k]))) k (.ext λh=>∃q,h.CodeRec (.ref k) q)) h'.objs.size (.ext (oY h'.objs.size obj)) P=some (.dO (ps++#[rawInt pos.line,rawInt pos.col,.ref k])):=by rw[aT hPf.symm,aT hPk.symm,bI]
  generalize hHn:upd (upd (upd H P (.dO (ps++#[rawInt pos.line,rawInt pos.col,.ref k]))) k (.ext λh=>∃q,h.CodeRec (.ref k) q)) h'.objs.size (.ext (oY h'.objs.size obj))=Hn at yZ Cj atK Ck
  have old:∀{b o},H b=some o->b≠P->Hn b=some o:=λ{b o} e n=>by
   have hb:b<s.heap.objs.size:=I.aI.lt e
   rw[yZ b n (λz=>absurd hb (xJ.mpr (z ▸ yY))) (λz=>absurd hb (xJ.mpr (z ▸ uU)))];exact e
  have kept:∀b o,b≠P->s.heap.get? b=some o->(h'.push obj).get? b=some o:=λb o n e=>fO _ (hx b o n e)
  have un:Un X.fs [] H Hn s.heap (h'.push obj):=by
   refine⟨λb o e n _ _=>kept b o (λz=>by rw[z,hP]at n;cases n) e,λb o e n _ _=>⟨o.slots,kept b o (λz=>by rw[z,hP]at n;cases n) e⟩,λb o e n _=>?_,λb o e _=>?_,λb xs e=>old e (λz=>by rw[z,hP]at e;cases e),λb ob xs e=>old e (λz=>by rw[z,hP]at e;cases e),λb MW e=>?_⟩
   ·have hb:=bD e
    rw[yZ b (λz=>by rw[z,hP]at n;cases n) (λz=>absurd hb (xJ.mpr (z ▸ yY))) (λz=>absurd hb (xJ.mpr (z ▸ uU)))];exact n
   ·by_cases z:b=P
    ·rw[z];exact⟨_,fO _ MT⟩
    ·exact⟨o,kept b o z e⟩
   ·by_cases z:b=P
    ·subst z
     rw[hP]at e;cases e
     exact⟨_,Ck⟩
    ·exact⟨#[],by rw[old e z];simp⟩
  have aI:cK X.prog X.w Hn (h'.push obj):=λb o e=>by
   by_cases z1:b=h'.objs.size
   ·subst z1
    rw[Cj]at e;cases e
    exact⟨gG _ df,⟨_,gG _ df⟩,λh1 h2 p kk=>kk _ _ (.inl rfl) p⟩
   ·by_cases z2:b=k
    ·subst z2
     rw[atK]at e;cases e
     have hr:=cS0.push obj
     refine⟨⟨_,hr⟩,?_,λh1 h2 ⟨q,c1,o1,vs,t,e1,e2,r⟩ kk=>?_⟩
     ·obtain⟨c1,o1,vs,t,e1,e2,_⟩:=hr
      cases e1
      exact⟨o1,e2⟩
     ·cases e1
      exact⟨q,_,o1,vs,t,rfl,kk _ _ (.inl rfl) e2,r⟩
    ·by_cases z3:b=P
     ·subst z3
      rw[Ck]at e;cases e
      refine⟨fO _ MT,by rw[VM];exact bu6 _ Ci,λp' cv e'=>?_⟩
      rw[VM]at e'
      rcases bL5 _ Ci e' with e' | e'
      ·obtain⟨d,φ,e1,e2,e3⟩:=codes p' cv e'
       exact⟨d,φ,e1,old e2 (λz=>by rw[z,hP]at e2;cases e2),e3⟩
      ·exact⟨k,_,e',atK,λh' p=>p⟩
     ·rw[yZ b z3 z2 z1]at e
      have nP:∀{b' o'},H b'=some o'->(∀ps,o'≠.dO ps)->b'≠P:=λ{b' o'} e n z=>by rw[z,hP]at e;cases e;exact n _ rfl
      refine(I.aI b o e).jh (λb' u rP e'=>kept b' u ?_ e') (λb' e'=>old e' (nP e' (λps z=>by cases z))) (λb' xs e'=>old e' (nP e' (λps z=>by cases z))) λb' φ e'=>old e' (nP e' (λps z=>by cases z))
      rcases rP with rfl | rP
      ·exact z3
      ·exact nP rP (λps z=>by cases z)
  refine⟨.ref h'.objs.size,Hn,I.un un aI,rfl,q _ k _ _ _ _ (fresh uU) (by rw[MV];exact Cj) ⟨_,atK,λh p=>p⟩ MU ⟨λb o e n=>old e (λz=>by rw[z,hP]at e;cases e;cases n),λb MW e=>?_⟩ λa ws e=>?_⟩
  ·exact un.gK b MW e
  ·by_cases z1:a=h'.objs.size
   ·subst z1;rw[Cj]at e;cases e
   ·by_cases z2:a=k
    ·subst z2;rw[atK]at e;cases e
    ·by_cases z3:a=P
     ·subst z3;rw[Ck]at e;cases e
     ·rw[yZ a z3 z2 z1]at e;exact e
 | some cv =>
  obtain⟨k,φ,rfl,hk,Gj⟩:=codes pos cv Gm
  refine PySem.W.kla_makeFunctionHit (mg:=X.mg) ie I.ok.glob hg Cg C oP Ci Gm MS λjA h' tk hx uU=>?_
  have hf:=fresh uU
  refine⟨.ref h'.objs.size,upd H h'.objs.size (.ext (oY h'.objs.size (PySem.W.kla_obj "<lambda>" (X.env.qual++"<lambda>") params body scope [(x,c)] ((X.mg "__name__").getD .none) k jA))),I.laid (λb u e=>fO _ (hx b u e)) uU ?_,rfl,q _ k (X.env.qual++"<lambda>") ((X.mg "__name__").getD .none) jA _ hf bI ⟨φ,?_,Gj⟩ (dX hk hf) (L3.af.of λb o e=>?_) λa ws e=>?_⟩
  ·exact⟨gG _ rfl,⟨_,gG _ rfl⟩,λh1 h2 p kk=>kk _ _ (.inl rfl) p⟩
  ·rw[aT (dX hk hf)];exact hk
  ·rw[aT (dX e hf)];exact e
  ·by_cases z:a=h'.objs.size
   ·subst z;rw[bI]at e;cases e
   ·rw[aT z]at e;exact e
end L2
namespace L2
open PySem PySem.Spec PyProof.Rows
structure uV(K:PySem.W.Frag)(C:Addr)(m:Str)(f:Addr):Prop where
 ga:PySem.W.specialIn K (.ref C) "__getattribute__"=some (some (.builtin "type.__getattribute__"))
 rd:PySem.W.readsIn K C (.type "type")=true
 at_:PySem.W.findCls K (.ref C) (.type "type") m=some (.val (.ref f))
 kp:PySem.W.keepIn K (.ref f)=true
section
variable{X:Cx}{CX:eP}{k:Nat}{f C:Addr}{fd:FuncData}{ps:List Str}{sp:Sp}{E:XK}{x m:Str}{p pos apos:Pos}{e o:Expr}{es:List Expr}{ta:TE}{t:TA}
theorem b34{pins:List (Addr × Obj)}{σ:St}{H:Hp}{s:Shared}{pl:Sem Bool}{A:Around}{E':Value->Shared->Prop}{Q:Value × List Value->Shared->Prop}(I:Inv X pins σ H s)(M:uV X.K C m f)(h:∀s',Inv X pins σ H s'->Q (.ref f,[]) s') :
  wpAny (model X.prog X.w) A (getMethod (.ref C) m pl) Q E' s :=
 PySem.W.method_cls I.cQ M.ga (PySem.W.cls_value (mc:=.type "type") I.cQ M.rd M.at_ rfl (h _ (I.tok _)))
theorem MX{pins:List (Addr × Obj)}{σ:St}{H:Hp}{s:Shared}{pl:Sem Bool}{Q:Value->Shared->Prop}{QA:List V->Hp->Prop}(I:Inv X pins σ H s)(M:uV X.K C m f)(hg:Gl X x)(hm:X.mg x=some (.ref C))(ha:PA X (e::es) t)(h:t σ H QA)
  (hq:∀us s1 vs H1,Inv X pins σ H1 s1->Vals vs us->QA vs H1->wpAny (model X.prog X.w) X.A (call (.ref f) us) Q X.xe s1)
  (cS:(x==("__debug__":Str))=false:=by decide) (cy:starEach (e::es) X.env=(false,eval e X.env)::starEach es X.env:=by rfl) (bu:(backTo pos (starEach es X.env)).any (·.1)=false:=by rfl)
  (ht:eval (.Call (.Attribute (.Name x p) m apos) (e::es) [] pos) X.env=(do
   let ov<-eval (.Name x p) X.env
   standAt apos.atName
   let (f,first)<-holding [ov] (getMethod ov m pl)
   callWith pos f first (backTo pos (starEach (e::es) X.env)) (backToKw pos (keywordEach [] X.env))):=by rfl) :
  wpAny (model X.prog X.w) X.A (eval (.Call (.Attribute (.Name x p) m apos) (e::es) [] pos) X.env) Q X.xe s:=by
 refine PySem.W.methodCall_KW (pl:=pl) (tJ I hg hm ?_ cS) ht
 refine b34 I M λs1 I1=>?_
 refine PySem.W.callWith_K (first:=[]) (h₀:=X.base) I.ok.mod.nE M.kp (aS (ha pos pins s1 σ H _ I1 h) λus s2 ⟨vs,H2,I2,r,q2⟩=>⟨I2.cQ,?_⟩) cy bu
 exact hq us s2 vs H2 I2 r q2
noncomputable def cE2(sp:Sp)(E:XK)(c:Addr)(i:Nat)(t:TA):TE:=λσ H Q=>t σ H λvs H1=>∃f of fd v,H1 f=some (.ext (oY f of))/\of.data=.func fd/\σ[i]?=some (some v) /\
 ∀oc u,oc.data=.cell (some u)->RelV v u->H1 c=none->c≠f->sp vs (upd (upd H1 f (.ext (L3.jT of oc c f))) c (.own f)) (λr H2=>H2 f=some (.ext (L3.jT of oc c f))/\H2 c=some (.own f)/\Q r (rem H2 f c)) E
theorem MY{pl:Sem Bool}{y:Str}{c:Addr}{i:Nat}(M:uV X.K C m f)(F:aH X.prog X.w X.K X.mg X.base aP k f fd ps sp)(hr:bQ k X.A)(hb:Binds X.K fd ps [])(hg:Gl X x)(hm:X.mg x=some (.ref C))
  (hN:X.N[i]?=some y) (hy:X.env.scope.names.lookup y=some .cell) (ie:X.env.cells.lookup y=some c) (xW:X.fn y=true) (ha:PA X (e::es) t)
  (cS:(x==("__debug__":Str))=false:=by decide) (cy:starEach (e::es) X.env=(false,eval e X.env)::starEach es X.env:=by rfl) (bu:(backTo pos (starEach es X.env)).any (·.1)=false:=by rfl)
  (ht:eval (.Call (.Attribute (.Name x p) m apos) (e::es) [] pos) X.env=(do
   let ov<-eval (.Name x p) X.env
   standAt apos.atName
   let (f,first)<-holding [ov] (getMethod ov m pl)
   callWith pos f first (backTo pos (starEach (e::es) X.env)) (backToKw pos (keywordEach [] X.env))):=by rfl) :
  PE X (.Call (.Attribute (.Name x p) m apos) (e::es) [] pos) (cE2 sp E c i t):=by
 intro pins s σ H Q I h
 refine MX (pl:=pl) I M hg hm ha h (λus s1 vs H1 I1 r zq=>?_) cS cy bu ht
 obtain⟨fa,of,fdd,v,hf,hd,hv,hq⟩:=zq
 obtain⟨ml,_,hl⟩:=I1.loc
 obtain⟨u,rv,lk⟩:=hl i y v hN hv (.inr (.inl hy))
 obtain⟨oc,gc,jk⟩:∃oc,s1.heap.get? c=some oc/\oc.data=.cell (some u):=by
  rcases lk with⟨hk,_⟩ | ⟨_,c',xX,ic⟩
  ·rw[show X.env.kindOf y=some .cell from hy]at hk;cases hk
  ·rw[ie]at xX;cases xX;exact ic
 have nc:H1 c=none:=I1.f9 y c ie
 have sj:c≠fa:=λz=>by rw[z,hf]at nc;cases nc
 have gf:s1.heap.get? fa=some of:=(I1.aI fa _ hf).1
 have nK:=hq oc u jk rv nc sj
 have MZ:=I1.ok.nG y c xW ie
 generalize hH:upd (upd H1 fa (.ext (L3.jT of oc c fa))) c (.own fa)=Hp at nK
 have M0:Hp c=some (.own fa):=by rw[<-hH,bI]
 have atf:Hp fa=some (.ext (L3.jT of oc c fa)):=by rw[<-hH,aT sj.symm,bI]
 have mT:∀b,b≠fa->b≠c->Hp b=H1 b:=λb n1 n2=>by rw[<-hH,aT n2,aT n1]
 have nfs:c ∉ X.fs:=λhb=>by
  obtain⟨_,o,ho,_⟩:=I1.ok.gq.mem hb
  exact absurd (cB (bD ho) MZ) (gi _)
 have nst:∀b∈dY X.stack,b≠c:=λb hb z=>by
  rcases bR.mp (I1.xT b hb)with e | hb
  ·exact I1.ku y c ie (z ▸ e)
  ·exact nfs (z ▸ hb)
 have cS8:cK X.prog X.w Hp s1.heap:=λb ob q=>by
  by_cases z1:b=c
  ·subst z1;rw[M0]at q;cases q;exact⟨_,gc⟩
  ·by_cases z2:b=fa
   ·subst z2;rw[atf]at q;cases q
    exact⟨⟨gf,gc⟩,⟨_,gf⟩,λh1 h2 p kk=>⟨kk _ _ (.inl rfl) p.1,kk _ _ (.inr M0) p.2⟩⟩
   ·rw[mT b z2 z1]at q
    have x1:=(I1.aI b ob q).rem (f:=fa) (c:=c) z2 hf (.inr nc) (MI gf (λ_ p=>p) hd)
    have up:∀{b' o'},rem H1 fa c b'=some o'->Hp b'=some o':=λ{b' o'} q=>by
     obtain⟨n1,n2,q'⟩:=MG q
     rw[mT b' n1 n2];exact q'
    exact x1.jh (λ_ _ _ q=>q) (λ_ q=>up q) (λ_ _ q=>up q) λ_ _ q=>up q
 have e0:jo X.prog X.w X.K X.mg X.base X.A X.stack s1 Hp:=by
  have e1:=I1.vZ
  refine⟨e1.frames,e1.mod,λb ob q=>⟨(e1.bs b ob q).1,?_⟩,e1.ji,e1.gq,λb hb=>?_,cS8,e1.bare⟩
  ·have hb0:=(I1.ok.bs b ob q).1
   rw[mT b (λz=>by have:=(e1.bs b ob q).2;rw[z,hf]at this;cases this) (λz=>absurd (cB (bD hb0) (z ▸ MZ)) (gi _))]
   exact(e1.bs b ob q).2
  ·have nb:=e1.jj b hb
   rw[mT b (λz=>by rw[z,hf]at nb;cases nb) (nst b hb)];exact nb
 have hlen:us.length=ps.length:=by rw[<-r.length];exact F.len _ _ _ _ nK
 refine wpAny_call (codeAny_mono (F.run X.A X.stack s1 Hp ⟨us,[]⟩ us vs _ E hr e0 (by have:=hb s1 us I1.cQ (by rw[fu];exact hlen);rwa [fu]at this) r nK) λrr s' hz=>?_)
 cases rr with
 | error e=>exact hz.elim
 | ok fl =>
  cases fl with
  | next=>exact fH hz
  | brk=>exact fH hz
  | cont=>exact fH hz
  | ret u' =>
   obtain⟨v',H2,os,bare,un,M1,rv',q1,q2,q3⟩:=hz
   obtain⟨_,M3⟩:=M1.lam q1
   refine I1.after ⟨v',rem H2 fa c,os,bare,⟨λb ob g n hb hx=>?_,λb ob g n hb hx=>?_,λb ob g n hx=>?_,un.there,λb xs g=>?_,λb ob xs g=>?_,λb ps g=>?_⟩,M1.rem q1 q2 hd,rv',q3⟩
   ·by_cases z:b=c
    ·rw[z,gc]at g;cases g;rw[z];exact M3
    ·exact un.keep b ob g (by rw[mT b (λz=>by rw[z,hf]at n;cases n) z];exact n) hb hx
   ·by_cases z:b=c
    ·rw[z,gc]at g;cases g;rw[z];exact⟨_,M3⟩
    ·exact un.slot b ob g (by rw[mT b (λz=>by rw[z,hf]at n;cases n) z];exact n) hb hx
   ·by_cases z:b=c
    ·rw[z];exact Ce
    ·exact wM (un.free b ob g (by rw[mT b (λz=>by rw[z,hf]at n;cases n) z];exact n) hx)
   ·have n1:b≠fa:=λz=>by rw[z,hf]at g;cases g
    have n2:b≠c:=λz=>by rw[z,nc]at g;cases g
    rw[iN n1 n2]
    exact un.iW b xs (by rw[mT b n1 n2];exact g)
   ·have n1:b≠fa:=λz=>by rw[z,hf]at g;cases g
    have n2:b≠c:=λz=>by rw[z,nc]at g;cases g
    rw[iN n1 n2]
    exact un.iy b ob xs (by rw[mT b n1 n2];exact g)
   ·have n1:b≠fa:=λz=>by rw[z,hf]at g;cases g
    have n2:b≠c:=λz=>by rw[z,nc]at g;cases g
    rw[iN n1 n2]
    exact un.gK b ps (by rw[mT b n1 n2];exact g)
end
end L2
namespace L3
open PySem L2 PySem.Spec PyProof.Rows
theorem uW{ts:List Addr}{H H':Hp}(h:Tb ts H)(s:af H H'):Tb ts H':=λP hP=>by
 obtain⟨ps,e⟩:=h P hP
 obtain⟨m,e2⟩:=s.tb P ps e
 exact⟨_,e2⟩
theorem M4{P:Program}{w:World}{K:PySem.W.Frag}{mg:Str->Option Value}{base:Heap}{n:Nat}{p1 p2 x qn:Str}{params:Arguments}{body:Expr}{scope:Scope}{pm jA:Value}{oc:Obj}{c k:Addr}{m:Int}{tm:Tok}{sp:wN}(S:ML p1 p2 x scope)
  (jk:oc.data=.cell (some (.int m tm))) (hb:∀u1 u2:Value,bindArgs (PySem.W.kla_fn "<lambda>" qn params body scope [(x,c)] pm (.ref k) jA) ⟨[u1,u2],[]⟩=pure [(p1,u1),(p2,u2)])
  (hJ:∀(q:Str) (f:Addr) (A:Around) (outer:List Env) (s:Shared) (H:Hp) (E:XK),bQ n (A.deeper (PySem.W.envX q scope s.heap.objs.size f (.ref k) [(x,c)])) ->
   ∃t:aO,PE (uT aP P w K mg base [p1,p2,x] q scope f (.ref k) [(x,c)] A outer s H E).g7 body (lE t)/\∀i j Qd,sp i j Qd->t [some (.int i),some (.int j),some (.int m)] λd _=>∃r,d=.int r/\Qd r) :
  yW P w K mg base (n+1) (PySem.W.kla_obj "<lambda>" qn params body scope [(x,c)] pm k jA) oc c k sp where
 fn:=⟨_,_,_,_,rfl⟩
 run A outer s H f t u i j Qd hr e0 gf gc hH cR h:=by
  obtain⟨q,cR⟩:=cR
  obtain⟨tt,ht,hq⟩:=hJ q f A outer s H (λ_ _ _=>False) (hr.deeper _)
  refine ck7 (v1:=.int i) (v2:=.int j) (vc:=.int m) (E:=λ_ _ _=>False) S e0 hr gf ⟨oc,gc,jk⟩ ⟨tm,rfl⟩ hH cR (hb _ _) ⟨t,rfl⟩ ⟨u,rfl⟩ ht.g7 ?_
  refine⟨⟨H,H⟩,H,_,[],_,?_,hq i j Qd h,λd ah v F' H' hd f1 h1 c1=>?_⟩
  ·exact ak.start (ds:=[.int i,.int j,.int m]) (vs:=[.int i,.int j,.int m]) (af.refl H) (.int (.int (.int .nil))) 0
  ·obtain⟨r,rfl,hd⟩:=hd
   have s1:=c1.top
   cases s1
   exact⟨r,rfl,hd,h1⟩
section
variable{X:Cx}{CX:eP}{n:Nat}{f:Addr}{fd:FuncData}{ps:List Str}{sp:aW}{E:XK}{x:Str}{p pos:Pos}{e:Expr}{es:List Expr}{t:cm}{tl:List Addr}
theorem Cm(hT:Tb tl X.jK)(F:aH X.prog X.w X.K X.mg X.base CX n f fd ps (rY tl (a6 sp)))(hr:bQ n X.A)(hg:Gl X x)(hm:X.mg x=some (.ref f))(hk:PySem.W.keepIn X.K (.ref f)=true)(hb:Binds X.K fd ps [])(hx:jO CX X E)
  (ha:PA X (e::es) (lA t)) (cS:(x==("__debug__":Str))=false:=by decide) (he:starEach (e::es) X.env=(false,eval e X.env)::starEach es X.env:=by rfl) (bu:(backTo pos (starEach es X.env)).any (·.1)=false:=by rfl) :
  PE X (.Call (.Name x p) (e::es) [] pos) (lE (mH sp t)):=by
 intro pins s σ H Q I zz
 obtain⟨B,F',δ,ts,Qd,c,q,k⟩:=zz
 have tb:=Cc I hT
 refine jq F hr hg hm hk hb .nil hx ha cS he bu pins s σ H Q I ⟨B,F',δ,ts,_,c,q,λds aj vs F1 H1 q1 f1 h1 c1 s1=>?_⟩
 refine⟨uW tb h1,?_⟩
 rw[fu]
 exact BL c1 s1 q1 λd v F' H' hd hf hs c'=>k d aj v F' H' hd (f1.trans hf) (h1.trans hs) c'
end
section
variable{P:Program}{w:World}{K:PySem.W.Frag}{mg:Str->Option Value}{base:Heap}
theorem y7{x qual:Str}{st:Stmt}{f:Addr}{fd:FuncData}{N ps:List Str}{k:Nat}{sp:aW}{tl:List Addr}(F:jQ K x qual st f fd)(S:aU N ps (aK st))(len:∀ds Q,sp ds Q->ds.length=ps.length)
  (hJ:∀(ay:Value) (A:Around) (outer:List Env) (s:Shared) (H:Hp) (E:XK),Tb tl H->bQ k (A.deeper (envOfC qual (aK st) s.heap.objs.size f ay)) ->
   ∃t:cV,PSs (iX aP P w K mg base N qual (aK st) f ay A outer s H E).g7 (iD st) (lS (iX aP P w K mg base N qual (aK st) f ay A outer s H E).g7 t)/\∀ds Q,sp ds Q->t { nx:=λ_=>Q .au,rt:=Q } (jW N ds)):aH P w K mg base aP (k+1) f fd ps (rY tl (a6 sp)):=by
 refine F.ok S (λvs H Q E ⟨_,F,ds,Qd,e,r,h,_⟩=>by rw[<-r.length];exact len ds Qd h) λay A outer s H vs Q E hr zz=>?_
 obtain⟨tb,F,ds,Qd,e,r,h,k⟩:=zz
 obtain⟨t,ht,hq⟩:=hJ ay A outer s H E tb hr
 have fin:∀d v ah aF F' H',Qd d->ak ⟨H,F⟩ F' H' aF ah [(d,v)]->Q v H':=λd v ah aF F' H' hd c=>by
  obtain⟨A,C,r',s',nd,fr⟩:=c.own
  exact k d v F' H' A hd c.b1 c.b2 c.ext c.b3 r' (ia.mp nd).1 λa ha=>fr a (eN _ ha)
 have e1:L2.start N vs=vs.map some++aV (N.length-ds.length) none:=by unfold L2.start;rw[r.length]
 refine⟨_,ht,⟨H,F⟩,F,jW N ds,_,?_,hq ds Qd h,λah aF F' H' hd c=>fin .au .au ah aF F' H' hd (c.pushS (.au .nil) rfl),fin,λ_ _ _ _ z=>z.elim,λ_ _ _ _ z=>z.elim,XL.none (λ_ _ z=>z) λ_ _ z=>z⟩
 rw[e1]
 exact ak.start e r _
theorem M5{x qual:Str}{st:Stmt}{f cc:Addr}{fd:FuncData}{N ps:List Str}{k:Nat}{sp:Sp}(F:jQ K x qual st f fd)(Cg:fd.code=.ref cc)(S:aU N ps (aK st))(len:∀vs H Q E,sp vs H Q E->vs.length=ps.length)
  (hJ:∀(A:Around) (outer:List Env) (s:Shared) (H:Hp) (vs:List V) (Q:VK) (E:XK),bQ k (A.deeper (envOfC qual (aK st) s.heap.objs.size f (.ref cc)))->sp vs H Q E ->
   ∃t,PSs (iX aP P w K mg base N qual (aK st) f (.ref cc) A outer s H E).g7 (iD st) t/\t { nx:=λ_ H'=>Q .au H',rt:=Q } (L2.start N vs) H):aH P w K mg base aP (k+1) f fd ps sp:=by
 obtain⟨oc,od,kV,doc,pm,an,ay,ct,iB,rfl,lk,cR⟩:=F.ex
 obtain rfl:ay=.ref cc:=Cg
 refine Bp lk cR S len λA outer s H vs Q E hr jr=>?_
 obtain⟨t,h,q⟩:=hJ A outer s H vs Q E hr jr
 exact⟨t,h.g7,q⟩
end
end L3
namespace L3
open PySem L2 PySem.Spec PyProof.Rows
theorem bL3{ns:List Str}{xs:List D}{ws:List V}{F H:Hp}{f:Str}{d:D}(r:R F H xs ws [])(h:(ns.zip xs).lookup f=some d):∃w,(ns.zip ws).lookup f=some w/\R F H [d] [w] []:=by
 generalize e:([]:List Addr)=A at r
 induction ns generalizing xs ws A with
 | nil=>simp at h
 | cons n ns ih =>
  cases xs with
  | nil=>simp at h
  | cons x xs =>
   obtain⟨v,bK,A1,A2,rfl,rfl,h1,h2⟩:=R.cH r
   obtain⟨rfl,rfl⟩:=s8.mp e.symm
   rw[VN]at h ⊢
   by_cases z:f=n
   ·subst z
    rw[fZ,beq_self_eq_true]at h
    cases h
    refine⟨v,?_,h1⟩
    rw[fZ,beq_self_eq_true]
   ·have z':(f==n)=false:=beq_eq_false_iff_ne.mpr z
    rw[fZ,z']at h
    obtain⟨w,e1,e2⟩:=ih h [] rfl h2
    refine⟨w,?_,e2⟩
    rw[fZ,z']
    exact e1
theorem M6{ns:List Str}{ws:List V}{f:Str}(h:f ∉ ns):(ns.zip ws).lookup f=none:=by
 induction ns generalizing ws with
 | nil=>simp
 | cons n ns ih =>
  cases ws with
  | nil=>simp
  | cons w ws =>
   rw[VN,fZ]
   have hn:(f==n)=false:=beq_eq_false_iff_ne.mpr λz=>h (by rw[z];simp)
   simp only[hn]
   exact ih λz=>h (by simp[z])
theorem Gq{F H:Hp}{C:Addr}{ns:List Str}{xs:List D}{v:V}(s:S F H [.obj C ns xs] [v]):∃p dx ws,v=.ref p/\H p=some (.ins C dx (ns.zip ws))/\ns.length=ws.length/\R F H xs ws []:=by
 cases s with
 | obj h l r _=>exact⟨_,_,_,rfl,h,l,r⟩
section
variable{X:Cx}{e o:Expr}{es:List Expr}{f m x:Str}{pos p apos:Pos}{t to:aO}{ta:cm}{n:Nat}
noncomputable def oZ(K:PySem.W.Frag)(t:aO)(f:Str):aO:=λδ Q=>t δ λd ah=>∃C ns xs v,d=.obj C ns xs/\cE K C/\bf K C f/\(ns.zip xs).lookup f=some v/\Q v ah
theorem cA6(he:PE X e (lB t))(hb:attributeBase e f X.env (eval e X.env)=eval e X.env:=by rfl):PE X (.Attribute e f pos) (lB (oZ X.K t f)) :=
 dF (tS he hb) λσ H Q zq=>by
 obtain⟨B,F,δ,ts,Qd,c,q,k⟩:=zq
 exact⟨B,F,δ,ts,_,c,q,λd ah v F' H' ⟨C,ns,xs,w,ed,hc,hn,hl,hq⟩ f1 h1 c1 s1=>by
  subst ed
  obtain⟨p,dx,ws,rfl,hp,_,r⟩:=Gq s1
  obtain⟨u,hu,ru⟩:=bL3 r hl
  exact⟨p,C,dx,_,u,rfl,hp,hc,hn,hu,k w ah u F' H' hq f1 h1 c1 ru.s⟩⟩
structure iO(P:Program)(w:World)(K:PySem.W.Frag)(mg:Str->Option Value)(base:Heap)(n:Nat)(m:Str)(C:Addr)(sp:aW):Prop where
 cls:cE K C
 ex:∃f fd ps,Meth K C m f/\aH P w K mg base aP n f fd ps (a6 sp)/\Binds K fd ps []
noncomputable def pd(MO:Addr->aW->Prop)(m:Str)(to:aO)(ta:cm):aO:=λδ Q=>to δ λd aj=>∃C ns xs sp,d=.obj C ns xs/\MO C sp/\m ∉ ns/\ta aj λds a7=>sp ((D.obj C ns xs::ds).map D.sh) λr=>((D.obj C ns xs::ds).all D.pl||r.fr)=true/\Q r a7
theorem cs5{pl:Sem Bool}(ho:PE X o (lB to))(hr:bQ n X.A)(ha:PA X (e::es) (lA ta))
  (cy:starEach (e::es) X.env=(false,eval e X.env)::starEach es X.env:=by rfl) (bu:(backTo pos (starEach es X.env)).any (·.1)=false:=by rfl)
  (ht:eval (.Call (.Attribute o m apos) (e::es) [] pos) X.env=(do
   let ov<-eval o X.env
   standAt apos.atName
   let (f,first)<-holding [ov] (getMethod ov m pl)
   callWith pos f first (backTo pos (starEach (e::es) X.env)) (backToKw pos (keywordEach [] X.env))):=by rfl) :
  PE X (.Call (.Attribute o m apos) (e::es) [] pos) (lE (pd (iO X.prog X.w X.K X.mg X.base n m) m to ta)):=by
 intro pins s σ H Q I zz
 obtain⟨B,F,δ,ts,Qd,c,q,k⟩:=zz
 refine PySem.W.methodCall_KW (pl:=pl) (aS (ho pins s σ H (λx H1=>∃d aj F1,S F1 H1 [d] [x]/\ak B F1 H1 σ aj ts/\af F F1/\af H H1/\∃C ns xs sp,d=.obj C ns xs/\iO X.prog X.w X.K X.mg X.base n m C sp/\m ∉ ns/\ta aj λds a7=>sp ((D.obj C ns xs::ds).map D.sh) λr=>((D.obj C ns xs::ds).all D.pl||r.fr)=true/\Qd r a7) I
  ⟨B,F,δ,ts,_,c,q,λd aj v F1 H1 hq f1 h1 c1 s1=>⟨d,aj,F1,s1,c1,f1,h1,hq⟩⟩) λu s1 zq=>?_) ht
 obtain⟨x,H1,I1,rx,d,aj,F1,sd,c1,f1,h1,C,ns,xs,sp,ed,M,hm,hq⟩:=zq
 subst ed
 obtain⟨a,dx,ws,rfl,ea,hl,r0⟩:=Gq sd
 obtain rfl:u=fq a:=rx
 obtain⟨f,fd,ps,y9,FO,hb⟩:=M.ex
 refine ED I1 ea M.cls y9 (M6 hm) ?_
 refine PySem.W.callWith_K (first:=[.ref a]) (h₀:=X.base) I.ok.mod.nE y9.kp (aS (ha pos pins s1 σ H1 (λvs H2=>∃ds a7 F2,S F2 H2 ds vs/\ak B F2 H2 σ a7 ts/\af F1 F2/\af H1 H2/\sp ((D.obj C ns xs::ds).map D.sh) λr=>((D.obj C ns xs::ds).all D.pl||r.fr)=true/\Qd r a7) I1
  ⟨B,F1,aj,ts,_,c1,hq,λds a7 vs F2 H2 hq f2 h2 c2 s2=>⟨ds,a7,F2,s2,c2,f2,h2,hq⟩⟩) λus s2 ⟨vs,H2,I2,r,ds,a7,F2,sds,c2,f2,h2,jr⟩=>⟨I2.cQ,?_⟩) cy bu
 refine yf (us:=.ref a::us) (vs:=.ref a::vs) (fw:=[]) FO hr hb .nil cL I2 (.cons rfl r) ?_
 rw[fu]
 exact BL c2 (.obj (h2 _ _ ea) hl (r0.shared f2 h2) sds) jr λd v F' H' hd hf hs c'=>k d a7 v F' H' hd (f1.trans (f2.trans hf)) (h1.trans (h2.trans hs)) c'
noncomputable def pf(MO:Addr->aW->Prop)(m:Str)(to:aO):aO:=λδ Q=>to δ λd aj=>∃C ns xs sp,d=.obj C ns xs/\MO C sp/\m ∉ ns/\sp [D.obj C ns xs] λr=>Q r aj
theorem cj0{pl:Sem Bool}(ho:PE X o (lB to))(hr:bQ n X.A)
  (ht:eval (.Call (.Attribute o m apos) [] [] pos) X.env=(do
   let ov<-eval o X.env
   standAt apos.atName
   let (f,first)<-holding [ov] (getMethod ov m pl)
   callWith pos f first (backTo pos (starEach [] X.env)) (backToKw pos (keywordEach [] X.env))):=by rfl) :
  PE X (.Call (.Attribute o m apos) [] [] pos) (lE (pf (iO X.prog X.w X.K X.mg X.base n m) m to)):=by
 intro pins s σ H Q I zz
 obtain⟨B,F,δ,ts,Qd,c,q,k⟩:=zz
 refine PySem.W.methodCall_KW (pl:=pl) (aS (ho pins s σ H (λx H1=>∃d aj F1,S F1 H1 [d] [x]/\ak B F1 H1 σ aj ts/\af F F1/\af H H1/\∃C ns xs sp,d=.obj C ns xs/\iO X.prog X.w X.K X.mg X.base n m C sp/\m ∉ ns/\sp [D.obj C ns xs] λr=>Qd r aj) I
  ⟨B,F,δ,ts,_,c,q,λd aj v F1 H1 hq f1 h1 c1 s1=>⟨d,aj,F1,s1,c1,f1,h1,hq⟩⟩) λu s1 zq=>?_) ht
 obtain⟨x,H1,I1,rx,d,aj,F1,sd,c1,f1,h1,C,ns,xs,sp,ed,M,hm,hq⟩:=zq
 subst ed
 obtain⟨a,dx,ws,rfl,ea,hl,r0⟩:=Gq sd
 obtain rfl:u=fq a:=rx
 obtain⟨f,fd,ps,y9,FO,hb⟩:=M.ex
 refine ED I1 ea M.cls y9 (M6 hm) ?_
 refine PySem.W.callWith_K0 (first:=[.ref a]) I1.cQ y9.kp (yf (us:=[.ref a]) (vs:=[.ref a]) (fw:=[]) FO hr hb .nil cL I1 (.cons rfl .nil) ?_)
 show a6 sp [.ref a] H1 Q E0
 exact BL (Qd:=λr=>Qd r aj) c1 (.obj ea hl r0 .nil) (by simpa[D.sh,D.pl]using hq) λd v F' H' hd hf hs c'=>k d aj v F' H' hd (f1.trans hf) (h1.trans hs) c'
end
structure bL(x:Addr)(H H':Hp):Prop where
 get:∀b o,b≠x->H b=some o->ju o=true->H' b=some o
 tb:∀b ps,H b=some (.dO ps)->∃more,H' b=some (.dO (ps++more))
theorem bL.trans{x:Addr}{H H1 H2:Hp}(a:bL x H H1)(b:bL x H1 H2):bL x H H2 :=
 ⟨λc o n h t=>b.get c o n (a.get c o n h t) t,λc ps h=>by
  obtain⟨m1,e1⟩:=a.tb c ps h
  obtain⟨m2,e2⟩:=b.tb c _ e1
  exact⟨m1++m2,by rw[e2,sS]⟩⟩
theorem af.x{x:Addr}{H H':Hp}(h:af H H'):bL x H H':=⟨λb o _ e n=>h.get b o e n,h.tb⟩
theorem bL.upd{x C dx:Addr}{H:Hp}{o o':HO}(h:H x=some o)(n:ju o=true):bL x H (upd H x o') :=
 ⟨λb o z e _=>by rw[aT z];exact e,λb ps e=>⟨#[],by rw[aT (λz=>by rw[z,h]at e;cases e;cases n),e];simp⟩⟩
noncomputable def Gr(tl:List Addr)(C:Addr)(iP:List D->List Str->List D->Prop):Sp:=λvs H Q _=>∃x dx bK ds ns xs,vs=.ref x::bK/\Tb tl H/\H x=some (.ins C dx [])/\R H H ds bK []/\iP ds ns xs /\
 ∀H' ws A,bL x H H'->H' x=some (.ins C dx (ns.zip ws))->ns.length=ws.length->R (λ_=>none) H' xs ws A->A.Nodup->(∀a∈A,H a=none)->Q .au H'
noncomputable def sk(C:Addr)(iP:List D->List Str->List D->Prop)(ta:cm):aO:=λδ Q=>ta δ λds ah=>∃ns xs,iP (ds.map D.sh) ns xs/\Q (.obj C ns (xs.map D.sh)) ah
theorem ak.made{B:Bs}{F H H':Hp}{σ:L2.St}{δ:Dl}{ts:List (D × V)}{C dx x:Addr}{ns:List Str}{xs:List D}{ws:List V}{A:List Addr}(c:ak B F H σ δ ts)(hs:af H H')(hx:H' x=some (.ins C dx (ns.zip ws)))(hl:ns.length=ws.length)
  (r:R (λ_=>none) H' xs ws A) (fr:∀a∈A,H a=none):af F (L3.bj F H' A)/\ak B (L3.bj F H' A) H' σ δ ((.obj C ns (xs.map D.sh),.ref x)::ts):=by
 have c1:=c.grow hs
 have hF:∀a∈A,F a=none:=λa ha=>c.ext.free (fr a ha)
 have r1:R F H' xs ws A:=r.keep (af.of λb o e=>by cases e) (gb.same (af.refl _)) gO.nil hF (by simp)
 have r2:=r1.bj c1.ext A (λ_ h=>h)
 have fs:af F (L3.bj F H' A):=iH c1.ext
 obtain⟨A',C',r',s',nd,wO⟩:=c.own
 have out:∀a,(∃ws,H a=some (.lst ws))/\F a=none->L3.bj F H' A a=none:=λa zz=>by
  obtain⟨⟨ws,h⟩,hf⟩:=zz
  rw[qE (λz=>by rw[fr a z]at h;cases h)];exact hf
 have g1:=r'.grow fs hs λa ha=>out a (r'.lists a ha)
 have g2:=s'.keep fs (gb.same hs) gO.nil (λa ha=>out a (s'.lists a ha)) (by simp)
 refine⟨fs,nV c1.ext,c1.b1,c1.b2.trans fs,λa ws h=>?_,A',C',?_,g2,nd,wO⟩
 ·by_cases z:a∈A
  ·exact .inr (c.b1.free (fr a z))
  ·rw[qE z]at h;exact c.b3 a ws h
 ·exact R.obj hx hl r2 g1
section
variable{X:Cx}{CX:eP}{n:Nat}{f C:Addr}{fd:FuncData}{ps:List Str}{iP:List D->List Str->List D->Prop}{E:XK}{x:Str}{p pos:Pos}{e:Expr}{es:List Expr}{t:cm}{tl:List Addr}
theorem M7(hT:Tb tl X.jK)(M:Mk X.K C f)(F:aH X.prog X.w X.K X.mg X.base CX n f fd ps (Gr tl C iP))(hr:bQ (n+1) X.A)(hg:Gl X x)(hm:X.mg x=some (.ref C))(hb:Binds X.K fd ps [])(hx:jO CX X E)
  (ha:PA X (e::es) (lA t)) (cS:(x==("__debug__":Str))=false:=by decide) (he:starEach (e::es) X.env=(false,eval e X.env)::starEach es X.env:=by rfl) (bu:(backTo pos (starEach es X.env)).any (·.1)=false:=by rfl) :
  PE X (.Call (.Name x p) (e::es) [] pos) (lE (sk C iP t)):=by
 intro pins s σ H Q I zz
 obtain⟨B,F',δ,ts,Qd,c,q,k⟩:=zz
 have tb:=Cc I hT
 refine EE M F hr hg hm hb .nil hx ha cS he bu pins s σ H Q I ⟨B,F',δ,ts,_,c,q,λds aj vs F1 H1 q1 f1 h1 c1 s1=>?_⟩
 intro x dx bO dZ jS
 obtain⟨ns,xs,hI,hq⟩:=q1
 have sm:af H1 (upd (upd H1 dx (.own x)) x (.ins C dx [])):=.of λb o e=>by rw[aT (dX e bO),aT (dX e dZ)];exact e
 refine⟨x,dx,vs,ds.map D.sh,ns,xs,by rw[fu],uW (uW tb h1) sm,bI,(s1.frozen c1.ext).shared sm sm,hI,λH' ws A sq dr hl r nd fr=>⟨rfl,?_⟩⟩
 have s2:af H1 H':=⟨λb o e n=>sq.get b o (dX e bO) (sm.get b o e n) n,λb ps e=>by
  obtain⟨m1,e1⟩:=sm.tb b ps e
  obtain⟨m2,e2⟩:=sq.tb b _ e1
  exact⟨m1++m2,by rw[e2,sS]⟩⟩
 obtain⟨fs,c2⟩:=c1.made s2 dr hl r λa ha=>sm.free (fr a ha)
 exact k _ aj _ _ H' hq (f1.trans fs) (h1.trans s2) c2
end
end L3
namespace Mf
open PySem L2 L3
noncomputable def gm(m:Bool × Nat)(a b:Nat):Nat:=if m.1 then md (cl a b) m.2 else a*b%m.2
noncomputable def aa(m:Bool × Nat):Nat:=if m.1 then 2 ^ (bl m.2-1)else m.2
noncomputable def Cn(g:Nat->Nat->Nat)(a:Nat):Nat->Nat->List Int->Option (List Int)
 | 0,_,_=>none
 | f+1,p,acc=>if p=1 then some acc else if p<64 then Cn g a f (g p a) (acc++[(p:Int)])else none
noncomputable def Gu(g:Nat->Nat->Nat)(a:Nat):Option (List Int):=Cn g a 64 (g 1 a) [1]
noncomputable def Co(g:Nat->Nat->Nat)(many:Nat):Nat->Nat->List Int->Option (List Int)
 | 0,_,_=>none
 | f+1,st,l=>if l.length+1<many then(match Gu g (st+1)with | some l'=>Co g many f (st+1) l' | none=>none)else some l
noncomputable def za(g:Nat->Nat->Nat)(many:Nat):Option (List Int):=match Gu g 1 with | some l=>Co g many 62 1 l | none=>none
noncomputable def zb(g:Nat->Nat->Nat):wN:=λi j Q=>∃a b:Nat,i=a/\j=b/\a<64/\b<64/\Q (g a b:Nat)
noncomputable def gW:List Nat:=[7,11,13,19,25,31,37,41,47,55,59,61,67,73,87,91,97,103,109,115,117]
noncomputable def ph:List Nat:=[2,3,5,7,11,13,17,19,23,29,31,37,41,43,47,53,59,61]
noncomputable def aw:List (Bool × Nat):=gW.map (λn=>(true,n))++ph.map λn=>(false,n)
noncomputable def pj(l:List Int):Nat->List Int
 | 0=>aV (l.length+1) 0
 | i+1=>(pj l i).set (l.getD i 0).toNat (i:Int)
noncomputable def eQ(l:List Int):List Int:=pj l l.length
theorem zc(l:List Int):∀i,(pj l i).length=l.length+1
 | 0=>by simp[pj]
 | i+1=>by simp[pj,zc l i]
noncomputable def sr(l g:List Int)(a:Nat):List Int:=if a=0 then aV (l.length+1) 0 else 0::(aL l.length).map λ(b:Nat)=>l.getD ((g.getD a 0+g.getD (b+1) 0)%(l.length:Int)).toNat 0
noncomputable def wQ(l g:List Int)(n:Nat):List D:=(aL n).map λa=>D.lst true (aJ (sr l g a))
noncomputable def su(l g:List Int):List D:=wQ l g (l.length+1)
end Mf
namespace L3
open PySem L2 Mf
noncomputable def LI(H:Hp)(p:Addr)(ns:List Int):Prop:=H p=some (.lst (ns.map V.int))
theorem LI.same{H H':Hp}{p:Addr}{ns:List Int}(h:LI H p ns)(s:af H H'):LI H' p ns:=s.get _ _ h
theorem LI.upd{H:Hp}{p x:Addr}{ns:List Int}{o o':HO}(h:LI H p ns)(hx:H x=some o)(n:∀ws,o≠.lst ws):LI (upd H x o') p ns:=by
 unfold LI
 rw[aT (λz=>by rw[z]at h;unfold LI at h;rw[hx]at h;cases h;exact n _ rfl)];exact h
theorem M8{F' H' H:Hp}{v:V}{A:List Addr}{ns:List Int}(r:R F' H' [.lst true (aJ ns)] [v] A)(fr:∀a∈A,H a=none):∃p,v=.ref p/\LI H' p ns/\H p=none:=by
 cases r with
 | @own p ws xs A1 _ _ B1 hp hf r1 r2 =>
  have:=FP r1.s
  subst this
  exact⟨p,rfl,hp,fr p (by simp)⟩
structure cT6(K:PySem.W.Frag)(C f:Addr):Prop where
 cls:cE K C
 many:bf K C "many"
 wide:bf K C "wide"
 Gv:bf K C "powers"
 cT7:bf K C "logs"
 step:bf K C "step"
 sp:Meth K C "step_power" f
structure M9(g:Nat->Nat->Nat)(many:Nat)(l:List Int)(st:Int):Prop where
 lo:2<=many
 hi:many<=64
 step:za g many=some l
 len:l.length+1=many
 ins:∀x∈l,0<=x/\x.toNat<=l.length
 st:l[((1:Int)%((many:Int)-1)).toNat]?=some st
noncomputable def iQ(b:Str):List Str:=[b,"many","wide","powers","logs","step"]
noncomputable def Cp(n0:Int)(many:Nat)(p1 p2:Addr)(st:Int):List V:=[.int n0,.int many,.int ((bl many:Nat)-1),.ref p1,.ref p2,.int st]
theorem wR{f:Str}{v:V}:∀{fs:List (Str × V)},(∀p∈fs,p.1≠f)->b9 f v fs=fs++[(f,v)]
 | [],_=>rfl
 | (g,x)::r,h=>by
  unfold b9
  rw[if_neg (h (g,x) (by simp)),wR λp hp=>h p (by simp[hp])];rfl
theorem kB.mU{H:Hp}{x C dx f c k:Addr}{fs:List (Str × V)}{o':HO}{of oc:Obj}(h:kB H f of oc c k)(hx:H x=some (.ins C dx fs)):kB (L2.upd H x o') f of oc c k:=by
 obtain⟨ψ,e,yX⟩:=h.Fh
 exact⟨by rw[aT (λz=>by rw[<-z,h.fn]at hx;cases hx)];exact h.fn,by rw[aT (λz=>by rw[<-z,h.cell]at hx;cases hx)];exact h.cell,ψ,by rw[aT (λz=>by rw[<-z,e]at hx;cases hx)];exact e,yX⟩
theorem zd{H:Hp}{x p:Addr}{o o':HO}(hx:H x=some o)(h:L2.upd H x o' p=none):H p=none:=by
 by_cases z:p=x
 ·subst z;rw[bI]at h;cases h
 ·rw[aT z]at h;exact h
theorem Cq{α:Type}{b f:Str}{v:α}{r:List (Str × α)}(h:b≠f):((b,v)::r).lookup f=r.lookup f:=by
 rw[fZ,beq_eq_false_iff_ne.mpr (e7 h)]
section
variable{H2 H3 H':Hp}{x f c p:Addr}{o1 o2:HO}
theorem ze{b:Addr}{o:HO}(e:H3 b=some o)(nb:b≠f)(nc:H3 c=none):L2.upd (L2.upd H3 f o1) c o2 b=some o:=by
 rw[aT (dX e nc),aT nb];exact e
theorem Na(hs:af H2 H3)(nf:H2 f=none)(nc:H3 c=none)(s:bL x (L2.upd (L2.upd H3 f o1) c o2) H'):bL x H2 (rem H' f c) where
 get b o n e t:=by
  have z1:=dX e nf
  have e3:=hs.get b o e t
  rw[iN z1 (dX e3 nc)]
  exact s.get b o n (ze e3 z1 nc) t
 tb b ps e:=by
  have z1:=dX e nf
  obtain⟨m,e3⟩:=hs.tb b ps e
  obtain⟨m2,e4⟩:=s.tb b _ (ze e3 z1 nc)
  exact⟨m++m2,by rw[iN z1 (dX e3 nc),e4,sS]⟩
theorem Cr(hs:af H2 H3)(h:L2.upd (L2.upd H3 f o1) c o2 p=none):H2 p=none:=by
 refine hs.free ?_
 by_cases z:p=c
 ·subst z;rw[bI]at h;cases h
 ·rw[aT z]at h
  by_cases z2:p=f
  ·subst z2;rw[bI]at h;cases h
  ·rw[aT z2]at h;exact h
theorem LI.rem{l:List Int}{φ:Heap->Prop}{y:Addr}(h:LI H' p l)(hf:H' f=some (.ext φ))(hc:H' c=some (.own y)):LI (rem H' f c) p l:=by
 unfold LI at h ⊢
 rw[iN (λz=>by rw[z,hf]at h;cases h) (λz=>by rw[z,hc]at h;cases h)];exact h
theorem Nb{of oc:Obj}{k:Addr}(jS:c≠f)(nc:H3 c=none)(hk:Fg H3 k)(kf:k≠f):kB (L2.upd (L2.upd H3 f (.ext (jT of oc c f))) c (.own f)) f of oc c k:=by
 obtain⟨ψ,e,yX⟩:=hk
 exact⟨by rw[aT jS.symm,bI],bI,ψ,ze e kf nc,yX⟩
end
noncomputable def fl(m:Bool × Nat):List Int:=(za (gm m) (aa m)).getD []
noncomputable def fst(m:Bool × Nat):Int:=(fl m).getD ((1:Int)%((aa m:Int)-1)).toNat 0
noncomputable def Nc(m:Bool × Nat):Bool:=decide (2<=aa m)&&decide (aa m<=64)&&(za (gm m) (aa m)).isSome&&decide ((fl m).length+1=aa m)&&(fl m).all (λx=>decide (0<=x)&&decide (x.toNat<=(fl m).length))&&decide (((1:Int)%((aa m:Int)-1)).toNat<(fl m).length)
theorem ci7:aw.all Nc=true:=by decide +kernel
theorem bZ{m:Bool × Nat}(h:m∈aw):M9 (gm m) (aa m) (fl m) (fst m):=by
 have h:=dy.mp ci7 m h
 simp only[Nc,eU,decide_eq_true_eq,dy]at h
 obtain⟨⟨⟨⟨⟨h1,h2⟩,h3⟩,h4⟩,h5⟩,h6⟩:=h
 obtain⟨l,e⟩:=AB.mp h3
 have el:fl m=l:=by unfold fl;rw[e];rfl
 refine⟨h1,h2,by rw[e,el],h4,λx hx=>h5 x hx,?_⟩
 unfold fst
 rw[aN,aM h6];rfl
theorem b07:∀p∈ph,(decide (2<=(p:Int))&&decide ((p:Int)<=61)&&(aL ((p:Int).toNat-2)).all λi=>(p:Int)%(2+(i:Int)) != 0)=true:=by decide +kernel
theorem co5:∀p∈gW,(decide (4<=(p:Int))&&decide ((p:Int)<=127)&&al (p:Int).toNat)=true:=by decide +kernel
theorem R.mU{F H:Hp}{x C dx:Addr}{fs:List (Str × V)}{o':HO}{ds:List D}{vs:List V}{A:List Addr}(r:R F H ds vs A)(hx:H x=some (.ins C dx fs))(hd:ds.all D.fr=true):R F (L2.upd H x o') ds vs A:=by
 have up:∀{a o},H a=some o->(∀C dx fs,o≠.ins C dx fs)->L2.upd H x o' a=some o:=λ{a o} e n=>by
  rw[aT (λz=>by rw[z,hx]at e;cases e;exact n _ _ _ rfl)];exact e
 induction r with
 | nil=>exact .nil
 | au _ ih=>exact .au (ih (by simpa[D.fr]using hd))
 | bl _ ih=>exact .bl (ih (by simpa[D.fr]using hd))
 | int _ ih=>exact .int (ih (by simpa[D.fr]using hd))
 | str _ ih=>exact .str (ih (by simpa[D.fr]using hd))
 | shr h x _ i1 ih=>simp[eZ]at hd
 | own h f _ _ i1 i2 =>
  rw[de,eZ,eU,kQ]at hd
  exact .own (up h λ_ _ _ z=>by cases z) f (i1 hd.1) (i2 hd.2)
 | tup h _ _ i1 i2 =>
  rw[de,nU,eU]at hd
  exact .tup (up h λ_ _ _ z=>by cases z) (i1 hd.1) (i2 hd.2)
 | obj h l x _ i1 ih=>simp[D.fr]at hd
 | fz h x _ i1 ih=>simp[D.fr]at hd
 | @bx p z _ _ _ h r ih =>
  refine .bx ?_ (ih (by simpa[D.fr]using hd))
  cases z with
  | ext φ=>exact up h λ_ _ _ z=>by cases z
  | lam of oc c k=>exact kB.mU h hx
theorem Nd(l g:List Int):(su l g).all D.fr=true:=by
 unfold su wQ
 rw[nB,dy]
 intro a _
 show(D.lst true (aJ _)).fr=true
 rw[eZ,oO];rfl
theorem bL.free{x a:Addr}{H H':Hp}(s:bL x H H')(hx:H' x≠none)(h:H' a=none):H a=none:=by
 cases q:H a with
 | none=>rfl
 | some o =>
  by_cases z:a=x
  ·subst z;exact absurd h hx
  ·cases n:ju o with
   | true=>rw[s.get a o z q n]at h;cases h
   | false =>
    obtain⟨ps,rfl⟩:=Ff n
    obtain⟨m,e⟩:=s.tb a ps q
    rw[e]at h;cases h
theorem Nf(l:List Int):∀i,∀x∈pj l i,0<=x
 | 0=>λx hx=>by rw[(s9.mp hx).2];exact Int.le_refl _
 | i+1=>λx hx=>by
  unfold pj at hx
  rcases DZ hx with h | h
  ·exact Nf l i x h
  ·rw[h];exact Jl _
theorem Ng:∀p∈gW,bl p<=7:=by decide +kernel
theorem Nh:∀p∈gW,1<=bl p:=by decide +kernel
theorem b63(a b:Nat):bl (cl a b)<=bl a+bl b:=by
 by_cases ha:a=0
 ·subst ha;rw[qB];exact jE _
 ·by_cases hb:b=0
  ·subst hb
   have:cl a 0=0:=rfl
   rw[this];exact jE _
  ·rw[K7 ha hb];omega
noncomputable def pq(l g:List Int):List D:=(aL (l.length+1)).map λa=>D.lst false (aJ (sr l g a))
theorem b89(l g:List Int):(D.lst true (su l g)).sh=.lst false (pq l g):=by
 rw[cU]
 unfold su wQ pq
 rw[bW]
 congr 1
 apply vG
 intro a _
 show D.sh (.lst true (aJ _))=_
 rw[cU,jw]
theorem bO4(l g:List Int):(pq l g).all D.pl=true:=by
 unfold pq
 rw[nB,dy]
 intro a _
 show(D.lst false (aJ _)).pl=true
 rw[fB,lM];rfl
noncomputable abbrev pD(m:Bool × Nat):List D:=[.int m.2,.int (aa m),.int ((bl (aa m):Nat)-1),.lst false (aJ (fl m)),.lst false (aJ (eQ (fl m))),.int (fst m)]
noncomputable def uX(C:Addr)(p:Nat):D:=.obj C (iQ "prime") (pD (false,p))
noncomputable def uY(C:Addr)(p:Nat):D:=.obj C (iQ "bits"++[("products":Str)]) (pD (true,p)++[.lst false (pq (fl (true,p)) (eQ (fl (true,p))))])
noncomputable def fD(cb cp:Addr)(m:Bool × Nat):D:=if m.1 then uY cb m.2 else uX cp m.2
end L3
namespace L3
open PySem L2 Mf
theorem zh{u p:Nat}(h:bl u<bl p):md u p=u:=yo (q:=0) (by rw[qB,qe]) h
theorem bV0{u v n:Nat}(hu:bl u<n)(hv:bl v<n):bl (u ^^^ v)<n:=by
 have h1:u<2 ^ (n-1):=ff.mp (by omega)
 have h2:v<2 ^ (n-1):=ff.mp (by omega)
 have:=ff.mpr (wa h1 h2)
 omega
theorem Ct{p:Nat}(hp:p≠0)(u v:Nat):md (u ^^^ v) p=md u p ^^^ md v p:=by
 obtain⟨⟨q1,e1⟩,l1⟩:=yn hp u
 obtain⟨⟨q2,e2⟩,l2⟩:=yn hp v
 refine yo (q:=q1 ^^^ q2) ?_ (bV0 l1 l2)
 rw[qA,<- KW,<- e1,<- e2]
theorem Ni{p:Nat}(hp:p≠0)(w:Nat):md (cl p w) p=0:=by rw[ym];exact YY w hp
theorem bM:∀m∈aw,0<m.2:=by decide +kernel
theorem fV(m:Bool × Nat)(a b:Nat):gm m a b=gm m b a:=by
 unfold gm
 split
 ·rw[ym]
 ·rw[nt]
theorem Nj{n:Nat}(hn:n≠0)(u c:Nat):md (cl (md u n) c) n=md (cl u c) n:=by
 obtain⟨⟨q,e⟩,_⟩:=yn hn u
 have h:cl u c=cl n (cl q c) ^^^ cl (md u n) c:=by
  conv=>lhs;rw[e]
  rw[qA,ym n q,Lc]
 rw[h,Ct hn,Ni hn,qe]
theorem ig{m:Bool × Nat}(h:0<m.2)(a b c:Nat):gm m (gm m a b) c=gm m a (gm m b c):=by
 unfold gm
 split
 ·rw[Nj (by omega),ym (md (cl b c) m.2) a,Nj (by omega),Lc a b c,ym (cl b c) a]
 ·rw[xK,JG,<- xK,xK a (b*c%m.2),JG,<- xK,vE]
theorem Nk{m:Bool × Nat}(h:m.1=true){a:Nat}:a<aa m↔bl a<=bl m.2-1:=by
 unfold aa
 rw[if_pos h];exact ff.symm
theorem pz{m:Bool × Nat}{a:Nat}(ha:a<aa m):gm m 1 a=a:=by
 obtain⟨k,n⟩:=m
 cases k with
 | true =>
  show md (cl 1 a) n=a
  rw[EV]
  have h1:=(Nk (m:=(true,n)) rfl).mp ha
  have h1:bl a<=bl n-1:=h1
  by_cases z:bl n=0
  ·have a0:a=0:=by
    have:=ff (n:=a) (m:=0)
    have:=this.mp (by omega)
    omega
   subst a0
   have n0:n=0:=by
    have:=(ff (n:=n) (m:=0)).mp (by omega)
    omega
   subst n0
   decide
  ·exact zh (by omega)
 | false=>show 1*a%n=a;rw[Nat.one_mul];exact xM ha
theorem mV{m:Bool × Nat}{a:Nat}(ha:a<aa m):gm m a 1=a:=by rw[fV];exact pz ha
noncomputable def lg(m:Bool × Nat)(a:Nat):Int:=(eQ (fl m)).getD a 0
noncomputable def pw(m:Bool × Nat)(k:Nat):Int:=(fl m).getD k 0
noncomputable def Gw(m:Bool × Nat):Bool:=((aL (aa m-1)).all λk=>decide (1<=pw m k)&&decide (pw m k<aa m)&&decide (lg m (pw m k).toNat=k))&&((aL (aa m-1)).all λa=>decide (0<=lg m (a+1))&&decide (lg m (a+1)<(aa m:Int)-1)&&decide (pw m (lg m (a+1)).toNat=((a+1:Nat):Int)))
theorem Nl:aw.all Gw=true:=by decide +kernel
theorem Cu{m:Bool × Nat}(hm:m∈aw){k:Nat}(hk:k<aa m-1):1<=pw m k/\pw m k<aa m/\lg m (pw m k).toNat=k:=by
 have h:=dy.mp Nl m hm
 simp only[Gw,eU,dy,decide_eq_true_eq,bU]at h
 have:=h.1 k hk
 exact⟨this.1.1,this.1.2,this.2⟩
theorem Cv{m:Bool × Nat}(hm:m∈aw){a:Nat}(h1:1<=a)(h2:a<aa m):0<=lg m a/\lg m a<(aa m:Int)-1/\pw m (lg m a).toNat=a:=by
 have h:=dy.mp Nl m hm
 simp only[Gw,eU,dy,decide_eq_true_eq,bU]at h
 have:=h.2 (a-1) (by omega)
 rw[show a-1+1=a by omega]at this
 exact⟨this.1.1,this.1.2,this.2⟩
theorem fj(m:Bool × Nat)(b:Nat)(h:0<m.2):gm m 0 b=0:=by
 unfold gm
 split
 ·rw[qB];exact zh (by rw[nR];exact iE (by omega))
 ·rw[Nat.zero_mul,Nat.zero_mod]
theorem gA(m:Bool × Nat)(b:Nat)(h:0<m.2):gm m b 0=0:=by rw[fV];exact fj m b h
noncomputable def stC(m:Bool × Nat):Bool:=decide (pw m 0=1)&&(aL (aa m-1)).all λk=>decide (gm m (pw m k).toNat (pw m (1%(aa m-1))).toNat=(pw m ((k+1)%(aa m-1))).toNat)
theorem Nm:aw.all stC=true:=by decide +kernel
theorem Nn(m:Bool × Nat)(hm:m∈aw):pw m 0=1:=by
 have h:=dy.mp Nm m hm
 simp only[stC,eU,decide_eq_true_eq]at h
 exact h.1
noncomputable def pN(m:Bool × Nat)(k:Nat):Nat:=(pw m (k%(aa m-1))).toNat
theorem cD9{m:Bool × Nat}(hm:m∈aw)(k:Nat):pN m k<aa m:=by
 have cT:=(bZ hm).lo
 have:=Cu hm (vH k (show 0<aa m-1 by omega))
 unfold pN
 omega
theorem Np{m:Bool × Nat}(hm:m∈aw)(k:Nat):gm m (pN m k) (pN m 1)=pN m (k+1):=by
 have cT:=(bZ hm).lo
 have h:=dy.mp Nm m hm
 simp only[stC,eU,decide_eq_true_eq,dy,bU]at h
 have h2:=h.2 (k%(aa m-1)) (vH k (by omega))
 rw[xN]at h2
 exact h2
theorem Nq{m:Bool × Nat}(hm:m∈aw)(i:Nat):∀j,gm m (pN m i) (pN m j)=pN m (i+j)
 | 0=>by
  have e:pN m 0=1:=by unfold pN;rw[Nat.zero_mod,Nn m hm];rfl
  rw[e,mV (cD9 hm i)];rfl
 | j+1=>by rw[<-Np hm j,<- ig (bM m hm),Nq hm i j,Np hm];rfl
theorem Gx{m:Bool × Nat}(hm:m∈aw){a b:Nat}(a1:1<=a)(a2:a<aa m)(b1:1<=b)(b2:b<aa m):((gm m a b:Nat):Int)=pw m ((lg m a+lg m b)%((aa m:Int)-1)).toNat:=by
 have cT:=(bZ hm).lo
 obtain⟨g0,g1,g2⟩:=Cv hm a1 a2
 obtain⟨f0,f1,f2⟩:=Cv hm b1 b2
 have ea:pN m (lg m a).toNat=a:=by unfold pN;rw[xM (by omega),g2];rfl
 have eb:pN m (lg m b).toNat=b:=by unfold pN;rw[xM (by omega),f2];rfl
 have e:=Nq hm (lg m a).toNat (lg m b).toNat
 rw[ea,eb]at e
 rw[e]
 have ei:((lg m a+lg m b)%((aa m:Int)-1)).toNat=((lg m a).toNat+(lg m b).toNat)%(aa m-1):=by
  have:(((lg m a).toNat+(lg m b).toNat)%(aa m-1):Nat)=((lg m a+lg m b)%((aa m:Int)-1)):=by
   rw[ql,AM,xO g0,xO f0,Int.natCast_sub (by omega)];rfl
  omega
 rw[ei]
 have:=Cu hm (vH ((lg m a).toNat+(lg m b).toNat) (show 0<aa m-1 by omega))
 unfold pN
 omega
theorem ci4{p a:Nat}(hp:p∈gW)(ha:a<aa (true,p)):sr (fl (true,p)) (eQ (fl (true,p))) a=(aL (aa (true,p))).map λb=>((gm (true,p) a b:Nat):Int):=by
 have hm:(true,p)∈aw:=eN _ (AN hp)
 have h0:=bM _ hm
 have hF:=bZ hm
 have hlen:=hF.len
 unfold sr
 split
 ·rename_i h
  subst h
  rw[hlen]
  refine AO (by simp) λi h1 h2=>?_
  simp[fj _ _ h0]
 ·rename_i h
  rw[<-hlen,VJ,da,bW,gA _ _ h0]
  congr 1
  apply vG
  intro b hb
  have hb:=bU.mp hb
  show(fl (true,p)).getD (((eQ (fl (true,p))).getD a 0+(eQ (fl (true,p))).getD (b+1) 0)%((fl (true,p)).length:Int)).toNat 0=((gm (true,p) a (b+1):Nat):Int)
  rw[Gx hm (by omega) ha (by omega) (by omega),show(((fl (true,p)).length:Nat):Int)=(aa (true,p):Int)-1 by omega]
  rfl
theorem Cw{p a b:Nat}(hp:p∈gW)(ha:a<aa (true,p))(hb:b<aa (true,p)):fA (aJ (sr (fl (true,p)) (eQ (fl (true,p))) a)) (b:Int)=some (.int (gm (true,p) a b:Nat)):=by
 refine qw (by omega) ?_
 rw[ci4 hp ha]
 unfold aJ
 rw[iq,cu,cu,kR hb];rfl
theorem Cy{p a:Nat}(hp:p∈gW)(ha:a<aa (true,p)):fA (pq (fl (true,p)) (eQ (fl (true,p)))) (a:Int)=some (.lst false (aJ (sr (fl (true,p)) (eQ (fl (true,p))) a))):=by
 have hF:=bZ (m:=(true,p)) (eN _ (AN hp))
 refine qw (by omega) ?_
 unfold pq
 rw[iq,cu,kR (by rw[hF.len];exact ha)];rfl
end L3
namespace L3
open PySem L2 Mf
theorem ct3(C:Addr)(p:Nat):D.obj C (iQ "bits"++[("products":Str)]) (DX D.sh [.int p,.int (aa (true,p)),.int ((bl (aa (true,p)):Nat)-1),.lst true (aJ (fl (true,p))),.lst true (aJ (eQ (fl (true,p)))),.int (fst (true,p)),.lst true (su (fl (true,p)) (eQ (fl (true,p))))])=uY C p:=by
 simp only[da,jH]
 rw[b89]
 simp only[cU,lK,jw];rfl
theorem b06(C:Addr)(p:Nat):D.obj C (iQ "prime") (DX D.sh [.int p,.int p,.int ((bl p:Nat)-1),.lst true (aJ (fl (false,p))),.lst true (aJ (eQ (fl (false,p)))),.int (fst (false,p))])=uX C p:=by
 simp only[da,jH,cU,lK,jw];rfl
theorem wU{n:Nat}(h:(true,n)∈aw):n∈gW:=by
 rcases bY.mp h with h | h
 ·obtain⟨x,hx,e⟩:=bw.mp h
  cases e;exact hx
 ·obtain⟨x,hx,e⟩:=bw.mp h
  cases e
theorem bC0{n:Nat}(h:(false,n)∈aw):n∈ph:=by
 rcases bY.mp h with h | h
 ·obtain⟨x,hx,e⟩:=bw.mp h
  cases e
 ·obtain⟨x,hx,e⟩:=bw.mp h
  cases e;exact hx
open Classical in
theorem Nr{α:Type}{sh:Bool}{xs:List D}{az:List (Str × Nat)}{n:Nat}{g0:iJ}{te:aO}{aj:Dl}{Q:D->Dl->Prop}(l:List α)(e g:α->D)(jz:xs.map D.sh=l.map e)(inj:∀a b,e a=e b->a=b)
  (hx:∀a∈l,g0 (e a) (fh az n aj) λa7=>te a7 λd _=>d=g a) (hg:∀d δ (P P':Dl->Prop),(∀ah,P ah->P' ah)->g0 d δ P->g0 d δ P') (df:(sh&&az.all (gx aj))=true\/∀a∈l,(g a).fr=true) (hl:l.length<=sizeLine) (hq:Q (.lst true (l.map g)) aj):oo sh xs az n g0 i8 te aj Q:=by
 let f:D->D:=λx=>if h:∃a∈l,e a=x then g h.choose else .au
 have hf:∀a∈l,f (e a)=g a:=λa ha=>by
  have h:∃b∈l,e b=e a:=⟨a,ha,rfl⟩
  show(if h:∃b∈l,e b=e a then g h.choose else .au)=g a
  rw[dif_pos h]
  exact congrArg g (inj _ _ h.choose_spec.2)
 refine⟨λ_=>true,f,λx h=>?_,df.imp id λh x hx _=>?_,?_,?_⟩
 ·rw[jz]at h
  obtain⟨a,ha,rfl⟩:=bw.mp h
  rw[hf a ha]
  exact hg _ _ _ _ (λah h=>⟨rfl,λ_=>h⟩) (hx a ha)
 ·rw[jz]at hx
  obtain⟨a,ha,rfl⟩:=bw.mp hx
  rw[hf a ha];exact h a ha
 ·have:=congrArg AD jz
  simp at this
  omega
 ·rw[jz,VI.mpr (λ_ _=>rfl),bW,show l.map (f ∘ e)=l.map g from vG λa ha=>hf a ha]
  exact hq
theorem Nt{i1 i2:Nat}(d:D)(δ:Dl)(P P':Dl->Prop)(h:∀ah,P ah->P' ah)(q:iM i1 i2 d δ P):iM i1 i2 d δ P':=by
 unfold iM at q ⊢
 split at q
 ·exact h _ q
 ·exact q
theorem Nu(xs ys:List Int):(dG (aJ xs) (aJ ys)).map D.sh=(xs.zip ys).map λz=>D.tup [.int z.1,.int z.2]:=by
 rw[FY,jw,jw]
 unfold dG aJ
 rw[AK,D0,DY]
theorem cj9{p x y:Nat}(hp:p≠0)(hx:bl x<bl p):md (cl x y) p=(if y%2=1 then x else 0) ^^^ md (cl (if bl (2*x)=bl p then 2*x ^^^ p else 2*x) (y/2)) p:=by
 have e0:md (if y%2=1 then x else 0) p=(if y%2=1 then x else 0):=by
  split
  ·exact zh hx
  ·exact zh (by rw[nR];exact iE hp)
 rw[K4,Ct hp,e0]
 congr 1
 split
 ·rw[qA,Ct hp,Ni hp,mf]
 ·rfl
theorem cn1{p x:Nat}(hp:p≠0)(hx:bl x<bl p):bl (if bl (2*x)=bl p then 2*x ^^^ p else 2*x)<bl p:=by
 have h2:=Y0 x
 have h0:=iE hp
 split
 ·rename_i h
  have n0:2*x≠0:=λz=>by rw[z,nR]at h;omega
  have a1:=js (2*x)
  have a2:=js p
  have b1:=v7 n0
  have b2:=v7 hp
  rw[h]at a1 b1
  obtain⟨k,hk⟩:∃k,bl p=k+1:=⟨bl p-1,by omega⟩
  rw[hk]at a1 a2 b1 b2 ⊢
  have:=ff.mpr (KS a1 a2 b1 b2)
  omega
 ·omega
end L3
namespace L3
open PySem L2 PySem.Spec PyProof.Rows
section
variable{X:Cx}{e o:Expr}{es:List Expr}{f m x:Str}{pos p apos:Pos}{to:aO}{ta:cm}{n:Nat}
end
section
variable{X:Cx}{tb th:cV}{body FU:List Stmt}{FV:Stmt}{K:Str}{Kc:Addr}{kp Mv pos:Pos}
end
end L3
namespace L3
open PySem L2 Mf
theorem Nv{m:Bool × Nat}(hm:m∈aw){a b:Nat}(a1:1<=a)(a2:a<aa m)(b1:1<=b)(b2:b<aa m):∃r:Nat,pw m ((lg m a-lg m b)%((aa m:Int)-1)).toNat=r/\r<aa m/\gm m r b=a:=by
 have hF:=bZ hm
 have cT:=hF.lo
 have n0:=ir (lg m a-lg m b) (show(aa m:Int)-1≠0 by omega)
 have n1:=iu (lg m a-lg m b) (show(0:Int)<(aa m:Int)-1 by omega)
 obtain⟨p1,p2,p3⟩:=Cu hm (k:=((lg m a-lg m b)%((aa m:Int)-1)).toNat) (by omega)
 obtain⟨g0,g1,g2⟩:=Cv hm a1 a2
 refine⟨(pw m ((lg m a-lg m b)%((aa m:Int)-1)).toNat).toNat,by omega,by omega,?_⟩
 have e:=Gx hm (a:=(pw m ((lg m a-lg m b)%((aa m:Int)-1)).toNat).toNat) (by omega) (by omega) b1 b2
 rw[p3,xO n0,Int.emod_add_emod,Int.sub_add_cancel,D1 g0 g1,g2]at e
 omega
end L3
namespace L3
open PySem L2 PySem.Spec PyProof.Rows
section
variable{X:Cx}{e o a:Expr}{es:List Expr}{f m y:Str}{pos p apos q:Pos}{t to ta':aO}{ta:cm}{n:Nat}{P:Program}{w:World}{K:PySem.W.Frag}{mg:Str->Option Value}{base:Heap}
theorem eB(he:PE X e (lB t))(hK:K=X.K:=by rfl)(hb:attributeBase e f X.env (eval e X.env)=eval e X.env:=by rfl):PE X (.Attribute e f pos) (lB (oZ K t f)):=by
 subst hK;exact cA6 he hb
theorem iS{pl:Sem Bool}(ho:PE X o (lB to))(hr:bQ n X.A)(ha:PA X (e::es) (lA ta))(hP:P=X.prog:=by rfl)(hw:w=X.w:=by rfl)(hK:K=X.K:=by rfl)(hm:mg=X.mg:=by rfl)(hb:base=X.base:=by rfl)
  (cy:starEach (e::es) X.env=(false,eval e X.env)::starEach es X.env:=by rfl) (bu:(backTo pos (starEach es X.env)).any (·.1)=false:=by rfl)
  (ht:eval (.Call (.Attribute o m apos) (e::es) [] pos) X.env=(do
   let ov<-eval o X.env
   standAt apos.atName
   let (f,first)<-holding [ov] (getMethod ov m pl)
   callWith pos f first (backTo pos (starEach (e::es) X.env)) (backToKw pos (keywordEach [] X.env))):=by rfl) :
  PE X (.Call (.Attribute o m apos) (e::es) [] pos) (lE (pd (iO P w K mg base n m) m to ta)):=by
 subst hP hw hK hm hb;exact cs5 ho hr ha cy bu ht
theorem Gz{pl:Sem Bool}(ho:PE X o (lB to))(hr:bQ n X.A)(hP:P=X.prog:=by rfl)(hw:w=X.w:=by rfl)(hK:K=X.K:=by rfl)(hm:mg=X.mg:=by rfl)(hb:base=X.base:=by rfl)
  (ht:eval (.Call (.Attribute o m apos) [] [] pos) X.env=(do
   let ov<-eval o X.env
   standAt apos.atName
   let (f,first)<-holding [ov] (getMethod ov m pl)
   callWith pos f first (backTo pos (starEach [] X.env)) (backToKw pos (keywordEach [] X.env))):=by rfl) :
  PE X (.Call (.Attribute o m apos) [] [] pos) (lE (pf (iO P w K mg base n m) m to)):=by
 subst hP hw hK hm hb;exact cj0 ho hr ht
end
theorem uZ:∀m∈Mf.aw,1<=Mf.bl m.2/\Mf.bl m.2<=7:=by decide +kernel
end L3
namespace L3
open PySem L2 Mf
noncomputable def gp(m:Bool × Nat)(a b:Nat):Nat:=if m.1 then a ^^^ b else(a+b)%m.2
noncomputable def gl(m:Bool × Nat)(a b:Nat):Int:=if m.1 then(a ^^^ b:Nat)else((a:Int)-b)%m.2
noncomputable def gd(m:Bool × Nat)(xs ys:List Nat):Nat:=(dm (gm m) xs ys).foldl (gp m) 0
noncomputable def sA(c:Int):Bool × Nat:=if c%2=0 then(true,gW.getD (c/2%21).toNat 0)else(false,ph.getD (c/2%18).toNat 0)
theorem b13(c:Int):sA c∈aw:=by
 unfold sA
 split
 ·refine eN _ (bw.mpr ⟨_,?_,rfl⟩)
  have h:(c/2%21).toNat<gW.length:=by
   have:=iu (c/2) (show(0:Int)<21 by decide)
   show _<21
   omega
  rw[aN,aM h]
  exact dE _
 ·refine dj _ (bw.mpr ⟨_,?_,rfl⟩)
  have h:(c/2%18).toNat<ph.length:=by
   have:=iu (c/2) (show(0:Int)<18 by decide)
   show _<18
   omega
  rw[aN,aM h]
  exact dE _
noncomputable def cP(m:Bool × Nat):D:=.tup [.bl m.1,.int m.2]
theorem sC(cb cp:Addr)(m:Bool × Nat):fD cb cp m=.obj (if m.1 then cb else cp) (if m.1 then iQ "bits"++[("products":Str)]else iQ "prime") (if m.1 then pD (true,m.2)++[.lst false (pq (fl (true,m.2)) (eQ (fl (true,m.2))))]else pD (false,m.2)):=by
 obtain⟨k,n⟩:=m
 cases k<;>rfl
theorem GA(m:Bool × Nat)(x:Str)(h:x ∉ (["bits","prime","many","wide","powers","logs","step","products"]:List Str)):x ∉ (if m.1 then iQ "bits"++[("products":Str)]else iQ "prime"):=by
 obtain⟨k,n⟩:=m
 intro z
 apply h
 cases k
 ·have z:x∈iQ "prime":=z
  simp[iQ]at z
  simp only[bR]
  rcases z with z | z | z | z | z | z<;>simp[z]
 ·have z:x∈iQ "bits"++[("products":Str)]:=z
  simp[iQ]at z
  simp only[bR]
  rcases z with z | z | z | z | z | z | z<;>simp[z]
theorem zi(cb cp:Addr)(m:Bool × Nat):(fD cb cp m).sh=fD cb cp m:=by rw[sC];rfl
theorem Nw(cb cp:Addr)(m:Bool × Nat):(fD cb cp m).pl=true:=by rw[sC];rfl
theorem cj2(m:Bool × Nat):(cP m).sh=cP m:=rfl
theorem cg8(m:Bool × Nat):(cP m).pl=true:=rfl
noncomputable def Nx(P:Program)(w:World)(K:PySem.W.Frag)(mg:Str->Option Value)(base:Heap)(n:Nat)(cb cp:Addr)(m:Bool × Nat)(x:Str)(ds:List D)(Q:D->Prop):Prop:=∃C ns xs sp,fD cb cp m=.obj C ns xs/\iO P w K mg base n x C sp/\x ∉ ns/\sp (.obj C ns xs::ds) Q
theorem Ny{p:Nat}(hp:0<p):∀(l:List Nat) (acc:Nat),acc<p->l.foldl (gp (false,p)) acc=(acc+l.sum)%p
 | [],acc,h=>by simp[xM h]
 | x::l,acc,h=>by
  rw[vD,show gp (false,p) acc x=(acc+x)%p from rfl,Ny hp l _ (vH _ hp),JH]
  show((acc+x)%p+l.sum)%p=_
  rw[xN,DW]
theorem Nz(p:Nat):∀xs ys:List Nat,(dm (gm (false,p)) xs ys).sum%p=(dm (· * ·) xs ys).sum%p
 | [],_=>by simp
 | _::_,[]=>by simp
 | x::xs,y::ys=>by
  simp only[JI,JH]
  show(x*y%p+_)%p=_
  rw[xN,Nat.add_mod,Nz p xs ys,<- Nat.add_mod]
theorem NA:∀xs ys:List Nat,(dm (· * ·) (xs.map λ(n:Nat)=>(n:Int)) (ys.map λ(n:Nat)=>(n:Int))).sum=(((dm (· * ·) xs ys).sum:Nat):Int)
 | [],_=>by simp
 | _::_,[]=>by simp
 | x::xs,y::ys=>by
  simp only[da,JI,JH]
  rw[NA xs ys,AM,vI]
theorem mW(m:Bool × Nat)(a b:Nat):gp m a b=gp m b a:=by
 unfold gp
 split
 ·rw[Jp]
 ·rw[xE]
theorem Cz(m:Bool × Nat)(a b c:Nat):gp m (gp m a b) c=gp m a (gp m b c):=by
 unfold gp
 split
 ·rw[sZ]
 ·rw[xN,Nat.add_mod_mod,DW]
theorem CA{m:Bool × Nat}(h:0<m.2)(a b c:Nat):gm m (gp m a b) c=gp m (gm m a c) (gm m b c):=by
 unfold gm gp
 split
 ·rw[qA,Ct (by omega)]
 ·rw[xK,JG,<- xK,Nat.add_mul,xN,Nat.add_mod_mod]
theorem zj{m:Bool × Nat}(h:0<m.2)(a b c:Nat):gm m c (gp m a b)=gp m (gm m c a) (gm m c b):=by rw[fV,CA h,fV m a,fV m b]
theorem b79:∀m∈aw,m.1=true->2<=bl m.2:=by decide +kernel
theorem NB{m:Bool × Nat}(hm:m∈aw){a b:Nat}(ha:a<aa m)(hb:b<aa m):gp m a b<aa m:=by
 have h0:=bM m hm
 obtain⟨k,n⟩:=m
 cases k with
 | true=>exact wa ha hb
 | false=>exact vH _ h0
theorem bC{m:Bool × Nat}(hm:m∈aw)(a b:Nat):gm m a b<aa m:=by
 have h0:=bM m hm
 obtain⟨k,n⟩:=m
 cases k with
 | true =>
  have h2:=b79 (true,n) hm rfl
  have:=(yn (show n≠0 by have:0<n:=h0;omega) (cl a b)).2
  refine(Nk rfl).mpr ?_
  show bl (md (cl a b) n)<=bl n-1
  omega
 | false=>exact vH _ h0
theorem u0{m:Bool × Nat}{a:Nat}(ha:a<aa m):gp m 0 a=a:=by
 obtain⟨k,n⟩:=m
 cases k with
 | true=>exact qe a
 | false=>show(0+a)%n=a;rw[D2];exact xM ha
theorem j5{m:Bool × Nat}{a:Nat}(ha:a<aa m):gp m a 0=a:=by rw[mW];exact u0 ha
theorem cA8{m:Bool × Nat}(hm:m∈aw){a b:Nat}(ha:a<aa m)(hb:b<aa m):∃r:Nat,gl m a b=r/\r<aa m/\gp m r b=a:=by
 have h0:=bM m hm
 obtain⟨k,n⟩:=m
 cases k with
 | true=>exact⟨a ^^^ b,rfl,wa ha hb,by show a ^^^ b ^^^ b=a;rw[sZ,AH,mf]⟩
 | false =>
  have h0:0<n:=h0
  have ha:a<n:=ha
  have hb:b<n:=hb
  refine⟨(a+(n-b))%n,?_,vH _ h0,?_⟩
  ·show((a:Int)-b)%n=_
   rw[ql,AM,Int.natCast_sub (by omega),show((a:Int)+((n:Int)-b))=((a:Int)-b)+n by omega,Int.add_emod_right]
  ·show((a+(n-b))%n+b)%n=a
   rw[xN,show a+(n-b)+b=a+n by omega,Nat.add_mod_right,xM ha]
noncomputable def eS(m:Bool × Nat)(n:Int):Nat:=(pw m (n%((aa m:Int)-1)).toNat).toNat
theorem pB{m:Bool × Nat}(hm:m∈aw)(n:Int):1<=eS m n/\eS m n<aa m/\lg m (eS m n)=n%((aa m:Int)-1)/\pw m (n%((aa m:Int)-1)).toNat=eS m n:=by
 have cT:=(bZ hm).lo
 have n0:=ir n (show(aa m:Int)-1≠0 by omega)
 have n1:=iu n (show(0:Int)<(aa m:Int)-1 by omega)
 obtain⟨p1,p2,p3⟩:=Cu hm (k:=(n%((aa m:Int)-1)).toNat) (by omega)
 unfold eS
 rw[p3]
 omega
theorem GB{m:Bool × Nat}(hm:m∈aw)(n:Int):eS m n<aa m:=(pB hm n).2.1
theorem GC{m:Bool × Nat}(hm:m∈aw)(a b:Int):gm m (eS m a) (eS m b)=eS m (a+b):=by
 obtain⟨a1,a2,a3,_⟩:=pB hm a
 obtain⟨b1,b2,b3,_⟩:=pB hm b
 have e:=Gx hm a1 a2 b1 b2
 rw[a3,b3,<- Int.add_emod]at e
 have c:=(pB hm (a+b)).2.2.2
 rw[c]at e
 omega
theorem cx7{m:Bool × Nat}(hm:m∈aw):eS m 0=1:=by
 unfold eS
 rw[Int.zero_emod,show(0:Int).toNat=0 from rfl,Nn m hm];rfl
theorem NC{m:Bool × Nat}(hm:m∈aw){a:Nat}(h1:1<=a)(h2:a<aa m):eS m (lg m a)=a:=by
 obtain⟨g0,g1,g2⟩:=Cv hm h1 h2
 unfold eS
 rw[D1 g0 g1,g2];rfl
theorem cC1{m:Bool × Nat}(hm:m∈aw)(n:Int):(fl m)[(n%((aa m:Int)-1)).toNat]?=some ((eS m n:Nat):Int):=by
 have hF:=bZ hm
 have cT:=hF.lo
 have n0:=ir n (show(aa m:Int)-1≠0 by omega)
 have n1:=iu n (show(0:Int)<(aa m:Int)-1 by omega)
 have hk:(n%((aa m:Int)-1)).toNat<(fl m).length:=by have:=hF.len;omega
 rw[<-(pB hm n).2.2.2]
 unfold pw
 rw[aN,aM hk];rfl
theorem cB8{m:Bool × Nat}(hm:m∈aw){a b:Nat}(a1:1<=a)(a2:a<aa m)(b1:1<=b)(b2:b<aa m):gm m a b≠0:=by
 rw[<-NC hm a1 a2,<- NC hm b1 b2,GC hm]
 have:=(pB hm (lg m a+lg m b)).1
 omega
end L3
namespace L2
open PySem PySem.Spec PyProof.Rows
section
variable{X:Cx}{a:Expr}{ta:TA}{p pos:Pos}{tg:Expr}
end
end L2
namespace L3
open PySem L2 PySem.Spec PyProof.Rows
section
variable{F H:Hp}{K:PySem.W.Frag}{p:Addr}{ws:List V}{xs:List D}
end
section
variable{X:Cx}{a:Expr}{ta:cm}{p pos:Pos}{tg:Expr}
end
end L3
namespace L3
open PySem L2 Mf
noncomputable def px(m:Bool × Nat)(x:Nat):Nat->Nat
 | 0=>1
 | k+1=>gm m (px m x k) x
noncomputable def AllLt(n:Nat)(l:List Nat):Prop:=∀a∈l,a<n
theorem AllLt.getD{n:Nat}{l:List Nat}(h:AllLt n l)(h0:0<n)(k:Nat):l.getD k 0<n:=by
 rw[aN]
 cases e:l[k]? with
 | none=>exact h0
 | some v=>exact h v (vB e)
end L3
namespace L3
open PySem L2 PySem.Spec PyProof.Rows
theorem bO3(n:Nat)(l:List Nat):(aq l).all (eA n)=true:=by
 rw[cO,nB,dy]
 intro a _
 exact oR n _
theorem zk(n:Nat)(o:Bool)(l:List Nat):eA (n+1) (.lst o (aq l))=true:=bO3 n l
theorem wV(o o':Bool)(a b:List Nat):bH (.lst o (aq a)) (.lst o' (aq b))=decide (a=b):=by
 unfold aq
 rw[rM]
 congr 1
 apply propext
 constructor
 ·intro h
  have:=congrArg (DX Int.toNat) h
  have e:(Int.toNat ∘ λ(n:Nat)=>(n:Int))=id:=by funext x;rfl
  rw[bW,bW,e,List.map_id,List.map_id]at this
  exact this
 ·intro h;rw[h]
theorem j6{l:List Nat}{k:Int}(h0:0<=k)(h:k.toNat<l.length):fA (aq l) k=some (.int ((l.getD k.toNat 0:Nat):Int)):=by
 refine qw h0 ?_
 rw[cO,cu,aM h,aN,aM h];rfl
theorem zo{n:Nat}{k:Int}(h0:0<=k)(h:k.toNat<n):jP n k=some k.toNat:=by
 unfold jP
 rw[if_pos h0,if_pos (by omega)]
theorem zr{n:Nat}(k:Int)(h:k=n):(((aL k.toNat).map λ(k:Nat)=>D.int (0+(k:Int))).map D.sh)=(aL n).map λ(i:Nat)=>D.int (i:Int):=by
 subst h
 rw[yC,iq]
 simp
theorem GD(l:List Nat)(k v:Nat):(aq l).set k (.int (v:Nat))=aq (l.set k v):=by
 rw[cO,cO,List.map_set]
theorem b83(l:List Nat):(aq l).all D.fr=true:=oO _
theorem mX(o:Bool)(l:List Nat):(D.lst o (aq l)).sh=.lst false (aq l):=by rw[cU,mR]
theorem ij(l:List Nat):(D.lst true (aq l)).fr=true:=by rw[eZ,b83];rfl
theorem cl0{xs:List D}{i:Nat}{d:D}(h:(fU xs)[i]?=some d):∃hi:i<xs.length,d=.tup [.int i,xs[i]]:=by
 have hi:i<(fU xs).length:=(km.mp h).1
 rw[uQ]at hi
 refine⟨hi,?_⟩
 unfold fU at h
 rw[AL,aM hi]at h
 exact(c9 h).symm
theorem b35{l:List Nat}{i:Nat}{d:D}(h:(fU (aq l))[i]?=some d):∃hi:i<l.length,d=.tup [.int i,.int (l[i]:Nat)]:=by
 obtain⟨hi,e⟩:=cl0 h
 rw[eI]at hi
 refine⟨hi,?_⟩
 rw[e]
 simp only[cO,tf]
section
variable{X:Cx}
end
end L3
namespace L3
open PySem L2 Mf
noncomputable def br(m:Bool × Nat)(a b:Nat):Nat:=(gl m a b).toNat
theorem iT{m:Bool × Nat}(hm:m∈aw){a b:Nat}(ha:a<aa m)(hb:b<aa m):gl m a b=(br m a b:Nat)/\br m a b<aa m/\gp m (br m a b) b=a:=by
 obtain⟨r,e,h1,h2⟩:=cA8 hm ha hb
 have:br m a b=r:=by unfold br;rw[e];rfl
 rw[this]
 exact⟨e,h1,h2⟩
theorem GF{n:Nat}{f:Nat->Nat->Nat}:∀{a b:List Nat},(∀x∈a,∀y∈b,f x y<n)->AllLt n (dm f a b)
 | [],_,_=>by intro x hx;simp at hx
 | _::_,[],_=>by intro x hx;simp at hx
 | x::a,y::b,h=>by
  intro z hz
  rw[JI]at hz
  rcases bR.mp hz with rfl | hz
  ·exact h x (by simp) y (by simp)
  ·exact GF (λx hx y hy=>h x (by simp[hx]) y (by simp[hy])) z hz
theorem bK3(xs ys:List Nat):(dG (aq xs) (aq ys)).map D.sh=(xs.zip ys).map λz=>D.tup [.int (z.1:Int),.int (z.2:Int)]:=by
 unfold aq
 rw[Nu,List.zip_map,bW];rfl
theorem ND{sh:Bool}{az:List (Str × Nat)}{n i1 i2:Nat}{te:aO}{aj:Dl}{Q:D->Dl->Prop}(f:Nat->Nat->Nat){A B:List Nat}(hx:∀x∈A,∀y∈B,iM i1 i2 (.tup [.int (x:Int),.int (y:Int)]) (fh az n aj) λa7=>te a7 λd _=>d=.int ((f x y:Nat):Int))
  (hl:A.length<=100000) (hq:Q (.lst true (aq (dm f A B))) aj):oo sh (dG (aq A) (aq B)) az n (iM i1 i2) i8 te aj Q:=by
 refine Nr (A.zip B) (λz=>D.tup [.int (z.1:Int),.int (z.2:Int)]) (λz=>D.int ((f z.1 z.2:Nat):Int)) (bK3 A B) (λa b h=>?_) (λz hz=>hx z.1 (vA hz).1 z.2 (vA hz).2) Nt (.inr λ_ _=>rfl) (by rw[AQ,sL];omega) ?_
 ·injection h with h
  simp at h
  exact Prod.ext (by omega) (by omega)
 ·rw[show((A.zip B).map λz=>D.int ((f z.1 z.2:Nat):Int))=aq (dm f A B) by rw[cO,D0,DY,DY]]
  exact hq
end L3
namespace L3
open PySem L2 PySem.Spec PyProof.Rows
theorem ak.cW5{B:Bs}{F H:Hp}{σ:L2.St}{δ:Dl}{ps ts:List (D × V)}{p:Addr}{o:HO}{A1:List Addr}(c:ak B F H σ δ (ps++ts))(hp:H p=none)(r:R F (upd H p o) (ps.map (·.1)) (ps.map (·.2)) A1):p ∉ A1:=λh=>by
 obtain⟨A,C,r0,_,_,_⟩:=c.own
 rw[fv,fv]at r0
 obtain⟨v1,v2,B1,B2,e,rfl,h1,h2⟩:=R.split r0
 have l1:(ps.map (·.2)).length=v1.length:=by rw[<-h1.length];simp
 obtain⟨rfl,rfl⟩:=DV e l1
 have g1:=h1.grow (af.refl F) (af.upd (o:=o) hp) λa ha=>(h1.lists a ha).2
 have:A1=B1:=R.inj r g1
 subst this
 obtain⟨ws,e⟩:=(h1.lists p h).1
 rw[hp]at e;cases e
theorem ak.join{B:Bs}{F H:Hp}{σ:L2.St}{δ:Dl}{ts:List (D × V)}{p p' r:Addr}{xs ys:List D}{ws gP:List V}(c:ak B F H σ δ ((.lst true ys,.ref p')::(.lst true xs,.ref p)::ts))(e1:H p=some (.lst ws))(e2:H p'=some (.lst gP))(hr:H r=none) :
  ak B F (upd H r (.lst (ws++gP))) σ δ ((.lst true (xs++ys),.ref r)::ts):=by
 refine ak.pack (ps:=[(.lst true ys,.ref p'),(.lst true xs,.ref p)]) c (af.upd hr) λA1 r1 nd=>?_
 have nin:=ak.cW5 (ps:=[(.lst true ys,.ref p'),(.lst true xs,.ref p)]) (ts:=ts) c hr r1
 have n1:p≠r:=λz=>by rw[z,hr]at e1;cases e1
 have n2:p'≠r:=λz=>by rw[z,hr]at e2;cases e2
 have r1:R F (upd H r (.lst (ws++gP))) [.lst true ys,.lst true xs] [.ref p',.ref p] A1:=r1
 cases r1 with
 | @own _ wy _ Ay _ _ By hy fy ry rb =>
  cases rb with
  | @own _ wx _ Ax _ _ Bx hx fx rx rc =>
   cases rc
   rw[aT n2,e2]at hy;cases hy
   rw[aT n1,e1]at hx;cases hx
   refine⟨r::(Ax++Ay),by simpa using R.own bI (c.ext.free hr) (rx.append ry) .nil,?_,λa ha=>?_⟩
   ·refine jF.mpr ⟨λz=>nin ?_,?_⟩
    ·rcases bY.mp z with z | z<;>simp[z]
    ·have sl:(Ay++Ax).Sublist (p'::Ay++(p::Ax++[])):=by
      rw[fu]
      exact(((VO p Ax).append_left Ay).trans (VO p' _))
     exact qg.nodup_iff.mp (nd.sublist sl)
   ·simp only[bR,bY]at ha ⊢
    rcases ha with rfl | ha | ha
    ·exact .inr hr
    ·simp[ha]
    ·simp[ha]
section
variable{X:Cx}{a b:Expr}{ta tb:aO}{pos:Pos}
noncomputable def sD(ta tb:aO):aO:=λδ Q=>ta δ λx aj=>tb aj λy a7=>∃xs ys,x=.lst true xs/\y=.lst true ys/\xs.length+ys.length<=sizeLine/\Q (.lst true (xs++ys)) a7
theorem cs7(ha:PE X a (lE ta))(hb:PE X b (lE tb)):PE X (.BinOp a .Add b pos) (lE (sD ta tb)) :=
 dF (yc KL ha hb) λσ H Q ⟨B,F,δ,ts,Qd,c,q,k⟩ =>
  ⟨B,F,δ,ts,_,c,q,λx aj v F1 H1 q1 f1 h1 c1=>⟨B,F1,aj,(x,v)::ts,_,c1,q1,λy a7 w F2 H2 q2 f2 h2 c2=>by
   obtain⟨xs,ys,rfl,rfl,hz,hq⟩:=q2
   obtain⟨p',gP,rfl,e2,s2⟩:=i9 c2.top c2.ext
   obtain⟨p,ws,rfl,e1,s1⟩:=i9 c2.pop.top c2.ext
   refine⟨p,p',ws,gP,rfl,rfl,e1,e2,by rw[<-s1.length,<- s2.length];exact hz,λr hr=>?_⟩
   exact k _ a7 _ F2 _ hq (f1.trans f2) ((h1.trans h2).trans (af.upd hr)) (c2.join e1 e2 hr)⟩⟩
end
theorem bX4{a b:List Nat}(h:aq a=aq b):a=b:=by
 have:=wV true true a b
 rw[h,show bH (D.lst true (aq b)) (D.lst true (aq b))=true from(wV _ _ _ _).trans (decide_eq_true rfl)]at this
 exact of_decide_eq_true this.symm
theorem NF{o:Bool}(a b:List Nat)(h:D.lst o (aq a)=D.lst o (aq b)):a=b:=bX4 (by injection h)
end L3
namespace L3
open PySem L2 Mf
theorem NG{m:Bool × Nat}(hm:m∈aw)(k:Int):∀n:Nat,px m (eS m k) n=eS m (k*n)
 | 0=>by
  show 1=eS m (k*((0:Nat):Int))
  rw[show k*((0:Nat):Int)=0 by omega,cx7 hm]
 | n+1=>by
  show gm m (px m (eS m k) n) (eS m k)=_
  rw[NG hm k n,GC hm,AM,Int.mul_add]
  congr 1
  omega
end L3
namespace L2
open PySem PySem.Spec PyProof.Rows
end L2
namespace L3
open PySem L2 PySem.Spec PyProof.Rows Mf
end L3
namespace L3
open PySem L2 Mf
noncomputable def cf(l:List Nat)(k:Nat):Nat:=l.getD k 0
theorem wW{l:List Nat}{k:Nat}(h:l.length<=k):cf l k=0:=by
 unfold cf;rw[aN,gn h];rfl
theorem dh{m:Bool × Nat}(hm:m∈aw){l:List Nat}(h:AllLt (aa m) l)(k:Nat):cf l k<aa m:=h.getD (by have:=(bZ hm).lo;omega) k
theorem GG(n k:Nat):cf (aV n 0) k=0:=by
 unfold cf
 rw[aN,nq]
 split<;>rfl
theorem CB(m:Bool × Nat)(x:Nat):br m x x=0:=by
 obtain⟨k,n⟩:=m
 cases k with
 | true=>show(((x ^^^ x:Nat):Int)).toNat=0;rw[AH];rfl
 | false=>show(((x:Int)-(x:Int))%(n:Int)).toNat=0;rw[Int.sub_self,Int.zero_emod];rfl
end L3
namespace L3
open PySem L2 PySem.Spec PyProof.Rows
section
variable{B:Bs}{F H:Hp}{σ:L2.St}{δ:Dl}{ts ps:List (D × V)}{i k:Nat}{p q:Addr}{l1 l2 ys LF:List D}{ws wA:List V}
end
section
variable{X:Cx}{F H:Hp}{e b:Expr}{pos p p2 p3 pr apos cj FN:Pos}{t ti te:aO}{x y:Str}{i j:Nat}
end
end L3
namespace L3
structure Rg(N:Nat)(p q:Nat->Nat->Nat):Prop where
 pc:∀a b,p a b=p b a
 pa:∀a b c,p (p a b) c=p a (p b c)
 mc:∀a b,q a b=q b a
 ma:∀{a b c},a<N->b<N->c<N->q (q a b) c=q a (q b c)
 dl:∀a b c,q a (p b c)=p (q a b) (q a c)
 z:∀{a},a<N->p 0 a=a
 qz:∀a,q a 0=0
 one:∀{a},a<N->q 1 a=a
 lp:∀{a b},a<N->b<N->p a b<N
 lq:∀a b,q a b<N
 ng:∀{a},a<N->∃b,b<N/\p a b=0
section
variable{N:Nat}{p q:Nat->Nat->Nat}
noncomputable def sm(p:Nat->Nat->Nat):Nat->(Nat->Nat)->Nat
 | 0,_=>0
 | n+1,f=>p (sm p n f) (f n)
theorem Rg.pos(r:Rg N p q):0<N:=nv (jE _) (r.lq 0 0)
theorem Rg.z'(r:Rg N p q){a:Nat}(h:a<N):p a 0=a:=by rw[r.pc];exact r.z h
theorem Rg.NH(r:Rg N p q){a b c:Nat}(ha:a<N)(hb:b<N)(hc:c<N)(h:p a c=p b c):a=b:=by
 obtain⟨d,_,e⟩:=r.ng hc
 have:=congrArg (λx=>p x d) h
 simp only[r.pa,e]at this
 rw[r.z' ha,r.z' hb]at this
 exact this
theorem Rg.cn(r:Rg N p q){a b:Nat}(ha:a<N)(hb:b<N)(h:p a b=b):a=0:=r.NH ha r.pos hb (by rw[h,r.z hb])
theorem cA{f g:Nat->Nat}:∀{n:Nat},(∀j,j<n->f j=g j)->sm p n f=sm p n g
 | 0,_=>rfl
 | n+1,h=>by rw[sm,sm,cA λj hj=>h j (by omega),h n (by omega)]
theorem j7(r:Rg N p q){f:Nat->Nat}:∀{n:Nat},(∀j,j<n->f j<N)->sm p n f<N
 | 0,_=>r.pos
 | n+1,h=>r.lp (j7 r λj hj=>h j (by omega)) (h n (by omega))
theorem fW(r:Rg N p q){f:Nat->Nat}:∀{n:Nat},(∀j,j<n->f j=0)->sm p n f=0
 | 0,_=>rfl
 | n+1,h=>by rw[sm,fW r λj hj=>h j (by omega),h n (by omega)];exact r.z r.pos
theorem Rg.four(r:Rg N p q)(a b c d:Nat):p (p a b) (p c d)=p (p a c) (p b d):=by
 rw[r.pa,r.pa,<- r.pa b,<- r.pa c,r.pc b c]
theorem mY(r:Rg N p q)(f g:Nat->Nat):∀n,sm p n (λj=>p (f j) (g j))=p (sm p n f) (sm p n g)
 | 0=>(r.z r.pos).symm
 | n+1=>by rw[sm,mY r f g n,sm,sm,r.four]
theorem pE(r:Rg N p q)(c:Nat)(f:Nat->Nat):∀n,sm p n (λj=>q c (f j))=q c (sm p n f)
 | 0=>(r.qz c).symm
 | n+1=>by rw[sm,pE r c f n,sm,r.dl]
theorem NI(r:Rg N p q)(F:Nat->Nat->Nat)(k:Nat):∀n,sm p n (λi=>sm p k λj=>F i j)=sm p k λj=>sm p n λi=>F i j
 | 0=>(fW r λ_ _=>rfl).symm
 | n+1=>by
  rw[sm,NI r F k n,<- mY r];rfl
theorem zt(r:Rg N p q){f:Nat->Nat}(n:Nat):∀k,(∀j,j<n+k->f j<N)->sm p (n+k) f=p (sm p n f) (sm p k λj=>f (n+j))
 | 0,h=>(r.z' (j7 r λj hj=>h j (by omega))).symm
 | k+1,h=>by
  rw[<-DW,sm,zt r n k λj hj=>h j (by omega),sm,r.pa]
theorem NJ(r:Rg N p q){f:Nat->Nat}(n:Nat)(h:∀j,j<n+1->f j<N):sm p (n+1) f=p (f 0) (sm p n λj=>f (j+1)):=by
 rw[xE n 1,zt r 1 n λj hj=>h j (by omega)]
 show p (p 0 (f 0)) _=_
 rw[r.z (h 0 (by omega))]
 congr 1
 exact cA λj _=>by rw[xE]
end
end L3
namespace L3
section
variable{N:Nat}{p q:Nat->Nat->Nat}
end
end L3
namespace L3
open PySem L2 Mf
theorem rg{m:Bool × Nat}(hm:m∈aw):Rg (aa m) (gp m) (gm m) where
 pc:=mW m
 pa:=Cz m
 mc:=fV m
 ma:=λ_ _ _=>ig (bM m hm) _ _ _
 dl:=λa b c=>zj (bM m hm) b c a
 z:=u0
 qz:=λa=>gA m a (bM m hm)
 one:=pz
 lp:=NB hm
 lq:=bC hm
 ng:=λ{a} ha=>by
  have g:=iT hm (a:=0) (b:=a) (by omega) ha
  exact⟨_,g.2.1,(mW m _ _).trans g.2.2⟩
theorem b17(p:Nat->Nat->Nat)(l:List Nat):l.foldl p 0=sm p l.length λj=>l.getD j 0:=by
 have key:∀n,n<=l.length->(l.take n).foldl p 0=sm p n λj=>l.getD j 0:=by
  intro n
  induction n with
  | zero=>intro _;rfl
  | succ n ih =>
   intro h
   rw[qh,aM (by omega),xP,ih (by omega),sm,aN,aM (show n<l.length by omega)]
   rfl
 have:=key l.length (bE _)
 rw[vF]at this
 exact this
theorem CC{m:Bool × Nat}(hm:m∈aw)(f:Nat)(b:List Nat)(j:Nat):cf (b.map (gm m f)) j=gm m f (cf b j):=by
 unfold cf
 rw[aN,cu,aN]
 cases b[j]? with
 | none=>exact(gA m f (bM m hm)).symm
 | some x=>rfl
theorem GH{m:Bool × Nat}(hm:m∈aw){a b:Nat}(ha:a<aa m)(hb:b<aa m)(h0:b≠0):∃r,r<aa m/\gm m r b=a:=by
 by_cases a0:a=0
 ·exact⟨0,by have:=(bZ hm).lo;omega,by rw[a0];exact fj m b (bM m hm)⟩
 ·obtain⟨r,_,h1,h2⟩:=Nv hm (show 1<=a by omega) ha (show 1<=b by omega) hb
  exact⟨r,h1,h2⟩
end L3
namespace L3
open PySem L2 PySem.Spec PyProof.Rows
section
variable{X:Cx}{i j:Nat}{x y:Str}{p pos pos' apos cj:Pos}
end
section
variable{X:Cx}{e:Expr}{t:aO}{p pos:Pos}
end
section
variable{X:Cx}
theorem b82(i:Int)(ns:List Int):Bt (.int i) (ns.map V.int)=decide (i∈ns):=by
 unfold Bt
 rw[List.any_map,qf,DP,decide_eq_true_iff]
 exact⟨λ⟨x,hx,he⟩=>(show x=i by simpa[mw]using he) ▸ hx,λhx=>⟨i,hx,by simp[mw]⟩⟩
noncomputable def pG:cM:=λx y Q=>match x,y with
 | .int i,.lst _ xs=>∃ns:List Int,xs=aJ ns/\Q (.bl (!decide (i∈ns)))
 | _,_=>False
theorem cq3:bP X (compareOp .NotIn) pG :=
 ⟨_,Yj,λ{B F H σ δ ts x y v w Q Qd} c sx sy h k=>by
  unfold pG at h
  split at h
  ·rename_i i o xs
   obtain⟨ns,rfl,q⟩:=h
   obtain⟨p,ws,rfl,e1,s1⟩:=i9 sy c.ext
   have e:=Ge s1
   subst e
   cases sx
   refine⟨p,_,rfl,.inl (bG.of e1),rfl,by simp[nM],?_⟩
   rw[if_pos rfl,b82]
   exact k _ _ _ q (af.refl _) (c.pushS (.bl .nil) rfl)
  ·exact h.elim⟩
end
end L3
namespace L3
open PySem L2 Mf
noncomputable def ax(o:Bool)(T:List (List Nat)):List D:=T.map λr=>.lst o (aq r)
theorem kJ(o:Bool)(T:List (List Nat)):(ax o T).length=T.length:=by unfold ax;rw[bq]
theorem fC(o:Bool)(T:List (List Nat)):(ax o T).map D.sh=ax false T:=by
 unfold ax
 rw[bW]
 exact vG λr _=>mX o r
theorem pH(T:List (List Nat)):(ax false T).all D.pl=true:=by
 unfold ax
 rw[nB,dy]
 intro r _
 show(D.lst false (aq r)).pl=true
 rw[fB,kI];rfl
theorem mZ(T:List (List Nat)):(ax true T).all D.fr=true:=by
 unfold ax
 rw[nB,dy]
 intro r _
 exact ij r
theorem zu(o:Bool)(S T:List (List Nat)):ax o S++ax o T=ax o (S++T):=by unfold ax;rw[fv]
theorem u4(o:Bool)(T:List (List Nat))(lo hi:Option Int):fS (ax o T) lo hi=ax o (fS T lo hi):=by
 unfold ax fS
 rw[bq,Jz,Jy]
theorem u5(o:Bool){T:List (List Nat)}{i:Nat}(h:i<T.length):fA (ax o T) (i:Int)=some (.lst o (aq T[i])):=by
 refine L3.B7 ?_
 unfold ax
 rw[cu,aM h];rfl
theorem bS5(n:Nat)(o:Bool)(T:List (List Nat)):(ax o T).all (eA (n+1))=true:=by
 unfold ax
 rw[nB,dy]
 intro r _
 exact zk _ _ _
theorem NK(n:Nat)(o o':Bool)(T:List (List Nat)):eA (n+2) (.lst o (ax o' T))=true:=bS5 n o' T
theorem NL(o o':Bool):∀(a b:List (List Nat)),bH.gh (ax o a) (ax o' b)=decide (a=b)
 | [],[]=>rfl
 | [],_::_=>by simp[ax,bH.gh]
 | _::_,[]=>by simp[ax,bH.gh]
 | x::xs,y::ys=>by
  show(bH (.lst o (aq x)) (.lst o' (aq y))&&bH.gh (ax o xs) (ax o' ys))=_
  rw[NL o o' xs ys,wV,qf];simp
theorem ch6(o o' o1 o2:Bool)(a b:List (List Nat)):bH (.lst o (ax o1 a)) (.lst o' (ax o2 b))=decide (a=b):=NL o1 o2 a b
open Classical in
theorem zw{α:Type}{sh:Bool}{xs:List D}{az:List (Str × Nat)}{n:Nat}{g0:iJ}{tt:fI}{te:aO}{aj:Dl}{Q:D->Dl->Prop}(l:List α)(e g:α->D)(kp:α->Bool)(jz:xs.map D.sh=l.map e)(inj:∀a b,e a=e b->a=b)
  (hx:∀a∈l,g0 (e a) (fh az n aj) λa7=>tt a7 λb iZ=>b=kp a/\(kp a=true->te iZ λd _=>d=g a)) (df:(sh&&az.all (gx aj))=true\/∀a∈l,kp a=true->(g a).fr=true) (hl:l.length<=sizeLine) (hq:Q (.lst true ((l.filter kp).map g)) aj):oo sh xs az n g0 tt te aj Q:=by
 have pick:∀{β:Type} (h:α->β) (z:β),∃f:D->β,∀a∈l,f (e a)=h a:=λh z=>⟨λx=>if w:∃a∈l,e a=x then h w.choose else z,λa ha=>by
  have w:∃b∈l,e b=e a:=⟨a,ha,rfl⟩
  show(if w:∃b∈l,e b=e a then h w.choose else z)=h a
  rw[dif_pos w]
  exact congrArg h (inj _ _ w.choose_spec.2)⟩
 obtain⟨f,hf⟩:=pick g .au
 obtain⟨p,hp⟩:=pick kp false
 refine⟨p,f,λx h=>?_,df.imp id λh x dr=>?_,?_,?_⟩
 ·rw[jz]at h
  obtain⟨a,ha,rfl⟩:=bw.mp h
  rw[hp a ha,hf a ha]
  exact hx a ha
 ·rw[jz]at dr
  obtain⟨a,ha,rfl⟩:=bw.mp dr
  rw[hp a ha,hf a ha];exact h a ha
 ·have:=congrArg AD jz
  simp at this
  omega
 ·rw[jz,JJ,bW,show l.filter (p ∘ e)=l.filter kp from JK λa ha=>hp a ha,show(l.filter kp).map (f ∘ e)=(l.filter kp).map g from vG λa ha=>hf a (nk.mp ha).1]
  exact hq
theorem NM{o:Bool}{G:List (List Nat)}{i:Nat}{d:D}(h:(fU (ax o G))[i]?=some d):∃hi:i<G.length,d=.tup [.int i,.lst o (aq G[i])]:=by
 unfold fU ax at h
 rw[AL,cu]at h
 by_cases hi:i<G.length
 ·rw[aM hi]at h
  exact⟨hi,(c9 h).symm⟩
 ·rw[gn (by omega)]at h;cases h
theorem NN(r:List Nat):(fU (aq r)).map D.sh=(aL r.length).map λ(i:Nat)=>D.tup [.int (i:Int),.int ((r.getD i 0:Nat):Int)]:=by
 apply JA
 intro i
 unfold fU
 rw[cO,cu,AL,cu,cu]
 by_cases hi:i<r.length
 ·have e:r.getD i 0=r[i]:=by rw[aN,aM hi];rfl
  rw[aM hi,kR hi]
  show _=some (D.tup [D.int (i:Int),D.int ((r.getD i 0:Nat):Int)])
  rw[e];rfl
 ·rw[gn (show r.length<=i by omega),gn (show(aL r.length).length<=i by simpa using hi)];rfl
theorem NO{r:List Nat}(h:∃x∈r,x≠0):((aL r.length).filter λi=>r.getD i 0 != 0)[0]?=some (r.findIdx (· != 0)):=by
 obtain⟨x,hx,h0⟩:=h
 have hl:r.findIdx (· != 0)<r.length:=JL ⟨x,hx,by simpa using h0⟩
 rw[<-List.head?_eq_getElem?,List.head?_filter,List.find?_range_eq_some]
 refine⟨?_,bU.mpr hl,λj hj=>?_⟩
 ·rw[aN,aM hl]
  exact VP (w:=hl)
 ·have:=List.not_of_lt_findIdx hj
  rw[aN,aM (by omega)]
  simpa using this
noncomputable def ai(T:List (List Nat)):Nat:=(T.headD []).length
noncomputable def j8(T:List (List Nat))(j:Nat):Option Nat:=T.findIdx? λr=>r.getD j 0 != 0
noncomputable def gX(m:Bool × Nat)(T:List (List Nat))(l:List Nat)(j:Nat):List (List Nat):=T.map λr=>dm (λx y=>br m x (gm m (r.getD j 0) y)) r l
noncomputable def j9(m:Bool × Nat)(b:Nat):Nat:=((aL (aa m)).find? λr=>gm m r b==1).getD 0
theorem wX{m:Bool × Nat}(hm:m∈aw){b r:Nat}(hr:r<aa m)(h:gm m r b=1):j9 m b=r:=by
 have m0:=bM m hm
 unfold j9
 cases e:(aL (aa m)).find? λr=>gm m r b==1 with
 | none =>
  have:=JM.mp e r (bU.mpr hr)
  simp[h]at this
 | some r' =>
  have h':gm m r' b=1:=by simpa using List.find?_some e
  have l':r'<aa m:=bU.mp (Jx e)
  show r'=r
  rw[<-mV hr,<- h',<- ig m0,fV m r r',ig m0,h,mV l']
noncomputable def RT(N w:Nat)(T:List (List Nat)):Prop:=∀r∈T,r.length=w/\AllLt N r
theorem RT.app{N w:Nat}{S T:List (List Nat)}(a:RT N w S)(b:RT N w T):RT N w (S++T):=λr hr=>(bY.mp hr).elim (a r) (b r)
theorem NP{m:Bool × Nat}(hm:m∈aw){w j:Nat}{T:List (List Nat)}{l:List Nat}(h:RT (aa m) w T)(hl:l.length=w):RT (aa m) w (gX m T l j):=λr hr=>by
 obtain⟨r,h1,rfl⟩:=bw.mp hr
 obtain⟨a,b⟩:=h r h1
 exact⟨by rw[jJ,a,hl,AI],GF λx hx y hy=>(iT hm (b x hx) (bC hm _ y)).2.1⟩
noncomputable def eJ(m:Bool × Nat)(T:List (List Nat))(i p:Nat):List Nat:=(T.getD i []).map (gm m (j9 m ((T.getD i []).getD p 0)))
noncomputable def iU(m:Bool × Nat)(s:List (List Nat) × List (List Nat))(p:Nat):List (List Nat) × List (List Nat):=match j8 s.2 p with
 | none=>s
 | some i=>(gX m s.1 (eJ m s.2 i p) p++[eJ m s.2 i p],gX m (s.2.take i++s.2.drop (i+1)) (eJ m s.2 i p) p)
noncomputable def jB(m:Bool × Nat)(G:List (List Nat))(k:Nat):List (List Nat) × List (List Nat):=(aL k).foldl (iU m) ([],G)
noncomputable def bh(m:Bool × Nat)(G:List (List Nat)):List (List Nat):=(jB m G (ai G)).1
theorem GI(m:Bool × Nat)(G:List (List Nat))(k:Nat):jB m G (k+1)=iU m (jB m G k) k:=by
 unfold jB
 rw[JN,xP];rfl
theorem CD{T:List (List Nat)}{j i:Nat}(h:j8 T j=some i):∃hi:i<T.length,T[i].getD j 0≠0/\T.getD i []=T[i]:=by
 obtain⟨hi,h1,_⟩:=VQ.mp h
 exact⟨hi,by simpa using h1,by rw[aN,aM hi];rfl⟩
structure zx(N w n:Nat)(s:List (List Nat) × List (List Nat)):Prop where
 a:RT N w s.1
 b:RT N w s.2
 l:s.1.length+s.2.length<=n
theorem b78{m:Bool × Nat}(hm:m∈aw){w n p:Nat}{s:List (List Nat) × List (List Nat)}(h:zx (aa m) w n s):zx (aa m) w n (iU m s p):=by
 unfold iU
 split
 ·exact h
 ·rename_i i e
  obtain⟨hi,h1,h2⟩:=CD e
  have hl:(eJ m s.2 i p).length=w:=by unfold eJ;rw[bq,h2];exact(h.b _ (dE hi)).1
  have hr:RT (aa m) w [eJ m s.2 i p]:=λr hr=>by
   rw[fc]at hr
   refine⟨by rw[hr];exact hl,λx hx=>?_⟩
   rw[hr]at hx
   obtain⟨y,_,rfl⟩:=bw.mp hx
   exact bC hm _ _
  refine⟨(NP hm h.a hl).app hr,NP hm (λr hr=>h.b r ?_) hl,?_⟩
  ·rcases bY.mp hr with hr | hr
   ·exact xI hr
   ·exact qi hr
  ·have:=h.l
   unfold gX
   rw[eO,bq,bq,eO,jG,jI]
   show s.1.length+1+_<=n
   omega
theorem zy{m:Bool × Nat}(hm:m∈aw){w:Nat}{G:List (List Nat)}(h:RT (aa m) w G):∀k,zx (aa m) w G.length (jB m G k)
 | 0=>⟨(λr hr=>nomatch hr),h,Az (D2 _)⟩
 | k+1=>by rw[GI];exact b78 hm (zy hm h k)
theorem b54(j:Nat)(l:List Nat):decide ((j:Int)∈l.map λ(n:Nat)=>(n:Int))=l.contains j:=by
 rw[qf,decide_eq_true_iff,D3,bw]
 exact⟨λ⟨a,h,e⟩=>(show a=j by omega) ▸ h,λh=>⟨j,h,rfl⟩⟩
theorem ck0{o:Bool}{G:List (List Nat)}{f:List Nat->Nat}{k:Nat}{d:D}(h:(dG (aq (G.map f)) (ax o G))[k]?=some d):∃hk:k<G.length,d=.tup [.int ((f G[k]:Nat):Int),.lst o (aq G[k])]:=by
 unfold dG ax at h
 rw[cO,nC,cu,cu,cu]at h
 by_cases hk:k<G.length
 ·rw[aM hk]at h
  exact⟨hk,(c9 h).symm⟩
 ·rw[gn (by omega)]at h;cases h
theorem GJ{α:Type}(a:α->Nat)(b:α->Nat):∀(l:List α) (x:List Nat),(l.foldl (λx z=>x.set (a z) (b z)) x).length=x.length
 | [],_=>rfl
 | z::l,x=>by rw[vD,GJ a b l,sX]
end L3
namespace L2
open PySem PySem.Spec PyProof.Rows
theorem bK7{M:Model}{A:Around}{E:Value->Shared->Prop}{s:Shared}{scope:Scope}{globals:Addr}{cl:List (Str × Addr)}{qual:Str}{env:Env}{bi:Addr}{Q:Env->Shared->Prop}
  (hQ:Q (newEnv scope s.heap.objs.size globals (cellsFrom (s.heap.objs.size+1) scope.names cl) qual none .none (some env) bi) { s with heap:=pushCells (s.heap.push { cls:=.type "dict",data:=.dict #[] }) scope.names }) :
  wpAny M A (newFunctionEnv scope globals cl [] qual none .none (some env) bi) Q E s:=by
 simp only[newFunctionEnv,Option.isSome_some,if_true]
 refine wpAny_bind (wpAny_alloc (wpAny_bind (wpAny_layCells _ (λname kind cells=>by cases e:kind==D4<;>simp[e]) _ _ _ _ ?_)))
 rw[List.forIn_nil]
 refine wpAny_bind (wpAny_pure (wpAny_pure ?_))
 have z:({ s with heap:=s.heap.push { cls:=.type "dict",data:=.dict #[] } }:Shared).heap.objs.size=s.heap.objs.size+1:=vz ..
 rw[z]
 exact hQ
theorem zA:∀(ns:List (Str × NameKind)) (n:Nat) (acc:List (Str × Addr)) (y:Str) (c:Addr),(cellsFrom n ns acc).lookup y=some c->(n<=c/\(y,D4)∈ns)\/acc.lookup y=some c
 | [],_,_,_,_,h=>.inr h
 | (z,k)::r,n,acc,y,c,h=>by
  unfold cellsFrom at h
  split at h
  ·rename_i hk
   rcases zA r (n+1) _ y c h with⟨h1,h2⟩ | h1
   ·exact .inl ⟨by omega,ft _ h2⟩
   ·rw[fZ]at h1
    cases q:y==z with
    | true =>
     rw[q]at h1;cases h1
     exact .inl ⟨bE _,by rw[eq_of_beq q,eq_of_beq hk];exact gj⟩
    | false=>rw[q]at h1;exact .inr h1
  ·rcases zA r n acc y c h with⟨h1,h2⟩ | h1
   ·exact .inl ⟨h1,ft _ h2⟩
   ·exact .inr h1
theorem GK:∀(ns:List (Str × NameKind)) (n:Nat) (acc:List (Str × Addr)),(∀y z c,acc.lookup y=some c->acc.lookup z=some c->y=z)->(∀y c,acc.lookup y=some c->c<n) ->
  ∀y z c,(cellsFrom n ns acc).lookup y=some c->(cellsFrom n ns acc).lookup z=some c->y=z
 | [],_,_,i,_,y,z,c,h1,h2=>i y z c h1 h2
 | (u,k)::r,n,acc,i,b,y,z,c,h1,h2=>by
  unfold cellsFrom at h1 h2
  split at h1
  ·rw[if_pos (by assumption)]at h2
   refine GK r (n+1) ((u,n)::acc) (λy z c e1 e2=>?_) (λy c e=>?_) y z c h1 h2
   ·rw[fZ]at e1 e2
    cases q1:y==u with
    | true =>
     rw[q1]at e1;cases e1
     cases q2:z==u with
     | true=>rw[eq_of_beq q1,eq_of_beq q2]
     | false=>rw[q2]at e2;exact absurd (b _ _ e2) (gi _)
    | false =>
     rw[q1]at e1
     cases q2:z==u with
     | true=>rw[q2]at e2;cases e2;exact absurd (b _ _ e1) (gi _)
     | false=>rw[q2]at e2;exact i y z c e1 e2
   ·rw[fZ]at e
    cases q:y==u with
    | true=>rw[q]at e;cases e;exact AA _
    | false=>rw[q]at e;exact JE (b _ _ e)
  ·rw[if_neg (by assumption)]at h2
   exact GK r n acc i b y z c h1 h2
theorem GL:∀(ns:List (Str × NameKind)) (n:Nat) (acc:List (Str × Addr)) (y:Str) (c:Addr),(y,D4)∈ns->(cellsFrom n ns acc).lookup y=some c->n<=c
 | [],_,_,_,_,m,_=>nomatch m
 | (z,k)::r,n,acc,y,c,m,h=>by
  unfold cellsFrom at h
  split at h
  ·rename_i hk
   rcases bR.mp m with e | m
   ·have e1:y=z:=(Prod.mk.inj e).1
    rcases zA r (n+1) _ y c h with⟨h1,_⟩ | h1
    ·exact AR h1
    ·rw[fZ,e1,beq_self_eq_true]at h1
     exact Az (c9 h1)
   ·exact AR (GL r (n+1) _ y c m h)
  ·rename_i hk
   rcases bR.mp m with e | m
   ·cases e;exact absurd rfl hk
   ·exact GL r n acc y c m h
noncomputable def dP(X:Cx)(scope:Scope)(N:List Str)(cl:List (Str × Addr))(C:Addr)(s:Shared)(H:Hp)(fp:List Addr):Cx :=
 { BA X scope N (cellsFrom (C+1) scope.names cl) C s H fp with fn:=λy=>scope.names.contains (y,D4) }
section
variable{X:Cx}{scope:Scope}{cl:List (Str × Addr)}
theorem b24{pins:List (Addr × Obj)}{σ:St}{H:Hp}{s:Shared}{fp:List Addr}{C:Addr}(I:Inv X pins σ H s)(iC:scope.kind=.function)(hC:s.heap.objs.size<=C)
  (ie:∀y c,cl.lookup y=some c->X.env.cells.lookup y=some c) (cX9:∀y,((relabel scope X.env).names.lookup y=some .cell\/(relabel scope X.env).names.lookup y=some .free)->∃c,(cellsFrom (C+1) scope.names cl).lookup y=some c)
  (hf:∀b∈fp,jm X pins H b) (ho:∀b∈fp,∃o,s.heap.get? b=some o/\∀v,o.data≠.cell v) (N:List Str):(dP X scope N cl C s H fp).Ok where
 mod:=I.ok.mod
 kind:=iC
 glob:=I.ok.glob
 blt:=I.ok.blt
 above:=hC
 inj:=GK scope.names (C+1) cl (λy z c h1 h2=>I.ok.inj y z c (ie _ _ h1) (ie _ _ h2)) λy c e=>by
  obtain⟨v,o,ho,_⟩:=I.cell y c (ie y c e)
  exact Nat.lt_succ_of_le (As (cB (bD ho) hC))
 has:=cX9
 nG:=λy c h e=>fG hC (AR (GL _ _ _ y c (D3.mp h) e))
 hd:=I.ok.hd
 frames:=I.ok.frames
 tH:=.inl rfl
 tI:=λb hb=>⟨by
  obtain⟨o,e,_⟩:=ho b hb
  exact dN (cB (bD e) hC),λy c e z=>by
  rcases zA _ _ _ y c e with⟨h1,_⟩ | h1
  ·obtain⟨o,e,_⟩:=ho b hb
   rw[z]at h1
   exact absurd (cB (bD e) (fG hC (AR h1))) (gi _)
  ·exact(hf b hb).2.2.2.2.1 y c (ie _ _ h1) z⟩
 bs:=I.bs
 ji:=fG I.ok.ji I.sz
 qm:=λb o e hb=>by
  rcases(hf b hb).2.2.2.1 with z | z
  ·exact I.ok.qm b o e z
  ·exact absurd (cB (bD (I.ok.bs b o e).1) z) (gi _)
 qo:=λb hb z=>(bR.mp (I.xT b z)).elim (hf b hb).2.1 (hf b hb).2.2.1
 gq:=I.stack
 jj:=I.A6
end
theorem GN:∀(ns:List (Str × NameKind)) (h:Heap) (acc:List (Str × Addr)) (y:Str) (c:Addr),(cellsFrom h.objs.size ns acc).lookup y=some c->(∃o,(pushCells h ns).get? c=some o/\o.data=.cell none)\/acc.lookup y=some c
 | [],_,_,_,_,e=>.inr e
 | (z,k)::r,h,acc,y,c,e=>by
  unfold cellsFrom at e
  unfold pushCells
  split at e
  ·rename_i hk
   rw[if_pos hk]
   rw[<-vz h { cls:=.type "cell",data:=.cell none }]at e
   rcases GN r _ _ y c e with h1 | h1
   ·exact .inl h1
   ·rw[fZ]at h1
    cases q:y==z with
    | true =>
     rw[q]at h1;cases h1
     exact .inl ⟨_,pushCells_keeps _ _ _ _ (gG _ rfl),rfl⟩
    | false=>rw[q]at h1;exact .inr h1
  ·rename_i hk
   rw[if_neg hk]
   exact GN r h acc y c e
end L2
namespace L2
open PySem PySem.Spec PyProof.Rows
section
variable{X:Cx}{elt iter tg:Expr}{pos:Pos}{ifs:List Expr}{scope:Scope}{cl:List (Str × Addr)}{wi:TI}{tt:TT}{te:TE}{g:TG}
theorem NQ(az:List (Str × Nat))(bF:List Str)(hc:X.calm=true)(hi:PI X tg iter wi)
  (hg:∀C s H fp,PG (dP X scope (az.map (·.1)++bF) cl C s H fp) tg g)
  (ht:∀C s H fp,mB (dP X scope (az.map (·.1)++bF) cl C s H fp) ifs tt) (he:∀C s H fp,PE (dP X scope (az.map (·.1)++bF) cl C s H fp) elt te)
  (lQ:closureFor scope X.env=pure cl) (lR:mC X cl) (lU:∀C:Addr,mD (cellsFrom (C+1) scope.names cl) (relabel scope X.env).names) (lV:∀C:Addr,my X scope (cellsFrom (C+1) scope.names cl) az)
  (iC:scope.kind=.function) (lW:∀y∈scope.names,y.2=.local->scope.names.lookup y.1=some .local)
  (hs:∀x,foldedSetIterable iter X.env x=pure x:=by intro _;rfl) {pins:List (Addr × Obj)} {s:Shared} {σ:L2.St} {H:Hp} {Q:VK} {use:Option (Value->Sem Unit)} {cj:Pos} {Rf:Value->Shared->Prop} (I:Inv X pins σ H s) (h:BC wi az bF.length g tt te σ H Q)
  (cY0:∀(s':Shared) (H':Hp) (C Da:Addr) (m:Str->Option Value),Inv X pins σ H' s'->s'.heap.Ns C m->H' C=none->C≠X.env.locals->X.cw.heap.objs.size<=C->(∀x c,X.env.cells.lookup x=some c->c≠C)->(∀p∈X.pn++pins,p.1≠C)->C ∉ X.fs->Q (.ref Da) H' ->
   compPost (model X.prog X.w) X.A X.xe use Rf (.ref Da) C (.ok .next) s') :
  wpAny (model X.prog X.w) X.A (comprehension (.ListComp elt [⟨tg,iter,ifs,0⟩] scope pos) scope X.env cj (newList []) false (eval iter X.env) use) Rf X.xe s:=by
 have ie:=lR.all
 refine wpAny_comprehension_free (use:=use) rfl hs lQ iC lW (aS (hi pins s σ H _ I h) λv s1 h1=>aS h1 λEr s2 h2=>?_)
 obtain⟨it,fp,tn,J,H2,e,I2,T,x9,f2,q⟩:=h2
 subst e
 refine wpAny_newList ?_
 refine bK7 ?_
 have hD:H2 s2.heap.objs.size=none:=I2.aI.fresh (bE _)
 obtain⟨W,⟨m0,w0⟩,turn⟩:=q s2.heap.objs.size hD
 generalize GO:s2.heap.push { cls:=.type "list",data:=.seq ([]:List Value).toArray }=g0 at ⊢
 have hCs:g0.objs.size=s2.heap.objs.size+1:=by rw[<-GO,vz]
 have hDC:s2.heap.objs.size≠g0.objs.size:=by omega
 have hle:s2.heap.objs.size<=g0.objs.size:=by omega
 have vT:∀b o,s2.heap.get? b=some o->b≠g0.objs.size:=λb o e=>dN (cB (bD e) hle)
 obtain⟨g1,CF⟩:∃g1,g1=pushCells (g0.push { cls:=.type "dict",data:=.dict #[] }) scope.names:=⟨_,rfl⟩
 have GP:g1.Ns g0.objs.size (λ_=>none):=by rw[CF];exact(Heap.Ns.new g0 (.type "dict")).keeps (pushCells_keeps _ _)
 have NR:∀b o,g0.get? b=some o->g1.get? b=some o:=λb o e=>by rw[CF];exact pushCells_keeps _ _ b o (fO _ e)
 have old:∀b o,s2.heap.get? b=some o->g1.get? b=some o:=λb o e=>NR b o (GO ▸ fO _ e)
 rw[<-CF]
 have hDg:g1.get? s2.heap.objs.size=some { cls:=.type "list",data:=.seq ([]:List Value).toArray }:=NR _ _ (GO ▸ gG _ rfl)
 have NS:∀b∈fp,∃o,s2.heap.get? b=some o/\∀v,o.data≠.cell v:=T.obj _ _ x9
 have CG:=b24 (scope:=scope) (cl:=cl) (C:=g0.objs.size) I2 iC hle ie (lU g0.objs.size).all f2 NS (az.map (·.1)++bF)
 have I4:Inv (dP X scope (az.map (·.1)++bF) cl g0.objs.size s2 H2 fp) [] (iF az bF.length σ) (upd H2 s2.heap.objs.size (.lst [])) { s2 with heap:=g1 }:=by
  refine⟨CG,rfl,I2.bare,Un.laid old (bE _) hD,⟨_,GP,λi y v h1 h2 h3=>?_⟩,λy c e=>?_,?_,λy c e=>?_,λp hp=>absurd hp (by simp[dP,BA]),I2.aI.laid old (bE _) ⟨jE _,[],0,.nil,hDg⟩,by simp[iF,dP,BA]⟩
  ·by_cases GQ:i<az.length
   case neg =>
    have jR:((az.map λp=>(σ[p.2]?).getD none)++aV bF.length none)[i]?=some (some v):=h2
    rw[pZ (by simpa using GQ),nq]at jR
    split at jR<;>cases jR
   case pos =>
    have kA:(az.map (·.1))[i]?=some y:=by
     have z:(az.map (·.1)++bF)[i]?=some y:=h1
     rwa [sU (by simpa using GQ)]at z
    have jR:(az.map λp=>(σ[p.2]?).getD none)[i]?=some (some v):=by
     have z:((az.map λp=>(σ[p.2]?).getD none)++aV bF.length none)[i]?=some (some v):=h2
     rwa [sU (by simpa using GQ)]at z
    rw[cu]at kA jR
    cases hj:az[i]? with
    | none=>rw[hj]at kA;cases kA
    | some p =>
     rw[hj]at kA jR
     have ey:p.1=y:=c9 kA
     have ev:(σ[p.2]?).getD none=some v:=c9 jR
     obtain⟨hN,hk,NT,c,e1,e2⟩:=(lV g0.objs.size).at p (vB hj)
     obtain⟨m,hn,hl⟩:=I2.loc
     have es:σ[p.2]?=some (some v):=by
      cases z:σ[p.2]? with
      | none=>rw[z]at ev;cases ev
      | some o=>rw[z]at ev;exact congrArg some ev
     obtain⟨u,ru,lk⟩:=hl p.2 p.1 v hN es (hk.elim (λz=>.inr (.inl z)) λz=>.inr (.inr z))
     refine⟨u,ru,?_⟩
     rcases lk with⟨lk,_⟩ | ⟨_,c',e3,ic⟩
     ·rcases hk with hk | hk
      ·have:=hk.symm.trans lk;cases this
      ·have:=hk.symm.trans lk;cases this
     ·rw[e2]at e3
      cases e3
      subst ey
      obtain⟨oc,jk,Gk⟩:=ic
      exact .inr ⟨NT,c,e1,oc,old _ _ jk,Gk⟩
  ·rcases GN _ _ _ y c (show(cellsFrom (g0.push { cls:=.type "dict",data:=.dict #[] }).objs.size scope.names cl).lookup y=some c by rw[vz];exact e)with h1 | h1
   ·rw[<-CF]at h1
    exact⟨none,h1⟩
   ·obtain⟨v,o,ho,hd⟩:=I2.cell y c (ie y c h1)
    exact⟨v,o,old _ _ ho,hd⟩
  ·show upd H2 _ _ g0.objs.size=none
   rw[aT (e7 hDC)]
   exact I2.aI.fresh hle
  ·rcases zA _ _ _ y c e with⟨h1,_⟩ | h1
   ·rw[aT (Jk (nv hle h1))]
    exact I2.aI.fresh (fG hle (AR h1))
   ·obtain⟨v,o,ho,hd⟩:=I2.cell y c (ie y c h1)
    rw[aT (dN (bD ho))]
    exact I2.f9 y c (ie y c h1)
 have fin:∀(s':Shared) (H':Hp) (aF:L2.St),Inv (dP X scope (az.map (·.1)++bF) cl g0.objs.size s2 H2 fp) [] aF H' s'->Q (.ref s2.heap.objs.size) H' ->
   compPost (model X.prog X.w) X.A X.xe use Rf (.ref s2.heap.objs.size) g0.objs.size (.ok .next) s':=by
  intro s' H' aF I' q'
  obtain⟨m,hn,_⟩:=I'.loc
  have u:=I'.base
  have hC':H' g0.objs.size=none:=I'.free
  have IX:Inv X pins σ H' s':=I2.J1 (s':=s') (ch:=fp) I'.os ⟨u.keep,u.slot,u.free,u.there,u.iW,u.iy,u.gK⟩ I'.aI I'.bare λb hb=>by
   obtain⟨_,y1,y2,y3,y4,y5⟩:=f2 b hb
   exact⟨y3,y1,y4,y5⟩
  have NU:∀b,(∃o,s2.heap.get? b=some o)->b≠g0.objs.size:=λb ⟨o,e⟩=>vT b o e
  refine cY0 s' H' g0.objs.size s2.heap.objs.size m IX hn hC' (λz=>?_) (fG I2.sz hle) (λx c e z=>?_) (λp hp z=>?_) (λz=>?_) q'
  ·have h0:X.env.locals<s2.heap.objs.size:=I2.lt
   rw[<-z]at h0
   exact gi _ (cB h0 hle)
  ·obtain⟨v,o,ho,_⟩:=I2.cell x c e
   exact NU c ⟨o,ho⟩ z
  ·exact NU p.1 ⟨_,(I2.pin p hp).1⟩ z
  ·exact I2.JV hle z
 have GR:∀(H':Hp),(∀b∈fp,H' b=none)->∀b∈fp,jm (dP X scope (az.map (·.1)++bF) cl g0.objs.size s2 H2 fp) [] H' b:=λH' hn b hb =>
  ⟨hn b hb,(CG.tI b hb).1,CG.qo b hb,.inl hb,(CG.tI b hb).2,λp hp=>absurd hp (by simp[dP,BA])⟩
 have loop:codeAny (model X.prog X.w) X.A (.compLoop (.ListComp elt [⟨tg,iter,ifs,0⟩] scope pos) 0 (.ref it) (.ref s2.heap.objs.size) (compEnvC scope (cellsFrom (g0.objs.size+1) scope.names cl) g0.objs.size X.env))
   (compPost (model X.prog X.w) X.A X.xe use Rf (.ref s2.heap.objs.size) g0.objs.size) { s2 with heap:=g1 }:=by
  refine Zi (λn s'=>∃i acc H',Inv (dP X scope (az.map (·.1)++bF) cl g0.objs.size s2 H2 fp) [] (iF az bF.length σ) H' s'/\tn i s'.heap/\(∀b∈fp,H' b=none)/\W i n acc H') ?_ m0
   ⟨0,[],_,I4,T.keep _ _ _ x9 λb hb o e=>old b o e,λb hb=>?_,w0⟩
  ·rintro n s' ⟨i,acc,H',I',qv,wO,w'⟩
   obtain⟨Fy,⟨stop,qn⟩ | ⟨go,step⟩⟩:=turn i n acc H' w'
   ·refine aS (T.done (dP X scope (az.map (·.1)++bF) cl g0.objs.size s2 H2 fp) rfl rfl rfl hc i [] s' _ H' (λ_ _=>False) I' (GR H' wO) qv stop) λr t1 zz=>?_
    obtain⟨hr,I1⟩:=zz
    subst hr
    exact fin _ _ _ I1 qn
   ·refine aS (T.item (dP X scope (az.map (·.1)++bF) cl g0.objs.size s2 H2 fp) rfl rfl rfl hc i [] s' _ H' (λ_ _=>False) I' (GR H' wO) qv go) λr t1 zz=>?_
    obtain⟨u,hr,h4⟩:=zz
    subst hr
    refine aS h4 λ_ t2 zz=>?_
    obtain⟨x5,H5,I5,r5,y5,tP,ya⟩:=zz
    obtain⟨BQ,st6⟩:=step x5 H5 y5
    have Ew:=I5.pinned (GR H5 ya) (T.obj _ _ tP)
    refine aS (hg _ _ _ _ _ t2 _ H5 x5 u _ Ew r5 st6) λ_ t3 zz=>?_
    obtain⟨Bk,H6,I6,⟨cY5,cY6⟩,st7⟩:=zz
    have back:∀(s7:Shared) (H7:Hp) (GS:List V) (m7:Nat),Inv (dP X scope (az.map (·.1)++bF) cl g0.objs.size s2 H2 fp) ([]++x6 fp t2.heap) Bk H7 s7->W (i+1) m7 GS H7 ->
      ∃i acc H',Inv (dP X scope (az.map (·.1)++bF) cl g0.objs.size s2 H2 fp) [] (iF az bF.length σ) H' s7/\tn i s7.heap/\(∀b∈fp,H' b=none)/\W i m7 acc H':=λs7 H7 GS m7 I7 w7 =>
     ⟨i+1,GS,H7,(I7.x8).weak cY5.symm λj v z=>by
       by_cases hj:j<az.length
       ·rw[cY6 j hj];exact z
       ·have z':((az.map λp=>(σ[p.2]?).getD none)++aV bF.length none)[j]?=some (some v):=z
        rw[pZ (by simpa using hj),nq]at z'
        split at z'<;>(cases z'),
      T.keep _ _ _ tP λb hb o e=>(I7.pin (b,o) (dj _ (dj _ (Bj hb e)))).1,λb hb=>by
       obtain⟨o,e,d⟩:=T.obj _ _ tP b hb
       exact(I7.pin (b,o) (dj _ (dj _ (Bj hb e)))).2.1,w7⟩
    refine aS (ht _ _ _ _ _ t3 _ H6 _ I6 st7) λok t4 zz=>?_
    obtain⟨H7,I7,hD7,q7⟩:=zz
    cases ok with
    | false =>
     obtain⟨m',hm,w7⟩:=(show ∃m',m'<n/\W (i+1) m' acc H7 from q7)
     exact⟨m',hm,back t4 H7 acc m' I7 w7⟩
    | true =>
     refine aS (he _ _ _ _ _ t4 _ H7 _ I7 q7) λy t5 zz=>?_
     obtain⟨v8,H8,I8,r8,hD8,hl8,m',hm,w8⟩:=zz
     exact aS (KJ _ t5 _ H8 (.ref s2.heap.objs.size) [v8] (.ref s2.heap.objs.size) [y] (λ_ H9=>H9=upd H8 s2.heap.objs.size (.lst (acc++[v8]))) I8 rfl (.cons r8 .nil) ⟨_,acc,v8,rfl,rfl,hD8,hl8,rfl⟩) λ_ t6 zz=>by
      obtain⟨_,H9,I9,_,e9⟩:=zz
      subst e9
      exact⟨m',hm,back t6 _ _ m' I9 w8⟩
  ·obtain⟨o,e,_⟩:=NS b hb
   rw[aT (dN (bD e))]
   exact(f2 b hb).1
 exact codeAny_compStart_list loop (T.self _ 0 _ _ _ (T.keep _ _ _ x9 λb hb o e=>old b o e) loop)
theorem bZ9(az:List (Str × Nat))(bF:List Str)(hc:X.calm=true)(hi:PI X tg iter wi)
  (hg:∀C s H fp,PG (dP X scope (az.map (·.1)++bF) cl C s H fp) tg g)
  (ht:∀C s H fp,mB (dP X scope (az.map (·.1)++bF) cl C s H fp) ifs tt) (he:∀C s H fp,PE (dP X scope (az.map (·.1)++bF) cl C s H fp) elt te)
  (lQ:closureFor scope X.env=pure cl) (lR:mC X cl) (lU:∀C:Addr,mD (cellsFrom (C+1) scope.names cl) (relabel scope X.env).names) (lV:∀C:Addr,my X scope (cellsFrom (C+1) scope.names cl) az)
  (iC:scope.kind=.function) (lW:∀y∈scope.names,y.2=.local->scope.names.lookup y.1=some .local)
  (hs:∀x,foldedSetIterable iter X.env x=pure x:=by intro _;rfl):PE X (.ListComp elt [⟨tg,iter,ifs,0⟩] scope pos) (BC wi az bF.length g tt te):=by
 intro pins s σ H Q I h
 rw[eval_ListComp]
 refine NQ az bF hc hi hg ht he lQ lR lU lV iC lW hs I h λs' H' C Da m IX hn hC hL h1 h2 h3 h4 q'=>?_
 exact⟨m,hn,λh' sb=>⟨.ref Da,H',IX.turned (t':=s'.toks) (λb o hb e=>sb.extBut b o hb e) hC hL (.inr h1) h2 h3,rfl,q'⟩⟩
theorem NV{i:Nat}{x:Str}{pos' apos:Pos}(hN:X.N.Nodup)(mP:X.N[i]?=some x)(hx:Loc X.env.scope x)(hf:X.fn x=true\/X.env.scope.names.lookup x=some .local)(az:List (Str × Nat))(bF:List Str)(hc:X.calm=true)(hi:PI X tg iter wi)
  (hg:∀C s H fp,PG (dP X scope (az.map (·.1)++bF) cl C s H fp) tg g)
  (ht:∀C s H fp,mB (dP X scope (az.map (·.1)++bF) cl C s H fp) ifs tt) (he:∀C s H fp,PE (dP X scope (az.map (·.1)++bF) cl C s H fp) elt te)
  (lQ:closureFor scope X.env=pure cl) (lR:mC X cl) (lU:∀C:Addr,mD (cellsFrom (C+1) scope.names cl) (relabel scope X.env).names) (lV:∀C:Addr,my X scope (cellsFrom (C+1) scope.names cl) az)
  (iC:scope.kind=.function) (lW:∀y∈scope.names,y.2=.local->scope.names.lookup y.1=some .local)
  (uh:swapsWith (.ListComp elt [⟨tg,iter,ifs,0⟩] scope pos) (some (.Name x pos')) apos.line X.env=pure true) (hs:∀x,foldedSetIterable iter X.env x=pure x:=by intro _;rfl):PS X (.Assign [.Name x pos'] (.ListComp elt [⟨tg,iter,ifs,0⟩] scope pos) apos) (Eo (BC wi az bF.length g tt te) (Bg i)):=by
 intro pins s σ H D I h
 rw[exec_Assign_Name_used x pos' _ apos uh]
 refine wpAny_bind (wpAny_standAt (wpAny_bind ?_))
 have hh:BC wi az bF.length g tt te σ H λv H1=>D.nx (σ.set i (some v)) H1:=h
 show wpAny _ _ (comprehension (.ListComp elt [⟨tg,iter,ifs,0⟩] scope pos) scope X.env (firstIterPos [⟨tg,iter,ifs,0⟩] pos) (newList []) false (eval iter X.env) (some (assign (.Name x pos') X.env)) >>= λ_=>pure ()) _ _ _
 refine wpAny_bind (NQ (use:=some (assign (.Name x pos') X.env)) (pos:=pos) az bF hc hi hg ht he lQ lR lU lV iC lW hs I hh λs' H' C Da m IX hn hC hL h1 h2 h3 h4 q'=>?_)
 obtain⟨oC,es,ep,hoC,NW,rest⟩:=id hn
 have IP:Inv X (pins++[(C,oC)]) σ H' s':=⟨IX.ok,IX.os,IX.bare,IX.base,IX.loc,IX.cell,IX.free,IX.f9,λp hp=>by
  rcases bY.mp hp with z | z
  ·exact IX.pin p (eN _ z)
  ·rcases bY.mp z with z | z
   ·exact IX.pin p (dj _ z)
   ·obtain rfl:=fc.mp z
    exact⟨hoC,hC,hL,h4,λv w=>by rw[NW]at w;cases w⟩,IX.aI,IX.len⟩
 refine aS (Bh (X:=X) hN mP hx hf _ s' σ H' (.ref Da) (.ref Da) (λjM H2=>jM=σ.set i (some (.ref Da))/\H2=H') IP rfl ⟨rfl,rfl⟩) λ_ s2 zz=>?_
 obtain⟨jM,H2,I2,e1,e2⟩:=zz
 subst e1 e2
 have pC:=I2.pin (C,oC) (dj _ (dj _ (by simp)))
 refine⟨m,⟨oC,es,ep,pC.1,NW,rest⟩,λh' sb=>wpAny_pure (wpAny_pure ?_)⟩
 exact⟨σ.set i (some (.ref Da)),H2,(I2.x8).turned (t':=s2.toks) (λb o hb e=>sb.extBut b o hb e) hC hL (.inr h1) h2 h3,q'⟩
end
end L2
namespace L3
open PySem L2 PySem.Spec PyProof.Rows
section
variable{X:Cx}{elt iter tg:Expr}{pos:Pos}{ifs:List Expr}{scope:Scope}{cl:List (Str × Addr)}{ti:i5}{tt:fI}{te:aO}{g:iJ}
theorem di(az:List (Str × Nat))(bF:List Str)(hc:X.calm=true)(hi:PI X tg iter (lI ti))
  (hg:∀C s H fp,PG (dP X scope (az.map (·.1)++bF) cl C s H fp) tg (lG az.length g))
  (ht:∀C s H fp,mB (dP X scope (az.map (·.1)++bF) cl C s H fp) ifs (lT tt)) (he:∀C s H fp,PE (dP X scope (az.map (·.1)++bF) cl C s H fp) elt (lE te))
  (lQ:closureFor scope X.env=pure cl) (lR:mC X cl:=by repeat' (first | exact trivial | refine⟨rfl,?_⟩)) (lU:∀C:Addr,mD (cellsFrom (C+1) scope.names cl) (relabel scope X.env).names:=by intro _;repeat' (first | exact trivial | refine⟨.inl rfl,?_⟩ | refine⟨.inr (.inl rfl),?_⟩ | refine⟨.inr (.inr ⟨_,rfl⟩),?_⟩)) (lV:∀C:Addr,my X scope (cellsFrom (C+1) scope.names cl) az:=by intro _;repeat' (first | exact trivial | refine⟨⟨rfl,.inl rfl,.inl rfl,_,rfl,rfl⟩,?_⟩))
  (iC:scope.kind=.function:=by rfl) (lW:∀y∈scope.names,y.2=.local->scope.names.lookup y.1=some .local:=by decide +kernel)
  (hs:∀x,foldedSetIterable iter X.env x=pure x:=by intro _;rfl):PE X (.ListComp elt [⟨tg,iter,ifs,0⟩] scope pos) (lE (mJ ti az bF.length g tt te)) :=
 dF (bZ9 az bF hc hi hg ht he lQ lR lU lV iC lW hs) λσ H Q zq=>by
 obtain⟨B,F,δ,ts,Qd,c,q,k⟩:=zq
 exact⟨B,F,δ,ts,_,c,q,λsh xs aj J F1 H1 hq f1 h1 c1 oq ub=>by
  obtain⟨p,f,hx,df,hlen,hQ⟩:=hq
  exact Fx c1 oq ub p f hx df hlen hQ λd ah v F' H' hd hf hs c'=>k d ah v F' H' hd (f1.trans hf) (h1.trans hs) c'⟩
theorem NX{i:Nat}{x:Str}{pos' apos:Pos}(hN:X.N.Nodup)(mP:X.N[i]?=some x)(hx:L2.Loc X.env.scope x)(az:List (Str × Nat))(bF:List Str)(hc:X.calm=true)(hi:PI X tg iter (lI ti))
  (hg:∀C s H fp,PG (dP X scope (az.map (·.1)++bF) cl C s H fp) tg (lG az.length g))
  (ht:∀C s H fp,mB (dP X scope (az.map (·.1)++bF) cl C s H fp) ifs (lT tt)) (he:∀C s H fp,PE (dP X scope (az.map (·.1)++bF) cl C s H fp) elt (lE te))
  (lQ:closureFor scope X.env=pure cl) (lR:mC X cl:=by repeat' (first | exact trivial | refine⟨rfl,?_⟩)) (lU:∀C:Addr,mD (cellsFrom (C+1) scope.names cl) (relabel scope X.env).names:=by intro _;repeat' (first | exact trivial | refine⟨.inl rfl,?_⟩ | refine⟨.inr (.inl rfl),?_⟩ | refine⟨.inr (.inr ⟨_,rfl⟩),?_⟩)) (lV:∀C:Addr,my X scope (cellsFrom (C+1) scope.names cl) az:=by intro _;repeat' (first | exact trivial | refine⟨⟨rfl,.inl rfl,.inl rfl,_,rfl,rfl⟩,?_⟩))
  (iC:scope.kind=.function:=by rfl) (lW:∀y∈scope.names,y.2=.local->scope.names.lookup y.1=some .local:=by decide +kernel)
  (uh:swapsWith (.ListComp elt [⟨tg,iter,ifs,0⟩] scope pos) (some (.Name x pos')) apos.line X.env=pure true:=by rfl) (hf:X.fn x=true\/X.env.scope.names.lookup x=some .local:=by first | exact .inl rfl | exact .inr rfl)
  (hs:∀x,foldedSetIterable iter X.env x=pure x:=by intro _;rfl):PS X (.Assign [.Name x pos'] (.ListComp elt [⟨tg,iter,ifs,0⟩] scope pos) apos) (lS X (oh i (mJ ti az bF.length g tt te))) :=
 kD (NV hN mP hx hf az bF hc hi hg ht he lQ lR lU lV iC lW uh hs) λEn σ H zq=>by
 obtain⟨B,F,δ,Dd,c,q,k1,k2,k3,k4⟩:=zq
 exact⟨B,F,δ,[],_,c,q,λsh xs aj J F1 H1 hq f1 h1 c1 oq ub=>by
  obtain⟨p,f,hx,df,hlen,hQ⟩:=hq
  exact Fx (Qd:=λd ah=>Dd.nx (ah.set i (some d))) c1 oq ub p f hx df hlen hQ λd ah v F' H' hd hf hs c'=>k1 _ _ F' H' hd (c'.store i)⟩
end
end L3
namespace L3
open PySem L2 Mf
theorem lo1{m:Bool × Nat}(hm:m∈aw):1<aa m:=by have:=(bZ hm).lo;omega
inductive Sp(N:Nat)(p q:Nat->Nat->Nat)(S:(Nat->Nat)->Prop):(Nat->Nat)->Prop
 | mem {f:Nat->Nat}:S f->Sp N p q S f
 | zero:Sp N p q S λ_=>0
 | add {f g:Nat->Nat}:Sp N p q S f->Sp N p q S g->Sp N p q S λk=>p (f k) (g k)
 | mul {f:Nat->Nat} (c:Nat):c<N->Sp N p q S f->Sp N p q S λk=>q c (f k)
theorem Sp.trans{N:Nat}{p q:Nat->Nat->Nat}{S S':(Nat->Nat)->Prop}(h:∀f,S f->Sp N p q S' f){f:Nat->Nat}(s:Sp N p q S f):Sp N p q S' f:=by
 induction s with
 | mem a=>exact h _ a
 | zero=>exact .zero
 | add _ _ a b=>exact .add a b
 | mul c hc _ a=>exact .mul c hc a
noncomputable def Gn(T:List (List Nat))(f:Nat->Nat):Prop:=∃r∈T,f=cf r
noncomputable def bX(m:Bool × Nat)(T:List (List Nat))(f:Nat->Nat):Prop:=Sp (aa m) (gp m) (gm m) (Gn T) f
theorem bX.of{m:Bool × Nat}{T:List (List Nat)}{r:List Nat}(h:r∈T):bX m T (cf r):=.mem ⟨r,h,rfl⟩
theorem b10{m:Bool × Nat}(hm:m∈aw){a:Nat}(ha:a<aa m){f f' l:Nat->Nat}(GU:∀k,f' k<aa m)(hl:∀k,l k<aa m)(h:∀k,gp m (f' k) (gm m a (l k))=f k):∃b,b<aa m/\f'=λk=>gp m (f k) (gm m b (l k)):=by
 have r:=rg hm
 obtain⟨b,hb,e⟩:=r.ng ha
 refine⟨b,hb,funext λk=>?_⟩
 rw[<-h k,r.pa,r.mc a,r.mc b,<- r.dl,e,r.qz,r.z' (GU k)]
theorem GV{m:Bool × Nat}(hm:m∈aw){r l:List Nat}{w:Nat}(hr:r.length=w)(hl:l.length=w)(a k:Nat):cf (dm (λx y=>br m x (gm m a y)) r l) k=br m (cf r k) (gm m a (cf l k)):=by
 by_cases h:k<w
 ·unfold cf
  rw[aN,nC,aM (by omega),aM (by omega),aN,aM (by omega),aN,aM (by omega)]
  rfl
 ·rw[wW (by rw[jJ];omega),wW (l:=r) (by omega),wW (l:=l) (by omega),gA m _ (bM m hm),CB]
theorem CH{m:Bool × Nat}(hm:m∈aw){r l:List Nat}{w a:Nat}(hr:r.length=w)(hl:l.length=w)(ar:AllLt (aa m) r)(k:Nat):gp m (cf (dm (λx y=>br m x (gm m a y)) r l) k) (gm m a (cf l k))=cf r k:=by
 rw[GV hm hr hl]
 exact(iT hm (dh hm ar k) (bC hm _ _)).2.2
theorem GW{m:Bool × Nat}(hm:m∈aw){r l:List Nat}{w:Nat}(hr:r.length=w)(hl:l.length=w)(ar:AllLt (aa m) r)(a k:Nat):cf (dm (λx y=>br m x (gm m a y)) r l) k<aa m:=by
 rw[GV hm hr hl]
 exact(iT hm (dh hm ar k) (bC hm _ _)).2.1
theorem NY{m:Bool × Nat}(hm:m∈aw){w p i:Nat}{T:List (List Nat)}(hT:RT (aa m) w T)(e:j8 T p=some i):∃(g:List Nat) (c:Nat),g∈T/\T.getD i []=g/\g.length=w/\AllLt (aa m) g/\c<aa m/\gm m c (cf g p)=1/\(eJ m T i p).length=w/\AllLt (aa m) (eJ m T i p)/\(∀k,cf (eJ m T i p) k=gm m c (cf g k))/\cf (eJ m T i p) p=1/\∀k,gm m (cf g p) (cf (eJ m T i p) k)=cf g k:=by
 obtain⟨hi,h1,h2⟩:=CD e
 obtain⟨a,b⟩:=hT _ (dE hi)
 have l1:1<aa m:=lo1 hm
 obtain⟨c,hc,CI⟩:=GH hm l1 (dh hm b p) h1
 have ec:j9 m (cf T[i] p)=c:=wX hm hc CI
 have el:eJ m T i p=T[i].map (gm m c):=by unfold eJ;rw[h2,<- ec];rfl
 have ek:∀k,cf (eJ m T i p) k=gm m c (cf T[i] k):=λk=>by rw[el];exact CC hm _ _ _
 refine⟨T[i],c,dE hi,h2,a,b,hc,CI,by rw[el,bq,a],λx hx=>?_,ek,by rw[ek];exact CI,λk=>?_⟩
 ·rw[el]at hx
  obtain⟨y,_,rfl⟩:=bw.mp hx
  exact bC hm _ _
 ·rw[ek,<- ig (bM m hm),fV m _ c,CI,pz (dh hm b k)]
theorem NZ{m:Bool × Nat}{s:List (List Nat) × List (List Nat)}{p i:Nat}(e:j8 s.2 p=some i):iU m s p=(gX m s.1 (eJ m s.2 i p) p++[eJ m s.2 i p],gX m (s.2.take i++s.2.drop (i+1)) (eJ m s.2 i p) p):=by unfold iU;rw[e]
theorem N0{m:Bool × Nat}{s:List (List Nat) × List (List Nat)}{p:Nat}(e:j8 s.2 p=none):iU m s p=s:=by unfold iU;rw[e]
theorem CJ{α:Type}{T:List α}{i:Nat}{r:α}(h:r∈T.take i++T.drop (i+1)):r∈T:=(bY.mp h).elim xI qi
theorem b30{α:Type}{T:List α}{i:Nat}{r:α}(h:r∈T)(hi:i<T.length):r=T[i]\/r∈T.take i++T.drop (i+1):=by
 obtain⟨j,hj,rfl⟩:=gI h
 rcases Nat.lt_trichotomy j i with h | h | h
 ·exact .inr (bY.mpr (.inl (List.mem_take_iff_getElem.mpr ⟨j,by omega,rfl⟩)))
 ·subst h;exact .inl rfl
 ·exact .inr (bY.mpr (.inr (List.mem_drop_iff_getElem.mpr ⟨j-(i+1),by omega,by congr 1;omega⟩)))
theorem bK5{m:Bool × Nat}(hm:m∈aw){w n p:Nat}{s:List (List Nat) × List (List Nat)}(h:zx (aa m) w n s)(f:Nat->Nat):bX m (s.1++s.2) f↔bX m ((iU m s p).1++(iU m s p).2) f:=by
 cases e:j8 s.2 p with
 | none=>rw[N0 e]
 | some i =>
  obtain⟨g,c,g1,g2,g3,g4,c1,c2,l1,l2,l3,l4,l5⟩:=NY hm h.b e
  obtain⟨hi,_,hg⟩:=CD e
  rw[NZ e]
  generalize eJ m s.2 i p=l at l1 l2 l3 l4 l5
  have ll:=dh hm l2
  have row:∀{T:List (List Nat)},RT (aa m) w T->∀r'∈gX m T l p,∃r∈T,∃b,b<aa m/\cf r'=λk=>gp m (cf r k) (gm m b (cf l k)):=λ{T} hT r' aZ=>by
   obtain⟨r,hr,rfl⟩:=bw.mp aZ
   obtain⟨a1,a2⟩:=hT r hr
   exact⟨r,hr,b10 hm (dh hm a2 p) (GW hm a1 l1 a2 _) ll (CH hm a1 l1 a2)⟩
  have N1:∀{T:List (List Nat)},RT (aa m) w T->∀r∈T,∃r'∈gX m T l p,cf r=λk=>gp m (cf r' k) (gm m (cf r p) (cf l k)):=λ{T} hT r hr=>by
   obtain⟨a1,a2⟩:=hT r hr
   exact⟨_,bw.mpr ⟨r,hr,rfl⟩,funext λk=>(CH hm a1 l1 a2 k).symm⟩
  have hB:RT (aa m) w (s.2.take i++s.2.drop (i+1)):=λr hr=>h.b r (CJ hr)
  constructor
  ·refine Sp.trans ?_
   rintro f ⟨r,hr,rfl⟩
   have hl:bX m ((gX m s.1 l p++[l])++gX m (s.2.take i++s.2.drop (i+1)) l p) (cf l):=bX.of (by simp)
   rcases bY.mp hr with hr | hr
   ·obtain⟨r',h1,h2⟩:=N1 h.a r hr
    rw[h2]
    exact .add (bX.of (by simp[h1])) (.mul _ (dh hm (h.a r hr).2 p) hl)
   ·rcases b30 hr hi with e' | aZ
    ·have:cf r=λk=>gm m (cf g p) (cf l k):=funext λk=>by rw[l5 k,e',<- hg,g2]
     rw[this]
     exact .mul _ (dh hm g4 p) hl
    ·obtain⟨r',h1,h2⟩:=N1 hB r aZ
     rw[h2]
     exact .add (bX.of (by simp[h1])) (.mul _ (dh hm (h.b r hr).2 p) hl)
  ·refine Sp.trans ?_
   rintro f ⟨r,hr,rfl⟩
   have hl:bX m (s.1++s.2) (cf l):=by
    have:cf l=λk=>gm m c (cf g k):=funext l3
    rw[this]
    exact .mul _ c1 (bX.of (dj _ g1))
   rcases bY.mp hr with hr | hr
   ·rcases bY.mp hr with hr | hr
    ·obtain⟨r1,h1,b,hb,h2⟩:=row h.a r hr
     rw[h2]
     exact .add (bX.of (eN _ h1)) (.mul _ hb hl)
    ·rw[fc]at hr
     rw[hr];exact hl
   ·obtain⟨r1,h1,b,hb,h2⟩:=row hB r hr
    rw[h2]
    exact .add (bX.of (dj _ (CJ h1))) (.mul _ hb hl)
structure RR(w:Nat)(R:List (List Nat))(H:Nat->Nat):Prop where
 u:∀i j,i<R.length->j<R.length->cf (R.getD i []) (H j)=if i=j then 1 else 0
 z:∀i,i<R.length->∀t,t<H i->cf (R.getD i []) t=0
 i:∀i j,i<j->j<R.length->H i<H j
 l:∀i,i<R.length->H i<w
theorem u6{α β:Type}(f:α->β){l:List α}{i:Nat}(h:i<l.length)(a:α)(b:β):(l.map f).getD i b=f (l.getD i a):=by
 rw[aN,cu,aN,aM h];rfl
theorem dH{α:Type}{l:List α}{i:Nat}(h:i<l.length)(a:α):l.getD i a∈l:=by
 rw[aN,aM h];exact dE h
theorem bB9{m:Bool × Nat}(hm:m∈aw){w n p:Nat}{s:List (List Nat) × List (List Nat)}(h:zx (aa m) w n s){H:Nat->Nat}(I:RR p s.1 H)(e2:∀r∈s.2,∀t,t<p->cf r t=0):∃H',RR (p+1) (iU m s p).1 H'/\∀r∈(iU m s p).2,∀t,t<p+1->cf r t=0:=by
 cases e:j8 s.2 p with
 | none =>
  rw[N0 e]
  refine⟨H,⟨I.u,I.z,I.i,λi hi=>JE (I.l i hi)⟩,λr hr t ht=>?_⟩
  rcases D6 t p with h1 | h1
  ·exact e2 r hr t h1
  ·have:=VR.mp e r hr
   have z:r.getD p 0=0:=by simpa using this
   rw[show t=p by omega]
   exact z
 | some i0 =>
  obtain⟨g,c,g1,g2,g3,g4,c1,c2,l1,l2,l3,l4,l5⟩:=NY hm h.b e
  rw[NZ e]
  generalize eJ m s.2 i0 p=l at l1 l2 l3 l4 l5
  have m0:=bM m hm
  have lz:∀t,t<p->cf l t=0:=λt ht=>by rw[l3,e2 g g1 t ht,gA m _ m0]
  have zB:∀{r:List Nat},r.length=w->AllLt (aa m) r->(∀t,t<p->cf (dm (λx y=>br m x (gm m (r.getD p 0) y)) r l) t=cf r t)/\cf (dm (λx y=>br m x (gm m (r.getD p 0) y)) r l) p=0:=λ{r} a1 a2=>by
   constructor
   ·intro t ht
    have:=CH hm (a:=r.getD p 0) a1 l1 a2 t
    rw[lz t ht,gA m _ m0,j5 (GW hm a1 l1 a2 _ _)]at this
    exact this
   ·rw[GV hm a1 l1,l4]
    show br m (r.getD p 0) (gm m (r.getD p 0) 1)=0
    rw[mV (show r.getD p 0<aa m from dh hm a2 p),CB]
  have nl:(gX m s.1 l p).length=s.1.length:=by unfold gX;rw[bq]
  have N2:∀i,i<s.1.length->∃r,s.1.getD i []=r/\r.length=w/\AllLt (aa m) r/\(gX m s.1 l p++[l]).getD i []=dm (λx y=>br m x (gm m (r.getD p 0) y)) r l:=λi hi=>by
   refine⟨_,rfl,(h.a _ (dH hi [])).1,(h.a _ (dH hi [])).2,?_⟩
   rw[aN,sU (by omega),<- aN]
   exact u6 _ hi [] []
  have N3:(gX m s.1 l p++[l]).getD s.1.length []=l:=by
   rw[aN,pZ (by omega),nl,JO];rfl
  have le:(gX m s.1 l p++[l]).length=s.1.length+1:=by rw[eO,nl];rfl
  refine⟨λi=>if i<s.1.length then H i else p,⟨λi j hi hj=>?_,λi hi t ht=>?_,λi j zC hj=>?_,λi hi=>?_⟩,λr hr t ht=>?_⟩
  ·show cf ((gX m s.1 l p++[l]).getD i []) _=_
   dsimp only at hi hj ⊢
   rw[le]at hi hj
   by_cases h1:i<s.1.length
   ·obtain⟨r,r1,r2,r3,r4⟩:=N2 i h1
    rw[r4]
    by_cases h2:j<s.1.length
    ·rw[if_pos h2,(zB r2 r3).1 _ (I.l j h2),<- r1]
     exact I.u i j h1 h2
    ·rw[if_neg h2,(zB r2 r3).2,if_neg (by omega)]
   ·have e1:i=s.1.length:=by omega
    rw[e1,N3]
    by_cases h2:j<s.1.length
    ·rw[if_pos h2,lz _ (I.l j h2),if_neg (by omega)]
    ·rw[if_neg h2,l4,if_pos (by omega)]
  ·dsimp only at hi ht ⊢
   rw[le]at hi
   by_cases h1:i<s.1.length
   ·rw[if_pos h1]at ht
    obtain⟨r,r1,r2,r3,r4⟩:=N2 i h1
    rw[r4,(zB r2 r3).1 _ (by have:=I.l i h1;omega),<- r1]
    exact I.z i h1 t ht
   ·rw[if_neg h1]at ht
    have e1:i=s.1.length:=by omega
    rw[e1,N3];exact lz t ht
  ·dsimp only at hj ⊢
   rw[le]at hj
   rw[if_pos (by omega)]
   by_cases h2:j<s.1.length
   ·rw[if_pos h2];exact I.i i j zC h2
   ·rw[if_neg h2];exact I.l i (by omega)
  ·dsimp only at hi ⊢
   rw[le]at hi
   split
   ·have:=I.l i (by omega);omega
   ·omega
  ·obtain⟨r1,CK,rfl⟩:=bw.mp hr
   obtain⟨a1,a2⟩:=h.b r1 (CJ CK)
   rcases D6 t p with h1 | h1
   ·rw[(zB a1 a2).1 t h1];exact e2 _ (CJ CK) t h1
   ·rw[show t=p by omega];exact(zB a1 a2).2
theorem N4{m:Bool × Nat}(hm:m∈aw){w:Nat}{G:List (List Nat)}(h:RT (aa m) w G):∀k,(∃H,RR k (jB m G k).1 H/\∀r∈(jB m G k).2,∀t,t<k->cf r t=0)/\∀f,bX m G f↔bX m ((jB m G k).1++(jB m G k).2) f
 | 0=>⟨⟨λ_=>0,⟨(λ_ _ h=>nomatch h),(λ_ h=>nomatch h),(λ_ _ _ h=>nomatch h),(λ_ h=>nomatch h)⟩,λr _ t ht=>nomatch ht⟩,λf=>.rfl⟩
 | k+1=>by
  obtain⟨⟨H,h1,h2⟩,h3⟩:=N4 hm h k
  have D:=zy hm h k
  rw[GI]
  exact⟨bB9 hm D h1 h2,λf=>(h3 f).trans (bK5 hm D f)⟩
theorem ka{m:Bool × Nat}(hm:m∈aw){G:List (List Nat)}(h:RT (aa m) (ai G) G):(∃H,RR (ai G) (bh m G) H)/\RT (aa m) (ai G) (bh m G)/\(bh m G).length<=G.length/\∀f,bX m G f↔bX m (bh m G) f:=by
 obtain⟨⟨H,h1,h2⟩,h3⟩:=N4 hm h (ai G)
 have D:=zy hm h (ai G)
 refine⟨⟨H,h1⟩,D.a,by have:=D.l;show(jB m G (ai G)).1.length<=_;omega,λf=>(h3 f).trans ⟨Sp.trans ?_,Sp.trans ?_⟩⟩
 ·rintro f ⟨r,hr,rfl⟩
  rcases bY.mp hr with hr | hr
  ·exact bX.of hr
  ·have:cf r=λ_=>0:=funext λt=>by
    rcases D6 t (ai G)with h4 | h4
    ·exact h2 r hr t h4
    ·exact wW (by rw[(D.b r hr).1];exact h4)
   rw[this];exact .zero
 ·rintro f ⟨r,hr,rfl⟩
  exact bX.of (eN _ hr)
theorem m3{N:Nat}{p q:Nat->Nat->Nat}(r:Rg N p q){f:Nat->Nat}{j0:Nat}(hf:f j0<N):∀{n:Nat},j0<n->(∀j,j<n->j≠j0->f j=0)->sm p n f=f j0
 | 0,h,_=>nomatch h
 | n+1,h,hz=>by
  rw[sm]
  by_cases e:j0=n
  ·subst e
   rw[fW r λj hj=>hz j (by omega) (by omega),r.z hf]
  ·rw[m3 r hf (by omega) λj hj=>hz j (by omega),hz n (by omega) (by omega),r.z' hf]
theorem bX.sum{m:Bool × Nat}(hm:m∈aw){w:Nat}{R:List (List Nat)}(hR:RT (aa m) w R){f:Nat->Nat}(s:bX m R f):∃c:Nat->Nat,(∀i,c i<aa m)/\∀k,f k=sm (gp m) R.length λi=>gm m (c i) (cf (R.getD i []) k):=by
 have r:=rg hm
 have m0:=bM m hm
 have l1:=lo1 hm
 induction s with
 | mem a =>
  obtain⟨x,hx,rfl⟩:=a
  obtain⟨i,hi,rfl⟩:=gI hx
  have ei:R[i]=R.getD i []:=by rw[aN,aM hi];rfl
  refine⟨λj=>if j=i then 1 else 0,λj=>by dsimp only;split<;>omega,λk=>?_⟩
  refine((m3 r (f:=λa=>gm m (if a=i then 1 else 0) (cf (R.getD a []) k)) (j0:=i) (bC hm _ _) hi λj hj hn=>?_).trans ?_).symm
  ·rw[if_neg hn,fj m _ m0]
  ·rw[if_pos rfl,ei]
   exact pz (dh hm (hR _ (dH hi [])).2 k)
 | zero=>exact⟨λ_=>0,λ_=>r.pos,λk=>(fW r λj _=>fj m _ m0).symm⟩
 | add _ _ a b =>
  obtain⟨c,hc,a⟩:=a
  obtain⟨d,hd,b⟩:=b
  refine⟨λi=>gp m (c i) (d i),λi=>r.lp (hc i) (hd i),λk=>?_⟩
  dsimp only
  rw[a k,b k,<- mY r]
  refine cA λj _=>?_
  rw[r.mc (gp m _ _),r.dl,r.mc _ (cf _ k),r.mc _ (cf _ k)]
 | mul e he _ a =>
  obtain⟨c,hc,a⟩:=a
  refine⟨λi=>gm m e (c i),λi=>bC hm _ _,λk=>?_⟩
  dsimp only
  rw[a k,<- pE r]
  refine cA λj _=>?_
  rw[ig m0]
theorem bX.ann{m:Bool × Nat}(hm:m∈aw){R:List (List Nat)}{n:Nat}{y:Nat->Nat}(h:∀x∈R,sm (gp m) n (λj=>gm m (cf x j) (y j))=0){f:Nat->Nat}(s:bX m R f):sm (gp m) n (λj=>gm m (f j) (y j))=0:=by
 have r:=rg hm
 have m0:=bM m hm
 induction s with
 | mem a=>obtain⟨x,hx,rfl⟩:=a;exact h x hx
 | zero=>exact fW r λj _=>fj m _ m0
 | @add f g _ _ a b =>
  rw[cA (g:=λj=>gp m (gm m (f j) (y j)) (gm m (g j) (y j))) λj _=>by dsimp only;rw[r.mc (gp m _ _),r.dl,r.mc (y j),r.mc (y j)],mY r,a,b,r.z r.pos]
 | @mul f e he _ a =>
  rw[cA (g:=λj=>gm m e (gm m (f j) (y j))) λj _=>ig m0 _ _ _,pE r,a,r.qz]
theorem RR.CL{m:Bool × Nat}(hm:m∈aw){w:Nat}{R:List (List Nat)}{H:Nat->Nat}(hR:RT (aa m) w R)(I:RR w R H){i:Nat}(hi:i<R.length):(R.getD i []).findIdx (· != 0)=H i/\∃x∈R.getD i [],x≠0:=by
 have a:=(hR _ (dH hi [])).1
 have l:=I.l i hi
 have u:=I.u i i hi hi
 rw[if_pos rfl]at u
 have eu:(R.getD i [])[H i]'(by omega)=1:=by
  unfold cf at u
  rw[aN (l:=R.getD i []),aM (by omega)]at u
  exact u
 refine⟨?_,_,dE (show H i<(R.getD i []).length by omega),by rw[eu];decide⟩
 rw[List.findIdx_eq (by omega)]
 refine⟨by rw[eu];rfl,λj hj=>?_⟩
 have z:=I.z i hi j hj
 unfold cf at z
 rw[aN (l:=R.getD i []),aM (by omega)]at z
 simpa using z
theorem N5{a b:List Nat}{w:Nat}(ha:a.length=w)(hb:b.length=w)(h:∀k,k<w->cf a k=cf b k):a=b:=by
 refine AO (ha.trans hb.symm) λk h1 h2=>?_
 have:=h k (by omega)
 unfold cf at this
 rw[aN,aN,aM h1,aM h2]at this
 exact this
theorem GX(f:Nat->Nat){w k:Nat}(h:k<w):cf ((aL w).map f) k=f k:=by
 unfold cf
 rw[aN,cu,kR h];rfl
theorem pI(m:Bool × Nat){xs ys:List Nat}(h:xs.length=ys.length):gd m xs ys=sm (gp m) xs.length λj=>gm m (cf xs j) (cf ys j):=by
 unfold gd
 rw[b17,jJ,h,AI]
 refine cA λj hj=>?_
 unfold cf
 rw[aN,nC,aM (by omega),aM (by omega),aN,aM (by omega),aN,aM (by omega)]
 rfl
noncomputable def lY(m:Bool × Nat)(xs:List Nat)(T:List (List Nat))(w:Nat):List Nat:=(aL w).map λk=>gd m xs (T.map λr=>r.getD k 0)
theorem N6{T:List (List Nat)}(k i:Nat):cf (T.map λr=>r.getD k 0) i=cf (T.getD i []) k:=by
 by_cases h:i<T.length
 ·exact u6 (λr:List Nat=>r.getD k 0) h [] 0
 ·rw[wW (by rw[bq];omega),aN,gn (by omega)];rfl
theorem GY(m:Bool × Nat)(xs:List Nat)(T:List (List Nat))(w:Nat):(lY m xs T w).length=w:=by unfold lY;rw[bq,bV]
theorem N7(m:Bool × Nat){xs:List Nat}{T:List (List Nat)}{w k:Nat}(h:xs.length=T.length)(hk:k<w):cf (lY m xs T w) k=sm (gp m) T.length λi=>gm m (cf xs i) (cf (T.getD i []) k):=by
 unfold lY
 rw[GX _ hk,pI m (by rw[bq,h]),h]
 exact cA λj _=>by rw[N6]
theorem cr6{m:Bool × Nat}(hm:m∈aw){xs ys:List Nat}(h:xs.length=ys.length):gd m xs ys<aa m:=by
 rw[pI m h];exact j7 (rg hm) λj _=>bC hm _ _
theorem N8{m:Bool × Nat}(hm:m∈aw){xs:List Nat}{T:List (List Nat)}(w:Nat)(h:xs.length=T.length):AllLt (aa m) (lY m xs T w):=λx hx=>by
 obtain⟨k,_,rfl⟩:=bw.mp hx
 exact cr6 hm (by rw[bq,h])
noncomputable def aX(r:List Nat):Nat:=r.findIdx (· != 0)
theorem CM{α:Type}(a b:α->Nat){j:Nat}:∀(l:List α) (x:List Nat),(∀z∈l,a z≠j)->cf (l.foldl (λx z=>x.set (a z) (b z)) x) j=cf x j
 | [],_,_=>rfl
 | z::l,x,h=>by
  rw[vD,CM a b l _ λy hy=>h y (ft _ hy)]
  unfold cf
  rw[aN,sT (h z gj),<- aN]
theorem N9{α:Type}(a b:α->Nat):∀(l:List α) (x:List Nat),l.Pairwise (λy z=>a y≠a z)->∀z∈l,a z<x.length->cf (l.foldl (λx z=>x.set (a z) (b z)) x) (a z)=b z
 | [],_,_,_,h,_=>nomatch h
 | y::l,x,hp,z,hz,hl=>by
  rw[vD]
  rw[xQ]at hp
  rcases bR.mp hz with rfl | hz
  ·rw[CM a b l _ λy hy=>e7 (hp.1 y hy)]
   unfold cf
   rw[aN,Av hl];rfl
  ·exact N9 a b l _ hp.2 z hz (by rw[sX];exact hl)
theorem Oa{α:Type}(a b:α->Nat):∀(l:List α) (x:List Nat),(l.foldl (λx z=>x.set (a z) (b z)) x).length=x.length
 | [],_=>rfl
 | z::l,x=>by rw[vD,Oa a b l,sX]
theorem cC5{m:Bool × Nat}(hm:m∈aw):∃e,e<aa m/\gp m 1 e=0/\e≠0/\∀{a b},a<aa m->b<aa m->(gp m a (gm m b e)=0↔a=b):=by
 have r:=rg hm
 obtain⟨e,he,h⟩:=r.ng (lo1 hm)
 refine⟨e,he,h,λz=>?_,λ{a b} ha hb=>?_⟩
 ·rw[z,r.z' (lo1 hm)]at h;omega
 ·have k:gp m b (gm m b e)=0:=by
   have:=r.dl b 1 e
   rw[h,r.qz,mV hb]at this
   exact this.symm
  exact⟨λh1=>r.NH ha hb (bC hm b e) (h1.trans k.symm),λh1=>h1 ▸ k⟩
noncomputable def eK(T:List (List Nat)):List (List Nat):=(aL (ai T)).map λj=>T.map λr=>r.getD j 0
theorem Ob{T:List (List Nat)}{a:Nat}(h:a<ai T):(eK T).getD a []=T.map λr=>r.getD a 0:=by
 unfold eK
 rw[aN,cu,kR h];rfl
theorem GZ{N:Nat}{T:List (List Nat)}(h0:0<N)(hw:0<ai T)(hT:RT N (ai T) T):(eK T).length=ai T/\ai (eK T)=T.length/\RT N T.length (eK T):=by
 have a:(eK T).length=ai T:=by unfold eK;rw[bq,bV]
 have c:RT N T.length (eK T):=λr hr=>by
  obtain⟨j,_,rfl⟩:=bw.mp hr
  refine⟨bq _,λx hx=>?_⟩
  obtain⟨y,hy,rfl⟩:=bw.mp hx
  exact(hT y hy).2.getD h0 j
 refine⟨a,?_,c⟩
 have:=Ob hw
 have e:ai (eK T)=((eK T).getD 0 []).length:=by
  unfold ai
  cases eK T<;>rfl
 rw[e,this,bq]
end L3
namespace L3
open PySem L2 Mf
noncomputable def bS(T:List (List Nat))(w:Nat):List Nat:=(aL w).filter λj=>!(T.map aX).contains j
noncomputable def dJ(m:Bool × Nat)(T:List (List Nat))(w f:Nat):List Nat:=(((T.map aX).zip T).foldl (λx z=>x.set z.1 (br m 0 (z.2.getD f 0))) ((aV w 0).set f 1))
noncomputable def gY(m:Bool × Nat)(T:List (List Nat))(w:Nat):List (List Nat):=(bS T w).map (dJ m T w)
theorem RR.heads{m:Bool × Nat}(hm:m∈aw){w:Nat}{R:List (List Nat)}{H:Nat->Nat}(hR:RT (aa m) w R)(I:RR w R H):R.map aX=(aL R.length).map H:=by
 refine AO (by rw[bq,bq,bV]) λi h1 h2=>?_
 rw[bq]at h1
 rw[tf,tf,AS,<- (I.CL hm hR h1).1,aN,aM h1];rfl
theorem RR.mem{m:Bool × Nat}(hm:m∈aw){w:Nat}{R:List (List Nat)}{H:Nat->Nat}(hR:RT (aa m) w R)(I:RR w R H)(j:Nat):j∈R.map aX↔∃i,i<R.length/\H i=j:=by
 rw[I.heads hm hR,bw]
 exact⟨λ⟨i,a,b⟩=>⟨i,bU.mp a,b⟩,λ⟨i,a,b⟩=>⟨i,bU.mpr a,b⟩⟩
theorem RR.free{m:Bool × Nat}(hm:m∈aw){w:Nat}{R:List (List Nat)}{H:Nat->Nat}(hR:RT (aa m) w R)(I:RR w R H)(j:Nat):j∈bS R w↔j<w/\∀i,i<R.length->H i≠j:=by
 unfold bS
 rw[nk,bU,Bool.not_eq_true',<- Bool.not_eq_true,D3,I.mem hm hR]
 exact and_congr_right λ_=>⟨λh i a b=>h ⟨i,a,b⟩,λh ⟨i,a,b⟩=>h i a b⟩
theorem RR.G0{m:Bool × Nat}(hm:m∈aw){w:Nat}{R:List (List Nat)}{H:Nat->Nat}(hR:RT (aa m) w R)(I:RR w R H):(bS R w).length+R.length=w:=by
 have nd:(R.map aX).Nodup:=by
  rw[I.heads hm hR]
  unfold List.Nodup
  rw[D7]
  intro i j hi hj zC
  rw[bq,bV]at hi hj
  rw[tf,tf,AS,AS]
  have:=I.i i j zC hj
  omega
 have pe:((aL w).filter λj=>(R.map aX).contains j).Perm (R.map aX):=by
  refine(VS (JP _ AU) nd).mpr λj=>?_
  rw[nk,D3,bU]
  refine⟨λh=>h.2,λh=>⟨?_,h⟩⟩
  obtain⟨i,hi,rfl⟩:=(I.mem hm hR j).mp h
  exact I.l i hi
 have l1:=pe.length_eq
 rw[bq]at l1
 have l2:=List.length_eq_countP_add_countP (λj=>(R.map aX).contains j) (l:=aL w)
 rw[bV,VT,VT,l1]at l2
 unfold bS
 have e:((aL w).filter λa=>decide ¬(R.map aX).contains a=true)=(aL w).filter λj=>!(R.map aX).contains j:=JK λx _=>by
  cases(R.map aX).contains x<;>rfl
 rw[e]at l2
 omega
theorem u7{m:Bool × Nat}(hm:m∈aw){w f:Nat}{R:List (List Nat)}{H:Nat->Nat}(hR:RT (aa m) w R)(I:RR w R H)(hf:f∈bS R w):(dJ m R w f).length=w/\AllLt (aa m) (dJ m R w f)/\cf (dJ m R w f) f=1/\(∀i,i<R.length->cf (dJ m R w f) (H i)=br m 0 (cf (R.getD i []) f))/\∀j,j≠f->(∀i,i<R.length->H i≠j)->cf (dJ m R w f) j=0:=by
 obtain⟨f1,f2⟩:=(I.free hm hR f).mp hf
 have l1:=lo1 hm
 have zl:((R.map aX).zip R).length=R.length:=by rw[AQ,bq,AI]
 have zg:∀i (h:i<R.length),((R.map aX).zip R)[i]'(by omega)=(H i,R.getD i []):=λi h=>by
  rw[List.getElem_zip,tf]
  have e:R.getD i []=R[i]:=by rw[aN,aM h];rfl
  have:=(I.CL hm hR h).1
  rw[e]at this ⊢
  exact Prod.ext this rfl
 have zm:∀z∈(R.map aX).zip R,∃i,i<R.length/\z=(H i,R.getD i []):=λz hz=>by
  obtain⟨i,hi,rfl⟩:=gI hz
  exact⟨i,by omega,zg i (by omega)⟩
 have mz:∀i,i<R.length->(H i,R.getD i [])∈(R.map aX).zip R:=λi h=>by
  rw[<-zg i h];exact dE _
 have bd:∀z∈(R.map aX).zip R,br m 0 (z.2.getD f 0)<aa m:=λz hz=>by
  obtain⟨i,hi,rfl⟩:=zm z hz
  exact(iT hm (by omega) (dh hm (hR _ (dH hi [])).2 f)).2.1
 refine⟨?_,?_,?_,λi hi=>?_,λj hj hj2=>?_⟩
 ·unfold dJ
  rw[Oa (λz:Nat × List Nat=>z.1) (λz=>br m 0 (z.2.getD f 0)),sX,fP]
 ·have key:∀(l:List (Nat × List Nat)) (x:List Nat),(∀z∈l,br m 0 (z.2.getD f 0)<aa m)->AllLt (aa m) x->AllLt (aa m) (l.foldl (λx z=>x.set z.1 (br m 0 (z.2.getD f 0))) x):=by
   intro l
   induction l with
   | nil=>exact λx _ h=>h
   | cons z l ih =>
    intro x hz h
    rw[vD]
    refine ih _ (λy hy=>hz y (ft _ hy)) λy hy=>?_
    rcases DZ hy with h1 | h1
    ·exact h y h1
    ·rw[h1];exact hz z gj
  refine key _ _ bd λx hx=>?_
  rcases DZ hx with h1 | h1
  ·rw[(s9.mp h1).2];omega
  ·omega
 ·unfold dJ
  rw[CM (λz:Nat × List Nat=>z.1) (λz=>br m 0 (z.2.getD f 0)) _ _ λz hz=>?_]
  ·unfold cf
   rw[aN,Av (by rw[fP];exact f1)];rfl
  ·obtain⟨i,hi,rfl⟩:=zm z hz
   exact f2 i hi
 ·have hp:((R.map aX).zip R).Pairwise (λy z:Nat × List Nat=>y.1≠z.1):=by
   rw[D7]
   intro i j hi hj zC
   rw[zg i (by omega),zg j (by omega)]
   have:=I.i i j zC (by omega)
   show H i≠H j
   omega
  exact N9 (λz:Nat × List Nat=>z.1) (λz=>br m 0 (z.2.getD f 0)) _ _ hp _ (mz i hi) (by rw[sX,fP];exact I.l i hi)
 ·unfold dJ
  rw[CM (λz:Nat × List Nat=>z.1) (λz=>br m 0 (z.2.getD f 0)) _ _ λz hz=>?_]
  ·unfold cf
   rw[aN,sT (e7 hj),nq]
   split<;>rfl
  ·obtain⟨i,hi,rfl⟩:=zm z hz
   exact hj2 i hi
theorem G1{N:Nat}{p q:Nat->Nat->Nat}(r:Rg N p q){f:Nat->Nat}{a b n:Nat}(ha:a<n)(hb:b<n)(hn:a≠b)(fa:f a<N)(fb:f b<N)(hz:∀j,j<n->j≠a->j≠b->f j=0):sm p n f=p (f a) (f b):=by
 have h1:=m3 r (f:=λj=>if j=a then f a else 0) (j0:=a) (n:=n) (by rw[if_pos rfl];exact fa) ha λj _ h=>if_neg h
 have h2:=m3 r (f:=λj=>if j=b then f b else 0) (j0:=b) (n:=n) (by rw[if_pos rfl];exact fb) hb λj _ h=>if_neg h
 rw[if_pos rfl]at h1 h2
 rw[<-h1,<- h2,<- mY r]
 refine cA λj hj=>?_
 by_cases ja:j=a
 ·rw[if_pos ja,if_neg (by omega),r.z' fa,ja]
 ·by_cases jb:j=b
  ·rw[if_neg ja,if_pos jb,r.z fb,jb]
  ·rw[if_neg ja,if_neg jb,hz j hj ja jb,r.z r.pos]
noncomputable def dt(m:Bool × Nat)(w:Nat)(x y:Nat->Nat):Nat:=sm (gp m) w λj=>gm m (x j) (y j)
theorem cE5{m:Bool × Nat}(hm:m∈aw)(w:Nat)(x y:Nat->Nat):dt m w x y<aa m:=j7 (rg hm) λ_ _=>bC hm _ _
theorem G2{m:Bool × Nat}(hm:m∈aw)(w:Nat)(x y z:Nat->Nat):dt m w x (λk=>gp m (y k) (z k))=gp m (dt m w x y) (dt m w x z):=by
 have r:=rg hm
 unfold dt
 rw[<-mY r]
 exact cA λj _=>r.dl _ _ _
theorem Oc{m:Bool × Nat}(hm:m∈aw)(w c:Nat)(x y:Nat->Nat):dt m w x (λk=>gm m c (y k))=gm m c (dt m w x y):=by
 have r:=rg hm
 have m0:=bM m hm
 unfold dt
 rw[<-pE r]
 exact cA λj _=>by rw[<-ig m0,fV m (x j),ig m0]
theorem G3{m:Bool × Nat}(hm:m∈aw)(w:Nat)(x:Nat->Nat)(c:Nat->Nat)(F:Nat->Nat->Nat):∀n,dt m w x (λk=>sm (gp m) n λi=>gm m (c i) (F i k))=sm (gp m) n λi=>gm m (c i) (dt m w x (F i))
 | 0=>fW (rg hm) λj _=>(rg hm).qz _
 | n+1=>by
  rw[sm,<- G3 hm w x c F n,<- Oc hm,<- G2 hm];rfl
theorem CN{m:Bool × Nat}(hm:m∈aw){w f:Nat}{R:List (List Nat)}{H:Nat->Nat}(hR:RT (aa m) w R)(I:RR w R H)(hf:f∈bS R w){i:Nat}(hi:i<R.length):dt m w (cf (R.getD i [])) (cf (dJ m R w f))=0:=by
 have r:=rg hm
 obtain⟨f1,f2⟩:=(I.free hm hR f).mp hf
 obtain⟨k1,k2,k3,k4,k5⟩:=u7 hm hR I hf
 have il:=dh hm (hR _ (dH hi [])).2
 have g:=iT hm (a:=0) r.pos (il f)
 unfold dt
 rw[G1 r (f:=λj=>gm m (cf (R.getD i []) j) (cf (dJ m R w f) j)) (a:=H i) (b:=f) (I.l i hi) f1 (f2 i hi) (bC hm _ _) (bC hm _ _) λj hj ja jb=>?_]
 ·rw[k3,k4 i hi,I.u i i hi hi,if_pos rfl,pz g.2.1,mV (il f)]
  exact g.2.2
 ·by_cases c:∃i',i'<R.length/\H i'=j
  ·obtain⟨i',h1,rfl⟩:=c
   rw[I.u i i' hi h1,if_neg (λz:i=i'=>ja (by rw[z])),fj m _ (bM m hm)]
  ·rw[k5 j jb λi' h1 h2=>c ⟨i',h1,h2⟩,r.qz]
theorem bX.dt{m:Bool × Nat}(hm:m∈aw){R:List (List Nat)}{n:Nat}{y:Nat->Nat}(h:∀i,i<R.length->dt m n (cf (R.getD i [])) y=0){f:Nat->Nat}(s:bX m R f):dt m n f y=0:=by
 refine s.ann hm λx hx=>?_
 obtain⟨i,hi,rfl⟩:=gI hx
 have:=h i hi
 rw[aN,aM hi]at this
 exact this
theorem RR.ker{m:Bool × Nat}(hm:m∈aw){w:Nat}{R:List (List Nat)}{H:Nat->Nat}(hR:RT (aa m) w R)(I:RR w R H){z:Nat->Nat}(hz:∀k,z k<aa m)(h:∀i,i<R.length->dt m w (cf (R.getD i [])) z=0){k:Nat}(hk:k<w):z k=sm (gp m) (bS R w).length λa=>gm m (z ((bS R w).getD a 0)) (cf (dJ m R w ((bS R w).getD a 0)) k):=by
 have r:=rg hm
 have m0:=bM m hm
 obtain⟨e,e1,e2,e3,e4⟩:=cC5 hm
 let z':=λk=>sm (gp m) (bS R w).length λa=>gm m (z ((bS R w).getD a 0)) (cf (dJ m R w ((bS R w).getD a 0)) k)
 have zD:∀k,z' k<aa m:=λk=>j7 r λ_ _=>bC hm _ _
 let d:=λk=>gp m (z k) (gm m e (z' k))
 have dk:∀k,d k=0↔z k=z' k:=λk=>by
  show gp m (z k) (gm m e (z' k))=0↔_
  rw[fV m e]
  exact e4 (hz k) (zD k)
 have dz:∀i,i<R.length->dt m w (cf (R.getD i [])) d=0:=λi hi=>by
  show dt m w (cf (R.getD i [])) (λk=>gp m (z k) (gm m e (z' k)))=0
  rw[G2 hm,Oc hm,h i hi,G3 hm,fW r λa ha=>?_,r.qz,r.z r.pos]
  rw[CN hm hR I (dH ha 0) hi,r.qz]
 have zf:∀f,f∈bS R w->z' f=z f:=λf hf=>by
  obtain⟨a,ha,rfl⟩:=gI hf
  have ea:(bS R w)[a]=(bS R w).getD a 0:=by rw[aN,aM ha];rfl
  show sm (gp m) (bS R w).length (λb=>gm m (z ((bS R w).getD b 0)) (cf (dJ m R w ((bS R w).getD b 0)) _))=_
  rw[ea,m3 r (f:=λb=>gm m (z ((bS R w).getD b 0)) (cf (dJ m R w ((bS R w).getD b 0)) ((bS R w).getD a 0))) (bC hm _ _) ha λb hb hn=>?_]
  ·rw[(u7 hm hR I (dH ha 0)).2.2.1,mV (hz _)]
  ·have nd:(bS R w).Nodup:=JP _ AU
   rw[(u7 hm hR I (dH hb 0)).2.2.2.2 _ ?_ ((I.free hm hR _).mp (dH ha 0)).2,r.qz]
   intro c
   rw[aN,aM ha,aN,aM hb]at c
   exact hn ((Jj nd).mp (c9 (congrArg some c))).symm
 have key:d k=0:=by
  by_cases c:∃i,i<R.length/\H i=k
  ·obtain⟨i,hi,rfl⟩:=c
   have:=dz i hi
   unfold dt at this
   rw[m3 r (f:=λj=>gm m (cf (R.getD i []) j) (d j)) (j0:=H i) (bC hm _ _) hk λj hj hn=>?_,I.u i i hi hi,if_pos rfl,pz (r.lp (hz _) (bC hm _ _))]at this
   ·exact this
   ·by_cases c:∃i',i'<R.length/\H i'=j
    ·obtain⟨i',h1,rfl⟩:=c
     rw[I.u i i' hi h1,if_neg (λz:i=i'=>hn (by rw[z])),fj m _ m0]
    ·have hf:=(I.free hm hR j).mpr ⟨hj,λi' h1 h2=>c ⟨i',h1,h2⟩⟩
     have:d j=0:=(dk j).mpr (zf j hf).symm
     rw[this,r.qz]
  ·have hf:=(I.free hm hR k).mpr ⟨hk,λi' h1 h2=>c ⟨i',h1,h2⟩⟩
   exact(dk k).mpr (zf k hf).symm
 exact(dk k).mp key
theorem u9{N n:Nat}{M:List (List Nat)}(h:RT N n M)(h0:M≠[]):ai M=n:=by
 cases M with
 | nil=>exact absurd rfl h0
 | cons g M=>exact(h g gj).1
theorem Od{m:Bool × Nat}(hm:m∈aw){n:Nat}{M:List (List Nat)}(h:RT (aa m) n M)(hl:M.length<n):∃(x:Nat->Nat) (f:Nat),f<n/\(∀k,x k<aa m)/\x f=1/\∀i,i<M.length->dt m n (cf (M.getD i [])) x=0:=by
 by_cases h0:M=[]
 ·subst h0
  exact⟨λ_=>1,0,hl,λ_=>lo1 hm,rfl,λi hi=>nomatch hi⟩
 ·have hw:=u9 h h0
  obtain⟨⟨H,I⟩,iR,il,sp⟩:=ka hm (G:=M) (by rw[hw];exact h)
  rw[hw]at I iR
  have fl:=I.G0 hm iR
  have f0:0<(bS (bh m M) n).length:=by omega
  have hf:=dH f0 0
  obtain⟨k1,k2,k3,k4,k5⟩:=u7 hm iR I hf
  refine⟨cf (dJ m (bh m M) n ((bS (bh m M) n).getD 0 0)),_,((I.free hm iR _).mp hf).1,dh hm k2,k3,λi hi=>?_⟩
  exact bX.dt hm (λi' gL=>CN hm iR I hf gL) ((sp _).mp (bX.of (dH hi [])))
theorem RR.G4{m:Bool × Nat}(hm:m∈aw){w v:Nat}{S R:List (List Nat)}{H:Nat->Nat}(hS:RT (aa m) w S)(I:RR w S H)(hR:RT (aa m) v R)(h:∀i,i<S.length->bX m R (cf (S.getD i []))):S.length<=R.length:=by
 have r:=rg hm
 refine Jn λhl=>?_
 have hc:∀i,∃c:Nat->Nat,i<S.length->(∀j,c j<aa m)/\∀k,cf (S.getD i []) k=sm (gp m) R.length λj=>gm m (c j) (cf (R.getD j []) k):=λi=>by
  by_cases hi:i<S.length
  ·obtain⟨c,a,b⟩:=(h i hi).sum hm hR
   exact⟨c,λ_=>⟨a,b⟩⟩
  ·exact⟨λ_=>0,λz=>absurd z hi⟩
 obtain⟨C,hC⟩:=Classical.axiomOfChoice hc
 have cl:∀i,i<S.length->∀j,C i j<aa m:=λi hi=>(hC i hi).1
 obtain⟨x,f,f1,x1,x2,x3⟩:=Od hm (n:=S.length) (M:=(aL R.length).map λj=>(aL S.length).map λi=>C i j) (λy hy=>by
  obtain⟨j,_,rfl⟩:=bw.mp hy
  refine⟨by rw[bq,bV],λz hz=>?_⟩
  obtain⟨i,hi,rfl⟩:=bw.mp hz
  exact cl i (bU.mp hi) j) (by rw[bq,bV];exact hl)
 rw[bq,bV]at x3
 have x4:∀j,j<R.length->sm (gp m) S.length (λi=>gm m (C i j) (x i))=0:=λj hj=>by
  rw[<-x3 j hj]
  refine cA λi hi=>?_
  rw[u6 (λj=>(aL S.length).map λi=>C i j) (by rw[bV];exact hj) 0 [],GX _ hi,aN,kR hj];rfl
 have x5:∀k,sm (gp m) S.length (λi=>gm m (x i) (cf (S.getD i []) k))=0:=λk=>by
  rw[cA (g:=λi=>sm (gp m) R.length λj=>gm m (gm m (C i j) (x i)) (cf (R.getD j []) k)) λi hi=>?_,NI r,fW r λj hj=>?_]
  ·rw[cA (g:=λi=>gm m (cf (R.getD j []) k) (gm m (C i j) (x i))) λi hi=>fV m _ _,pE r,x4 j hj,r.qz]
  ·rw[(hC i hi).2 k,<- pE r]
   exact cA λj _=>by rw[<-ig (bM m hm),fV m (x i)]
 have:=x5 (H f)
 rw[m3 r (f:=λi=>gm m (x i) (cf (S.getD i []) (H f))) (bC hm _ _) f1 λj hj hn=>by rw[I.u j f hj f1,if_neg hn,r.qz],I.u f f f1 f1,if_pos rfl,x2,pz (lo1 hm)]at this
 omega
theorem cg7{m:Bool × Nat}(hm:m∈aw){v:Nat}{G R:List (List Nat)}(hG:RT (aa m) (ai G) G)(hR:RT (aa m) v R)(h:∀i,i<G.length->bX m R (cf (G.getD i []))):(bh m G).length<=R.length:=by
 obtain⟨⟨H,I⟩,iR,il,sp⟩:=ka hm hG
 refine I.G4 hm iR hR λi hi=>?_
 refine Sp.trans (λf hf=>?_) ((sp _).mpr (bX.of (dH hi [])))
 obtain⟨x,hx,rfl⟩:=hf
 obtain⟨i,hi,rfl⟩:=gI hx
 have:=h i hi
 rw[aN,aM hi]at this
 exact this
theorem G5{T:List (List Nat)}{i:Nat}(h:i<T.length):T.getD i []=T[i]:=by rw[aN,aM h];rfl
theorem bX.red{m:Bool × Nat}(hm:m∈aw){G:List (List Nat)}(hG:RT (aa m) (ai G) G){f:Nat->Nat}(h:bX m G f):bX m (bh m G) f:=((ka hm hG).2.2.2 f).mp h
end L3
namespace L3
open PySem L2 PySem.Spec PyProof.Rows
section
variable{X:Cx}{F H:Hp}{e b:Expr}{pos pos' p p2 p3 apos cj:Pos}{ti te:aO}{x y:Str}{i j:Nat}
end
section
variable{X:Cx}
end
section
variable{X:Cx}{es:List Expr}{tr:cm}{pos:Pos}
theorem G6(h:PA X es (lA tr)):PE X (.List es pos) (lB (n8 tr)) :=
 dF (Kn h) λσ H Q zq=>by
 obtain⟨B,F,δ,ts,Qd,c,q,k⟩:=zq
 exact⟨B,F,δ,ts,_,c,q,λds aj vs F1 H1 q1 f1 h1 c1 s1=>⟨by rw[<-s1.length];exact q1.1,λp hp=>k _ aj _ F1 _ q1.2 f1 (h1.trans (af.upd hp)) (c1.grow (af.upd hp)) (.own bI (s1.mono (af.refl _) (af.upd hp)) .nil)⟩⟩
end
end L3
namespace L3
open PySem L2 Mf
end L3
namespace L3
open PySem L2 Mf
theorem cm2{m:Bool × Nat}(hm:m∈aw){G:List (List Nat)}(hG:RT (aa m) (ai G) G){f:Nat}(hf:f∈bS (bh m G) (ai G)):∀r∈G,dt m (ai G) (cf r) (cf (dJ m (bh m G) (ai G) f))=0:=λr hr=>by
 obtain⟨⟨H,I⟩,iR,il,sp⟩:=ka hm hG
 exact bX.dt hm (λi hi=>CN hm iR I hf hi) ((sp _).mp (bX.of hr))
end L3
namespace L3
open PySem L2 Mf
theorem cu5{r:List Nat}{k v:Nat}(hk:k<r.length)(j:Nat):cf (r.set k v) j=if j=k then v else cf r j:=by
 unfold cf
 rw[aN,List.getElem?_set,aN]
 by_cases h:k=j
 ·subst h
  rw[if_pos rfl,if_pos rfl,if_pos hk];rfl
 ·rw[if_neg h,if_neg (e7 h)]
end L3
namespace L2
open PySem PySem.Spec PyProof.Rows
section
variable{X:Cx}
theorem Oe:∀{ns:List Int} {its:List Value},Vals (ns.map V.int) its->ns.length=its.length/\∀(i:Nat) (v:Value),its[i]?=some v->∃n t,ns[i]?=some n/\v=pV n t
 | [],_,r=>by cases r;exact⟨rfl,λi v h=>by simp at h⟩
 | n::ns,_,r=>by
  cases r with
  | cons a b =>
   obtain⟨h1,h2⟩:=Oe b
   obtain⟨t,rfl⟩:=a
   refine⟨by simp[h1],λi v h=>?_⟩
   cases i with
   | zero=>simp at h;exact⟨n,t,rfl,h.symm⟩
   | succ i=>simpa using h2 i v (by simpa using h)
theorem bP5(hc:X.calm=true):gu X (.builtin "any") (λxs H Q=>∃(p:Addr) (ns:List Int),xs=[.ref p]/\bG X.K H p (ns.map V.int)/\Q (.bl (ns.any (· != 0))) H):=by
 intro pins s σ H xs us Q I r h
 obtain⟨p,ns,rfl,hS,q⟩:=h
 obtain⟨u,rfl,ru⟩:=r.one
 cases ru
 obtain⟨its,rv,pl,hz⟩:=I.list hS
 obtain⟨hlen,yq⟩:=Oe rv
 have hl:=pl.isList
 have fg:p<s.heap.objs.size:=by obtain⟨_,e,_⟩:=hl;exact bD e
 refine call_any_walk (wpAny_pyIter_list hl ?_)
 refine⟨s.heap.objs.size,[s.heap.objs.size,p],[s.heap.objs.size],its.toArray.size,_,_,λi=>((ns.map (· != 0))[i]?).getD false,rfl,DQ (A:=X.A.in1) (I.ok.hd hc) _ p (dN fg) its.toArray,
  ⟨⟨_,gG _ rfl,rfl,rfl⟩,hl.push _⟩,λi v s' Q' E' hP hQ=>?_,λh' tk hk=>?_⟩
 ·obtain⟨n,t,e,rfl⟩:=yq i v (by simpa using hP)
  simp only[cu,e,tu,nz]at hQ
  exact PyProof.Rows.truthy_int hQ
 ·have e:((aL its.toArray.size).any λi=>((ns.map (· != 0))[i]?).getD false)=(ns.map (· != 0)).any id:=by
   rw[dU,<- hlen,<- bq (f:=(· != 0)) (as:=ns)];exact Ln _
  rw[e,List.any_map]
  exact⟨.bl _,H,I.kept (h':=h') (t':=tk) (BB hk),rfl,q⟩
end
end L2
namespace L3
open PySem L2 PySem.Spec PyProof.Rows
section
variable{X:Cx}
noncomputable def pJ:jv:=λds Q=>match ds with
 | [.lst _ xs]=>∃ns,xs=aJ ns/\Q (.bl (ns.any (· != 0)))
 | _=>False
theorem Of(hc:X.calm=true):gz X (.builtin "any") pJ:=gz.of (bP5 hc) λvs H Q zz=>by
 obtain⟨B,F,σ,δ,ts,ds,Qd,c,s,q,k⟩:=zz
 unfold pJ at q
 split at q
 ·obtain⟨v,rfl,s1⟩:=kF s
  obtain⟨ns,rfl,q⟩:=q
  obtain⟨p,ws,rfl,h,t⟩:=lh s1 c.ext rfl
  rw[Ge t]at h
  exact⟨p,ns,rfl,jZ h,k _ _ _ q (af.refl _) (c.pushS (.bl .nil) rfl)⟩
 ·exact q.elim
end
end L3
namespace L2
open PySem PySem.Spec PyProof.Rows
section
variable{X:Cx}{a:Expr}{ta:TE}{p p2 pos CO:Pos}
end
end L2
namespace L3
open PySem L2 PySem.Spec PyProof.Rows
section
variable{X:Cx}{a:Expr}{t:aO}{p p2 pos CO:Pos}
end
end L3
namespace L3
open PySem L2 PySem.Spec PyProof.Rows
section
variable{F H:Hp}
end
section
variable{X:Cx}{e:Expr}{t:aO}{p2 pos:Pos}
end
end L3
namespace L3
open PySem L2 PySem.Spec PyProof.Rows
section
variable{F H:Hp}
end
section
variable{P:Program}{w:World}{K:PySem.W.Frag}{mg:Str->Option Value}{base:Heap}
end
section
variable{X:Cx}{CX:eP}{n i:Nat}{f:Addr}{fd:FuncData}{ps:List Str}{sp:aW}{E:XK}{fn x:Str}{e:Expr}{te:aO}{p p2 pos pos' CO:Pos}
end
end L3
namespace L2
section
variable{α:Type}{P:List α->Prop}
theorem cx4(h:P []):∀us:List α,us.length=0->P us:=by
 intro us hl;rcases us with _ | ⟨a,t⟩
 ·exact h
 ·cases hl
theorem G7(h:∀a,P [a]):∀us:List α,us.length=1->P us:=by
 intro us hl;rcases us with _ | ⟨a,t⟩
 ·cases hl
 ·exact cx4 (P:=λt=>P (a::t)) (h a) t (vJ hl)
theorem G8(h:∀a b,P [a,b]):∀us:List α,us.length=2->P us:=by
 intro us hl;rcases us with _ | ⟨a,t⟩
 ·cases hl
 ·exact G7 (P:=λt=>P (a::t)) (h a) t (vJ hl)
theorem G9(h:∀a b c,P [a,b,c]):∀us:List α,us.length=3->P us:=by
 intro us hl;rcases us with _ | ⟨a,t⟩
 ·cases hl
 ·exact G8 (P:=λt=>P (a::t)) (h a) t (vJ hl)
theorem CP(h:∀a b c d,P [a,b,c,d]):∀us:List α,us.length=4->P us:=by
 intro us hl;rcases us with _ | ⟨a,t⟩
 ·cases hl
 ·exact G9 (P:=λt=>P (a::t)) (h a) t (vJ hl)
theorem Og(h:∀a b c d e,P [a,b,c,d,e]):∀us:List α,us.length=5->P us:=by
 intro us hl;rcases us with _ | ⟨a,t⟩
 ·cases hl
 ·exact CP (P:=λt=>P (a::t)) (h a) t (vJ hl)
theorem Oh(h:∀a b c d e f,P [a,b,c,d,e,f]):∀us:List α,us.length=6->P us:=by
 intro us hl;rcases us with _ | ⟨a,t⟩
 ·cases hl
 ·exact Og (P:=λt=>P (a::t)) (h a) t (vJ hl)
end
end L2
namespace L3
open PySem L2 PySem.Spec PyProof.Rows
section
variable{B:Bs}{F H:Hp}{σ:L2.St}{δ:Dl}{ts:List (D × V)}
end
section
variable{X:Cx}{elt iter tg:Expr}{pos:Pos}{scope:Scope}{cl:List (Str × Addr)}{ti:i5}{te:aO}{g:iJ}
end
end L3
namespace L2
open PySem PySem.Spec PyProof.Rows
section
variable{X:Cx}
end
end L2
namespace L3
open PySem L2 PySem.Spec PyProof.Rows
section
variable{X:Cx}
end
end L3
namespace L3
open PySem L2 Mf
theorem zE{m:Bool × Nat}(hm:m∈aw){a b:Nat}(ha:a<aa m)(hb:b<aa m):gm m a b=0↔a=0\/b=0:=by
 constructor
 ·intro h
  by_cases a0:a=0
  ·exact .inl a0
  ·by_cases b0:b=0
   ·exact .inr b0
   ·exact absurd h (cB8 hm (by omega) ha (by omega) hb)
 ·rintro (rfl | rfl)
  ·exact fj m _ (bM m hm)
  ·exact gA m _ (bM m hm)
theorem Oi{m:Bool × Nat}(hm:m∈aw)(x:Nat->Nat)(hx:∀j,x j<aa m):∀(n:Nat) (c:Nat->Nat),(∀j,c j<aa m)->(∀i j,i<n->j<n->x i=x j->i=j)->(∀i,i<n->sm (gp m) n (λj=>gm m (c j) (px m (x j) i))=0)->∀j,j<n->c j=0
 | 0,_,_,_,_,j,hj=>absurd hj (by omega)
 | n+1,c,hc,hd,h,j,hj=>by
  have r:=rg hm
  have h0:=bM m hm
  have cT:=lo1 hm
  have dn:∀j,br m (x j) (x n)<aa m/\gp m (br m (x j) (x n)) (x n)=x j:=λj=>(iT hm (hx j) (hx n)).2
  have key:∀i,i<n->sm (gp m) n (λj=>gm m (gm m (c j) (br m (x j) (x n))) (px m (x j) i))=0:=λi hi=>by
   have h1:=h (i+1) (by omega)
   have hz:=h i (by omega)
   have e:∀j,gm m (c j) (px m (x j) (i+1))=gp m (gm m (gm m (c j) (br m (x j) (x n))) (px m (x j) i)) (gm m (x n) (gm m (c j) (px m (x j) i))):=λj=>by
    show gm m (c j) (gm m (px m (x j) i) (x j))=_
    have e1:gm m (px m (x j) i) (x j)=gm m (px m (x j) i) (gp m (br m (x j) (x n)) (x n)):=by rw[(dn j).2]
    rw[e1,zj h0,zj h0]
    congr 1
    ·rw[ig h0,fV m (px m (x j) i)]
    ·rw[fV m (px m (x j) i),<- ig h0,fV m (c j),ig h0]
   rw[cA λj _=>e j,mY r,pE r,hz,r.qz]at h1
   have ln:sm (gp m) n (λj=>gm m (gm m (c j) (br m (x j) (x n))) (px m (x j) i))<aa m:=j7 r λ_ _=>bC hm _ _
   rw[sm,CB,gA m _ h0,fj m _ h0,j5 ln,j5 ln]at h1
   exact h1
  have ih:=Oi hm x hx n (λj=>gm m (c j) (br m (x j) (x n))) (λ_=>bC hm _ _) (λi j hi hj=>hd i j (by omega) (by omega)) key
  have cz:∀j,j<n->c j=0:=λj hj=>by
   rcases(zE hm (hc j) (dn j).1).mp (ih j hj)with z | z
   ·exact z
   ·have:=(dn j).2
    rw[z,u0 (hx n)]at this
    exact absurd (hd n j (by omega) (by omega) this) (by omega)
  by_cases c0:j<n
  ·exact cz j c0
  ·have ej:j=n:=by omega
   subst ej
   have:=h 0 (by omega)
   rw[sm,fW r λi hi=>by rw[cz i hi,fj m _ h0]]at this
   rw[show px m (x j) 0=1 from rfl,mV (hc j),u0 (hc j)]at this
   exact this
theorem co4{xs ys:List Nat}{i:Nat}{d:D}(h:(dG (aq xs) (aq ys))[i]?=some d):∃(hi:i<xs.length) (hj:i<ys.length),d=.tup [.int (xs[i]:Nat),.int (ys[i]:Nat)]:=by
 unfold dG at h
 rw[cO,cO,AK]at h
 have hl:=(km.mp h).1
 rw[jJ]at hl
 have hi:i<xs.length:=by omega
 have hj:i<ys.length:=by omega
 rw[nC,aM hi,aM hj]at h
 exact⟨hi,hj,(c9 h).symm⟩
theorem b21(xs ys:List Nat):(dG (aq xs) (aq ys)).length=min xs.length ys.length:=by unfold dG;rw[jJ,eI,eI]
noncomputable def fJ(m:Bool × Nat)(b:Nat)(ps:List Nat)(n:Nat):List (List Nat):=(aL n).map λ(i:Nat)=>ps.map λ(p:Nat)=>eS m (((b:Int)+(i:Int))*(p:Int))
theorem Ha{m:Bool × Nat}(hm:m∈aw)(b:Nat)(ps:List Nat)(n:Nat):RT (aa m) ps.length (fJ m b ps n)/\(fJ m b ps n).length=n:=by
 refine⟨λr hr=>?_,by unfold fJ;rw[bq,bV]⟩
 obtain⟨i,_,rfl⟩:=bw.mp hr
 refine⟨by rw[bq],λx hx=>?_⟩
 obtain⟨p,_,rfl⟩:=bw.mp hx
 exact GB hm _
theorem co2{m:Bool × Nat}{b:Nat}{ps:List Nat}{n a:Nat}(ha:a<n):(fJ m b ps n).getD a []=ps.map λ(p:Nat)=>eS m (((b:Int)+(a:Int))*(p:Int)):=by
 unfold fJ
 rw[aN,cu,kR ha];rfl
theorem cu9{m:Bool × Nat}(hm:m∈aw){a b:Nat}(ha:a+1<aa m)(hb:b+1<aa m)(h:eS m (a:Int)=eS m (b:Int)):a=b:=by
 have h1:=(pB hm (a:Int)).2.2.1
 have h2:=(pB hm (b:Int)).2.2.1
 rw[h,h2,D1 (by omega) (by omega),D1 (by omega) (by omega)]at h1
 omega
end L3
namespace L3
open PySem L2 Mf
noncomputable def gB(m:Bool × Nat)(c:List Nat)(os:List (List Nat)):List (List Nat):=os.map λo =>
 (dm (λx y=>br m x (gm m (gm m (o.getD (aX c) 0) (j9 m (c.getD (aX c) 0))) y)) o c).take (aX c)++(dm (λx y=>br m x (gm m (gm m (o.getD (aX c) 0) (j9 m (c.getD (aX c) 0))) y)) o c).drop (aX c+1)
noncomputable abbrev Cs:=List Nat × List (List Nat)
noncomputable def nul(c:List Nat):Bool:=c.all (·==0)
noncomputable def gC(m:Bool × Nat)(w:Nat)(z:Cs × Nat):Cs:=(z.1.1++[w-z.1.2.length+z.2],gB m (z.1.2.getD z.2 []) (z.1.2.drop (z.2+1)))
noncomputable def fE(s:Cs):List (Cs × Nat):=(aL s.2.length).map λi=>(s,i)
noncomputable def dM(l:List Cs):List (Cs × Nat):=l.flatMap fE
noncomputable def pK(z:Cs × Nat):Bool:=nul (z.1.2.getD z.2 [])
noncomputable def va(m:Bool × Nat)(w:Nat):Nat->List Cs->Option (List Nat)
 | 0,_=>none
 | f+1,l=>if l=[]then none else match (dM l).find? pK with
  | some z=>some (z.1.1++[w-z.1.2.length+z.2])
  | none=>va m w f ((dM l).map (gC m w))
noncomputable def cY(m:Bool × Nat)(C:Nat->Nat->Nat)(ps:List Nat)(c:Nat->Nat)(k:Nat):Nat:=sm (gp m) ps.length λt=>gm m (c t) (C (ps.getD t 0) k)
noncomputable def kK(m:Bool × Nat)(C:Nat->Nat->Nat)(ps:List Nat):Prop:=∀c:Nat->Nat,(∀t,c t<aa m)->(∀k,cY m C ps c k=0)->∀t,t<ps.length->c t=0
structure Gs(m:Bool × Nat)(C:Nat->Nat->Nat)(w:Nat)(s:Cs):Prop where
 le:s.2.length<=w
 inc:s.1.Pairwise (· < ·)
 off:∀p∈s.1,p<w-s.2.length
 nx:∀j,(∀p∈s.1,p<j)->w-s.2.length<=j
 rt:∃h,RT (aa m) h s.2
 rel:∀a:Nat->Nat,(∀i,a i<aa m)->((∀k,sm (gp m) s.2.length (λi=>gm m (a i) (cf (s.2.getD i []) k))=0)↔∃c:Nat->Nat,(∀t,c t<aa m)/\∀k,gp m (sm (gp m) s.2.length λi=>gm m (a i) (C (w-s.2.length+i) k)) (cY m C s.1 c k)=0)
 ind:kK m C s.1
section
variable{m:Bool × Nat}{C:Nat->Nat->Nat}{w:Nat}
theorem cr3(hm:m∈aw)(C:Nat->Nat->Nat)(ps:List Nat)(c:Nat->Nat)(k:Nat):cY m C ps c k<aa m:=j7 (rg hm) λ_ _=>bC hm _ _
theorem CQ(hm:m∈aw)(C:Nat->Nat->Nat)(ps:List Nat)(j:Nat)(c:Nat->Nat)(k:Nat):cY m C (ps++[j]) c k=gp m (cY m C ps c k) (gm m (c ps.length) (C j k)):=by
 unfold cY
 rw[eO,p8,sm]
 congr 1
 ·refine cA λt ht=>?_
  rw[aN,sU ht,<- aN]
 ·rw[aN,pZ (bE _),JO];rfl
theorem Oj{ps:List Nat}{c c':Nat->Nat}{k:Nat}(h:∀t,t<ps.length->c t=c' t):cY m C ps c k=cY m C ps c' k:=cA λt ht=>by rw[h t ht]
theorem sE(hm:m∈aw){n i e:Nat}(hi:i<n)(a' X:Nat->Nat):sm (gp m) n (λj=>gm m (if j<i then 0 else if j=i then e else a' (j-i-1)) (X j))=gp m (sm (gp m) (n-i-1) λj=>gm m (a' j) (X (i+1+j))) (gm m e (X i)):=by
 have r:=rg hm
 have h0:=bM m hm
 obtain⟨d,rfl⟩:∃d,n=(i+1)+d:=⟨n-i-1,by omega⟩
 rw[zt r (i+1) d λ_ _=>bC hm _ _,sm,fW r λj hj=>by rw[if_pos hj,fj m _ h0],if_neg (gi _),if_pos rfl,r.z (bC hm _ _),mW]
 congr 1
 rw[show i+1+d-i-1=d by omega]
 refine cA λj hj=>?_
 rw[if_neg (by omega),if_neg (by omega),show i+1+j-i-1=j by omega]
theorem Ol{c:List Nat}:nul c=true↔∀k,cf c k=0:=by
 unfold nul
 rw[dy]
 constructor
 ·intro h k
  by_cases hk:k<c.length
  ·unfold cf
   have:=h _ (dH hk 0)
   exact beq_iff_eq.mp this
  ·exact wW (by omega)
 ·intro h x hx
  obtain⟨k,hk,rfl⟩:=gI hx
  have:=h k
  unfold cf at this
  rw[aN,aM hk]at this
  exact beq_iff_eq.mpr this
theorem Hb{c:List Nat}(h:nul c=false):aX c<c.length/\cf c (aX c)≠0:=by
 have hx:∃x∈c,(x != 0)=true:=by
  refine DN λz=>?_
  have:nul c=true:=by
   unfold nul
   rw[dy]
   intro x hx
   refine DN λy=>z ⟨x,hx,?_⟩
   simpa using y
  rw[h]at this;cases this
 have hl:aX c<c.length:=JL hx
 refine⟨hl,?_⟩
 have h2:(c[aX c] != 0)=true:=VP (xs:=c) (p:=(· != 0)) (w:=hl)
 unfold cf
 rw[aN,aM hl]
 simpa using h2
theorem cl7(hm:m∈aw){b:List Nat}{os:List (List Nat)}{h:Nat}(hb:b.length=h)(ab:AllLt (aa m) b)(lZ:RT (aa m) h os)(nb:nul b=false){a:Nat->Nat}(ha:∀i,a i<aa m) :
  (∀k,sm (gp m) os.length (λj=>gm m (a j) (cf ((gB m b os).getD j []) k))=0)↔∃e,e<aa m/\∀k,gp m (sm (gp m) os.length λj=>gm m (a j) (cf (os.getD j []) k)) (gm m e (cf b k))=0:=by
 have r:=rg hm
 have h0:=bM m hm
 have cT:=lo1 hm
 obtain⟨hp,bp⟩:=Hb nb
 have Om:=dh hm ab (aX b)
 obtain⟨iv,iv1,Oo⟩:=GH hm (a:=1) (by omega) Om bp
 have zF:j9 m (b.getD (aX b) 0)=iv:=wX hm iv1 Oo
 obtain⟨D,hD⟩:∃D:Nat->List Nat,∀j,D j=dm (λx y=>br m x (gm m (gm m ((os.getD j []).getD (aX b) 0) iv) y)) (os.getD j []) b:=⟨_,λ_=>rfl⟩
 have Oq:∀j,j<os.length->∀k,gp m (cf (D j) k) (gm m (gm m (cf (os.getD j []) (aX b)) iv) (cf b k))=cf (os.getD j []) k:=λj hj k=>by
  rw[hD]
  exact CH hm (lZ _ (dH hj [])).1 hb (lZ _ (dH hj [])).2 k
 have Dlt:∀j,j<os.length->∀k,cf (D j) k<aa m:=λj hj k=>by
  rw[hD]
  exact GW hm (lZ _ (dH hj [])).1 hb (lZ _ (dH hj [])).2 _ k
 have Dp:∀j,j<os.length->cf (D j) (aX b)=0:=λj hj=>by
  have l1:=dh hm (lZ _ (dH hj [])).2 (aX b)
  have:=Oq j hj (aX b)
  rw[ig h0,Oo,mV l1]at this
  exact r.cn (Dlt j hj _) l1 this
 have c14:∀j,j<os.length->(D j).length=h:=λj hj=>by
  rw[hD,jJ,(lZ _ (dH hj [])).1,hb,AI]
 have Hc:∀j,j<os.length->∀k,cf ((gB m b os).getD j []) k=cf (D j) (if k<aX b then k else k+1):=λj hj k=>by
  have e1:(gB m b os).getD j []=(D j).take (aX b)++(D j).drop (aX b+1):=by
   unfold gB
   rw[u6 _ hj [] [],zF,hD]
  rw[e1]
  have lt:((D j).take (aX b)).length=aX b:=by rw[jG,c14 j hj];omega
  unfold cf
  by_cases hk:k<aX b
  ·rw[if_pos hk,aN,sU (by omega),Vz hk,<- aN]
  ·rw[if_neg hk,aN,pZ (by omega),lt,JB,show aX b+1+(k-aX b)=k+1 by omega,<- aN]
 obtain⟨F,hF⟩:∃F,F=sm (gp m) os.length λj=>gm m (a j) (gm m (cf (os.getD j []) (aX b)) iv):=⟨_,rfl⟩
 have Flt:F<aa m:=by rw[hF];exact j7 r λ_ _=>bC hm _ _
 have Ot:∀k,(sm (gp m) os.length λj=>gm m (a j) (cf (os.getD j []) k))=gp m (sm (gp m) os.length λj=>gm m (a j) (cf (D j) k)) (gm m F (cf b k)):=λk=>by
  rw[cA (g:=λj=>gp m (gm m (a j) (cf (D j) k)) (gm m (cf b k) (gm m (a j) (gm m (cf (os.getD j []) (aX b)) iv)))) λj hj=>?_,mY r,pE r,<- hF,fV m (cf b k)]
  rw[<-Oq j hj k,zj h0]
  congr 1
  rw[<-ig h0,fV m _ (cf b k)]
 have lN:(∀k,sm (gp m) os.length (λj=>gm m (a j) (cf ((gB m b os).getD j []) k))=0)↔∀k,sm (gp m) os.length (λj=>gm m (a j) (cf (D j) k))=0:=by
  constructor
  ·intro h k
   by_cases e:k=aX b
   ·exact fW r λj hj=>by rw[e,Dp j hj,gA m _ h0]
   ·by_cases c:k<aX b
    ·rw[<-h k]
     exact cA λj hj=>by rw[Hc j hj,if_pos c]
    ·rw[<-h (k-1)]
     exact cA λj hj=>by rw[Hc j hj,if_neg (by omega),show k-1+1=k by omega]
  ·intro h k
   rw[cA λj hj=>by rw[Hc j hj]]
   exact h _
 rw[lN]
 constructor
 ·intro h
  obtain⟨e,e1,e2⟩:=r.ng Flt
  refine⟨e,e1,λk=>?_⟩
  rw[Ot k,h k,r.z (bC hm _ _),<- CA h0,e2,fj m _ h0]
 ·rintro⟨e,e1,h⟩
  have key:∀k,gp m (sm (gp m) os.length λj=>gm m (a j) (cf (D j) k)) (gm m (gp m F e) (cf b k))=0:=λk=>by
   rw[CA h0,<- Cz,<- Ot k]
   exact h k
  have fe:gp m F e=0:=by
   have:=key (aX b)
   rw[fW r λj hj=>by rw[Dp j hj,gA m _ h0],r.z (bC hm _ _)]at this
   rcases(zE hm (NB hm Flt e1) Om).mp this with z | z
   ·exact z
   ·exact absurd z bp
  intro k
  have:=key k
  rw[fe,fj m _ h0,j5 (j7 r λ_ _=>bC hm _ _)]at this
  exact this
theorem He(m:Bool × Nat)(b:List Nat)(os:List (List Nat)):(gB m b os).length=os.length:=by unfold gB;rw[bq]
theorem cw6(hm:m∈aw){b:List Nat}{os:List (List Nat)}{h:Nat}(hb:b.length=h)(lZ:RT (aa m) h os)(nb:nul b=false):RT (aa m) (h-1) (gB m b os):=λx hx=>by
 obtain⟨o,ho,rfl⟩:=bw.mp hx
 obtain⟨hp,_⟩:=Hb nb
 obtain⟨l1,l2⟩:=lZ o ho
 refine⟨by rw[eO,jG,jI,jJ,l1,hb];omega,λy hy=>?_⟩
 have:AllLt (aa m) (dm (λx y=>br m x (gm m (gm m (o.getD (aX b) 0) (j9 m (b.getD (aX b) 0))) y)) o b):=GF λx hx y _=>(iT hm (l2 x hx) (bC hm _ y)).2.1
 rcases bY.mp hy with z | z
 ·exact this y (xI z)
 ·exact this y (qi z)
theorem Gs.next(hm:m∈aw){s:Cs}(G:Gs m C w s){i:Nat}(hi:i<s.2.length)(nb:nul (s.2.getD i [])=false)(hC:∀j k,C j k<aa m):Gs m C w (gC m w (s,i)):=by
 have r:=rg hm
 have h0:=bM m hm
 have cT:=lo1 hm
 have hle:=G.le
 obtain⟨h,CS⟩:=G.rt
 obtain⟨bl,ba⟩:=CS _ (dH hi [])
 have Ou:RT (aa m) h (s.2.drop (i+1)):=λx hx=>CS x (qi hx)
 have kl:(gC m w (s,i)).2.length=s.2.length-i-1:=by
  show(gB m _ _).length=_
  rw[He,jI]
  show s.2.length-(i+1)=_
  omega
 have dl:(s.2.drop (i+1)).length=s.2.length-i-1:=by rw[jI];omega
 have ko:w-(gC m w (s,i)).2.length=w-s.2.length+i+1:=by omega
 have dg:∀j,(s.2.drop (i+1)).getD j []=s.2.getD (i+1+j) []:=λj=>by rw[aN,JB,<- aN]
 refine⟨by omega,?_,λp hp=>?_,λj hj=>?_,⟨h-1,cw6 hm bl Ou nb⟩,λa ha=>?_,λc hc hz t ht=>?_⟩
 ·refine AV.mpr ⟨G.inc,JQ _ _,λx hx y hy=>?_⟩
  rw[fc.mp hy]
  have:=G.off x hx
  show x<w-s.2.length+i
  omega
 ·rw[ko]
  rcases bY.mp hp with z | z
  ·have:=G.off p z;omega
  ·rw[fc.mp z];exact AA _
 ·rw[ko]
  have:=hj (w-s.2.length+i) (dj _ (fc.mpr rfl))
  omega
 ·have e1:(∀k,sm (gp m) (gC m w (s,i)).2.length (λj=>gm m (a j) (cf ((gC m w (s,i)).2.getD j []) k))=0)↔∃e,e<aa m/\∀k,gp m (sm (gp m) (s.2.length-i-1) λj=>gm m (a j) (cf (s.2.getD (i+1+j) []) k)) (gm m e (cf (s.2.getD i []) k))=0:=by
   have:=cl7 hm bl ba Ou nb ha
   rw[dl]at this
   rw[kl]
   refine this.trans ?_
   constructor
   ·rintro⟨e,e1,e2⟩
    exact⟨e,e1,λk=>by rw[<-e2 k,cA λj _=>by rw[<-dg j]]⟩
   ·rintro⟨e,e1,e2⟩
    exact⟨e,e1,λk=>by rw[<-e2 k,cA λj _=>by rw[dg j]]⟩
  rw[e1]
  have al:∀e,e<aa m->∀j,(if j<i then 0 else if j=i then e else a (j-i-1))<aa m:=λe he j=>by
   split
   ·omega
   ·split
    ·exact he
    ·exact ha _
  have Ov:∀(c:Nat->Nat) (e k:Nat),gp m (sm (gp m) s.2.length λj=>gm m (if j<i then 0 else if j=i then e else a (j-i-1)) (C (w-s.2.length+j) k)) (cY m C s.1 c k)=gp m (sm (gp m) (s.2.length-i-1) λj=>gm m (a j) (C (w-s.2.length+i+1+j) k)) (gp m (cY m C s.1 c k) (gm m e (C (w-s.2.length+i) k))):=λc e k=>by
   rw[sE hm hi a (λj=>C (w-s.2.length+j) k),Cz,mW m (gm m e _)]
   congr 1
   exact cA λj _=>by rw[show w-s.2.length+(i+1+j)=w-s.2.length+i+1+j by omega]
  have ln:∀c k,cY m C (gC m w (s,i)).1 c k=gp m (cY m C s.1 c k) (gm m (c s.1.length) (C (w-s.2.length+i) k)):=λc k=>CQ hm C s.1 _ c k
  constructor
  ·rintro⟨e,e1,e2⟩
   obtain⟨c,c1,c2⟩:=(G.rel _ (al e e1)).mp λk=>by
    rw[sE hm hi a (λj=>cf (s.2.getD j []) k)]
    exact e2 k
   refine⟨λt=>if t=s.1.length then e else c t,λt=>by
    show(if t=s.1.length then e else c t)<aa m
    split
    ·exact e1
    ·exact c1 t,λk=>?_⟩
   rw[ln,ko,kl,if_pos rfl,Oj (c':=c) λt ht=>if_neg (dN ht),<- Ov c e k]
   exact c2 k
  ·rintro⟨c,c1,c2⟩
   refine⟨c s.1.length,c1 _,λk=>?_⟩
   have:=(G.rel _ (al _ (c1 s.1.length))).mpr ⟨c,c1,λk=>by
    rw[Ov c _ k]
    have:=c2 k
    rw[ln,ko,kl]at this
    exact this⟩ k
   rw[sE hm hi a (λj=>cf (s.2.getD j []) k)]at this
   exact this
 ·have ln:∀k,gp m (cY m C s.1 c k) (gm m (c s.1.length) (C (w-s.2.length+i) k))=0:=λk=>by
   rw[<-CQ hm C s.1 _ c k]
   exact hz k
  have e0:c s.1.length=0:=by
   refine DN λz=>?_
   have al:∀j,(if j<i then 0 else if j=i then c s.1.length else(λ_=>0) (j-i-1))<aa m:=λj=>by
    split
    ·omega
    ·split
     ·exact hc _
     ·show 0<_;omega
   have z0:∀(n:Nat) (X:Nat->Nat),sm (gp m) n (λj=>gm m ((λ_=>0) j) (X j))=0:=λn X=>fW r λ_ _=>fj m _ h0
   have:=(G.rel _ al).mpr ⟨c,hc,λk=>by
    rw[sE hm hi (λ_=>0) (λj=>C (w-s.2.length+j) k),z0,r.z (bC hm _ _),mW]
    exact ln k⟩
   have nn:nul (s.2.getD i [])=true:=Ol.mpr λk=>by
    have q:=this k
    rw[sE hm hi (λ_=>0) (λj=>cf (s.2.getD j []) k),z0,r.z (bC hm _ _)]at q
    rcases(zE hm (hc _) (dh hm ba k)).mp q with y | y
    ·exact absurd y z
    ·exact y
   rw[nb]at nn;cases nn
  have hs:∀k,cY m C s.1 c k=0:=λk=>by
   have:=ln k
   rw[e0,fj m _ h0,j5 (cr3 hm C _ c k)]at this
   exact this
  have hl:(gC m w (s,i)).1.length=s.1.length+1:=by show(s.1++[_]).length=_;rw[eO];rfl
  by_cases ct:t<s.1.length
  ·exact G.ind c hc hs t ct
  ·rw[show t=s.1.length by omega];exact e0
theorem Gs.bound(hm:m∈aw){s:Cs}(G:Gs m C w s){i:Nat}(hi:i<s.2.length)(hC:∀j k,C j k<aa m):nul (s.2.getD i [])=true↔∃c:Nat->Nat,(∀t,c t<aa m)/\c s.1.length=1/\∀k,cY m C (s.1++[w-s.2.length+i]) c k=0:=by
 have r:=rg hm
 have h0:=bM m hm
 have cT:=lo1 hm
 obtain⟨h,CS⟩:=G.rt
 obtain⟨bl,ba⟩:=CS _ (dH hi [])
 have al:∀j,(if j<i then 0 else if j=i then 1 else(λ_=>0) (j-i-1))<aa m:=λj=>by
  split
  ·omega
  ·split
   ·omega
   ·show 0<_;omega
 have z0:∀(n:Nat) (X:Nat->Nat),sm (gp m) n (λj=>gm m ((λ_=>0) j) (X j))=0:=λn X=>fW r λ_ _=>fj m _ h0
 have e1:nul (s.2.getD i [])=true↔∀k,sm (gp m) s.2.length (λj=>gm m (if j<i then 0 else if j=i then 1 else(λ_=>0) (j-i-1)) (cf (s.2.getD j []) k))=0:=by
  rw[Ol]
  refine forall_congr' λk=>?_
  rw[sE hm hi (λ_=>0) (λj=>cf (s.2.getD j []) k),z0,r.z (bC hm _ _),pz (dh hm ba k)]
 rw[e1,G.rel _ al]
 constructor
 ·rintro⟨c,c1,c2⟩
  refine⟨λt=>if t=s.1.length then 1 else c t,λt=>by
   show(if t=s.1.length then 1 else c t)<aa m
   split
   ·omega
   ·exact c1 t,if_pos rfl,λk=>?_⟩
  rw[CQ hm,if_pos rfl,Oj (c':=c) λt ht=>if_neg (dN ht),mW,<- c2 k,sE hm hi (λ_=>0) (λj=>C (w-s.2.length+j) k),z0,r.z (bC hm _ _)]
 ·rintro⟨c,c1,c2,c3⟩
  refine⟨c,c1,λk=>?_⟩
  have:=c3 k
  rw[CQ hm,c2]at this
  rw[sE hm hi (λ_=>0) (λj=>C (w-s.2.length+j) k),z0,r.z (bC hm _ _),mW]
  exact this
end
end L3
namespace L3
open PySem L2 Mf
noncomputable def je:List Nat->List Nat->Prop
 | a::as,b::bs=>a<b\/(a=b/\je as bs)
 | _,_=>False
theorem Ow:∀l:List Nat,¬ je l l
 | [],h=>h
 | a::l,h=>h.elim (λz=>gi _ z) λz=>Ow l z.2
theorem Ox:∀a b:List Nat,je a b->¬ je b a
 | [],_,h,_=>h
 | _::_,[],h,_=>h
 | a::as,b::bs,h,h'=>by
  rcases h with h | ⟨rfl,h⟩
  ·rcases h' with h' | ⟨e,_⟩
   ·omega
   ·omega
  ·rcases h' with h' | ⟨_,h'⟩
   ·omega
   ·exact Ox as bs h h'
theorem Oy:∀(a b:List Nat) (x y:List Nat),a.length=b.length->je a b->je (a++x) (b++y)
 | [],_,_,_,_,h=>h.elim
 | _::_,[],_,_,_,h=>h.elim
 | a::as,b::bs,x,y,hl,h=>by
  rcases h with h | ⟨e,h⟩
  ·exact .inl h
  ·exact .inr ⟨e,Oy as bs x y (by simpa using hl) h⟩
theorem Oz:∀(a:List Nat) (x y:Nat),x<y->je (a++[x]) (a++[y])
 | [],_,_,h=>.inl h
 | _::as,x,y,h=>.inr ⟨rfl,Oz as x y h⟩
noncomputable def eM(w:Nat)(S:List Nat):Prop:=S.Pairwise (· < ·)/\∀x∈S,x<w
theorem OA:∀(S:List Nat) (lo w:Nat),S.Pairwise (· < ·)->(∀x∈S,lo<=x/\x<w)->S.length<=w-lo
 | [],_,_,_,_=>jE _
 | a::S,lo,w,hp,h=>by
  rw[xQ]at hp
  have ih:=OA S (a+1) w hp.2 λx hx=>⟨hp.1 x hx,(h x (ft _ hx)).2⟩
  have ha:=h a (gj ..)
  rw[gH]
  omega
theorem eM.len{S:List Nat}{w:Nat}(h:eM w S):S.length<=w:=OA S 0 w h.1 λx hx=>⟨jE _,h.2 x hx⟩
theorem eM.take{S:List Nat}{w:Nat}(h:eM w S)(k:Nat):eM w (S.take k):=⟨h.1.sublist (List.take_sublist k S),λx hx=>h.2 x (xI hx)⟩
noncomputable def kb(w:Nat)(z:Cs × Nat):List Nat:=z.1.1++[w-z.1.2.length+z.2]
structure Lv(m:Bool × Nat)(C:Nat->Nat->Nat)(w k:Nat)(l:List Cs):Prop where
 gs:∀s∈l,Gs m C w s/\s.1.length=k
 all:∀S,eM w S->S.length=k->∃s∈l,s.1=S
 ord:(l.map (·.1)).Pairwise je
theorem wY{l:List Cs}{z:Cs × Nat}:z∈dM l↔z.1∈l/\z.2<z.1.2.length:=by
 unfold dM
 rw[List.mem_flatMap]
 constructor
 ·rintro⟨s,hs,hz⟩
  obtain⟨i,hi,rfl⟩:=bw.mp hz
  exact⟨hs,bU.mp hi⟩
 ·rintro⟨h1,h2⟩
  exact⟨z.1,h1,bw.mpr ⟨z.2,bU.mpr h2,rfl⟩⟩
section
variable{m:Bool × Nat}{C:Nat->Nat->Nat}{w:Nat}
theorem Hf{k:Nat}:∀{l:List Cs},(∀s∈l,s.1.length=k)->(l.map (·.1)).Pairwise je->((dM l).map (kb w)).Pairwise je
 | [],_,_=>Jo
 | s::l,hl,ho=>by
  rw[da,xQ]at ho
  show(((fE s)++dM l).map (kb w)).Pairwise je
  rw[fv,AV]
  refine⟨?_,Hf (λs hs=>hl s (ft _ hs)) ho.2,λa ha b hb=>?_⟩
  ·unfold fE
   rw[bW]
   refine List.pairwise_map.mpr (D8.imp λ{a b} hab=>?_)
   exact Oz s.1 _ _ (show w-s.2.length+a<w-s.2.length+b by omega)
  ·obtain⟨z,hz,rfl⟩:=bw.mp ha
   obtain⟨i,_,rfl⟩:=bw.mp hz
   obtain⟨y,hy,rfl⟩:=bw.mp hb
   obtain⟨h1,_⟩:=wY.mp hy
   exact Oy _ _ _ _ (by rw[hl s (gj ..),hl _ (ft _ h1)]) (ho.1 _ (bw.mpr ⟨_,h1,rfl⟩))
theorem Lv.meets(L:Lv m C w k l){S:List Nat}(hS:eM w S)(hk:S.length=k+1):∃z∈dM l,kb w z=S:=by
 have e:S=S.take k++[S.getD k 0]:=by
  have h1:S.drop k=[S.getD k 0]:=by
   rw[List.drop_eq_getElem_cons (by omega),List.drop_of_length_le (by omega),aN,aM (by omega)];rfl
  conv=>lhs;rw[<-D9 k S,h1]
 obtain⟨s,hs,es⟩:=L.all _ (hS.take k) (by rw[jG];omega)
 obtain⟨G,_⟩:=L.gs s hs
 have hj:∀p∈s.1,p<S.getD k 0:=λp hp=>by
  rw[es]at hp
  have:=hS.1
  rw[e,AV]at this
  exact this.2.2 p hp _ (fc.mpr rfl)
 have h1:=G.nx _ hj
 have h2:=hS.2 (S.getD k 0) (dH (by omega) 0)
 have h3:=G.le
 refine⟨(s,S.getD k 0-(w-s.2.length)),wY.mpr ⟨hs,?_⟩,?_⟩
 ·show S.getD k 0-(w-s.2.length)<s.2.length
  omega
 ·show s.1++[w-s.2.length+(S.getD k 0-(w-s.2.length))]=S
  rw[show w-s.2.length+(S.getD k 0-(w-s.2.length))=S.getD k 0 by omega,es]
  exact e.symm
theorem Lv.next(hm:m∈aw)(hC:∀j k,C j k<aa m)(L:Lv m C w k l)(hn:∀z∈dM l,pK z=false):Lv m C w (k+1) ((dM l).map (gC m w)) where
 gs:=λs hs=>by
  obtain⟨z,hz,rfl⟩:=bw.mp hs
  obtain⟨h1,h2⟩:=wY.mp hz
  obtain⟨G,hl⟩:=L.gs _ h1
  refine⟨G.next hm h2 (hn z hz) hC,?_⟩
  show(z.1.1++[_]).length=_
  rw[eO,hl];rfl
 all:=λS hS hk=>by
  obtain⟨z,hz,e⟩:=L.meets hS hk
  exact⟨gC m w z,bw.mpr ⟨z,hz,rfl⟩,e⟩
 ord:=by
  rw[bW]
  exact Hf (λs hs=>(L.gs s hs).2) L.ord
theorem Hg(hm:m∈aw)(hC:∀j k,C j k<aa m):∀(f k:Nat) (l:List Cs),Lv m C w k l->w+1<=f+k ->
  match va m w f l with
  | none=>∀S,eM w S->k<=S.length->kK m C S
  | some F=>eM w F/\k<F.length/\(∃c:Nat->Nat,(∀t,c t<aa m)/\c (F.length-1)=1/\∀j,cY m C F c j=0)/\∀S,eM w S->k<=S.length->S.length<F.length\/(S.length=F.length/\je S F)->kK m C S
 | 0,k,l,L,hf=>λS hS hk=>absurd hS.len (by omega)
 | f+1,k,l,L,hf=>by
  have here:∀S,eM w S->S.length=k->kK m C S:=λS hS hk=>by
   obtain⟨s,hs,rfl⟩:=L.all S hS hk
   exact(L.gs s hs).1.ind
  rw[va]
  by_cases l0:l=[]
  ·rw[if_pos l0]
   subst l0
   intro S hS hk
   obtain⟨s,hs,_⟩:=L.all (S.take k) (hS.take k) (by rw[jG];omega)
   cases hs
  ·rw[if_neg l0]
   cases e:(dM l).find? pK with
   | some z =>
    obtain⟨hz,as,bs,eL,sF⟩:=VU.mp e
    obtain⟨h1,h2⟩:=wY.mp (Jx e)
    obtain⟨G,hl⟩:=L.gs _ h1
    have hle:=G.le
    have fl:(kb w z).length=k+1:=by show(z.1.1++[_]).length=_;rw[eO,hl];rfl
    refine⟨⟨?_,λx hx=>?_⟩,by show k<(kb w z).length;omega,?_,λS hS hk hc=>?_⟩
    ·refine AV.mpr ⟨G.inc,JQ _ _,λx hx y hy=>?_⟩
     rw[fc.mp hy]
     have:=G.off x hx
     omega
    ·rcases bY.mp hx with q | q
     ·have:=G.off x q;omega
     ·rw[fc.mp q];omega
    ·obtain⟨c,c1,c2,c3⟩:=(G.bound hm h2 hC).mp hz
     refine⟨c,c1,?_,c3⟩
     show c ((kb w z).length-1)=1
     rw[fl,Nat.add_sub_cancel,<- hl]
     exact c2
    ·by_cases ck:S.length=k
     ·exact here S hS ck
     have cl:S.length=k+1/\je S (kb w z):=by
      rcases hc with q | ⟨q1,q2⟩
      ·exact absurd (show S.length<(kb w z).length from q) (by omega)
      ·exact⟨(show S.length=(kb w z).length from q1).trans fl,q2⟩
     obtain⟨y,hy,ey⟩:=L.meets hS cl.1
     obtain⟨y1,y2⟩:=wY.mp hy
     obtain⟨Gy,_⟩:=L.gs _ y1
     cases ny:pK y with
     | false =>
      have:=(Gy.next hm y2 ny hC).ind
      rwa [show(gC m w (y.1,y.2)).1=S from ey]at this
     | true =>
      exfalso
      have od:=Hf (w:=w) (λs hs=>(L.gs s hs).2) L.ord
      rw[eL]at hy od
      rw[fv,da,AV]at od
      have od2:=(xQ.mp od.2.1).1
      rcases bY.mp hy with q | q
      ·have:=sF y q
       rw[ny]at this;simp at this
      ·rcases bR.mp q with q | q
       ·rw[q]at ey
        rw[<-ey]at cl
        exact Ow _ cl.2
       ·have:=od2 _ (bw.mpr ⟨y,q,rfl⟩)
        rw[ey]at this
        exact Ox _ _ this cl.2
   | none =>
    have hn:∀z∈dM l,pK z=false:=λz hz=>by
     have:=JM.mp e z hz
     simpa using this
    have ih:=Hg hm hC f (k+1) _ (L.next hm hC hn) (by omega)
    dsimp only
    split
    ·rename_i e2
     rw[e2]at ih
     intro S hS hk
     by_cases ck:S.length=k
     ·exact here S hS ck
     ·exact ih S hS (by omega)
    ·rename_i F e2
     rw[e2]at ih
     obtain⟨i1,i2,i3,i4⟩:=ih
     refine⟨i1,by omega,i3,λS hS hk hc=>?_⟩
     by_cases ck:S.length=k
     ·exact here S hS ck
     ·exact i4 S hS (by omega) hc
end
end L3
namespace L3
open PySem L2 Mf
noncomputable def dD(T:List (List Nat))(j k:Nat):Nat:=cf (T.getD k []) j
theorem Hh{m:Bool × Nat}(hm:m∈aw){w:Nat}{T:List (List Nat)}(hT:RT (aa m) w T)(j k:Nat):dD T j k<aa m:=by
 unfold dD
 by_cases hk:k<T.length
 ·exact dh hm (hT _ (dH hk [])).2 j
 ·have e:T.getD k []=[]:=by rw[aN,gn (by omega)];rfl
  rw[e]
  have:=lo1 hm
  show 0<_
  omega
theorem Lv.start{m:Bool × Nat}(hm:m∈aw){T:List (List Nat)}(hw:0<ai T)(hT:RT (aa m) (ai T) T):Lv m (dD T) (ai T) 0 [([],eK T)]:=by
 have r:=rg hm
 obtain⟨t1,t2,t3⟩:=GZ (Nat.lt_trans Nat.zero_lt_one (lo1 hm)) hw hT
 refine⟨λs hs=>?_,λS _ h=>⟨_,fc.mpr rfl,(Ea.mp h).symm⟩,JQ _ _⟩
 rw[fc.mp hs]
 refine⟨⟨Az t1,Jo,λp hp=>absurd hp (gJ),λj _=>by show ai T-(eK T).length<=j;omega,⟨_,t3⟩,λa ha=>?_,λc _ _ t ht=>absurd ht (by show ¬ t<0;omega)⟩,rfl⟩
 have e:∀k,sm (gp m) (eK T).length (λi=>gm m (a i) (cf ((eK T).getD i []) k))=sm (gp m) (eK T).length λi=>gm m (a i) (dD T (ai T-(eK T).length+i) k):=λk=>cA λi hi=>by
  rw[Ob (by omega),N6,show ai T-(eK T).length+i=i by omega];rfl
 have z:∀c k,cY m (dD T) [] c k=0:=λ_ _=>rfl
 constructor
 ·intro h
  refine⟨λ_=>0,λ_=>by have:=lo1 hm;show 0<_;omega,λk=>?_⟩
  rw[z,j5 (j7 r λ_ _=>bC hm _ _),<- e k]
  exact h k
 ·rintro⟨c,_,h⟩ k
  have:=h k
  rw[z,j5 (j7 r λ_ _=>bC hm _ _),<- e k]at this
  exact this
noncomputable def fk(m:Bool × Nat)(T:List (List Nat)):Option (List Nat):=va m (ai T) (ai T+1) [([],eK T)]
section
variable{m:Bool × Nat}{C:Nat->Nat->Nat}
theorem OB(F:List Nat)(t0 t:Nat):(F.eraseIdx t0).getD t 0=if t<t0 then F.getD t 0 else F.getD (t+1) 0:=by
 rw[aN,List.getElem?_eraseIdx]
 split
 ·rw[<-aN]
 ·rw[<-aN]
theorem bU1(hm:m∈aw){F:List Nat}{t0:Nat}(h:t0<F.length){x:Nat->Nat}(hx:x t0=0)(k:Nat):cY m C (F.eraseIdx t0) (λt=>if t<t0 then x t else x (t+1)) k=cY m C F x k:=by
 have r:=rg hm
 unfold cY
 obtain⟨d,hd⟩:∃d,F.length=t0+1+d:=⟨F.length-t0-1,by omega⟩
 rw[VV h,hd,show t0+1+d-1=t0+d by omega,zt r t0 d λ_ _=>bC hm _ _,zt r (t0+1) d λ_ _=>bC hm _ _,sm,hx,fj m _ (bM m hm),j5 (j7 r λ_ _=>bC hm _ _)]
 congr 1
 ·exact cA λt ht=>by rw[if_pos ht,OB,if_pos ht]
 ·exact cA λt _=>by rw[if_neg (by omega),OB,if_neg (by omega),show t0+t+1=t0+1+t by omega]
theorem eM.erase{w:Nat}{F:List Nat}(h:eM w F)(t0:Nat):eM w (F.eraseIdx t0):=⟨h.1.sublist (List.eraseIdx_sublist F t0),λx hx=>h.2 x (List.mem_of_mem_eraseIdx hx)⟩
theorem cm0(hm:m∈aw){w:Nat}{F:List Nat}(hF:eM w F)(hS:∀S,eM w S->S.length<F.length->kK m C S){x:Nat->Nat}(hx:∀t,x t<aa m)(h:∀k,cY m C F x k=0){t1:Nat}(h1:t1<F.length)(x1:x t1≠0):∀t,t<F.length->x t≠0:=λt0 h0 z=>by
 have l1:(F.eraseIdx t0).length=F.length-1:=VV h0
 have I:=hS _ (hF.erase t0) (by omega) (λt=>if t<t0 then x t else x (t+1)) (λt=>by
  show(if t<t0 then x t else x (t+1))<aa m
  split
  ·exact hx _
  ·exact hx _) λk=>by rw[bU1 hm h0 z];exact h k
 by_cases c:t1<t0
 ·have:=I t1 (by omega)
  rw[if_pos c]at this
  exact x1 this
 ·have ne:t1≠t0:=λq=>x1 (q ▸ z)
  have:=I (t1-1) (by omega)
  rw[if_neg (by omega),show t1-1+1=t1 by omega]at this
  exact x1 this
end
noncomputable def cZ(T:List (List Nat))(F:List Nat):List (List Nat):=T.map λr=>F.map λj=>r.getD j 0
theorem CT{N w:Nat}{T:List (List Nat)}{F:List Nat}(h0:0<N)(hT:RT N w T):RT N F.length (cZ T F)/\(cZ T F).length=T.length:=by
 refine⟨λx hx=>?_,by unfold cZ;rw[bq]⟩
 obtain⟨r,hr,rfl⟩:=bw.mp hx
 refine⟨by rw[bq],λy hy=>?_⟩
 obtain⟨j,_,rfl⟩:=bw.mp hy
 exact(hT r hr).2.getD h0 j
theorem cu6{T:List (List Nat)}{F:List Nat}{k t:Nat}(hk:k<T.length)(ht:t<F.length):cf ((cZ T F).getD k []) t=dD T (F.getD t 0) k:=by
 unfold cZ dD cf
 rw[u6 _ hk [] [],u6 _ ht 0 0]
theorem Hi(m:Bool × Nat){T:List (List Nat)}{F:List Nat}{k:Nat}(hk:k<T.length)(x:Nat->Nat):dt m F.length (cf ((cZ T F).getD k [])) x=cY m (dD T) F x k:=by
 unfold dt cY
 exact cA λt ht=>by rw[cu6 hk ht,fV]
theorem cC7{m:Bool × Nat}(hm:m∈aw){w:Nat}{T:List (List Nat)}{F:List Nat}(hT:RT (aa m) w T)(Hj:T≠[])(hF:eM w F)(hS:∀S,eM w S->S.length<F.length->kK m (dD T) S){c:Nat->Nat}(c1:∀t,c t<aa m)(c2:c (F.length-1)=1)(c3:∀k,cY m (dD T) F c k=0)(hF0:0<F.length) :
  ∃f fs,bS (bh m (cZ T F)) F.length=f::fs/\(dJ m (bh m (cZ T F)) F.length f).length=F.length/\AllLt (aa m) (dJ m (bh m (cZ T F)) F.length f)/\(∀t,t<F.length->cf (dJ m (bh m (cZ T F)) F.length f) t≠0)/\∀k,cY m (dD T) F (cf (dJ m (bh m (cZ T F)) F.length f)) k=0:=by
 have cT:=lo1 hm
 obtain⟨p1,p2⟩:=CT (F:=F) (by omega) hT
 have pn:cZ T F≠[]:=λz=>Hj (by unfold cZ at z;exact VW.mp z)
 have eW:=u9 p1 pn
 rw[<-eW]at p1
 obtain⟨⟨H,I⟩,iR,il,sp⟩:=ka hm p1
 have dz:∀x:Nat->Nat,(∀k,cY m (dD T) F x k=0)->∀r∈cZ T F,dt m F.length (cf r) x=0:=λx hx r hr=>by
  obtain⟨k,hk,rfl⟩:=gI hr
  have:=Hi m (T:=T) (F:=F) (k:=k) (by omega) x
  rw[aN,aM hk]at this
  rw[show dt m F.length (cf (cZ T F)[k]) x=_ from this]
  exact hx k
 cases ef:bS (bh m (cZ T F)) F.length with
 | nil =>
  exfalso
  have hz:∀i,i<(bh m (cZ T F)).length->dt m (ai (cZ T F)) (cf ((bh m (cZ T F)).getD i [])) c=0:=λi hi=>by
   rw[eW]
   exact bX.ann hm (n:=F.length) (y:=c) (dz c c3) ((sp _).mpr (bX.of (dH hi [])))
  have:=RR.ker hm iR I c1 hz (k:=F.length-1) (by omega)
  rw[eW,ef,c2]at this
  exact absurd this (by show ¬ (1=0);omega)
 | cons f fs =>
  have fm:f∈bS (bh m (cZ T F)) (ai (cZ T F)):=by rw[eW,ef];exact gj ..
  obtain⟨k1,k2,k3,_⟩:=u7 hm iR I fm
  rw[eW]at k1 k2 k3
  have fl:f<F.length:=by
   have:=bU.mp (nk.mp fm).1
   omega
  have lz:∀k,cY m (dD T) F (cf (dJ m (bh m (cZ T F)) F.length f)) k=0:=λk=>by
   by_cases hk:k<T.length
   ·have:=cm2 hm p1 fm _ (dH (show k<(cZ T F).length by omega) [])
    rw[eW,Hi m hk]at this
    exact this
   ·refine fW (rg hm) λt _=>?_
    have e:dD T (F.getD t 0) k=0:=by
     unfold dD
     rw[show T.getD k []=[] by rw[aN,gn (by omega)];rfl];rfl
    rw[e,gA m _ (bM m hm)]
  exact⟨f,fs,rfl,k1,k2,cm0 hm hF hS (dh hm k2) lz fl (by rw[k3];omega),lz⟩
theorem OC:∀(n lo w:Nat) (F:List Nat),F.Pairwise (· < ·)->(∀x∈F,lo<=x)->F.length=n->F=List.range' lo n\/je (List.range' lo n) F
 | 0,_,_,F,_,_,h=>.inl (Ea.mp h)
 | n+1,lo,w,F,hp,hl,h=>by
  cases F with
  | nil=>cases h
  | cons a F =>
   rw[xQ]at hp
   have ha:=hl a (gj ..)
   rw[List.range'_succ]
   by_cases e:lo=a
   ·subst e
    rcases OC n (lo+1) w F hp.2 (λx hx=>hp.1 x hx) (by simpa using h)with q | q
    ·exact .inl (by rw[q])
    ·exact .inr (.inr ⟨rfl,q⟩)
   ·exact .inr (.inl (by omega))
theorem b51{o:Bool}{G:List (List Nat)}{i:Nat}{d:D}(hd:(ax o G)[i]?=some d):∃hi:i<G.length,d=.lst o (aq G[i]):=by
 unfold ax at hd
 rw[cu]at hd
 by_cases hi:i<G.length
 ·rw[aM hi]at hd
  exact⟨hi,(c9 hd).symm⟩
 ·rw[gn (by omega)]at hd;cases hd
end L3
namespace L3
open PySem L2 PySem.Spec PyProof.Rows
section
variable{B:Bs}{F H:Hp}{σ:L2.St}{δ:Dl}{ts:List (D × V)}
theorem ak.c22{p:Addr}{d:D}{xs:List D}{ws:List V}{z:V}(c:ak B F H σ δ ((.lst true (d::xs),.ref p)::ts))(e1:H p=some (.lst (z::ws))):ak B F H σ δ ((d,z)::ts):=by
 refine ak.pack (ps:=[(.lst true (d::xs),.ref p)]) c (af.refl _) λA1 r1 nd=>?_
 have r1:R F H [.lst true (d::xs)] [.ref p] A1:=r1
 cases r1 with
 | @own _ wx _ Ax _ _ Bx hx fx rx rc =>
  cases rc
  rw[e1]at hx;cases hx
  obtain⟨v,bK,B1,B2,e,rfl,h1,h2⟩:=R.cH rx
  obtain⟨rfl,rfl⟩:=mi e
  rw[fu,jF]at nd
  exact⟨B1,h1,(ia.mp nd.2).1,λa ha=>.inl (by simp[ha])⟩
end
section
variable{X:Cx}{a:Expr}{ta:aO}{pos p2:Pos}{tk:Nat}
noncomputable def sG(ta:aO):aO:=λδ Q=>ta δ λx aj=>∃d xs,x=.lst true (d::xs)/\Q d aj
theorem cz6(ha:PE X a (lE ta))(hs:EH (.Constant (.int 0) tk p2)):PE X (.Subscript a (.Constant (.int 0) tk p2) pos) (lE (sG ta)) :=
 dF (Kv Kz ha qq hs) λσ H Q zq=>by
 obtain⟨B,F,δ,ts,Qd,c,q,k⟩:=zq
 exact⟨B,F,δ,ts,_,c,q,λx aj v F1 H1 q1 f1 h1 c1=>by
  obtain⟨d,xs,rfl,hq⟩:=q1
  obtain⟨p,ws,rfl,e1,s1⟩:=i9 c1.top c1.ext
  obtain⟨z,vs,rfl,_,_⟩:=S.cH s1
  exact⟨p,_,0,z,rfl,rfl,jZ (.inl e1),(by unfold fA;rw[zo (Int.le_refl 0) (by show 0<(z::vs).length;simp)];rfl),k _ aj z F1 H1 hq f1 h1 (c1.c22 e1)⟩⟩
end
end L3
namespace L3
open PySem L2 PySem.Spec PyProof.Rows
section
variable{X:Cx}{a b:Expr}{ta tb:aO}{elts:List Expr}{x1:Nat}{nJ p pos:Pos}
noncomputable def sH(ta tb:aO):i5:=λδ Q=>ta δ λd1 aj=>tb aj λd2 a7=>∃xs ys,i6 d1=some xs/\d2=.lst true ys/\d1.pl=true/\Q true (dG xs (ys.map D.sh)) a7
theorem cy0(hg:Gl X "zip")(hm:X.mg "zip"=none)(ha:PE X a (lB ta))(hb:PE X b (lE tb))(hs:starEach [a,b] X.env=[(false,eval a X.env),(false,eval b X.env)]:=by rfl)(dA:starEach [b] X.env=[(false,eval b X.env)]:=by rfl)
  (gD:starEach [a,b] X.env=(false,eval a X.env)::starEach [b] X.env:=by rfl) (vb:starEach [b] X.env=(false,eval b X.env)::starEach [] X.env:=by rfl) :
  PI X (.Tuple elts x1 nJ) (.Call (.Name "zip" p) [a,b] [] pos) (lI (sH ta tb)) :=
 ua (LG hg hm (bN ha (bN hb eX vb) gD) hs dA) λσ H Q zq=>by
 obtain⟨B,F,δ,ts,Qd,c,q,k⟩:=zq
 exact⟨B,F,δ,ts,_,c,q,λd1 aj v1 F1 H1 q1 f1 h1 c1 s1=>⟨B,F1,aj,ts,_,c1,q1,λd2 a7 v2 F2 H2 q2 f2 h2 c2=>by
  obtain⟨xs,ys,i1,rfl,hp,hq⟩:=q2
  obtain⟨F3,f3,c3⟩:=c2.BG
  have tp:=c3.top
  have lH:=(s1.mono f2 h2).mono f3 (af.refl _)
  have e2:=c3.ext
  have sn:=qG e2
  have OD:(D.lst true ys).sh.pl=true:=by
   rw[cU]
   cases tp with
   | @shr _ _ _ _ _ yF r' _ =>
    have z:=r'.pl
    rw[Fj]at z
    rw[fB,z];rfl
  obtain⟨p1,w1,rfl,r1,t1,u1⟩:=yT lH e2 i1
  obtain⟨p2,w2,rfl,r2,t2,u2⟩:=yT (xs:=ys.map D.sh) tp e2 (by rw[cU];rfl)
  refine⟨p1,p2,rfl,⟨w1,.inl r1⟩,⟨w2,.inl r2⟩,k _ _ a7 _ _ H2 hq (((f1.trans f2).trans f3).trans sn) (h1.trans h2) c3.pop.snap ?_ λz=>?_⟩
  ·rw[FY]
   exact B5 r1 t1 r2 t2 (Full.refl _)
  ·obtain⟨a1,a2,a3⟩:=u1 hp
   obtain⟨b1,b2,b3⟩:=u2 OD
   exact⟨Mz a1 b1,B5 (hV a2 sn) (a3.shared sn (af.refl _)) (hV b2 sn) (b3.shared sn (af.refl _)) tZ⟩⟩⟩
end
end L3
namespace L3
open PySem L2 Mf
section
variable{m:Bool × Nat}
theorem OE(hm:m∈aw){T:List (List Nat)}(hw:0<ai T)(hT:RT (aa m) (ai T) T)(h:fk m T=none):∀S,eM (ai T) S->kK m (dD T) S:=by
 have:=Hg hm (Hh hm hT) (ai T+1) 0 _ (Lv.start hm hw hT) (by omega)
 unfold fk at h
 rw[h]at this
 exact λS hS=>this S hS (jE _)
theorem m4(hm:m∈aw){T:List (List Nat)}(hw:0<ai T)(hT:RT (aa m) (ai T) T){F:List Nat}(h:fk m T=some F):eM (ai T) F/\0<F.length/\(∃c:Nat->Nat,(∀t,c t<aa m)/\c (F.length-1)=1/\∀j,cY m (dD T) F c j=0)/\∀S,eM (ai T) S->S.length<F.length\/(S.length=F.length/\je S F)->kK m (dD T) S:=by
 have:=Hg hm (Hh hm hT) (ai T+1) 0 _ (Lv.start hm hw hT) (by omega)
 unfold fk at h
 rw[h]at this
 obtain⟨a,b,c,d⟩:=this
 exact⟨a,b,c,λS hS=>d S hS (jE _)⟩
theorem OF(hm:m∈aw){w:Nat}:∀(F s x:List Nat),F.length=s.length->F.Pairwise (· < ·)->(∀p∈F,p<w)->x.length=w->AllLt (aa m) x->AllLt (aa m) s->(∀p∈F,cf x p=0) ->
  ((F.zip s).foldl (λr z=>r.set z.1 z.2) x).length=w/\AllLt (aa m) ((F.zip s).foldl (λr z=>r.set z.1 z.2) x)/\(∀p,p ∉ F->cf ((F.zip s).foldl (λr z=>r.set z.1 z.2) x) p=cf x p)/\(∀t,t<F.length->cf ((F.zip s).foldl (λr z=>r.set z.1 z.2) x) (F.getD t 0)=cf s t) /\
  ∀r:Nat->Nat,dt m w r (cf ((F.zip s).foldl (λr z=>r.set z.1 z.2) x))=gp m (dt m w r (cf x)) (sm (gp m) F.length λt=>gm m (r (F.getD t 0)) (cf s t))
 | [],s,x,_,_,_,h1,h2,_,_=>⟨h1,h2,λ_ _=>rfl,λt ht=>(nomatch ht),λr=>(j5 (cE5 hm w r _)).symm⟩
 | p::F,[],x,hl,_,_,_,_,_,_=>nomatch hl
 | p::F,v::s,x,hl,hp,hw,h1,h2,h3,hz=>by
  rw[xQ]at hp
  have pw:=hw p (gj ..)
  have hv:v<aa m:=h3 v (gj ..)
  have cs:∀j,cf (x.set p v) j=if j=p then v else cf x j:=cu5 (by omega)
  obtain⟨a1,a2,a3,a4,a5⟩:=OF hm F s (x.set p v) (by simpa using hl) hp.2 (λq hq=>hw q (ft _ hq)) (by rw[sX];exact h1) (λy hy=>by
   rcases DZ hy with h | h
   ·exact h2 y h
   ·rw[h];exact hv) (λy hy=>h3 y (ft _ hy)) (λq hq=>by
   rw[cs,if_neg (by have:=hp.1 q hq;omega)]
   exact hz q (ft _ hq))
  have pF:p ∉ F:=λh=>gi _ (hp.1 p h)
  refine⟨a1,a2,λq hq=>?_,λt ht=>?_,λr=>?_⟩
  ·rw[bR,not_or]at hq
   show cf ((F.zip s).foldl (λr z=>r.set z.1 z.2) (x.set p v)) q=_
   rw[a3 q hq.2,cs,if_neg hq.1]
  ·cases t with
   | zero =>
    show cf ((F.zip s).foldl (λr z=>r.set z.1 z.2) (x.set p v)) p=v
    rw[a3 p pF,cs,if_pos rfl]
   | succ t=>exact a4 t (by simpa using ht)
  ·show dt m w r (cf ((F.zip s).foldl (λr z=>r.set z.1 z.2) (x.set p v)))=_
   rw[a5 r]
   have e1:dt m w r (cf (x.set p v))=gp m (dt m w r (cf x)) (gm m (r p) v):=by
    have:cf (x.set p v)=λk=>gp m (cf x k) (if k=p then v else 0):=by
     funext k
     rw[cs]
     by_cases e:k=p
     ·rw[if_pos e,if_pos e,e,hz p (gj ..),u0 hv]
     ·rw[if_neg e,if_neg e,j5 (dh hm h2 k)]
    rw[this,G2 hm]
    congr 1
    have:=m3 (rg hm) (f:=λk=>gm m (r k) (if k=p then v else 0)) (j0:=p) (bC hm _ _) pw (λj _ hj=>by
     show gm m (r j) (if j=p then v else 0)=0
     rw[if_neg hj,gA m _ (bM m hm)])
    show sm (gp m) w (λk=>gm m (r k) (if k=p then v else 0))=_
    rw[this]
    show gm m (r p) (if p=p then v else 0)=_
    rw[if_pos rfl]
   rw[e1,gH,NJ (rg hm) F.length λ_ _=>bC hm _ _,Cz]
   rfl
noncomputable def gE(m:Bool × Nat)(T:List (List Nat))(F:List Nat):List Nat:=dJ m (bh m (cZ T F)) F.length ((bS (bh m (cZ T F)) F.length).headD 0)
noncomputable def gF(m:Bool × Nat)(T:List (List Nat))(F:List Nat):List Nat:=(gE m T F).map (gm m (j9 m ((gE m T F).getD 0 0)))
noncomputable def fX(m:Bool × Nat)(T:List (List Nat))(F:List Nat):List Nat:=(F.zip (gF m T F)).foldl (λr z=>r.set z.1 z.2) (aV (ai T) 0)
theorem OG(hm:m∈aw){T:List (List Nat)}(hw:0<ai T)(hT:RT (aa m) (ai T) T){F:List Nat}(h:fk m T=some F):(∃f fs,bS (bh m (cZ T F)) F.length=f::fs)/\(gE m T F).length=F.length/\AllLt (aa m) (gE m T F)/\(∀t,t<F.length->cf (gE m T F) t≠0)/\∀k,cY m (dD T) F (cf (gE m T F)) k=0:=by
 obtain⟨a1,a2,⟨c,c1,c2,c3⟩,a4⟩:=m4 hm hw hT h
 have Hj:T≠[]:=λz=>by rw[z]at hw;exact absurd hw (by decide)
 obtain⟨f,fs,e,l1,l2,l3,l4⟩:=cC7 hm hT Hj a1 (λS hS hl=>a4 S hS (.inl hl)) c1 c2 c3 a2
 have ek:gE m T F=dJ m (bh m (cZ T F)) F.length f:=by unfold gE;rw[e];rfl
 rw[ek]
 exact⟨⟨f,fs,e⟩,l1,l2,l3,l4⟩
theorem OH(hm:m∈aw){T:List (List Nat)}(hw:0<ai T)(hT:RT (aa m) (ai T) T){F:List Nat}(h:fk m T=some F):(gF m T F).length=F.length/\AllLt (aa m) (gF m T F)/\cf (gF m T F) 0=1/\(∀t,t<F.length->cf (gF m T F) t≠0)/\∀k,cY m (dD T) F (cf (gF m T F)) k=0:=by
 obtain⟨_,k1,k2,k3,k4⟩:=OG hm hw hT h
 obtain⟨_,a2,_,_⟩:=m4 hm hw hT h
 have k0:=k3 0 a2
 have kl:=dh hm k2 0
 obtain⟨iv,i1,i2⟩:=GH hm (lo1 hm) kl k0
 have ei:j9 m ((gE m T F).getD 0 0)=iv:=wX hm i1 i2
 unfold gF
 rw[ei]
 have ivn:iv≠0:=λz=>by rw[z,fj m _ (bM m hm)]at i2;cases i2
 refine⟨by rw[bq];exact k1,λy hy=>by
  obtain⟨z,_,rfl⟩:=bw.mp hy
  exact bC hm _ _,by rw[CC hm];exact i2,λt ht=>?_,λk=>?_⟩
 ·rw[CC hm]
  intro z
  rcases(zE hm i1 (dh hm k2 t)).mp z with z | z
  ·exact ivn z
  ·exact k3 t ht z
 ·have:cY m (dD T) F (cf ((gE m T F).map (gm m iv))) k=gm m iv (cY m (dD T) F (cf (gE m T F)) k):=by
   unfold cY
   rw[<-pE (rg hm)]
   refine cA λt _=>?_
   rw[CC hm,ig (bM m hm)]
  rw[this,k4,gA m _ (bM m hm)]
theorem OI(hm:m∈aw){T:List (List Nat)}(hw:0<ai T)(hT:RT (aa m) (ai T) T){F:List Nat}(h:fk m T=some F):(fX m T F).length=ai T/\AllLt (aa m) (fX m T F)/\(∀p,cf (fX m T F) p≠0↔p∈F)/\cf (fX m T F) (F.getD 0 0)=1/\∀r∈T,gd m r (fX m T F)=0:=by
 obtain⟨s1,s2,s3,s4,s5⟩:=OH hm hw hT h
 obtain⟨a1,a2,_,_⟩:=m4 hm hw hT h
 have cT:=lo1 hm
 obtain⟨p1,p2,p3,p4,p5⟩:=OF hm (w:=ai T) F (gF m T F) (aV (ai T) 0) s1.symm a1.1 a1.2 (fP ..) (λy hy=>by rw[(s9.mp hy).2];omega) s2 (λp _=>GG _ _)
 refine⟨p1,p2,λp=>⟨λhp=>?_,λhp=>?_⟩,?_,λr hr=>?_⟩
 ·by_cases c:p∈F
  ·exact c
  ·exact absurd ((p3 p c).trans (GG _ _)) hp
 ·obtain⟨t,ht,e⟩:=gI hp
  have:=p4 t ht
  rw[aN,aM ht]at this
  have e':(some F[t]).getD 0=p:=e
  rw[e']at this
  show cf ((F.zip (gF m T F)).foldl _ _) p≠0
  rw[this]
  exact s4 t ht
 ·exact(p4 0 a2).trans s3
 ·obtain⟨k,hk,rfl⟩:=gI hr
  have hl:=(hT _ hr).1
  rw[pI m (by show _=(fX m T F).length;rw[show(fX m T F).length=ai T from p1];exact hl),hl]
  have:=p5 (cf T[k])
  show dt m (ai T) (cf T[k]) (cf (fX m T F))=0
  rw[show dt m (ai T) (cf T[k]) (cf (fX m T F))=_ from this]
  have z1:dt m (ai T) (cf T[k]) (cf (aV (ai T) 0))=0:=fW (rg hm) λj _=>by
   show gm m _ (cf (aV (ai T) 0) j)=0
   rw[GG,gA m _ (bM m hm)]
  have z2:(sm (gp m) F.length λt=>gm m (cf T[k] (F.getD t 0)) (cf (gF m T F) t))=0:=by
   refine Eq.trans ?_ (s5 k)
   unfold cY
   refine cA λt _=>?_
   rw[fV]
   unfold dD
   rw[G5 hk]
  rw[z1,z2]
  exact u0 (by omega)
structure zG(m:Bool × Nat)(R W:Nat)(x y:Nat->Nat)(T:List (List Nat)):Prop where
 rt:RT (aa m) W T
 l:T.length=R
 xl:∀j,x j<aa m
 xd:∀i j,i<W->j<W->x i=x j->i=j
 yl:∀j,y j<aa m
 y0:∀j,j<W->y j≠0
 at_:∀i,i<R->∃k,k<R/\∀j,j<W->dD T j k=gm m (y j) (px m (x j) i)
theorem zG.ind(hm:m∈aw){R W:Nat}{x y:Nat->Nat}{T:List (List Nat)}(h:zG m R W x y T){S:List Nat}(hS:eM W S)(hR:S.length<=R):kK m (dD T) S:=by
 intro c hc hz t ht
 have gS:∀t,t<S.length->S.getD t 0<W:=λt ht=>hS.2 _ (dH ht 0)
 have:=Oi hm (λt=>x (S.getD t 0)) (λ_=>h.xl _) S.length (λt=>gm m (c t) (y (S.getD t 0))) (λ_=>bC hm _ _) (λi j hi hj e=>by
  have e':=h.xd _ _ (gS i hi) (gS j hj) e
  rcases Nat.lt_trichotomy i j with q | q | q
  ·have:=D7.mp hS.1 i j hi hj q
   rw[aN,aN,aM hi,aM hj]at e'
   have e2:S[i]=S[j]:=e'
   omega
  ·exact q
  ·have:=D7.mp hS.1 j i hj hi q
   rw[aN,aN,aM hi,aM hj]at e'
   have e2:S[i]=S[j]:=e'
   omega) (λi hi=>by
  obtain⟨k,_,hk⟩:=h.at_ i (by omega)
  refine Eq.trans (cA λt ht=>?_) (hz k)
  show gm m (gm m (c t) (y (S.getD t 0))) (px m (x (S.getD t 0)) i)=gm m (c t) (dD T (S.getD t 0) k)
  rw[hk _ (gS t ht),ig (bM m hm)]) t ht
 rcases(zE hm (hc t) (h.yl _)).mp this with z | z
 ·exact z
 ·exact absurd z (h.y0 _ (gS t ht))
theorem Hk{n W:Nat}(h:n<=W):eM W (aL n):=⟨D8,λx hx=>by have:=bU.mp hx;omega⟩
theorem Hl(hm:m∈aw){W:Nat}{T:List (List Nat)}(hT:RT (aa m) W T){F:List Nat}(hF:T.length<F.length):¬ kK m (dD T) F:=λI=>by
 have cT:=lo1 hm
 obtain⟨p1,p2⟩:=CT (F:=F) (by omega) hT
 obtain⟨x,f,hf,hx,x1,hz⟩:=Od hm p1 (by omega)
 have:=I x hx (λk=>by
  by_cases hk:k<T.length
  ·rw[<-Hi m hk];exact hz k (by omega)
  ·refine fW (rg hm) λt _=>?_
   have e:dD T (F.getD t 0) k=0:=by
    unfold dD
    rw[show T.getD k []=[] by rw[aN,gn (by omega)];rfl];rfl
   rw[e,gA m _ (bM m hm)]) f hf
 omega
theorem cm9{C:Nat->Nat->Nat}{F:List Nat}(h0:0<F.length){c:Nat->Nat}(c1:∀t,c t<aa m)(c2:c (F.length-1)=1)(c3:∀k,cY m C F c k=0):¬ kK m C F:=λI=>by
 have:=I c c1 c3 (F.length-1) (by omega)
 omega
theorem zG.first(hm:m∈aw){R W:Nat}{x y:Nat->Nat}{T:List (List Nat)}(h:zG m R W x y T)(hW:0<W)(hw:ai T=W):fk m T=if R<W then some (aL (R+1))else none:=by
 subst hw
 cases e:fk m T with
 | none =>
  have:=OE hm hW h.rt e
  by_cases c:R<ai T
  ·exact absurd (this _ (Hk (n:=R+1) c)) (Hl hm h.rt (by rw[bV,h.l];omega))
  ·rw[if_neg c]
 | some F =>
  obtain⟨a1,a2,⟨c,c1,c2,c3⟩,a4⟩:=m4 hm hW h.rt e
  have ni:=cm9 a2 c1 c2 c3
  have hl:R<F.length:=Nat.lt_of_not_le λz=>ni (h.ind hm a1 z)
  have c:R<ai T:=cB hl a1.len
  rw[if_pos c]
  have nr:=Hl hm h.rt (F:=aL (R+1)) (by rw[bV,h.l];omega)
  have hr:=Hk (n:=R+1) c
  have lr:(aL (R+1)).length=R+1:=bV
  have l2:F.length=R+1:=by
   rcases D6 (R+1) F.length with q | q
   ·exact absurd (a4 _ hr (.inl (by omega))) nr
   ·omega
  rcases OC (R+1) 0 (ai T) F a1.1 (λ_ _=>jE _) l2 with q | q
  ·rw[q,VX]
  ·rw[<-VX]at q
   exact absurd (a4 _ hr (.inr ⟨by omega,q⟩)) nr
end
end L3
namespace L3
open PySem L2 Mf
section
variable{N:Nat}{p q:Nat->Nat->Nat}
variable{ng:Nat->Nat}{c:Nat}
end
section
variable{m:Bool × Nat}
theorem ngn(hm:m∈aw){s:Nat}(hs:s<aa m):br m 0 s<aa m/\gp m (br m 0 s) s=0:=by
 have:=iT hm (a:=0) (b:=s) (by omega) hs
 exact⟨this.2.1,this.2.2⟩
end
end L3
namespace L2
open PySem PySem.Spec PyProof.Rows
section
variable{prog:Program}{w:World}{A:Around}{E:Value->Shared->Prop}{s:Shared}
end
section
variable{X:Cx}{e:Expr}{ta:TA}{p p2 pos CO:Pos}
end
end L2
namespace L3
open PySem L2 PySem.Spec PyProof.Rows
section
variable{X:Cx}{e:Expr}{tr:cm}{p p2 pos CO:Pos}
end
end L3
namespace L3
open PySem L2 Mf
section
variable{m:Bool × Nat}
theorem cr9{N:Nat}{p q:Nat->Nat->Nat}(r:Rg N p q){f:Nat->Nat}(hf:∀j,f j<N){n a:Nat}(ha:a<n):sm p n f=p (f a) (sm p n λj=>if j=a then 0 else f j):=by
 rw[cA (g:=λj=>p (if j=a then f a else 0) (if j=a then 0 else f j)) λj _=>?_,mY r,m3 r (f:=λj=>if j=a then f a else 0) (j0:=a) (by simp[hf]) ha λj _ hj=>if_neg hj]
 ·simp
 ·by_cases c:j=a
  ·subst c;simp[r.z' (hf j)]
  ·simp[c,r.z (hf j)]
theorem OJ{N:Nat}{p q:Nat->Nat->Nat}(r:Rg N p q){n:Nat}:∀{ps:List Nat} {f:Nat->Nat},(∀j,f j<N)->ps.Nodup->(∀a∈ps,a<n)->(∀j,j<n->j ∉ ps->f j=0)->sm p n f=sm p ps.length λk=>f (ps.getD k 0)
 | [],f,_,_,_,hz=>fW r λj hj=>hz j hj gJ
 | a::ps,f,hf,nd,hp,hz=>by
  obtain⟨n1,n2⟩:=jF.mp nd
  have GU:∀j,(if j=a then 0 else f j)<N:=λj=>by
   by_cases c:j=a
   ·rw[if_pos c];exact r.pos
   ·rw[if_neg c];exact hf j
  rw[cr9 r hf (hp a gj),OJ r (ps:=ps) GU n2 (λb hb=>hp b (ft _ hb)) λj hj hn=>?_,gH,NJ r _ λj _=>hf _]
  ·show _=p (f a) (sm p ps.length λk=>f (ps.getD k 0))
   congr 1
   refine cA λj hj=>?_
   have:=dH hj 0
   exact if_neg λ(z:ps.getD j 0=a)=>n1 (z ▸ this)
  ·by_cases c:j=a
   ·exact if_pos c
   ·rw[if_neg c]
    exact hz j hj λh=>by
     rcases bR.mp h with h | h
     ·exact c h
     ·exact hn h
theorem cu2(hm:m∈aw){a b:Nat}(ha:a<aa m)(hb:b<aa m)(h:a≠b):br m a b≠0:=λz=>by
 have g:=(iT hm ha hb).2.2
 rw[z,u0 hb]at g
 exact h g.symm
section
variable{b e L o:Nat}{y:List (Option Nat)}{w c:List Nat}{bb:Nat->Nat}
end
end
end L3
namespace L3
open PySem L2 Mf
section
variable{m:Bool × Nat}
theorem wZ:∀{l l':List Nat},l.Nodup->(∀a∈l,a∈l')->l.length<=l'.length
 | [],_,_,_=>jE _
 | a::l,l',nd,h=>by
  obtain⟨n1,n2⟩:=jF.mp nd
  have ha:=h a gj
  have:=wZ (l:=l) (l':=l'.erase a) n2 λb hb=>(List.mem_erase_of_ne (λz:b=a=>n1 (z ▸ hb))).mpr (h b (ft _ hb))
  rw[List.length_erase_of_mem ha]at this
  have:=List.length_pos_of_mem ha
  rw[gH]
  omega
end
end L3
namespace L3
open PySem L2 Mf
section
variable{m:Bool × Nat}
end
end L3
namespace L3
open PySem L2 Mf
section
variable{m:Bool × Nat}
end
end L3
namespace L3
open PySem L2 Mf
section
variable{m:Bool × Nat}
theorem ct2(hm:m∈aw){r u v ps:List Nat}{n:Nat}(hu:AllLt (aa m) u)(hv:AllLt (aa m) v)(lr:r.length=n)(lu:u.length=n)(lv:v.length=n)(nd:ps.Nodup)(hp:∀p∈ps,p<n)(hs:∀j,j<n->j ∉ ps->cf u j=cf v j) :
  gd m r u=gp m (sm (gp m) ps.length λt=>gm m (cf r (ps.getD t 0)) (br m (cf u (ps.getD t 0)) (cf v (ps.getD t 0)))) (gd m r v):=by
 have g:=rg hm
 have h0:=bM m hm
 have dn:∀j,gp m (br m (cf u j) (cf v j)) (cf v j)=cf u j:=λj=>(iT hm (dh hm hu j) (dh hm hv j)).2.2
 rw[pI m (lr.trans lu.symm),pI m (lr.trans lv.symm),lr,
  cA (g:=λk=>gp m (gm m (cf r k) (br m (cf u k) (cf v k))) (gm m (cf r k) (cf v k))) λk _=>by rw[<-zj h0,dn k],mY g,
  OJ g (ps:=ps) (f:=λk=>gm m (cf r k) (br m (cf u k) (cf v k))) (λ_=>bC hm _ _) nd hp λj hj hn=>by rw[hs j hj hn,CB,gA m _ h0]]
end
end L3
namespace L3
open PySem L2 PySem.Spec PyProof.Rows
section
variable{X:Cx}{e:Expr}{t:aO}
noncomputable def sI(t:aO):aO:=λδ Q=>t δ λd ah=>Q d.sh ah
theorem OK(h:PE X e (lE t)):PE X e (lB (sI t)):=dF h λσ H Q zq=>by
 obtain⟨B,F,δ,ts,Qd,c,q,k⟩:=zq
 exact⟨B,F,δ,ts,_,c,q,λd ah v F' H' hd sf sh c'=>by
 obtain⟨F2,f2,c2⟩:=c'.BG
 exact k d.sh ah v F2 H' hd (sf.trans f2) sh c2.pop c2.top⟩
end
end L3
namespace L3
open PySem L2 Mf
section
variable{m:Bool × Nat}
theorem Hm(hm:m∈aw){T:List (List Nat)}(hT:RT (aa m) (ai T) T):RT (aa m) (ai T) (gY m (bh m T) (ai T))/\(gY m (bh m T) (ai T)).length<=ai T:=by
 obtain⟨⟨Hd,I⟩,iR,_,_⟩:=ka hm hT
 refine⟨λr hr=>?_,?_⟩
 ·obtain⟨f,hf,rfl⟩:=bw.mp hr
  obtain⟨k1,k2,_⟩:=u7 hm iR I hf
  exact⟨k1,k2⟩
 ·unfold gY bS
  rw[bq]
  exact fG (VY ..) (by rw[bV];exact bE _)
theorem cz1(hm:m∈aw){T:List (List Nat)}(hT:RT (aa m) (ai T) T):∀r∈bh m T,∃x∈r,x≠0:=λr aZ=>by
 obtain⟨⟨Hd,I⟩,iR,_,_⟩:=ka hm hT
 obtain⟨j,hj,rfl⟩:=gI aZ
 have:=(I.CL hm iR hj).2
 rw[G5 hj]at this
 exact this
theorem ch4(hm:m∈aw){T:List (List Nat)}{xs:List Nat}(hT:RT (aa m) (ai T) T)(hx:xs.length=(gY m (bh m T) (ai T)).length):∀r∈T,gd m r (lY m xs (gY m (bh m T) (ai T)) (ai T))=0:=λr hr=>by
 have h0:=bM m hm
 obtain⟨⟨Hd,I⟩,iR,_,_⟩:=ka hm hT
 have s:bX m (bh m T) (cf r):=bX.red hm hT (bX.of hr)
 rw[pI m ((hT r hr).1.trans (GY ..).symm),(hT r hr).1]
 rw[cA (g:=λj=>gm m (cf r j) (sm (gp m) (gY m (bh m T) (ai T)).length λi=>gm m (cf xs i) (cf ((gY m (bh m T) (ai T)).getD i []) j))) λj hj=>by rw[N7 m hx hj]]
 have e:=G3 hm (ai T) (cf r) (cf xs) (λi=>cf ((gY m (bh m T) (ai T)).getD i [])) (gY m (bh m T) (ai T)).length
 unfold dt at e
 rw[e]
 refine fW (rg hm) λi hi=>?_
 have z:=dH hi []
 generalize (gY m (bh m T) (ai T)).getD i []=K at z
 obtain⟨f,hf,rfl⟩:=bw.mp z
 have:=bX.dt hm (R:=bh m T) (n:=ai T) (y:=cf (dJ m (bh m T) (ai T) f)) (λi hi=>CN hm iR I hf hi) s
 unfold dt at this
 rw[this,gA m _ h0]
end
end L3
namespace L3
open PySem L2 Mf
section
variable{m:Bool × Nat}
end
end L3
namespace L2
open PySem PySem.Spec PyProof.Rows
section
variable{X:Cx}{CX:eP}{k:Nat}{f C:Addr}{fd:FuncData}{ps:List Str}{sp:Sp}{E:XK}{x m:Str}{p pos apos:Pos}{e:Expr}{es:List Expr}{t:TA}
noncomputable def tCM(sp:Sp)(E:XK)(t:TA):TE:=λσ H Q=>t σ H λvs H1=>sp vs H1 Q E
theorem Ho{pl:Sem Bool}(M:uV X.K C m f)(F:aH X.prog X.w X.K X.mg X.base CX k f fd ps sp)(hr:bQ k X.A)(hb:Binds X.K fd ps [])(hx:jO CX X E)(hg:Gl X x)(hm:X.mg x=some (.ref C))(ha:PA X (e::es) t)
  (cS:(x==("__debug__":Str))=false:=by decide) (cy:starEach (e::es) X.env=(false,eval e X.env)::starEach es X.env:=by rfl) (bu:(backTo pos (starEach es X.env)).any (·.1)=false:=by rfl)
  (ht:eval (.Call (.Attribute (.Name x p) m apos) (e::es) [] pos) X.env=(do
   let ov<-eval (.Name x p) X.env
   standAt apos.atName
   let (f,first)<-holding [ov] (getMethod ov m pl)
   callWith pos f first (backTo pos (starEach (e::es) X.env)) (backToKw pos (keywordEach [] X.env))):=by rfl) :
  PE X (.Call (.Attribute (.Name x p) m apos) (e::es) [] pos) (tCM sp E t):=by
 intro pins s σ H Q I h
 exact MX (pl:=pl) I M hg hm ha h (λus s1 vs H1 I1 r q=>yf (fw:=[]) F hr hb .nil hx I1 r (by rw[fu];exact q)) cS cy bu ht
end
end L2
namespace L3
open PySem L2 PySem.Spec PyProof.Rows
end L3
namespace L3
open PySem L2 PySem.Spec PyProof.Rows
noncomputable def zH(tl:List Addr)(C:Addr)(iP:List D->List Str->List D->Prop):L2.Sp:=λvs H Q _=>∃F H0 x dx bK ds ns xs,vs=.ref x::bK/\Tb tl H/\af F H0/\H0 x=none/\af H0 H/\H x=some (.ins C dx [])/\R F H0 ds bK []/\iP ds ns xs /\
 ∀H' ws A,bL x H H'->H' x=some (.ins C dx (ns.zip ws))->ns.length=ws.length->R F H' xs ws A->A.Nodup->(∀a∈A,H a=none)->Q .au H'
noncomputable def pL(C:Addr)(iP:List D->List Str->List D->Prop)(ta:cm):aO:=λδ Q=>ta δ λds ah=>ds.all D.pl=true/\∃ns xs,iP ds ns xs/\Q (.obj C ns (xs.map D.sh)) ah
theorem ak.OL{B:Bs}{F H H':Hp}{σ:L2.St}{δ:Dl}{ts:List (D × V)}{C dx x:Addr}{ns:List Str}{xs:List D}{ws:List V}{A:List Addr}(c:ak B F H σ δ ts)(hs:af H H')(hx:H' x=some (.ins C dx (ns.zip ws)))(hl:ns.length=ws.length)
  (r1:R F H' xs ws A) (fr:∀a∈A,H a=none):af F (L3.bj F H' A)/\ak B (L3.bj F H' A) H' σ δ ((.obj C ns (xs.map D.sh),.ref x)::ts):=by
 have c1:=c.grow hs
 have r2:=r1.bj c1.ext A (λ_ h=>h)
 have fs:af F (L3.bj F H' A):=iH c1.ext
 obtain⟨A',C',r',s',nd,wO⟩:=c.own
 have out:∀a,(∃ws,H a=some (.lst ws))/\F a=none->L3.bj F H' A a=none:=λa zz=>by
  obtain⟨⟨ws,h⟩,hf⟩:=zz
  rw[qE (λz=>by rw[fr a z]at h;cases h)];exact hf
 have g1:=r'.grow fs hs λa ha=>out a (r'.lists a ha)
 have g2:=s'.keep fs (gb.same hs) gO.nil (λa ha=>out a (s'.lists a ha)) (by simp)
 refine⟨fs,nV c1.ext,c1.b1,c1.b2.trans fs,λa ws h=>?_,A',C',?_,g2,nd,wO⟩
 ·by_cases z:a∈A
  ·exact .inr (c.b1.free (fr a z))
  ·rw[qE z]at h;exact c.b3 a ws h
 ·exact R.obj hx hl r2 g1
section
variable{X:Cx}{CX:eP}{n:Nat}{f C:Addr}{fd:FuncData}{ps:List Str}{iP:List D->List Str->List D->Prop}{E:XK}{x:Str}{p pos:Pos}{e:Expr}{es:List Expr}{t:cm}{tl:List Addr}
theorem zI(hT:Tb tl X.jK)(M:L2.Mk X.K C f)(F:aH X.prog X.w X.K X.mg X.base CX n f fd ps (zH tl C iP))(hr:bQ (n+1) X.A)(hg:Gl X x)(hm:X.mg x=some (.ref C))(hb:Binds X.K fd ps [])(hx:jO CX X E)
  (ha:PA X (e::es) (lA t)) (cS:(x==("__debug__":Str))=false:=by decide) (he:starEach (e::es) X.env=(false,eval e X.env)::starEach es X.env:=by rfl) (bu:(backTo pos (starEach es X.env)).any (·.1)=false:=by rfl) :
  PE X (.Call (.Name x p) (e::es) [] pos) (lE (pL C iP t)):=by
 intro pins s σ H Q I zz
 obtain⟨B,F',δ,ts,Qd,c,q,k⟩:=zz
 have tb:=Cc I hT
 refine EE M F hr hg hm hb .nil hx ha cS he bu pins s σ H Q I ⟨B,F',δ,ts,_,c,q,λds aj vs F1 H1 q1 f1 h1 c1 s1=>?_⟩
 intro x dx bO dZ jS
 obtain⟨hp,ns,xs,hI,hq⟩:=q1
 have sm:af H1 (upd (upd H1 dx (.own x)) x (.ins C dx [])):=.of λb o e=>by rw[aT (dX e bO),aT (dX e dZ)];exact e
 refine⟨F1,H1,x,dx,vs,ds,ns,xs,by rw[fu],uW (uW tb h1) sm,c1.ext,bO,sm,bI,s1.r hp,hI,λH' ws A sq dr hl r nd fr=>⟨rfl,?_⟩⟩
 have s2:af H1 H':=⟨λb o e n=>sq.get b o (dX e bO) (sm.get b o e n) n,λb ps e=>by
  obtain⟨m1,e1⟩:=sm.tb b ps e
  obtain⟨m2,e2⟩:=sq.tb b _ e1
  exact⟨m1++m2,by rw[e2,sS]⟩⟩
 obtain⟨fs,c2⟩:=c1.OL s2 dr hl r λa ha=>sm.free (fr a ha)
 exact k _ aj _ _ H' hq (f1.trans fs) (h1.trans s2) c2
end
section
variable{X:Cx}{e:Expr}{te:aO}{x:Str}{p pos:Pos}{i:Nat}
end
theorem bL.of0{x:Addr}{H0 H H':Hp}(h0:H0 x=none)(s:af H0 H)(sx:bL x H H'):af H0 H' :=
 ⟨λb o e n=>sx.get b o (λz=>by rw[z,h0]at e;cases e) (s.get b o e n) n,λb ps e=>by
  obtain⟨m1,e1⟩:=s.tb b ps e
  obtain⟨m2,e2⟩:=sx.tb b _ e1
  exact⟨m1++m2,by rw[e2,sS]⟩⟩
theorem w4{F H:Hp}{v:V}{A:List Addr}{xs:List D}(r:R F H [.lst true xs] [v] A):∃p,v=.ref p:=by
 cases r
 exact⟨_,rfl⟩
theorem OM{F H F' H':Hp}:∀{l:List Int} {ws:List V} {A:List Addr},R F H (aJ l) ws A->R F' H' (aJ l) ws A
 | [],_,_,r=>by cases r;exact .nil
 | i::l,_,_,r=>by
  cases r with
  | int r=>exact .int (OM r)
theorem ON{F H H':Hp}:∀{G:List (List Nat)} {ws:List V} {A:List Addr},R F H (ax true G) ws A->(∀a∈A,H' a=H a)->R F H' (ax true G) ws A
 | [],_,_,r,_=>by cases r;exact .nil
 | g::G,_,_,r,h=>by
  cases r with
  | own e f x y=>exact .own (by rw[h _ gj];exact e) f (OM (l:=g.map λ(n:Nat)=>(n:Int)) x) (ON y λa ha=>h a (ft _ (dj _ ha)))
theorem OO{F H H':Hp}{G:List (List Nat)}{v:V}{A:List Addr}(r:R F H [.lst true (ax true G)] [v] A)(h:∀a∈A,H' a=H a):R F H' [.lst true (ax true G)] [v] A:=by
 cases r with
 | own e f x y =>
  cases y
  exact .own (by rw[h _ gj];exact e) f (ON x λa ha=>h a (ft _ (eN _ ha))) .nil
noncomputable abbrev m5:List Str:=["field","length","check_rows","word_rows","message_places","size"]
structure c34(K:PySem.W.Frag)(C:Addr):Prop where
 cls:cE K C
 field:bf K C "field"
 length:bf K C "length"
 c35:bf K C "check_rows"
 c36:bf K C "word_rows"
 OP:bf K C "message_places"
 size:bf K C "size"
end L3
namespace L3
open PySem L2 Mf
section
variable{m:Bool × Nat}
noncomputable def l6(m:Bool × Nat)(n i:Nat):List Nat:=aV i 0++[1]++aV (n-2-i) 0++[br m 0 1]
noncomputable def eE(m:Bool × Nat)(n:Nat):List (List Nat):=(aL (n-1)).map (l6 m n)
theorem w9{n i:Nat}(hi:i<n-1)(j:Nat):cf (l6 m n i) j=if j=i then 1 else if j=n-1 then br m 0 1 else 0:=by
 unfold l6 cf
 rw[aN]
 by_cases c1:j<i
 ·rw[if_neg (by omega),if_neg (by omega),eC,eC,sU (by rw[fP];exact c1),nq,if_pos c1];rfl
 ·by_cases c2:j=i
  ·rw[if_pos c2,eC,eC,pZ (by rw[fP];omega),fP,c2,JO];rfl
  ·rw[if_neg c2]
   by_cases c3:j<n-1
   ·rw[if_neg (by omega),sU (by simp only[eO,fP,p8];omega),pZ (by simp only[eO,fP,p8];omega),nq]
    split<;>rfl
   ·rw[pZ (by simp only[eO,fP,p8];omega)]
    simp only[eO,fP,p8]
    by_cases c4:j=n-1
    ·rw[if_pos c4,show j-(i+1+(n-2-i))=0 by omega];rfl
    ·rw[if_neg c4,gn (by rw[p8];omega)];rfl
theorem xb(hm:m∈aw){n:Nat}(h2:2<=n):RT (aa m) n (eE m n)/\(eE m n).length=n-1/\ai (eE m n)=n:=by
 have cT:=lo1 hm
 have g:=(iT hm (show 0<aa m by omega) (show 1<aa m by omega)).2.1
 have l:(eE m n).length=n-1:=by unfold eE;rw[bq,bV]
 have r:RT (aa m) n (eE m n):=λx hx=>by
  obtain⟨i,hi,rfl⟩:=bw.mp hx
  have hi:=bU.mp hi
  unfold l6
  refine⟨by simp only[eO,fP,p8];omega,λa ha=>?_⟩
  simp only[bY,s9,fc]at ha
  rcases ha with ((⟨_,rfl⟩ | rfl) | ⟨_,rfl⟩) | rfl
  ·omega
  ·omega
  ·omega
  ·exact g
 exact⟨r,l,u9 r λz=>by rw[z]at l;exact absurd l (by show ¬ (0=n-1);omega)⟩
theorem b70(hm:m∈aw){n s:Nat}(h2:2<=n)(hs:s<aa m):∀r∈eE m n,gd m r (aV n s)=0:=λr hr=>by
 have g:=rg hm
 have h0:=bM m hm
 have cT:=lo1 hm
 obtain⟨rt,l,w⟩:=xb hm h2
 obtain⟨i,hi,rfl⟩:=bw.mp hr
 have hi:=bU.mp hi
 have lr:=(rt _ hr).1
 rw[pI m (by rw[lr,fP]),lr,G1 g (f:=λj=>gm m (cf (l6 m n i) j) (cf (aV n s) j)) (a:=i) (b:=n-1) (by omega) (by omega) (by omega) (bC hm _ _) (bC hm _ _) λj hj c1 c2=>by rw[w9 hi,if_neg c1,if_neg c2,fj m _ h0]]
 have e:∀j,j<n->cf (aV n s) j=s:=λj hj=>by unfold cf;rw[aN,nq,if_pos hj];rfl
 rw[w9 hi,if_pos rfl,w9 hi,if_neg (by omega),if_pos rfl,e i (by omega),e (n-1) (by omega),<- CA h0,mW,(iT hm (show 0<aa m by omega) (show 1<aa m by omega)).2.2,fj m _ h0]
end
end L3
namespace L2
open PySem PySem.Spec PyProof.Rows
structure CU(K:PySem.W.Frag)(x qual:Str)(st:Stmt)(f:Addr)(fd:FuncData):Prop where
 ex:∃(oc:Value) (od:Option Addr) (dV kV doc pm:Value) (an:Option Addr) (ay ct:Value) (iB:Array (Option Value)),
  fd=PySem.W.fnOf x qual (mx st) (iD st) (aK st) dV kV doc pm an ay ct/\K.lookup f=some ⟨oc,od,.func fd,iB⟩/\PySem.W.codeIn K ay qual=true
 kp:PySem.W.keepIn K (.ref f)=true
section
variable{P:Program}{w:World}{K:PySem.W.Frag}{mg:Str->Option Value}{base:Heap}
theorem CU.ok{x qual:Str}{st:Stmt}{f:Addr}{fd:FuncData}{N ps:List Str}{k:Nat}{sp:Sp}(F:CU K x qual st f fd)(S:aU N ps (aK st))(len:∀vs H Q E,sp vs H Q E->vs.length=ps.length)
  (hJ:∀(ay:Value) (A:Around) (outer:List Env) (s:Shared) (H:Hp) (vs:List V) (Q:VK) (E:XK),bQ k (A.deeper (envOfC qual (aK st) s.heap.objs.size f ay))->sp vs H Q E ->
   ∃t,PSs (iX aP P w K mg base N qual (aK st) f ay A outer s H E).g7 (iD st) t/\t { nx:=λ_ H'=>Q .au H',rt:=Q } (start N vs) H):aH P w K mg base aP (k+1) f fd ps sp:=by
 obtain⟨oc,od,dV,kV,doc,pm,an,ay,ct,iB,rfl,lk,cR⟩:=F.ex
 refine Bp lk cR S len λA outer s H vs Q E hr jr=>?_
 obtain⟨t,h,q⟩:=hJ ay A outer s H vs Q E hr jr
 exact⟨t,h.g7,q⟩
theorem c38{x qual:Str}{st:Stmt}{f:Addr}{oc:Value}{od an:Option Addr}{iB:Array (Option Value)}{dV kV doc pm ay ct:Value}(l:K.lookup f=some ⟨oc,od,.func (PySem.W.fnOf x qual (mx st) (iD st) (aK st) dV kV doc pm an ay ct),iB⟩)
  (c:PySem.W.codeIn K ay qual=true) (k:PySem.W.keepIn K (.ref f)=true):CU K x qual st f (PySem.W.fnOf x qual (mx st) (iD st) (aK st) dV kV doc pm an ay ct):=⟨⟨oc,od,dV,kV,doc,pm,an,ay,ct,iB,rfl,l,c⟩,k⟩
theorem c39{fd:FuncData}{ps:List Str}{T:Addr}{o:Obj}{items:Array Value}{n:Nat}(hd:fd.defaults=.ref T)(ho:K.lookup T=some o)(hs:o.data=.seq items n)
  (h:∀us:List Value,us.length=ps.length->∃k,bindArgs fd ⟨us,[]⟩=seqItems? fd.defaults >>= k/\k (some items)=pure (ps.zip us)):Binds K fd ps []:=λs us KX hl=>by
 rw[fu]at hl ⊢
 obtain⟨k,h1,h2⟩:=h us hl
 exact .of_defaults hd (KX _ _ ho) hs h1 h2
end
end L2
namespace L3
open PySem L2 Mf
inductive Kd
 | pM (b:Nat) | rep | vd (e f:Nat)
structure pO(pre:List (Str × V)):Prop where
 put:∀(n:Str) (v:V) (l:List (Str × V)),n∈m5->b9 n v (pre++l)=pre++b9 n v l
 look:∀(n:Str) (l:List (Str × V)),n∈m5->(pre++l).lookup n=l.lookup n
 len:pre.length<=2
theorem pO.nil:pO []:=⟨λ_ _ _ _=>rfl,λ_ _ _=>rfl,by decide⟩
theorem pO.two(e f:V):pO [("extra",e),("first",f)]:=by
 have h1:∀n∈m5,("extra":Str)≠n/\("first":Str)≠n:=by decide
 refine⟨λn v l hn=>?_,λn l hn=>?_,bE 2⟩
 ·obtain⟨a,b⟩:=h1 n hn
  show b9 n v (("extra",e)::("first",f)::l)=_
  rw[b9,if_neg a,b9,if_neg b];rfl
 ·obtain⟨a,b⟩:=h1 n hn
  show l9 n (("extra",e)::("first",f)::l)=_
  rw[fZ,beq_false_of_ne a.symm,fZ,beq_false_of_ne b.symm]
theorem pO.lt{pre l:List (Str × V)}(h:pO pre)(hl:l.length<=6):(pre++l).length<1000:=by
 have:=h.len
 rw[eO];omega
section
variable{m:Bool × Nat}{G:List (List Nat)}
noncomputable def l7(m:Bool × Nat)(G:List (List Nat)):List (List Nat):=gY m (bh m G) (ai G)
noncomputable def b8(m:Bool × Nat)(G:List (List Nat)):List Nat:=bS (bh m G) (ai G)
noncomputable def m6(cb cp:Addr)(o:Bool)(m:Bool × Nat)(G:List (List Nat)):List D:=[fD cb cp m,.int (ai G:Nat),.lst o (ax o G),.lst o (ax o (l7 m G)),.lst o (aq (b8 m G)),.int ((b8 m G).length:Nat)]
noncomputable def wj(cb cp cc cr cs:Addr)(m:Bool × Nat)(G:List (List Nat)):Kd->D
 | .pM b=>.obj cc ["field","length","check_rows","word_rows","message_places","size","bound"] (m6 cb cp false m G++[.int (b:Nat)])
 | .rep=>.obj cr m5 (m6 cb cp false m G)
 | .vd e f=>.obj cs ["extra","first","field","length","check_rows","word_rows","message_places","size"] ([.int (e:Nat),.int (f:Nat)]++m6 cb cp false m G)
theorem xf(cb cp:Addr)(o:Bool)(m:Bool × Nat)(G:List (List Nat)):(m6 cb cp o m G).map D.sh=m6 cb cp false m G:=by
 unfold m6
 simp only[da,jH,zi,cU,fC,B9,<- cO,lK]
theorem sJ(cb cp cc cr cs:Addr)(m:Bool × Nat)(G:List (List Nat))(k:Kd):(wj cb cp cc cr cs m G k).sh=wj cb cp cc cr cs m G k:=by cases k<;>rfl
theorem Hq(cb cp cc cr cs:Addr)(m:Bool × Nat)(G:List (List Nat))(k:Kd):(wj cb cp cc cr cs m G k).pl=true:=by cases k<;>rfl
structure eR(m:Bool × Nat)(G:List (List Nat)):Prop where
 hm:m∈aw
 rt:RT (aa m) (ai G) G
 len:G.length<=64
 wid:ai G<=64
 sz:0<(b8 m G).length
theorem eR.red(h:eR m G):(∃H,RR (ai G) (bh m G) H)/\RT (aa m) (ai G) (bh m G):=⟨(ka h.hm h.rt).1,(ka h.hm h.rt).2.1⟩
theorem ve(m:Bool × Nat)(G:List (List Nat)):(l7 m G).length=(b8 m G).length:=by unfold l7 b8 gY;rw[bq]
theorem ct9{j:Nat}(hj:j<(b8 m G).length):(l7 m G).getD j []=dJ m (bh m G) (ai G) ((b8 m G).getD j 0):=u6 (dJ m (bh m G) (ai G)) hj 0 []
theorem OQ{j:Nat}(hj:j<(b8 m G).length):(b8 m G).getD j 0∈bS (bh m G) (ai G):=by
 rw[aN,aM hj];exact dE hj
theorem OR(m:Bool × Nat)(G:List (List Nat)):(b8 m G).Nodup:=JP _ AU
theorem cp8{j:Nat}(hj:j∈b8 m G):j<ai G:=bU.mp (nk.mp hj).1
theorem eR.rows(h:eR m G):RT (aa m) (ai G) (l7 m G):=(Hm h.hm h.rt).1
theorem eR.G4(h:eR m G):(b8 m G).length<=ai G:=by rw[<-ve];exact(Hm h.hm h.rt).2
theorem eR.wide(h:eR m G):ai (l7 m G)=ai G:=u9 h.rows λz=>by
 have:=h.sz
 rw[<-ve,z]at this
 exact absurd this (by decide)
noncomputable def pP(m:Bool × Nat)(G:List (List Nat))(l:List Nat):List Nat:=lY m l (l7 m G) (ai G)
theorem co9(m:Bool × Nat)(G:List (List Nat))(l:List Nat):(pP m G l).length=ai G:=GY ..
theorem eR.wlt(h:eR m G){l:List Nat}(hl:l.length=(b8 m G).length):AllLt (aa m) (pP m G l):=N8 h.hm _ (by rw[ve];exact hl)
theorem eR.word(h:eR m G){l:List Nat}(hl:l.length=(b8 m G).length):∀r∈G,gd m r (pP m G l)=0:=ch4 h.hm h.rt (by rw[hl,<- ve];rfl)
theorem eR.at(h:eR m G){l:List Nat}(hl:l.length=(b8 m G).length)(al:AllLt (aa m) l){j:Nat}(hj:j<(b8 m G).length):cf (pP m G l) ((b8 m G).getD j 0)=cf l j:=by
 have hm:=h.hm
 have g:=rg hm
 obtain⟨⟨H,I⟩,hR⟩:=h.red
 have fr:=λ{k:Nat} (hk:k<(b8 m G).length)=>(I.free hm hR _).mp (OQ hk)
 unfold pP
 rw[N7 m (by rw[ve];exact hl) (fr hj).1,ve]
 have k1:∀i,i<(b8 m G).length->cf ((l7 m G).getD i []) ((b8 m G).getD j 0)=if i=j then 1 else 0:=λi hi=>by
  rw[ct9 hi]
  obtain⟨_,_,a,_,b⟩:=u7 hm hR I (OQ hi)
  by_cases c:i=j
  ·rw[if_pos c,<- c];exact a
  ·rw[if_neg c]
   refine b _ (λz=>c ?_) (fr hj).2
   rw[aN,aN,aM hi,aM hj]at z
   exact((Jj (OR m G)).mp z).symm
 rw[m3 g (f:=λi=>gm m (cf l i) (cf ((l7 m G).getD i []) ((b8 m G).getD j 0))) (j0:=j) (bC hm _ _) hj λi hi c=>by rw[k1 i hi,if_neg c,fV m _ 0,fj m _ (bM m hm)],k1 j hj,if_pos rfl,mV (dh hm al j)]
end
end L3
namespace L3
open PySem L2 PySem.Spec PyProof.Rows
section
variable{X:Cx}{scope:Scope}{tg iter elt:Expr}{ifs:List Expr}{pos:Pos}{cl:List (Str × Addr)}{ti:i5}{g:iJ}{tt:fI}{te:aO}
theorem b29{i:Nat}{x:Str}{pos' apos:Pos}(hN:X.N.Nodup)(mP:X.N[i]?=some x)(hx:L2.Loc X.env.scope x)(az:List (Str × Nat))(bF:List Str)(hc:X.calm=true)(hi:PI X tg iter (lI ti))
  (hg:∀C s H fp,PG (dP X scope (az.map (·.1)++bF) cl C s H fp) tg (lG az.length g))
  (ht:∀C s H fp,mB (dP X scope (az.map (·.1)++bF) cl C s H fp) ifs (lT tt)) (he:∀C s H fp,PE (dP X scope (az.map (·.1)++bF) cl C s H fp) elt (lE te))
  (lQ:closureFor scope X.env=pure cl) (lR:mC X cl) (lU:∀C:Addr,mD (cellsFrom (C+1) scope.names cl) (relabel scope X.env).names) (lV:∀C:Addr,my X scope (cellsFrom (C+1) scope.names cl) az)
  (iC:scope.kind=.function) (lW:∀y∈scope.names,y.2=.local->scope.names.lookup y.1=some .local)
  (uh:swapsWith (.ListComp elt [⟨tg,iter,ifs,0⟩] scope pos) (some (.Name x pos')) apos.line X.env=pure true:=by rfl) (hf:X.fn x=true\/X.env.scope.names.lookup x=some .local:=by first | exact .inl rfl | exact .inr rfl)
  (hs:∀x,foldedSetIterable iter X.env x=pure x:=by intro _;rfl):PS X (.Assign [.Name x pos'] (.ListComp elt [⟨tg,iter,ifs,0⟩] scope pos) apos) (λEn σ H=>lE (mJ ti az bF.length g tt te) σ H λv H'=>En.nx (σ.set i (some v)) H') :=
 kD (NV hN mP hx hf az bF hc hi hg ht he lQ lR lU lV iC lW uh hs) λEn σ H ⟨B,F,δ,ts,Qd,c,q,k⟩=>⟨B,F,δ,ts,_,c,q,λsh xs aj J F1 H1 hq f1 h1 c1 oq ub=>by
  obtain⟨p,f,hx,df,hlen,hQ⟩:=hq
  exact Fx c1 oq ub p f hx df hlen hQ λd ah v F' H' hd hf hs c'=>k d ah v F' H' hd (f1.trans hf) (h1.trans hs) c'⟩
end
theorem ak.self{F H:Hp}{σ:L2.St}{δ:Dl}{o:Option V}(e:af F H)(r:RS F H δ σ []):ak ⟨H,F⟩ F H (o::σ) (none::δ) []:=⟨e,af.refl _,af.refl _,λ_ _ q=>.inl q,[],[],.nil,.au r,by simp,by simp⟩
end L3
namespace L2
open PySem
theorem a8{N P:List Str}{sc:Scope}(a:sc.kind=.function:=by rfl)(b:sc.isCoroutine=false:=by rfl)(c:sc.isGenerator=false:=by rfl)(d:N.Nodup:=by decide +kernel)(e:N.take P.length=P:=by rfl)(f:∀x∈P,sc.names.lookup x=some .local\/sc.names.lookup x=some .cell:=by decide +kernel)(g:∀y∈sc.names,y.2≠.free:=by decide +kernel):aU N P sc:=⟨a,b,c,d,e,f,g⟩
end L2
namespace L2
open PySem
end L2
namespace L3
open PySem L2 PySem.Spec PyProof.Rows
theorem dQ{X:Cx}{m i:Nat}{x:Str}{pos:Pos}(hN:X.N.Nodup)(hi:X.N[i]?=some x:=by rfl)(hx:Loc X.env.scope x:=by first | exact aA (lookup_relabel_local rfl) | exact cJ rfl | exact aA rfl)(hm:m<=i:=by decide)
  (hf:X.fn x=true\/X.env.scope.names.lookup x=some .local:=by first | exact .inr (lookup_relabel_local rfl) | exact .inl rfl | exact .inr rfl):PG X (.Name x pos) (lG m (gN i)):=mI hN hi hx hm hf
theorem zJ{X:Cx}{m i1 i2:Nat}{y1 y2:Str}{t1 t2 tp:Pos}{tk:Nat}(B8:X.N.Nodup)(hc:X.calm=true:=by rfl)(m1:X.N[i1]?=some y1:=by rfl)(l1:Loc X.env.scope y1:=by first | exact aA (lookup_relabel_local rfl) | exact cJ rfl)(m2:X.N[i2]?=some y2:=by rfl)(l2:Loc X.env.scope y2:=by first | exact aA (lookup_relabel_local rfl) | exact cJ rfl)(MB:m<=i1:=by decide)(kG:m<=i2:=by decide)
  (f1:X.fn y1=true\/X.env.scope.names.lookup y1=some .local:=by first | exact .inr (lookup_relabel_local rfl) | exact .inl rfl) (f2:X.fn y2=true\/X.env.scope.names.lookup y2=some .local:=by first | exact .inr (lookup_relabel_local rfl) | exact .inl rfl)
  (Ga:(assignEach [.Name y1 t1,.Name y2 t2] X.env).map (·.2)=assign (.Name y1 t1) X.env::(assignEach [.Name y2 t2] X.env).map (·.2):=by rfl) (Gb:(assignEach [.Name y2 t2] X.env).map (·.2)=assign (.Name y2 t2) X.env::(assignEach [] X.env).map (·.2):=by rfl)
  (hn:(assignEach [.Name y1 t1,.Name y2 t2] X.env).length=2:=by rfl) (cy:(assignEach [.Name y1 t1,.Name y2 t2] X.env).findIdx? (·.1)=none:=by rfl) :
  PG X (.Tuple [.Name y1 t1,.Name y2 t2] tk tp) (lG m (iM i1 i2)):=mQ hc B8 m1 l1 m2 l2 MB kG f1 f2 Ga Gb hn cy
end L3
namespace L2
open PySem
structure Fk(K:PySem.W.Frag)(mg:Str->Option Value)(x:Str)(st:Stmt)(ps:List Str)(f:Addr)(fd:FuncData):Prop where
 F:jQ K x x st f fd
 g:mg x=some (.ref f)
 b:Binds K fd ps []
structure Fm(K:PySem.W.Frag)(x q:Str)(st:Stmt)(ps:List Str)(f:Addr)(fd:FuncData):Prop where
 F:jQ K x q st f fd
 b:Binds K fd ps []
end L2
namespace L3
open PySem L2 PySem.Spec PyProof.Rows
theorem bg{X:Cx}{x:Str}{st:Stmt}{ps:List Str}{f:Addr}{fd:FuncData}{n k:Nat}{sp:aW}{e:Expr}{es:List Expr}{t:cm}{p pos:Pos}(Q:Fk X.K X.mg x st ps f fd)(F:aH X.prog X.w X.K X.mg X.base aP n f fd ps (a6 sp))(hr:bQ k X.A)(ha:PA X (e::es) (lA t))(hn:n<=k:=by decide)(hg:Gl X x:=by rfl)
  (cS:(x==("__debug__":Str))=false:=by decide) (he:starEach (e::es) X.env=(false,eval e X.env)::starEach es X.env:=by rfl) (bu:(backTo pos (starEach es X.env)).any (·.1)=false:=by rfl) :
  PE X (.Call (.Name x p) (e::es) [] pos) (lE (mH sp t)):=t9 (F.mono hn) hr hg Q.g Q.F.kp Q.b cL ha cS he bu
end L3
namespace L3
open PySem L2 Mf
theorem Hr{m:Bool × Nat}(hm:m∈aw)(f n:Nat){e:Nat}(he:1<=e):RT (aa m) n (fJ m f (aL n) e)/\(fJ m f (aL n) e).length=e/\ai (fJ m f (aL n) e)=n:=by
 obtain⟨g1,g2⟩:=Ha hm f (aL n) e
 rw[bV]at g1
 exact⟨g1,g2,u9 g1 λz=>by
  rw[z]at g2
  exact absurd g2 (by show ¬ 0=e;omega)⟩
end L3
namespace L3
open PySem L2 Mf
section
variable{m:Bool × Nat}
structure Wd(m:Bool × Nat)(T:List (List Nat))(w:List Nat):Prop where
 ln:w.length=ai T
 lt:AllLt (aa m) w
 z:∀r∈T,gd m r w=0
noncomputable def m8(n:Nat)(u v:List Nat):List Nat:=(aL n).filter λj=>decide (cf u j≠cf v j)
theorem xg{n:Nat}{u v:List Nat}{j:Nat}:j∈m8 n u v↔j<n/\cf u j≠cf v j:=by unfold m8;rw[nk,bU,decide_eq_true_iff]
theorem Hs(n:Nat)(u v:List Nat):(m8 n u v).Nodup:=AU.filter _
noncomputable def vg(m:Bool × Nat)(T:List (List Nat))(d:Nat):Prop:=∀u v,Wd m T u->Wd m T v->u≠v->d<=(m8 (ai T) u v).length
theorem Ht(hm:m∈aw){T:List (List Nat)}{d:Nat}(hT:RT (aa m) (ai T) T)(hD:∀S,eM (ai T) S->S.length<d->kK m (dD T) S):vg m T d:=λu v hu hv hn=>by
 have g:=rg hm
 have h0:=bM m hm
 refine Jn λfg=>hn ?_
 have mem:=λj=>xg (n:=ai T) (u:=u) (v:=v) (j:=j)
 have nd:=Hs (ai T) u v
 have ic:eM (ai T) (m8 (ai T) u v):=⟨D8.filter _,λx hx=>((mem x).mp hx).1⟩
 generalize m8 (ai T) u v=ps at mem nd ic fg
 have I:=hD ps ic fg (λt=>br m (cf u (ps.getD t 0)) (cf v (ps.getD t 0))) (λt=>(iT hm (dh hm hu.lt _) (dh hm hv.lt _)).2.1) λk=>by
  by_cases hk:k<T.length
  ·have hr:=dH hk []
   have s:=ct2 hm hu.lt hv.lt (hT _ hr).1 hu.ln hv.ln nd (λp hp=>((mem p).mp hp).1) λj hj hn=>VZ λz=>hn ((mem j).mpr ⟨hj,z⟩)
   rw[hu.z _ hr,hv.z _ hr,j5 (j7 g λ_ _=>bC hm _ _)]at s
   exact Eq.trans (cA λt _=>fV m _ _) s.symm
  ·refine fW g λt _=>?_
   show gm m _ (cf (T.getD k []) _)=0
   rw[aN,gn (by omega)]
   exact gA m _ h0
 refine N5 hu.ln hv.ln λj hj=>VZ λz=>?_
 obtain⟨t,ht,e⟩:=gI ((mem j).mpr ⟨hj,z⟩)
 have e2:ps.getD t 0=j:=by rw[aN,aM ht];exact e
 have:=I t ht
 rw[e2]at this
 exact cu2 hm (dh hm hu.lt _) (dh hm hv.lt _) z this
theorem vh(n j:Nat):cf (aV n 0) j=0:=by
 unfold cf
 rw[aN,nq]
 split<;>rfl
theorem OS(hm:m∈aw){T:List (List Nat)}(hT:RT (aa m) (ai T) T):Wd m T (aV (ai T) 0):=by
 have cT:=lo1 hm
 refine⟨fP ..,λa ha=>by rw[(s9.mp ha).2];omega,λr hr=>?_⟩
 rw[pI m (by rw[(hT r hr).1,fP])]
 exact fW (rg hm) λj _=>by rw[vh];exact gA m _ (bM m hm)
theorem cv9(hm:m∈aw){a b x:Nat}(ha:a<aa m)(hb:b<aa m)(hx:x<aa m)(h:gp m a x=gp m b x):a=b:=by
 have g:=rg hm
 obtain⟨y,hy⟩:∃y,gp m x y=0:=⟨_,by rw[mW];exact(ngn hm hx).2⟩
 have e:=congrArg (λz=>gp m z y) h
 rw[g.pa,g.pa,hy,j5 ha,j5 hb]at e
 exact e
theorem CV(hm:m∈aw){n:Nat}(h2:2<=n){w:List Nat}(h:Wd m (eE m n) w){i:Nat}(hi:i<n):cf w i=cf w (n-1):=by
 have g:=rg hm
 have h0:=bM m hm
 have cT:=lo1 hm
 obtain⟨rt,l,ww⟩:=xb hm h2
 by_cases c:i=n-1
 ·rw[c]
 have hi:i<n-1:=by omega
 have hr:l6 m n i∈eE m n:=AN (bU.mpr hi)
 have hs:=dh hm h.lt (n-1)
 have e1:=h.z _ hr
 have e2:=b70 hm h2 hs _ hr
 have lr:=(rt _ hr).1
 have two:∀v:List Nat,v.length=n->gd m (l6 m n i) v=gp m (cf v i) (gm m (br m 0 1) (cf v (n-1)))\/¬ cf v i<aa m:=λv lv=>by
  by_cases lt:cf v i<aa m
  ·refine .inl ?_
   rw[pI m (by rw[lr,lv]),lr,G1 g (f:=λj=>gm m (cf (l6 m n i) j) (cf v j)) (a:=i) (b:=n-1) (by omega) (by omega) (by omega) (bC hm _ _) (bC hm _ _) λj hj c1 c2=>by rw[w9 hi,if_neg c1,if_neg c2,fj m _ h0]]
   rw[w9 hi,if_pos rfl,w9 hi,if_neg (by omega),if_pos rfl,pz lt]
  ·exact .inr lt
 have er:∀j,j<n->cf (aV n (cf w (n-1))) j=cf w (n-1):=λj hj=>by unfold cf;rw[aN,nq,if_pos hj];rfl
 have a1:=(two w (h.ln.trans ww)).resolve_right λz=>z (dh hm h.lt i)
 have a2:=(two (aV n (cf w (n-1))) (fP ..)).resolve_right λz=>z (by rw[er i (by omega)];exact hs)
 rw[er i (by omega),er (n-1) (by omega)]at a2
 exact cv9 hm (dh hm h.lt i) hs (bC hm _ _) (a1.symm.trans (e1.trans (e2.symm.trans a2)))
theorem co1(hm:m∈aw){n:Nat}(h2:2<=n):vg m (eE m n) n:=λu v hu hv hn=>by
 obtain⟨rt,l,ww⟩:=xb hm h2
 rw[ww]
 have ne:cf u (n-1)≠cf v (n-1):=λz=>hn (N5 (hu.ln.trans ww) (hv.ln.trans ww) λj hj=>by rw[CV hm h2 hu hj,CV hm h2 hv hj,z])
 have:=wZ (l:=aL n) (l':=m8 n u v) AU λj hj=>by
  have hj:=bU.mp hj
  exact xg.mpr ⟨hj,by rw[CV hm h2 hu hj,CV hm h2 hv hj];exact ne⟩
 rw[bV]at this
 exact this
theorem Hu(hm:m∈aw){f n e:Nat}(hn:n+1<=aa m):zG m e n (λj=>eS m (j:Int)) (λj=>eS m ((f:Int)*(j:Int))) (fJ m f (aL n) e) where
 rt:=by have:=(Ha hm f (aL n) e).1;rw[bV]at this;exact this
 l:=(Ha hm f (aL n) e).2
 xl:=λj=>GB hm _
 xd:=λi j hi hj h=>cu9 hm (by omega) (by omega) h
 yl:=λj=>GB hm _
 y0:=λj _=>by have:=(pB hm ((f:Int)*(j:Int))).1;omega
 at_:=λi hi=>⟨i,hi,λj hj=>by
  unfold dD
  rw[co2 hi,NG hm,GC hm]
  show cf ((aL n).map λ(p:Nat)=>eS m (((f:Int)+(i:Int))*(p:Int))) j=_
  rw[GX _ hj,Int.add_mul,Int.mul_comm (j:Int)]⟩
theorem cg6(hm:m∈aw){f n e:Nat}(hn:n+1<=aa m)(hw:ai (fJ m f (aL n) e)=n):vg m (fJ m f (aL n) e) (e+1) :=
 Ht hm (by rw[hw];exact(Hu hm hn).rt) λS hS hl=>(Hu hm hn).ind hm (by rw[hw]at hS;exact hS) (by omega)
variable{G:List (List Nat)}
theorem eR.wd(h:eR m G){l:List Nat}(hl:l.length=(b8 m G).length):Wd m G (pP m G l):=⟨co9 ..,h.wlt hl,h.word hl⟩
theorem eR.OT(h:eR m G){d:Nat}(hd:vg m G d):d+(b8 m G).length<=ai G+1:=by
 have hm:=h.hm
 have cT:=lo1 hm
 have hz:=h.sz
 have l1:(1::aV ((b8 m G).length-1) 0).length=(b8 m G).length:=by rw[gH,fP];omega
 have a1:AllLt (aa m) (1::aV ((b8 m G).length-1) 0):=λa ha=>by
  rcases bR.mp ha with q | q
  ·omega
  ·rw[(s9.mp q).2];omega
 have w:=h.wd l1
 have at_:=λ{j:Nat} (hj:j<(b8 m G).length)=>h.at l1 a1 hj
 have:=hd _ _ w (OS hm h.rt) λz=>by
  have e:=at_ hz
  rw[z,vh]at e
  exact absurd e (by show ¬ (0=1);decide)
 have k:=wZ (l:=m8 (ai G) (pP m G (1::aV ((b8 m G).length-1) 0)) (aV (ai G) 0)++(b8 m G).drop 1) (l':=aL (ai G)) ?_ ?_
 ·rw[eO,jI,bV]at k
  omega
 ·refine List.nodup_append.mpr ⟨Hs ..,(OR m G).sublist (List.drop_sublist ..),λa ha b hb z=>?_⟩
  subst z
  obtain⟨k,hk,e⟩:=gI hb
  rw[jI]at hk
  rw[List.getElem_drop]at e
  have ek:=at_ (show 1+k<(b8 m G).length by omega)
  rw[show(b8 m G).getD (1+k) 0=a by rw[aN,aM (by omega)];exact e]at ek
  refine(xg.mp ha).2 ?_
  rw[ek,vh]
  unfold cf
  rw[xE,List.getD_cons_succ]
  exact vh _ _
 ·intro a ha
  rcases bY.mp ha with q | q
  ·exact bU.mpr (xg.mp q).1
  ·exact bU.mpr (cp8 (qi q))
noncomputable def vi(G:List (List Nat)):Kd->Nat
 | .pM b=>b
 | .rep=>ai G
 | .vd e _=>e+1
structure zK(m:Bool × Nat)(G:List (List Nat))(k:Kd):Prop where
 Hv:vg m G (vi G k)
 pos:1<=vi G k
 rt:∀e f,k=.vd e f->G=fJ m f (aL (ai G)) e/\1<=e/\e+1<=ai G/\ai G+1<=aa m/\f+2<=aa m
end
end L3
namespace L3
open PySem L2 PySem.Spec PyProof.Rows
section
variable{P:Program}{w:World}{K:PySem.W.Frag}{mg:Str->Option Value}{base:Heap}
end
section
variable{X:Cx}{CX:eP}{n:Nat}{f C:Addr}{fd:FuncData}{ps:List Str}{iP:List D->List Str->List D->Prop}{E:XK}{x:Str}{p pos:Pos}{e:Expr}{es:List Expr}{t:cm}{tl:List Addr}
theorem b48{z:Int}(hT:Tb tl X.jK)(M:L2.Mk X.K C f)(F:aH X.prog X.w X.K X.mg X.base CX n f fd ps (zH tl C iP))(hr:bQ (n+1) X.A)(hg:Gl X x)(hm:X.mg x=some (.ref C))(hb:∃tk,Binds X.K fd ps [.int z tk])(hx:jO CX X E)
  (ha:PA X (e::es) (lA t)) (cS:(x==("__debug__":Str))=false:=by decide) (he:starEach (e::es) X.env=(false,eval e X.env)::starEach es X.env:=by rfl) (bu:(backTo pos (starEach es X.env)).any (·.1)=false:=by rfl) :
  PE X (.Call (.Name x p) (e::es) [] pos) (lE (pL C (λds=>iP (ds++[.int z])) t)):=by
 obtain⟨tk,hb⟩:=hb
 intro pins s σ H Q I zz
 obtain⟨B,F',δ,ts,Qd,c,q,k⟩:=zz
 have tb:=Cc I hT
 refine EE M F hr hg hm hb (fw:=[.int z]) (.cons ⟨tk,rfl⟩ .nil) hx ha cS he bu pins s σ H Q I ⟨B,F',δ,ts,_,c,q,λds aj vs F1 H1 q1 f1 h1 c1 s1=>?_⟩
 intro x dx bO dZ jS
 obtain⟨hp,ns,xs,hI,hq⟩:=q1
 have sm:af H1 (upd (upd H1 dx (.own x)) x (.ins C dx [])):=.of λb o e=>by rw[aT (dX e bO),aT (dX e dZ)];exact e
 refine⟨F1,H1,x,dx,vs++[.int z],ds++[.int z],ns,xs,rfl,uW (uW tb h1) sm,c1.ext,bO,sm,bI,R.append (s1.r hp) (.int .nil),hI,λH' ws A sq dr hl r nd fr=>⟨rfl,?_⟩⟩
 have s2:af H1 H':=⟨λb o e n=>sq.get b o (dX e bO) (sm.get b o e n) n,λb ps e=>by
  obtain⟨m1,e1⟩:=sm.tb b ps e
  obtain⟨m2,e2⟩:=sq.tb b _ e1
  exact⟨m1++m2,by rw[e2,sS]⟩⟩
 obtain⟨fs,c2⟩:=c1.OL s2 dr hl r λa ha=>sm.free (fr a ha)
 exact k _ aj _ _ H' hq (f1.trans fs) (h1.trans s2) c2
end
theorem c50{K:PySem.W.Frag}{fd:FuncData}{ps:List Str}{T:Addr}{o:Obj}{z:Int}{tk:Tok}{n k:Nat}(hd:fd.defaults=.ref T)(ho:K.lookup T=some o)(hs:o.data=.seq #[.int z tk] n)
  (hk:k+1=ps.length) (h:∀us:List Value,us.length=k->∃k,bindArgs fd ⟨us,[]⟩=seqItems? fd.defaults >>= k/\k (some #[.int z tk])=pure (ps.zip (us++[.int z tk]))):∃tk,Binds K fd ps [.int z tk]:=⟨tk,λs us KX hl=>by
 obtain⟨k,h1,h2⟩:=h us (by rw[eO,<- hk]at hl;exact vJ hl)
 exact .of_defaults hd (KX _ _ ho) hs h1 h2⟩
end L3
namespace L3
open PySem L2 PySem.Spec PyProof.Rows
section
variable{B B':Bs}{F H:Hp}{σ:L2.St}{δ:Dl}{ts:List (D × V)}{p:Addr}{xs:List D}{ws:List V}
end
section
variable{X:Cx}{e:Expr}{scope:Scope}{cl:List (Str × Addr)}{te:aO}{x y:Str}{i:Nat}{p tp p1 pos nJ:Pos}
end
section
variable{X:Cx}{e:Expr}{pos p p2 p3 p4 p5 apos cj:Pos}{t:aO}{x:Str}{i:Nat}
end
end L3
namespace L2
open PySem
section
variable{K:PySem.W.Frag}{h:Heap}{mg:Str->Option Value}{x y:Str}{st:Stmt}{ps:List Str}{f:Addr}{fd:FuncData}
noncomputable def OU(x y:Str)(st:Stmt)(ps:List Str):Prop:=∀(kV doc pm:Value) (an:Option Addr) (ay ct:Value) (us:List Value),us.length=ps.length->bindArgs (PySem.W.fnOf x y (mx st) (iD st) (aK st) .none kV doc pm an ay ct) ⟨us,[]⟩=pure (ps.zip us)
theorem Fk.of(X:K.In h)(G:h.Ns mainGlobals mg)(a:PySem.W.nsIn K mainGlobals x=some (some (.ref f)))(F:jQ K x x st f fd)(b:OU x x st ps):Fk K mg x st ps f fd:=⟨F,PySem.W.mg_of X G a,F.binds b⟩
theorem Fm.of(F:jQ K x y st f fd)(b:OU x y st ps):Fm K x y st ps f fd:=⟨F,F.binds b⟩
end
end L2
namespace L3
open PySem L2
end L3
namespace L3
open PySem L2 PySem.Spec PyProof.Rows
section
variable{X:Cx}{K:PySem.W.Frag}{a:Expr}{ta:aO}{p q pos:Pos}{y:Str}
theorem CW{C:Addr}(hg:Gl X "isinstance")(hm:X.mg "isinstance"=none)(oK:Gl X y)(kG:X.mg y=some (.ref C))(ha:PE X a (lB ta))(hK:X.K=K:=by rfl)(hd:(y==("__debug__":Str))=false:=by decide)
  (hs:starEach [a,.Name y q] X.env=(false,eval a X.env)::starEach [.Name y q] X.env:=by rfl) (dA:starEach [.Name y q] X.env=(false,eval (.Name y q) X.env)::starEach [] X.env:=by rfl) (bu:(backTo pos (starEach [.Name y q] X.env)).any (·.1)=false:=by rfl) :
  PE X (.Call (.Name "isinstance" p) [a,.Name y q] [] pos) (lE (kH K (.ref C) ta)):=by
 subst hK
 exact cx9 hg hm oK kG ha hd hs dA bu
theorem cn6{n:String}(hg:Gl X "isinstance")(hm:X.mg "isinstance"=none)(oK:Gl X y)(kG:X.mg y=none)(yN:bootBuiltins y=some (.type n))(ha:PE X a (lB ta))(hK:X.K=K:=by rfl)
  (hn:y≠"__name__":=by decide) (hd:(y==("__debug__":Str))=false:=by decide)
  (hs:starEach [a,.Name y q] X.env=(false,eval a X.env)::starEach [.Name y q] X.env:=by rfl) (dA:starEach [.Name y q] X.env=(false,eval (.Name y q) X.env)::starEach [] X.env:=by rfl) (bu:(backTo pos (starEach [.Name y q] X.env)).any (·.1)=false:=by rfl) :
  PE X (.Call (.Name "isinstance" p) [a,.Name y q] [] pos) (lE (kH K (.type n) ta)):=by
 subst hK
 exact cw3 hg hm oK kG yN ha hn hd hs dA bu
end
end L3
namespace L3
open PySem L2 Mf
structure c52(x C dx:Addr)(Hn H':Hp)(fs:List (Str × V)):Prop where
 sm:bL x Hn H'
 at_:H' x=some (.ins C dx fs)
 mv:∀{F:Hp} {ds:List D} {vs:List V} {A:List Addr},R F Hn ds vs A->ds.all D.fr=true->R F H' ds vs A
theorem pO.step{pre:List (Str × V)}(hp:pO pre){Hn H':Hp}{x C dx:Addr}{l:List (Str × V)}{n:Str}{v:V}(hx:Hn x=some (.ins C dx (pre++l)))(hn:n∈m5)(e:upd Hn x (.ins C dx (b9 n v (pre++l)))=H'):c52 x C dx Hn H' (pre++b9 n v l):=by
 subst e
 exact⟨bL.upd (C:=x) (dx:=dx) hx rfl,by rw[bI,hp.put _ _ _ hn],λr hd=>r.mU hx hd⟩
end L3
namespace L3
open PySem L2 Mf
section
variable{sh:Bool}{az:List (Str × Nat)}{n m:Nat}{te:aO}{aj:Dl}{Q:D->Dl->Prop}
theorem m9{o:Bool}(l:List (List Nat))(g:List Nat->D)(hx:∀a∈l,te ((fh az n aj).set m (some (.lst false (aq a)))) λd _=>d=g a)(df:(sh&&az.all (gx aj))=true\/∀a∈l,(g a).fr=true)(hq:Q (.lst true (l.map g)) aj)(hl:l.length<=16777216:=by omega):oo sh (ax o l) az n (gN m) i8 te aj Q :=
 oV l (λr=>D.lst false (aq r)) g (by rw[fC];rfl) (λa b h=>NF a b h) hx df (by rw[sL];exact hl) hq
theorem vj(l:List Nat)(g:Nat->D)(hx:∀a∈l,te ((fh az n aj).set m (some (.int (a:Nat)))) λd _=>d=g a)(df:(sh&&az.all (gx aj))=true\/∀a∈l,(g a).fr=true)(hq:Q (.lst true (l.map g)) aj)(hl:l.length<=16777216:=by omega):oo sh (aq l) az n (gN m) i8 te aj Q :=
 oV l (λ(i:Nat)=>D.int (i:Int)) g (B9 _) rX hx df (by rw[sL];exact hl) hq
theorem xh(r:Nat)(g:Nat->D)(hx:∀a∈aL r,te ((fh az n aj).set m (some (.int (a:Nat)))) λd _=>d=g a)(df:(sh&&az.all (gx aj))=true\/∀a∈aL r,(g a).fr=true)(hq:Q (.lst true ((aL r).map g)) aj){k:Int}(hk:k=r:=by rfl)(hl:r<=16777216:=by omega):oo sh ((aL k.toNat).map λ(k:Nat)=>D.int (0+(k:Int))) az n (gN m) i8 te aj Q :=
 oV (aL r) (λ(i:Nat)=>D.int (i:Int)) g (zr _ hk) rX hx df (by rw[bV,sL];exact hl) hq
end
end L3
namespace L3
open PySem L2 Mf
section
variable{m:Bool × Nat}{G:List (List Nat)}
end
end L3
namespace L3
open PySem L2 Mf
noncomputable def wt(l:List Nat):Nat:=(l.filter λx=>decide (x≠0)).length
theorem OV{l:List Nat}{n:Nat}(h:l.length=n):wt l=(m8 n l (aV n 0)).length:=by
 have e:l=(aL n).map (cf l):=by
  refine AO (by rw[bq,bV,h]) λi h1 h2=>?_
  rw[tf,AS]
  unfold cf
  rw[aN,aM h1];rfl
 unfold wt m8
 conv=>lhs;rw[e,JJ,bq]
 refine congrArg AD (JK λj _=>?_)
 show decide (cf l j≠0)=_
 rw[vh]
theorem cr2(l:List Nat):nul l=decide (wt l=0):=by
 unfold nul wt
 rw[qf,decide_eq_true_iff,Ea,V0,dy]
 refine forall_congr' λx=>forall_congr' λ_=>?_
 simp
theorem OW{n:Nat}{S:List Nat}(h:eM n S):S.Nodup:=h.1.imp λq=>dN q
section
variable{m:Bool × Nat}{G:List (List Nat)}
theorem OX(hm:m∈aw)(hG:RT (aa m) (ai G) G){d:Nat}(hA:vg m G d){l:List Nat}(hl:Wd m G l)(h0:wt l≠0):d<=wt l:=by
 rw[OV hl.ln]
 refine hA _ _ hl (OS hm hG) λz=>h0 ?_
 rw[z]
 unfold wt
 rw[Ea,V0]
 intro a ha
 rw[(s9.mp ha).2];decide
theorem OY(hm:m∈aw)(hw:0<ai G)(hG:RT (aa m) (ai G) G){F:List Nat}(h:fk m G=some F):Wd m G (fX m G F)/\wt (fX m G F)=F.length/\0<F.length:=by
 obtain⟨a1,a2,a3,-,a5⟩:=OI hm hw hG h
 obtain⟨f1,f2,-,-⟩:=m4 hm hw hG h
 refine⟨⟨a1,a2,a5⟩,?_,f2⟩
 rw[OV a1]
 refine Nat.le_antisymm (wZ (Hs ..) λj hj=>?_) (wZ (OW f1) λj hj=>?_)
 ·have:=(xg.mp hj).2
  rw[vh]at this
  exact(a3 j).mp this
 ·exact xg.mpr ⟨f1.2 j hj,by rw[vh];exact(a3 j).mpr hj⟩
theorem b56(hm:m∈aw)(hw:0<ai G)(hG:RT (aa m) (ai G) G){F:List Nat}(h:fk m G=some F):∃r,(fX m G F).filter (λx=>decide (x≠0))=1::r:=by
 obtain⟨a1,a2,a3,a4,a5⟩:=OI hm hw hG h
 obtain⟨f1,f2,-,-⟩:=m4 hm hw hG h
 generalize fX m G F=l at a1 a2 a3 a4
 have e:l=(aL (ai G)).map (cf l):=by
  refine AO (by rw[bq,bV,a1]) λi h1 h2=>?_
  rw[tf,AS]
  unfold cf
  rw[aN,aM h1];rfl
 have i1:((aL (ai G)).filter λj=>decide (cf l j≠0)).Pairwise (· < ·):=D8.filter _
 have eS:((aL (ai G)).filter λj=>decide (cf l j≠0))=F:=by
  refine List.Perm.eq_of_pairwise (le:=(· < ·)) (λa b _ _ h1 h2=>by omega) i1 f1.1 ((VS (i1.imp dN) (f1.1.imp dN)).mpr λp=>?_)
  rw[nk,bU,decide_eq_true_iff,a3]
  exact⟨λz=>z.2,λz=>⟨f1.2 p z,z⟩⟩
 rw[e,JJ,show((aL (ai G)).filter ((λx=>decide (x≠0)) ∘ cf l))=F from eS]
 cases F with
 | nil=>exact absurd f2 (by decide)
 | cons f F'=>exact⟨F'.map (cf l),by rw[da];exact congrArg (·::_) a4⟩
end
end L3
namespace HK41
open PySem.W (Frag codeHdIn kitOne CodeHd)
open PySem L2 L3 Mf
seal L2.PSs L2.PS L2.PE L2.PT L2.PA L2.PI L2.PG L2.PO L2.PW
local macro_rules | `(tactic| walk_at "l3") => do
  let l ← (("qP oh qQ qR oi dT k7 mF mG dC nX mH n6 nZ n8 qO mL rE oM rF rG qI qJ qK qL by4 qN nY ug oE oF ii ot qZ ow q0 q8 q9 rh rj rk iI gR rn rp rq rz oA oB lC rB rC gN rH rD qS qU qV qW qX qY rJ rK mJ i8 fh i7 gx nz p7 tu vK og jW i6 oH oI lN rO rR rQ rS rT kH jx rW oW rU iM jy uO uP da jH qk p9 gH vL aV tw tD kq kr tE exists_eq_left' exists_eq_left D.bl.injEq D.int.injEq D.lst.injEq D.fz.injEq D.str.injEq D.tup.injEq vM and_true true_and de qj kn kQ ui uj uk um uo uq fB jU lK uw uz uA uB uC cU kC rL ur uu uv eZ nU vN vO pW ix vP vQ sV uG uH uI uJ uK uL uM lL lM oO jw oQ uE rN uD oR uF j3 rM if_true mh if_false reduceIte uN decide_eq_true_eq eI kI mR uS mS uR qT se rV oZ pd pf sk sD pJ fC pH kJ u4 pG sG sH sI pL sL zi Nw cj2 cg8 zk wV".splitOn " ").toArray.map fun (s : String) => Lean.mkIdent s.toName).mapM fun i => `(Lean.Parser.Tactic.simpLemma| $i:term)
  `(tactic| (try dsimp only [$l,*]) <;> (try simp only [$l,*]))
noncomputable def top (i:Nat):Stmt:=PySem.Challenge.pw_mendfield_k41_lightest_word.main.body.getD i (.Pass ⟨0,0,0,0⟩)
noncomputable abbrev OZ:Stmt:=top 102
theorem Hw:aU ["_law_cell_here","_law_some","_law_primes"] ["_law_cell_here"] (aK OZ):=a8
noncomputable abbrev O0:Stmt:=top 69
theorem CY:aU ["a","product","found","power"] ["a","product"] (aK O0):=a8
noncomputable abbrev O1:Stmt:=top 70
theorem zL:aU ["many","product","step","found"] ["many","product"] (aK O1):=a8
noncomputable abbrev O2:Stmt:=top 71
theorem Hx:aU ["powers","logs","n","a"] ["powers"] (aK O2):=a8
noncomputable abbrev O3:Stmt:=eY (top 75) 8
theorem au4:aU ["self","n"] ["self","n"] (aK O3):=a8
noncomputable abbrev O4:Stmt:=eY (top 75) 0
theorem aI7:aU ["self","many","product"] ["self","many","product"] (aK O4):=a8
noncomputable abbrev O5:Stmt:=top 74
theorem ar3:aU ["prime"] ["prime"] (aK O5):=a8
noncomputable abbrev zM:Stmt:=eY (top 77) 0
theorem av3:aU ["self","prime"] ["self","prime"] (aK zM):=a8
noncomputable abbrev O6:Stmt:=top 72
theorem CZ:aU ["powers","logs","many","rows","a"] ["powers","logs"] (aK O6):=a8
noncomputable abbrev O7:Stmt:=top 66
theorem xi:aU ["a","b","quotient","rest","shift"] ["a","b"] (aK O7):=a8
noncomputable abbrev O8:Stmt:=top 67
theorem Hy:aU ["a","half","b"] ["a"] (aK O8):=a8
noncomputable abbrev O9:Stmt:=top 73
theorem av4:aU ["bits"] ["bits"] (aK O9):=a8
noncomputable abbrev Pa:Stmt:=top 65
theorem C2:aU ["a","b","product","k"] ["a","b"] (aK Pa):=a8
noncomputable abbrev zN:Stmt:=eY (top 76) 0
theorem Pb:aU ["self","bits","many"] ["self","bits"] (aK zN):=a8
noncomputable abbrev Pc:Stmt:=top 106
theorem aI8:aU ["_law_told_here"] ["_law_told_here"] (aK Pc):=a8
noncomputable abbrev Pd:Stmt:=top 100
theorem aK7:aU ["_law_script","_law_k"] ["_law_script","_law_k"] (aK Pd):=a8
noncomputable abbrev Pe:Stmt:=top 103
theorem aK8:aU ["_law_told_here"] ["_law_told_here"] (aK Pe):=a8
noncomputable abbrev Pf:Stmt:=top 2
theorem aM7:aU ["table"] ["table"] (aK Pf):=a8
noncomputable abbrev Pg:Stmt:=top 8
theorem Ph:aU ["rows","place","number","row"] ["rows","place"] (aK Pg):=a8
noncomputable abbrev Pj:Stmt:=eY (top 76) 6
theorem Pk:aU ["self","a","row","by_a"] ["self","a","row"] (aK Pj):=a8
noncomputable abbrev Pl:Stmt:=eY (top 77) 6
theorem Pm:aU ["self","a","row","prime"] ["self","a","row"] (aK Pl):=a8
noncomputable abbrev Pn:Stmt:=eY (top 76) 7
theorem Po:aU ["self","row","a","other","by_a"] ["self","row","a","other"] (aK Pn):=a8
noncomputable abbrev Pp:Stmt:=eY (top 77) 7
theorem Pq:aU ["self","row","a","other","prime"] ["self","row","a","other"] (aK Pp):=a8
noncomputable abbrev Pr:Stmt:=top 9
theorem aN7:aU ["field","rows","lead_row","place"] ["field","rows","lead_row","place"] (aK Pr):=a8
noncomputable abbrev Pt:Stmt:=eY (top 75) 5
theorem aI9:aU ["self","a","b"] ["self","a","b"] (aK Pt):=a8
noncomputable abbrev Pu:Stmt:=top 10
theorem sM:aU ["field","table","done","left","place","number","lead_row"] ["field","table"] (aK Pu):=a8
noncomputable abbrev Pw:Stmt:=top 48
theorem aO3:aU ["table"] ["table"] (aK Pw):=a8
noncomputable abbrev Px:Stmt:=top 11
theorem b52:aU ["rows"] ["rows"] (aK Px):=a8
noncomputable abbrev Py:Stmt:=top 13
theorem Pz:aU ["rows","width","taken"] ["rows","width"] (aK Py):=a8
noncomputable abbrev PB:Stmt:=eY (top 76) 2
theorem az6:aU ["self","a","b"] ["self","a","b"] (aK PB):=a8
noncomputable abbrev PC:Stmt:=eY (top 77) 2
theorem au5:aU ["self","a","b"] ["self","a","b"] (aK PC):=a8
noncomputable abbrev PD:Stmt:=top 14
theorem xj:aU ["field","rows","width","taken","found","free","x","lead","row"] ["field","rows","width"] (aK PD):=a8
noncomputable abbrev PF:Stmt:=eY (top 52) 0
theorem PH:aU ["self","field","checks","rows"] ["self","field","checks"] (aK PF):=a8
noncomputable abbrev PJ:Stmt:=eY (top 75) 1
theorem aH2:aU ["self","x"] ["self","x"] (aK PJ):=a8
noncomputable abbrev PK:Stmt:=top 62
theorem PL:aU ["field","table","width"] ["field","table"] (aK PK):=a8
noncomputable abbrev PM:Stmt:=top 12
theorem cm5:aU ["field","table"] ["field","table"] (aK PM):=a8
noncomputable abbrev PN:Stmt:=top 3
theorem aO4:aU ["table"] ["table"] (aK PN):=a8
noncomputable abbrev PQ:Stmt:=top 17
theorem aK9:aU ["column"] ["column"] (aK PQ):=a8
noncomputable abbrev PR:Stmt:=eY (top 76) 3
theorem az7:aU ["self","a","b"] ["self","a","b"] (aK PR):=a8
noncomputable abbrev PU:Stmt:=eY (top 77) 3
theorem au6:aU ["self","a","b"] ["self","a","b"] (aK PU):=a8
noncomputable abbrev PV:Stmt:=top 19
theorem xk:aU ["field","column","others","place","inverse","found","other","left"] ["field","column","others"] (aK PV):=a8
noncomputable abbrev PY:Stmt:=top 20
theorem sN:aU ["field","table","width","sets","larger","places","behind","number","column","bigger"] ["field","table"] (aK PY):=a8
noncomputable abbrev PZ:Stmt:=eY (top 63) 0
theorem az8:aU ["self","field","table"] ["self","field","table"] (aK PZ):=a8
noncomputable abbrev P0:Stmt:=top 97
theorem av8:aU ["many","length","extra","first"] ["many","length","extra","first"] (aK P0):=a8
noncomputable abbrev P1:Stmt:=eY (top 98) 0
theorem P2:aU ["self","field","length","extra","first","checks"] ["self","field","length","extra","first"] (aK P1):=a8
noncomputable abbrev P4:Stmt:=top 53
theorem P5:aU ["field","length","less_one"] ["field","length"] (aK P4):=a8
noncomputable abbrev P6:Stmt:=eY (top 54) 0
theorem av9:aU ["self","field","length"] ["self","field","length"] (aK P6):=a8
noncomputable abbrev P7:Stmt:=top 104
theorem aL0:aU ["_law_told_here","_law_a","_law_b"] ["_law_told_here","_law_a","_law_b"] (aK P7):=a8
noncomputable abbrev P8:Stmt:=top 105
theorem xm:aU ["_law_told_here","_law_a","_law_b","_law_total"] ["_law_told_here","_law_a","_law_b"] (aK P8):=a8
noncomputable abbrev P9:Stmt:=top 107
theorem C5:aU ["_law_told_here","_law_xs","_law_ys","_law_total","_law_x","_law_y"] ["_law_told_here","_law_xs","_law_ys"] (aK P9):=a8
noncomputable abbrev Qa:Stmt:=top 108
theorem aH3:aU ["_law_told_here","_law_xs","_law_table_here","_law_wide_here"] ["_law_told_here","_law_xs","_law_table_here","_law_wide_here"] (aK Qa):=a8
noncomputable abbrev Qb:Stmt:=top 109
theorem xn:aU ["_law_told_here","_law_script","_law_begin","_law_rows","_law_wide_here","_law_way","_law_table_here","_law_i","_law_row"] ["_law_told_here","_law_script","_law_begin","_law_rows","_law_wide_here","_law_way"] (aK Qb):=a8
noncomputable abbrev Qc:Stmt:=top 111
theorem xo:aU ["_law_told_here","_law_script","_law_field_here","_law_pick","_law_wide_here","_law_more","_law_many_here"] ["_law_told_here","_law_script","_law_field_here"] (aK Qc):=a8
noncomputable abbrev Qe:Stmt:=top 37
theorem aF1:aU ["code"] ["code"] (aK Qe):=a8
noncomputable abbrev Qf:Stmt:=top 15
theorem aO5:aU ["field","table"] ["field","table"] (aK Qf):=a8
noncomputable abbrev Qg:Stmt:=top 5
theorem aO6:aU ["table","places"] ["table","places"] (aK Qg):=a8
noncomputable abbrev Qh:Stmt:=top 21
theorem xp:aU ["field","table","places","signs","inverse","row","place","sign"] ["field","table"] (aK Qh):=a8
noncomputable abbrev Qi:Stmt:=eY (top 52) 1
theorem aH4:aU ["self"] ["self"] (aK Qi):=a8
noncomputable abbrev Qj:Stmt:=top 38
theorem Qk:aU ["code"] ["code"] (aK Qj):=a8
noncomputable abbrev Ql:Stmt:=top 49
theorem aD1:aU ["signs","length"] ["signs","length"] (aK Ql):=a8
noncomputable abbrev Qm:Stmt:=top 50
theorem Qn:aU ["field","signs","place","sign"] ["field","signs"] (aK Qm):=a8
noncomputable abbrev Qo:Stmt:=eY (top 76) 5
theorem zO:aU ["self","xs","ys","products","total","x","y"] ["self","xs","ys"] (aK Qo):=a8
noncomputable abbrev Qp:Stmt:=eY (top 77) 5
theorem az9:aU ["self","xs","ys"] ["self","xs","ys"] (aK Qp):=a8
noncomputable abbrev Qq:Stmt:=top 6
theorem aO7:aU ["field","row","table"] ["field","row","table"] (aK Qq):=a8
noncomputable abbrev Qr:Stmt:=eY (top 52) 5
theorem aF2:aU ["self","message"] ["self","message"] (aK Qr):=a8
noncomputable abbrev Qs:Stmt:=top 114
theorem Hz:aU ["_law_told_here","_law_script","_law_field_here","_law_many_here","_law_more"] ["_law_told_here","_law_script","_law_field_here"] (aK Qs):=a8
noncomputable abbrev Qt:Stmt:=top 39
theorem b36:aU ["code","checks","sets"] ["code"] (aK Qt):=a8
noncomputable abbrev Qu:Stmt:=top 41
theorem aM8:aU ["code","word","told","sets","checks","places","back"] ["code","word","told"] (aK Qu):=a8
noncomputable abbrev Qv:Stmt:=top 116
theorem zP:aU ["_law_code_here","_law_way","_law_word","_law_kinds","e"] ["_law_code_here","_law_way","_law_word"] (aK Qv):=a8
noncomputable abbrev Qw:Stmt:=top 115
theorem Qx:aU ["_law_told_here","_law_script","_law_field_here","_law_size"] ["_law_told_here","_law_script","_law_field_here"] (aK Qw):=a8
noncomputable abbrev Qy:Stmt:=top 101
theorem aJ0:aU ["_law_x"] ["_law_x"] (aK Qy):=a8
noncomputable abbrev Qz:Stmt:=top 110
theorem aD2:aU ["_law_row","_law_wide_here","_law_many_here"] ["_law_row","_law_wide_here","_law_many_here"] (aK Qz):=a8
noncomputable abbrev QB:Stmt:=top 112
theorem aF3:aU ["_law_told_here","_law_checks","_law_length","_law_word"] ["_law_told_here","_law_checks","_law_length","_law_word"] (aK QB):=a8
noncomputable abbrev QC:Stmt:=top 113
theorem aF4:aU ["_law_told_here","_law_script","_law_begin","_law_size"] ["_law_told_here","_law_script","_law_begin","_law_size"] (aK QC):=a8
noncomputable abbrev QD:Stmt:=top 117
theorem aH5:aU ["_law_word"] ["_law_word"] (aK QD):=a8
noncomputable abbrev QE:Stmt:=eY (top 63) 1
theorem ap7:aU ["self"] ["self"] (aK QE):=a8
noncomputable abbrev QF:Stmt:=eY (top 54) 1
theorem ao8:aU ["self"] ["self"] (aK QF):=a8
noncomputable abbrev QG:Stmt:=eY (top 98) 2
theorem ar4:aU ["self"] ["self"] (aK QG):=a8
noncomputable abbrev QH:Stmt:=top 118
theorem nh:aU ["_law_script","_law_told_here","_law_field_here","_law_code_here","_law_found","_law_checks","_law_word","_law_kept"] ["_law_script"] (aK QH):=a8
set_option genInjectivity false in
set_option genSizeOf false in
structure cF where
 QI:Addr
 QJ:FuncData
 QK:Addr
 QL:FuncData
 QM:Addr
 QN:FuncData
 QO:Addr
 QP:FuncData
 zQ:Addr
 QQ:FuncData
 HA:Addr
 QR:FuncData
 QS:Addr
 QT:FuncData
 HB:Addr
 HC:FuncData
 QU:Addr
 QV:FuncData
 QW:Addr
 QX:FuncData
 QY:Addr
 QZ:FuncData
 Q0:Addr
 Q1:FuncData
 Q2:Addr
 Q3:FuncData
 HD:Addr
 HE:FuncData
 Q4:Addr
 Q5:FuncData
 Q6:Addr
 Q7:FuncData
 Q8:Addr
 Q9:FuncData
 Ra:Addr
 Rb:FuncData
 Rc:Addr
 Rh:FuncData
 HF:Addr
 Ri:FuncData
 HG:Addr
 Rj:FuncData
 HH:Addr
 Rk:FuncData
 HI:Addr
 Rl:FuncData
 Rm:Addr
 Rn:FuncData
 C6:Addr
 at2:FuncData
 Ro:Addr
 Rp:FuncData
 Rq:Addr
 Rt:FuncData
 Ru:Addr
 Rw:FuncData
 Rx:Addr
 Ry:FuncData
 HJ:Addr
 Rz:FuncData
 HK:Addr
 RA:FuncData
 RB:Addr
 RC:FuncData
 HL:Addr
 RD:FuncData
 C7:Addr
 RE:FuncData
 RF:Addr
 RG:FuncData
 RH:Addr
 RI:FuncData
 RJ:Addr
 RK:FuncData
 RL:Addr
 RM:FuncData
 HM:Addr
 RN:FuncData
 HN:Addr
 RO:FuncData
 RP:Addr
 RQ:FuncData
 RU:Addr
 RV:FuncData
 HP:Addr
 RW:FuncData
 RX:Addr
 RY:FuncData
 HQ:Addr
 C8:FuncData
 RZ:Addr
 R0:FuncData
 HR:Addr
 R1:FuncData
 R3:Addr
 R4:FuncData
 R5:Addr
 R6:FuncData
 R7:Addr
 R8:FuncData
 R9:Addr
 Sa:FuncData
 Sb:Addr
 Sd:FuncData
 Se:Addr
 Sf:FuncData
 Sg:Addr
 Sh:FuncData
 Si:Addr
 Sj:FuncData
 Sk:Addr
 Sl:FuncData
 Sm:Addr
 Sn:FuncData
 zR:Addr
 So:FuncData
 HS:Addr
 HU:FuncData
 Sq:Addr
 Sr:FuncData
 Ss:Addr
 Su:FuncData
 HV:Addr
 Sv:FuncData
 HW:Addr
 Sw:FuncData
 Sx:Addr
 Sy:FuncData
 zS:Addr
 Sz:FuncData
 SA:Addr
 SD:FuncData
 SE:Addr
 SF:FuncData
 SG:Addr
 SH:FuncData
 SI:Addr
 SJ:FuncData
 SK:Addr
 SM:FuncData
 SN:Addr
 SO:FuncData
 SQ:Addr
 SR:FuncData
 SS:Addr
 SU:FuncData
 SV:Addr
 SW:FuncData
 SX:Addr
 SY:FuncData
 HX:Addr
 S0:FuncData
 HY:Addr
 S1:FuncData
 HZ:Addr
 S2:FuncData
 S3:Addr
 Ia:FuncData
 Ib:Addr
 jC:Addr
 Ic:Addr
 jD:Addr
 aY:Addr
 fK:Addr
 S4:Addr
 S5:Addr
 S6:Addr
 Ie:Addr
 Ig:Addr
 a9:Addr
 gZ:Addr
 dR:Addr
 Ih:Addr
 iV:Addr
structure Txt(K:Frag)(mg:Str->Option Value)(t:cF):Prop where
 aN8:mg "BitField"=some (.ref t.aY)
 S7:mg "CheckCode"=some (.ref t.fK)
 Ii:mg "Code"=some (.ref t.S4)
 S8:mg "Field"=some (.ref t.S5)
 aM9:mg "MendError"=some (.ref t.S6)
 da1:mg "NoCode"=some (.ref t.Ie)
 da2:mg "NoWord"=some (.ref t.Ig)
 aL1:mg "PrimeField"=some (.ref t.a9)
 S9:mg "RepeatCode"=some (.ref t.gZ)
 Ta:mg "RootCode"=some (.ref t.dR)
 da4:mg "TooFar"=some (.ref t.Ih)
 da5:mg "TooLarge"=some (.ref t.iV)
 da6:mg "ValueError"=none
 zT:mg "all"=none
 Ij:mg "any"=none
 Tc:mg "bool"=none
 xq:mg "enumerate"=none
 Td:mg "int"=none
 nj:mg "isinstance"=none
 g5:mg "len"=none
 C9:mg "list"=none
 da7:mg "min"=none
 ik:mg "range"=none
 da8:mg "sum"=none
 vk:mg "zip"=none
 aF6:Meth K t.aY "dot" t.HV
 aA0:Meth K t.aY "holds" t.C7
 ar5:Meth K t.aY "lessened" t.HH
 aA1:Meth K t.aY "minus" t.HJ
 aD3:Meth K t.aY "over" t.C6
 ax6:Meth K t.aY "scaled" t.HF
 Ik:Meth K t.aY "step_power" t.zQ
 aA2:Meth K t.aY "times" t.HM
 Te:Meth K t.fK "checks" t.zR
 db6:Meth K t.fK "distance" t.HX
 db7:Meth K t.fK "written" t.zS
 aA3:Meth K t.a9 "dot" t.HW
 au7:Meth K t.a9 "holds" t.C7
 ao9:Meth K t.a9 "lessened" t.HI
 au8:Meth K t.a9 "minus" t.HK
 ax7:Meth K t.a9 "over" t.C6
 ar6:Meth K t.a9 "scaled" t.HG
 Il:Meth K t.a9 "step_power" t.zQ
 au9:Meth K t.a9 "times" t.HN
 Tf:Meth K t.gZ "checks" t.zR
 dc5:Meth K t.gZ "distance" t.HY
 dc6:Meth K t.gZ "written" t.zS
 Tg:Meth K t.dR "checks" t.zR
 dc7:Meth K t.dR "distance" t.HZ
 dc8:Meth K t.dR "written" t.zS
 aN0:Mk K t.aY t.HD
 Th:Mk K t.fK t.HP
 aJ1:Mk K t.a9 t.HB
 Ti:Mk K t.gZ t.HR
 Tj:Mk K t.dR t.HQ
 Im:uV K t.S4 "__init__" t.HL
 Tn:uV K t.S5 "__init__" t.HA
 To:Fk K mg "_law_told" OZ ["_law_cell_here"] t.QI t.QJ
 Io:Fk K mg "powers_of" O0 ["a","product"] t.QK t.QL
 Dc:Fk K mg "step_powers" O1 ["many","product"] t.QM t.QN
 De:Fk K mg "logs_of" O2 ["powers"] t.QO t.QP
 Df:Fk K mg "makes_prime_field" O5 ["prime"] t.QS t.QT
 Dg:Fk K mg "product_rows" O6 ["powers","logs"] t.QU t.QV
 zU:Fk K mg "bits_divided" O7 ["a","b"] t.QW t.QX
 Tp:Fk K mg "stands_alone" O8 ["a"] t.QY t.QZ
 Dh:Fk K mg "makes_bit_field" O9 ["bits"] t.Q0 t.Q1
 Di:Fk K mg "bits_times" Pa ["a","b"] t.Q2 t.Q3
 Dj:Fk K mg "_law_field" Pc ["_law_told_here"] t.Q4 t.Q5
 ke:Fk K mg "_law_cell" Pd ["_law_script","_law_k"] t.Q6 t.Q7
 vm:Fk K mg "_law_many" Pe ["_law_told_here"] t.Q8 t.Q9
 pQ:Fk K mg "width_of" Pf ["table"] t.Ra t.Rb
 Tq:Fk K mg "first_with" Pg ["rows","place"] t.Rc t.Rh
 Ip:Fk K mg "cleared" Pr ["field","rows","lead_row","place"] t.Rm t.Rn
 xt:Fk K mg "reduced" Pu ["field","table"] t.Ro t.Rp
 zV:Fk K mg "copied" Pw ["table"] t.Rq t.Rt
 Iq:Fk K mg "leads" Px ["rows"] t.Ru t.Rw
 zW:Fk K mg "free_places" Py ["rows","width"] t.Rx t.Ry
 zX:Fk K mg "kernel_of_reduced" PD ["field","rows","width"] t.RB t.RC
 Dk:Fk K mg "is_small_table" PK ["field","table"] t.RF t.RG
 Dm:Fk K mg "rank" PM ["field","table"] t.RH t.RI
 Ir:Fk K mg "turned" PN ["table"] t.RJ t.RK
 Tr:Fk K mg "is_nought" PQ ["column"] t.RL t.RM
 Ts:Fk K mg "past" PV ["field","column","others"] t.RP t.RQ
 zY:Fk K mg "first_bound" PY ["field","table"] t.RU t.RV
 Dn:Fk K mg "makes_root_code" P0 ["many","length","extra","first"] t.RX t.RY
 Dq:Fk K mg "repeat_checks" P4 ["field","length"] t.RZ t.R0
 Tt:Fk K mg "_law_plus" P7 ["_law_told_here","_law_a","_law_b"] t.R3 t.R4
 Tu:Fk K mg "_law_times" P8 ["_law_told_here","_law_a","_law_b"] t.R5 t.R6
 Iu:Fk K mg "_law_dot" P9 ["_law_told_here","_law_xs","_law_ys"] t.R7 t.R8
 Tv:Fk K mg "_law_by_row" Qa ["_law_told_here","_law_xs","_law_table_here","_law_wide_here"] t.R9 t.Sa
 Tw:Fk K mg "_law_table" Qb ["_law_told_here","_law_script","_law_begin","_law_rows","_law_wide_here","_law_way"] t.Sb t.Sd
 Dr:Fk K mg "_law_code" Qc ["_law_told_here","_law_script","_law_field_here"] t.Se t.Sf
 kg:Fk K mg "refuse_large" Qe ["code"] t.Sg t.Sh
 Tx:Fk K mg "kernel" Qf ["field","table"] t.Si t.Sj
 Tz:Fk K mg "picked" Qg ["table","places"] t.Sk t.Sl
 Iw:Fk K mg "lightest_row" Qh ["field","table"] t.Sm t.Sn
 vn:Fk K mg "lightest" Qj ["code"] t.HS t.HU
 TB:Fk K mg "refuse_length" Ql ["signs","length"] t.Sq t.Sr
 TC:Fk K mg "refuse_no_sign" Qm ["field","signs"] t.Ss t.Su
 TF:Fk K mg "row_by" Qq ["field","row","table"] t.Sx t.Sy
 Ds:Fk K mg "_law_large" Qs ["_law_told_here","_law_script","_law_field_here"] t.SA t.SD
 Dt:Fk K mg "paper" Qt ["code"] t.SE t.SF
 Du:Fk K mg "is_paper" Qu ["code","word","told"] t.SG t.SH
 TH:Fk K mg "_law_refused" Qv ["_law_code_here","_law_way","_law_word"] t.SI t.SJ
 Dv:Fk K mg "_law_wide" Qw ["_law_told_here","_law_script","_law_field_here"] t.SK t.SM
 TJ:Fk K mg "_law_whole" Qy ["_law_x"] t.SN t.SO
 TK:Fk K mg "_law_row_kind" Qz ["_law_row","_law_wide_here","_law_many_here"] t.SQ t.SR
 Iy:Fk K mg "_law_is_word" QB ["_law_told_here","_law_checks","_law_length","_law_word"] t.SS t.SU
 TL:Fk K mg "_law_message" QC ["_law_told_here","_law_script","_law_begin","_law_size"] t.SV t.SW
 Dw:Fk K mg "_law_weight" QD ["_law_word"] t.SX t.SY
 Iz:Fk K mg "law" QH ["_law_script"] t.S3 t.Ia
 xu:Fm K "step_power" "Field.step_power" O3 ["self","n"] t.zQ t.QQ
 IA:Fm K "__init__" "Field.__init__" O4 ["self","many","product"] t.HA t.QR
 TM:Fm K "__init__" "PrimeField.__init__" zM ["self","prime"] t.HB t.HC
 TN:Fm K "__init__" "BitField.__init__" zN ["self","bits"] t.HD t.HE
 TQ:Fm K "scaled" "BitField.scaled" Pj ["self","a","row"] t.HF t.Ri
 TR:Fm K "scaled" "PrimeField.scaled" Pl ["self","a","row"] t.HG t.Rj
 TU:Fm K "lessened" "BitField.lessened" Pn ["self","row","a","other"] t.HH t.Rk
 TV:Fm K "lessened" "PrimeField.lessened" Pp ["self","row","a","other"] t.HI t.Rl
 IB:Fm K "over" "Field.over" Pt ["self","a","b"] t.C6 t.at2
 TX:Fm K "minus" "BitField.minus" PB ["self","a","b"] t.HJ t.Rz
 TY:Fm K "minus" "PrimeField.minus" PC ["self","a","b"] t.HK t.RA
 Dx:Fm K "__init__" "Code.__init__" PF ["self","field","checks"] t.HL t.RD
 IC:Fm K "holds" "Field.holds" PJ ["self","x"] t.C7 t.RE
 TZ:Fm K "times" "BitField.times" PR ["self","a","b"] t.HM t.RN
 T1:Fm K "times" "PrimeField.times" PU ["self","a","b"] t.HN t.RO
 ID:Fm K "__init__" "CheckCode.__init__" PZ ["self","field","table"] t.HP t.RW
 IE:Fm K "__init__" "RepeatCode.__init__" P6 ["self","field","length"] t.HR t.R1
 IF:Fm K "checks" "Code.checks" Qi ["self"] t.zR t.So
 T3:Fm K "dot" "BitField.dot" Qo ["self","xs","ys"] t.HV t.Sv
 T4:Fm K "dot" "PrimeField.dot" Qp ["self","xs","ys"] t.HW t.Sw
 T5:Fm K "written" "Code.written" Qr ["self","message"] t.zS t.Sz
 T6:Fm K "distance" "CheckCode.distance" QE ["self"] t.HX t.S0
 T7:Fm K "distance" "RepeatCode.distance" QF ["self"] t.HY t.S1
 T8:Fm K "distance" "RootCode.distance" QG ["self"] t.HZ t.S2
 dd1:CU K "__init__" "RootCode.__init__" P1 t.HQ t.C8
 dd2:Binds K t.C8 ["self","field","length","extra","first"] []
 dd3:∃tk,Binds K t.C8 ["self","field","length","extra","first"] [.int 1 tk]
 ay1:t.HC.code=.ref t.Ib
 aD4:t.HE.code=.ref t.Ic
 ay2:codeHdIn K t.Ib t.jC=true
 aD5:codeHdIn K t.Ic t.jD=true
 fo:cE K t.aY
 vo:cE K t.fK
 fL:cE K t.a9
 zZ:cE K t.gZ
 sO:cE K t.dR
 aD6:bf K t.aY "bits"
 Dy:bf K t.aY "logs"
 z5:bf K t.aY "many"
 Dz:bf K t.aY "powers"
 z7:bf K t.aY "products"
 aD7:bf K t.aY "step"
 aD8:bf K t.aY "wide"
 T9:bf K t.fK "bound"
 Ua:bf K t.fK "check_rows"
 Ub:bf K t.fK "field"
 Uc:bf K t.fK "length"
 de1:bf K t.fK "message_places"
 Ud:bf K t.fK "size"
 Ue:bf K t.fK "word_rows"
 IG:bf K t.a9 "logs"
 z9:bf K t.a9 "many"
 IH:bf K t.a9 "powers"
 xv:bf K t.a9 "prime"
 ay3:bf K t.a9 "step"
 ay4:bf K t.a9 "wide"
 Ug:bf K t.gZ "check_rows"
 Uh:bf K t.gZ "field"
 Ui:bf K t.gZ "length"
 de4:bf K t.gZ "message_places"
 Uj:bf K t.gZ "size"
 Uk:bf K t.gZ "word_rows"
 Ul:bf K t.dR "check_rows"
 Um:bf K t.dR "extra"
 Uo:bf K t.dR "field"
 de5:bf K t.dR "first"
 Up:bf K t.dR "length"
 de6:bf K t.dR "message_places"
 Uq:bf K t.dR "size"
 Ur:bf K t.dR "word_rows"
 de7:FT K mg "TooLarge" t.iV
 Aa:wg K t.iV
 de8:kitOne K (.ref t.iV) (.ref t.Ie)=some false
 de9:kitOne K (.ref t.iV) (.ref t.Ig)=some false
 df0:kitOne K (.ref t.iV) (.ref t.Ih)=some false
 df1:kitOne K (.ref t.iV) (.ref t.iV)=some true
 df2:kitOne K (.ref t.iV) (.type "ValueError")=some true
 dA1:kitOne K (.type "NoneType") (.ref t.Ie)=some false
 dA2:kitOne K (.type "NoneType") (.ref t.Ig)=some false
 dA3:kitOne K (.type "NoneType") (.ref t.Ih)=some false
 dA4:kitOne K (.type "NoneType") (.ref t.iV)=some false
 ar8:PySem.W.exmOne K (.ref t.iV) (.ref t.S6)=some true
section
variable{P:Program}{w:World}{K:Frag}{mg:Str->Option Value}{base:Heap}{t:cF}
theorem cz0(T:Txt K mg t)(m:Bool × Nat){Q:D->Prop}(q:Q (.int (aa m))):∃C ns xs v,fD t.aY t.a9 m=.obj C ns xs/\cE K C/\bf K C "many"/\(ns.zip xs).lookup ("many":Str)=some v/\Q v:=by
 obtain⟨k,n⟩:=m
 cases k with
 | true=>exact⟨_,_,_,_,rfl,T.fo,T.z5,rfl,q⟩
 | false=>exact⟨_,_,_,_,rfl,T.fL,T.z9,rfl,q⟩
noncomputable abbrev dS(t:cF)(m:Bool × Nat)(G:List (List Nat))(k:Kd):D:=wj t.aY t.a9 t.fK t.gZ t.dR m G k
theorem Ab(T:Txt K mg t)(m:Bool × Nat)(G:List (List Nat))(k:Kd){a:Str}{v:D}(n1:bf K t.fK a)(n2:bf K t.gZ a)(n3:bf K t.dR a)(ha:a∈m5)(h:(m5.zip (m6 t.aY t.a9 false m G)).lookup a=some v){Q:D->Prop}(q:Q v):∃C ns xs v,dS t m G k=.obj C ns xs/\cE K C/\bf K C a/\(ns.zip xs).lookup a=some v/\Q v:=by
 have ha:a="field"\/a="length"\/a="check_rows"\/a="word_rows"\/a="message_places"\/a="size":=by simpa only[bR,gJ,or_false]using ha
 rcases ha with rfl | rfl | rfl | rfl | rfl | rfl<;>cases k
 all_goals first | exact⟨_,_,_,v,rfl,T.vo,n1,h,q⟩ | exact⟨_,_,_,v,rfl,T.zZ,n2,h,q⟩ | exact⟨_,_,_,v,rfl,T.sO,n3,h,q⟩
theorem II(T:Txt K mg t)(m:Bool × Nat)(G:List (List Nat))(k:Kd){Q:D->Prop}(q:Q (fD t.aY t.a9 m)):∃C ns xs v,dS t m G k=.obj C ns xs/\cE K C/\bf K C "field"/\(ns.zip xs).lookup ("field":Str)=some v/\Q v:=Ab T m G k T.Ub T.Uh T.Uo (by decide) rfl q
theorem Ac(T:Txt K mg t)(m:Bool × Nat)(G:List (List Nat))(k:Kd){Q:D->Prop}(q:Q (.int (ai G:Nat))):∃C ns xs v,dS t m G k=.obj C ns xs/\cE K C/\bf K C "length"/\(ns.zip xs).lookup ("length":Str)=some v/\Q v:=Ab T m G k T.Uc T.Ui T.Up (by decide) rfl q
theorem bR1(T:Txt K mg t)(m:Bool × Nat)(G:List (List Nat))(k:Kd){Q:D->Prop}(q:Q (.lst false (ax false G))):∃C ns xs v,dS t m G k=.obj C ns xs/\cE K C/\bf K C "check_rows"/\(ns.zip xs).lookup ("check_rows":Str)=some v/\Q v:=Ab T m G k T.Ua T.Ug T.Ul (by decide) rfl q
theorem ch7(T:Txt K mg t)(m:Bool × Nat)(G:List (List Nat))(k:Kd){Q:D->Prop}(q:Q (.lst false (ax false (l7 m G)))):∃C ns xs v,dS t m G k=.obj C ns xs/\cE K C/\bf K C "word_rows"/\(ns.zip xs).lookup ("word_rows":Str)=some v/\Q v:=Ab T m G k T.Ue T.Uk T.Ur (by decide) rfl q
theorem Us(T:Txt K mg t)(m:Bool × Nat)(G:List (List Nat))(k:Kd){Q:D->Prop}(q:Q (.int ((b8 m G).length:Nat))):∃C ns xs v,dS t m G k=.obj C ns xs/\cE K C/\bf K C "size"/\(ns.zip xs).lookup ("size":Str)=some v/\Q v:=Ab T m G k T.Ud T.Uj T.Uq (by decide) rfl q
theorem Ut(T:Txt K mg t){m:Bool × Nat}{G:List (List Nat)}{k:Kd}{me:Str}{n:Nat}{f:Addr}{fd:FuncData}{ps:List Str}{sp:aW}(h1:Meth K t.fK me f)(h2:Meth K t.gZ me f)(h3:Meth K t.dR me f)(F:aH P w K mg base aP n f fd ps (a6 sp))(b:Binds K fd ps [])(nm:me ∉ (["extra","first","field","length","check_rows","word_rows","message_places","size","bound"]:List Str)){ds:List D}{Q:D->Prop}(q:sp (dS t m G k::ds) Q):∃C ns zs sp,dS t m G k=.obj C ns zs/\iO P w K mg base n me C sp/\me ∉ ns/\sp (.obj C ns zs::ds) Q:=by
 simp only[bR,gJ,or_false,not_or]at nm
 cases k
 ·exact⟨_,_,_,sp,rfl,⟨T.vo,_,_,_,h1,F,b⟩,by simp[nm],q⟩
 ·exact⟨_,_,_,sp,rfl,⟨T.zZ,_,_,_,h2,F,b⟩,by simp[nm],q⟩
 ·exact⟨_,_,_,sp,rfl,⟨T.sO,_,_,_,h3,F,b⟩,by simp[nm],q⟩
theorem b02(T:Txt K mg t)(m:Bool × Nat)(G:List (List Nat))(k:Kd){me:Str}{n:Nat}{f:Addr}{fd:FuncData}{ps:List Str}{sp:aW}(h1:Meth K t.fK me f)(h2:Meth K t.gZ me f)(h3:Meth K t.dR me f)(F:aH P w K mg base aP n f fd ps (a6 sp))(b:Binds K fd ps [])(nm:me ∉ (["extra","first","field","length","check_rows","word_rows","message_places","size","bound"]:List Str)):∃C ns zs tT,dS t m G k=.obj C ns zs/\iO P w K mg base n me C tT/\me ∉ ns/\∀ds Q,sp (dS t m G k::ds) Q->tT (.obj C ns zs::ds) Q:=by
 simp only[bR,gJ,or_false,not_or]at nm
 cases k
 ·exact⟨_,_,_,sp,rfl,⟨T.vo,_,_,_,h1,F,b⟩,by simp[nm],λ_ _ q=>q⟩
 ·exact⟨_,_,_,sp,rfl,⟨T.zZ,_,_,_,h2,F,b⟩,by simp[nm],λ_ _ q=>q⟩
 ·exact⟨_,_,_,sp,rfl,⟨T.sO,_,_,_,h3,F,b⟩,by simp[nm],λ_ _ q=>q⟩
noncomputable abbrev aL2:aW:=λds Q=>∃c:Int,ds=[.int c]/\Q (cP (sA c))
theorem aL3(T:Txt K mg t):aH P w K mg base aP 1 t.QI t.QJ ["_law_cell_here"] (a6 (aL2 )):=by
 refine bo T.To.F Hw (λds Q h=>by obtain⟨c,rfl,q⟩:=h<;>rfl) λay A outer s H E hr=>⟨_,(aE (bc (i:=1) Hw.nd rfl (aA rfl) (Mn (ns:=[7,11,13,19,25,31,37,41,47,55,59,61,67,73,87,91,97,103,109,115,117]) (by decide +kernel)))
   (aE (bc (i:=2) Hw.nd rfl (aA rfl) (Mn (ns:=[2,3,5,7,11,13,17,19,23,29,31,37,41,43,47,53,59,61]) (by decide +kernel)))
   (aE (cq (bJ (fQ (cN hr)) (ae (aB cX (bv 0) (ae ao))) (ae ao) (bA _)) (aC (aQ (yz (cW gw (cW (du (bB (bv 1) (ae (aB cX (ae (aB ly (bv 0) (ae ao))) (ae ao))) (λ_ _=>rfl))) dv))))) cI)
   (aC (aQ (yz (cW gw (cW (du (bB (bv 2) (ae (aB cX (ae (aB ly (bv 0) (ae ao))) (ae ao))) (λ_ _=>rfl))) dv)))))))),λds Q h=>?_⟩
 obtain⟨c,rfl,q⟩:=h
 refine aD λU hU=>?_
 walk_at"l3"
 refine⟨by decide,hU _ ?_⟩
 clear hU U
 refine aD λU hU=>?_
 walk_at"l3"
 refine⟨by decide,hU _ ?_⟩
 clear hU U
 refine aD λU hU=>?_
 walk_at"l3"
 refine⟨by decide,?_⟩
 have n1:=ir (c/2) (show(21:Int)≠0 by decide)
 have n2:=iu (c/2) (show(0:Int)<21 by decide)
 have n3:=ir (c/2) (show(18:Int)≠0 by decide)
 have n4:=iu (c/2) (show(0:Int)<18 by decide)
 split
 ·rename_i hc
  refine⟨lj (by decide) (by decide),by decide,_,mO n1 (by simpa using n2),rfl,by decide,?_⟩
  have e:cP (sA c)=.tup [.bl true,.int (([7,11,13,19,25,31,37,41,47,55,59,61,67,73,87,91,97,103,109,115,117]:List Int).getD (c/2%21).toNat 0)]:=by
   unfold sA cP
   rw[if_pos hc]
   have:∀k:Nat,((gW.getD k 0:Nat):Int)=([7,11,13,19,25,31,37,41,47,55,59,61,67,73,87,91,97,103,109,115,117]:List Int).getD k 0:=λk=>by
    show _=(gW.map (λ(n:Nat)=>(n:Int))).getD k ((0:Nat):Int)
    rw[aN,aN,cu]
    cases gW[k]?<;>rfl
   rw[<-this]
  rw[<-e];exact q
 ·rename_i hc
  refine hU _ ?_
  walk_at"l3"
  refine⟨lj (by decide) (by decide),by decide,_,mO n3 (by simpa using n4),rfl,by decide,?_⟩
  have e:cP (sA c)=.tup [.bl false,.int (([2,3,5,7,11,13,17,19,23,29,31,37,41,43,47,53,59,61]:List Int).getD (c/2%18).toNat 0)]:=by
   unfold sA cP
   rw[if_neg hc]
   have:∀k:Nat,((ph.getD k 0:Nat):Int)=([2,3,5,7,11,13,17,19,23,29,31,37,41,43,47,53,59,61]:List Int).getD k 0:=λk=>by
    show _=(ph.map (λ(n:Nat)=>(n:Int))).getD k ((0:Nat):Int)
    rw[aN,aN,cu]
    cases ph[k]?<;>rfl
   rw[<-this]
  rw[<-e];exact q
noncomputable abbrev aL4(L:Obj->Obj->Addr->Addr->wN->Prop):aW:=λds Q=>∃(a:Nat) (of oc:Obj) (c k:Addr) (g:Nat->Nat->Nat) (l:List Int),ds=[.int a,.bx (.lam of oc c k)]/\L of oc c k (zb g)/\a<64/\Gu g a=some l/\Q (.lst true (aJ l))
theorem Uu(T:Txt K mg t):aH P w K mg base aP 5 t.QK t.QL ["a","product"] (a6 (aL4 (yW P w K mg base 4))):=by
 refine bo T.Io.F CY (λds Q h=>by obtain⟨a,of,oc,c,k,g,l,rfl,hL,ha,hp,q⟩:=h<;>rfl) λay A outer s H E hr=>⟨_,(aE (bc (i:=2) CY.nd rfl (aA rfl) (eD (cW ao dv)))
   (aE (bc (i:=3) CY.nd rfl (aA rfl) (MP (n:=4) (i:=1) rfl (by first | exact aA rfl | exact cJ (aA rfl)) (hr.mono (by decide)) (ag (ae ao) (ag (bv 0) av))))
   (aE (yB f7 (bJ (jc (cN hr)) (bv 3) (ae ao) (bA _))
    (aE (wD (i:=2) rfl (by first | exact aA rfl | exact cJ (aA rfl)) (du (bv 3)))
    (aC (bc (i:=3) CY.nd rfl (aA rfl) (MP (n:=4) (i:=1) rfl (by first | exact aA rfl | exact cJ (aA rfl)) (hr.mono (by decide)) (ag (bv 3) (ag (bv 0) av)))))))
   (aC (aQ (em 2)))))),λds Q h=>?_⟩
 obtain⟨a,of,oc,c,k,g,l,rfl,hL,ha,hp,q⟩:=h
 refine aD λU hU=>?_
 walk_at"l3"
 refine⟨by decide,hU _ ?_⟩
 clear hU U
 refine aD λU hU=>?_
 walk_at"l3"
 refine⟨of,oc,c,k,zb g,rfl,hL,1,a,⟨rfl,rfl⟩,1,a,rfl,rfl,by decide,ha,hU _ ?_⟩
 clear hU U
 refine aD λU hU=>?_
 walk_at"l3"
 refine⟨λm δ=>∃(p:Nat) (acc:List Int),δ=[some (.int a),some (.bx (.lam of oc c k)),some (.lst true (aJ acc)),some (.int p)]/\acc.length+m<=70/\Cn g a m p acc=some l,⟨64,_,[1],rfl,by decide,hp⟩,?_⟩
 rintro m δ ⟨p,acc,rfl,hn,hg⟩
 walk_at"l3"
 cases m with
 | zero=>cases hg
 | succ m =>
  unfold Cn at hg
  split at hg
  ·rename_i h1
   subst h1
   cases hg
   rw[if_neg (by simp)]
   refine hU _ ?_
   walk_at"l3"
   exact q
  ·rename_i h1
   rw[if_pos (by simp;omega)]
   split at hg
   ·rename_i h2
    clear hU
    refine aD λU hU=>?_
    walk_at"l3"
    refine⟨⟨_,rfl⟩,by omega,hU _ ?_⟩
    clear hU
    walk_at"l3"
    exact⟨of,oc,c,k,zb g,rfl,hL,p,a,⟨rfl,rfl⟩,p,a,rfl,rfl,h2,ha,m,by omega,g p a,acc++[(p:Int)],⟨by rw[<-oQ];rfl,rfl⟩,by simp;omega,hg⟩
   ·cases hg
noncomputable abbrev aH6(L:Obj->Obj->Addr->Addr->wN->Prop):aW:=λds Q=>∃(n:Nat) (of oc:Obj) (c k:Addr) (g:Nat->Nat->Nat) (l:List Int),ds=[.int n,.bx (.lam of oc c k)]/\L of oc c k (zb g)/\za g n=some l/\Q (.lst true (aJ l))
theorem aH7(T:Txt K mg t):aH P w K mg base aP 6 t.QM t.QN ["many","product"] (a6 (aH6 (yW P w K mg base 4))):=by
 refine bo T.Dc.F zL (λds Q h=>by obtain⟨n,of,oc,c,k,g,l,rfl,hL,hp,q⟩:=h<;>rfl) λay A outer s H E hr=>⟨_,(aE (bc (i:=2) zL.nd rfl (aA rfl) ao)
   (aE (bc (i:=3) zL.nd rfl (aA rfl) (bg T.Io (Uu T) hr (ag (bv 2) (ag (bv 1) av))))
   (aE (yB f7 (bJ oy (ae (eH (ib) (by rfl) T.g5 gM (ag (bv 3) av))) (ae (aB fi (bv 0) (ae ao))) (bA _))
    (aE (yA (i:=2) zL.nd rfl (aA rfl) (ae ao) cr4)
    (aC (bc (i:=3) zL.nd rfl (aA rfl) (bg T.Io (Uu T) hr (ag (bv 2) (ag (bv 1) av)))))))
   (aC (aQ (em 3)))))),λds Q h=>?_⟩
 obtain⟨n,of,oc,c,k,g,l,rfl,hL,hp,q⟩:=h
 unfold za at hp
 split at hp
 ·rename_i l0 h0
  refine aD λU hU=>?_
  walk_at"l3"
  refine hU _ ?_
  clear hU U
  refine aD λU hU=>?_
  walk_at"l3"
  refine⟨1,of,oc,c,k,g,l0,rfl,hL,by decide,h0,hU _ ?_⟩
  clear hU U
  refine aD λU hU=>?_
  walk_at"l3"
  refine⟨λm δ=>∃(st:Nat) (l1:List Int),δ=[some (.int n),some (.bx (.lam of oc c k)),some (.int st),some (.lst true (aJ l1))]/\st+m<=63/\Co g n m st l1=some l,⟨62,1,l0,rfl,by decide,hp⟩,?_⟩
  rintro m δ ⟨st,l1,rfl,hn,hg⟩
  walk_at"l3"
  cases m with
  | zero=>cases hg
  | succ m =>
   unfold Co at hg
   split at hg
   ·rename_i h1
    rw[if_pos (by omega)]
    split at hg
    ·rename_i l2 h2
     clear hU
     refine aD λU hU=>?_
     walk_at"l3"
     refine hU _ ?_
     clear hU
     walk_at"l3"
     exact⟨st+1,of,oc,c,k,g,l2,rfl,hL,by omega,h2,m,by omega,st+1,l2,⟨rfl,rfl⟩,by omega,hg⟩
    ·cases hg
   ·rename_i h1
    rw[if_neg (by omega)]
    cases hg
    refine hU _ ?_
    walk_at"l3"
    exact q
 ·cases hp
noncomputable abbrev aN9:aW:=λds Q=>∃(l:List Int),ds=[.lst false (aJ l)]/\l.length<=64/\(∀x∈l,0<=x/\x.toNat<=l.length)/\Q (.lst true (aJ (eQ l)))
theorem aO0(T:Txt K mg t):aH P w K mg base aP 1 t.QO t.QP ["powers"] (a6 (aN9 )):=by
 refine bo T.De.F Hx (λds Q h=>by obtain⟨l,rfl,hl,hx,q⟩:=h<;>rfl) λay A outer s H E hr=>⟨_,(aE (bc (i:=1) Hx.nd rfl (aA rfl) (aB gU (ae (eD (cW ao dv))) (ae (aB dw (ae (eH (ib) (by rfl) T.g5 gM (ag (bv 0) av))) (ae ao)))))
   (aE (iK f7 rfl (wK rfl T.xq (ag (bv 0) av)) (mQ (i1:=2) (i2:=3) rfl Hx.nd rfl (aA rfl) rfl (aA rfl))
    (aC (yQ (i:=1) rfl (by first | exact aA rfl | exact cJ (aA rfl)) (du (bv 2)) (bv 3))))
   (aC (aQ (em 1))))),λds Q h=>?_⟩
 obtain⟨l,rfl,hl,hx,q⟩:=h
 refine aD λU hU=>?_
 walk_at"l3"
 refine⟨by decide,⟨by omega,by omega,by omega⟩,hU _ ?_⟩
 clear hU U
 refine aD λU hU=>?_
 walk_at"l3"
 refine gQ.mk (λi δ=>∃o1 o2,δ=[some (.lst false (aJ l)),some (.lst true (aJ (pj l i))),o1,o2]) ⟨none,none,?_⟩ ?_ ?_
 ·rw[show((l.length:Int)+1).toNat=l.length+1 by omega];rfl
 ·rintro i d δ hd ⟨o1,o2,rfl⟩
  obtain⟨hi,rfl⟩:∃h:i<l.length,d=.tup [.int i,.int l[i]]:=by
   unfold fU aJ at hd
   rw[AL,cu]at hd
   by_cases hi:i<l.length
   ·rw[aM hi]at hd
    simp at hd
    exact⟨hi,hd.symm⟩
   ·rw[gn (by omega)]at hd;simp at hd
  have bO:=hx l[i] (dE _)
  walk_at"l3"
  refine⟨_,(l[i]).toNat,rfl,?_,_,_,?_,rfl,rfl⟩
  ·unfold jP
   rw[lL,zc,if_pos bO.1,if_pos (by omega)]
  ·unfold aJ
   rw[<-List.map_set]
   congr 1
   show _=(pj l i).set (l.getD i 0).toNat (i:Int)
   rw[aN,aM hi];rfl
 ·rintro δ ⟨o1,o2,rfl⟩
  refine hU _ ?_
  simp only[qP,oh,qQ,qR,oi,dT,k7,mF,mG,dC,nX,mH,n6,nZ,n8,qO,mL,rE,oM,rF,rG,qI,qJ,qK,qL,by4,qN,nY,ug,oE,oF,ii,ot,qZ,ow,q0,q8,q9,rh,rj,rk,iI,gR,rn,rp,rq,rz,oA,oB,lC,rB,rC,gN,rH,rD,qS,qU,qV,qW,qX,qY,rJ,rK,mJ,i8,fh,i7,gx,nz,p7,tu,vK,og,jW,i6,oH,oI,lN,rO,rR,rQ,rS,rT,kH,jx,rW,oW,rU,iM,jy,uO,uP,da,jH,qk,p9,gH,vL,aV,tw,tD,kq,kr,tE,exists_eq_left',exists_eq_left,D.bl.injEq,D.int.injEq,D.lst.injEq,D.fz.injEq,D.str.injEq,D.tup.injEq,vM,and_true,true_and,de,qj,kn,kQ,ui,uj,uk,um,uo,uq,fB,jU,lK,uw,uz,uA,uB,uC,cU,kC,rL,ur,uu,uv,eZ,nU,vN,vO,pW,ix,vP,vQ,sV,uG,uH,uI,uJ,uK,uL,uM,lL,lM,oO,jw,oQ,uE,rN,uD,oR,uF,j3,rM,if_true,mh,if_false,reduceIte,uN,decide_eq_true_eq,eI,kI,mR,uS,mS,uR,qT,se,rV,oZ,pd,pf,sk,sD,pJ,fC,pH,kJ,u4,pG,sG,sH,sI,pL,uQ]
  exact q
noncomputable abbrev Ad(K:Frag):aW:=λds Q=>∃(C:Addr) (ns:List Str) (xs:List D) (n:Int) (many:Nat) (l:List Int) (r:Int),ds=[.obj C ns xs,.int n]/\cE K C/\bf K C "powers"/\bf K C "many"/\(ns.zip xs).lookup ("powers":Str)=some (.lst false (aJ l))/\(ns.zip xs).lookup ("many":Str)=some (.int many)/\2<=many/\l[(n%((many:Int)-1)).toNat]?=some r/\Q (.int r)
theorem Ae(T:Txt K mg t):aH P w K mg base aP 1 t.zQ t.QQ ["self","n"] (a6 (Ad K)):=by
 refine bo T.xu.F au4 (λds Q h=>by obtain⟨C,ns,xs,n,many,l,r,rfl,hC,h1,h2,h3,h4,h5,h6,q⟩:=h<;>rfl) λay A outer s H E hr=>⟨_,(aC (aQ (du (bB (eB (K:=K) (bv 0)) (ae (aB cX (bv 1) (ae (aB fi (eB (K:=K) (bv 0)) (ae ao))))) (λ_ _=>rfl))))),λds Q h=>?_⟩
 obtain⟨C,ns,xs,n,many,l,r,rfl,hC,h1,h2,h3,h4,h5,h6,q⟩:=h
 walk_at"l3"
 refine⟨C,ns,xs,_,rfl,hC,h1,h3,C,ns,xs,_,rfl,hC,h2,h4,?_⟩
 refine⟨by omega,_,qw (d:=.int r) (ir _ (by omega)) ?_,rfl,q⟩
 unfold aJ
 rw[cu,h6];rfl
theorem by6(T:Txt K mg t){m:Bool × Nat}(hm:m∈aw){n:Int}{Q:D->Prop}(q:Q (.int (eS m n:Nat))):Nx P w K mg base 1 t.aY t.a9 m "step_power" [.int n] Q:=by
 have hF:=bZ hm
 have hl:=cC1 hm n
 obtain⟨k,b⟩:=m
 cases k with
 | true=>exact⟨_,_,_,Ad K,rfl,⟨T.fo,_,_,_,T.Ik,Ae T,T.xu.b⟩,by decide,_,_,_,_,aa (true,b),fl (true,b),_,rfl,T.fo,T.Dz,T.z5,rfl,rfl,hF.lo,hl,q⟩
 | false=>exact⟨_,_,_,Ad K,rfl,⟨T.fL,_,_,_,T.Il,Ae T,T.xu.b⟩,by decide,_,_,_,_,aa (false,b),fl (false,b),_,rfl,T.fL,T.IH,T.z9,rfl,rfl,hF.lo,hl,q⟩
noncomputable abbrev aJ2(P:Program)(w:World)(K:Frag)(mg:Str->Option Value)(base:Heap)(fs:Addr):Sp:=λvs H Q _=>∃(x dx f C:Addr) (b:Str) (n0:Int) (many:Nat) (of oc:Obj) (c k:Addr) (g:Nat->Nat->Nat) (l:List Int) (st:Int),
 vs=[.ref x,.int many,.ref f]/\H x=some (.ins C dx [(b,.int n0)])/\(∀n∈(["many","wide","powers","logs","step","step_power"]:List Str),b≠n)/\cT6 K C fs/\kB H f of oc c k/\yW P w K mg base 4 of oc c k (zb g)/\M9 g many l st /\
 ∀H' p1 p2,bL x H H'->H' x=some (.ins C dx ((iQ b).zip (Cp n0 many p1 p2 st)))->LI H' p1 l->LI H' p2 (eQ l)->p1≠p2->H p1=none->H p2=none->Q .au H'
theorem Uv(T:Txt K mg t):aH P w K mg base aP 7 t.HA t.QR ["self","many","product"] (aJ2 P w K mg base t.zQ):=by
 refine T.IA.F.ok aI7 (λvs H Q E h=>?_) λay A outer s H vs Q E hr h=>?_
 ·obtain⟨x,dx,f,C,b,n0,many,of,oc,c,k,g,l,st,rfl,_⟩:=h;rfl
 obtain⟨x,dx,f,C,b,n0,many,of,oc,c,k,g,l,st,rfl,hx,hb,hC,dg7,hL,hF,q⟩:=h
 refine⟨_,eV (g9 (pv 0) (pv 1) rfl) (eV (g9 (pv 0) (yc Ez (E1 (pv 1)) qq) rfl)
  (eV (g9 (pv 0) (jq ((aH7 T).mono (by decide)) hr rfl T.Dc.g T.Dc.F.kp T.Dc.b .nil cL (bN (pv 1) (bN (pv 2) eX))) rfl)
  (eV (g9 (pv 0) (jq ((aO0 T).mono (by decide)) hr rfl T.De.g T.De.F.kp T.De.b .nil cL (bN (tS (pv 0) rfl) eX)) rfl)
  (jl (g9 (pv 0) (XS (pv 0) hC.cls hC.sp ((Ae T).mono (by decide)) hr T.xu.b .nil cL (bN qq eX)) rfl))))),?_⟩
 try dsimp only[jx,jy]
 have nb:∀n∈(["many","wide","powers","logs","step","step_power"]:List Str),b≠n:=hb
 refine⟨.int many,rfl,.ref x,rfl,x,C,dx,_,rfl,hx,hC.cls,hC.many,nv (bE 1) (by decide),?_⟩
 rw[wR (by simpa using nb "many" (by simp))]
 generalize e1:upd H x (HO.ins C dx ([(b,V.int n0)]++[(("many":Str),V.int many)]))=H1
 have bO:H1 x=some (.ins C dx [(b,V.int n0),(("many":Str),V.int many)]):=by rw[<-e1,bI];rfl
 have s1:bL x H H1:=by rw[<-e1];exact bL.upd (C:=C) (dx:=dx) hx rfl
 have l1:kB H1 f of oc c k:=by rw[<-e1];exact dg7.mU hx
 have n1:∀p,H1 p=none->H p=none:=λp h=>zd hx (by rw[e1];exact h)
 refine⟨_,rfl,rfl,_,rfl,rfl,_,_,rfl,rfl,.ref x,rfl,x,C,dx,_,rfl,bO,hC.cls,hC.wide,nv (bE 2) (by decide),?_⟩
 rw[wR (by simp;exact⟨nb "wide" (by simp),by decide⟩),jg]
 generalize e2:upd H1 x (HO.ins C dx ([(b,V.int n0),(("many":Str),V.int many)]++[(("wide":Str),V.int ((bl many:Nat)-1))]))=H2
 have dZ:H2 x=some (.ins C dx [(b,V.int n0),(("many":Str),V.int many),(("wide":Str),V.int ((bl many:Nat)-1))]):=by rw[<-e2,bI];rfl
 have s2:bL x H H2:=by rw[<-e2];exact s1.trans (bL.upd (C:=C) (dx:=dx) bO rfl)
 have l2:kB H2 f of oc c k:=by rw[<-e2];exact l1.mU bO
 have n2:∀p,H2 p=none->H p=none:=λp h=>n1 p (zd bO (by rw[e2];exact h))
 refine⟨_,rfl,_,rfl,H2,[.int many,.bx (.lam of oc c k)],λd=>d=.lst true (aJ l),af.refl _,.int (.bx l2 .nil),⟨many,of,oc,c,k,g,l,rfl,hL,hF.step,rfl⟩,λd v F' H3 A' hd hs hf he h3 r nd fr=>?_⟩
 subst hd
 obtain⟨p1,rfl,hp1,Af⟩:=M8 r fr
 have fF:=hs.get _ _ dZ
 have s3:=s2.trans (hs.x (x:=x))
 refine⟨.ref x,rfl,x,C,dx,_,rfl,fF,hC.cls,hC.Gv,nv (bE 3) (by decide),?_⟩
 rw[wR (by simp;exact⟨nb "powers" (by simp),by decide,by decide⟩)]
 generalize e4:upd H3 x (HO.ins C dx ([(b,V.int n0),(("many":Str),V.int many),(("wide":Str),V.int ((bl many:Nat)-1))]++[(("powers":Str),V.ref p1)]))=H4
 have kh:H4 x=some (.ins C dx [(b,V.int n0),(("many":Str),V.int many),(("wide":Str),V.int ((bl many:Nat)-1)),(("powers":Str),V.ref p1)]):=by rw[<-e4,bI];rfl
 have s4:bL x H H4:=by rw[<-e4];exact s3.trans (bL.upd (C:=C) (dx:=dx) fF rfl)
 have p4:LI H4 p1 l:=by rw[<-e4];exact hp1.upd fF (λws z=>by cases z)
 have n4:∀p,H4 p=none->H p=none:=λp h=>n2 p (hs.free (zd fF (by rw[e4];exact h)))
 refine⟨.ref x,rfl,x,C,dx,_,.ref p1,rfl,kh,hC.cls,hC.Gv,by rw[Cq (nb "powers" (by simp))];rfl,H4,[.lst false (aJ l)],λd=>d=.lst true (aJ (eQ l)),af.refl _,.shr p4 (lJ l) .nil,⟨l,rfl,by have:=hF.len;have:=hF.hi;omega,hF.ins,rfl⟩,λd v F' H5 A' hd kL hf he h3 r nd fr=>?_⟩
 subst hd
 obtain⟨p2,rfl,Uw,vp⟩:=M8 r fr
 have ki:=kL.get _ _ kh
 have s5:=s4.trans (kL.x (x:=x))
 have dg9:p1≠p2:=λz=>by rw[<-z]at vp;unfold LI at p4;rw[vp]at p4;cases p4
 refine⟨.ref x,rfl,x,C,dx,_,rfl,ki,hC.cls,hC.cT7,nv (bE 4) (by decide),?_⟩
 rw[wR (by simp;exact⟨nb "logs" (by simp),by decide,by decide,by decide⟩)]
 generalize e6:upd H5 x (HO.ins C dx ([(b,V.int n0),(("many":Str),V.int many),(("wide":Str),V.int ((bl many:Nat)-1)),(("powers":Str),V.ref p1)]++[(("logs":Str),V.ref p2)]))=H6
 have vq:H6 x=some (.ins C dx (([b,"many","wide","powers","logs"]:List Str).zip [V.int n0,V.int many,V.int ((bl many:Nat)-1),V.ref p1,V.ref p2])):=by rw[<-e6,bI];rfl
 have s6:bL x H H6:=by rw[<-e6];exact s5.trans (bL.upd (C:=C) (dx:=dx) ki rfl)
 have p6:LI H6 p1 l:=by rw[<-e6];exact(p4.same kL).upd ki (λws z=>by cases z)
 have q6:LI H6 p2 (eQ l):=by rw[<-e6];exact Uw.upd ki (λws z=>by cases z)
 refine⟨.ref x,rfl,x,dx,_,rfl,vq,by show l9 ("step_power":Str) ((b,V.int n0)::_)=none;rw[Cq (nb "step_power" (by simp))];rfl,H6,[.obj C [b,"many","wide","powers","logs"] [.int n0,.int many,.int ((bl many:Nat)-1),.lst false (aJ l),.lst false (aJ (eQ l))],.int 1],λd=>d=.int st,af.refl _,
  .obj vq rfl (.int (.int (.int (.shr p6 (lJ l) (.shr q6 (lJ _) .nil))))) (.int .nil),⟨C,_,_,1,many,l,st,rfl,hC.cls,hC.Gv,hC.many,by show l9 ("powers":Str) ((b,D.int n0)::_)=_;rw[Cq (nb "powers" (by simp))];rfl,by show l9 ("many":Str) ((b,D.int n0)::_)=_;rw[Cq (nb "many" (by simp))];rfl,hF.lo,hF.st,rfl⟩,λd v F' H7 A' hd pS hf he h3 r nd fr=>?_⟩
 subst hd
 cases r
 have vt:=pS.get _ _ vq
 refine⟨.ref x,rfl,x,C,dx,_,rfl,vt,hC.cls,hC.step,nv (bE 5) (by decide),?_⟩
 rw[wR (by simp;exact⟨nb "step" (by simp),by decide,by decide,by decide,by decide⟩)]
 refine q _ p1 p2 ((s6.trans (pS.x (x:=x))).trans (bL.upd (C:=C) (dx:=dx) vt rfl)) (by rw[bI];rfl) ((p6.same pS).upd vt (λws z=>by cases z)) ((q6.same pS).upd vt (λws z=>by cases z)) dg9 (n2 p1 Af) (n4 p2 vp)
noncomputable abbrev ar9:aW:=λds Q=>∃a:Int,ds=[.int a]/\Q (.bl (decide (2<=a)&&decide (a<=61)&&(aL (a.toNat-2)).all λi=>a%(2+(i:Int)) != 0))
theorem as0(T:Txt K mg t):aH P w K mg base aP 1 t.QS t.QT ["prime"] (a6 (ar9 )):=by
 refine bo T.Df.F ar3 (λds Q h=>by obtain⟨a,rfl,q⟩:=h<;>rfl) λay A outer s H E hr=>⟨_,(aC (aQ (qM (ae (uf kE kE (ae ao) (bv 0) (ae ao))) (vW (eH (yL rfl) (by rfl) T.zT yp (ag (ae (di [("prime",0)] ["d"] rfl (BP rfl T.ik (ag (ae ao) (ag (bv 0) av))) (λ_ _ _ _=>(dQ (i:=1) (show(["prime","d"]:List Str).Nodup by decide +kernel))) (λ_ _ _ _=>dB) (λ_ _ _ _=>(yx (jc (cN hr)) (ae (aB cX (bv 0) (bv 1))) (ae ao) (bA _))) rfl)) av)))))),λds Q h=>?_⟩
 obtain⟨a,rfl,q⟩:=h
 walk_at"l3"
 split
 ·rename_i h1
  split
  ·rename_i h2
   refine⟨2,a,⟨rfl,rfl⟩,⟨by decide,by decide,by omega,by omega⟩,?_⟩
   have e0:(a-2).toNat=a.toNat-2:=by omega
   rw[e0]
   refine oV (aL (a.toNat-2)) (λ(k:Nat)=>D.int (2+(k:Int))) (λ(k:Nat)=>D.bl (a%(2+(k:Int)) != 0)) (by rw[yC]) (λx y h=>by injection h with h;omega) (λk hk=>?_) (.inr λ_ _=>rfl) (by rw[bV,sL];omega) ?_
   ·walk_at"l3"
    refine⟨by omega,?_⟩
    by_cases z:a%(2+(k:Int))=0<;>simp[z]
   ·refine⟨(aL (a.toNat-2)).map λ(k:Nat)=>a%(2+(k:Int)) != 0,?_,?_⟩
    ·unfold oG;rw[bW];rfl
    ·have e:(decide (2<=a)&&decide (a<=61)&&(aL (a.toNat-2)).all λi=>a%(2+(i:Int)) != 0)=((aL (a.toNat-2)).map λ(k:Nat)=>a%(2+(k:Int)) != 0).all id:=by
      simp[h1,h2,nB]
     rw[<-e];exact q
  ·rename_i h2
   have e:(decide (2<=a)&&decide (a<=61)&&(aL (a.toNat-2)).all λi=>a%(2+(i:Int)) != 0)=false:=by simp[h2]
   rw[e]at q;exact q
 ·rename_i h1
  have e:(decide (2<=a)&&decide (a<=61)&&(aL (a.toNat-2)).all λi=>a%(2+(i:Int)) != 0)=false:=by simp[h1]
  rw[e]at q;exact q
noncomputable abbrev aH8:List D->List Str->List D->Prop:=λds ns xs=>∃p:Nat,ds=[.int p]/\p∈ph/\ns=iQ "prime"/\xs=[.int p,.int p,.int ((bl p:Nat)-1),.lst true (aJ (fl (false,p))),.lst true (aJ (eQ (fl (false,p)))),.int (fst (false,p))]
theorem ay6(T:Txt K mg t)(hB:Bm mg base):aH P w K mg base aP 8 t.HB t.HC ["self","prime"] (Gr [t.jC,t.jD] t.a9 aH8):=by
 refine M5 T.TM.F T.ay1 av3 (λvs H Q E h=>?_) λA outer s H vs Q E hr h=>?_
 ·obtain⟨x,dx,bK,ds,ns,xs,rfl,_,_,r,⟨p,rfl,_⟩,_⟩:=h
  have:=r.length
  simp at this
  simp[this]
 obtain⟨x,dx,bK,ds,ns,xs,rfl,tb,hx,r,⟨p,rfl,hp,rfl,rfl⟩,q⟩:=h
 obtain rfl:bK=[.int p]:=by
  cases r with
  | int r=>cases r;rfl
 have hm:(false,p)∈aw:=dj _ (AN hp)
 have hF:=bZ hm
 refine⟨_,eV (tM (Bd (Bb (jq ((as0 T).mono (by decide)) hr rfl T.Df.g T.Df.F.kp T.Df.b .nil cL (bN (pv 1) eX)))) (jl tN) qt)
  (eV (g9 (pv 0) (pv 1) rfl)
  (jl (tL (MY (E:=E0) (i:=1) T.Tn ((Uv T).mono (by decide)) hr T.IA.b rfl T.S8 rfl rfl rfl rfl (bN (pv 0) (bN (pv 1) (bN (MQ rfl rfl T.ay2 hB) eX))))))),?_⟩
 try dsimp only[jx,jy]
 refine⟨_,rfl,H,[.int p],λd=>d=.bl true,af.refl _,.int .nil,⟨p,rfl,by rw[b07 p hp]⟩,λd v F' H1 A1 hd eT hf he h3 r nd fr=>?_⟩
 subst hd
 cases r
 refine⟨true,rfl,?_⟩
 refine iY ?_
 have bO:=eT.get _ _ hx
 refine⟨.int p,rfl,.ref x,rfl,x,t.a9,dx,_,rfl,bO,T.fL,T.xv,by decide,?_⟩
 generalize e2:upd H1 x (HO.ins t.a9 dx (b9 "prime" (.int p) []))=H2
 have dZ:H2 x=some (.ins t.a9 dx [(("prime":Str),.int p)]):=by rw[<-e2,bI];rfl
 have s2:bL x H H2:=by rw[<-e2];exact(eT.x (x:=x)).trans (bL.upd (C:=x) (dx:=dx) bO rfl)
 have n2:∀p,H2 p=none->H p=none:=λp h=>eT.free (zd bO (by rw[e2];exact h))
 obtain⟨ps,hP⟩:=tb t.jC (by simp)
 obtain⟨more,IJ⟩:=s2.tb _ ps hP
 refine⟨.ref x,rfl,.int p,rfl,⟨_,IJ⟩,λf k qn pm jA H3 nf Ag hk kf gD hl3=>?_⟩
 refine⟨f,_,_,.int p,Ag,rfl,rfl,λoc u jk hu nc sj=>?_⟩
 obtain⟨tm,rfl⟩:∃tm,u=pV p tm:=hu
 have fF:=gD.get _ _ dZ
 refine⟨x,dx,f,t.a9,"prime",p,p,_,oc,_,k,gm (false,p),fl (false,p),fst (false,p),rfl,ze fF (λz=>by rw[z,nf]at dZ;cases dZ) nc,by decide,⟨T.fL,T.z9,T.ay4,T.IH,T.IG,T.ay3,T.Il⟩,Nb sj nc hk kf,?_,hF,λH' p1 p2 sx dr IK Bv ne Af vp=>?_⟩
 ·refine M4 (n:=3) ⟨rfl,rfl,rfl,by decide,rfl,rfl,by decide,by decide,rfl⟩ jk (λu1 u2=>rfl) λq f A outer s H E hr=>?_
  refine⟨_,aB cX (ae (aB gU (bv 0) (bv 1))) (bv 2),λi j Qd h=>?_⟩
  obtain⟨a,b,rfl,rfl,ha,hb,hq⟩:=h
  walk_at"l3"
  have hp0:2<=p:=hF.lo
  refine⟨jn.ok (.inr ⟨by omega,by omega⟩),by omega,?_⟩
  have e:((gm (false,p) a b:Nat):Int)=(a:Int)*b%p:=by
   show((a*b%p:Nat):Int)=_
   rw[ql,vI]
  rw[<-e];exact hq
 ·have gf:H' f=some (.ext (jT _ oc _ f)):=sx.get f _ (λz=>by rw[z]at nf;rw[nf]at dZ;cases dZ) (by rw[aT sj.symm,bI]) rfl
  have gc:=sx.get _ _ (dX fF nc).symm bI rfl
  refine⟨gf,gc,?_⟩
  refine q _ (Cp p p p1 p2 (fst (false,p))) [p1,p2] (s2.trans (Na gD nf nc sx)) ?_ rfl ?_ (by simp[ne]) (λa ha=>?_)
  ·rw[iN (λz=>by rw[z,gf]at dr;cases dr) (λz=>by rw[z,gc]at dr;cases dr)];exact dr
  ·exact .int (.int (.int (.own (IK.rem gf gc) rfl (lJ _) (.own (Bv.rem gf gc) rfl (lJ _) (.int .nil)))))
  ·simp at ha
   rcases ha with rfl | rfl
   ·exact n2 _ (Cr gD Af)
   ·exact n2 _ (Cr gD vp)
noncomputable abbrev aF7:aW:=λds Q=>∃(l g:List Int),ds=[.lst false (aJ l),.lst false (aJ g)]/\1<=l.length/\l.length<=63/\g.length=l.length+1/\(∀x∈g,0<=x)/\Q (.lst true (su l g))
theorem aF8(T:Txt K mg t):aH P w K mg base aP 1 t.QU t.QV ["powers","logs"] (a6 (aF7 )):=by
 refine bo T.Dg.F CZ (λds Q h=>by obtain⟨l,g,rfl,h1,h2,h3,h4,q⟩:=h<;>rfl) λay A outer s H E hr=>⟨_,(aE (bc (i:=2) CZ.nd rfl (cJ rfl) (aB dw (ae (eH (ib) (by rfl) T.g5 gM (ag (bv 0) av))) (ae ao)))
   (aE (bc (i:=3) CZ.nd rfl (aA rfl) (eD (cW (aB gU (ae (eD (cW ao dv))) (bv 2)) dv)))
   (aE (iK f7 rfl (BP rfl T.ik (ag (ae ao) (ag (bv 2) av))) (mI (i:=4) CZ.nd rfl (cJ rfl))
    (aC (wD (i:=3) rfl (by first | exact aA rfl | exact cJ (aA rfl)) (aB dw (ae (eD (cW ao dv))) (ae (di [("powers",0),("many",2),("logs",1),("a",4)] ["b"] rfl (BP rfl T.ik (ag (ae ao) (ag (bv 2) av))) (λ_ _ _ _=>(dQ (i:=4) (show(["powers","many","logs","a","b"]:List Str).Nodup by decide +kernel))) (λ_ _ _ _=>dB) (λ_ _ _ _=>(du (bB (bv 0) (ae (aB cX (ae (aB dw (bB (bv 2) (bv 3) (λ_ _=>rfl)) (bB (bv 2) (bv 4) (λ_ _=>rfl)))) (ae (aB fi (bv 1) (ae ao))))) (λ_ _=>rfl)))) rfl))))))
   (aC (aQ (em 3)))))),λds Q h=>?_⟩
 obtain⟨l,g,rfl,h1,h2,h3,h4,q⟩:=h
 refine aD λU hU=>?_
 walk_at"l3"
 refine hU _ ?_
 clear hU U
 refine aD λU hU=>?_
 walk_at"l3"
 refine⟨by decide,⟨by omega,by omega,by omega⟩,by decide,hU _ ?_⟩
 clear hU U
 refine aD λU hU=>?_
 walk_at"l3"
 refine⟨1,(l.length:Int)+1,⟨rfl,rfl⟩,⟨by decide,by decide,by omega,by omega⟩,?_⟩
 have en:((l.length:Int)+1-1).toNat=l.length:=by omega
 rw[en]
 refine gQ.mk (λi δ=>∃o,δ=[some (.lst false (aJ l)),some (.lst false (aJ g)),some (.int ((l.length:Int)+1)),some (.lst true (wQ l g (i+1))),o]) ⟨none,?_⟩ ?_ ?_
 ·rw[show((l.length:Int)+1).toNat=l.length+1 by omega];rfl
 ·rintro i d δ hd ⟨o,rfl⟩
  obtain⟨hi,rfl⟩:i<l.length/\d=.int (1+(i:Int)):=by
   rw[cu]at hd
   by_cases hi:i<l.length
   ·rw[kR hi]at hd
    exact⟨hi,(c9 hd).symm⟩
   ·rw[gn (by simpa using hi)]at hd;cases hd
  walk_at"l3"
  refine⟨⟨_,rfl⟩,by decide,1,(l.length:Int)+1,⟨rfl,rfl⟩,⟨by decide,by decide,by omega,by omega⟩,?_⟩
  rw[en]
  refine oV (aL l.length) (λ(k:Nat)=>D.int (1+(k:Int))) (λ(k:Nat)=>D.int (l.getD ((g.getD (i+1) 0+g.getD (k+1) 0)%(l.length:Int)).toNat 0)) (by rw[yC]) (λx y h=>by injection h with h;omega) (λk hk=>?_) (.inr λ_ _=>rfl) (by rw[bV,sL];omega) ?_
  ·have NT:=bU.mp hk
   walk_at"l3"
   have e1:(1+(i:Int)).toNat=i+1:=by omega
   have e2:(1+(k:Int)).toNat=k+1:=by omega
   have e3:(l.length:Int)+1-1=l.length:=by omega
   have n0:=ir (g.getD (i+1) 0+g.getD (k+1) 0) (show(l.length:Int)≠0 by omega)
   have n1:=iu (g.getD (i+1) 0+g.getD (k+1) 0) (show(0:Int)<l.length by omega)
   refine⟨_,mO (by omega) (by omega),_,mO (by omega) (by omega),?_⟩
   rw[e1,e2,e3]
   exact⟨by omega,_,mO n0 n1,rfl,rfl⟩
  ·walk_at"l3"
   refine⟨⟨by simp;omega,by rw[nB,dy];intro x _;rfl⟩,by simp[wQ];omega,_,?_,rfl⟩
   unfold wQ
   rw[JN (n:=i+1),fv]
   congr 1
   show _=[D.lst true (aJ (sr l g (i+1)))]
   unfold sr
   rw[if_neg (by omega)]
   unfold aJ
   rw[da,bW];rfl
 ·rintro δ ⟨o,rfl⟩
  refine hU _ ?_
  simp only[qP,oh,qQ,qR,oi,dT,k7,mF,mG,dC,nX,mH,n6,nZ,n8,qO,mL,rE,oM,rF,rG,qI,qJ,qK,qL,by4,qN,nY,ug,oE,oF,ii,ot,qZ,ow,q0,q8,q9,rh,rj,rk,iI,gR,rn,rp,rq,rz,oA,oB,lC,rB,rC,gN,rH,rD,qS,qU,qV,qW,qX,qY,rJ,rK,mJ,i8,fh,i7,gx,nz,p7,tu,vK,og,jW,i6,oH,oI,lN,rO,rR,rQ,rS,rT,kH,jx,rW,oW,rU,iM,jy,uO,uP,da,jH,qk,p9,gH,vL,aV,tw,tD,kq,kr,tE,exists_eq_left',exists_eq_left,D.bl.injEq,D.int.injEq,D.lst.injEq,D.fz.injEq,D.str.injEq,D.tup.injEq,vM,and_true,true_and,de,qj,kn,kQ,ui,uj,uk,um,uo,uq,fB,jU,lK,uw,uz,uA,uB,uC,cU,kC,rL,ur,uu,uv,eZ,nU,vN,vO,pW,ix,vP,vQ,sV,uG,uH,uI,uJ,uK,uL,uM,lL,lM,oO,jw,oQ,uE,rN,uD,oR,uF,j3,rM,if_true,mh,if_false,reduceIte,uN,decide_eq_true_eq,eI,kI,mR,uS,mS,uR,qT,se,rV,oZ,pd,pf,sk,sD,pJ,fC,pH,kJ,u4,pG,sG,sH,sI,pL,bq,bV]
  exact q
noncomputable abbrev aF9(t:cF):aW:=λds Q=>∃a b:Nat,ds=[.int a,.int b]/\bl a<=1000000/\bl b<=1000000/\(b=0->False)/\(b≠0->∀q r:Nat,a=cl q b ^^^ r->bl r<bl b->Q (.tup [.int q,.int r]))
theorem Ux(T:Txt K mg t):aH P w K mg base aP 1 t.QW t.QX ["a","b"] (a6 (aF9 t)):=by
 refine bo T.zU.F xi (λds Q h=>by obtain⟨a,b,rfl,ha,hb,qx,q⟩:=h<;>rfl) λay A outer s H E hr=>⟨_,(aE (cq (bJ (fQ (cN hr)) (bv 1) (ae ao) (bA _)) (aC BM) cI)
   (aE (bc (i:=2) xi.nd rfl (aA rfl) ao)
   (aE (bc (i:=3) xi.nd rfl (aA rfl) (em 0))
   (aE (yB f7 (bJ cG5 (ae (oN (bv 3))) (ae (oN (bv 1))) (bA _))
    (aE (bc (i:=4) xi.nd rfl (aA rfl) (aB fi (ae (oN (bv 3))) (ae (oN (bv 1)))))
    (aE (yA (i:=2) xi.nd rfl (aA rfl) (ae (aB wq (ae ao) (bv 4))) BS)
    (aC (yA (i:=3) xi.nd rfl (aA rfl) (ae (aB wq (bv 1) (bv 4))) BS)))))
   (aC (aQ (yz (cW (em 2) (cW (em 3) dv))))))))),λds Q h=>?_⟩
 obtain⟨a,b,rfl,ha,hb,qx,q⟩:=h
 refine aD λU hU=>?_
 walk_at"l3"
 split
 ·rename_i h0
  exact qx (by omega)
 ·rename_i h0
  have b0:b≠0:=by omega
  refine hU _ ?_
  clear hU U
  refine aD λU hU=>?_
  walk_at"l3"
  refine hU _ ?_
  clear hU U
  refine aD λU hU=>?_
  walk_at"l3"
  refine hU _ ?_
  clear hU U
  refine aD λU hU=>?_
  walk_at"l3"
  refine⟨λm δ=>∃(x r:Nat) (o sh:Option D),δ=[o,some (.int b),some (.int (x:Nat)),some (.int (r:Nat)),sh]/\a=cl x b ^^^ r/\bl r<=bl a/\m=bl r,
   ⟨bl a,0,a,_,none,rfl,by rw[qB,qe],bE _,rfl⟩,?_⟩
  rintro m δ ⟨x,r,o,sh,rfl,inv,hra,rfl⟩
  simp only[qP,oh,qQ,qR,oi,dT,k7,mF,mG,dC,nX,mH,n6,nZ,n8,qO,mL,rE,oM,rF,rG,qI,qJ,qK,qL,by4,qN,nY,ug,oE,oF,ii,ot,qZ,ow,q0,q8,q9,rh,rj,rk,iI,gR,rn,rp,rq,rz,oA,oB,lC,rB,rC,gN,rH,rD,qS,qU,qV,qW,qX,qY,rJ,rK,mJ,i8,fh,i7,gx,nz,p7,tu,vK,og,jW,i6,oH,oI,lN,rO,rR,rQ,rS,rT,kH,jx,rW,oW,rU,iM,jy,uO,uP,da,jH,qk,p9,gH,vL,aV,tw,tD,kq,kr,tE,exists_eq_left',exists_eq_left,D.bl.injEq,D.int.injEq,D.lst.injEq,D.fz.injEq,D.str.injEq,D.tup.injEq,vM,and_true,true_and,de,qj,kn,kQ,ui,uj,uk,um,uo,uq,fB,jU,lK,uw,uz,uA,uB,uC,cU,kC,rL,ur,uu,uv,eZ,nU,vN,vO,pW,ix,vP,vQ,sV,uG,uH,uI,uJ,uK,uL,uM,lL,lM,oO,jw,oQ,uE,rN,uD,oR,uF,j3,rM,if_true,mh,if_false,reduceIte,uN,decide_eq_true_eq,eI,kI,mR,uS,mS,uR,qT,se,rV,oZ,pd,pf,sk,sD,pJ,fC,pH,kJ,u4,pG,sG,sH,sI,pL,jg]
  split
  ·rename_i hc
   have hle:bl b<=bl r:=by omega
   have less:=K9 b0 hle
   have es:(((bl r:Nat):Int)-((bl b:Nat):Int))=((bl r-bl b:Nat):Int):=by omega
   clear hU
   refine aD λU hU=>?_
   walk_at"l3"
   simp only[jg,es]
   refine hU _ ?_
   clear hU
   refine aD λU hU=>?_
   walk_at"l3"
   have o1:bl (1:Int).natAbs=1:=by decide
   refine⟨⟨by omega,by omega⟩,hU _ ?_⟩
   clear hU
   simp only[qP,oh,qQ,qR,oi,dT,k7,mF,mG,dC,nX,mH,n6,nZ,n8,qO,mL,rE,oM,rF,rG,qI,qJ,qK,qL,by4,qN,nY,ug,oE,oF,ii,ot,qZ,ow,q0,q8,q9,rh,rj,rk,iI,gR,rn,rp,rq,rz,oA,oB,lC,rB,rC,gN,rH,rD,qS,qU,qV,qW,qX,qY,rJ,rK,mJ,i8,fh,i7,gx,nz,p7,tu,vK,og,jW,i6,oH,oI,lN,rO,rR,rQ,rS,rT,kH,jx,rW,oW,rU,iM,jy,uO,uP,da,jH,qk,p9,gH,vL,aV,tw,tD,kq,kr,tE,exists_eq_left',exists_eq_left,D.bl.injEq,D.int.injEq,D.lst.injEq,D.fz.injEq,D.str.injEq,D.tup.injEq,vM,and_true,true_and,de,qj,kn,kQ,ui,uj,uk,um,uo,uq,fB,jU,lK,uw,uz,uA,uB,uC,cU,kC,rL,ur,uu,uv,eZ,nU,vN,vO,pW,ix,vP,vQ,sV,uG,uH,uI,uJ,uK,uL,uM,lL,lM,oO,jw,oQ,uE,rN,uD,oR,uF,j3,rM,if_true,mh,if_false,reduceIte,uN,decide_eq_true_eq,eI,kI,mR,uS,mS,uR,qT,se,rV,oZ,pd,pf,sk,sD,pJ,fC,pH,kJ,u4,pG,sG,sH,sI,pL,jg]
   refine⟨⟨by omega,by rw[jg];omega⟩,_,less,x ^^^ 2 ^ (bl r-bl b),r ^^^ b <<< (bl r-bl b),o,_,⟨rfl,?_,?_,rfl⟩,YO inv,by omega,rfl⟩
   ·rw[show(1:Int)=((1:Nat):Int) from rfl,wb,nS,Eb]
   ·rw[wb,nS]
  ·rename_i hc
   refine hU _ ?_
   walk_at"l3"
   refine⟨by decide,q b0 x r inv (by omega)⟩
noncomputable abbrev aG0:aW:=λds Q=>∃a:Nat,ds=[.int a]/\bl a<=60/\Q (.bl (al a))
theorem aG1(T:Txt K mg t):aH P w K mg base aP 2 t.QY t.QZ ["a"] (a6 (aG0 )):=by
 refine bo T.Tp.F Hy (λds Q h=>by obtain⟨a,rfl,ha,q⟩:=h<;>rfl) λay A outer s H E hr=>⟨_,(aE (cq (bJ oy (bv 0) (ae ao) (bA _)) (aC (aQ gw)) cI)
   (aE (bc (i:=1) Hy.nd rfl (aA rfl) (aB ly (ae (aB fi (ae (oN (bv 0))) (ae ao))) (ae ao)))
   (aE (iK f7 rfl (BP rfl T.ik (ag (ae ao) (ag (ae (aB wq (ae ao) (ae (aB dw (bv 1) (ae ao))))) av))) (mI (i:=2) Hy.nd rfl (aA rfl))
    (aC (cq (bJ (fQ (cN hr)) (bB (ae (bg T.zU (Ux T) hr (ag (bv 0) (ag (bv 2) av)))) (ae ao) (λ_ _=>rfl)) (ae ao) (bA _)) (aC (aQ gw)) cI)))
   (aC (aQ gw))))),λds Q h=>?_⟩
 obtain⟨a,rfl,ha,q⟩:=h
 refine aD λU hU=>?_
 walk_at"l3"
 split
 ·rename_i h2
  rw[Y1 (by omega)]at q;exact q
 ·rename_i h2
  have h2:2<=a:=by omega
  have hp:=iE (show a≠0 by omega)
  refine hU _ ?_
  clear hU U
  refine aD λU hU=>?_
  walk_at"l3"
  simp only[jg]
  refine⟨lj (by omega) (by omega),hU _ ?_⟩
  clear hU U
  have eh:((((bl a:Nat):Int)-1)/2+1)=(((bl a-1)/2+1:Nat):Int):=by omega
  have e1:(1:Int)*2 ^ ((((bl a:Nat):Int)-1)/2+1).toNat=((2 ^ ((bl a-1)/2+1):Nat):Int):=by
   rw[eh,show(1:Int)=((1:Nat):Int) from rfl,wb,Eb]
  have big:2 ^ ((bl a-1)/2+1)<=2 ^ 40:=xG (by decide) (by omega)
  have o1:bl (1:Int).natAbs=1:=by decide
  refine aD λU hU=>?_
  walk_at"l3"
  rw[e1]
  have dA7:((2 ^ ((bl a-1)/2+1):Nat):Int)<=2 ^ 40:=by exact_mod_cast big
  have nn:(0:Int)<=((2 ^ ((bl a-1)/2+1):Nat):Int):=Jl _
  refine⟨⟨by omega,by omega⟩,_,_,⟨rfl,rfl⟩,⟨by decide,by decide,by omega,by omega⟩,?_⟩
  have en:(((2 ^ ((bl a-1)/2+1):Nat):Int)-2).toNat=2 ^ ((bl a-1)/2+1)-2:=by omega
  rw[en]
  refine gQ.mk (λi δ=>(∃o1 o2,δ=[some (.int a),o1,o2])/\∀j,j<i->md a (2+j)≠0) ⟨⟨_,_,rfl⟩,λj hj=>absurd hj (by omega)⟩ ?_ ?_
  ·rintro i d δ hd ⟨⟨o1,o2,rfl⟩,inv⟩
   obtain⟨hi,rfl⟩:i<2 ^ ((bl a-1)/2+1)-2/\d=.int (2+(i:Int)):=by
    rw[cu]at hd
    by_cases hi:i<2 ^ ((bl a-1)/2+1)-2
    ·rw[kR hi]at hd
     exact⟨hi,(c9 hd).symm⟩
    ·rw[gn (by simpa using hi)]at hd;cases hd
   have bi:bl (2+i)<=60:=by
    have:=(Y4 h2 (show 2+i<2 ^ ((bl a-1)/2+1) by omega)).2
    omega
   walk_at"l3"
   refine⟨a,2+i,by rw[show((2+i:Nat):Int)=2+(i:Int) by omega],by omega,by omega,by omega,λ_ x r e l=>?_⟩
   have em:md a (2+i)=r:=yo e l
   refine⟨.int r,rfl,rfl,?_⟩
   rw[j3]
   split
   ·rename_i hz
    have r0:r=0:=by have:=of_decide_eq_true hz;omega
    rw[Y3 hi (em.trans r0)]at q
    exact q
   ·rename_i hz
    refine⟨⟨_,_,rfl,rfl⟩,λj hj=>?_⟩
    by_cases ej:j=i
    ·rw[ej,em]
     intro r0
     exact hz (decide_eq_true (by omega))
    ·exact inv j (by omega)
  ·rintro δ ⟨⟨o1,o2,rfl⟩,inv⟩
   rw[bq,bV]at inv
   rw[Y2 h2 inv]at q
   refine hU _ ?_
   walk_at"l3"
   exact q
noncomputable abbrev ay7:aW:=λds Q=>∃a:Int,ds=[.int a]/\Q (.bl (decide (4<=a)&&decide (a<=127)&&al a.toNat))
theorem ay8(T:Txt K mg t):aH P w K mg base aP 3 t.Q0 t.Q1 ["bits"] (a6 (ay7 )):=by
 refine bo T.Dh.F av4 (λds Q h=>by obtain⟨a,rfl,q⟩:=h<;>rfl) λay A outer s H E hr=>⟨_,(aC (aQ (qM (ae (uf kE kE (ae ao) (bv 0) (ae ao))) (vW (bg T.Tp (aG1 T) hr (ag (bv 0) av)))))),λds Q h=>?_⟩
 obtain⟨a,rfl,q⟩:=h
 walk_at"l3"
 split
 ·rename_i h1
  split
  ·rename_i h2
   refine⟨a.toNat,by rw[xO (by omega)],?_,?_⟩
   ·have:bl a.toNat<=bl 127:=EY (by omega)
    exact fG this (by decide)
   ·have e:(decide (4<=a)&&decide (a<=127)&&al a.toNat)=al a.toNat:=by simp[h1,h2]
    rw[e]at q;exact q
  ·rename_i h2
   have e:(decide (4<=a)&&decide (a<=127)&&al a.toNat)=false:=by simp[h2]
   rw[e]at q;exact q
 ·rename_i h1
  have e:(decide (4<=a)&&decide (a<=127)&&al a.toNat)=false:=by simp[h1]
  rw[e]at q;exact q
noncomputable abbrev aJ3:aW:=λds Q=>∃a b:Nat,ds=[.int a,.int b]/\bl a<=1000/\bl b<=1000/\Q (.int (cl a b:Nat))
theorem aJ4(T:Txt K mg t):aH P w K mg base aP 1 t.Q2 t.Q3 ["a","b"] (a6 (aJ3 )):=by
 refine bo T.Di.F C2 (λds Q h=>by obtain⟨a,b,rfl,ha,hb,q⟩:=h<;>rfl) λay A outer s H E hr=>⟨_,(aE (bc (i:=2) C2.nd rfl (aA rfl) ao)
   (aE (iK f7 rfl (jX rfl T.ik (ag (ae (oN (bv 1))) av)) (mI (i:=3) C2.nd rfl (aA rfl))
    (aC (cq (bJ (fQ (cN hr)) (ae (aB LZ (ae (aB LY (bv 1) (bv 3))) (ae ao))) (ae ao) (bA _)) (aC (yA (i:=2) C2.nd rfl (aA rfl) (ae (aB wq (bv 0) (bv 3))) BS)) cI)))
   (aC (aQ (em 2))))),λds Q h=>?_⟩
 obtain⟨a,b,rfl,ha,hb,q⟩:=h
 refine aD λU hU=>?_
 walk_at"l3"
 refine hU _ ?_
 clear hU U
 refine aD λU hU=>?_
 walk_at"l3"
 simp only[jg]
 refine⟨⟨by omega,by omega⟩,FR (λi δ=>∃o,δ=[some (.int a),some (.int b),some (.int (Mf.P a b i:Nat)),o]) ⟨none,rfl⟩ ?_ ?_⟩
 ·rintro i δ hi ⟨o,rfl⟩
  walk_at"l3"
  refine⟨by omega,?_⟩
  have DA:(pX ((b:Int)/2 ^ ((i:Int)).toNat) 1=1)↔b.testBit i=true:=by
   have h:=Zb b i
   rw[JF]at h
   rw[<-h,dI]
  split
  ·rename_i hc
   have h:=Zc (a:=a) (DA.mp hc)
   rw[JF]at h
   exact⟨⟨by omega,by rw[jg];omega⟩,_,h,rfl⟩
  ·rename_i hc
   exact⟨_,by rw[Ze (λz=>hc (DA.mpr z))],rfl⟩
 ·rintro δ ⟨o,rfl⟩
  refine hU _ ?_
  walk_at"l3"
  exact q
noncomputable abbrev aL5:List D->List Str->List D->Prop:=λds ns xs=>∃p:Nat,ds=[.int p]/\p∈gW/\ns=iQ "bits"++[("products":Str)]/\xs=[.int p,.int (aa (true,p)),.int ((bl (aa (true,p)):Nat)-1),.lst true (aJ (fl (true,p))),.lst true (aJ (eQ (fl (true,p)))),.int (fst (true,p)),.lst true (su (fl (true,p)) (eQ (fl (true,p))))]
theorem aD9(T:Txt K mg t)(hB:Bm mg base):aH P w K mg base aP 8 t.HD t.HE ["self","bits"] (Gr [t.jC,t.jD] t.aY aL5):=by
 refine M5 T.TN.F T.aD4 Pb (λvs H Q E h=>?_) λA outer s H vs Q E hr h=>?_
 ·obtain⟨x,dx,bK,ds,ns,xs,rfl,_,_,r,⟨p,rfl,_⟩,_⟩:=h
  have:=r.length
  simp at this
  simp[this]
 obtain⟨x,dx,bK,ds,ns,xs,rfl,tb,hx,r,⟨p,rfl,hp,rfl,rfl⟩,q⟩:=h
 obtain rfl:bK=[.int p]:=by
  cases r with
  | int r=>cases r;rfl
 have hm:(true,p)∈aw:=eN _ (AN hp)
 have hF:=bZ hm
 refine⟨_,eV (tM (Bd (Bb (jq ((ay8 T).mono (by decide)) hr rfl T.Dh.g T.Dh.F.kp T.Dh.b .nil cL (bN (pv 1) eX)))) (jl tN) qt)
  (eV (g9 (pv 0) (pv 1) rfl)
  (eV (Ep (i:=2) Pb.nd rfl (aA rfl) (yc Lk qq (yc Ez (E1 (pv 1)) qq)))
  (eV (tL (MY (E:=E0) (i:=1) T.Tn ((Uv T).mono (by decide)) hr T.IA.b rfl T.S8 rfl rfl rfl rfl (bN (pv 0) (bN (pv 2) (bN (MQ rfl rfl T.aD5 hB) eX)))))
  (jl (g9 (pv 0) (jq ((aF8 T).mono (by decide)) hr rfl T.Dg.g T.Dg.F.kp T.Dg.b .nil cL (bN (tS (pv 0) rfl) (bN (tS (pv 0) rfl) eX))) rfl))))),?_⟩
 try dsimp only[jx,jy]
 refine⟨_,rfl,H,[.int p],λd=>d=.bl true,af.refl _,.int .nil,⟨p,rfl,by rw[co5 p hp]⟩,λd v F' H1 A1 hd eT hf he h3 r nd fr=>?_⟩
 subst hd
 cases r
 refine⟨true,rfl,?_⟩
 refine iY ?_
 have bO:=eT.get _ _ hx
 refine⟨.int p,rfl,.ref x,rfl,x,t.aY,dx,_,rfl,bO,T.fo,T.aD6,by decide,?_⟩
 generalize e2:upd H1 x (HO.ins t.aY dx (b9 "bits" (.int p) []))=H2
 have dZ:H2 x=some (.ins t.aY dx [(("bits":Str),.int p)]):=by rw[<-e2,bI];rfl
 have s2:bL x H H2:=by rw[<-e2];exact(eT.x (x:=x)).trans (bL.upd (C:=x) (dx:=dx) bO rfl)
 have n2:∀p,H2 p=none->H p=none:=λp h=>eT.free (zd bO (by rw[e2];exact h))
 obtain⟨ps,hP⟩:=tb t.jD (by simp)
 obtain⟨more,IJ⟩:=s2.tb _ ps hP
 have bp:bl p<=7:=Ng p hp
 have DB:1<=bl p:=Nh p hp
 refine⟨.int p,rfl,rfl,p,rfl,rfl,_,_,rfl,rfl,_,_,rfl,rfl,?_,?_⟩
 ·have o1:bl (1:Int).natAbs=1:=by decide
  rw[jg]
  exact⟨by omega,by omega⟩
 have em:(1:Int)*2 ^ (((bl ((p:Int)).natAbs:Nat):Int)-1).toNat=((aa (true,p):Nat):Int):=by
  rw[jg,show(((bl p:Nat):Int)-1)=((bl p-1:Nat):Int) by omega,show(1:Int)=((1:Nat):Int) from rfl,wb,Eb];rfl
 show Bg 2 (.int ((1:Int)*2 ^ (((bl ((p:Int)).natAbs:Nat):Int)-1).toNat)) _ _ _
 rw[em]
 refine⟨.ref x,rfl,.int (aa (true,p)),rfl,⟨_,IJ⟩,λf k qn pm jA H3 nf Ag hk kf gD hl3=>?_⟩
 refine⟨f,_,_,.int p,Ag,rfl,rfl,λoc u jk hu nc sj=>?_⟩
 obtain⟨tm,rfl⟩:∃tm,u=pV p tm:=hu
 have fF:=gD.get _ _ dZ
 refine⟨x,dx,f,t.aY,"bits",p,aa (true,p),_,oc,_,k,gm (true,p),fl (true,p),fst (true,p),rfl,ze fF (λz=>by rw[z,nf]at dZ;cases dZ) nc,by decide,⟨T.fo,T.z5,T.aD8,T.Dz,T.Dy,T.aD7,T.Ik⟩,Nb sj nc hk kf,?_,hF,λH' p1 p2 sx dr IK Bv ne Af vp=>?_⟩
 ·refine M4 (n:=3) ⟨rfl,rfl,rfl,by decide,rfl,rfl,by decide,by decide,rfl⟩ jk (λu1 u2=>rfl) λq f A outer s H E hr=>?_
  refine⟨_,du (bB (ae (t9 ((Ux T).mono (by decide)) hr rfl T.zU.g T.zU.F.kp T.zU.b cL (ag (ae (t9 ((aJ4 T).mono (by decide)) hr rfl T.Di.g T.Di.F.kp T.Di.b cL (ag (bv 0) (ag (bv 1) av)))) (ag (bv 2) av)))) (ae ao) (λ_ _=>rfl)),λi j Qd h=>?_⟩
  obtain⟨a,b,rfl,rfl,ha,hb,hq⟩:=h
  walk_at"l3"
  have b1:bl a<=6:=by
   have:bl a<=bl 63:=EY (by omega)
   exact fG this (by decide)
  have b2:bl b<=6:=by
   have:bl b<=bl 63:=EY (by omega)
   exact fG this (by decide)
  have p0:p≠0:=by
   intro z
   rw[z]at DB
   exact absurd DB (by decide)
  refine⟨a,b,rfl,by omega,by omega,cl a b,p,rfl,fG (b63 a b) (by omega),by omega,λz=>p0 z,λ_ x r e l=>⟨by simp[D.pl],.int r,rfl,rfl,r,rfl,?_⟩⟩
  have er:gm (true,p) a b=r:=yo e l
  rw[<-er];exact hq
 ·have gf:H' f=some (.ext (jT _ oc _ f)):=sx.get f _ (λz=>by rw[z]at nf;rw[nf]at dZ;cases dZ) (by rw[aT sj.symm,bI]) rfl
  have gc:=sx.get _ _ (dX fF nc).symm bI rfl
  refine⟨gf,gc,?_⟩
  have s4:=s2.trans (Na gD nf nc sx)
  have f1:=n2 _ (Cr gD Af)
  have f2:=n2 _ (Cr gD vp)
  have l1:=IK.rem gf gc
  have l2:=Bv.rem gf gc
  have kh:rem H' f (s.heap.objs.size+1) x=some (.ins t.aY dx ((iQ "bits").zip (Cp p (aa (true,p)) p1 p2 (fst (true,p))))):=by
   rw[iN (λz=>by rw[z,gf]at dr;cases dr) (λz=>by rw[z,gc]at dr;cases dr)];exact dr
  generalize rem H' f (s.heap.objs.size+1)=H4 at s4 l1 l2 kh
  refine⟨.ref x,rfl,x,t.aY,dx,_,.ref p1,rfl,kh,T.fo,T.Dz,rfl,.ref x,rfl,x,t.aY,dx,_,.ref p2,rfl,kh,T.fo,T.Dy,rfl,H4,[.lst false (aJ (fl (true,p))),.lst false (aJ (eQ (fl (true,p))))],λd=>d=.lst true (su (fl (true,p)) (eQ (fl (true,p)))),af.refl _,.shr l1 (lJ _) (.shr l2 (lJ _) .nil),
   ⟨_,_,rfl,by have:=hF.len;have:=hF.lo;omega,by have:=hF.len;have:=hF.hi;omega,zc _ _,Nf _ _,rfl⟩,λd v F' H5 A' hd kL hf he h3 r nd fr=>?_⟩
  subst hd
  obtain⟨p3,rfl⟩:∃p3,v=.ref p3:=by cases r;exact⟨_,rfl⟩
  have ki:=kL.get _ _ kh
  have nA:∀{a ws},H4 a=some (.lst ws)->a ∉ A':=λ{a ws} e z=>by rw[fr a z]at e;cases e
  refine⟨.ref x,rfl,x,t.aY,dx,_,rfl,ki,T.fo,T.z7,nv (bE 6) (by decide),?_⟩
  refine q _ (Cp p (aa (true,p)) p1 p2 (fst (true,p))++[.ref p3]) (p1::p2::A') ((s4.trans (kL.x (x:=x))).trans (bL.upd (C:=x) (dx:=dx) ki rfl)) (by rw[bI];rfl) rfl ?_ ?_ ?_
  ·exact .int (.int (.int (.own ((l1.same kL).upd ki (λws z=>by cases z)) rfl (lJ _) (.own ((l2.same kL).upd ki (λws z=>by cases z)) rfl (lJ _) (.int ((r.qF (by simp[eZ,Nd]) (af.of λb o e=>by cases e)).mU ki (by simp[eZ,Nd])))))))
  ·exact jF.mpr ⟨by simp[ne];exact nA l1,jF.mpr ⟨nA l2,nd⟩⟩
  ·intro a ha
   rcases bR.mp ha with rfl | ha
   ·exact f1
   ·rcases bR.mp ha with rfl | ha
    ·exact f2
    ·exact s4.free (by rw[kh];simp) (fr a ha)
noncomputable abbrev aJ5(cb cp:Addr):aW:=λds Q=>∃m:Bool × Nat,ds=[cP m]/\m∈aw/\Q (fD cb cp m)
theorem aJ6(T:Txt K mg t)(hB:Bm mg base):aH P w K mg base aP 10 t.Q4 t.Q5 ["_law_told_here"] (rY [t.jC,t.jD] (a6 (aJ5 t.aY t.a9))):=by
 refine y7 T.Dj.F aI8 (λds Q h=>by obtain⟨m,rfl,hm,q⟩:=h<;>rfl) λay A outer s H E hT hr=>⟨_,(aE (cq (jV (bB (bv 0) (ae ao) (λ_ _=>rfl))) (aC (aQ (M7 hT T.aN0 ((aD9 T hB).mono (by decide)) hr rfl T.aN8 T.TN.b cL (ag (bB (bv 0) (ae ao) (λ_ _=>rfl)) av)))) cI)
   (aC (aQ (M7 hT T.aJ1 ((ay6 T hB).mono (by decide)) hr rfl T.aL1 T.TM.b cL (ag (bB (bv 0) (ae ao) (λ_ _=>rfl)) av))))),λds Q h=>?_⟩
 obtain⟨m,rfl,hm,q⟩:=h
 unfold cP at *
 refine aD λU hU=>?_
 walk_at"l3"
 obtain⟨b,n⟩:=m
 cases b with
 | true =>
  refine⟨_,rfl,true,rfl,?_⟩
  rw[if_pos rfl]
  refine⟨_,rfl,_,_,⟨n,rfl,wU hm,rfl,rfl⟩,?_⟩
  rw[ct3];exact q
 | false =>
  refine⟨_,rfl,false,rfl,?_⟩
  rw[if_neg (by decide)]
  refine hU _ ?_
  walk_at"l3"
  refine⟨_,rfl,_,_,⟨n,rfl,bC0 hm,rfl,rfl⟩,?_⟩
  rw[b06];exact q
noncomputable def fY(ns:List Int)(k:Int):Int:=if k<ns.length then ns.getD k.toNat 0 else(k*k*48271+ns.length*7919)%65537
noncomputable abbrev aL6:aW:=λds Q=>∃(ns:List Int) (k:Int),ds=[.fz (aJ ns),.int k]/\0<=k/\k<=1000000/\Q (.int (fY ns k))
theorem kM(T:Txt K mg t):aH P w K mg base aP 1 t.Q6 t.Q7 ["_law_script","_law_k"] (a6 (aL6 )):=by
 refine bo T.ke.F aK7 (λds Q h=>by obtain⟨ns,k,rfl,hk,hk2,q⟩:=h<;>rfl) λay A outer s H E hr=>⟨_,(aE (cq (bJ oy (bv 1) (ae (eH (ib) (by rfl) T.g5 gM (ag (bv 0) av))) (bA _)) (aC (aQ (du (bB (bv 0) (bv 1) (λ_ _=>rfl))))) cI)
   (aC (aQ (aB cX (ae (aB dw (ae (aB gU (ae (aB gU (bv 1) (bv 1))) (ae ao))) (ae (aB gU (ae (eH (ib) (by rfl) T.g5 gM (ag (bv 0) av))) (ae ao))))) (ae ao))))),λds Q h=>?_⟩
 obtain⟨ns,k,rfl,hk,hk2,q⟩:=h
 unfold fY at q
 refine aD λU hU=>?_
 walk_at"l3"
 split
 ·rename_i h
  rw[if_pos h]at q
  exact⟨_,mO hk h,rfl,q⟩
 ·rename_i h
  rw[if_neg h]at q
  refine hU _ ?_
  walk_at"l3"
  exact⟨jn.ok (.inl ⟨by omega,by omega⟩),jn.ok (.inr ⟨by decide,by decide⟩),jn.ok (.inr ⟨by decide,by decide⟩),by decide,q⟩
noncomputable abbrev aL7:aW:=λds Q=>∃m:Bool × Nat,ds=[cP m]/\bl m.2<=1000/\1<=bl m.2/\Q (.int (aa m:Nat))
theorem xw(T:Txt K mg t):aH P w K mg base aP 1 t.Q8 t.Q9 ["_law_told_here"] (a6 (aL7 )):=by
 refine bo T.vm.F aK8 (λds Q h=>by obtain⟨m,rfl,h1,h2,q⟩:=h<;>rfl) λay A outer s H E hr=>⟨_,(aE (cq (jV (bB (bv 0) (ae ao) (λ_ _=>rfl))) (aC (aQ (aB wq (ae ao) (ae (aB fi (ae (oN (bB (bv 0) (ae ao) (λ_ _=>rfl)))) (ae ao)))))) cI)
   (aC (aQ (du (bB (bv 0) (ae ao) (λ_ _=>rfl)))))),λds Q h=>?_⟩
 obtain⟨m,rfl,h1,h2,q⟩:=h
 unfold cP at *
 refine aD λU hU=>?_
 walk_at"l3"
 obtain⟨b,n⟩:=m
 cases b with
 | true =>
  refine⟨_,rfl,true,rfl,?_⟩
  rw[if_pos rfl]
  refine⟨_,rfl,?_⟩
  have o1:bl (1:Int).natAbs=1:=by decide
  have e:(1:Int)*2 ^ (((bl ((n:Int)).natAbs:Nat):Int)-1).toNat=((aa (true,n):Nat):Int):=by
   have jR:1<=bl n:=h2
   rw[jg,show(((bl n:Nat):Int)-1)=((bl n-1:Nat):Int) by omega,show(1:Int)=((1:Nat):Int) from rfl,wb,Eb];rfl
  refine⟨?_,by rw[e];exact q⟩
  rw[jg]
  have kA:bl n<=1000:=h1
  have jR:1<=bl n:=h2
  exact⟨by omega,by omega⟩
 | false =>
  refine⟨_,rfl,false,rfl,?_⟩
  rw[if_neg (by decide)]
  refine hU _ ?_
  walk_at"l3"
  exact⟨_,rfl,rfl,q⟩
noncomputable abbrev aN1:aW:=λds Q=>∃T:List (List Nat),ds=[.lst false (ax false T)]/\T.length<=1000/\(∀r∈T,r.length<=1000)/\Q (.int (ai T:Nat))
theorem xx(T:Txt K mg t):aH P w K mg base aP 1 t.Ra t.Rb ["table"] (a6 (aN1 )):=by
 refine bo T.pQ.F aM7 (λds Q h=>by obtain⟨G,rfl,hG,hr,q⟩:=h<;>rfl) λay A outer s H E hr=>⟨_,(aC (aQ (τ (bJ (jc (cN hr)) (bv 0) (ae (eD dv)) (bA _)) (eH (ib) (by rfl) T.g5 gM (ag (bB (bv 0) (ae ao) (λ_ _=>rfl)) av)) ao))),λds Q h=>?_⟩
 obtain⟨G,rfl,hG,hr,q⟩:=h
 walk_at"l3"
 refine⟨by decide,⟨NK 4 _ _ _,rfl⟩,?_⟩
 rw[show(D.lst true ([]:List D))=D.lst true (ax true []) from rfl,ch6]
 cases G with
 | nil=>rw[if_neg (by simp)];exact q
 | cons r G =>
  rw[if_pos (by simp)]
  refine⟨.lst false (aq r),u5 false (T:=r::G) (i:=0) (JR _),?_⟩
  show Q (D.int ((aq r).length:Nat))
  rw[eI];exact q
noncomputable abbrev aJ7:aW:=λds Q=>∃(T:List (List Nat)) (j:Nat),ds=[.lst false (ax false T),.int j]/\T.length<=1000/\(∀r∈T,j<r.length)/\Q (match j8 T j with | some i=>.int (i:Nat) | none=>.au)
theorem aJ8(T:Txt K mg t):aH P w K mg base aP 1 t.Rc t.Rh ["rows","place"] (a6 (aJ7 )):=by
 refine bo T.Tq.F Ph (λds Q h=>by obtain⟨G,j,rfl,hG,hr,q⟩:=h<;>rfl) λay A outer s H E hr=>⟨_,(aE (iK f7 rfl (wK rfl T.xq (ag (bv 0) av)) (mQ (i1:=2) (i2:=3) rfl Ph.nd rfl (aA rfl) rfl (aA rfl))
    (aC (cq (bJ (jc (cN hr)) (bB (bv 3) (bv 1) (λ_ _=>rfl)) (ae ao) (bA _)) (aC (aQ (em 2))) cI)))
   (aC (aQ yw))),λds Q h=>?_⟩
 obtain⟨G,j,rfl,hG,hr,q⟩:=h
 refine aD λU hU=>?_
 walk_at"l3"
 refine gQ.mk (λi δ=>∃o1 o2,δ=[some (D.lst false (ax false G)),some (D.int j),o1,o2]/\∀k,k<i->(G.getD k []).getD j 0=0) ⟨_,_,rfl,λk hk=>absurd hk (Nat.not_lt_zero k)⟩ ?_ ?_
 ·rintro i d δ hd ⟨o1,o2,rfl,hz⟩
  obtain⟨hi,rfl⟩:=NM hd
  have hj:=hr _ (dE hi)
  have eg:G.getD i []=G[i]:=by rw[aN,aM hi];rfl
  walk_at"l3"
  refine⟨.int (G[i].getD j 0:Nat),by rw[j6 (by omega) (by omega),iq],rfl,?_⟩
  rw[j3]
  by_cases h0:G[i].getD j 0=0
  ·rw[if_neg (by rw[h0];decide)]
   refine⟨_,_,⟨rfl,rfl⟩,λk hk=>?_⟩
   by_cases e:k=i
   ·rw[e,eg];exact h0
   ·exact hz k (by omega)
  ·rw[if_pos (by rw[decide_eq_false (by omega)];rfl)]
   have ef:j8 G j=some i:=by
    unfold j8
    rw[VQ]
    refine⟨hi,by simpa using h0,λk hk=>?_⟩
    have:=hz k hk
    rw[aN (l:=G),aM (by omega)]at this
    simpa using this
   rw[ef]at q
   exact q
 ·rintro δ ⟨o1,o2,rfl,hz⟩
  refine hU _ ?_
  walk_at"l3"
  have ef:j8 G j=none:=by
   unfold j8
   rw[VR]
   intro r aZ
   obtain⟨i,hi,rfl⟩:=gI aZ
   have:=hz i (by rw[uQ,kJ];exact hi)
   rw[aN (l:=G),aM hi]at this
   simpa using this
  rw[ef]at q
  exact q
noncomputable abbrev Uy(K:Frag):aW:=λds Q=>∃(C:Addr) (p a:Nat) (xs:List Nat),ds=[uY C p,.int a,.lst false (aq xs)]/\cE K C/\bf K C "products"/\p∈gW/\a<aa (true,p)/\(∀y∈xs,y<aa (true,p))/\xs.length<=1000/\Q (.lst true (aq (xs.map (gm (true,p) a))))
theorem ay9(T:Txt K mg t):aH P w K mg base aP 1 t.HF t.Ri ["self","a","row"] (a6 (Uy K)):=by
 refine bo T.TQ.F Pk (λds Q h=>by obtain⟨C,p,a,xs,rfl,hC,hn,hp,ha,hy,hl,q⟩:=h<;>rfl) λay A outer s H E hr=>⟨_,(aE (bc (i:=3) Pk.nd rfl (cJ rfl) (du (bB (eB (K:=K) (bv 0)) (bv 1) (λ_ _=>rfl))))
   (aC (aQ (di [("by_a",3)] ["x"] rfl (gg (bv 2)) (λ_ _ _ _=>(dQ (i:=1) (show(["by_a","x"]:List Str).Nodup by decide +kernel))) (λ_ _ _ _=>dB) (λ_ _ _ _=>(du (bB (bv 0) (bv 1) (λ_ _=>rfl)))) rfl)))),λds Q h=>?_⟩
 obtain⟨C,p,a,xs,rfl,hC,hn,hp,ha,hy,hl,q⟩:=h
 refine aD λU hU=>?_
 walk_at"l3"
 refine⟨C,_,_,_,rfl,hC,hn,rfl,_,Cy hp ha,?_⟩
 refine⟨by rw[fB,lM];rfl,hU _ ?_⟩
 clear hU U
 walk_at"l3"
 refine vj xs (λx=>D.int ((gm (true,p) a x:Nat):Int)) (λx hx=>?_) (.inr λ_ _=>rfl) ?_
 ·walk_at"l3"
  exact⟨_,Cw hp ha (hy x hx),rfl,rfl⟩
 ·rw[cO,bW]at q
  exact q
noncomputable abbrev Uz(K:Frag):aW:=λds Q=>∃(C:Addr) (p a:Nat) (xs:List Nat),ds=[uX C p,.int a,.lst false (aq xs)]/\cE K C/\bf K C "prime"/\0<p/\a<64/\(∀y∈xs,y<64)/\xs.length<=1000/\Q (.lst true (aq (xs.map (gm (false,p) a))))
theorem as1(T:Txt K mg t):aH P w K mg base aP 1 t.HG t.Rj ["self","a","row"] (a6 (Uz K)):=by
 refine bo T.TR.F Pm (λds Q h=>by obtain⟨C,p,a,xs,rfl,hC,hn,hp,ha,hy,hl,q⟩:=h<;>rfl) λay A outer s H E hr=>⟨_,(aE (bc (i:=3) Pm.nd rfl (cJ rfl) (du (eB (K:=K) (bv 0))))
   (aC (aQ (di [("prime",3),("a",1)] ["x"] rfl (gg (bv 2)) (λ_ _ _ _=>(dQ (i:=2) (show(["prime","a","x"]:List Str).Nodup by decide +kernel))) (λ_ _ _ _=>dB) (λ_ _ _ _=>(aB cX (ae (aB gU (bv 1) (bv 2))) (bv 0))) rfl)))),λds Q h=>?_⟩
 obtain⟨C,p,a,xs,rfl,hC,hn,hp,ha,hy,hl,q⟩:=h
 refine aD λU hU=>?_
 walk_at"l3"
 refine⟨C,_,_,.int p,rfl,hC,hn,rfl,rfl,hU _ ?_⟩
 clear hU U
 walk_at"l3"
 refine vj xs (λx=>D.int ((gm (false,p) a x:Nat):Int)) (λx hx=>?_) (.inr λ_ _=>rfl) ?_
 ·have h2:=hy x hx
  walk_at"l3"
  refine⟨jn.ok (.inr ⟨by omega,by omega⟩),by omega,?_⟩
  show _=((a*x%p:Nat):Int)
  rw[ql,vI]
 ·rw[cO,bW]at q
  exact q
theorem UA(T:Txt K mg t){m:Bool × Nat}(hm:m∈aw):∃C ns zs sp,fD t.aY t.a9 m=.obj C ns zs/\iO P w K mg base 1 "scaled" C sp/\("scaled":Str) ∉ ns/\∀(xs:List Nat) (a:Nat) (Q:D->Prop),a<aa m->(∀y∈xs,y<aa m)->xs.length<=1000->Q (.lst true (aq (xs.map (gm m a))))->sp [.obj C ns zs,.int a,.lst false (aq xs)] Q:=by
 have hF:=bZ hm
 obtain⟨k,n⟩:=m
 cases k with
 | true=>exact⟨_,_,_,Uy K,rfl,⟨T.fo,_,_,_,T.ax6,ay9 T,T.TQ.b⟩,by decide,λxs a Q ha hy hl q=>⟨_,n,a,xs,rfl,T.fo,T.z7,wU hm,ha,hy,hl,q⟩⟩
 | false =>
  have sP:n<=64:=hF.hi
  have l2:2<=n:=hF.lo
  exact⟨_,_,_,Uz K,rfl,⟨T.fL,_,_,_,T.ar6,as1 T,T.TR.b⟩,by decide,λxs a Q ha hy hl q=>⟨_,n,a,xs,rfl,T.fL,T.xv,by omega,cB (show a<n from ha) sP,λy h=>cB (show y<n from hy y h) sP,hl,q⟩⟩
noncomputable abbrev UB(K:Frag):aW:=λds Q=>∃(C:Addr) (p a:Nat) (xs ys:List Nat),ds=[uY C p,.lst false (aq xs),.int a,.lst false (aq ys)]/\cE K C/\bf K C "products"/\p∈gW/\a<aa (true,p)/\(∀y∈ys,y<aa (true,p))/\xs.length<=1000/\Q (.lst true (aq (dm (λx y=>br (true,p) x (gm (true,p) a y)) xs ys)))
theorem as2(T:Txt K mg t):aH P w K mg base aP 1 t.HH t.Rk ["self","row","a","other"] (a6 (UB K)):=by
 refine bo T.TU.F Po (λds Q h=>by obtain⟨C,p,a,xs,ys,rfl,hC,hn,hp,ha,hy,hl,q⟩:=h<;>rfl) λay A outer s H E hr=>⟨_,(aE (bc (i:=4) Po.nd rfl (cJ rfl) (du (bB (eB (K:=K) (bv 0)) (bv 2) (λ_ _=>rfl))))
   (aC (aQ (di [("by_a",4)] ["x","y"] rfl (wJ rfl T.vk (ag (bv 1) (ag (bv 3) av))) (λ_ _ _ _=>(zJ (i1:=1) (i2:=2) (show(["by_a","x","y"]:List Str).Nodup by decide +kernel))) (λ_ _ _ _=>dB) (λ_ _ _ _=>(aB yI (bv 1) (bB (bv 0) (bv 2) (λ_ _=>rfl)))) rfl)))),λds Q h=>?_⟩
 obtain⟨C,p,a,xs,ys,rfl,hC,hn,hp,ha,hy,hl,q⟩:=h
 refine aD λU hU=>?_
 walk_at"l3"
 refine⟨C,_,_,_,rfl,hC,hn,rfl,_,Cy hp ha,?_⟩
 refine⟨by rw[fB,lM];rfl,hU _ ?_⟩
 clear hU U
 walk_at"l3"
 refine⟨_,_,rfl,rfl,ND (λx y=>br (true,p) x (gm (true,p) a y)) (λx hx y DC=>?_) (by omega) q⟩
 walk_at"l3"
 refine⟨_,Cw hp ha (hy y DC),?_⟩
 show pY (x:Int) ((gm (true,p) a y:Nat):Int)=_
 rw[nS];rfl
noncomputable abbrev UC(K:Frag):aW:=λds Q=>∃(C:Addr) (p a:Nat) (xs ys:List Nat),ds=[uX C p,.lst false (aq xs),.int a,.lst false (aq ys)]/\cE K C/\bf K C "prime"/\0<p/\a<64/\(∀y∈ys,y<64)/\xs.length<=1000/\Q (.lst true (aq (dm (λx y=>br (false,p) x (gm (false,p) a y)) xs ys)))
theorem ap0(T:Txt K mg t):aH P w K mg base aP 1 t.HI t.Rl ["self","row","a","other"] (a6 (UC K)):=by
 refine bo T.TV.F Pq (λds Q h=>by obtain⟨C,p,a,xs,ys,rfl,hC,hn,hp,ha,hy,hl,q⟩:=h<;>rfl) λay A outer s H E hr=>⟨_,(aE (bc (i:=4) Pq.nd rfl (cJ rfl) (du (eB (K:=K) (bv 0))))
   (aC (aQ (di [("prime",4),("a",2)] ["x","y"] rfl (wJ rfl T.vk (ag (bv 1) (ag (bv 3) av))) (λ_ _ _ _=>(zJ (i1:=2) (i2:=3) (show(["prime","a","x","y"]:List Str).Nodup by decide +kernel))) (λ_ _ _ _=>dB) (λ_ _ _ _=>(aB cX (ae (aB fi (bv 2) (ae (aB gU (bv 1) (bv 3))))) (bv 0))) rfl)))),λds Q h=>?_⟩
 obtain⟨C,p,a,xs,ys,rfl,hC,hn,hp,ha,hy,hl,q⟩:=h
 refine aD λU hU=>?_
 walk_at"l3"
 refine⟨C,_,_,.int p,rfl,hC,hn,rfl,rfl,hU _ ?_⟩
 clear hU U
 walk_at"l3"
 refine⟨_,_,rfl,rfl,ND (λx y=>br (false,p) x (gm (false,p) a y)) (λx hx y DC=>?_) (by omega) q⟩
 have h2:=hy y DC
 walk_at"l3"
 refine⟨jn.ok (.inr ⟨by omega,by omega⟩),by omega,?_⟩
 have e:((x:Int)-((a*y%p:Nat):Int))%(p:Int)=((x:Int)-(a:Int)*y)%p:=by
  rw[ql,vI,Int.sub_emod,Int.emod_emod,<- Int.sub_emod]
 show _=(((((x:Int)-((a*y%p:Nat):Int))%(p:Int)).toNat:Nat):Int)
 rw[e,xO (ir _ (by omega))]
theorem UD(T:Txt K mg t){m:Bool × Nat}(hm:m∈aw):∃C ns zs sp,fD t.aY t.a9 m=.obj C ns zs/\iO P w K mg base 1 "lessened" C sp/\("lessened":Str) ∉ ns/\∀(xs ys:List Nat) (a:Nat) (Q:D->Prop),a<aa m->(∀y∈ys,y<aa m)->xs.length<=1000->Q (.lst true (aq (dm (λx y=>br m x (gm m a y)) xs ys)))->sp [.obj C ns zs,.lst false (aq xs),.int a,.lst false (aq ys)] Q:=by
 have hF:=bZ hm
 obtain⟨k,n⟩:=m
 cases k with
 | true=>exact⟨_,_,_,UB K,rfl,⟨T.fo,_,_,_,T.ar5,as2 T,T.TU.b⟩,by decide,λxs ys a Q ha hy hl q=>⟨_,n,a,xs,ys,rfl,T.fo,T.z7,wU hm,ha,hy,hl,q⟩⟩
 | false =>
  have sP:n<=64:=hF.hi
  have l2:2<=n:=hF.lo
  exact⟨_,_,_,UC K,rfl,⟨T.fL,_,_,_,T.ao9,ap0 T,T.TV.b⟩,by decide,λxs ys a Q ha hy hl q=>⟨_,n,a,xs,ys,rfl,T.fL,T.xv,by omega,cB (show a<n from ha) sP,λy h=>cB (show y<n from hy y h) sP,hl,q⟩⟩
noncomputable abbrev aO1(cb cp:Addr):aW:=λds Q=>∃(m:Bool × Nat) (T:List (List Nat)) (l:List Nat) (j:Nat),ds=[fD cb cp m,.lst false (ax false T),.lst false (aq l),.int j]/\m∈aw/\T.length<=1000/\AllLt (aa m) l/\(∀r∈T,j<r.length/\r.length<=1000/\AllLt (aa m) r)/\Q (.lst true (ax true (T.map λr=>dm (λx y=>br m x (gm m (r.getD j 0) y)) r l)))
theorem UE(T:Txt K mg t):aH P w K mg base aP 2 t.Rm t.Rn ["field","rows","lead_row","place"] (a6 (aO1 t.aY t.a9)):=by
 refine bo T.Ip.F aN7 (λds Q h=>by obtain⟨m,G,l,j,rfl,hm,hG,hl,hr,q⟩:=h<;>rfl) λay A outer s H E hr=>⟨_,(aC (aQ (di [("lead_row",2),("field",0),("place",3)] ["row"] rfl (gg (bv 1)) (λ_ _ _ _=>(dQ (i:=3) (show(["lead_row","field","place","row"]:List Str).Nodup by decide +kernel))) (λ_ _ _ _=>dB) (λ_ _ _ _=>(iS (P:=P) (w:=w) (K:=K) (mg:=mg) (base:=base) (n:=1) (bv 1) (hr.mono (by decide)) (ag (bv 3) (ag (bB (bv 3) (bv 2) (λ_ _=>rfl)) (ag (bv 0) av))))) rfl))),λds Q h=>?_⟩
 obtain⟨m,G,l,j,rfl,hm,hG,hl,hr,q⟩:=h
 walk_at"l3"
 refine m9 G (λr=>D.lst true (aq (dm (λx y=>br m x (gm m (r.getD j 0) y)) r l))) (λr aZ=>?_) (.inr λr _=>ij _) ?_
 ·obtain⟨h1,h2,h3⟩:=hr r aZ
  obtain⟨C,ns,zs,sp,e1,e2,e3,e4⟩:=UD (P:=P) (w:=w) (base:=base) T hm
  walk_at"l3"
  refine⟨C,ns,zs,sp,e1,e2,e3,.int (r.getD j 0:Nat),by rw[j6 (by omega) (by omega),iq],e4 _ _ _ _ (h3.getD (by have:=(bZ hm).lo;omega) j) hl h2 ⟨rfl,rfl⟩⟩
 ·rw[ax,bW]at q
  exact q
noncomputable abbrev UG(t:cF):aW:=λds Q=>∃(m:Bool × Nat) (a b:Nat),ds=[fD t.aY t.a9 m,.int a,.int b]/\m∈aw/\a<aa m/\b<aa m/\(b=0->False)/\(b≠0->∀r:Nat,r<aa m->gm m r b=a->Q (.int (r:Nat)))
theorem UH(T:Txt K mg t):aH P w K mg base aP 2 t.C6 t.at2 ["self","a","b"] (a6 (UG t)):=by
 refine bo T.IB.F aI9 (λds Q h=>by obtain⟨m,a,b,rfl,hm,ha,hb,qx,q⟩:=h<;>rfl) λay A outer s H E hr=>⟨_,(aE (cq (bJ (fQ (cN hr)) (bv 2) (ae ao) (bA _)) (aC BM) cI)
   (aE (cq (bJ (fQ (cN hr)) (bv 1) (ae ao) (bA _)) (aC (aQ ao)) cI)
   (aC (aQ (iS (P:=P) (w:=w) (K:=K) (mg:=mg) (base:=base) (n:=1) (bv 0) (hr.mono (by decide)) (ag (ae (aB fi (bB (eB (K:=K) (bv 0)) (bv 1) (λ_ _=>rfl)) (bB (eB (K:=K) (bv 0)) (bv 2) (λ_ _=>rfl)))) av)))))),λds Q h=>?_⟩
 obtain⟨m,a,b,rfl,hm,ha,hb,qx,q⟩:=h
 refine aD λU hU=>?_
 walk_at"l3"
 split
 ·rename_i h0
  exact qx (by omega)
 ·rename_i h0
  have b0:b≠0:=by omega
  refine hU _ ?_
  clear hU U
  refine aD λU hU=>?_
  walk_at"l3"
  split
  ·rename_i h1
   have a0:a=0:=by omega
   subst a0
   exact q b0 0 ha (fj m b (bM m hm))
  ·rename_i h1
   have a0:a≠0:=by omega
   refine hU _ ?_
   clear hU U
   have hF:=bZ hm
   obtain⟨r,e,CK,hr2⟩:=Nv hm (show 1<=a by omega) ha (show 1<=b by omega) hb
   have qr:=q b0 r CK hr2
   obtain⟨k,n⟩:=m
   cases k with
   | true =>
    walk_at"l3"
    have ll:(eQ (fl (true,n))).length=aa (true,n):=(zc _ _).trans hF.len
    have n0:=ir (lg (true,n) a-lg (true,n) b) (show(aa (true,n):Int)-1≠0 by have:=hF.lo;omega)
    have n1:=iu (lg (true,n) a-lg (true,n) b) (show(0:Int)<(aa (true,n):Int)-1 by have:=hF.lo;omega)
    refine⟨_,_,_,Ad K,rfl,⟨T.fo,_,_,_,T.Ik,Ae T,T.xu.b⟩,by decide,_,_,_,_,rfl,T.fo,T.Dy,rfl,_,mO (by omega) (by rw[ll];omega),_,_,_,_,rfl,T.fo,T.Dy,rfl,_,mO (by omega) (by rw[ll];omega),?_⟩
    refine⟨_,_,_,_,aa (true,n),fl (true,n),r,rfl,T.fo,T.Dz,T.z5,rfl,rfl,hF.lo,?_,qr⟩
    have hk:((lg (true,n) a-lg (true,n) b)%((aa (true,n):Int)-1)).toNat<(fl (true,n)).length:=by have:=hF.len;omega
    show(fl (true,n))[((lg (true,n) a-lg (true,n) b)%((aa (true,n):Int)-1)).toNat]?=some (r:Int)
    rw[<-e]
    unfold pw
    rw[aN,aM hk];rfl
   | false =>
    walk_at"l3"
    have ll:(eQ (fl (false,n))).length=aa (false,n):=(zc _ _).trans hF.len
    have n0:=ir (lg (false,n) a-lg (false,n) b) (show(aa (false,n):Int)-1≠0 by have:=hF.lo;omega)
    have n1:=iu (lg (false,n) a-lg (false,n) b) (show(0:Int)<(aa (false,n):Int)-1 by have:=hF.lo;omega)
    refine⟨_,_,_,Ad K,rfl,⟨T.fL,_,_,_,T.Il,Ae T,T.xu.b⟩,by decide,_,_,_,_,rfl,T.fL,T.IG,rfl,_,mO (by omega) (by rw[ll];omega),_,_,_,_,rfl,T.fL,T.IG,rfl,_,mO (by omega) (by rw[ll];omega),?_⟩
    refine⟨_,_,_,_,aa (false,n),fl (false,n),r,rfl,T.fL,T.IH,T.z9,rfl,rfl,hF.lo,?_,qr⟩
    have hk:((lg (false,n) a-lg (false,n) b)%((aa (false,n):Int)-1)).toNat<(fl (false,n)).length:=by have:=hF.len;omega
    show(fl (false,n))[((lg (false,n) a-lg (false,n) b)%((aa (false,n):Int)-1)).toNat]?=some (r:Int)
    rw[<-e]
    unfold pw
    rw[aN,aM hk];rfl
theorem IL(T:Txt K mg t)(m:Bool × Nat):iO P w K mg base 2 "over" (if m.1 then t.aY else t.a9) (UG t):=by
 obtain⟨k,n⟩:=m
 cases k with
 | true=>exact⟨T.fo,_,_,_,T.aD3,UH T,T.IB.b⟩
 | false=>exact⟨T.fL,_,_,_,T.ax7,UH T,T.IB.b⟩
noncomputable abbrev aO2(t:cF):aW:=λds Q=>∃(m:Bool × Nat) (G:List (List Nat)),ds=[fD t.aY t.a9 m,.lst false (ax false G)]/\m∈aw/\G.length<=900/\RT (aa m) (ai G) G/\ai G<=900/\Q (.lst true (ax true (bh m G)))
theorem IM(T:Txt K mg t):aH P w K mg base aP 3 t.Ro t.Rp ["field","table"] (a6 (aO2 t)):=by
 refine bo T.xt.F sM (λds Q h=>by obtain⟨m,G,rfl,hm,hG,hR,hw,q⟩:=h<;>rfl) λay A outer s H E hr=>⟨_,(aE (bc (i:=2) sM.nd rfl (aA rfl) (eD dv))
   (aE (bc (i:=3) sM.nd rfl (aA rfl) (du (bv 1)))
   (aE (iK f7 rfl (jX rfl T.ik (ag (ae (bg T.pQ (xx T) hr (ag (bv 1) av))) av)) (mI (i:=4) sM.nd rfl (aA rfl))
    (BN 3 (aE (bc (i:=5) sM.nd rfl (aA rfl) (bg T.Tq (aJ8 T) hr (ag (bv 3) (ag (bv 4) av))))
    (aC (cq (bJ cy5 (bv 5) (ae yw) (bA _)) (aE (bc (i:=6) sM.nd rfl (aA rfl) (iS (P:=P) (w:=w) (K:=K) (mg:=mg) (base:=base) (n:=1) (bv 0) (hr.mono (by decide)) (ag (ae (iS (P:=P) (w:=w) (K:=K) (mg:=mg) (base:=base) (n:=2) (bv 0) (hr.mono (by decide)) (ag (ae ao) (ag (bB (bB (bv 3) (bv 5) (λ_ _=>rfl)) (bv 4) (λ_ _=>rfl)) av)))) (ag (bB (bv 3) (bv 5) (λ_ _=>rfl)) av))))
     (aE (bc (i:=3) sM.nd rfl (aA rfl) (bg T.Ip (UE T) hr (ag (bv 0) (ag (ae (aB dw (ae (yU (bv 3) yO (yP (bv 5)))) (ae (yU (bv 3) (yP (ae (aB dw (bv 5) (ae ao)))) yO)))) (ag (bv 6) (ag (bv 4) av))))))
     (aC (bc (i:=2) sM.nd rfl (aA rfl) (cs7 (bg T.Ip (UE T) hr (ag (bv 0) (ag (bv 2) (ag (bv 6) (ag (bv 4) av))))) (eD (cW (em 6) dv))))))) cI)))))
   (aC (aQ (em 2)))))),λds Q h=>?_⟩
 obtain⟨m,G,rfl,hm,hG,hR,hw,q⟩:=h
 have cT:=(bZ hm).lo
 refine aD λU hU=>?_
 walk_at"l3"
 refine⟨by decide,hU _ ?_⟩
 clear hU U
 refine aD λU hU=>?_
 walk_at"l3"
 refine hU _ ?_
 clear hU U
 refine aD λU hU=>?_
 walk_at"l3"
 refine⟨G,rfl,by omega,λr aZ=>?_,?_⟩
 ·rw[(hR r aZ).1];omega
 refine⟨_,rfl,⟨by omega,by omega⟩,?_⟩
 refine FR (λk δ=>∃(o:Bool) (o1 o2 o3:Option D),δ=[some (fD t.aY t.a9 m),some (D.lst false (ax false G)),some (D.lst true (ax true (jB m G k).1)),some (D.lst o (ax o (jB m G k).2)),o1,o2,o3]) ⟨false,none,none,none,rfl⟩ ?_ ?_
 ·rintro k δ hk ⟨o,o1,o2,o3,rfl⟩
  have I:=zy hm hR k
  rw[GI]
  generalize jB m G k=s at I ⊢
  simp only[gN,og,kr,kq,tD,tw,tE,exists_eq_left',cU,fC]
  clear hU
  have il:=I.l
  refine aD λU hU=>?_
  walk_at"l3"
  refine⟨s.2,k,rfl,by omega,λr aZ=>by rw[(I.b r aZ).1];omega,?_⟩
  cases e:j8 s.2 k with
  | none =>
   rw[show iU m s k=s by unfold iU;rw[e]]at hU
   refine hU _ ?_
   walk_at"l3"
   exact⟨false,_,_,_,⟨rfl,rfl⟩,rfl,rfl,rfl⟩
  | some i =>
   obtain⟨hi,h1,h2⟩:=CD e
   have er:iU m s k=(gX m s.1 (eJ m s.2 i k) k++[eJ m s.2 i k],gX m (s.2.take i++s.2.drop (i+1)) (eJ m s.2 i k) k):=by unfold iU;rw[e]
   rw[er]at hU
   refine hU _ ?_
   clear hU
   walk_at"l3"
   obtain⟨C,ns,xs,sp,e1,e2,e3,e4⟩:=UA (P:=P) (w:=w) (base:=base) T hm
   refine aD λU hU=>?_
   walk_at"l3"
   obtain⟨lw,lr⟩:=I.b _ (dE hi)
   have bk:=lr.getD (show 0<aa m by omega) k
   refine⟨C,ns,xs,sp,e1,e2,e3,_,_,_,_,sC _ _ m,IL T m,GA m _ (by decide),.lst false (aq s.2[i]),u5 false hi,?_⟩
   dsimp only
   refine⟨.int (s.2[i].getD k 0:Nat),by rw[j6 (by omega) (by omega),iq],m,1,s.2[i].getD k 0,by rw[sC];rfl,hm,cT,bk,λz=>absurd z h1,λ_ f hf hfo=>⟨rfl,.lst false (aq s.2[i]),u5 false hi,?_⟩⟩
   have ef:j9 m (s.2[i].getD k 0)=f:=wX hm hf hfo
   rw[mX]
   refine e4 _ _ _ hf lr (by omega) ⟨by rw[ij,ix],hU _ ?_⟩
   have el:s.2[i].map (gm m f)=eJ m s.2 i k:=by unfold eJ;rw[h2,ef]
   rw[el]
   have ll:(eJ m s.2 i k).length=ai G:=by rw[<-el,bq];exact lw
   have la:AllLt (aa m) (eJ m s.2 i k):=λx hx=>by
    rw[<-el]at hx
    obtain⟨y,_,rfl⟩:=bw.mp hx
    exact bC hm _ _
   generalize eJ m s.2 i k=ld at ll la ⊢
   clear hU
   refine aD λU hU=>?_
   walk_at"l3"
   have IQ:∀r∈s.2.take i++s.2.drop (i+1),r.length=ai G/\AllLt (aa m) r:=λr aZ=>by
    rcases bY.mp aZ with h | h
    ·exact I.b r (xI h)
    ·exact I.b r (qi h)
   have UI:∀X:List (List Nat),(D.lst true (ax true X)).fr=true:=λX=>by rw[eZ,mZ];rfl
   rw[MC,show((i:Int)+1)=((i+1:Nat):Int) by omega,Gd,zu,fC]
   refine⟨by rw[jG,jI];omega,m,_,ld,k,rfl,hm,by rw[eO,jG,jI];omega,la,λr aZ=>⟨by rw[(IQ r aZ).1];exact hk,by rw[(IQ r aZ).1];omega,(IQ r aZ).2⟩,UI _,hU _ ?_⟩
   clear hU
   walk_at"l3"
   refine⟨m,s.1,ld,k,rfl,hm,by omega,la,λr aZ=>⟨by rw[(I.a r aZ).1];exact hk,by rw[(I.a r aZ).1];omega,(I.a r aZ).2⟩,UI _,by decide,_,_,rfl,rfl,?_,true,_,_,_,zu true _ [ld],⟨rfl,rfl⟩,rfl,rfl,rfl⟩
   rw[kJ,bq]
   show s.1.length+1<=_
   omega
 ·rintro δ ⟨o,o1,o2,o3,rfl⟩
  refine hU _ ?_
  walk_at"l3"
  exact q
noncomputable abbrev aO8:aW:=λds Q=>∃T:List (List Nat),ds=[.lst false (ax false T)]/\T.length<=1000/\Q (.lst true (ax true T))
theorem UJ(T:Txt K mg t):aH P w K mg base aP 1 t.Rq t.Rt ["table"] (a6 (aO8 )):=by
 refine bo T.zV.F aO3 (λds Q h=>by obtain⟨G,rfl,hG,q⟩:=h<;>rfl) λay A outer s H E hr=>⟨_,(aC (aQ (di [] ["row"] rfl (gg (bv 0)) (λ_ _ _ _=>(dQ (i:=0) (show(["row"]:List Str).Nodup by decide +kernel))) (λ_ _ _ _=>dB) (λ_ _ _ _=>(FG (FH) (by rfl) T.C9 Bz (ag (bv 0) av))) rfl))),λds Q h=>?_⟩
 obtain⟨G,rfl,hG,q⟩:=h
 walk_at"l3"
 refine m9 G (λr=>D.lst true (aq r)) (λr aZ=>?_) (.inr λr _=>ij r) q
 walk_at"l3"
noncomputable abbrev b00:aW:=λds Q=>∃T:List (List Nat),ds=[.lst false (ax false T)]/\T.length<=1000/\(∀r∈T,r.length<=1000/\∃x∈r,x≠0)/\Q (.lst true (aq (T.map aX)))
theorem UK(T:Txt K mg t):aH P w K mg base aP 1 t.Ru t.Rw ["rows"] (a6 (b00 )):=by
 refine bo T.Iq.F b52 (λds Q h=>by obtain⟨G,rfl,hG,hr,q⟩:=h<;>rfl) λay A outer s H E hr=>⟨_,(aC (aQ (di [] ["row"] rfl (gg (bv 0)) (λ_ _ _ _=>(dQ (i:=0) (show(["row"]:List Str).Nodup by decide +kernel))) (λ_ _ _ _=>dB) (by exact λ_ _ _ _=>(du (bB (ae (di [] ["place","x"] rfl (wK rfl T.xq (ag (bv 0) av)) (λ_ _ _ _=>(zJ (i1:=0) (i2:=1) (show(["place","x"]:List Str).Nodup by decide +kernel))) (λ_ _ _ _=>(yG (bJ (jc (cN hr)) (bv 1) (ae ao) (bA _)))) (λ_ _ _ _=>(du (bv 0))) rfl)) (ae ao) (λ_ _=>rfl)))) rfl))),λds Q h=>?_⟩
 obtain⟨G,rfl,hG,hr,q⟩:=h
 walk_at"l3"
 refine m9 G (λr=>D.int (aX r:Nat)) (λr aZ=>?_) (.inr λr _=>rfl) ?_
 ·obtain⟨h1,x,hx,h3⟩:=hr r aZ
  walk_at"l3"
  refine zw (aL r.length) (λ(i:Nat)=>D.tup [.int (i:Int),.int ((r.getD i 0:Nat):Int)]) (λ(i:Nat)=>D.int (i:Int)) (λi=>r.getD i 0 != 0) (NN r) (λa b h=>by injection h with h;simp at h;omega) (λi hi=>?_) (.inr λ_ _ _=>rfl) (by rw[bV,sL];omega) ?_
  ·walk_at"l3"
   refine⟨?_,λ_=>trivial⟩
   by_cases h0:r.getD i 0=0
   ·rw[h0];rfl
   ·rw[decide_eq_false (by omega),bne_iff_ne.mpr h0];rfl
  ·refine⟨.int (aX r:Nat),L3.B7 (k:=0) ?_,rfl,rfl⟩
   rw[cu,NO ⟨x,hx,h3⟩];rfl
 ·rw[cO,bW]at q
  exact q
noncomputable abbrev aH9:aW:=λds Q=>∃(T:List (List Nat)) (w:Nat),ds=[.lst false (ax false T),.int w]/\T.length<=1000/\w<=1000/\(∀r∈T,r.length<=1000/\∃x∈r,x≠0)/\Q (.lst true (aq (bS T w)))
theorem UL(T:Txt K mg t):aH P w K mg base aP 2 t.Rx t.Ry ["rows","width"] (a6 (aH9 )):=by
 refine bo T.zW.F Pz (λds Q h=>by obtain⟨G,w,rfl,hG,hw,hr,q⟩:=h<;>rfl) λay A outer s H E hr=>⟨_,(aE (bc (i:=2) Pz.nd rfl (cJ rfl) (bg T.Iq (UK T) hr (ag (bv 0) av)))
   (aC (aQ (di [("taken",2)] ["place"] rfl (jX rfl T.ik (ag (bv 1) av)) (λ_ _ _ _=>(dQ (i:=1) (show(["taken","place"]:List Str).Nodup by decide +kernel))) (λ_ _ _ _=>(yG (bJ cq3 (bv 1) (bv 0) (by with_unfolding_all rfl)))) (λ_ _ _ _=>(du (bv 1))) rfl)))),λds Q h=>?_⟩
 obtain⟨G,w,rfl,hG,hw,hr,q⟩:=h
 refine aD λU hU=>?_
 walk_at"l3"
 refine⟨G,rfl,hG,hr,?_⟩
 refine hU _ ?_
 clear hU U
 walk_at"l3"
 refine⟨⟨by omega,by omega⟩,zw (aL w) (λ(i:Nat)=>D.int (i:Int)) (λ(i:Nat)=>D.int (i:Int)) (λj=>!(G.map aX).contains j) (zr _ rfl) rX (λj hj=>?_) (.inr λ_ _ _=>rfl) (by rw[bV,sL];omega) ?_⟩
 ·walk_at"l3"
  exact⟨_,rfl,by rw[b54],λ_=>trivial⟩
 ·rw[cO]at q
  exact q
noncomputable abbrev UM:aW:=λds Q=>∃(d:D) (a b:Nat),ds=[d,.int a,.int b]/\Q (.int (a ^^^ b:Nat))
theorem aA4(T:Txt K mg t):aH P w K mg base aP 1 t.HJ t.Rz ["self","a","b"] (a6 (UM )):=by
 refine bo T.TX.F az6 (λds Q h=>by obtain⟨d,a,b,rfl,q⟩:=h<;>rfl) λay A outer s H E hr=>⟨_,(aC (aQ (aB yI (bv 1) (bv 2)))),λds Q h=>?_⟩
 obtain⟨d,a,b,rfl,q⟩:=h
 walk_at"l3"
 rw[nS];exact q
noncomputable abbrev UN(K:Frag):aW:=λds Q=>∃(C:Addr) (p:Nat) (a b:Int),ds=[uX C p,.int a,.int b]/\cE K C/\bf K C "prime"/\0<p/\Q (.int ((a-b)%p))
theorem av0(T:Txt K mg t):aH P w K mg base aP 1 t.HK t.RA ["self","a","b"] (a6 (UN K)):=by
 refine bo T.TY.F au5 (λds Q h=>by obtain⟨C,p,a,b,rfl,hC,hn,hp,q⟩:=h<;>rfl) λay A outer s H E hr=>⟨_,(aC (aQ (aB cX (ae (aB fi (bv 1) (bv 2))) (eB (K:=K) (bv 0))))),λds Q h=>?_⟩
 obtain⟨C,p,a,b,rfl,hC,hn,hp,q⟩:=h
 walk_at"l3"
 refine⟨C,_,_,.int p,rfl,hC,hn,rfl,?_⟩
 exact⟨by omega,q⟩
theorem UO(T:Txt K mg t){m:Bool × Nat}(h0:0<m.2):∃C ns xs sp,fD t.aY t.a9 m=.obj C ns xs/\iO P w K mg base 1 "minus" C sp/\("minus":Str) ∉ ns/\∀(a b:Nat) (Q:D->Prop),Q (.int (gl m a b))->sp [.obj C ns xs,.int a,.int b] Q:=by
 obtain⟨k,n⟩:=m
 cases k with
 | true=>exact⟨_,_,_,UM,rfl,⟨T.fo,_,_,_,T.aA1,aA4 T,T.TX.b⟩,by decide,λa b Q q=>⟨_,a,b,rfl,q⟩⟩
 | false=>exact⟨_,_,_,UN K,rfl,⟨T.fL,_,_,_,T.au8,av0 T,T.TY.b⟩,by decide,λa b Q q=>⟨_,n,a,b,rfl,T.fL,T.xv,h0,q⟩⟩
noncomputable abbrev as4(cb cp:Addr):aW:=λds Q=>∃(m:Bool × Nat) (T:List (List Nat)) (w:Nat),ds=[fD cb cp m,.lst false (ax false T),.int w]/\m∈aw/\T.length<=1000/\w<=1000/\RT (aa m) w T/\(∀r∈T,∃x∈r,x≠0)/\Q (.lst true (ax true (gY m T w)))
theorem UP(T:Txt K mg t):aH P w K mg base aP 3 t.RB t.RC ["field","rows","width"] (a6 (as4 t.aY t.a9)):=by
 refine bo T.zX.F xj (λds Q h=>by obtain⟨m,G,wi,rfl,hm,hG,hw,hR,hr,q⟩:=h<;>rfl) λay A outer s H E hr=>⟨_,(aE (bc (i:=3) xj.nd rfl (aA rfl) (bg T.Iq (UK T) hr (ag (bv 1) av)))
   (aE (bc (i:=4) xj.nd rfl (aA rfl) (eD dv))
   (BN 3 (aE (iK f7 rfl (Fw (bg T.zW (UL T) hr (ag (bv 1) (ag (bv 2) av)))) (mI (i:=5) xj.nd rfl (aA rfl))
    (aE (bc (i:=6) xj.nd rfl (aA rfl) (aB gU (ae (eD (cW ao dv))) (bv 2)))
    (aE (yQ (i:=6) rfl (by first | exact aA rfl | exact cJ (aA rfl)) ao (bv 5))
    (aE (iK f7 rfl (wJ rfl T.vk (ag (bv 3) (ag (bv 1) av))) (mQ (i1:=7) (i2:=8) rfl xj.nd rfl (aA rfl) rfl (aA rfl))
     (aC (yQ (i:=6) rfl (by first | exact aA rfl | exact cJ (aA rfl)) (iS (P:=P) (w:=w) (K:=K) (mg:=mg) (base:=base) (n:=1) (bv 0) (hr.mono (by decide)) (ag (ae ao) (ag (bB (bv 8) (bv 5) (λ_ _=>rfl)) av))) (bv 7))))
    (aC (wD (i:=4) rfl (by first | exact aA rfl | exact cJ (aA rfl)) (em 6)))))))
   (aC (aQ (em 4))))))),λds Q h=>?_⟩
 obtain⟨m,G,wi,rfl,hm,hG,hw,hR,hr,q⟩:=h
 have m0:=bM m hm
 have cT:=(bZ hm).lo
 refine aD λU hU=>?_
 walk_at"l3"
 refine⟨G,rfl,hG,λr aZ=>⟨by rw[(hR r aZ).1];exact hw,hr r aZ⟩,hU _ ?_⟩
 clear hU U
 refine aD λU hU=>?_
 walk_at"l3"
 refine⟨by decide,hU _ ?_⟩
 clear hU U
 refine⟨_,rfl,?_⟩
 rw[mX]
 simp only[kr,kq]
 refine aD λU hU=>?_
 walk_at"l3"
 refine⟨G,wi,rfl,hG,hw,λr aZ=>⟨by rw[(hR r aZ).1];exact hw,hr r aZ⟩,?_⟩
 refine⟨_,rfl,?_⟩
 have hfp:∀j∈bS G wi,j<wi:=λj hj=>bU.mp (nk.mp hj).1
 have lfp:(bS G wi).length<=wi:=by
  have:=VY (λj=>!(G.map aX).contains j) (aL wi)
  rw[bV]at this
  exact this
 rw[mR]
 refine gQ.mk (λi δ=>∃o1 o2 o3 o4,δ=[some (fD t.aY t.a9 m),some (D.lst false (ax false G)),some (D.int wi),some (D.lst false (aq (G.map aX))),some (D.lst true (ax true (((bS G wi).take i).map (dJ m G wi)))),o1,o2,o3,o4]) ⟨_,_,_,_,rfl⟩ ?_ ?_
 ·rintro i d δ hd ⟨o1,o2,o3,o4,rfl⟩
  rw[cO,cu]at hd
  obtain⟨f,hf,rfl⟩:=AJ.mp hd
  have hfw:=hfp f (vB hf)
  clear hd
  refine aD λU hU=>?_
  walk_at"l3"
  have er:aJ (aV wi 0)=aq (aV wi 0):=by
   rw[cO,AW];unfold aJ;rw[AW];rfl
  rw[iq,er]
  refine⟨by decide,⟨by omega,by omega,by omega⟩,hU _ ?_⟩
  clear hU
  refine aD λU hU=>?_
  walk_at"l3"
  refine⟨_,f,rfl,?_,?_⟩
  ·rw[zo (by omega) (by rw[eI,fP];omega)];rfl
  rw[show(aq (aV wi 0)).set f (D.int 1)=aq ((aV wi 0).set f 1) from GD _ _ 1]
  refine hU _ ?_
  clear hU
  refine aD λU hU=>?_
  walk_at"l3"
  refine⟨_,_,rfl,rfl,?_⟩
  refine gQ.mk (λk δ=>∃o3 o4,δ=[some (fD t.aY t.a9 m),some (D.lst false (ax false G)),some (D.int wi),some (D.lst false (aq (G.map aX))),some (D.lst true (ax true (((bS G wi).take i).map (dJ m G wi)))),some (D.int f),some (D.lst true (aq ((((G.map aX).zip G).take k).foldl (λx z=>x.set z.1 (br m 0 (z.2.getD f 0))) ((aV wi 0).set f 1)))),o3,o4]) ⟨_,_,rfl⟩ ?_ ?_
  ·rintro k d δ hd ⟨o3,o4,rfl⟩
   obtain⟨hk,rfl⟩:=ck0 hd
   clear hd
   obtain⟨lw,la⟩:=hR _ (dE hk)
   have xl:=GJ (λz:Nat × List Nat=>z.1) (λz=>br m 0 (z.2.getD f 0)) (((G.map aX).zip G).take k) ((aV wi 0).set f 1)
   rw[sX,fP]at xl
   obtain⟨C,ns,xs,sp,e1,e2,e3,e4⟩:=UO (P:=P) (w:=w) (base:=base) T m0
   have hld:aX G[k]<wi:=by
    rw[<-lw]
    obtain⟨x,hx,h0⟩:=hr _ (dE hk)
    exact JL ⟨x,hx,by simpa using h0⟩
   have ga:=iT hm (a:=0) (b:=G[k].getD f 0) (by omega) (la.getD (by omega) f)
   walk_at"l3"
   refine⟨C,ns,xs,sp,e1,e2,e3,.int (G[k].getD f 0:Nat),by rw[j6 (by omega) (by omega),iq],e4 0 (G[k].getD f 0) _ ⟨rfl,_,aX G[k],rfl,?_,_,_,?_,rfl,rfl⟩⟩
   ·rw[zo (by omega) (by rw[eI,xl];omega)];rfl
   ·rw[ga.1,GD,qh,xP]
    have ez:((G.map aX).zip G)[k]?=some (aX G[k],G[k]):=by
     rw[D0,nC,cu,aM hk];rfl
    rw[ez];rfl
  ·rintro δ ⟨o3,o4,rfl⟩
   refine hU _ ?_
   walk_at"l3"
   refine⟨⟨_,rfl⟩,by rw[bq,jG];omega,_,_,_,_,?_,rfl,rfl,rfl,rfl⟩
   rw[show((G.map aX).zip G).take (dG (aq (G.map aX)) (ax false G)).length=(G.map aX).zip G from xH (by unfold dG;rw[AQ,jJ,eI,kJ];exact bE _),qh,hf,fv]
   exact zu true _ [dJ m G wi f]
 ·rintro δ ⟨o1,o2,o3,o4,rfl⟩
  refine hU _ ?_
  walk_at"l3"
  rw[vF]
  exact q
noncomputable abbrev aL8(t:cF)(K:Frag):L2.Sp:=λvs H Q _=>∃(F H0:Hp) (x dx C:Addr) (vf vc:V) (m:Bool × Nat) (G:List (List Nat)) (pre:List (Str × V)),vs=[.ref x,vf,vc]/\L3.af F H0/\H0 x=none/\L3.af H0 H/\H x=some (.ins C dx (pre++[]))/\pO pre/\c34 K C /\
 R F H0 [fD t.aY t.a9 m] [vf] []/\R F H0 [.lst false (ax false G)] [vc] []/\m∈aw/\RT (aa m) (ai G) G/\G.length<=64/\ai G<=64 /\
 ∀H' p1 p2 p3 A1 A2 A3,bL x H H'->H' x=some (.ins C dx (pre++m5.zip [vf,.int (ai G:Nat),.ref p1,.ref p2,.ref p3,.int ((bS (bh m G) (ai G)).length:Nat)]))->R (λ_=>none) H' [.lst true (ax true G)] [.ref p1] A1->R (λ_=>none) H' [.lst true (ax true (gY m (bh m G) (ai G)))] [.ref p2] A2->R (λ_=>none) H' [.lst true (aq (bS (bh m G) (ai G)))] [.ref p3] A3->(A1++(A2++A3)).Nodup->(∀a∈A1++(A2++A3),H a=none)->Q .au H'
theorem IS(T:Txt K mg t):aH P w K mg base aP 4 t.HL t.RD ["self","field","checks"] (aL8 t K):=by
 refine T.Dx.F.ok PH (λvs H Q E h=>?_) λay A outer s H vs Q E hr h=>?_
 ·obtain⟨F,H0,x,dx,C,vf,vc,m,G,pre,rfl,_⟩:=h;rfl
 obtain⟨F,H0,x,dx,C,vf,vc,m,G,pre,rfl,e0,gy,s0,hx,hp,hC,rf,rc,hm,hG,hGl,hGw,q⟩:=h
 refine⟨_,eV (Ep (i:=3) PH.nd rfl (aA rfl) (jq ((IM T).mono (by decide)) hr rfl T.xt.g T.xt.F.kp T.xt.b .nil cL (bN (pv 1) (bN (pv 2) eX))))
  (eV (g9 (pv 0) (pv 1) rfl)
  (eV (g9 (pv 0) (jq ((xx T).mono (by decide)) hr rfl T.pQ.g T.pQ.F.kp T.pQ.b .nil cL (bN (pv 2) eX)) rfl)
  (eV (g9 (pv 0) (jq ((UJ T).mono (by decide)) hr rfl T.zV.g T.zV.F.kp T.zV.b .nil cL (bN (pv 2) eX)) rfl)
  (eV (g9 (pv 0) (jq ((UP T).mono (by decide)) hr rfl T.zX.g T.zX.F.kp T.zX.b .nil cL (bN (pv 1) (bN (pv 3) (bN (tS (pv 0) rfl) eX)))) rfl)
  (eV (g9 (pv 0) (jq ((UL T).mono (by decide)) hr rfl T.zW.g T.zW.F.kp T.zW.b .nil cL (bN (pv 3) (bN (tS (pv 0) rfl) eX))) rfl)
  (jl (g9 (pv 0) (Bq KC rfl T.g5 gM (bN (tS (pv 0) rfl) eX)) rfl))))))),?_⟩
 try dsimp only[jx,jy]
 have hn:=cz1 hm hG
 have hk:=Hm hm hG
 obtain⟨_,iR,iL,_⟩:=ka hm hG
 have fR:∀X:List (List Nat),[D.lst true (ax true X)].all D.fr=true:=λX=>by rw[de,eZ,mZ];rfl
 have fN:∀X:List Nat,[D.lst true (aq X)].all D.fr=true:=λX=>by rw[de,ij];rfl
 refine⟨_,rfl,_,rfl,F,[fD t.aY t.a9 m,.lst false (ax false G)],λd=>d=.lst true (ax true (bh m G)),e0.trans s0,R.cons (A:=[]) (rf.shared (L3.af.refl _) s0) (rc.shared (L3.af.refl _) s0),⟨m,G,rfl,hm,by omega,hG,by omega,rfl⟩,λd v F1 H1 A1 hd eT Ah Ai UQ r1 UR IT=>?_⟩
 subst hd
 obtain⟨p0,rfl⟩:=w4 r1
 have bO:=eT.get _ _ hx rfl
 have z1:bL x H H1:=eT.x
 have r1:=r1.qF (fR _) Ah
 have xy:∀X:List (List Nat),[D.lst true (ax true X)].map D.sh=[D.lst false (ax false X)]:=λX=>by rw[da,cU,fC];rfl
 have au:∀{F' H':Hp} {d:D} {v:V} {A':List Addr},R F' H' [d] [v] A'->[d].all D.fr=true->R (λ_=>none) H' [d] [v] A':=λr h=>r.qF h (L3.af.of λb o e=>by cases e)
 have gr:∀{F' H' Aj:Hp} {ds:List D} {vs:List V} {A':List Addr},R F' H' ds vs A'->L3.af H' Aj->R F' Aj ds vs A':=λr h=>r.grow (L3.af.refl _) h λa ha=>(r.lists a ha).2
 refine⟨vf,rfl,.ref x,rfl,x,C,dx,_,rfl,bO,hC.cls,hC.field,hp.lt (by decide),?_⟩
 generalize e2:upd _ x (.ins C dx (b9 "field" vf _))=H2
 have y2:=hp.step bO (by decide) e2
 clear e2
 have dZ:=y2.at_
 have r2:=y2.mv r1 (fR _)
 have z2:=z1.trans y2.sm
 have t2:=bL.of0 gy s0 z2
 refine⟨_,rfl,F,[.lst false (ax false G)],λd=>d=.int (ai G:Nat),e0.trans t2,rc.shared (L3.af.refl _) t2,⟨G,rfl,by omega,λr aZ=>by rw[(hG r aZ).1];omega,rfl⟩,λd v F3 H3 A3 hd gD Ag he3 h33 r3 nd3 Eu=>?_⟩
 subst hd
 cases r3
 have fF:=gD.get _ _ dZ rfl
 refine⟨.ref x,rfl,x,C,dx,_,rfl,fF,hC.cls,hC.length,hp.lt (by show 1<=6;decide),?_⟩
 generalize e4:upd _ x (.ins C dx (b9 "length" (.int (ai G:Nat)) _))=H4
 have y4:=hp.step fF (by decide) e4
 clear e4
 have kh:=y4.at_
 have r4:=y4.mv (gr r2 gD) (fR _)
 have z4:=(z2.trans (gD.x (x:=x))).trans y4.sm
 have t4:=bL.of0 gy s0 z4
 refine⟨_,rfl,F,[.lst false (ax false G)],λd=>d=.lst true (ax true G),e0.trans t4,rc.shared (L3.af.refl _) t4,⟨G,rfl,by omega,rfl⟩,λd v F5 H5 A5 hd kL hf5 he5 h35 r5 nd5 ya=>?_⟩
 subst hd
 obtain⟨p1,rfl⟩:=w4 r5
 have ki:=kL.get _ _ kh rfl
 refine⟨.ref x,rfl,x,C,dx,_,rfl,ki,hC.cls,hC.c35,hp.lt (by show 2<=6;decide),?_⟩
 generalize e6:upd _ x (.ins C dx (b9 "check_rows" (.ref p1) _))=H6
 have y6:=hp.step ki (by decide) e6
 clear e6
 have vq:=y6.at_
 have r6:=y6.mv (gr r4 kL) (fR _)
 have k6:=y6.mv (au r5 (fR _)) (fR _)
 have z6:=(z4.trans (kL.x (x:=x))).trans y6.sm
 have n5:∀a∈A5,H a=none:=λa ha=>z4.free (by rw[kh];simp) (ya a ha)
 have t6:=bL.of0 gy s0 z6
 have e6:=e0.trans t6
 refine⟨_,rfl,_,rfl,.ref x,rfl,x,C,dx,_,.int (ai G:Nat),rfl,vq,hC.cls,hC.length,(hp.look _ _ (by decide)).trans rfl,L3.bj F H6 A1,[fD t.aY t.a9 m,.lst false (ax false (bh m G)),.int (ai G:Nat)],λd=>d=.lst true (ax true (gY m (bh m G) (ai G))),nV e6,R.cons (A:=[]) (rf.shared (iH e6) t6) (R.cons (A:=[]) (xy _ ▸ r6.bj e6 A1 λ_ h=>h) (.int .nil)),⟨m,bh m G,ai G,rfl,hm,by omega,by omega,iR,hn,rfl⟩,λd v F7 H7 A7 hd pS hf7 he7 h37 r7 nd7 US=>?_⟩
 subst hd
 obtain⟨p2,rfl⟩:=w4 r7
 have vt:=pS.get _ _ vq rfl
 refine⟨.ref x,rfl,x,C,dx,_,rfl,vt,hC.cls,hC.c36,hp.lt (by show 3<=6;decide),?_⟩
 generalize e8:upd _ x (.ins C dx (b9 "word_rows" (.ref p2) _))=H8
 have y8:=hp.step vt (by decide) e8
 clear e8
 have IU:=y8.at_
 have r8:=y8.mv (gr r6 pS) (fR _)
 have k8:=y8.mv (gr k6 pS) (fR _)
 have w8:=y8.mv (au r7 (fR _)) (fR _)
 have z8:=(z6.trans (pS.x (x:=x))).trans y8.sm
 have n7:∀a∈A7,H a=none:=λa ha=>z6.free (by rw[vq];simp) (US a ha)
 have d57:∀a∈A5,a ∉ A7:=λa ha hb=>by
  obtain⟨⟨ws,e⟩,_⟩:=k6.lists a ha
  rw[US a hb]at e;cases e
 have t8:=bL.of0 gy s0 z8
 have e8:=e0.trans t8
 refine⟨_,rfl,.ref x,rfl,x,C,dx,_,.int (ai G:Nat),rfl,IU,hC.cls,hC.length,(hp.look _ _ (by decide)).trans rfl,L3.bj F H8 A1,[.lst false (ax false (bh m G)),.int (ai G:Nat)],λd=>d=.lst true (aq (bS (bh m G) (ai G))),nV e8,R.cons (A:=[]) (xy _ ▸ r8.bj e8 A1 λ_ h=>h) (.int .nil),⟨bh m G,ai G,rfl,by omega,by omega,λr aZ=>⟨by rw[(iR r aZ).1];omega,hn r aZ⟩,rfl⟩,λd v F9 H9 A9 hd DD hf9 he9 h39 r9 nd9 IV=>?_⟩
 subst hd
 obtain⟨p3,rfl⟩:=w4 r9
 have UT:=DD.get _ _ IU rfl
 refine⟨.ref x,rfl,x,C,dx,_,rfl,UT,hC.cls,hC.OP,hp.lt (by show 4<=6;decide),?_⟩
 generalize UU:upd _ x (.ins C dx (b9 "message_places" (.ref p3) _))=H10
 have Ak:=hp.step UT (by decide) UU
 clear UU
 have xB:=Ak.at_
 have k10:=Ak.mv (gr k8 DD) (fR _)
 have w10:=Ak.mv (gr w8 DD) (fR _)
 have UW:=Ak.mv (au r9 (fN _)) (fN _)
 have z10:=(z8.trans (DD.x (x:=x))).trans Ak.sm
 have n9:∀a∈A9,H a=none:=λa ha=>z8.free (by rw[IU];simp) (IV a ha)
 have d59:∀a∈A5,a ∉ A9:=λa ha hb=>by
  obtain⟨⟨ws,e⟩,_⟩:=k8.lists a ha
  rw[IV a hb]at e;cases e
 have d79:∀a∈A7,a ∉ A9:=λa ha hb=>by
  obtain⟨⟨ws,e⟩,_⟩:=w8.lists a ha
  rw[IV a hb]at e;cases e
 obtain⟨ws,lw,ew⟩:∃ws,ws.length=(bS (bh m G) (ai G)).length/\H10 p3=some (.lst ws):=by
  cases UW with
  | own h _ r _=>exact⟨_,by rw[<-r.length,eI],h⟩
 refine⟨.ref x,rfl,x,C,dx,_,.ref p3,rfl,xB,hC.cls,hC.OP,(hp.look _ _ (by decide)).trans rfl,p3,ws,rfl,.inl (bG.of ew),.ref x,rfl,x,C,dx,_,rfl,xB,hC.cls,hC.size,hp.lt (by show 5<=6;decide),?_⟩
 rw[lw]
 refine q _ p1 p2 p3 A5 A7 A9 (z10.trans (bL.upd (C:=x) (dx:=dx) xB rfl)) (by rw[bI,hp.put _ _ _ (by decide)];rfl) (k10.mU xB (fR _)) (w10.mU xB (fR _)) (UW.mU xB (fN _)) ?_ ?_
 ·exact ia.mpr ⟨nd5,ia.mpr ⟨nd7,nd9,d79⟩,λa ha hb=>(bY.mp hb).elim (d57 a ha) (d59 a ha)⟩
 ·intro a ha
  rcases bY.mp ha with ha | ha
  ·exact n5 a ha
  ·exact(bY.mp ha).elim (n7 a) (n9 a)
noncomputable abbrev IW(K:Frag):aW:=λds Q=>∃(C:Addr) (ns:List Str) (xs:List D) (n:Nat) (x:D),ds=[.obj C ns xs,x]/\cE K C/\bf K C "many"/\(ns.zip xs).lookup ("many":Str)=some (.int n)/\((∃i,x=.int i/\Q (.bl (decide (0<=i)&&decide (i<n))))\/(x=.au/\Q (.bl false)))
theorem UX(T:Txt K mg t):aH P w K mg base aP 1 t.C7 t.RE ["self","x"] (a6 (IW K)):=by
 refine bo T.IC.F aH2 (λds Q h=>by obtain⟨C,ns,xs,n,x,rfl,h1,h2,h3,q⟩:=h<;>rfl) λay A outer s H E hr=>⟨_,(aC (aQ (qM (ae (yM (by rfl) T.nj (by rfl) T.Td Lf (bv 1))) (qM (ae (Ft (ae (yM (by rfl) T.nj (by rfl) T.Tc Lg (bv 1))))) (vW (uf kE oy (ae ao) (bv 1) (eB (K:=K) (bv 0)))))))),λds Q h=>?_⟩
 obtain⟨C,ns,xs,n,x,rfl,h1,h2,h3,q⟩:=h
 rcases q with⟨i,rfl,q⟩ | ⟨rfl,q⟩
 ·walk_at"l3"
  split
  ·rename_i h0
   refine⟨C,ns,xs,_,rfl,h1,h2,h3,?_⟩
   dsimp only
   rw[decide_eq_true h0,kQ]at q
   exact q
  ·rename_i h0
   rw[decide_eq_false h0,pW]at q
   exact q
 ·walk_at"l3"
  exact q
theorem UY(T:Txt K mg t)(m:Bool × Nat){x:D}{Q:D->Prop}(h:(∃i,x=.int i/\Q (.bl (decide (0<=i)&&decide (i<aa m))))\/(x=.au/\Q (.bl false))):Nx P w K mg base 1 t.aY t.a9 m "holds" [x] Q:=by
 obtain⟨k,n⟩:=m
 cases k with
 | true=>exact⟨_,_,_,IW K,rfl,⟨T.fo,_,_,_,T.aA0,UX T,T.IC.b⟩,by decide,_,_,_,aa (true,n),x,rfl,T.fo,T.z5,rfl,h⟩
 | false=>exact⟨_,_,_,IW K,rfl,⟨T.fL,_,_,_,T.au7,UX T,T.IC.b⟩,by decide,_,_,_,aa (false,n),x,rfl,T.fL,T.z9,rfl,h⟩
noncomputable abbrev aA5(t:cF):aW:=λds Q=>∃(m:Bool × Nat) (G:List (List Nat)),ds=[fD t.aY t.a9 m,.lst false (ax false G)]/\m∈aw/\RT (aa m) (ai G) G/\1<=G.length/\G.length<=12/\2<=ai G/\ai G<=12/\Q (.bl true)
theorem aA6(T:Txt K mg t):aH P w K mg base aP 2 t.RF t.RG ["field","table"] (a6 (aA5 t)):=by
 refine bo T.Dk.F PL (λds Q h=>by obtain⟨m,G,rfl,hm,hR,g1,Al,w2,l8,q⟩:=h<;>rfl) λay A outer s H E hr=>⟨_,(aE (cq (PW.pt (yy (bJ oy (ae (eH (ib) (by rfl) T.g5 gM (ag (bv 1) av))) (ae ao) (bA _)) (xY (bJ wu (ae (eH (ib) (by rfl) T.g5 gM (ag (bv 1) av))) (ae ao) (bA _))))) (aC (aQ gw)) cI)
   (aE (bc (i:=2) PL.nd rfl (cJ rfl) (eH (ib) (by rfl) T.g5 gM (ag (bB (bv 1) (ae ao) (λ_ _=>rfl)) av)))
   (aE (cq (PW.pt (yy (bJ oy (bv 2) (ae ao) (bA _)) (yy (bJ wu (bv 2) (ae ao) (bA _)) (xY (jV (ae (eH (cA7 rfl) (by rfl) T.Ij EZ (ag (ae (di [("width",2)] ["row"] rfl (gg (bv 1)) (λ_ _ _ _=>(dQ (i:=1) (show(["width","row"]:List Str).Nodup by decide +kernel))) (λ_ _ _ _=>dB) (λ_ _ _ _=>(yx (jc (cN hr)) (ae (eH (ib) (by rfl) T.g5 gM (ag (bv 1) av))) (bv 0) (bA _))) rfl)) av)))))))) (aC (aQ gw)) cI)
   (aC (aQ (eH (yL rfl) (by rfl) T.zT yp (ag (ae (di [("field",0)] ["row"] rfl (gg (bv 1)) (λ_ _ _ _=>(dQ (i:=1) (show(["field","row"]:List Str).Nodup by decide +kernel))) (λ_ _ _ _=>dB) (by exact λ_ _ _ _=>(eH (yL rfl) (by rfl) T.zT yp (ag (ae (di [("field",0)] ["x"] rfl (gg (bv 1)) (λ_ _ _ _=>(dQ (i:=1) (show(["field","x"]:List Str).Nodup by decide +kernel))) (λ_ _ _ _=>dB) (λ_ _ _ _=>(iS (P:=P) (w:=w) (K:=K) (mg:=mg) (base:=base) (n:=1) (bv 0) (hr.mono (by decide)) (ag (bv 1) av))) rfl)) av))) rfl)) av))))))),λds Q h=>?_⟩
 obtain⟨m,G,rfl,hm,hR,g1,Al,w2,l8,q⟩:=h
 obtain⟨g,G',rfl⟩:∃g G',G=g::G':=by
  cases G with
  | nil=>exact absurd g1 (by decide)
  | cons g G'=>exact⟨g,G',rfl⟩
 refine aD λU hU=>?_
 walk_at"l3"
 rw[if_neg (by omega),if_neg (by rw[gH]at Al;omega)]
 refine hU _ ?_
 clear hU U
 refine aD λU hU=>?_
 walk_at"l3"
 refine⟨.lst false (aq g),u5 false (T:=g::G') (i:=0) (JR _),?_⟩
 show U [some (fD t.aY t.a9 m),some (.lst false (ax false (g::G'))),some (.int ((aq g).length:Nat))]
 have gl:(aq g).length=ai (g::G'):=by rw[eI];rfl
 rw[gl]
 generalize g::G'=G at hR g1 Al w2 l8 gl hU ⊢
 refine hU _ ?_
 clear hU U
 refine aD λU hU=>?_
 walk_at"l3"
 rw[if_neg (by omega),if_neg (by omega)]
 refine m9 G (λ_=>D.bl false) (λr aZ=>?_) (.inr λr _=>rfl) ?_
 ·have:=(hR r aZ).1
  walk_at"l3"
  rw[decide_eq_true (by omega)];rfl
 refine⟨G.map λ_=>false,by unfold oG;rw[bW];rfl,?_⟩
 rw[if_neg (by simp)]
 refine hU _ ?_
 clear hU U
 walk_at"l3"
 refine m9 G (λ_=>D.bl true) (λr aZ=>?_) (.inr λr _=>rfl) ?_
 ·obtain⟨r1,r2⟩:=hR r aZ
  walk_at"l3"
  refine vj r (λ_=>D.bl true) (λi hi=>?_) (.inr λ_ _=>rfl) ?_
  ·have:=r2 i hi
   walk_at"l3"
   refine UY T m (.inl ⟨_,rfl,?_⟩)
   rw[decide_eq_true (by omega),decide_eq_true (by omega)];rfl
  ·refine⟨r.map λ_=>true,by unfold oG;rw[bW];rfl,?_⟩
   simp
 ·refine⟨G.map λ_=>true,by unfold oG;rw[bW];rfl,?_⟩
  rw[show(G.map λ_=>true).all id=true by simp]
  exact q
noncomputable abbrev co3(t:cF):aW:=λds Q=>∃(m:Bool × Nat) (G:List (List Nat)),ds=[fD t.aY t.a9 m,.lst false (ax false G)]/\m∈aw/\G.length<=900/\RT (aa m) (ai G) G/\ai G<=900/\Q (.int (bh m G).length)
theorem cm1(T:Txt K mg t):aH P w K mg base aP 4 t.RH t.RI ["field","table"] (a6 (co3 t)):=by
 refine bo T.Dm.F cm5 (λds Q h=>by obtain⟨m,G,rfl,hm,hG,hR,hw,q⟩:=h<;>rfl) λay A outer s H E hr=>⟨_,(aC (aQ (eH (ib) (by rfl) T.g5 gM (ag (ae (bg T.xt (IM T) hr (ag (bv 0) (ag (bv 1) av)))) av)))),λds Q h=>?_⟩
 obtain⟨m,G,rfl,hm,hG,hR,hw,q⟩:=h
 walk_at"l3"
 refine⟨m,G,rfl,hm,hG,hR,hw,?_⟩
 dsimp only
 rw[kJ];exact q
noncomputable abbrev aO9:aW:=λds Q=>∃T:List (List Nat),ds=[.lst false (ax false T)]/\T.length<=1000/\(∀r∈T,r.length=ai T)/\ai T<=1000/\Q (.lst true (ax true (eK T)))
theorem UZ(T:Txt K mg t):aH P w K mg base aP 2 t.RJ t.RK ["table"] (a6 (aO9 )):=by
 refine bo T.Ir.F aO4 (λds Q h=>by obtain⟨G,rfl,hG,hr,hw,q⟩:=h<;>rfl) λay A outer s H E hr=>⟨_,(aC (aQ (di [("table",0)] ["j"] rfl (jX rfl T.ik (ag (ae (bg T.pQ (xx T) hr (ag (bv 0) av))) av)) (λ_ _ _ _=>(dQ (i:=1) (show(["table","j"]:List Str).Nodup by decide +kernel))) (λ_ _ _ _=>dB) (by exact λ_ _ _ _=>(di [("j",1)] ["row"] rfl (gg (bv 0)) (λ_ _ _ _=>(dQ (i:=1) (show(["j","row"]:List Str).Nodup by decide +kernel))) (λ_ _ _ _=>dB) (λ_ _ _ _=>(du (bB (bv 1) (bv 0) (λ_ _=>rfl)))) rfl)) rfl))),λds Q h=>?_⟩
 obtain⟨G,rfl,hG,hr,hw,q⟩:=h
 walk_at"l3"
 refine⟨G,rfl,hG,λr aZ=>by rw[hr r aZ];exact hw,?_⟩
 dsimp only
 refine⟨_,rfl,⟨by omega,by omega⟩,?_⟩
 refine xh (ai G) (λj=>D.lst true (aq (G.map λr=>r.getD j 0))) (λj hj=>?_) (.inr λj _=>ij _) ?_
 ·have hj:=bU.mp hj
  walk_at"l3"
  refine m9 G (λr=>D.int ((r.getD j 0:Nat):Int)) (λr aZ=>?_) (.inr λr _=>rfl) ?_
  ·walk_at"l3"
   have hl:=hr r aZ
   exact⟨.int (r.getD j 0:Nat),by rw[j6 (by omega) (by omega),iq],rfl,rfl⟩
  ·rw[cO,bW];rfl
 ·unfold eK ax at q
  rw[bW]at q
  exact q
noncomputable abbrev aL9:aW:=λds Q=>∃c:List Nat,ds=[.lst false (aq c)]/\c.length<=1000/\Q (.bl (nul c))
theorem aM0(T:Txt K mg t):aH P w K mg base aP 1 t.RL t.RM ["column"] (a6 (aL9 )):=by
 refine bo T.Tr.F aK9 (λds Q h=>by obtain⟨c,rfl,hc,q⟩:=h<;>rfl) λay A outer s H E hr=>⟨_,(aC (aQ (eH (yL rfl) (by rfl) T.zT yp (ag (ae (di [] ["x"] rfl (gg (bv 0)) (λ_ _ _ _=>(dQ (i:=0) (show(["x"]:List Str).Nodup by decide +kernel))) (λ_ _ _ _=>dB) (λ_ _ _ _=>(yx (fQ (cN hr)) (bv 0) (ae ao) (bA _))) rfl)) av)))),λds Q h=>?_⟩
 obtain⟨c,rfl,hc,q⟩:=h
 walk_at"l3"
 refine vj c (λ(x:Nat)=>D.bl (x==0)) (λx hx=>?_) (.inr λ_ _=>rfl) ?_
 ·walk_at"l3"
  congr 1
  exact propext (by omega)
 dsimp only
 refine⟨c.map (·==0),by unfold oG;rw[bW];rfl,?_⟩
 rw[nB]
 exact q
noncomputable abbrev U0(K:Frag):aW:=λds Q=>∃(C:Addr) (p a b:Nat),ds=[uY C p,.int a,.int b]/\cE K C/\bf K C "products"/\p∈gW/\a<aa (true,p)/\b<aa (true,p)/\Q (.int (gm (true,p) a b:Nat))
theorem aA7(T:Txt K mg t):aH P w K mg base aP 1 t.HM t.RN ["self","a","b"] (a6 (U0 K)):=by
 refine bo T.TZ.F az7 (λds Q h=>by obtain⟨C,p,a,b,rfl,hC,hn,hp,ha,hb,q⟩:=h<;>rfl) λay A outer s H E hr=>⟨_,(aC (aQ (du (bB (bB (eB (K:=K) (bv 0)) (bv 1) (λ_ _=>rfl)) (bv 2) (λ_ _=>rfl))))),λds Q h=>?_⟩
 obtain⟨C,p,a,b,rfl,hC,hn,hp,ha,hb,q⟩:=h
 walk_at"l3"
 refine⟨C,_,_,_,rfl,hC,hn,rfl,?_⟩
 exact⟨_,Cy hp ha,_,Cw hp ha hb,rfl,q⟩
noncomputable abbrev U1(K:Frag):aW:=λds Q=>∃(C:Addr) (p:Nat) (a b:Int),ds=[uX C p,.int a,.int b]/\cE K C/\bf K C "prime"/\0<p/\IntMulOk a b/\Q (.int (a*b%p))
theorem av1(T:Txt K mg t):aH P w K mg base aP 1 t.HN t.RO ["self","a","b"] (a6 (U1 K)):=by
 refine bo T.T1.F au6 (λds Q h=>by obtain⟨C,p,a,b,rfl,hC,hn,hp,hm,q⟩:=h<;>rfl) λay A outer s H E hr=>⟨_,(aC (aQ (aB cX (ae (aB gU (bv 1) (bv 2))) (eB (K:=K) (bv 0))))),λds Q h=>?_⟩
 obtain⟨C,p,a,b,rfl,hC,hn,hp,hm,q⟩:=h
 walk_at"l3"
 exact⟨hm,C,_,_,.int p,rfl,hC,hn,rfl,by omega,q⟩
theorem cj3(T:Txt K mg t){m:Bool × Nat}(hm:m∈aw):∃C ns xs sp,fD t.aY t.a9 m=.obj C ns xs/\iO P w K mg base 1 "times" C sp/\("times":Str) ∉ ns/\∀(a b:Nat) (Q:D->Prop),a<aa m->b<aa m->Q (.int (gm m a b:Nat))->sp [.obj C ns xs,.int a,.int b] Q:=by
 have hF:=bZ hm
 obtain⟨k,n⟩:=m
 cases k with
 | true=>exact⟨_,_,_,U0 K,rfl,⟨T.fo,_,_,_,T.aA2,aA7 T,T.TZ.b⟩,by decide,λa b Q ha hb q=>⟨_,n,a,b,rfl,T.fo,T.z7,wU hm,ha,hb,q⟩⟩
 | false =>
  have sP:n<=64:=hF.hi
  refine⟨_,_,_,U1 K,rfl,⟨T.fL,_,_,_,T.au9,av1 T,T.T1.b⟩,by decide,λa b Q ha hb q=>?_⟩
  have B0:a<n:=ha
  have rP:b<n:=hb
  refine⟨_,n,a,b,rfl,T.fL,T.xv,by omega,jn.ok (.inr ⟨by omega,by omega⟩),?_⟩
  have e:((gm (false,n) a b:Nat):Int)=(a:Int)*b%n:=by
   show((a*b%n:Nat):Int)=_
   rw[ql,vI]
  rw[<-e];exact q
noncomputable abbrev ck2(t:cF):aW:=λds Q=>∃(m:Bool × Nat) (c:List Nat) (os:List (List Nat)),ds=[fD t.aY t.a9 m,.lst false (aq c),.lst false (ax false os)]/\m∈aw/\nul c=false/\c.length<=64/\AllLt (aa m) c/\RT (aa m) c.length os/\os.length<=1000/\Q (.lst true (ax true (gB m c os)))
theorem cj1(T:Txt K mg t):aH P w K mg base aP 3 t.RP t.RQ ["field","column","others"] (a6 (ck2 t)):=by
 refine bo T.Ts.F xk (λds Q h=>by obtain⟨m,c,os,rfl,hm,hn,hc,IY,lZ,hol,q⟩:=h<;>rfl) λay A outer s H E hr=>⟨_,(aE (bc (i:=3) xk.nd rfl (aA rfl) (du (bB (ae (di [] ["k","x"] rfl (wK rfl T.xq (ag (bv 1) av)) (λ_ _ _ _=>(zJ (i1:=0) (i2:=1) (show(["k","x"]:List Str).Nodup by decide +kernel))) (λ_ _ _ _=>(yG (bJ (jc (cN hr)) (bv 1) (ae ao) (bA _)))) (λ_ _ _ _=>(du (bv 0))) rfl)) (ae ao) (λ_ _=>rfl))))
   (aE (bc (i:=4) xk.nd rfl (aA rfl) (iS (P:=P) (w:=w) (K:=K) (mg:=mg) (base:=base) (n:=2) (bv 0) (hr.mono (by decide)) (ag (ae ao) (ag (bB (bv 1) (bv 3) (λ_ _=>rfl)) av))))
   (aE (bc (i:=5) xk.nd rfl (aA rfl) (eD dv))
   (aE (iK f7 rfl (Fw (du (bv 2))) (mI (i:=6) xk.nd rfl (aA rfl))
    (aE (bc (i:=7) xk.nd rfl (aA rfl) (iS (P:=P) (w:=w) (K:=K) (mg:=mg) (base:=base) (n:=1) (bv 0) (hr.mono (by decide)) (ag (bv 6) (ag (ae (iS (P:=P) (w:=w) (K:=K) (mg:=mg) (base:=base) (n:=1) (bv 0) (hr.mono (by decide)) (ag (bB (bv 6) (bv 3) (λ_ _=>rfl)) (ag (bv 4) av)))) (ag (bv 1) av)))))
    (aC (wD (i:=5) rfl (by first | exact aA rfl | exact cJ (aA rfl)) (aB dw (ae (yU (bv 7) yO (yP (bv 3)))) (ae (yU (bv 7) (yP (ae (aB dw (bv 3) (ae ao)))) yO)))))))
   (aC (aQ (em 5))))))),λds Q h=>?_⟩
 obtain⟨m,c,os,rfl,hm,hn,hc,IY,lZ,hol,q⟩:=h
 have cT:=(bZ hm).lo
 obtain⟨pl,pn⟩:=Hb hn
 have cp:=IY.getD (show 0<aa m by omega) (aX c)
 have cx:∃x∈c,x≠0:=⟨_,dH pl 0,pn⟩
 refine aD λU hU=>?_
 walk_at"l3"
 refine zw (aL c.length) (λ(i:Nat)=>D.tup [.int (i:Int),.int ((c.getD i 0:Nat):Int)]) (λ(i:Nat)=>D.int (i:Int)) (λi=>c.getD i 0 != 0) (NN c) (λa b h=>by injection h with h;simp at h;omega) (λi hi=>?_) (.inr λ_ _ _=>rfl) (by rw[bV,sL];omega) ?_
 ·walk_at"l3"
  refine⟨?_,λ_=>trivial⟩
  by_cases h0:c.getD i 0=0
  ·rw[h0];rfl
  ·rw[decide_eq_false (by omega),bne_iff_ne.mpr h0];rfl
 dsimp only
 refine⟨.int (aX c:Nat),L3.B7 (k:=0) (by rw[cu,NO cx];rfl),rfl,hU _ ?_⟩
 clear hU U
 refine aD λU hU=>?_
 walk_at"l3"
 refine⟨_,_,_,_,sC _ _ m,IL T m,GA m _ (by decide),.int (c.getD (aX c) 0:Nat),by rw[j6 (by omega) (by omega),iq],m,1,c.getD (aX c) 0,by rw[sC];rfl,hm,cT,cp,λz=>absurd z pn,λ_ iv Am zF=>?_⟩
 have ei:j9 m (c.getD (aX c) 0)=iv:=wX hm Am zF
 refine⟨rfl,hU _ ?_⟩
 clear hU U
 refine aD λU hU=>?_
 walk_at"l3"
 refine⟨by decide,hU _ ?_⟩
 clear hU U
 refine aD λU hU=>?_
 walk_at"l3"
 refine gQ.mk (λi δ=>∃o6 o7,δ=[some (fD t.aY t.a9 m),some (D.lst false (aq c)),some (D.lst false (ax false os)),some (D.int (aX c)),some (D.int iv),some (D.lst true (ax true (gB m c (os.take i)))),o6,o7]) ⟨_,_,rfl⟩ ?_ ?_
 ·rintro i d δ hd ⟨o6,o7,rfl⟩
  obtain⟨hi,rfl⟩:=b51 hd
  clear hd hU
  obtain⟨ol,oa⟩:=lZ _ (dE hi)
  have op:=oa.getD (show 0<aa m by omega) (aX c)
  obtain⟨C,ns,xs,sp,e1,e2,e3,e4⟩:=UD (P:=P) (w:=w) (base:=base) T hm
  refine aD λU hU=>?_
  walk_at"l3"
  obtain⟨C1,n1,x1,sp1,g1,g2,g3,g4⟩:=cj3 (P:=P) (w:=w) (base:=base) T hm
  refine⟨C,ns,xs,sp,e1,e2,e3,C1,n1,x1,sp1,g1,g2,g3,.int (os[i].getD (aX c) 0:Nat),by rw[j6 (by omega) (by omega),iq],g4 _ iv _ op Am ⟨rfl,e4 os[i] c (gm m (os[i].getD (aX c) 0) iv) _ (bC hm _ _) IY (by omega) ⟨rfl,hU _ ?_⟩⟩⟩
  clear hU
  have ep:gB m c (os.take (i+1))=gB m c (os.take i)++[(dm (λx y=>br m x (gm m (gm m (os[i].getD (aX c) 0) iv) y)) os[i] c).take (aX c)++(dm (λx y=>br m x (gm m (gm m (os[i].getD (aX c) 0) iv) y)) os[i] c).drop (aX c+1)]:=by
   unfold gB
   rw[qh,aM hi,Jw,fv,da,jH,ei]
  rw[ep]
  have ll:(dm (λx y=>br m x (gm m (gm m (os[i].getD (aX c) 0) iv) y)) os[i] c).length<=64:=by rw[jJ];omega
  generalize dm (λx y=>br m x (gm m (gm m (os[i].getD (aX c) 0) iv) y)) os[i] c=lf at ll ⊢
  have OD:(gB m c (os.take i)).length<=1000:=by rw[He,jG];omega
  walk_at"l3"
  rw[MC,show((aX c:Int)+1)=((aX c+1:Nat):Int) by omega,Gd]
  exact⟨⟨_,rfl⟩,by rw[jG,jI];omega,by omega,_,_,zu true _ [lf.take (aX c)++lf.drop (aX c+1)],rfl,rfl⟩
 ·rintro δ ⟨o6,o7,rfl⟩
  refine hU _ ?_
  walk_at"l3"
  rw[vF]
  exact q
noncomputable def fM(o:Bool)(l:List Cs):List D:=l.map λs=>.tup [.lst o (aq s.1),.lst o (ax o s.2)]
theorem U2(o:Bool)(l:List Cs):(fM o l).map D.sh=fM false l:=by
 unfold fM
 rw[bW]
 refine vG λs _=>?_
 show(D.tup [.lst o (aq s.1),.lst o (ax o s.2)]).sh=_
 rw[kC,da,da,jH,mX,cU,fC]
theorem cl4(l:List Cs):(fM false l).all D.pl=true:=by
 rw[dy]
 intro d hd
 obtain⟨s,_,rfl⟩:=bw.mp hd
 show(D.tup [.lst false (aq s.1),.lst false (ax false s.2)]).pl=true
 rw[jU,de,de,fB,fB,kI,pH];rfl
theorem b91(o:Bool)(a b:List Cs):fM o a++fM o b=fM o (a++b):=by unfold fM;rw[fv]
theorem cl1{o:Bool}{l:List Cs}{i:Nat}{d:D}(hd:(fM o l)[i]?=some d):∃hi:i<l.length,d=.tup [.lst o (aq l[i].1),.lst o (ax o l[i].2)]:=by
 unfold fM at hd
 rw[cu]at hd
 by_cases hi:i<l.length
 ·rw[aM hi]at hd
  exact⟨hi,(c9 hd).symm⟩
 ·rw[gn (by omega)]at hd;cases hd
theorem b62(o:Bool)(l:List Cs):eA 6 (.lst o (fM o l))=true:=by
 show(fM o l).all (eA 5)=true
 rw[dy]
 intro d hd
 obtain⟨s,_,rfl⟩:=bw.mp hd
 show([D.lst o (aq s.1),.lst o (ax o s.2)]).all (eA 4)=true
 rw[de,de,zk 3 o s.1,NK 2 o o s.2];rfl
theorem bU6{m:Bool × Nat}{c:List Nat}{os:List (List Nat)}{N:Nat}(h:∀o∈os,o.length<=N):∀x∈gB m c os,x.length<=N:=λx hx=>by
 obtain⟨o,ho,rfl⟩:=bw.mp hx
 have:=h o ho
 rw[eO,jG,jI,jJ]
 omega
noncomputable def kj(l:List Cs):Nat:=(l.map λs=>2 ^ s.2.length).sum
theorem IZ(a b:List Cs):kj (a++b)=kj a+kj b:=by unfold kj;rw[fv,List.sum_append]
theorem U3:∀l:List Cs,(dM l).length<=kj l
 | []=>jE _
 | s::l=>by
  have ih:=U3 l
  have h1:=Nat.lt_two_pow_self (n:=s.2.length)
  show(fE s++dM l).length<=2 ^ s.2.length+kj l
  rw[eO,show(fE s).length=s.2.length by unfold fE;rw[bq,bV]]
  omega
theorem U4(m:Bool × Nat)(w:Nat)(s:Cs):∀i,i<=s.2.length->kj (((aL i).map λi=>(s,i)).map (gC m w))+2 ^ (s.2.length-i)=2 ^ s.2.length
 | 0,_=>D2 _
 | i+1,h=>by
  have ih:=U4 m w s i (by omega)
  rw[JN,fv,fv,IZ]
  have e:kj (([i].map λi=>(s,i)).map (gC m w))=2 ^ (s.2.length-(i+1)):=by
   show 2 ^ (gB m _ (s.2.drop (i+1))).length+0=_
   rw[He,jI];rfl
  rw[e]
  have:2 ^ (s.2.length-i)=2 ^ (s.2.length-(i+1))*2:=by rw[<-qa];congr 1;omega
  omega
theorem U5(m:Bool × Nat)(w:Nat):∀l:List Cs,kj ((dM l).map (gC m w))<=kj l
 | []=>bE _
 | s::l=>by
  have ih:=U5 m w l
  have h1:=U4 m w s s.2.length (bE _)
  show kj ((fE s++dM l).map (gC m w))<=2 ^ s.2.length+kj l
  rw[fv,IZ]
  exact Nat.add_le_add (by rw[<-h1];exact Nat.le_add_right ..) ih
noncomputable def An:Option (List Nat)->D
 | some l=>.lst true (aq l)
 | none=>.au
noncomputable abbrev aI0(t:cF):aW:=λds Q=>∃(m:Bool × Nat) (G:List (List Nat)),ds=[fD t.aY t.a9 m,.lst false (ax false G)]/\m∈aw/\G.length<=64/\RT (aa m) (ai G) G/\0<ai G/\ai G<=12/\Q (An (fk m G))
theorem U6(T:Txt K mg t):aH P w K mg base aP 4 t.RU t.RV ["field","table"] (a6 (aI0 t)):=by
 refine bo T.zY.F sN (λds Q h=>by obtain⟨m,G,rfl,hm,hG,hR,kN,hw,q⟩:=h<;>rfl) λay A outer s H E hr=>⟨_,(aE (bc (i:=2) sN.nd rfl (aA rfl) (bg T.pQ (xx T) hr (ag (bv 1) av)))
   (aE (bc (i:=3) sN.nd rfl (aA rfl) (eD (cW (yz (cW (eD dv) (cW (bg T.Ir (UZ T) hr (ag (bv 1) av)) dv))) dv)))
   (aE (yB f7 (bJ (jc (cN hr)) (bv 3) (ae (eD dv)) (bA _))
    (aE (bc (i:=4) sN.nd rfl (aA rfl) (eD dv))
    (BN 3 (aE (iK f7 rfl (Fw (du (bv 3))) (mQ (i1:=5) (i2:=6) rfl sN.nd rfl (aA rfl) rfl (aA rfl))
     (aC (iK f7 rfl (wK rfl T.xq (ag (bv 6) av)) (mQ (i1:=7) (i2:=8) rfl sN.nd rfl (aA rfl) rfl (aA rfl))
      (aE (bc (i:=9) sN.nd rfl (aA rfl) (aB dw (bv 5) (ae (eD (cW (aB dw (ae (aB fi (bv 2) (ae (eH (ib) (by rfl) T.g5 gM (ag (bv 6) av))))) (bv 7)) dv)))))
      (aE (cq (jV (ae (bg T.Tr (aM0 T) hr (ag (bv 8) av)))) (aC (aQ (em 9))) cI)
      (aC (wD (i:=4) rfl (by first | exact aA rfl | exact cJ (aA rfl)) (yz (cW (em 9) (cW (bg T.Ts (cj1 T) hr (ag (bv 0) (ag (bv 8) (ag (ae (yU (bv 6) (yP (ae (aB dw (bv 7) (ae ao)))) yO)) av)))) dv))))))))))
    (aC (bc (i:=3) sN.nd rfl (aA rfl) (em 4)))))))
   (aC (aQ yw))))),λds Q h=>?_⟩
 obtain⟨m,G,rfl,hm,hG,hR,kN,hw,q⟩:=h
 have cT:=(bZ hm).lo
 refine aD λU hU=>?_
 walk_at"l3"
 refine⟨G,rfl,by omega,λr aZ=>by rw[(hR r aZ).1];omega,hU _ ?_⟩
 clear hU U
 refine aD λU hU=>?_
 walk_at"l3"
 refine⟨by decide,G,rfl,by omega,λr aZ=>(hR r aZ).1,by omega,by decide,by decide,hU _ ?_⟩
 clear hU U
 have Ls:=Lv.start hm kN hR
 refine aD λU hU=>?_
 walk_at"l3"
 refine⟨λn δ=>∃(l:List Cs) (k:Nat) (o4 o5 o6 o7 o8 o9:Option D),δ=[some (fD t.aY t.a9 m),some (D.lst false (ax false G)),some (D.int (ai G)),some (D.lst true (fM true l)),o4,o5,o6,o7,o8,o9]/\Lv m (dD G) (ai G) k l/\k+n=ai G+1/\va m (ai G) n l=fk m G/\kj l<=4096/\∀s∈l,∀r∈s.2,r.length<=64,⟨ai G+1,[([],eK G)],0,_,_,_,_,_,_,rfl,Ls,by omega,rfl,?_,λs hs r aZ=>?_⟩,?_⟩
 ·show 2 ^ (eK G).length+0<=4096
  rw[(GZ (by omega) kN hR).1]
  exact xG (by decide) hw
 ·rw[fc.mp hs]at aZ
  have:=((GZ (by omega) kN hR).2.2 r aZ).1
  omega
 rintro n δ ⟨l,k,o4,o5,o6,o7,o8,o9,rfl,L,hk,I0,Ja,kO⟩
 walk_at"l3"
 refine⟨by decide,⟨b62 true l,rfl⟩,?_⟩
 by_cases l0:l=[]
 ·subst l0
  rw[show bH (D.lst true (fM true [])) (D.lst true [])=true from rfl,if_neg (by decide)]
  refine hU _ ?_
  walk_at"l3"
  have e0:fk m G=none:=by
   rw[<-I0]
   cases n with
   | zero=>rfl
   | succ n=>rfl
  rw[e0]at q
  exact q
 have d0:bH (D.lst true (fM true l)) (D.lst true [])=false:=by
  cases l with
  | nil=>exact absurd rfl l0
  | cons s l=>rfl
 rw[d0,if_pos (by decide)]
 have Jb:∀s∈l,eM (ai G) s.1/\s.2.length<=12:=λs hs=>by
  have g:=(L.gs s hs).1
  have gl:=g.le
  exact⟨⟨g.inc,λx hx=>by have:=g.off x hx;omega⟩,by omega⟩
 obtain⟨n,rfl⟩:∃n',n=n'+1:=by
  cases n with
  | succ n=>exact⟨n,rfl⟩
  | zero =>
   exfalso
   cases l with
   | nil=>exact l0 rfl
   | cons s l =>
    have h1:=(Jb s (gj ..)).1.len
    have h2:=(L.gs s (gj ..)).2
    omega
 clear hU
 have do2:∀a,(dM (l.take a)).length<=4096:=λa=>by
  have h1:=U3 (l.take a)
  have h2:=IZ (l.take a) (l.drop a)
  rw[D9]at h2
  omega
 refine aD λU hU=>?_
 walk_at"l3"
 refine⟨by decide,hU _ ?_⟩
 clear hU
 refine⟨_,rfl,?_⟩
 rw[cU,U2]
 simp only[kr,kq]
 refine aD λU hU=>?_
 walk_at"l3"
 refine⟨cl4 l,?_⟩
 rw[U2]
 refine gQ.mk (λa δ=>(∀z∈dM (l.take a),pK z=false)/\∃o5 o6 o7 o8 o9,δ=[some (fD t.aY t.a9 m),some (D.lst false (ax false G)),some (D.int (ai G)),some (D.lst false (fM false l)),some (D.lst true (fM true ((dM (l.take a)).map (gC m (ai G))))),o5,o6,o7,o8,o9]) ⟨λz hz=>absurd hz gJ,_,_,_,_,_,rfl⟩ ?_ ?_
 ·rintro a d δ hd ⟨sF,o5,o6,o7,o8,o9,rfl⟩
  obtain⟨ha,rfl⟩:=cl1 hd
  clear hd hU
  have hs:=dE ha
  obtain⟨gs,gk⟩:=L.gs _ hs
  obtain⟨hh,Jc⟩:=gs.rt
  have g6:=(Jb _ hs).2
  have et:dM (l.take (a+1))=dM (l.take a)++fE l[a]:=by
   unfold dM
   rw[qh,aM ha,Jw,V1,List.flatMap_cons,List.flatMap_nil,fu]
  rw[et]
  have U7:=do2 (a+1)
  rw[et,eO]at U7
  generalize hS:l[a]=s0 at hs gs gk Jc g6 et U7 ⊢
  have l1:(fE s0).length=s0.2.length:=by unfold fE;rw[bq,bV]
  walk_at"l3"
  refine gQ.mk (λi δ=>(∀z∈(fE s0).take i,pK z=false)/\∃o7 o8 o9,δ=[some (fD t.aY t.a9 m),some (D.lst false (ax false G)),some (D.int (ai G)),some (D.lst false (fM false l)),some (D.lst true (fM true ((dM (l.take a)++(fE s0).take i).map (gC m (ai G))))),some (D.lst false (aq s0.1)),some (D.lst false (ax false s0.2)),o7,o8,o9]) ⟨λz hz=>absurd hz gJ,_,_,_,by rw[List.take_zero,fu]⟩ ?_ ?_
  ·rintro i d δ hd ⟨Ao,o7,o8,o9,rfl⟩
   obtain⟨hi,rfl⟩:=NM hd
   clear hd
   obtain⟨cl,ca⟩:=Jc _ (dE hi)
   have gc:s0.2.getD i []=s0.2[i]:=by rw[aN,aM hi];rfl
   have gle:=gs.le
   have ei:(fE s0).take (i+1)=(fE s0).take i++[(s0,i)]:=by
    rw[qh]
    congr 1
    unfold fE
    rw[cu,kR hi];rfl
   have hh6:hh<=64:=by have:=kO _ hs _ (dE hi);omega
   have il1:=(Jb _ hs).1.len
   simp only[iM,kr,kq]
   refine aD λU hU=>?_
   walk_at"l3"
   have eb:aq s0.1++[D.int ((ai G:Int)-(s0.2.length:Int)+(i:Int))]=aq (kb (ai G) (s0,i)):=by
    unfold kb
    rw[cO,cO,fv]
    show _=_++[D.int ((ai G-s0.2.length+i:Nat):Int)]
    rw[show(ai G:Int)-(s0.2.length:Int)+(i:Int)=((ai G-s0.2.length+i:Nat):Int) by omega]
   rw[eb]
   refine⟨by decide,by omega,hU _ ?_⟩
   clear hU
   refine aD λU hU=>?_
   walk_at"l3"
   refine⟨s0.2[i],rfl,by omega,nul s0.2[i],rfl,?_⟩
   cases hz:nul s0.2[i]with
   | true =>
    rw[if_pos rfl]
    have ef:fk m G=some (kb (ai G) (s0,i)):=by
     rw[<-I0,va,if_neg l0]
     have:(dM l).find? pK=some (s0,i):=by
      refine VU.mpr ⟨by show nul (s0.2.getD i [])=true;rw[gc];exact hz,dM (l.take a)++(fE s0).take i,(fE s0).drop (i+1)++dM (l.drop (a+1)),?_,λz zD=>?_⟩
      ·have e1:dM l=dM (l.take (a+1))++dM (l.drop (a+1)):=by
        conv=>lhs;rw[<-D9 (a+1) l]
        unfold dM
        rw[V1]
       have e2:fE s0=(fE s0).take i++(s0,i)::(fE s0).drop (i+1):=by
        conv=>lhs;rw[<-D9 (i+1) (fE s0),ei,eC]
        rfl
       rw[e1,et]
       conv=>lhs;rw[e2]
       simp only[eC,qk]
      ·have:=(bY.mp zD).elim (sF z) (Ao z)
       rw[this];rfl
     rw[this];rfl
    rw[ef]at q
    exact q
   | false =>
    rw[if_neg (by decide)]
    refine hU _ ?_
    clear hU
    walk_at"l3"
    rw[show((i:Int)+1)=((i+1:Nat):Int) by omega,Gd,ei]
    refine⟨⟨_,rfl⟩,m,s0.2[i],s0.2.drop (i+1),rfl,hm,hz,by omega,ca,λr aZ=>by rw[cl];exact Jc r (qi aZ),by rw[jI];omega,by rw[eZ,mZ];rfl,by decide,?_,λz zD=>?_,_,_,_,?_,rfl,rfl,rfl⟩
    ·unfold fM
     rw[bq,bq,eO,jG]
     omega
    ·rcases bY.mp zD with y | y
     ·exact Ao z y
     ·rw[fc.mp y]
      show nul (s0.2.getD i [])=false
      rw[gc];exact hz
    ·rw[<-eC,fv (l₁:=dM (l.take a)++(fE s0).take i),<- b91]
     congr 1
     show _=[D.tup [.lst true (aq (gC m (ai G) (s0,i)).1),.lst true (ax true (gC m (ai G) (s0,i)).2)]]
     show _=[D.tup [.lst true (aq (kb (ai G) (s0,i))),.lst true (ax true (gB m (s0.2.getD i []) (s0.2.drop (i+1))))]]
     rw[gc]
  ·rintro δ ⟨Ao,o7,o8,o9,rfl⟩
   rw[show(fU (ax false s0.2)).length=(fE s0).length by rw[uQ,kJ,l1],vF]at Ao ⊢
   exact⟨λz hz=>(bY.mp hz).elim (sF z) (Ao z),_,_,_,_,_,rfl⟩
 ·rintro δ ⟨sF,o5,o6,o7,o8,o9,rfl⟩
  refine hU _ ?_
  clear hU
  rw[show(fM false l).length=l.length by unfold fM;rw[bq],vF]at sF ⊢
  walk_at"l3"
  have hf:(dM l).find? pK=none:=JM.mpr λz hz=>by rw[sF z hz];decide
  refine⟨n,by omega,_,k+1,_,_,_,_,_,_,⟨rfl,rfl,rfl,rfl,rfl,rfl,rfl⟩,L.next hm (Hh hm hR) sF,by omega,?_,?_,λs hs r aZ=>?_⟩
  ·rw[<-I0,va,if_neg l0,hf]
  ·exact fG (U5 m (ai G) l) Ja
  ·obtain⟨z,hz,rfl⟩:=bw.mp hs
   exact bU6 (λo ho=>kO _ (wY.mp hz).1 o (qi ho)) r aZ
noncomputable abbrev bt7(t:cF):List D->List Str->List D->Prop:=λds ns xs=>∃(m:Bool × Nat) (G:List (List Nat)) (Fb:List Nat),ds=[fD t.aY t.a9 m,.lst false (ax false G)]/\eR m G/\1<=G.length/\G.length<=12/\2<=ai G/\ai G<=12/\fk m G=some Fb/\ns=(["field","length","check_rows","word_rows","message_places","size","bound"]:List Str)/\xs=m6 t.aY t.a9 true m G++[.int (Fb.length:Nat)]
theorem U8(T:Txt K mg t)(hB:Bm mg base):aH P w K mg base aP 5 t.HP t.RW ["self","field","table"] (zH [t.jC,t.jD] t.fK (bt7 t)):=by
 refine T.ID.F.ok az8 (λvs H Q E h=>?_) λay A outer s H vs Q E hr h=>?_
 ·obtain⟨F,H0,x,dx,bK,ds,ns,xs,rfl,_,_,_,_,_,r,⟨m,G,Fb,rfl,_⟩,_⟩:=h
  have:=r.length
  simp at this
  simp[this]
 obtain⟨F,H0,x,dx,bK,ds,ns,xs,rfl,tb,e0,gy,s0,hx,r,⟨m,G,Fb,rfl,hc,g1,Al,w2,w6,hF,rfl,rfl⟩,q⟩:=h
 have hm:=hc.hm
 have hG:=hc.rt
 obtain⟨vf,DE,B1,B2,rfl,Jd,rf,r2⟩:=R.cH r
 obtain⟨rfl,rfl⟩:=s8.mp Jd.symm
 obtain⟨vc,Fl,B1,B2,rfl,do4,rc,r3⟩:=R.cH r2
 obtain⟨rfl,rfl⟩:=s8.mp do4.symm
 cases r3
 refine⟨_,eV (tM (Bd (Bb (jq ((aA6 T).mono (by decide)) hr rfl T.Dk.g T.Dk.F.kp T.Dk.b .nil cL (bN (pv 1) (bN (pv 2) eX))))) (jl tN) qt)
  (eV (tM (bJ (fQ (cN hr)) (ae (t9 ((cm1 T).mono (by decide)) hr rfl T.Dm.g T.Dm.F.kp T.Dm.b cL (ag (bv 1) (ag (bv 2) av)))) (ae (eH (ib) (by rfl) T.g5 gM (ag (bB (bv 2) (ae ao) (λ_ _=>rfl)) av))) (bA _)) (jl tN) qt)
  (eV (tL (Ho (E:=E0) T.Im ((IS T).mono (by decide)) hr T.Dx.b cL rfl T.Ii (bN (pv 0) (bN (pv 1) (bN (pv 2) eX)))))
  (jl (g9 (pv 0) (eH (ib) (by rfl) T.g5 gM (ag (ae (t9 ((U6 T).mono (by decide)) hr rfl T.zY.g T.zY.F.kp T.zY.b cL (ag (bv 1) (ag (bv 2) av)))) av)) rfl)))),?_⟩
 try dsimp only[jx,jy]
 refine⟨_,rfl,_,rfl,F,[fD t.aY t.a9 m,.lst false (ax false G)],λd=>d=.bl true,e0.trans s0,R.cons (A:=[]) (rf.shared (L3.af.refl _) s0) (rc.shared (L3.af.refl _) s0),⟨m,G,rfl,hm,hG,g1,Al,w2,by omega,rfl⟩,λd v F1 H1 A1 hd eT Ah Ai UQ r1 UR IT=>?_⟩
 subst hd
 cases r1
 refine⟨true,rfl,?_⟩
 refine iY ?_
 have s1:=s0.trans eT
 have bO:=eT.get _ _ hx rfl
 have nr:(bh m G).length≠ai G:=λz=>by
  obtain⟨⟨Hd,I⟩,iR⟩:=hc.red
  have:=I.G0 hm iR
  have h0:=hc.sz
  unfold b8 at h0
  omega
 refine⟨⟨H1,F⟩,F,[none,some (fD t.aY t.a9 m),some (.lst false (ax false G))],[],λb _=>b=false,ak.self (e0.trans s1) (.eo (A:=[]) (C:=[]) (rf.shared (L3.af.refl _) s1) (.eo (A:=[]) (C:=[]) (rc.shared (L3.af.refl _) s1) .nil)),?_,λb ah F2 H2 hb hf2 dA c2=>?_⟩
 ·walk_at"l3"
  refine⟨m,G,rfl,hm,by omega,hG,by omega,?_⟩
  obtain⟨g,G',rfl⟩:∃g G',G=g::G':=by
   cases G with
   | nil=>exact absurd g1 (by decide)
   | cons g G'=>exact⟨g,G',rfl⟩
  refine⟨.lst false (aq g),u5 false (T:=g::G') (i:=0) (JR _),oR 5 ((bh m (g::G')).length:Nat),?_⟩
  rw[j3,eI]
  exact decide_eq_false λz=>nr (Int.ofNat.inj z)
 subst hb
 refine iY ?_
 have s2:=s1.trans dA
 have dZ:=dA.get _ _ bO rfl
 refine⟨.ref x,rfl,vf,rfl,vc,rfl,F,H0,x,dx,t.fK,vf,vc,m,G,[],rfl,e0,gy,s2,dZ,.nil,⟨T.vo,T.Ub,T.Uc,T.Ua,T.Ue,T.de1,T.Ud⟩,rf,rc,hm,hG,by omega,by omega,λH' p1 p2 p3 B1 B2 B3 sx dr k1 k2 k3 nd fr=>?_⟩
 have so:=bL.of0 gy s2 sx
 refine⟨⟨H',F⟩,F,[none,some (fD t.aY t.a9 m),some (.lst false (ax false G))],[],λd _=>d=.int (Fb.length:Nat),ak.self (e0.trans so) (.eo (A:=[]) (C:=[]) (rf.shared (L3.af.refl _) so) (.eo (A:=[]) (C:=[]) (rc.shared (L3.af.refl _) so) .nil)),?_,λd ah v F3 H3 hd Ag gD c3=>?_⟩
 ·walk_at"l3"
  refine⟨m,G,rfl,hm,by omega,hG,by omega,w6,?_⟩
  rw[hF]
  show(((aq Fb).length:Nat):Int)=_
  rw[eI]
 subst hd
 obtain⟨A3,C3,r3,_,nd3,_⟩:=c3.own
 obtain rfl:v=.int (Fb.length:Nat):=by cases r3;rfl
 have fF:=gD.get _ _ dr rfl
 refine⟨.ref x,rfl,x,t.fK,dx,_,rfl,fF,T.vo,T.T9,by show 6<1000;decide,?_⟩
 have mv:∀{ds:List D} {vs:List V} {A':List Addr} {Ee:List (Str × V)},R (λ_=>none) H' ds vs A'->ds.all D.fr=true->R (λ_=>none) (upd H3 x (.ins t.fK dx Ee)) ds vs A':=λr hd=>(r.grow (L3.af.refl _) gD λa ha=>(r.lists a ha).2).mU fF hd
 have fR:∀X:List (List Nat),[D.lst true (ax true X)].all D.fr=true:=λX=>by rw[de,eZ,mZ];rfl
 have fN:∀X:List Nat,[D.lst true (aq X)].all D.fr=true:=λX=>by rw[de,ij];rfl
 have z:=((((eT.trans dA).x (x:=x)).trans sx).trans (gD.x (x:=x))).trans (bL.upd (C:=x) (dx:=dx) fF rfl (o':=.ins t.fK dx (b9 "bound" (.int (Fb.length:Nat)) ([]++m5.zip [vf,.int (ai G:Nat),.ref p1,.ref p2,.ref p3,.int ((b8 m G).length:Nat)]))))
 refine q _ [vf,.int (ai G:Nat),.ref p1,.ref p2,.ref p3,.int ((b8 m G).length:Nat),.int (Fb.length:Nat)] (B1++(B2++(B3++[]))) z (by rw[bI];rfl) rfl ?_ ?_ ?_
 ·have e:=e0.trans s0
  have up:∀{Aj:Hp} {ds:List D} {vs:List V} {B:List Addr},R (λ_=>none) Aj ds vs B->(∀a∈B,H2 a=none)->R F Aj ds vs B:=λr h=>r.keep (L3.af.of λb o e=>by cases e) (gb.same (L3.af.refl _)) gO.nil (λa ha=>e.free ((eT.trans dA).free (h a ha))) (by simp)
  exact R.cons (A:=[]) (rf.shared (L3.af.refl _) (bL.of0 gy s0 z)) (.int (R.cons (up (mv k1 (fR _)) λa ha=>fr a (eN _ ha)) (R.cons (up (mv k2 (fR _)) λa ha=>fr a (dj _ (eN _ ha))) (R.cons (up (mv k3 (fN _)) λa ha=>fr a (dj _ (dj _ ha))) (.int (.int .nil))))))
 ·rw[fu];exact nd
 ·rw[fu]
  intro a ha
  exact(eT.trans dA).free (fr a ha)
noncomputable def vv(M n e f:Int):Prop:=2<=n/\n<=M-1/\1<=e/\e<=n-1/\0<=f/\f<=M-2
noncomputable instance (M n e f:Int):Decidable (vv M n e f):=by unfold vv;infer_instance
noncomputable abbrev az0:aW:=λds Q=>∃(M n e f:Int),ds=[.int M,.int n,.int e,.int f]/\Q (.bl (decide (vv M n e f)))
theorem az1(T:Txt K mg t):aH P w K mg base aP 1 t.RX t.RY ["many","length","extra","first"] (a6 (az0 )):=by
 refine bo T.Dn.F av8 (λds Q h=>by obtain⟨M,n,e,f,rfl,q⟩:=h<;>rfl) λay A outer s H E hr=>⟨_,(aC (aQ (qM (ae (uf kE kE (ae ao) (bv 1) (ae (aB fi (bv 0) (ae ao))))) (qM (ae (uf kE kE (ae ao) (bv 2) (ae (aB fi (bv 1) (ae ao))))) (vW (uf kE kE (ae ao) (bv 3) (ae (aB fi (bv 0) (ae ao))))))))),λds Q h=>?_⟩
 obtain⟨M,n,e,f,rfl,q⟩:=h
 walk_at"l3"
 have z:∀b:Bool,(b=true↔vv M n e f)->Q (.bl b):=λb h=>by rw[show b=decide (vv M n e f) by rw[qf,decide_eq_true_eq];exact h];exact q
 unfold vv at z
 repeat' split
 all_goals exact z _ (by simp only[decide_eq_true_eq,mh,false_iff];omega)
noncomputable abbrev bv3(t:cF):List D->List Str->List D->Prop:=λds ns xs=>∃(m:Bool × Nat) (n e f:Nat),ds=[fD t.aY t.a9 m,.int n,.int e,.int f]/\m∈aw/\2<=n/\n+1<=aa m/\1<=e/\e+1<=n/\f+2<=aa m/\ns=(["extra","first","field","length","check_rows","word_rows","message_places","size"]:List Str)/\xs=[.int e,.int f]++m6 t.aY t.a9 true m (fJ m f (aL n) e)
theorem U9(T:Txt K mg t)(hB:Bm mg base):aH P w K mg base aP 5 t.HQ t.C8 ["self","field","length","extra","first"] (zH [t.jC,t.jD] t.dR (bv3 t)):=by
 refine T.dd1.ok P2 (λvs H Q E h=>?_) λay A outer s H vs Q E hr h=>?_
 ·obtain⟨F,H0,x,dx,bK,ds,ns,xs,rfl,_,_,_,_,_,r,⟨m,n,e,f,rfl,_⟩,_⟩:=h
  have:=r.length
  simp at this
  simp[this]
 obtain⟨F,H0,x,dx,bK,ds,ns,xs,rfl,tb,e0,gy,s0,hx,r,⟨m,n,e,f,rfl,hm,h1,h2,h3,h4,h5,rfl,rfl⟩,q⟩:=h
 have Ap:=(bZ hm).hi
 obtain⟨vf,DE,B1,B2,rfl,Jd,rf,r2⟩:=R.cH r
 obtain⟨rfl,rfl⟩:=s8.mp Jd.symm
 obtain rfl:DE=[.int n,.int e,.int f]:=by
  cases r2 with
  | int r=>cases r with
   | int r=>cases r with
    | int r=>cases r;rfl
 refine⟨_,eV (tM (t7 (jV (ae (t9 ((az1 T).mono (by decide)) hr rfl T.Dn.g T.Dn.F.kp T.Dn.b cL (ag (eB (K:=K) (bv 1)) (ag (bv 2) (ag (bv 3) (ag (bv 4) av)))))))) (jl tN) qt)
  (eV (g9 (pv 0) (pv 3) rfl)
  (eV (g9 (pv 0) (pv 4) rfl)
  (eV (b29 (i:=5) P2.nd rfl (aA rfl) [("field",1),("first",4),("length",2)] ["i"] rfl (jX rfl T.ik (ag (bv 3) av)) (λ_ _ _ _=>(mI (i:=3) (show(["field","first","length","i"]:List Str).Nodup by decide +kernel) rfl (cJ rfl) (by decide) (aA rfl))) (λ_ _ _ _=>dB) (by exact λ_ _ _ _=>(di [("field",0),("first",1),("i",3)] ["j"] rfl (jX rfl T.ik (ag (bv 2) av)) (λ_ _ _ _=>(mI (i:=3) (show(["field","first","i","j"]:List Str).Nodup by decide +kernel) rfl (aA (lookup_relabel_local rfl)) (by decide) (cJ (lookup_relabel_local rfl)))) (λ_ _ _ _=>dB) (λ_ _ _ _=>(iS (P:=P) (w:=w) (K:=K) (mg:=mg) (base:=base) (n:=1) (bv 0) (hr.mono (by decide)) (ag (ae (aB gU (ae (aB dw (bv 1) (bv 2))) (bv 3))) av))) rfl)) rfl ⟨rfl,⟨rfl,⟨rfl,trivial⟩⟩⟩ (λ_=>by repeat' (first | exact trivial | refine⟨.inl rfl,?_⟩ | refine⟨.inr (.inl rfl),?_⟩ | refine⟨.inr (.inr ⟨_,rfl⟩),?_⟩)) (λ_=>⟨⟨rfl,.inl rfl,.inl rfl,_,rfl,rfl⟩,⟨⟨rfl,.inl rfl,.inl rfl,_,rfl,rfl⟩,⟨⟨rfl,.inl rfl,.inl rfl,_,rfl,rfl⟩,trivial⟩⟩⟩) rfl (by decide +kernel))
  (jl (tL (Ho (E:=E0) T.Im ((IS T).mono (by decide)) hr T.Dx.b cL rfl T.Ii (bN (pv 0) (bN (pv 1) (bN (pv 5) eX))))))))),?_⟩
 try dsimp only[jx,jy]
 refine⟨⟨H,F⟩,F,[none,some (fD t.aY t.a9 m),some (.int n),some (.int e),some (.int f),none],[],λb _=>b=false,ak.self (e0.trans s0) (.eo (A:=[]) (C:=[]) (rf.shared (L3.af.refl _) s0) (.eo (A:=[]) (C:=[]) (.int .nil) (.eo (A:=[]) (C:=[]) (.int .nil) (.eo (A:=[]) (C:=[]) (.int .nil) (.au .nil))))),?_,λb ah F1 H1 hb Ah eT c1=>?_⟩
 ·walk_at"l3"
  exact cz0 T m ⟨aa m,n,e,f,rfl,rfl,true,by rw[decide_eq_true (by unfold vv;omega)],rfl⟩
 subst hb
 refine iY ?_
 have s1:=s0.trans eT
 have bO:=eT.get _ _ hx rfl
 refine⟨.int e,rfl,.ref x,rfl,x,t.dR,dx,_,rfl,bO,T.sO,T.Um,by decide,?_⟩
 have dZ:upd H1 x (.ins t.dR dx (b9 "extra" (.int e) [])) x=some (.ins t.dR dx [("extra",.int e)]):=by rw[bI];rfl
 have z2:=(eT.x (x:=x)).trans (bL.upd (C:=x) (dx:=dx) bO rfl (o':=.ins t.dR dx (b9 "extra" (.int e) [])))
 generalize upd H1 x (.ins t.dR dx (b9 "extra" (.int e) []))=H2 at z2 dZ ⊢
 refine⟨.int f,rfl,.ref x,rfl,x,t.dR,dx,_,rfl,dZ,T.sO,T.de5,by show 1<1000;decide,?_⟩
 have fF:upd H2 x (.ins t.dR dx (b9 "first" (.int f) [("extra",.int e)])) x=some (.ins t.dR dx [("extra",.int e),("first",.int f)]):=by rw[bI];rfl
 have z3:=z2.trans (bL.upd (C:=x) (dx:=dx) dZ rfl (o':=.ins t.dR dx (b9 "first" (.int f) [("extra",.int e)])))
 generalize upd H2 x (.ins t.dR dx (b9 "first" (.int f) [("extra",.int e)]))=H3 at z3 fF ⊢
 have s3:=bL.of0 gy s0 z3
 obtain⟨g1,g2,g3⟩:=Hr hm f n (show 1<=e by omega)
 refine⟨⟨H3,F⟩,F,[none,some (fD t.aY t.a9 m),some (.int n),some (.int e),some (.int f),none],[],λd _=>d=.lst true (ax true (fJ m f (aL n) e)),ak.self (e0.trans s3) (.eo (A:=[]) (C:=[]) (rf.shared (L3.af.refl _) s3) (.eo (A:=[]) (C:=[]) (.int .nil) (.eo (A:=[]) (C:=[]) (.int .nil) (.eo (A:=[]) (C:=[]) (.int .nil) (.au .nil))))),?_,λd ah v F4 H4 hd hf4 vb c4=>?_⟩
 ·walk_at"l3"
  refine⟨⟨by omega,by omega⟩,oV (aL e) (λ(i:Nat)=>D.int (i:Int)) (λ(i:Nat)=>D.lst true (aq ((aL n).map λ(p:Nat)=>eS m (((f:Int)+(i:Int))*(p:Int))))) (zr _ (by omega)) rX (λi hi=>?_) (.inr λ_ _=>ij _) (by rw[bV,sL];omega) ?_⟩
  ·have hi:=bU.mp hi
   walk_at"l3"
   refine⟨⟨by omega,by omega⟩,oV (aL n) (λ(i:Nat)=>D.int (i:Int)) (λ(p:Nat)=>D.int ((eS m (((f:Int)+(i:Int))*(p:Int)):Nat):Int)) (zr _ (by omega)) rX (λp yF=>?_) (.inr λ_ _=>rfl) (by rw[bV,sL];omega) ?_⟩
   ·have:=bU.mp yF
    walk_at"l3"
    obtain⟨C,ns,xs,sp,e1,e2,e3,e4⟩:=by6 (P:=P) (w:=w) (base:=base) T hm (n:=((f:Int)+(i:Int))*(p:Int)) (Q:=λr=>r=D.int ((eS m (((f:Int)+(i:Int))*(p:Int)):Nat):Int)) rfl
    exact⟨C,ns,xs,sp,e1,e2,e3,jn.ok (.inl ⟨by omega,by omega⟩),e4⟩
   ·rw[cO,bW];rfl
  ·unfold fJ ax
   rw[bW];rfl
 subst hd
 obtain⟨A4,C4,r4,_,Va,Je⟩:=c4.own
 have r4:R F4 H4 [.lst true (ax true (fJ m f (aL n) e))] [v] A4:=r4
 obtain⟨pc,rfl⟩:=w4 r4
 have kh:=vb.get _ _ fF rfl
 have fR:∀X:List (List Nat),[D.lst true (ax true X)].all D.fr=true:=λX=>by rw[de,eZ,mZ];rfl
 have xy:∀X:List (List Nat),[D.lst true (ax true X)].map D.sh=[D.lst false (ax false X)]:=λX=>by rw[da,cU,fC];rfl
 have r4:=r4.qF (fR _) hf4
 have Je:∀a∈A4,H3 a=none:=λa ha=>Je a (eN _ ha)
 have Va:=(ia.mp Va).1
 have Vb:=s3.trans vb
 have xA:x ∉ A4:=λz=>by rw[Je x z]at fF;cases fF
 have s5:L3.af H0 (L3.bj H0 H4 A4):=iH Vb
 have e5:=e0.trans s5
 have r5:R F (L3.bj H0 H4 A4) [.lst true (ax true (fJ m f (aL n) e))] [.ref pc] A4:=OO r4 λa ha=>by unfold L3.bj;rw[if_pos ha]
 refine⟨.ref x,rfl,vf,rfl,.ref pc,rfl,L3.bj F (L3.bj H0 H4 A4) A4,L3.bj H0 H4 A4,x,dx,t.dR,vf,.ref pc,m,fJ m f (aL n) e,[("extra",.int e),("first",.int f)],rfl,nV e5,by rw[qE xA];exact gy,nV Vb,kh,.two _ _,⟨T.sO,T.Uo,T.Up,T.Ul,T.Ur,T.de6,T.Uq⟩,rf.shared (iH e5) s5,xy _ ▸ r5.bj e5 A4 λ_ h=>h,hm,by rw[g3];exact g1,by omega,by omega,λH' p1 p2 p3 B1 B2 B3 sx dr k1 k2 k3 nd fr=>?_⟩
 have z:=(z3.trans (vb.x (x:=x))).trans sx
 have so:=bL.of0 gy s0 z
 have ee:=e0.trans s3
 refine q H' [.int e,.int f,vf,.int (ai (fJ m f (aL n) e):Nat),.ref p1,.ref p2,.ref p3,.int ((b8 m (fJ m f (aL n) e)).length:Nat)] (B1++(B2++(B3++[]))) z dr rfl ?_ ?_ ?_
 ·have up:∀{ds:List D} {vs:List V} {B:List Addr},R (λ_=>none) H' ds vs B->(∀a∈B,H4 a=none)->R F H' ds vs B:=λr h=>r.keep (L3.af.of λb o e=>by cases e) (gb.same (L3.af.refl _)) gO.nil (λa ha=>ee.free (vb.free (h a ha))) (by simp)
  exact .int (.int (R.cons (A:=[]) (rf.shared (L3.af.refl _) so) (.int (R.cons (up k1 λa ha=>fr a (eN _ ha)) (R.cons (up k2 λa ha=>fr a (dj _ (eN _ ha))) (R.cons (up k3 λa ha=>fr a (dj _ (dj _ ha))) (.int .nil)))))))
 ·rw[fu];exact nd
 ·rw[fu]
  intro a ha
  exact z3.free (by rw[fF];simp) (vb.free (fr a ha))
noncomputable abbrev aE0(t:cF):aW:=λds Q=>∃(m:Bool × Nat) (n:Nat),ds=[fD t.aY t.a9 m,.int n]/\m∈aw/\2<=n/\n<=24/\Q (.lst true (ax true (eE m n)))
theorem aE1(T:Txt K mg t):aH P w K mg base aP 2 t.RZ t.R0 ["field","length"] (a6 (aE0 t)):=by
 refine bo T.Dq.F P5 (λds Q h=>by obtain⟨m,n,rfl,hm,h2,Jf,q⟩:=h<;>rfl) λay A outer s H E hr=>⟨_,(aE (bc (i:=2) P5.nd rfl (cJ rfl) (iS (P:=P) (w:=w) (K:=K) (mg:=mg) (base:=base) (n:=1) (bv 0) (hr.mono (by decide)) (ag (ae ao) (ag (ae ao) av))))
   (aC (aQ (di [("less_one",2),("length",1)] ["i"] rfl (jX rfl T.ik (ag (ae (aB fi (bv 1) (ae ao))) av)) (λ_ _ _ _=>(dQ (i:=2) (show(["less_one","length","i"]:List Str).Nodup by decide +kernel))) (λ_ _ _ _=>dB) (λ_ _ _ _=>(aB dw (ae (aB dw (ae (aB dw (ae (aB gU (ae (eD (cW ao dv))) (bv 2))) (ae (eD (cW ao dv))))) (ae (aB gU (ae (eD (cW ao dv))) (ae (aB fi (ae (aB fi (bv 1) (ae ao))) (bv 2))))))) (G6 (ag (bv 0) av)))) rfl)))),λds Q h=>?_⟩
 obtain⟨m,n,rfl,hm,h2,Jf,q⟩:=h
 have m0:=bM m hm
 have cT:=(bZ hm).lo
 obtain⟨C,ns,zs,sp,e1,e2,e3,e4⟩:=UO (P:=P) (w:=w) (base:=base) T m0
 refine aD λU hU=>?_
 walk_at"l3"
 refine⟨C,ns,zs,sp,e1,e2,e3,e4 0 1 _ ?_⟩
 rw[(iT hm (show 0<aa m by omega) (show 1<aa m by omega)).1]
 refine hU _ ?_
 clear hU U e1 e2 e3 e4
 walk_at"l3"
 refine⟨⟨by omega,by omega⟩,oV (aL (n-1)) (λ(i:Nat)=>D.int (i:Int)) (λi=>D.lst true (aq (l6 m n i))) (zr _ (by omega)) rX (λi hi=>?_) (.inr λ_ _=>ij _) (by rw[bV,sL];omega) ?_⟩
 ·have hi:=bU.mp hi
  walk_at"l3"
  unfold l6
  have zn:∀k:Nat,aJ (aV k (0:Int))=aq (aV k 0):=λk=>by unfold aq;rw[AW];rfl
  rw[iq,show((n:Int)-2-(i:Int)).toNat=n-2-i by omega,zn,zn,show [D.int 1]=aq [1] from rfl,show [D.int ((br m 0 1:Nat):Int)]=aq [br m 0 1] from rfl,mS,mS,mS,kI,kI,eI,eI]
  simp only[eO,fP,p8]
  exact⟨by decide,⟨by omega,by omega,by omega⟩,by decide,by omega,by decide,⟨by omega,by omega,by omega⟩,⟨by omega,trivial⟩,by decide,⟨by omega,trivial⟩,trivial⟩
 ·rw[show((aL (n-1)).map λi=>D.lst true (aq (l6 m n i)))=ax true (eE m n) by unfold ax eE;rw[bW];rfl]
  exact q
noncomputable abbrev bn0(t:cF):List D->List Str->List D->Prop:=λds ns xs=>∃(m:Bool × Nat) (n:Nat),ds=[fD t.aY t.a9 m,.int n]/\m∈aw/\2<=n/\n<=24/\ns=m5/\xs=m6 t.aY t.a9 true m (eE m n)
theorem Vc(T:Txt K mg t)(hB:Bm mg base):aH P w K mg base aP 5 t.HR t.R1 ["self","field","length"] (zH [t.jC,t.jD] t.gZ (bn0 t)):=by
 refine T.IE.F.ok av9 (λvs H Q E h=>?_) λay A outer s H vs Q E hr h=>?_
 ·obtain⟨F,H0,x,dx,bK,ds,ns,xs,rfl,_,_,_,_,_,r,⟨m,n,rfl,_⟩,_⟩:=h
  have:=r.length
  simp at this
  simp[this]
 obtain⟨F,H0,x,dx,bK,ds,ns,xs,rfl,tb,e0,gy,s0,hx,r,⟨m,n,rfl,hm,h2,Jf,rfl,rfl⟩,q⟩:=h
 obtain⟨g1,g2,g3⟩:=xb hm h2
 obtain⟨vf,DE,B1,B2,rfl,hB,rf,r2⟩:=R.cH r
 obtain⟨rfl,rfl⟩:=s8.mp hB.symm
 obtain rfl:DE=[.int n]:=by
  cases r2 with
  | int r=>cases r;rfl
 refine⟨_,eV (tM (PW.pt (J3 (EA Kf (pv 2) qq (bA _)) (xY (EA Kg (pv 2) qq (bA _))))) (jl tN) qt)
  (jl (tL (Ho (E:=E0) T.Im ((IS T).mono (by decide)) hr T.Dx.b cL rfl T.Ii (bN (pv 0) (bN (pv 1) (bN (jq ((aE1 T).mono (by decide)) hr rfl T.Dq.g T.Dq.F.kp T.Dq.b .nil cL (bN (pv 1) (bN (pv 2) eX))) eX)))))),?_⟩
 try dsimp only[jx,jy]
 refine⟨.int n,rfl,_,_,rfl,rfl,_,rfl,?_⟩
 rw[decide_eq_false (by omega)]
 refine iY ?_
 refine⟨.int n,rfl,_,_,rfl,rfl,_,rfl,?_⟩
 rw[decide_eq_false (by omega)]
 refine iY ?_
 have e:=e0.trans s0
 refine⟨.ref x,rfl,vf,rfl,vf,rfl,.int n,rfl,F,[fD t.aY t.a9 m,.int n],λd=>d=.lst true (ax true (eE m n)),e,R.cons (A:=[]) (rf.shared (L3.af.refl _) s0) (.int .nil),⟨m,n,rfl,hm,h2,Jf,rfl⟩,λd v F1 H1 A1 hd eT Ah Ai UQ r1 UR IT=>?_⟩
 subst hd
 obtain⟨pc,rfl⟩:=w4 r1
 have bO:=eT.get _ _ hx rfl
 have fR:∀X:List (List Nat),[D.lst true (ax true X)].all D.fr=true:=λX=>by rw[de,eZ,mZ];rfl
 have xy:∀X:List (List Nat),[D.lst true (ax true X)].map D.sh=[D.lst false (ax false X)]:=λX=>by rw[da,cU,fC];rfl
 have r1:=r1.qF (fR _) Ah
 have Vd:=s0.trans eT
 have xA:x ∉ A1:=λz=>by rw[IT x z]at hx;cases hx
 have s2:L3.af H0 (L3.bj H0 H1 A1):=iH Vd
 have e2:=e0.trans s2
 have r2:R F (L3.bj H0 H1 A1) [.lst true (ax true (eE m n))] [.ref pc] A1:=OO r1 λa ha=>by unfold L3.bj;rw[if_pos ha]
 refine⟨L3.bj F (L3.bj H0 H1 A1) A1,L3.bj H0 H1 A1,x,dx,t.gZ,vf,.ref pc,m,eE m n,[],rfl,nV e2,by rw[qE xA];exact gy,nV Vd,bO,.nil,⟨T.zZ,T.Uh,T.Ui,T.Ug,T.Uk,T.de4,T.Uj⟩,rf.shared (iH e2) s2,xy _ ▸ r2.bj e2 A1 λ_ h=>h,hm,by rw[g3];exact g1,by omega,by omega,λH' p1 p2 p3 B1 B2 B3 sx dr k1 k2 k3 nd fr=>?_⟩
 have z:=(eT.x (x:=x)).trans sx
 have so:=bL.of0 gy s0 z
 refine q H' [vf,.int (ai (eE m n):Nat),.ref p1,.ref p2,.ref p3,.int ((b8 m (eE m n)).length:Nat)] (B1++(B2++(B3++[]))) z dr rfl ?_ ?_ ?_
 ·have up:∀{ds:List D} {vs:List V} {B:List Addr},R (λ_=>none) H' ds vs B->(∀a∈B,H1 a=none)->R F H' ds vs B:=λr h=>r.keep (L3.af.of λb o e=>by cases e) (gb.same (L3.af.refl _)) gO.nil (λa ha=>e.free (eT.free (h a ha))) (by simp)
  exact R.cons (A:=[]) (rf.shared (L3.af.refl _) so) (.int (R.cons (up k1 λa ha=>fr a (eN _ ha)) (R.cons (up k2 λa ha=>fr a (dj _ (eN _ ha))) (R.cons (up k3 λa ha=>fr a (dj _ (dj _ ha))) (.int .nil)))))
 ·rw[fu];exact nd
 ·rw[fu]
  intro a ha
  exact eT.free (fr a ha)
noncomputable abbrev aM1:aW:=λds Q=>∃(m:Bool × Nat) (a b:Nat),ds=[cP m,.int a,.int b]/\0<m.2/\Q (.int (gp m a b:Nat))
theorem aM2(T:Txt K mg t):aH P w K mg base aP 1 t.R3 t.R4 ["_law_told_here","_law_a","_law_b"] (a6 (aM1 )):=by
 refine bo T.Tt.F aL0 (λds Q h=>by obtain⟨m,a,b,rfl,h0,q⟩:=h<;>rfl) λay A outer s H E hr=>⟨_,(aE (cq (jV (bB (bv 0) (ae ao) (λ_ _=>rfl))) (aC (aQ (aB yI (bv 1) (bv 2)))) cI)
   (aC (aQ (aB cX (ae (aB dw (bv 1) (bv 2))) (bB (bv 0) (ae ao) (λ_ _=>rfl)))))),λds Q h=>?_⟩
 obtain⟨m,a,b,rfl,h0,q⟩:=h
 unfold cP at *
 obtain⟨k,n⟩:=m
 refine aD λU hU=>?_
 walk_at"l3"
 cases k with
 | true =>
  refine⟨_,rfl,true,rfl,?_⟩
  rw[if_pos rfl,nS]
  exact q
 | false =>
  refine⟨_,rfl,false,rfl,?_⟩
  rw[if_neg (by decide)]
  refine hU _ ?_
  walk_at"l3"
  refine⟨_,rfl,?_⟩
  refine⟨by omega,?_⟩
  have e:((gp (false,n) a b:Nat):Int)=((a:Int)+b)%n:=by
   show(((a+b)%n:Nat):Int)=_
   rw[ql,AM]
  rw[<-e];exact q
noncomputable abbrev aJ9:aW:=λds Q=>∃(m:Bool × Nat) (a b:Nat),ds=[cP m,.int a,.int b]/\m∈aw/\a<aa m/\b<aa m/\Q (.int (gm m a b:Nat))
theorem aK0(T:Txt K mg t):aH P w K mg base aP 1 t.R5 t.R6 ["_law_told_here","_law_a","_law_b"] (a6 (aJ9 )):=by
 refine bo T.Tu.F xm (λds Q h=>by obtain⟨m,a,b,rfl,hm,ha,hb,q⟩:=h<;>rfl) λay A outer s H E hr=>⟨_,(aE (cq (t7 (jV (bB (bv 0) (ae ao) (λ_ _=>rfl)))) (aC (aQ (aB cX (ae (aB gU (bv 1) (bv 2))) (bB (bv 0) (ae ao) (λ_ _=>rfl))))) cI)
   (aE (bc (i:=3) xm.nd rfl (aA rfl) ao)
   (aE (yB f7 (bJ wu (bv 2) (ae ao) (bA _))
    (aE (cq (bJ (fQ (cN hr)) (ae (aB LZ (bv 2) (ae ao))) (ae ao) (bA _)) (aC (bc (i:=3) xm.nd rfl (aA rfl) (aB yI (bv 3) (bv 1)))) cI)
    (aE (bc (i:=1) xm.nd rfl (aA rfl) (aB wq (bv 1) (ae ao)))
    (aE (cq (bJ (fQ (cN hr)) (ae (oN (bv 1))) (ae (oN (bB (bv 0) (ae ao) (λ_ _=>rfl)))) (bA _)) (aC (bc (i:=1) xm.nd rfl (aA rfl) (aB yI (bv 1) (bB (bv 0) (ae ao) (λ_ _=>rfl))))) cI)
    (aC (bc (i:=2) xm.nd rfl (aA rfl) (aB LY (bv 2) (ae ao))))))))
   (aC (aQ (em 3)))))),λds Q h=>?_⟩
 obtain⟨m,a,b,rfl,hm,ha,hb,q⟩:=h
 unfold cP at *
 obtain⟨k,n⟩:=m
 refine aD λU hU=>?_
 walk_at"l3"
 have hF:=bZ hm
 cases k with
 | false =>
  refine⟨_,rfl,false,rfl,?_⟩
  have sP:n<=64:=hF.hi
  have l2:2<=n:=hF.lo
  have B0:a<n:=ha
  have rP:b<n:=hb
  rw[if_pos (by decide)]
  refine⟨jn.ok (.inr ⟨by omega,by omega⟩),_,rfl,by omega,?_⟩
  have e:((gm (false,n) a b:Nat):Int)=(a:Int)*b%n:=by
   show((a*b%n:Nat):Int)=_
   rw[ql,vI]
  rw[<-e];exact q
 | true =>
  refine⟨_,rfl,true,rfl,?_⟩
  rw[if_neg (by decide)]
  have hp:=wU hm
  have bp:=Ng n hp
  have DB:=Nh n hp
  have p0:n≠0:=λz=>by rw[z,nR]at DB;omega
  have gy:bl a<bl n:=by
   have:=ff.mpr (show a<2 ^ (bl n-1) from ha)
   omega
  have hy0:bl b<bl n:=by
   have:=ff.mpr (show b<2 ^ (bl n-1) from hb)
   omega
  refine hU _ ?_
  clear hU U
  refine aD λU hU=>?_
  walk_at"l3"
  refine hU _ ?_
  clear hU U
  refine aD λU hU=>?_
  walk_at"l3"
  refine⟨λm δ=>∃(x y z:Nat),δ=[some (.tup [.bl true,.int n]),some (.int (x:Nat)),some (.int (y:Nat)),some (.int (z:Nat))]/\z ^^^ md (cl x y) n=gm (true,n) a b/\bl x<bl n/\bl y<bl n/\m=bl y,
   ⟨bl b,a,b,0,rfl,by rw[qe];rfl,gy,hy0,rfl⟩,?_⟩
  rintro m δ ⟨x,y,z,rfl,inv,hx,hy,rfl⟩
  walk_at"l3"
  split
  ·rename_i Aq
   have Uw:=iE (show y≠0 by omega)
   have DC:bl (y/2)=bl y-1:=YZ y
   have e1:((x:Int)*2 ^ (1:Int).toNat)=((2*x:Nat):Int):=by
    show(x:Int)*(2:Int) ^ 1=_
    omega
   have e2:((y:Int)/2 ^ (1:Int).toNat)=((y/2:Nat):Int):=by
    show(y:Int)/(2:Int) ^ 1=_
    omega
   have a1:pX (y:Int) 1=((y%2:Nat):Int):=by
    rw[show(1:Int)=((1:Nat):Int) from rfl,Lb,Nat.and_one_is_mod]
   have tm:=cj9 (y:=y) p0 hx
   have tb:=cn1 p0 hx
   clear hU
   refine aD λU hU=>?_
   walk_at"l3"
   have fin:∀z':Nat,z'=z ^^^ (if y%2=1 then x else 0)->U [some (.tup [.bl true,.int n]),some (.int x),some (.int y),some (.int z')]:=by
    intro z' hz
    have dp7:z' ^^^ md (cl (if bl (2*x)=bl n then 2*x ^^^ n else 2*x) (y/2)) n=gm (true,n) a b:=by
     rw[hz,sZ,<- tm];exact inv
    refine hU _ ?_
    clear hU
    refine aD λU hU=>?_
    walk_at"l3"
    refine⟨⟨by decide,by simp only[jg];omega⟩,hU _ ?_⟩
    clear hU
    rw[e1]
    refine aD λU hU=>?_
    walk_at"l3"
    have last:∀x':Nat,x'=(if bl (2*x)=bl n then 2*x ^^^ n else 2*x)->U [some (.tup [.bl true,.int n]),some (.int (x':Nat)),some (.int y),some (.int z')]:=by
     intro x' dr
     refine hU _ ?_
     walk_at"l3"
     exact⟨by decide,bl (y/2),by omega,x',y/2,z',⟨rfl,e2,rfl⟩,by rw[dr];exact dp7,by rw[dr];exact tb,by omega,rfl⟩
    refine⟨_,rfl,?_⟩
    show(if(((bl (((2*x:Nat):Int)).natAbs:Nat):Int)=((bl ((n:Int)).natAbs:Nat):Int))then _ else _)
    rw[jg,jg]
    split
    ·rename_i hc
     refine⟨_,rfl,?_⟩
     have g:=last (2*x ^^^ n) (by rw[if_pos (by omega)])
     rw[<-nS]at g
     exact g
    ·rename_i hc
     exact last (2*x) (by rw[if_neg (by omega)])
   rw[a1]
   split
   ·rename_i DA
    have odd:y%2=1:=by omega
    have g:=fin (z ^^^ x) (by rw[if_pos odd])
    rw[<-nS]at g
    exact g
   ·rename_i DA
    exact fin z (by rw[if_neg (by omega),mf])
  ·rename_i Aq
   have hy:y=0:=by omega
   subst hy
   rw[YI,zh (by rw[nR];exact iE p0),mf]at inv
   subst inv
   refine hU _ ?_
   walk_at"l3"
   exact q
noncomputable abbrev aN2:aW:=λds Q=>∃(m:Bool × Nat) (xs ys:List Nat),ds=[cP m,.lst false (aq xs),.lst false (aq ys)]/\m∈aw/\xs.length=ys.length/\xs.length<=64/\(∀x∈xs,x<aa m)/\(∀y∈ys,y<aa m)/\Q (.int (gd m xs ys:Nat))
theorem Ve(T:Txt K mg t):aH P w K mg base aP 2 t.R7 t.R8 ["_law_told_here","_law_xs","_law_ys"] (a6 (aN2 )):=by
 refine bo T.Iu.F C5 (λds Q h=>by obtain⟨m,xs,ys,rfl,hm,hl,kO,hx,hy,q⟩:=h<;>rfl) λay A outer s H E hr=>⟨_,(aE (bc (i:=3) C5.nd rfl (aA rfl) ao)
   (aE (iK f7 rfl (wJ rfl T.vk (ag (bv 1) (ag (bv 2) av))) (mQ (i1:=4) (i2:=5) rfl C5.nd rfl (aA rfl) rfl (aA rfl))
    (aC (bc (i:=3) C5.nd rfl (aA rfl) (bg T.Tt (aM2 T) hr (ag (bv 0) (ag (bv 3) (ag (ae (bg T.Tu (aK0 T) hr (ag (bv 0) (ag (bv 4) (ag (bv 5) av))))) av)))))))
   (aC (aQ (em 3))))),λds Q h=>?_⟩
 obtain⟨m,xs,ys,rfl,hm,hl,kO,hx,hy,q⟩:=h
 refine aD λU hU=>?_
 walk_at"l3"
 refine hU _ ?_
 clear hU U
 refine aD λU hU=>?_
 walk_at"l3"
 refine⟨_,_,rfl,rfl,?_⟩
 refine gQ.mk (λi δ=>∃o1 o2,δ=[some (cP m),some (.lst false (aq xs)),some (.lst false (aq ys)),some (.int (((dm (gm m) xs ys).take i).foldl (gp m) 0:Nat)),o1,o2]) ⟨none,none,rfl⟩ ?_ ?_
 ·rintro i d δ hd ⟨o1,o2,rfl⟩
  obtain⟨hi,hj,rfl⟩:∃(hi:i<xs.length) (hj:i<ys.length),d=.tup [.int (xs[i]:Nat),.int (ys[i]:Nat)]:=by
   unfold dG at hd
   rw[cO,cO,AK]at hd
   by_cases hi:i<xs.length
   ·have hj:i<ys.length:=by omega
    rw[nC,aM hi,aM hj]at hd
    exact⟨hi,hj,(c9 hd).symm⟩
   ·rw[gn (by simp;omega)]at hd;cases hd
  have bO:=hx xs[i] (dE _)
  have Aq:=hy ys[i] (dE _)
  walk_at"l3"
  have hF:=bZ hm
  have t1:(cP m).sh=cP m:=rfl
  have t2:(cP m).pl=true:=rfl
  have m0:0<m.2:=bM m hm
  refine⟨m,xs[i],ys[i],rfl,hm,bO,Aq,m,_,gm m xs[i] ys[i],rfl,m0,by simp[D.pl],_,_,?_,rfl,rfl⟩
  rw[List.take_succ,xP,nC,aM hi,aM hj];rfl
 ·rintro δ ⟨o1,o2,rfl⟩
  refine hU _ ?_
  walk_at"l3"
  have e:(dG (aq xs) (aq ys)).length=xs.length:=by unfold dG;rw[jJ,eI,eI];omega
  rw[e,xH (by rw[jJ];omega)]
  exact q
noncomputable abbrev aI1:aW:=λds Q=>∃(m:Bool × Nat) (xs:List Nat) (T:List (List Nat)) (w:Nat),ds=[cP m,.lst false (aq xs),.lst false (ax false T),.int w]/\m∈aw/\AllLt (aa m) xs/\xs.length<=64/\T.length=xs.length/\w<=1000/\RT (aa m) w T/\Q (.lst true (aq (lY m xs T w)))
theorem aI2(T:Txt K mg t):aH P w K mg base aP 3 t.R9 t.Sa ["_law_told_here","_law_xs","_law_table_here","_law_wide_here"] (a6 (aI1 )):=by
 refine bo T.Tv.F aH3 (λds Q h=>by obtain⟨m,xs,G,wi,rfl,hm,hx,rm,hG,hw,hR,q⟩:=h<;>rfl) λay A outer s H E hr=>⟨_,(aC (aQ (di [("_law_told_here",0),("_law_xs",1),("_law_table_here",2)] ["_law_k"] rfl (jX rfl T.ik (ag (bv 3) av)) (λ_ _ _ _=>(dQ (i:=3) (show(["_law_told_here","_law_xs","_law_table_here","_law_k"]:List Str).Nodup by decide +kernel))) (λ_ _ _ _=>dB) (by exact λ_ _ _ _=>(bg T.Iu (Ve T) hr (ag (bv 0) (ag (bv 1) (ag (ae (di [("_law_k",3)] ["_law_row"] rfl (gg (bv 2)) (λ_ _ _ _=>(dQ (i:=1) (show(["_law_k","_law_row"]:List Str).Nodup by decide +kernel))) (λ_ _ _ _=>dB) (λ_ _ _ _=>(du (bB (bv 1) (bv 0) (λ_ _=>rfl)))) rfl)) av))))) rfl))),λds Q h=>?_⟩
 obtain⟨m,xs,G,wi,rfl,hm,hx,rm,hG,hw,hR,q⟩:=h
 walk_at"l3"
 refine⟨⟨by omega,by omega⟩,xh wi (λk=>D.int ((gd m xs (G.map λr=>r.getD k 0):Nat):Int)) (λk hk=>?_) (.inr λ_ _=>rfl) ?_⟩
 ·have hk:=bU.mp hk
  walk_at"l3"
  refine m9 G (λr=>D.int ((r.getD k 0:Nat):Int)) (λr aZ=>?_) (.inr λr _=>rfl) ?_
  ·walk_at"l3"
   have hl:=(hR r aZ).1
   exact⟨.int (r.getD k 0:Nat),by rw[j6 (by omega) (by omega),iq],rfl,rfl⟩
  ·refine⟨m,xs,G.map λr=>r.getD k 0,?_,hm,by rw[bq,hG],rm,hx,λy hy=>?_,?_⟩
   ·rw[cO (G.map _),bW,cU,bW];rfl
   ·obtain⟨r,aZ,rfl⟩:=bw.mp hy
    exact(hR r aZ).2.getD (by have:=(bZ hm).lo;omega) k
   ·exact⟨by rw[rL,ix],rfl⟩
 ·unfold lY at q
  rw[cO,bW]at q
  exact q
theorem cE0{tc:fI}{t u:cV}{En:nW}{δ:Dl}(h:∀W:Bool->Dl->Prop,(∀ah,t En ah->W true ah)->(∀ah,u En ah->W false ah)->tc δ W):oi tc t u En δ:=h (λb ah=>if b=true then t En ah else u En ah) (λ_ z=>by rw[if_pos rfl];exact z) (λ_ z=>by rw[if_neg (by decide)];exact z)
noncomputable abbrev aK1:aW:=λds Q=>∃(m:Bool × Nat) (ns:List Int) (b r w y:Nat),ds=[cP m,.fz (aJ ns),.int b,.int r,.int w,.int y]/\m∈aw/\b<=1000/\r<=64/\1<=w/\w<=64/\∀T:List (List Nat),T.length=r->RT (aa m) w T->Q (.lst true (ax true T))
theorem aK2(T:Txt K mg t):aH P w K mg base aP 4 t.Sb t.Sd ["_law_told_here","_law_script","_law_begin","_law_rows","_law_wide_here","_law_way"] (a6 (aK1 )):=by
 refine bo T.Tw.F xn (λds Q h=>by obtain⟨m,ns,b,r,wi,y,rfl,hm,hb,aZ,hw1,hw,q⟩:=h<;>rfl) λay A outer s H E hr=>⟨_,(aE (bc (i:=6) xn.nd rfl (aA rfl) (eD dv))
   (aE (iK f7 rfl (jX rfl T.ik (ag (bv 3) av)) (mI (i:=7) xn.nd rfl (cJ rfl))
    (aE (NX (i:=8) xn.nd rfl (aA rfl) [("_law_script",1),("_law_told_here",0),("_law_begin",2),("_law_i",7),("_law_wide_here",4)] ["_law_k"] rfl (jX rfl T.ik (ag (bv 4) av)) (λ_ _ _ _=>(dQ (i:=5) (show(["_law_script","_law_told_here","_law_begin","_law_i","_law_wide_here","_law_k"]:List Str).Nodup by decide +kernel))) (λ_ _ _ _=>dB) (λ_ _ _ _=>(aB cX (ae (bg T.ke (kM T) hr (ag (bv 0) (ag (ae (aB dw (ae (aB dw (bv 2) (ae (aB gU (bv 3) (bv 4))))) (bv 5))) av)))) (ae (bg T.vm (xw T) hr (ag (bv 1) av))))) rfl)
    (aE (cq (bJ (fQ (cN hr)) (ae (aB cX (bv 5) (ae ao))) (ae ao) (bA _)) (aC (NX (i:=8) xn.nd rfl (aA rfl) [] ["_law_x"] rfl (gg (bv 8)) (λ_ _ _ _=>(dQ (i:=0) (show(["_law_x"]:List Str).Nodup by decide +kernel))) (λ_ _ _ _=>dB) (λ_ _ _ _=>(aB cX (bv 0) (ae ao))) rfl)) cI)
    (aE (cq (PW.pt (BK (bJ (fQ (cN hr)) (ae (aB cX (ae (aB ly (bv 5) (ae ao))) (ae ao))) (ae ao) (bA _)) (BK (bJ wu (bv 7) (ae ao) (bA _)) (Ek (bJ (fQ (cN hr)) (ae (aB cX (ae (aB ly (ae (bg T.ke (kM T) hr (ag (bv 1) (ag (ae (aB dw (bv 2) (ae (aB gU (bv 7) (bv 4))))) av)))) (ae ao))) (ae ao))) (ae ao) (bA _)))))) (aC (bc (i:=8) xn.nd rfl (aA rfl) (bg T.Tv (aI2 T) hr (ag (bv 0) (ag (G6 (ag (bB (bv 8) (ae ao) (λ_ _=>rfl)) (ag (bB (bv 8) (ae (aB fi (bv 4) (ae ao))) (λ_ _=>rfl)) av))) (ag (G6 (ag (bB (bv 6) (ae ao) (λ_ _=>rfl)) (ag (bB (bv 6) (ae (aB fi (bv 7) (ae ao))) (λ_ _=>rfl)) av))) (ag (bv 4) av))))))) cI)
    (aC (wD (i:=6) rfl (by first | exact aA rfl | exact cJ (aA rfl)) (em 8)))))))
   (aC (aQ (em 6))))),λds Q h=>?_⟩
 obtain⟨m,ns,b,r,wi,y,rfl,hm,hb,aZ,hw1,hw,q⟩:=h
 have cT:=(bZ hm).lo
 have xC:=uZ m hm
 have dq5:∀z:Int,z%(aa m:Int)=(((z%(aa m:Int)).toNat:Nat):Int):=λz=>by
  have n0:=ir z (show(aa m:Int)≠0 by omega)
  omega
 have dq6:∀z:Int,(z%(aa m:Int)).toNat<aa m:=λz=>by
  have n1:=iu z (show(0:Int)<(aa m:Int) by omega)
  omega
 refine aD λU hU=>?_
 walk_at"l3"
 refine⟨by decide,hU _ ?_⟩
 clear hU U
 refine aD λU hU=>?_
 walk_at"l3"
 refine⟨⟨by omega,by omega⟩,FR (λi δ=>∃(G:List (List Nat)) (o1 o2:Option D),δ=[some (cP m),some (.fz (aJ ns)),some (.int b),some (.int r),some (.int wi),some (.int y),some (.lst true (ax true G)),o1,o2]/\G.length=i/\RT (aa m) wi G) ⟨[],_,_,rfl,rfl,λ_ h=>nomatch h⟩ ?_ ?_⟩
 ·rintro i δ hi ⟨G,o1,o2,rfl,hG,hR⟩
  simp only[gN,kr,kq]
  clear hU
  have iw:i*wi<=64*64:=Nat.mul_le_mul (by omega) hw
  have eiw:(i:Int)*(wi:Int)=((i*wi:Nat):Int):=by rw[vI]
  refine aD λU hU=>?_
  walk_at"l3"
  refine⟨⟨by omega,by omega⟩,xh wi (λk=>D.int (((fY ns ((b:Int)+(i:Int)*(wi:Int)+(k:Int))%(aa m:Int)).toNat:Nat):Int)) (λk hk=>?_) (.inr λ_ _=>rfl) ?_⟩
  ·have hk:=bU.mp hk
   walk_at"l3"
   refine⟨jn.ok (.inl ⟨by omega,by omega⟩),ns,_,rfl,by omega,by omega,m,rfl,by omega,by omega,?_⟩
   dsimp only
   exact⟨by omega,dq5 _⟩
  obtain⟨row,er,pU,sQ⟩:∃wd:List Nat,((aL wi).map λ(k:Nat)=>D.int (((fY ns ((b:Int)+(i:Int)*(wi:Int)+(k:Int))%(aa m:Int)).toNat:Nat):Int))=aq wd/\AllLt (aa m) wd/\wd.length=wi:=by
   refine⟨(aL wi).map λ(k:Nat)=>(fY ns ((b:Int)+(i:Int)*(wi:Int)+(k:Int))%(aa m:Int)).toNat,by rw[cO,bW];rfl,λa ha=>?_,by simp⟩
   obtain⟨k,_,rfl⟩:=bw.mp ha
   exact dq6 _
  rw[er]
  refine hU _ ?_
  clear hU
  refine aD λU hU=>?_
  walk_at"l3"
  have fin:∀row:List Nat,AllLt (aa m) row->row.length=wi->U [some (cP m),some (D.fz (aJ ns)),some (D.int b),some (D.int r),some (D.int wi),some (D.int y),some (D.lst true (ax true G)),some (D.int i),some (D.lst true (aq row))]:=by
   clear er pU sQ row
   intro row pU sQ
   refine hU _ ?_
   clear hU
   refine aD λU hU=>?_
   have fin2:∀row:List Nat,AllLt (aa m) row->row.length=wi->U [some (cP m),some (D.fz (aJ ns)),some (D.int b),some (D.int r),some (D.int wi),some (D.int y),some (D.lst true (ax true G)),some (D.int i),some (D.lst true (aq row))]:=by
    clear pU sQ row
    intro row pU sQ
    refine hU _ ?_
    walk_at"l3"
    refine⟨⟨_,rfl⟩,by omega,G++[row],_,_,⟨zu true G [row],rfl,rfl⟩,by rw[eO,hG];rfl,hR.app λx hx=>?_⟩
    rw[fc]at hx
    rw[hx];exact⟨sQ,pU⟩
   refine cE0 λW wt wf=>?_
   have Jg:∀z:Bool,z=false->W z [some (cP m),some (D.fz (aJ ns)),some (D.int (b:Nat)),some (D.int r),some (D.int wi),some (D.int y),some (D.lst true (ax true G)),some (D.int i),some (D.lst true (aq row))]:=λz hz=>by
    subst hz
    refine wf _ ?_
    walk_at"l3"
    exact fin2 row pU sQ
   dsimp only[ qP,oh,qQ,qR,oi,dT,k7,mF,mG,dC,nX,mH,n6,nZ,n8,qO,mL,rE,oM,rF,rG,qI,qJ,qK,qL,by4,qN,nY,ug,oE,oF,ii,ot,qZ,ow,q0,q8,q9,rh,rj,rk,iI,gR,rn,rp,rq,rz,oA,oB,lC,rB,rC,gN,rH,rD,qS,qU,qV,qW,qX,qY,rJ,rK,mJ,i8,fh,i7,gx,nz,p7,tu,vK,og,jW,i6,oH,oI,lN,rO,rR,rQ,rS,rT,kH,jx,rW,oW,rU,iM,jy,uO,uP,da,jH,qk,p9,gH,vL,aV,tw,tD,kq,kr,tE,exists_eq_left',exists_eq_left,D.bl.injEq,D.int.injEq,D.lst.injEq,D.fz.injEq,D.str.injEq,D.tup.injEq,vM,and_true,true_and,de,qj,kn,kQ,ui,uj,uk,um,uo,uq,fB,jU,lK,uw,uz,uA,uB,uC,cU,kC,rL,ur,uu,uv,eZ,nU,vN,vO,pW,ix,vP,vQ,sV,uG,uH,uI,uJ,uK,uL,uM,lL,lM,oO,jw,oQ,uE,rN,uD,oR,uF,j3,rM,if_true,mh,if_false,reduceIte,uN,decide_eq_true_eq,eI,kI,mR,uS,mS,uR,qT,se,rV,oZ,pd,pf,sk,sD,pJ,fC,pH,kJ,u4,pG,sG,sH,sI,pL]
   walk_at"l3"
   refine⟨lj (by decide) (by decide),by decide,?_⟩
   split
   ·split
    ·rename_i h0
     refine⟨jn.ok (.inl ⟨by omega,by omega⟩),ns,_,rfl,by omega,by omega,?_⟩
     dsimp only
     refine⟨lj (by decide) (by decide),by decide,?_⟩
     cases hc:decide (fY ns ((b:Int)+(i:Int)*(wi:Int))/64%2=1)with
     | false=>exact Jg _ rfl
     | true =>
      refine wt _ ?_
      dsimp only[ qP,oh,qQ,qR,oi,dT,k7,mF,mG,dC,nX,mH,n6,nZ,n8,qO,mL,rE,oM,rF,rG,qI,qJ,qK,qL,by4,qN,nY,ug,oE,oF,ii,ot,qZ,ow,q0,q8,q9,rh,rj,rk,iI,gR,rn,rp,rq,rz,oA,oB,lC,rB,rC,gN,rH,rD,qS,qU,qV,qW,qX,qY,rJ,rK,mJ,i8,fh,i7,gx,nz,p7,tu,vK,og,jW,i6,oH,oI,lN,rO,rR,rQ,rS,rT,kH,jx,rW,oW,rU,iM,jy,uO,uP,da,jH,qk,p9,gH,vL,aV,tw,tD,kq,kr,tE,exists_eq_left',exists_eq_left,D.bl.injEq,D.int.injEq,D.lst.injEq,D.fz.injEq,D.str.injEq,D.tup.injEq,vM,and_true,true_and,de,qj,kn,kQ,ui,uj,uk,um,uo,uq,fB,jU,lK,uw,uz,uA,uB,uC,cU,kC,rL,ur,uu,uv,eZ,nU,vN,vO,pW,ix,vP,vQ,sV,uG,uH,uI,uJ,uK,uL,uM,lL,lM,oO,jw,oQ,uE,rN,uD,oR,uF,j3,rM,if_true,mh,if_false,reduceIte,uN,decide_eq_true_eq,eI,kI,mR,uS,mS,uR,qT,se,rV,oZ,pd,pf,sk,sD,pJ,fC,pH,kJ,u4,pG,sG,sH,sI,pL]
      walk_at"l3"
      have g0:0<G.length:=by omega
      have g1:i-1<G.length:=by omega
      have l0:0<aa m:=by omega
      refine⟨.int (row.getD 0 0:Nat),by rw[j6 (by omega) (by show 0<row.length;omega)];rfl,.int (row.getD (wi-1) 0:Nat),by rw[j6 (by omega) (by omega),show((wi:Int)-1).toNat=wi-1 by omega],by decide,.lst true (aq G[0]),u5 true g0,.lst true (aq G[i-1]),by rw[show((i:Int)-1)=((i-1:Nat):Int) by omega];exact u5 true g1,by decide,?_⟩
      refine⟨m,[row.getD 0 0,row.getD (wi-1) 0],[G[0],G[i-1]],wi,by rw[mX,mX];rfl,hm,λx hx=>?_,by show 2<=64;omega,rfl,by omega,λx hx=>?_,ij _,fin2 _ (N8 hm _ rfl) (GY _ _ _ _)⟩
      ·simp only[bR,gJ,or_false]at hx
       rcases hx with rfl | rfl
       ·exact pU.getD l0 _
       ·exact pU.getD l0 _
      ·simp only[bR,gJ,or_false]at hx
       rcases hx with rfl | rfl
       ·exact hR _ (dE g0)
       ·exact hR _ (dE g1)
    ·exact Jg _ rfl
   ·exact Jg _ rfl
  refine⟨by decide,?_⟩
  split
  ·refine vj row (λ(i:Nat)=>D.int ((i%2:Nat):Int)) (λx hx=>?_) (.inr λ_ _=>rfl) ?_
   ·walk_at"l3"
    exact⟨by decide,by omega⟩
   ·have:=fin (row.map (· % 2)) (λa ha=>by
     obtain⟨x,_,rfl⟩:=bw.mp ha
     omega) (by rw[bq];exact sQ)
    rw[cO,bW]at this
    exact this
  ·exact fin row pU sQ
 ·rintro δ ⟨G,o1,o2,rfl,hG,hR⟩
  refine hU _ ?_
  walk_at"l3"
  exact q G hG hR
theorem DF{m:Bool × Nat}(hm:m∈aw){G:List (List Nat)}(hR:RT (aa m) (ai G) G)(h:G.length<ai G)(hw:ai G<=64):eR m G:=by
 refine⟨hm,hR,by omega,hw,?_⟩
 obtain⟨⟨H,I⟩,iR,_⟩:=ka hm hR
 have f:=I.G0 hm iR
 have r:=cg7 hm hR hR λi hi=>by
  rw[aN,aM hi]
  exact bX.of (dE hi)
 unfold b8
 omega
theorem Jh{m:Bool × Nat}(hm:m∈aw){G:List (List Nat)}(hR:RT (aa m) (ai G) G)(h:G.length<ai G):∃Fb,fk m G=some Fb:=by
 cases e:fk m G with
 | some Fb=>exact⟨Fb,rfl⟩
 | none=>exact absurd (OE hm (by omega) hR e (aL (ai G)) (Hk (bE _))) (Hl hm hR (by rw[bV];exact h))
noncomputable abbrev aM3(t:cF):aW:=λds Q=>∃(m:Bool × Nat) (ns:List Int),ds=[cP m,.fz (aJ ns),fD t.aY t.a9 m]/\m∈aw/\∀(G:List (List Nat)) (k:Kd),eR m G->1<=G.length->2<=ai G->ai G<=12->zK m G k->ai G<=5->(∃Fb,fk m G=some Fb/\Fb.length=vi G k)->Q (dS t m G k)
theorem aM4(T:Txt K mg t)(hB:Bm mg base):aH P w K mg base aP 7 t.Se t.Sf ["_law_told_here","_law_script","_law_field_here"] (rY [t.jC,t.jD] (a6 (aM3 t))):=by
 refine y7 T.Dr.F xo (λds Q h=>by obtain⟨m,ns,rfl,hm,q⟩:=h<;>rfl) λay A outer s H E hT hr=>⟨_,(aE (bc (i:=3) xo.nd rfl (aA rfl) (bg T.ke (kM T) hr (ag (bv 1) (ag (ae ao) av))))
   (aE (bc (i:=4) xo.nd rfl (aA rfl) (aB dw (ae ao) (ae (aB cX (ae (aB ly (bv 3) (ae ao))) (ae ao)))))
   (aE (bc (i:=5) xo.nd rfl (aA rfl) (bg T.ke (kM T) hr (ag (bv 1) (ag (ae ao) av))))
   (aE (bc (i:=6) xo.nd rfl (aA rfl) (bg T.vm (xw T) hr (ag (bv 0) av)))
   (aE (cq (PW.pt (BK (bJ (fQ (cN hr)) (ae (aB cX (bv 3) (ae ao))) (ae ao) (bA _)) (Ek (bJ wu (bv 6) (ae ao) (bA _))))) (aE (bc (i:=4) xo.nd rfl (aA rfl) (eH (cC6 rfl) (by rfl) T.da7 Y5 (ag (bv 4) (ag (ae (aB fi (bv 6) (ae ao))) av))))
    (aC (aQ (zI hT T.Tj ((U9 T hB).mono (by decide)) hr rfl T.Ta T.dd2 cL (ag (bv 2) (ag (bv 4) (ag (ae (aB dw (ae ao) (ae (aB cX (bv 5) (ae (aB fi (bv 4) (ae ao))))))) (ag (ae (aB cX (ae (aB ly (bv 5) (ae ao))) (ae (aB fi (bv 6) (ae ao))))) av)))))))) cI)
   (aE (cq (bJ (fQ (cN hr)) (ae (aB cX (bv 3) (ae ao))) (ae ao) (bA _)) (aC (aQ (zI hT T.Ti ((Vc T hB).mono (by decide)) hr rfl T.S9 T.IE.b cL (ag (bv 2) (ag (bv 4) av))))) cI)
   (aC (aQ (zI hT T.Th ((U8 T hB).mono (by decide)) hr rfl T.S7 T.ID.b cL (ag (bv 2) (ag (OK (bg T.Tw (aK2 T) hr (ag (bv 0) (ag (bv 1) (ag (ae ao) (ag (ae (aB dw (ae ao) (ae (aB cX (bv 5) (ae (aB fi (bv 4) (ae ao))))))) (ag (bv 4) (ag (ae (aB cX (ae (aB ly (bv 5) (ae ao))) (ae ao))) av)))))))) av))))))))))),λds Q h=>?_⟩
 obtain⟨m,ns,rfl,hm,q⟩:=h
 have hF:=bZ hm
 have cT:=hF.lo
 have Ap:=hF.hi
 have xC:=uZ m hm
 refine aD λU hU=>?_
 walk_at"l3"
 refine⟨ns,1,rfl,by decide,by decide,hU _ ?_⟩
 clear hU U
 generalize fY ns 1=pk
 refine aD λU hU=>?_
 walk_at"l3"
 obtain⟨n,en,ye,hn5⟩:∃k:Nat,2+pk/3%4=k/\2<=k/\k<=5:=⟨(2+pk/3%4).toNat,by omega,by omega,by omega⟩
 rw[en]
 refine⟨lj (by decide) (by decide),by decide,hU _ ?_⟩
 clear hU U en
 refine aD λU hU=>?_
 walk_at"l3"
 refine⟨ns,2,rfl,by decide,by decide,hU _ ?_⟩
 clear hU U
 generalize fY ns 2=mr
 refine aD λU hU=>?_
 walk_at"l3"
 refine⟨m,rfl,by omega,by omega,hU _ ?_⟩
 clear hU U
 refine aD λU hU=>?_
 walk_at"l3"
 refine⟨by decide,?_⟩
 suffices h:U [some (cP m),some (D.fz (aJ ns)),some (fD t.aY t.a9 m),some (D.int pk),some (D.int n),some (D.int mr),some (D.int (aa m))] by
  split
  ·split
   ·clear hU h
    refine aD λU hU=>?_
    walk_at"l3"
    obtain⟨n',en,dC8,hnM,dC9⟩:∃k:Nat,(if(aa m:Int)-1<n then(aa m:Int)-1 else n)=k/\2<=k/\k+1<=aa m/\k<=5:=⟨(if(aa m:Int)-1<n then(aa m:Int)-1 else n).toNat,by split<;>omega,by split<;>omega,by split<;>omega,by split<;>omega⟩
    rw[en]
    refine hU _ ?_
    clear hU U en
    walk_at"l3"
    obtain⟨e,ee,Ai,hen⟩:∃k:Nat,1+mr%((n':Int)-1)=k/\1<=k/\k+1<=n':=by
     have n0:=ir mr (show(n':Int)-1≠0 by omega)
     have n1:=iu mr (show 0<(n':Int)-1 by omega)
     exact⟨(1+mr%((n':Int)-1)).toNat,by omega,by omega,by omega⟩
    obtain⟨f,ef,hf⟩:∃f:Nat,mr/64%((aa m:Int)-1)=f/\f+2<=aa m:=by
     have n0:=ir (mr/64) (show(aa m:Int)-1≠0 by omega)
     have n1:=iu (mr/64) (show 0<(aa m:Int)-1 by omega)
     exact⟨(mr/64%((aa m:Int)-1)).toNat,by omega,by omega⟩
    rw[ee,ef]
    refine⟨by omega,lj (by decide) (by decide),by omega,_,_,⟨m,n',e,f,rfl,hm,by omega,by omega,by omega,by omega,by omega,rfl,rfl⟩,?_⟩
    rw[fv,xf]
    obtain⟨g1,g2,g3⟩:=Hr hm f n' (show 1<=e by omega)
    exact q (fJ m f (aL n') e) (.vd e f) (DF hm (by rw[g3];exact g1) (by omega) (by omega)) (by omega) (by omega) (by omega) ⟨cg6 hm (by omega) g3,by show 1<=e+1;omega,λ_ _ z=>by cases z;rw[g3];exact⟨rfl,by omega,by omega,by omega,by omega⟩⟩ (by omega) ⟨aL (e+1),by rw[(Hu hm (f:=f) (e:=e) (by omega)).first hm (by omega) g3,if_pos (by omega)],bV⟩
   ·exact h
  ·exact h
 refine hU _ ?_
 clear hU U
 refine aD λU hU=>?_
 walk_at"l3"
 refine⟨by decide,?_⟩
 split
 ·refine⟨_,_,⟨m,n,rfl,hm,by omega,by omega,rfl,rfl⟩,?_⟩
  obtain⟨r1,r2,r3⟩:=xb hm (show 2<=n by omega)
  rw[xf]
  have Ar:RT (aa m) (ai (eE m n)) (eE m n):=by rw[r3];exact r1
  have aR:vg m (eE m n) (ai (eE m n)):=by rw[r3];exact co1 hm (by omega)
  obtain⟨Fb,eF⟩:=Jh hm Ar (by omega)
  refine q (eE m n) .rep (DF hm Ar (by omega) (by omega)) (by omega) (by omega) (by omega) ⟨aR,by show 1<=ai (eE m n);omega,λ_ _ z=>nomatch z⟩ (by omega) ⟨Fb,eF,?_⟩
  obtain⟨f1,f2,-,-⟩:=m4 hm (by omega) Ar eF
  obtain⟨l1,l2,l3⟩:=OY hm (by omega) Ar eF
  have l4:=OX hm Ar aR l1 (by omega)
  have l5:=wZ (OW f1) (l':=aL (ai (eE m n))) λa ha=>bU.mpr (f1.2 a ha)
  rw[bV]at l5
  show Fb.length=ai (eE m n)
  omega
 refine hU _ ?_
 clear hU U
 walk_at"l3"
 obtain⟨e,ee,Ai,hen⟩:∃k:Nat,1+mr%((n:Int)-1)=k/\1<=k/\k+1<=n:=by
  have n0:=ir mr (show(n:Int)-1≠0 by omega)
  have n1:=iu mr (show 0<(n:Int)-1 by omega)
  exact⟨(1+mr%((n:Int)-1)).toNat,by omega,by omega,by omega⟩
 obtain⟨y,ey⟩:∃k:Nat,mr/64%4=k:=⟨(mr/64%4).toNat,by omega⟩
 rw[ee,ey]
 refine⟨by omega,lj (by decide) (by decide),by decide,m,ns,20,e,n,y,rfl,hm,by decide,by omega,by omega,by omega,λG lG hG=>?_⟩
 have wG:ai G=n:=u9 hG λz=>by rw[z]at lG;exact absurd lG (by show ¬ 0=e;omega)
 rw[<-wG]at hG
 obtain⟨Fb,eF⟩:=Jh hm hG (by omega)
 have cG:=DF hm hG (by omega) (by omega)
 have fs:=m4 hm (by omega) hG eF
 have aG:zK m G (.pM Fb.length):=⟨Ht hm hG λS hS hl=>fs.2.2.2 S hS (.inl hl),fs.2.1,λ_ _ z=>nomatch z⟩
 have sg:=cG.OT aG.Hv
 have sz:=cG.sz
 have kd:vi G (.pM Fb.length)=Fb.length:=rfl
 dsimp only
 rw[cU,fC]
 refine⟨by rw[fB,pH];rfl,_,_,⟨m,G,Fb,rfl,cG,by omega,by omega,by omega,by omega,eF,rfl,rfl⟩,?_⟩
 rw[fv,xf]
 exact q G (.pM Fb.length) cG (by omega) (by omega) (by omega) aG (by omega) ⟨Fb,eF,rfl⟩
noncomputable abbrev aG3(t:cF):oS:=λds Q Ex=>∃(m:Bool × Nat) (G:List (List Nat)) (k:Kd),ds=[dS t m G k]/\(ai G<=12->Q .au)/\(12<ai G->Ex t.iV)
theorem DG(T:Txt K mg t):aH P w K mg base (kz P w) 1 t.Sg t.Sh ["code"] (oU (aG3 t )):=by
 refine BX T.kg.F aF1 (λds Q Ex h=>by obtain⟨m,G,k,rfl,q,qx⟩:=h<;>rfl) λay A outer s H E hr=>⟨_,(aC (cq (bJ wu (eB (K:=K) (bv 0)) (ae ao) (bA _)) (aC (ck6 T.de7 rfl (by rfl) (ag (ae π) av))) cI)),λds Q Ex h=>?_⟩
 obtain⟨m,G,k,rfl,q,qx⟩:=h
 walk_at"l3"
 refine Ac T m G k ?_
 dsimp only
 split
 ·exact⟨by decide,qx (by omega)⟩
 ·exact q (by omega)
noncomputable abbrev aP0(t:cF):aW:=λds Q=>∃(m:Bool × Nat) (G:List (List Nat)),ds=[fD t.aY t.a9 m,.lst false (ax false G)]/\m∈aw/\G.length<=900/\RT (aa m) (ai G) G/\ai G<=900/\(∀r∈bh m G,∃x∈r,x≠0)/\Q (.lst true (ax true (gY m (bh m G) (ai G))))
theorem aP1(T:Txt K mg t):aH P w K mg base aP 4 t.Si t.Sj ["field","table"] (a6 (aP0 t)):=by
 refine bo T.Tx.F aO5 (λds Q h=>by obtain⟨m,G,rfl,hm,hG,hR,hw,hn,q⟩:=h<;>rfl) λay A outer s H E hr=>⟨_,(aC (aQ (bg T.zX (UP T) hr (ag (bv 0) (ag (ae (bg T.xt (IM T) hr (ag (bv 0) (ag (bv 1) av)))) (ag (ae (bg T.pQ (xx T) hr (ag (bv 1) av))) av)))))),λds Q h=>?_⟩
 obtain⟨m,G,rfl,hm,hG,hR,hw,hn,q⟩:=h
 walk_at"l3"
 refine⟨m,G,rfl,hm,hG,hR,hw,?_⟩
 have I:=zy hm hR (ai G)
 refine⟨G,rfl,by omega,λr aZ=>by rw[(hR r aZ).1];omega,m,bh m G,ai G,by rw[cU,fC,lK],hm,?_,by omega,I.a,hn,?_,q⟩
 ·show(jB m G (ai G)).1.length<=1000
  have:=I.l
  omega
 ·rw[show ∀X:List (List Nat),(D.lst true (ax true X)).fr=true from λX=>by rw[eZ,mZ];rfl,ix]
noncomputable abbrev aP2:aW:=λds Q=>∃(G:List (List Nat)) (F:List Nat) (N w:Nat),ds=[.lst false (ax false G),.lst false (aq F)]/\RT N w G/\(∀j∈F,j<w)/\G.length<=1000/\F.length<=1000/\Q (.lst true (ax true (cZ G F)))
theorem aP3(T:Txt K mg t):aH P w K mg base aP 1 t.Sk t.Sl ["table","places"] (a6 (aP2 )):=by
 refine bo T.Tz.F aO6 (λds Q h=>by obtain⟨G,F,N,wi,rfl,hR,hF,hG,hFl,q⟩:=h<;>rfl) λay A outer s H E hr=>⟨_,(aC (aQ (di [("places",1)] ["row"] rfl (gg (bv 0)) (λ_ _ _ _=>(dQ (i:=1) (show(["places","row"]:List Str).Nodup by decide +kernel))) (λ_ _ _ _=>dB) (by exact λ_ _ _ _=>(di [("row",1)] ["j"] rfl (gg (bv 0)) (λ_ _ _ _=>(dQ (i:=1) (show(["row","j"]:List Str).Nodup by decide +kernel))) (λ_ _ _ _=>dB) (λ_ _ _ _=>(du (bB (bv 0) (bv 1) (λ_ _=>rfl)))) rfl)) rfl))),λds Q h=>?_⟩
 obtain⟨G,F,N,wi,rfl,hR,hF,hG,hFl,q⟩:=h
 walk_at"l3"
 refine m9 G (λr=>D.lst true (aq (F.map λj=>r.getD j 0))) (λr aZ=>?_) (.inr λr _=>ij _) ?_
 ·have hl:=(hR r aZ).1
  walk_at"l3"
  refine vj F (λ(j:Nat)=>D.int ((r.getD j 0:Nat):Int)) (λj hj=>?_) (.inr λ_ _=>rfl) ?_
  ·have:=hF j hj
   walk_at"l3"
   exact⟨.int (r.getD j 0:Nat),by rw[j6 (by omega) (by omega),iq],rfl,rfl⟩
  ·rw[cO,bW];rfl
 ·unfold cZ ax at q
  rw[bW]at q
  exact q
noncomputable abbrev aG4(t:cF):aW:=λds Q=>∃(m:Bool × Nat) (G:List (List Nat)),ds=[fD t.aY t.a9 m,.lst false (ax false G)]/\m∈aw/\G.length<=64/\RT (aa m) (ai G) G/\0<ai G/\ai G<=12/\Q (An ((fk m G).map (fX m G)))
theorem Vf(T:Txt K mg t):aH P w K mg base aP 5 t.Sm t.Sn ["field","table"] (a6 (aG4 t)):=by
 refine bo T.Iw.F xp (λds Q h=>by obtain⟨m,G,rfl,hm,hG,hR,kN,hw,q⟩:=h<;>rfl) λay A outer s H E hr=>⟨_,(aE (bc (i:=2) xp.nd rfl (aA rfl) (bg T.zY (U6 T) hr (ag (bv 0) (ag (bv 1) av))))
   (aE (cq (bJ cG7 (bv 2) (ae yw) (bA _)) (aC (aQ yw)) cI)
   (aE (bc (i:=3) xp.nd rfl (aA rfl) (cz6 (bg T.Tx (aP1 T) hr (ag (bv 0) (ag (ae (bg T.Tz (aP3 T) hr (ag (bv 1) (ag (bv 2) av)))) av))) (λ_ _=>rfl)))
   (aE (bc (i:=4) xp.nd rfl (aA rfl) (iS (P:=P) (w:=w) (K:=K) (mg:=mg) (base:=base) (n:=2) (bv 0) (hr.mono (by decide)) (ag (ae ao) (ag (bB (bv 3) (ae ao) (λ_ _=>rfl)) av))))
   (aE (bc (i:=5) xp.nd rfl (aA rfl) (aB gU (ae (eD (cW ao dv))) (ae (bg T.pQ (xx T) hr (ag (bv 1) av)))))
   (BN 2 (aE (iK f7 rfl (cy0 rfl T.vk (bv 2) (iS (P:=P) (w:=w) (K:=K) (mg:=mg) (base:=base) (n:=1) (bv 0) (hr.mono (by decide)) (ag (bv 4) (ag (bv 3) av)))) (mQ (i1:=6) (i2:=7) rfl xp.nd rfl (aA rfl) rfl (aA rfl))
    (aC (yQ (i:=5) rfl (by first | exact aA rfl | exact cJ (aA rfl)) (du (bv 7)) (bv 6))))
   (aC (aQ (em 5)))))))))),λds Q h=>?_⟩
 obtain⟨m,G,rfl,hm,hG,hR,kN,hw,q⟩:=h
 have cT:=(bZ hm).lo
 refine aD λU hU=>?_
 walk_at"l3"
 refine⟨m,G,rfl,hm,hG,hR,kN,by omega,hU _ ?_⟩
 clear hU U
 cases e:fk m G with
 | none =>
  rw[e]at q
  dsimp only[An]
  refine aD λU hU=>?_
  walk_at"l3"
  exact q
 | some F =>
  rw[e]at q
  obtain⟨⟨f,fs,ef⟩,k1,k2,k3,_⟩:=OG hm kN hR e
  obtain⟨s1,s2,_,_,_⟩:=OH hm kN hR e
  obtain⟨a1,a2,_,_⟩:=m4 hm kN hR e
  have fl:=a1.len
  have hG0:G≠[]:=λz=>by rw[z]at kN;exact absurd kN (by decide)
  have p1:=(CT (F:=F) (show 0<aa m by omega) hR).1
  have p2:=(CT (F:=F) (show 0<aa m by omega) hR).2
  have eW:=u9 p1 (λz=>hG0 (by unfold cZ at z;exact VW.mp z))
  rw[<-eW]at p1
  obtain⟨⟨Hd,I⟩,iR,il,sp⟩:=ka hm p1
  have ek:gY m (bh m (cZ G F)) (ai (cZ G F))=gE m G F::fs.map (dJ m (bh m (cZ G F)) F.length):=by
   unfold gY gE
   rw[eW,ef];rfl
  have hn:∀r∈bh m (cZ G F),∃x∈r,x≠0:=λr aZ=>by
   obtain⟨i,hi,rfl⟩:=gI aZ
   have:=(I.CL hm iR hi).2
   rw[G5 hi]at this
   exact this
  dsimp only[An]
  refine aD λU hU=>?_
  walk_at"l3"
  refine hU _ ?_
  clear hU U
  refine aD λU hU=>?_
  walk_at"l3"
  refine⟨G,F,aa m,ai G,rfl,hR,a1.2,by omega,by omega,?_⟩
  refine⟨by rw[eZ,mZ];rfl,m,cZ G F,by rw[cU,fC],hm,by omega,p1,by omega,hn,?_⟩
  rw[ek]
  refine⟨by rw[eZ,mZ,kn,ix],_,_,rfl,hU _ ?_⟩
  clear hU U
  have kl:=dh hm k2 0
  refine aD λU hU=>?_
  walk_at"l3"
  refine⟨_,_,_,_,sC _ _ m,IL T m,GA m _ (by decide),.int ((gE m G F).getD 0 0:Nat),by rw[j6 (by omega) (by omega)];rfl,m,1,(gE m G F).getD 0 0,by rw[sC];rfl,hm,cT,kl,λz=>absurd z (k3 0 a2),λ_ iv Am zF=>?_⟩
  have ei:j9 m ((gE m G F).getD 0 0)=iv:=wX hm Am zF
  refine⟨rfl,hU _ ?_⟩
  clear hU U
  refine aD λU hU=>?_
  walk_at"l3"
  have er:(aV (ai G) [D.int 0]).flatten=aq (aV (ai G) 0):=by
   rw[List.flatten_replicate_singleton,cO,AW];rfl
  refine⟨by decide,G,rfl,by omega,λr aZ=>by rw[(hR r aZ).1];omega,?_⟩
  dsimp only
  rw[iq,er]
  refine⟨⟨by omega,by omega,?_,rfl⟩,hU _ ?_⟩
  ·show 1*_<=_;omega
  clear hU U
  refine⟨_,rfl,?_⟩
  rw[mX]
  simp only[kr,kq]
  obtain⟨C,ns,xs,sp,e1,e2,e3,e4⟩:=UA (P:=P) (w:=w) (base:=base) T hm
  have el:(gE m G F).map (gm m iv)=gF m G F:=by unfold gF;rw[ei]
  refine aD λU hU=>?_
  walk_at"l3"
  refine⟨C,ns,xs,sp,e1,e2,e3,e4 (gE m G F) iv _ Am k2 (by omega) ⟨ij _,?_⟩⟩
  rw[el]
  refine⟨_,_,rfl,rfl,?_⟩
  rw[mR]
  refine gQ.mk (λi δ=>∃o6 o7,δ=[some (fD t.aY t.a9 m),some (D.lst false (ax false G)),some (D.lst false (aq F)),some (D.lst true (aq (gE m G F))),some (D.int iv),some (D.lst true (aq (((F.zip (gF m G F)).take i).foldl (λr z=>r.set z.1 z.2) (aV (ai G) 0)))),o6,o7]) ⟨_,_,rfl⟩ ?_ ?_
  ·rintro i d δ hd ⟨o6,o7,rfl⟩
   obtain⟨hi,hj,rfl⟩:=co4 hd
   clear hd hU
   have xl:=GJ (λz:Nat × Nat=>z.1) (λz=>z.2) ((F.zip (gF m G F)).take i) (aV (ai G) 0)
   rw[fP]at xl
   have hp:=a1.2 _ (dE hi)
   walk_at"l3"
   refine⟨_,F[i],rfl,?_,_,_,?_,rfl,rfl⟩
   ·rw[zo (by omega) (by rw[eI,xl];omega)];rfl
   ·rw[GD,qh,xP]
    have ez:(F.zip (gF m G F))[i]?=some (F[i],(gF m G F)[i]):=by
     rw[D0,nC,aM hi,aM hj]
    rw[ez];rfl
  ·rintro δ ⟨o6,o7,rfl⟩
   refine hU _ ?_
   walk_at"l3"
   rw[show(F.zip (gF m G F)).take (dG (aq F) (aq (gF m G F))).length=F.zip (gF m G F) from xH (by rw[b21,AQ];exact bE _)]
   exact q
noncomputable abbrev aI3(t:cF):aW:=λds Q=>∃(m:Bool × Nat) (G:List (List Nat)) (k:Kd),ds=[dS t m G k]/\eR m G/\Q (.lst true (ax true G))
theorem Vg(T:Txt K mg t):aH P w K mg base aP 2 t.zR t.So ["self"] (a6 (aI3 t)):=by
 refine bo T.IF.F aH4 (λds Q h=>by obtain⟨m,G,k,rfl,hc,q⟩:=h<;>rfl) λay A outer s H E hr=>⟨_,(aC (aQ (bg T.zV (UJ T) hr (ag (eB (K:=K) (bv 0)) av)))),λds Q h=>?_⟩
 obtain⟨m,G,k,rfl,hc,q⟩:=h
 have hl:=hc.len
 walk_at"l3"
 exact bR1 T m G k ⟨_,by rw[cU,fC],by omega,by rw[eZ,mZ,kQ,ix],q⟩
noncomputable def Vh(t:cF):oS:=λds _ Ex=>∃(m:Bool × Nat) (G:List (List Nat)) (k:Kd),ds=[dS t m G k]/\12<ai G/\Ex t.iV
theorem cv5(T:Txt K mg t):aH P w K mg base (kz P w) 2 t.HS t.HU ["code"] (oU (Vh t)):=by
 refine BX T.vn.F Qk (λds Q E ⟨m,G,k,h,_⟩=>by rw[h];rfl) λay A outer s H E hr=>⟨_,aE (wH (wF ((DG T).mono (by decide)) hr rfl T.kg.g T.kg.F.kp T.kg.b rfl (ag (bv 0) av))) Fu,λds Q Ex h=>?_⟩
 obtain⟨m,G,k,rfl,hw,q⟩:=h
 refine aD λU hU=>?_
 walk_at"l3"
 rw[sJ]
 exact⟨m,G,k,rfl,λw=>absurd w (by omega),λ_=>q⟩
noncomputable abbrev aN3(t:cF):aW:=λds Q=>∃(m:Bool × Nat) (G:List (List Nat)) (k:Kd) (Fb:List Nat),ds=[dS t m G k]/\eR m G/\1<=ai G/\ai G<=12/\fk m G=some Fb/\Q (.lst true (aq (fX m G Fb)))
theorem Vi(T:Txt K mg t):aH P w K mg base aP 6 t.HS t.HU ["code"] (a6 (aN3 t)):=by
 refine bo T.vn.F Qk (λds Q h=>by obtain⟨m,G,k,Fb,rfl,hc,w1,w6,eF,q⟩:=h<;>rfl) λay A outer s H E hr=>⟨_,(aE (Fv (ae (t9 (ci2 ((DG T).mono (by decide))) hr rfl T.kg.g T.kg.F.kp T.kg.b cB9 (ag (bv 0) av))))
   (aC (aQ (bg T.Iw (Vf T) hr (ag (eB (K:=K) (bv 0)) (ag (ae (Gz (P:=P) (w:=w) (K:=K) (mg:=mg) (base:=base) (n:=2) (bv 0) (hr.mono (by decide)))) av)))))),λds Q h=>?_⟩
 obtain⟨m,G,k,Fb,rfl,hc,w1,w6,eF,q⟩:=h
 refine aD λU hU=>?_
 walk_at"l3"
 rw[sJ]
 refine⟨m,G,k,rfl,λ_=>⟨by rw[Hq];rfl,hU _ ?_⟩,λw=>absurd w (by omega)⟩
 clear hU U
 walk_at"l3"
 refine II T m G k ?_
 refine Ut T T.Te T.Tf T.Tg (Vg T) T.IF.b (by decide) ⟨m,G,k,rfl,hc,?_⟩
 dsimp only
 refine⟨m,G,by rw[zi,cU,fC],hc.hm,hc.len,hc.rt,by omega,by omega,?_⟩
 rw[eF]
 refine⟨?_,q⟩
 show(_||(D.lst true (aq (fX m G Fb))).fr)=true
 rw[ij,ix]
noncomputable abbrev aE2:aW:=λds Q=>∃(o:Bool) (xs:List D),ds=[.lst false xs,.int (xs.length:Nat)]/\Q .au
theorem aE3(T:Txt K mg t):aH P w K mg base aP 1 t.Sq t.Sr ["signs","length"] (a6 (aE2 )):=by
 refine bo T.TB.F aD1 (λds Q h=>by obtain⟨o,xs,rfl,q⟩:=h<;>rfl) λay A outer s H E hr=>⟨_,(aC (cq (bJ (jc (cN hr)) (ae (eH (ib) (by rfl) T.g5 gM (ag (bv 0) av))) (bv 1) (bA _)) (aC BM) cI)),λds Q h=>?_⟩
 obtain⟨o,xs,rfl,q⟩:=h
 walk_at"l3"
 rw[if_neg (by decide)]
 exact q
noncomputable abbrev aA8(t:cF):aW:=λds Q=>∃(m:Bool × Nat) (l:List Nat),ds=[fD t.aY t.a9 m,.lst false (aq l)]/\m∈aw/\AllLt (aa m) l/\l.length<=64/\Q .au
theorem aA9(T:Txt K mg t):aH P w K mg base aP 2 t.Ss t.Su ["field","signs"] (a6 (aA8 t)):=by
 refine bo T.TC.F Qn (λds Q h=>by obtain⟨m,l,rfl,hm,hl,Ja,q⟩:=h<;>rfl) λay A outer s H E hr=>⟨_,(aC (iK f7 rfl (wK rfl T.xq (ag (bv 1) av)) (mQ (i1:=2) (i2:=3) rfl Qn.nd rfl (aA rfl) rfl (aA rfl))
    (aC (cq (t7 (jV (ae (iS (P:=P) (w:=w) (K:=K) (mg:=mg) (base:=base) (n:=1) (bv 0) (hr.mono (by decide)) (ag (bv 3) av))))) (aC BM) cI)))),λds Q h=>?_⟩
 obtain⟨m,l,rfl,hm,hl,Ja,q⟩:=h
 walk_at"l3"
 refine gQ.mk (λj δ=>∃o1 o2,δ=[some (fD t.aY t.a9 m),some (D.lst false (aq l)),o1,o2]) ⟨_,_,rfl⟩ ?_ ?_
 ·rintro j d δ hd ⟨o1,o2,rfl⟩
  obtain⟨h1,rfl⟩:=b35 hd
  have:=hl _ (dE h1)
  walk_at"l3"
  refine UY T m (.inl ⟨_,rfl,?_⟩)
  rw[decide_eq_true (by omega),decide_eq_true (by omega)]
  exact⟨true,rfl,by rw[if_neg (by decide)];exact⟨_,_,rfl,rfl⟩⟩
 ·rintro δ ⟨o1,o2,rfl⟩
  exact q
noncomputable abbrev Vj(K:Frag):aW:=λds Q=>∃(C:Addr) (p:Nat) (xs ys:List Nat),ds=[uY C p,.lst false (aq xs),.lst false (aq ys)]/\cE K C/\bf K C "products"/\p∈gW/\xs.length=ys.length/\xs.length<=64/\(∀x∈xs,x<aa (true,p))/\(∀y∈ys,y<aa (true,p))/\Q (.int ((dm (gm (true,p)) xs ys).foldl (· ^^^ ·) 0:Nat))
theorem aG5(T:Txt K mg t):aH P w K mg base aP 1 t.HV t.Sv ["self","xs","ys"] (a6 (Vj K)):=by
 refine bo T.T3.F zO (λds Q h=>by obtain⟨C,p,xs,ys,rfl,hC,hn,hp,hl,kO,hx,hy,q⟩:=h<;>rfl) λay A outer s H E hr=>⟨_,(aE (bc (i:=3) zO.nd rfl (aA rfl) (du (eB (K:=K) (bv 0))))
   (aE (bc (i:=4) zO.nd rfl (aA rfl) ao)
   (aE (iK f7 rfl (wJ rfl T.vk (ag (bv 1) (ag (bv 2) av))) (mQ (i1:=5) (i2:=6) rfl zO.nd rfl (aA rfl) rfl (aA rfl))
    (aC (yA (i:=4) zO.nd rfl (aA rfl) (bB (bB (bv 3) (bv 5) (λ_ _=>rfl)) (bv 6) (λ_ _=>rfl)) BS)))
   (aC (aQ (em 4)))))),λds Q h=>?_⟩
 obtain⟨C,p,xs,ys,rfl,hC,hn,hp,hl,kO,hx,hy,q⟩:=h
 refine aD λU hU=>?_
 walk_at"l3"
 refine⟨C,_,_,_,rfl,hC,hn,rfl,by rw[fB,bO4];rfl,hU _ ?_⟩
 clear hU U
 refine aD λU hU=>?_
 walk_at"l3"
 refine hU _ ?_
 clear hU U
 refine aD λU hU=>?_
 walk_at"l3"
 refine⟨_,_,rfl,rfl,?_⟩
 refine gQ.mk (λi δ=>∃o1 o2,δ=[some (uY C p),some (.lst false (aq xs)),some (.lst false (aq ys)),some (.lst false (pq (fl (true,p)) (eQ (fl (true,p))))),some (.int (((dm (gm (true,p)) xs ys).take i).foldl (· ^^^ ·) 0:Nat)),o1,o2]) ⟨none,none,rfl⟩ ?_ ?_
 ·rintro i d δ hd ⟨o1,o2,rfl⟩
  obtain⟨hi,hj,rfl⟩:∃(hi:i<xs.length) (hj:i<ys.length),d=.tup [.int (xs[i]:Nat),.int (ys[i]:Nat)]:=by
   unfold dG at hd
   rw[cO,cO,AK]at hd
   by_cases hi:i<xs.length
   ·have hj:i<ys.length:=by omega
    rw[nC,aM hi,aM hj]at hd
    exact⟨hi,hj,(c9 hd).symm⟩
   ·rw[gn (by simp;omega)]at hd;cases hd
  have bO:=hx xs[i] (dE _)
  have Aq:=hy ys[i] (dE _)
  walk_at"l3"
  refine⟨_,Cy hp bO,_,Cw hp bO Aq,_,_,?_,rfl,rfl⟩
  rw[nS,List.take_succ,xP,nC,aM hi,aM hj];rfl
 ·rintro δ ⟨o1,o2,rfl⟩
  refine hU _ ?_
  walk_at"l3"
  have e:(dG (aq xs) (aq ys)).length=xs.length:=by unfold dG;rw[jJ,eI,eI];omega
  rw[e,xH (by rw[jJ];omega)]
  exact q
noncomputable abbrev Vk(K:Frag):aW:=λds Q=>∃(C:Addr) (p:Nat) (xs ys:List Int),ds=[uX C p,.lst false (aJ xs),.lst false (aJ ys)]/\cE K C/\bf K C "prime"/\0<p/\xs.length=ys.length/\xs.length<=64/\(∀x∈xs,0<=x/\x<64)/\(∀y∈ys,0<=y/\y<64)/\Q (.int ((dm (· * ·) xs ys).sum%p))
theorem aB0(T:Txt K mg t):aH P w K mg base aP 1 t.HW t.Sw ["self","xs","ys"] (a6 (Vk K)):=by
 refine bo T.T4.F az9 (λds Q h=>by obtain⟨C,p,xs,ys,rfl,hC,hn,hp,hl,kO,hx,hy,q⟩:=h<;>rfl) λay A outer s H E hr=>⟨_,(aC (aQ (aB cX (ae (eH (cD3 rfl) (by rfl) T.da8 Y6 (ag (ae (di [] ["x","y"] rfl (wJ rfl T.vk (ag (bv 1) (ag (bv 2) av))) (λ_ _ _ _=>(zJ (i1:=0) (i2:=1) (show(["x","y"]:List Str).Nodup by decide +kernel))) (λ_ _ _ _=>dB) (λ_ _ _ _=>(aB gU (bv 0) (bv 1))) rfl)) av))) (eB (K:=K) (bv 0))))),λds Q h=>?_⟩
 obtain⟨C,p,xs,ys,rfl,hC,hn,hp,hl,kO,hx,hy,q⟩:=h
 walk_at"l3"
 refine⟨_,_,rfl,rfl,?_⟩
 refine Nr (xs.zip ys) (λz=>D.tup [.int z.1,.int z.2]) (λz=>D.int (z.1*z.2)) (Nu xs ys) (λa b h=>by injection h with h;simp at h;exact Prod.ext h.1 h.2) (λz hz=>?_) Nt (.inr λ_ _=>rfl) (by rw[AQ,sL];omega) ?_
 ·have z1:=hx z.1 (vA hz).1
  have z2:=hy z.2 (vA hz).2
  walk_at"l3"
  exact jn.ok (.inr ⟨by omega,by omega⟩)
 ·refine⟨(xs.zip ys).map λz=>z.1*z.2,?_,?_⟩
  ·unfold aJ;rw[bW];rfl
  ·walk_at"l3"
   refine⟨C,_,_,.int p,rfl,hC,hn,rfl,?_⟩
   refine⟨by omega,?_⟩
   rw[List.map_zip_eq_zipWith]
   exact q
theorem cF0(T:Txt K mg t){m:Bool × Nat}(hm:m∈aw):∃C ns zs sp,fD t.aY t.a9 m=.obj C ns zs/\iO P w K mg base 1 "dot" C sp/\("dot":Str) ∉ ns/\∀(xs ys:List Nat) (Q:D->Prop),xs.length=ys.length->xs.length<=64->(∀x∈xs,x<aa m)->(∀y∈ys,y<aa m)->Q (.int (gd m xs ys:Nat))->sp [.obj C ns zs,.lst false (aq xs),.lst false (aq ys)] Q:=by
 have hF:=bZ hm
 obtain⟨k,n⟩:=m
 cases k with
 | true=>exact⟨_,_,_,Vj K,rfl,⟨T.fo,_,_,_,T.aF6,aG5 T,T.T3.b⟩,by decide,λxs ys Q hl kO hx hy q=>⟨_,n,xs,ys,rfl,T.fo,T.z7,wU hm,hl,kO,hx,hy,q⟩⟩
 | false =>
  have sP:n<=64:=hF.hi
  have l2:2<=n:=hF.lo
  have cx:∀l:List Nat,(∀x∈l,x<aa (false,n))->∀z∈l.map (λ(n:Nat)=>(n:Int)),0<=z/\z<64:=λl h z hz=>by
   obtain⟨x,hx,rfl⟩:=bw.mp hz
   have:x<n:=h x hx
   omega
  refine⟨_,_,_,Vk K,rfl,⟨T.fL,_,_,_,T.aA3,aB0 T,T.T4.b⟩,by decide,λxs ys Q hl kO hx hy q=>⟨_,n,xs.map (λ(n:Nat)=>(n:Int)),ys.map (λ(n:Nat)=>(n:Int)),rfl,T.fL,T.xv,by omega,by rw[bq,bq];exact hl,by rw[bq];exact kO,cx xs hx,cx ys hy,?_⟩⟩
  have e:((gd (false,n) xs ys:Nat):Int)=(dm (· * ·) (xs.map λ(n:Nat)=>(n:Int)) (ys.map λ(n:Nat)=>(n:Int))).sum%n:=by
   unfold gd
   rw[Ny (by omega) _ _ (by omega),D2,Nz,NA,ql]
  rw[<-e];exact q
noncomputable abbrev aP4(t:cF):aW:=λds Q=>∃(m:Bool × Nat) (xs:List Nat) (G:List (List Nat)),ds=[fD t.aY t.a9 m,.lst false (aq xs),.lst false (ax false G)]/\m∈aw/\AllLt (aa m) xs/\G.length=xs.length/\xs.length<=64/\RT (aa m) (ai G) G/\ai G<=64/\Q (.lst true (aq (lY m xs G (ai G))))
theorem aP5(T:Txt K mg t):aH P w K mg base aP 3 t.Sx t.Sy ["field","row","table"] (a6 (aP4 t)):=by
 refine bo T.TF.F aO7 (λds Q h=>by obtain⟨m,xs,G,rfl,hm,hx,hG,rm,hR,hw,q⟩:=h<;>rfl) λay A outer s H E hr=>⟨_,(aC (aQ (di [("row",1),("field",0)] ["column"] rfl (gg (ae (bg T.Ir (UZ T) hr (ag (bv 2) av)))) (λ_ _ _ _=>(dQ (i:=2) (show(["row","field","column"]:List Str).Nodup by decide +kernel))) (λ_ _ _ _=>dB) (λ_ _ _ _=>(iS (P:=P) (w:=w) (K:=K) (mg:=mg) (base:=base) (n:=1) (bv 1) (hr.mono (by decide)) (ag (bv 0) (ag (bv 2) av)))) rfl))),λds Q h=>?_⟩
 obtain⟨m,xs,G,rfl,hm,hx,hG,rm,hR,hw,q⟩:=h
 have cT:=(bZ hm).lo
 obtain⟨C,ns,zs,sp,e1,e2,e3,e4⟩:=cF0 (P:=P) (w:=w) (base:=base) T hm
 walk_at"l3"
 refine⟨G,rfl,by omega,λr aZ=>(hR r aZ).1,by omega,?_⟩
 dsimp only
 refine⟨_,rfl,?_⟩
 refine oV (eK G) (λr=>D.lst false (aq r)) (λr=>D.int ((gd m xs r:Nat):Int)) (fC true _) (λa b h=>NF a b h) (λr aZ=>?_) (.inr λr _=>rfl) (by unfold eK;rw[bq,bV,sL];omega) ?_
 ·walk_at"l3"
  unfold eK at aZ
  obtain⟨j,hj,rfl⟩:=bw.mp aZ
  exact⟨C,ns,zs,sp,e1,e2,e3,e4 _ _ _ (by rw[bq,hG]) rm hx (λy hy=>by
   obtain⟨r,aZ,rfl⟩:=bw.mp hy
   exact(hR r aZ).2.getD (by omega) j) rfl⟩
 ·unfold lY at q
  rw[cO,bW]at q
  unfold eK
  rw[bW]
  exact q
noncomputable abbrev aG6(t:cF):aW:=λds Q=>∃(m:Bool × Nat) (G:List (List Nat)) (k:Kd) (l:List Nat),ds=[dS t m G k,.lst false (aq l)]/\eR m G/\l.length=(b8 m G).length/\AllLt (aa m) l/\Q (.lst true (aq (pP m G l)))
theorem aG7(T:Txt K mg t):aH P w K mg base aP 4 t.zS t.Sz ["self","message"] (a6 (aG6 t)):=by
 refine bo T.T5.F aF2 (λds Q h=>by obtain⟨m,G,k,l,rfl,hc,hl,al,q⟩:=h<;>rfl) λay A outer s H E hr=>⟨_,(aE (Fv (ae (bg T.TB (aE3 T) hr (ag (bv 1) (ag (eB (K:=K) (bv 0)) av)))))
   (aE (Fv (ae (bg T.TC (aA9 T) hr (ag (eB (K:=K) (bv 0)) (ag (bv 1) av)))))
   (aC (aQ (bg T.TF (aP5 T) hr (ag (eB (K:=K) (bv 0)) (ag (bv 1) (ag (eB (K:=K) (bv 0)) av)))))))),λds Q h=>?_⟩
 obtain⟨m,G,k,l,rfl,hc,hl,al,q⟩:=h
 have hw:=hc.wid
 have hf:=hc.G4
 refine aD λU hU=>?_
 walk_at"l3"
 refine Us T m G k ⟨true,aq l,by rw[eI,hl];rfl,rfl,hU _ ?_⟩
 clear hU U
 refine aD λU hU=>?_
 walk_at"l3"
 refine II T m G k ⟨m,l,by rw[zi],hc.hm,al,by omega,by rw[Nw];rfl,hU _ ?_⟩
 clear hU U
 walk_at"l3"
 refine II T m G k (ch7 T m G k ⟨m,l,l7 m G,by rw[zi,cU,fC],hc.hm,al,by rw[ve];exact hl.symm,by omega,by rw[hc.wide];exact hc.rows,by rw[hc.wide];omega,by rw[ij,ix],?_⟩)
 rw[hc.wide]
 exact q
noncomputable abbrev aK3(t:cF):aW:=λds Q=>∃(m:Bool × Nat) (ns:List Int),ds=[cP m,.fz (aJ ns),fD t.aY t.a9 m]/\m∈aw/\∀(G:List (List Nat)) (k:Kd),12<ai G->ai G<=64->Q (dS t m G k)
theorem aK4(T:Txt K mg t)(hB:Bm mg base):aH P w K mg base aP 7 t.SA t.SD ["_law_told_here","_law_script","_law_field_here"] (rY [t.jC,t.jD] (a6 (aK3 t))):=by
 refine y7 T.Ds.F Hz (λds Q h=>by obtain⟨m,ns,rfl,hm,q⟩:=h<;>rfl) λay A outer s H E hT hr=>⟨_,(aE (bc (i:=3) Hz.nd rfl (aA rfl) (bg T.vm (xw T) hr (ag (bv 0) av)))
   (aE (bc (i:=4) Hz.nd rfl (aA rfl) (bg T.ke (kM T) hr (ag (bv 1) (ag (ae ao) av))))
   (aE (cq (bJ oy (bv 3) (ae ao) (bA _)) (aC (aQ (zI hT T.Ti ((Vc T hB).mono (by decide)) hr rfl T.S9 T.IE.b cL (ag (bv 2) (ag (ae ao) av))))) cI)
   (aC (aQ (b48 hT T.Tj ((U9 T hB).mono (by decide)) hr rfl T.Ta T.dd3 cL (ag (bv 2) (ag (ae (aB dw (ae ao) (ae (aB cX (bv 4) (ae (aB fi (bv 3) (ae ao))))))) (ag (ae (aB dw (ae ao) (ae (aB cX (ae (aB ly (bv 4) (ae ao))) (ae ao))))) av))))))))),λds Q h=>?_⟩
 obtain⟨m,ns,rfl,hm,q⟩:=h
 have hF:=bZ hm
 have cT:=hF.lo
 have Ap:=hF.hi
 have xC:=uZ m hm
 refine aD λU hU=>?_
 walk_at"l3"
 refine⟨m,rfl,by omega,by omega,hU _ ?_⟩
 clear hU U
 refine aD λU hU=>?_
 walk_at"l3"
 refine⟨ns,19,rfl,by decide,by decide,hU _ ?_⟩
 clear hU U
 generalize fY ns 19=mr
 refine aD λU hU=>?_
 walk_at"l3"
 split
 ·refine⟨_,_,⟨m,13,rfl,hm,by decide,by decide,rfl,rfl⟩,?_⟩
  obtain⟨r1,r2,r3⟩:=xb hm (show 2<=13 by decide)
  rw[xf]
  exact q (eE m 13) .rep (by omega) (by omega)
 refine hU _ ?_
 clear hU U
 walk_at"l3"
 obtain⟨n,en,hn,hnM⟩:∃k:Nat,13+mr%((aa m:Int)-13)=k/\13<=k/\k+1<=aa m:=by
  have n0:=ir mr (show(aa m:Int)-13≠0 by omega)
  have n1:=iu mr (show 0<(aa m:Int)-13 by omega)
  exact⟨(13+mr%((aa m:Int)-13)).toNat,by omega,by omega,by omega⟩
 obtain⟨e,ee,Ai,he3⟩:∃k:Nat,1+mr/64%3=k/\1<=k/\k<=3:=⟨(1+mr/64%3).toNat,by omega,by omega,by omega⟩
 rw[en,ee]
 refine⟨by omega,lj (by decide) (by decide),by decide,_,_,⟨m,n,e,1,rfl,hm,by omega,by omega,by omega,by omega,by omega,rfl,rfl⟩,?_⟩
 rw[fv,xf]
 obtain⟨g1,g2,g3⟩:=Hr hm 1 n (show 1<=e by omega)
 exact q (fJ m 1 (aL n) e) (.vd e 1) (by omega) (by omega)
noncomputable abbrev Vl(t:cF):oS:=λds Q Ex=>∃(m:Bool × Nat) (G:List (List Nat)) (k:Kd),ds=[dS t m G k]/\12<ai G/\Ex t.iV
theorem b73(T:Txt K mg t):aH P w K mg base (kz P w) 2 t.SE t.SF ["code"] (oU (Vl t )):=by
 refine BX T.Dt.F b36 (λds Q Ex h=>by obtain⟨m,G,k,rfl,hw,q⟩:=h<;>rfl) λay A outer s H E hr=>⟨_,(aE (wH (wF ((DG T).mono (by decide)) hr rfl T.kg.g T.kg.F.kp T.kg.b rfl (ag (bv 0) av)))
   Fu),λds Q Ex h=>?_⟩
 obtain⟨m,G,k,rfl,hw,q⟩:=h
 refine aD λU hU=>?_
 walk_at"l3"
 rw[sJ]
 exact⟨m,G,k,rfl,λw=>absurd w (by omega),λ_=>q⟩
noncomputable abbrev Vm(t:cF):oS:=λds Q Ex=>∃(m:Bool × Nat) (G:List (List Nat)) (k:Kd) (d1 d2:D),ds=[dS t m G k,d1,d2]/\12<ai G/\Ex t.iV
theorem aN4(T:Txt K mg t):aH P w K mg base (kz P w) 2 t.SG t.SH ["code","word","told"] (oU (Vm t )):=by
 refine BX T.Du.F aM8 (λds Q Ex h=>by obtain⟨m,G,k,d1,d2,rfl,hw,q⟩:=h<;>rfl) λay A outer s H E hr=>⟨_,(aE (wH (wF ((DG T).mono (by decide)) hr rfl T.kg.g T.kg.F.kp T.kg.b rfl (ag (bv 0) av)))
   Fu),λds Q Ex h=>?_⟩
 obtain⟨m,G,k,d1,d2,rfl,hw,q⟩:=h
 refine aD λU hU=>?_
 walk_at"l3"
 rw[sJ]
 exact⟨m,G,k,rfl,λw=>absurd w (by omega),λ_=>q⟩
theorem cJ2{t:cF}{m:Bool × Nat}{G:List (List Nat)}{k:Kd}{y:Int}{F1 F2 F3:D->Prop}{X:Addr->Prop}{d1 d2:D}{p:Prop}(hp:p)(hw:12<ai G)(h:X t.iV):if y=0 then Vh t [dS t m G k] F1 X else if y=1 then Vl t [dS t m G k] F2 X else p/\Vm t [dS t m G k,d1,d2] F3 X:=by
 split
 ·exact⟨m,G,k,rfl,hw,h⟩
 split
 ·exact⟨m,G,k,rfl,hw,h⟩
 ·exact⟨hp,m,G,k,d1,d2,rfl,hw,h⟩
noncomputable abbrev aG8(t:cF):aW:=λds Q=>∃(m:Bool × Nat) (G:List (List Nat)) (k:Kd) (y:Int) (l:List Nat),ds=[dS t m G k,.int y,.lst false (aq l)]/\12<ai G/\Q (.bl true)
theorem aG9(T:Txt K mg t):aH P w K mg base aP 7 t.SI t.SJ ["_law_code_here","_law_way","_law_word"] (a6 (aG8 t)):=by
 refine bo T.TH.F zP (λds Q h=>by obtain⟨m,G,k,y,l,rfl,hw,q⟩:=h<;>rfl) λay A outer s H E hr=>⟨_,(aE (bc (i:=3) zP.nd rfl (aA rfl) (eD dv))
   (aE (cE8 (i:=4) (λ_ _=>(aC (cq (bJ (fQ (cN hr)) (bv 1) (ae ao) (bA _)) (aC (wH (wF ((cv5 T).mono (by decide)) hr rfl T.vn.g T.vn.F.kp T.vn.b rfl (ag (bv 0) av)))) (aC (cq (bJ (fQ (cN hr)) (bv 1) (ae ao) (bA _)) (aC (wH (wF ((b73 T).mono (by decide)) hr rfl T.Dt.g T.Dt.F.kp T.Dt.b rfl (ag (bv 0) av)))) (aC (wH (wF ((aN4 T).mono (by decide)) hr rfl T.Du.g T.Du.F.kp T.Du.b rfl (ag (bv 0) (ag (bv 2) (ag (ae (eD dv)) av)))))))))))
    (λ_ _=>(aE (bc (i:=3) zP.nd rfl (aA rfl) (eD (cW (CW (K:=K) (by rfl) T.nj (by rfl) T.da5 (bv 4)) (cW (cn6 (K:=K) (by rfl) T.nj (by rfl) T.da6 Y7 (bv 4)) dv))))
     (aC (bc (i:=3) zP.nd rfl (aA rfl) (aB dw (bv 3) (ae (eD (cW (CW (K:=K) (by rfl) T.nj (by rfl) T.da1 (bv 4)) (cW (CW (K:=K) (by rfl) T.nj (by rfl) T.da2 (bv 4)) (cW (CW (K:=K) (by rfl) T.nj (by rfl) T.da4 (bv 4)) dv)))))))))) (by rfl) T.aM9 zP.nd rfl rfl rfl rfl rfl)
   (aC (aQ (yx (fQ (cN hr)) (bv 3) (ae (eD (cW gw (cW gw (cW gw (cW gw (cW gw dv))))))) (bA _)))))),λds Q h=>?_⟩
 obtain⟨m,G,k,y,l,rfl,hw,q⟩:=h
 refine aD λU hU=>?_
 walk_at"l3"
 refine⟨by decide,hU _ ?_⟩
 clear hU U
 refine aD λU hU=>?_
 walk_at"l3"
 rw[sJ]
 refine cJ2 (by decide) hw ⟨T.ar8,?_⟩
 refine aD λU hU=>?_
 walk_at"l3"
 refine⟨_,yS T.Aa T.df1,_,yS T.Aa T.df2,by decide,hU _ ?_⟩
 clear hU
 walk_at"l3"
 refine⟨_,yS T.Aa T.de8,_,yS T.Aa T.de9,_,yS T.Aa T.df0,?_⟩
 refine⟨by decide,by decide,hU _ ?_⟩
 walk_at"l3"
 exact⟨by decide,⟨rfl,rfl⟩,q⟩
noncomputable abbrev aM5(t:cF):aW:=λds Q=>∃(m:Bool × Nat) (ns:List Int),ds=[cP m,.fz (aJ ns),fD t.aY t.a9 m]/\m∈aw/\∀(G:List (List Nat)) (k:Kd),eR m G->1<=G.length->2<=ai G->ai G<=12->zK m G k->(∃Fb,fk m G=some Fb/\Fb.length=vi G k)->Q (dS t m G k)
theorem aM6(T:Txt K mg t)(hB:Bm mg base):aH P w K mg base aP 7 t.SK t.SM ["_law_told_here","_law_script","_law_field_here"] (rY [t.jC,t.jD] (a6 (aM5 t))):=by
 refine y7 T.Dv.F Qx (λds Q h=>by obtain⟨m,ns,rfl,hm,q⟩:=h<;>rfl) λay A outer s H E hT hr=>⟨_,(aE (bc (i:=3) Qx.nd rfl (aA rfl) (aB dw (ae ao) (ae (aB cX (ae (aB ly (ae (bg T.ke (kM T) hr (ag (bv 1) (ag (ae ao) av)))) (ae ao))) (ae ao)))))
   (aC (aQ (zI hT T.Th ((U8 T hB).mono (by decide)) hr rfl T.S7 T.ID.b cL (ag (bv 2) (ag (OK (eD (cW (di [("_law_script",1),("_law_told_here",0)] ["_law_k"] rfl (jX rfl T.ik (ag (bv 3) av)) (λ_ _ _ _=>(dQ (i:=2) (show(["_law_script","_law_told_here","_law_k"]:List Str).Nodup by decide +kernel))) (λ_ _ _ _=>dB) (λ_ _ _ _=>(aB dw (ae ao) (ae (aB cX (ae (bg T.ke (kM T) hr (ag (bv 0) (ag (ae (aB dw (ae ao) (bv 2))) av)))) (ae (aB fi (ae (bg T.vm (xw T) hr (ag (bv 1) av))) (ae ao))))))) rfl) dv))) av)))))),λds Q h=>?_⟩
 obtain⟨m,ns,rfl,hm,q⟩:=h
 have hF:=bZ hm
 have cT:=hF.lo
 have Ap:=hF.hi
 have xC:=uZ m hm
 refine aD λU hU=>?_
 walk_at"l3"
 refine⟨ns,17,rfl,by decide,by decide,?_⟩
 dsimp only
 obtain⟨n,en,hn6,dD1⟩:∃k:Nat,6+fY ns 17/8%7=k/\6<=k/\k<=12:=⟨(6+fY ns 17/8%7).toNat,by omega,by omega,by omega⟩
 rw[en]
 refine⟨lj (by decide) (by decide),by decide,hU _ ?_⟩
 clear hU U en
 walk_at"l3"
 refine⟨by omega,xh n (λk=>D.int ((1+(fY ns (20+(k:Int))%((aa m:Int)-1)).toNat:Nat):Int)) (λk hk=>?_) (.inr λ_ _=>rfl) ?_⟩
 ·have hk:=bU.mp hk
  walk_at"l3"
  refine⟨ns,_,rfl,by omega,by omega,m,rfl,by omega,by omega,?_⟩
  dsimp only
  refine⟨by omega,?_⟩
  have n0:=ir (fY ns (20+(k:Int))) (show(aa m:Int)-1≠0 by omega)
  omega
 ·obtain⟨r,er,lr,ar⟩:∃r:List Nat,((aL n).map λ(k:Nat)=>D.int ((1+(fY ns (20+(k:Int))%((aa m:Int)-1)).toNat:Nat):Int))=aq r/\r.length=n/\AllLt (aa m) r:=by
   refine⟨(aL n).map λ(k:Nat)=>1+(fY ns (20+(k:Int))%((aa m:Int)-1)).toNat,by rw[cO,bW];rfl,by rw[bq,bV],λx hx=>?_⟩
   obtain⟨k,_,rfl⟩:=bw.mp hx
   have n1:=iu (fY ns (20+(k:Int))) (show 0<(aa m:Int)-1 by omega)
   omega
  rw[er]
  have hG:RT (aa m) (ai [r]) [r]:=λx hx=>by rw[fc.mp hx];exact⟨rfl,ar⟩
  have wG:ai [r]=n:=lr
  obtain⟨Fb,eF⟩:=Jh hm hG (by rw[wG];show 1<n;omega)
  have cG:=DF hm hG (by rw[wG];show 1<n;omega) (by omega)
  have fs:=m4 hm (by omega) hG eF
  have aG:zK m [r] (.pM Fb.length):=⟨Ht hm hG λS hS hl=>fs.2.2.2 S hS (.inl hl),fs.2.1,λ_ _ z=>nomatch z⟩
  rw[mX]
  refine⟨by decide,by rw[fB,kI];rfl,_,_,⟨m,[r],Fb,rfl,cG,bE 1,by show 1<=12;decide,by omega,by omega,eF,rfl,rfl⟩,?_⟩
  rw[fv,xf]
  exact q [r] (.pM Fb.length) cG (bE 1) (by omega) (by omega) aG ⟨Fb,eF,rfl⟩
noncomputable abbrev aK5:aW:=λds Q=>∃i:Int,ds=[.int i]/\Q (.bl true)
theorem aK6(T:Txt K mg t):aH P w K mg base aP 1 t.SN t.SO ["_law_x"] (a6 (aK5 )):=by
 refine bo T.TJ.F aJ0 (λds Q h=>by obtain⟨i,rfl,q⟩:=h<;>rfl) λay A outer s H E hr=>⟨_,(aC (aQ (qM (ae (yM (by rfl) T.nj (by rfl) T.Td Lf (bv 0))) (vW (Ft (ae (yM (by rfl) T.nj (by rfl) T.Tc Lg (bv 0)))))))),λds Q h=>?_⟩
 obtain⟨i,rfl,q⟩:=h
 walk_at"l3"
 exact q
noncomputable abbrev aE4:aW:=λds Q=>∃(l:List Nat) (w n:Nat),ds=[.lst false (aq l),.int w,.int n]/\l.length=w/\w<=1000/\AllLt n l/\Q (.bl true)
theorem aE5(T:Txt K mg t):aH P w K mg base aP 2 t.SQ t.SR ["_law_row","_law_wide_here","_law_many_here"] (a6 (aE4 )):=by
 refine bo T.TK.F aD2 (λds Q h=>by obtain⟨l,w,n,rfl,hl,hw,ha,q⟩:=h<;>rfl) λay A outer s H E hr=>⟨_,(aE (cq (PW.pt (yy (t7 (jV (ae (yM (by rfl) T.nj (by rfl) T.C9 Bz (bv 0))))) (xY (bJ (jc (cN hr)) (ae (eH (ib) (by rfl) T.g5 gM (ag (bv 0) av))) (bv 1) (bA _))))) (aC (aQ gw)) cI)
   (aC (aQ (eH (yL rfl) (by rfl) T.zT yp (ag (ae (di [("_law_many_here",2)] ["_law_x"] rfl (gg (bv 0)) (λ_ _ _ _=>(dQ (i:=1) (show(["_law_many_here","_law_x"]:List Str).Nodup by decide +kernel))) (λ_ _ _ _=>dB) (λ_ _ _ _=>(qM (ae (bg T.TJ (aK6 T) hr (ag (bv 1) av))) (vW (uf kE oy (ae ao) (bv 1) (bv 0))))) rfl)) av))))),λds Q h=>?_⟩
 obtain⟨l,w,n,rfl,hl,hw,ha,q⟩:=h
 refine aD λU hU=>?_
 walk_at"l3"
 rw[if_neg (by rw[hl];simp)]
 refine hU _ ?_
 clear hU U
 walk_at"l3"
 refine vj l (λ_=>D.bl true) (λi hi=>?_) (.inr λ_ _=>rfl) ?_
 ·walk_at"l3"
  have:=ha i hi
  refine⟨i,rfl,true,rfl,?_⟩
  rw[if_pos rfl,if_pos (by omega)]
  omega
 ·refine⟨l.map λ_=>true,by unfold oG;rw[bW];rfl,?_⟩
  have e:(l.map λ_=>true).all id=true:=by simp
  rw[e];exact q
noncomputable abbrev Vn:aW:=λds Q=>∃(m:Bool × Nat) (G:List (List Nat)) (l:List Nat),ds=[cP m,.lst false (ax false G),.int (ai G:Nat),.lst false (aq l)]/\m∈aw/\G.length<=64/\RT (aa m) (ai G) G/\ai G<=64/\Wd m G l/\Q (.bl true)
theorem Vo(T:Txt K mg t):aH P w K mg base aP 3 t.SS t.SU ["_law_told_here","_law_checks","_law_length","_law_word"] (a6 (Vn )):=by
 refine bo T.Iy.F aF3 (λds Q h=>by obtain⟨m,G,l,rfl,hm,hG,hR,hw,hl,q⟩:=h<;>rfl) λay A outer s H E hr=>⟨_,(aE (cq (t7 (jV (ae (bg T.TK (aE5 T) hr (ag (bv 3) (ag (bv 2) (ag (ae (bg T.vm (xw T) hr (ag (bv 0) av))) av))))))) (aC (aQ gw)) cI)
   (aC (aQ (Ft (ae (eH (Of rfl) (by rfl) T.Ij EZ (ag (ae (di [("_law_told_here",0),("_law_word",3)] ["_law_row"] rfl (gg (bv 1)) (λ_ _ _ _=>(dQ (i:=2) (show(["_law_told_here","_law_word","_law_row"]:List Str).Nodup by decide +kernel))) (λ_ _ _ _=>dB) (λ_ _ _ _=>(bg T.Iu (Ve T) hr (ag (bv 0) (ag (bv 2) (ag (bv 1) av))))) rfl)) av))))))),λds Q h=>?_⟩
 obtain⟨m,G,l,rfl,hm,hG,hR,hw,hl,q⟩:=h
 have cT:=(bZ hm).lo
 have xC:=uZ m hm
 refine aD λU hU=>?_
 walk_at"l3"
 refine⟨m,rfl,by omega,by omega,?_⟩
 refine⟨l,ai G,aa m,rfl,hl.ln,by omega,hl.lt,rfl,true,rfl,?_⟩
 rw[if_neg (by decide)]
 refine hU _ ?_
 clear hU U
 walk_at"l3"
 refine m9 G (λ_=>D.int 0) (λr aZ=>?_) (.inr λr _=>rfl) ?_
 ·obtain⟨rl,ra⟩:=hR r aZ
  have ln:=hl.ln
  walk_at"l3"
  refine⟨m,r,l,rfl,hm,by omega,by omega,ra,hl.lt,?_⟩
  rw[hl.z r aZ]
  rfl
 ·refine⟨G.map λ_=>0,by unfold aJ;rw[bW];rfl,?_⟩
  rw[show(G.map λ_=>(0:Int)).any (λx=>x != 0)=false by rw[List.any_eq_false];intro x hx;obtain⟨_,_,rfl⟩:=bw.mp hx;decide]
  exact q
noncomputable abbrev aH0:aW:=λds Q=>∃(m:Bool × Nat) (ns:List Int) (a s:Nat),ds=[cP m,.fz (aJ ns),.int a,.int s]/\m∈aw/\a<=1000/\s<=64/\∀l:List Nat,l.length=s->AllLt (aa m) l->Q (.lst true (aq l))
theorem aH1(T:Txt K mg t):aH P w K mg base aP 2 t.SV t.SW ["_law_told_here","_law_script","_law_begin","_law_size"] (a6 (aH0 )):=by
 refine bo T.TL.F aF4 (λds Q h=>by obtain⟨m,ns,a,s,rfl,hm,ha,hs,q⟩:=h<;>rfl) λay A outer s H E hr=>⟨_,(aC (aQ (di [("_law_script",1),("_law_told_here",0),("_law_begin",2)] ["_law_k"] rfl (jX rfl T.ik (ag (bv 3) av)) (λ_ _ _ _=>(dQ (i:=3) (show(["_law_script","_law_told_here","_law_begin","_law_k"]:List Str).Nodup by decide +kernel))) (λ_ _ _ _=>dB) (λ_ _ _ _=>(aB cX (ae (bg T.ke (kM T) hr (ag (bv 0) (ag (ae (aB dw (bv 2) (bv 3))) av)))) (ae (bg T.vm (xw T) hr (ag (bv 1) av))))) rfl))),λds Q h=>?_⟩
 obtain⟨m,ns,a,s,rfl,hm,ha,hs,q⟩:=h
 have cT:=(bZ hm).lo
 have Ap:=(bZ hm).hi
 have xC:=uZ m hm
 walk_at"l3"
 refine⟨by omega,xh s (λk=>D.int (((fY ns ((a:Int)+(k:Int))%(aa m:Int)).toNat:Nat):Int)) (λk hk=>?_) (.inr λ_ _=>rfl) ?_⟩
 ·have hk:=bU.mp hk
  walk_at"l3"
  refine⟨ns,_,rfl,by omega,by omega,m,rfl,by omega,by omega,?_⟩
  dsimp only
  refine⟨by omega,?_⟩
  have n0:=ir (fY ns ((a:Int)+(k:Int))) (show(aa m:Int)≠0 by omega)
  rw[xO n0]
 ·have:=q ((aL s).map λ(k:Nat)=>(fY ns ((a:Int)+(k:Int))%(aa m:Int)).toNat) (by rw[bq,bV]) λx hx=>by
   obtain⟨k,_,rfl⟩:=bw.mp hx
   have n1:=iu (fY ns ((a:Int)+(k:Int))) (show(0:Int)<(aa m:Int) by omega)
   omega
  rw[cO,bW]at this
  exact this
noncomputable abbrev aI4:aW:=λds Q=>∃l:List Nat,ds=[.lst false (aq l)]/\l.length<=100/\Q (.int (wt l:Nat))
theorem Ji(T:Txt K mg t):aH P w K mg base aP 1 t.SX t.SY ["_law_word"] (a6 (aI4 )):=by
 refine bo T.Dw.F aH5 (λds Q h=>by obtain⟨l,rfl,hl,q⟩:=h<;>rfl) λay A outer s H E hr=>⟨_,(aC (aQ (eH (ib) (by rfl) T.g5 gM (ag (ae (di [] ["_law_x"] rfl (gg (bv 0)) (λ_ _ _ _=>(dQ (i:=0) (show(["_law_x"]:List Str).Nodup by decide +kernel))) (λ_ _ _ _=>(yG (bJ (jc (cN hr)) (bv 0) (ae ao) (bA _)))) (λ_ _ _ _=>(du (bv 0))) rfl)) av)))),λds Q h=>?_⟩
 obtain⟨l,rfl,hl,q⟩:=h
 walk_at"l3"
 refine zw l (λ(i:Nat)=>D.int (i:Int)) (λ(i:Nat)=>D.int (i:Int)) (λj=>decide (j≠0)) (B9 l) rX (λj hj=>?_) (.inr λ_ _ _=>rfl) (by rw[sL];omega) ?_
 ·walk_at"l3"
  refine⟨?_,λ_=>trivial⟩
  rw[<-decide_not]
  exact decide_eq_decide.mpr (by omega)
 ·dsimp only
  rw[bq]
  exact q
noncomputable abbrev Vp(t:cF):aW:=λds Q=>∃(m:Bool × Nat) (G:List (List Nat)) (b:Nat),ds=[dS t m G (.pM b)]/\Q (.int (b:Nat))
theorem ar1(T:Txt K mg t):aH P w K mg base aP 1 t.HX t.S0 ["self"] (a6 (Vp t)):=by
 refine bo T.T6.F ap7 (λds Q h=>by obtain⟨m,G,b,rfl,q⟩:=h<;>rfl) λay A outer s H E hr=>⟨_,(aC (aQ (du (eB (K:=K) (bv 0))))),λds Q h=>?_⟩
 obtain⟨m,G,b,rfl,q⟩:=h
 walk_at"l3"
 exact⟨_,_,_,_,rfl,T.vo,T.T9,rfl,rfl,q⟩
noncomputable abbrev Vq(t:cF):aW:=λds Q=>∃(m:Bool × Nat) (G:List (List Nat)),ds=[dS t m G .rep]/\Q (.int (ai G:Nat))
theorem ap1(T:Txt K mg t):aH P w K mg base aP 1 t.HY t.S1 ["self"] (a6 (Vq t)):=by
 refine bo T.T7.F ao8 (λds Q h=>by obtain⟨m,G,rfl,q⟩:=h<;>rfl) λay A outer s H E hr=>⟨_,(aC (aQ (du (eB (K:=K) (bv 0))))),λds Q h=>?_⟩
 obtain⟨m,G,rfl,q⟩:=h
 walk_at"l3"
 exact Ac T m G .rep ⟨rfl,q⟩
noncomputable abbrev Vr(t:cF):aW:=λds Q=>∃(m:Bool × Nat) (G:List (List Nat)) (e f:Nat),ds=[dS t m G (.vd e f)]/\Q (.int ((e+1:Nat):Int))
theorem as5(T:Txt K mg t):aH P w K mg base aP 1 t.HZ t.S2 ["self"] (a6 (Vr t)):=by
 refine bo T.T8.F ar4 (λds Q h=>by obtain⟨m,G,e,f,rfl,q⟩:=h<;>rfl) λay A outer s H E hr=>⟨_,(aC (aQ (aB dw (eB (K:=K) (bv 0)) (ae ao)))),λds Q h=>?_⟩
 obtain⟨m,G,e,f,rfl,q⟩:=h
 walk_at"l3"
 exact⟨_,_,_,_,rfl,T.sO,T.Um,rfl,q⟩
theorem cj6(T:Txt K mg t)(m:Bool × Nat)(G:List (List Nat))(k:Kd){Q:D->Prop}(q:Q (.int (vi G k:Nat))):∃C ns zs sp,dS t m G k=.obj C ns zs/\iO P w K mg base 1 "distance" C sp/\("distance":Str) ∉ ns/\sp [.obj C ns zs] Q:=by
 cases k with
 | pM b=>exact⟨_,_,_,Vp t,rfl,⟨T.vo,_,_,_,T.db6,ar1 T,T.T6.b⟩,by decide,m,G,b,rfl,q⟩
 | rep=>exact⟨_,_,_,Vq t,rfl,⟨T.zZ,_,_,_,T.dc5,ap1 T,T.T7.b⟩,by decide,m,G,rfl,q⟩
 | vd e f=>exact⟨_,_,_,Vr t,rfl,⟨T.sO,_,_,_,T.dc7,as5 T,T.T8.b⟩,by decide,m,G,e,f,rfl,q⟩
theorem cu0(T:Txt K mg t)(hB:Bm mg base):aH P w K mg base aP 11 t.S3 t.Ia ["_law_script"] (rY [t.jC,t.jD] (a6 (Mi ))):=by
 refine y7 T.Iz.F nh (λds Q h=>by obtain⟨ns,rfl,hl,q⟩:=h<;>rfl) λay A outer s H E hT hr=>⟨_,(aE (bc (i:=1) nh.nd rfl (aA rfl) (bg T.To (aL3 T) hr (ag (ae (bg T.ke (kM T) hr (ag (bv 0) (ag (ae ao) av)))) av)))
   (aE (bc (i:=2) nh.nd rfl (aA rfl) (Cm hT ((aJ6 T hB).mono (by decide)) hr rfl T.Dj.g T.Dj.F.kp T.Dj.b cL (ag (bv 1) av)))
   (aE (cq (bJ (fQ (cN hr)) (ae (aB cX (ae (bg T.ke (kM T) hr (ag (bv 0) (ag (ae ao) av)))) (ae ao))) (ae ao) (bA _)) (aE (bc (i:=3) nh.nd rfl (aA rfl) (Cm hT ((aK4 T hB).mono (by decide)) hr rfl T.Ds.g T.Ds.F.kp T.Ds.b cL (ag (bv 1) (ag (bv 0) (ag (bv 2) av)))))
    (aC (aQ (bg T.TH (aG9 T) hr (ag (bv 3) (ag (ae (aB cX (ae (aB ly (ae (bg T.ke (kM T) hr (ag (bv 0) (ag (ae ao) av)))) (ae ao))) (ae ao))) (ag (ae (di [] ["_law_k"] rfl (jX rfl T.ik (ag (eB (K:=K) (bv 3)) av)) (λ_ _ _ _=>(dQ (i:=0) (show(["_law_k"]:List Str).Nodup by decide +kernel))) (λ_ _ _ _=>dB) (λ_ _ _ _=>ao) rfl)) av))))))) cI)
   (aE (bc (i:=3) nh.nd rfl (aA rfl) (Cm hT ((aM4 T hB).mono (by decide)) hr rfl T.Dr.g T.Dr.F.kp T.Dr.b cL (ag (bv 1) (ag (bv 0) (ag (bv 2) av)))))
   (aE (cq (bJ (fQ (cN hr)) (ae (aB cX (ae (bg T.ke (kM T) hr (ag (bv 0) (ag (ae ao) av)))) (ae ao))) (ae ao) (bA _)) (aC (bc (i:=3) nh.nd rfl (aA rfl) (Cm hT ((aM6 T hB).mono (by decide)) hr rfl T.Dv.g T.Dv.F.kp T.Dv.b cL (ag (bv 1) (ag (bv 0) (ag (bv 2) av)))))) cI)
   (aE (bc (i:=4) nh.nd rfl (aA rfl) (bg T.vn (Vi T) hr (ag (bv 3) av)))
   (aE (bc (i:=5) nh.nd rfl (aA rfl) (Gz (P:=P) (w:=w) (K:=K) (mg:=mg) (base:=base) (n:=2) (bv 3) (hr.mono (by decide))))
   (aE (cq (t7 (jV (ae (bg T.Iy (Vo T) hr (ag (bv 1) (ag (bv 5) (ag (eB (K:=K) (bv 3)) (ag (bv 4) av)))))))) (aC (aQ gw)) cI)
   (aE (cq (PW.pt (yy (bJ (jc (cN hr)) (ae (bg T.Dw (Ji T) hr (ag (bv 4) av))) (ae (Gz (P:=P) (w:=w) (K:=K) (mg:=mg) (base:=base) (n:=1) (bv 3) (hr.mono (by decide)))) (bA _)) (xY (bJ (jc (cN hr)) (bB (ae (di [] ["_law_x"] rfl (gg (bv 4)) (λ_ _ _ _=>(dQ (i:=0) (show(["_law_x"]:List Str).Nodup by decide +kernel))) (λ_ _ _ _=>(yG (bJ (jc (cN hr)) (bv 0) (ae ao) (bA _)))) (λ_ _ _ _=>(du (bv 0))) rfl)) (ae ao) (λ_ _=>rfl)) (ae ao) (bA _))))) (aC (aQ gw)) cI)
   (aE (bc (i:=6) nh.nd rfl (aA rfl) (iS (P:=P) (w:=w) (K:=K) (mg:=mg) (base:=base) (n:=4) (bv 3) (hr.mono (by decide)) (ag (ae (bg T.TL (aH1 T) hr (ag (bv 1) (ag (bv 0) (ag (ae ao) (ag (eB (K:=K) (bv 3)) av)))))) av)))
   (aE (cq (t7 (jV (ae (bg T.Iy (Vo T) hr (ag (bv 1) (ag (bv 5) (ag (eB (K:=K) (bv 3)) (ag (bv 6) av)))))))) (aC (aQ gw)) cI)
   (aE (cq (PW.pt (BK (jV (ae (eH (Of rfl) (by rfl) T.Ij EZ (ag (bv 6) av)))) (Ek (bJ oy (ae (bg T.Dw (Ji T) hr (ag (bv 6) av))) (ae (bg T.Dw (Ji T) hr (ag (bv 4) av))) (bA _))))) (aC (aQ gw)) cI)
   (aE (cq (bJ (jc (cN hr)) (bv 4) (ae (bg T.Iw (Vf T) hr (ag (bv 2) (ag (ae (di [] ["_law_row"] rfl (gg (bv 5)) (λ_ _ _ _=>(dQ (i:=0) (show(["_law_row"]:List Str).Nodup by decide +kernel))) (λ_ _ _ _=>dB) (λ_ _ _ _=>(FG (FH) (by rfl) T.C9 Bz (ag (bv 0) av))) rfl)) av)))) (bA _)) (aC (aQ gw)) cI)
   (aE (bc (i:=7) nh.nd rfl (aA rfl) (FG (FH) (by rfl) T.C9 Bz (ag (bv 4) av)))
   (aE (yQ (i:=4) rfl (by first | exact aA rfl | exact cJ (aA rfl)) (aB dw (bB (bv 4) (ae ao) (λ_ _=>rfl)) (ae ao)) (ae ao))
   (aC (aQ (yx (fQ (cN hr)) (ae (bg T.vn (Vi T) hr (ag (bv 3) av))) (bv 7) (bA _))))))))))))))))))),λds Q h=>?_⟩
 obtain⟨ns,rfl,hl,q⟩:=h
 refine aD λU hU=>?_
 walk_at"l3"
 refine⟨ns,0,rfl,by decide,by decide,_,rfl,rfl,hU _ ?_⟩
 clear hU U
 generalize Vs:sA (fY ns 0)=m
 have hm:m∈aw:=by rw[<-Vs];exact b13 _
 clear Vs
 have cT:=(bZ hm).lo
 have Ap:=(bZ hm).hi
 have xC:=uZ m hm
 refine aD λU hU=>?_
 walk_at"l3"
 refine⟨m,rfl,hm,hU _ ?_⟩
 clear hU U
 refine aD λU hU=>?_
 walk_at"l3"
 refine⟨ns,18,rfl,by decide,by decide,by decide,?_⟩
 split
 ·clear hU
  refine aD λU hU=>?_
  walk_at"l3"
  refine⟨m,ns,rfl,hm,λG k l8 w64=>hU _ ?_⟩
  clear hU U
  walk_at"l3"
  refine⟨ns,18,rfl,by decide,by decide,lj (by decide) (by decide),by decide,Ac T m G k ?_⟩
  refine⟨_,rfl,by omega,xh (ai G) (λ_=>D.int 0) (λi _=>?_) (.inr λ_ _=>rfl) ?_⟩
  ·walk_at"l3"
  ·rw[sJ,show((aL (ai G)).map λ_=>D.int 0)=aq (aV (ai G) 0) by rw[List.map_const',bV,cO,AW];rfl,mX]
   exact⟨m,G,k,_,_,rfl,l8,ix _,q⟩
 refine hU _ ?_
 clear hU U
 refine aD λU hU=>?_
 walk_at"l3"
 refine⟨m,ns,rfl,hm,λG k hc g1 w2 l8 hk w5 hF=>hU _ ?_⟩
 clear hU U
 refine aD λU hU=>?_
 walk_at"l3"
 suffices h:∀(G:List (List Nat)) (k:Kd),eR m G->1<=G.length->2<=ai G->ai G<=12->zK m G k->(∃Fb,fk m G=some Fb/\Fb.length=vi G k)->U [some (D.fz (aJ ns)),some (cP m),some (fD t.aY t.a9 m),some (dS t m G k),none,none,none,none] by
  have h0:=h G k hc g1 w2 l8 hk hF
  refine⟨ns,17,rfl,by decide,by decide,?_⟩
  dsimp only
  refine⟨by decide,?_⟩
  split
  ·exact⟨m,ns,rfl,hm,h⟩
  ·exact h0
 clear hc g1 w2 l8 hk w5 hF k G
 intro G k hc g1 w2 l8 hk hF
 refine hU _ ?_
 clear hU U
 obtain⟨Fb,eF,lF⟩:=hF
 have hR:=hc.rt
 have gl:=hc.len
 have kp:=hk.pos
 have sg:=hc.OT hk.Hv
 have sz:=hc.sz
 obtain⟨u1,u2,u3⟩:=OY hm (by omega) hR eF
 refine aD λU hU=>?_
 walk_at"l3"
 rw[sJ]
 refine⟨m,G,k,Fb,rfl,hc,by omega,l8,eF,by rw[Hq];rfl,hU _ ?_⟩
 clear hU U
 refine aD λU hU=>?_
 walk_at"l3"
 refine Ut T T.Te T.Tf T.Tg (Vg T) T.IF.b (by decide) ⟨m,G,k,rfl,hc,hU _ ?_⟩
 clear hU U
 have Vt:∀(l:List Nat) (Q:D->Prop),Wd m G l->Q (.bl true)->Vn [cP m,.lst false (ax false G),.int (ai G:Nat),.lst false (aq l)] Q:=λl Q hl q=>⟨m,G,l,rfl,hm,gl,hR,by omega,hl,q⟩
 refine aD λU hU=>?_
 walk_at"l3"
 refine Ac T m G k (Vt _ _ u1 ⟨rfl,true,rfl,?_⟩)
 rw[if_neg (by decide)]
 refine hU _ ?_
 clear hU U
 refine aD λU hU=>?_
 walk_at"l3"
 have ul:=u1.ln
 refine⟨_,rfl,by omega,rfl,cj6 T m G k ⟨⟨rfl,rfl⟩,?_⟩⟩
 rw[u2,lF,j3,decide_eq_true rfl,if_neg (by decide)]
 refine zw (fX m G Fb) (λ(i:Nat)=>D.int (i:Int)) (λ(i:Nat)=>D.int (i:Int)) (λj=>decide (j≠0)) (B9 _) rX (λj hj=>?_) (.inr λ_ _ _=>rfl) (by rw[sL];omega) ?_
 ·walk_at"l3"
  refine⟨?_,λ_=>trivial⟩
  rw[<-decide_not]
  exact decide_eq_decide.mpr (by omega)
 obtain⟨r,er⟩:=b56 hm (by omega) hR eF
 rw[er]
 dsimp only
 refine⟨.int 1,B7 (k:=0) rfl,rfl,?_⟩
 rw[j3,decide_eq_true rfl,if_neg (by decide)]
 refine hU _ ?_
 clear hU U
 refine aD λU hU=>?_
 walk_at"l3"
 obtain⟨C,GP,zs,tT,e1,e2,e3,e4⟩:=b02 (P:=P) (w:=w) (base:=base) T m G k T.db7 T.dc6 T.dc8 (aG7 T) T.T5.b (by decide)
 refine⟨C,GP,zs,tT,e1,e2,e3,Us T m G k ⟨m,ns,3,(b8 m G).length,rfl,hm,by decide,by omega,λl ll al=>⟨rfl,e4 _ _ ⟨m,G,k,l,by rw[mX],hc,ll,al,by rw[ij,ix],hU _ ?_⟩⟩⟩⟩
 clear hU U
 have wl:=hc.wd ll
 generalize pP m G l=y at wl ⊢
 have yl:=wl.ln
 refine aD λU hU=>?_
 walk_at"l3"
 refine Ac T m G k (Vt _ _ wl ⟨rfl,true,rfl,?_⟩)
 rw[if_neg (by decide)]
 refine hU _ ?_
 clear hU U
 refine aD λU hU=>?_
 walk_at"l3"
 suffices h:U [some (D.fz (aJ ns)),some (cP m),some (fD t.aY t.a9 m),some (dS t m G k),some (D.lst true (aq (fX m G Fb))),some (D.lst true (ax true G)),some (D.lst true (aq y)),none] by
  refine⟨y.map λ(n:Nat)=>(n:Int),rfl,?_⟩
  split
  ·rename_i an
   refine⟨y,rfl,by omega,rfl,_,rfl,by omega,rfl,?_⟩
   dsimp only
   have w1:=OX hm hR hk.Hv wl λz=>by
    obtain⟨x,hx,nx⟩:=DP.mp an
    obtain⟨n,hn,rfl⟩:=bw.mp hx
    have nl:=cr2 y
    rw[decide_eq_true z]at nl
    have:=dy.mp nl n hn
    simp at this nx
    exact nx this
   rw[if_neg (by omega)]
   exact h
  ·exact h
 refine hU _ ?_
 clear hU U
 refine aD λU hU=>?_
 walk_at"l3"
 refine m9 G (λr=>D.lst true (aq r)) (λr aZ=>?_) (.inr λr _=>ij r) ?_
 ·walk_at"l3"
 rw[show(D.lst true (G.map λr=>D.lst true (aq r))).sh=D.lst false (ax false G) by rw[cU];exact congrArg _ (fC true G)]
 refine⟨m,G,rfl,hm,gl,hR,by omega,l8,?_⟩
 rw[eF]
 refine⟨by show(_||(D.lst true (aq (fX m G Fb))).fr)=true;rw[ij,ix],zk 5 true _,?_⟩
 rw[show An (Option.map (fX m G) (some Fb))=D.lst true (aq (fX m G Fb)) from rfl,wV,decide_eq_true rfl,if_neg (by decide)]
 refine hU _ ?_
 clear hU U
 refine aD λU hU=>?_
 walk_at"l3"
 refine hU _ ?_
 clear hU U
 refine aD λU hU=>?_
 walk_at"l3"
 refine⟨_,j6 (by decide) (by show 0<_;omega),?_⟩
 dsimp only
 refine⟨_,0,rfl,?_,hU _ ?_⟩
 ·exact zo (by decide) (by rw[eI];show 0<_;omega)
 clear hU U
 walk_at"l3"
 rw[sJ]
 refine⟨m,G,k,Fb,rfl,hc,by omega,l8,eF,by rw[Hq];rfl,zk 5 true _,?_⟩
 rw[wV,decide_eq_true rfl]
 exact q
end
theorem all_mk{l:PySem.W.OpenLaw}{w:World}{K:Frag}{h:Heap}{mg:Str->Option Value}{fa:Addr}{ts:List Addr}{t:cF}{az2:Option Addr}{az3:Array (Option Value)}{Vu:Array Value}{az4:Value}{aE6:Option Addr}{aE7:Array (Option Value)}{Vv:Array Value}{aE8:Value}(X:K.In h)(G:h.Ns mainGlobals mg)(hfa:mg "law"=some (.ref fa))(T:Txt K mg t)(aP6:K.lookup t.Ib=some ⟨az4,az2,.fields Vu,az3⟩)(aP7:Vu[11]?=some (.ref t.jC))(aP8:K.lookup t.Ic=some ⟨aE8,aE6,.fields Vv,aE7⟩)(aP9:Vv[11]?=some (.ref t.jD))(nl:K.all (λp=>FL p.2)=true)(sub:∀P∈[t.jC,t.jD],P∈ts) :
  ∃fd:FuncData,(∀(s:Shared) (v:Value),BindsTo s fd ⟨[v],[]⟩ [("_law_script",v)])/\∀base:Heap,K.In base->base.Ns mainGlobals mg->Bm mg base->aH l.prog w K mg base aP 11 fa fd ["_law_script"] (Cd ts K):=by
 have e:=hfa.symm.trans T.Iz.g
 injection e with e
 injection e with e
 subst e
 obtain⟨_,_,_,_,_,_,_,_,_,e2,_,_⟩:=T.Iz.F.ex
 exact⟨t.Ia,λs v=>by rw[e2];exact .of_eq rfl,λbase _ _ hB=>(cu0 T hB).imp λvs H Q E h=>let z:=b39 nl h;⟨λP hP=>z.1 P (sub P hP),z.2⟩⟩
theorem az5{K:Frag}{h:Heap}{c f k P:Addr}{od an:Option Addr}{sl:Array (Option Value)}{oc kV dc pm ct kt:Value}{ko:Option Addr}{ks:Array (Option Value)}{kf:Array Value}(X:K.In h)(a:PySem.W.nsIn K mainGlobals "PrimeField"=some (some (.ref c)))(b:PySem.W.findIn K (.ref c) "__init__"=some (some (.ref f)))
  (l:K.lookup f=some ⟨oc,od,.func (PySem.W.fnOf "__init__" "PrimeField.__init__" (mx zM) (iD zM) (aK zM) .none kV dc pm an (.ref k) ct),sl⟩) (lk:K.lookup k=some ⟨kt,ko,.fields kf,ks⟩) (lp:kf[11]?=some (.ref P)) (n:K.lookup P=none) (e:codeHdIn K k P=true):K.lookup P=none/\∃c,CodeHd h c P:=⟨n,k,PySem.W.codeHd_of_K X e⟩
theorem aE9{K:Frag}{h:Heap}{c f k P:Addr}{od an:Option Addr}{sl:Array (Option Value)}{oc kV dc pm ct kt:Value}{ko:Option Addr}{ks:Array (Option Value)}{kf:Array Value}(X:K.In h)(a:PySem.W.nsIn K mainGlobals "BitField"=some (some (.ref c)))(b:PySem.W.findIn K (.ref c) "__init__"=some (some (.ref f)))
  (l:K.lookup f=some ⟨oc,od,.func (PySem.W.fnOf "__init__" "BitField.__init__" (mx zN) (iD zN) (aK zN) .none kV dc pm an (.ref k) ct),sl⟩) (lk:K.lookup k=some ⟨kt,ko,.fields kf,ks⟩) (lp:kf[11]?=some (.ref P)) (n:K.lookup P=none) (e:codeHdIn K k P=true):K.lookup P=none/\∃c,CodeHd h c P:=⟨n,k,PySem.W.codeHd_of_K X e⟩
theorem walk{l:PySem.W.OpenLaw}{q:Program}{loose:List Str}{XP:(Str->Option Value)->Heap->Prop}{YP:World->Heap->Prop}{d:DefRec}{K:Params->Frag}{ts:List Addr}(hn:l.most=some 63)(yi:d.params.defaults=[])
  (hY:∀(w:World) (h:Heap),YP w h->(K w.params).In h/\∀P∈ts,h.get? P=some (PySem.W.tabObj #[]))
  (hC:∀(w:World) (h:Heap),(K w.params).In h->∀P∈ts,(K w.params).lookup P=none/\∃c,CodeHd h c P)
  (F:∀(w:World) (mg:Str->Option Value) (fa:Addr) (h:Heap),(K w.params).In h->h.Ns mainGlobals mg->mg d.name=some (.ref fa) ->
   ∃fd:FuncData,(∀(s:Shared) (u:Value),BindsTo s fd ⟨[u],[]⟩ [("_law_script",u)])/\∀base:Heap,(K w.params).In base->base.Ns mainGlobals mg->Bm mg base->aH l.prog w (K w.params) mg base aP 11 fa fd ["_law_script"] (Cd ts (K w.params))) :
  PySem.W.WalkO q loose XP YP l.row.toRowW d [] (λf vs=>PySem.call f vs) :=
 L2.cQ2 (n:=63) (k:=11) (x:="_law_script") (CX:=λ_=>aP) (sp:=λw=>Cd ts (K w.params)) hn (by decide) yi ⟨rfl,by decide,by decide⟩ hY hC F (λ_ _ a ns hl hO hS=>⟨a,ns,rfl,hO,hS,hl,λ_=>rfl⟩) λ_ _ _ _ _ z=>z
end HK41
set_option genInjectivity false in
set_option genSizeOf false in
structure PySem.W.Fast:Prop where
 (tw9157833964152423424 tw3646054661923045440 tw9324966452560838720 tw17537670049510165600 tw8333594427061164128 tw7543050567955752096 tw13360017068400214208 tw11189411679384366304 tw8867459468076647680 tw16811278308939323680 tw165963222633497952 tw5334266637097780608 tw10695277660085766528 tw5568085513247875456 tw1957259514902454720 tw17091837259275813312 tw5279484700544999904 tw8735223961185706528 tw1499228086800675392 tw2232029641581174368 tw179144862911861376 tw5824964551786535584 tw11828466668061660864 tw2089348292750194400 tw529478581686415168 tw17815967564847573824 tw2193826181060165472 tw4827132607898746720 tw5211330113024694144 tw1909012578532245376 tw13482647103479388064 tw6067800536236220320 tw15421921894034375616 tw7579728609756448704 tw12409046001986811840 tw4471100673854185440 tw6032165678963211232 tw7366353488859058144 tw14354884624521666561 tw2127614532837888001:True)
 (tw3277070525696663553 tw17318275701570795521 tw5927701217184271393 tw1181971475889615905 tw6400573171944859745 tw10662508483530315873 tw17511270214422601857 tw6769112543599583361 tw14502078249168835777 tw8062908244853012673 tw13705327409321982145 tw6579148811075112225 tw4490802227790419297 tw16848447797965564257 tw15283452841437816225 tw16216023139303707169 tw3771346587350050401 tw6183841045532358241 tw12842415817951798945 tw7476903839920797377 tw17537189317327763201 tw166635061705580321 tw17484420594290530113 tw11493666014703785793 tw17758995836374737729 tw17050427397747690337 tw13621020679247130465 tw8010124003539753889 tw6007881878616920993 tw5241289153385969601 tw13835849940086668225 tw18068496283743921121 tw1520267815664887777 tw17344900433493359585 tw13893875314920071170 tw6864451729175155746 tw15407245345727728674 tw4234441967795887138 tw9666638371216924738 tw175746016909665346:True)
 (tw8251165481534172226 tw7919530381564851266 tw5399872411378387074 tw6632103558178941090 tw5393684976362269858 tw17721992906326989986 tw4206012151863379138 tw11189006007688187170 tw11622144048050307394 tw3549850287282737474 tw2013709148425876802 tw14732235298776295810 tw6983050286620680610 tw12614135352741541346 tw15690673670373118498 tw2532986769962213922 tw17001876113350325826 tw16330318287791504002 tw11248353871709813378 tw9007492367924326018 tw17292255423164969602 tw10439459999544514210 tw17767601483735721698 tw15109718184767792930 tw16166952650177327906 tw1210760283143451458 tw13980487122902799170 tw10937351593017682786 tw12913453773917799298 tw2656641583316699074 tw10468096825854066626 tw9209339392961986530 tw8637082382633916419 tw13677512371378585635 tw12347043279053980739 tw13933006883398228067 tw6572656688761460867 tw17579474447821931683 tw10219664730462562467 tw7479785013103939811:True)
 (tw5096558092040273155 tw11632272795430053155 tw12573546610854209891 tw15473904371731044739 tw12445278571253745027 tw7087308488881941923 tw6820175313925671363 tw13283698403355268579 tw3156496558692152803 tw1812837924899229187 tw8845013205760276995 tw7560347734058143267 tw12114171184338394659 tw16576451859748649539 tw9163464900137278051 tw12660898889161169507 tw6901746022804905571 tw6203753345308275331 tw15012899632442111619 tw11641334178331063971 tw5830994253606591171 tw14313357219862290115 tw6595644212717255363 tw11777483000961908451 tw10136356964191603427 tw4703989911301065475 tw314516797177939747 tw2115895131454298947 tw3367708596233292771 tw13323698431583294468 tw9897856798852904964 tw1423824755388516388 tw6250375356310242340 tw1885426692638007364 tw5836733319463572580 tw14407716280962600036 tw9329929144927055972 tw13522395602802580612 tw17103780621685468324 tw12142531714416161060:True)
 (tw15640894339798187332 tw17728292060903875940 tw8744483541742563684 tw6441340987388766628 tw6318766547825783332 tw2247985606186558020 tw13578408104989858404 tw11470354698722072164 tw6711030458230759108 tw7051947208985281284 tw6104558143428799236 tw1849689981524488964 tw776159054665629444 tw14297963514755001124 tw11998198484924402500 tw3641593973402056516 tw11435628434137488228 tw13352356174419868548 tw5648185938396997508 tw9829459110214595492 tw14199552203227535332 tw15994004737749230597 tw217108192220698629 tw8948674084765079589 tw11376108639833296965 tw15050631111715540101 tw12379313754440244453 tw17975855342349411557 tw11198816607647297765 tw7770789397273117957 tw15504730883163015429 tw8896766818561855813 tw10661655342649734469 tw13284294585359932773 tw17038584354176451941 tw14367322248999518597 tw12407932651082185125 tw10482607111517189573 tw9307538313049065925 tw4370732218287361541:True)
 (tw10432364126073121285 tw16760694043239732805 tw13114691177117749925 tw9618048529261540005 tw5055225648980740773 tw14710536856034464421 tw9579771921808062117 tw6918157720346559237 tw9507862651154115365 tw3439385775762947941 tw13004850522047066053 tw8673456351612074949 tw5673718419075367909 tw15616489091927154726 tw2111129062439481382 tw17527100061023713350 tw13459851330738318406 tw17183592272081451110 tw11370821044370343046 tw4879373409513252998 tw2640747725836242054 tw12756512641427105062 tw13125858552965613894 tw14553667076664724870 tw7982132946728587654 tw6802435749096457638 tw2997233664126401958 tw10245409307796029862 tw15266540635333260742 tw8535478626812486182 tw16735327707109330566 tw16034636666957805190 tw3368207322280673926 tw11578375130215283366 tw11772306222663469830 tw4028680556295010054 tw10423070723099376390 tw13846201877496175430 tw5150874365440014150 tw5054213573922030438:True)
 (tw1788130995518964646 tw9502929407311667110 tw1251480561349313543 tw5950144515256601607 tw9700572251719477287 tw7422832159921876007 tw12311025223605378087 tw4359872381304529991 tw2525815417778266183 tw1064079968762916967 tw1006225806100112519 tw12892386467521391751 tw405299408748981447 tw14733247949034893543 tw10502106714362958055 tw14066666498508911847 tw9596603396735793447 tw7369679343642802471 tw12673257356552192359 tw4765066710790170023 tw127219272269016551 tw9760876604078189031 tw16480445063899712039 tw5854174684112695847 tw7344526056421252647 tw14593222938811097639 tw8892568195804391975 tw4962380986280019527 tw769288815475805799 tw9790648148104142439 tw15319488437261060743 tw17402488542559716039 tw4191805078222795463 tw2603490409659563719 tw8019102652955430631 tw11897950310894095111 tw13786988014798889735 tw11839702193036783367 tw4524106009763986247 tw17214702411260883783:True)
 (tw3420272473975225159 tw10454305204509244231 tw10286652499984290727 tw10433194048292263847 tw4309741864091658151 tw17260512030701272999 tw6840809349167284135 tw10262432034238766023 tw17373760079323985895 tw16175857173194393608 tw16546645278339685448 tw10910519054102123624 tw3700139278147575912 tw5572273617727025256 tw15244504755565801672 tw17401207405300012264 tw554311229476490504 tw950348830802689352 tw10114795329563235688 tw8728637920722304360 tw3934260080757749128 tw4342216965307125128 tw14709806968205900168 tw11261640079246983624 tw10988888190477698504 tw8189095189845018056 tw18382450061735528904 tw8659335606570280392 tw18265405760830681576 tw6511062369738199624 tw1148943815295298152 tw6620949356841466472 tw6897638122250581640 tw16252455511397461672 tw11579412969555102408 tw8003464650015431368 tw17225834364089498344 tw11158496592463865608 tw2586699119104716552 tw16197064954430505768:True)
 (tw15647870534061253416 tw11996872483797792584 tw12667516466963213160 tw321393516960821192 tw7033903818428864456 tw14383690118774578152 tw3558197471215976424 tw9791457491411453961 tw2688695342083836969 tw13724049066700054569 tw13958701105113420969 tw15962756644767490217 tw3889679368530779337 tw3253098651166502089 tw6630726186144029929 tw4035158106427910377 tw356918254657996041 tw7151018311719425289 tw198019111624390985 tw15209838524323099977 tw5871125517920594313 tw3716609999146361257 tw5958177881906728361 tw12021063687035870665 tw1600000089475528201 tw8029847498782391849 tw11297509821194205801 tw14175238718237090441 tw3731917232225171081 tw6973643097190021865 tw14250042876528626441 tw11229308423864325929 tw9283492584509306697 tw16003143104182476649 tw5137086076945417097 tw4051605049764855721 tw6483989826314126249 tw15099033861949041609 tw8079481632860501961 tw11884302630774475818:True)
 (tw6086057858415995946 tw9382273629995505770 tw398988537841763434 tw11294208346651703434 tw8548290965904729258 tw2650934296720313546 tw12560250433038743786 tw8081174117878058 tw1673955380142593354 tw1932462295074339146 tw15623292190268345706 tw3927974605984661898 tw5291675842713163146 tw12997301799248055690 tw7274721025946924490 tw1802361194961910282 tw16414437842291246602 tw15922323557953457738 tw10544758560163572330 tw441496700267281002 tw17149950353960555242 tw6758977058003410762 tw7912360491346134890 tw16592619938689050474 tw2192760221084967818 tw3590697509618501643 tw14204680565918881803 tw3610937117345827883 tw17485499041940927531 tw1570542320464492587 tw14437316400705240107 tw17661789999003288651 tw2422745779733518443 tw12812365422623448171 tw10454677162356385931 tw11298401395051837579 tw7090879642715082923 tw1570349037402072395 tw9785463828457085291 tw17936099435745007019:True)
 (tw13120373842288272907 tw4102021095731992139 tw17676445703201037899 tw4278957491174102667 tw1182490267830163115 tw11981401933088116459 tw1698587735987505963 tw17900505327237818187 tw3075390655918083947 tw11892114043915165547 tw1525545265232369579 tw12070692090934221739 tw817137773085396939 tw3044198846918591500 tw628943054843729932 tw3504284949752912940 tw17662366093673698412 tw568198201838824556 tw16668958485726450828 tw9411018822293772460 tw4999356822872529164 tw13725710047511733516 tw500980025478473996 tw8104924374212897036 tw5913917723781735724 tw9593019982027017516 tw14200009091888538924 tw7123504367223733580 tw12219638599627771308 tw16597514185890544076 tw229567385001852428 tw1442503708442368588 tw4756672014832195180 tw15002141898169978508 tw6472924538240474764 tw16732372215276677804 tw5632666396817835692 tw16569943214690038444 tw13050589997317717676 tw14288234347516959500:True)
 (tw12581241559164761900 tw6640641153704576844 tw8554127463559734124 tw1619509366951731052 tw10049631448047336332 tw5173229207508049804 tw7209699772161947564 tw10427692692337306572 tw5733954413056624620 tw9906004074396747756 tw8930706828039990252 tw13272829440553964589 tw6493060993943561325 tw5163774152586462381 tw3777836194911200429 tw13399282990721433805 tw15003743777414545613 tw15303427836568351949 tw2426572388070418637 tw5280741480895961357 tw15112325341207946573 tw9496250060683964781 tw3087397280231167437 tw14545856375821114861 tw5454209038318803469 tw13750050885461593709 tw6790974670654947981 tw12201110322863365837 tw12323007691879053005 tw17784702667406682893 tw7473451406879355725 tw16113700040066607085 tw17367338701173880878 tw6409111060684340334 tw9533065606548587662 tw4604617406973934734 tw9147634658512823470 tw4864222002679575726 tw6043483088799600846 tw15303933917780878542:True)
 (tw15945068777354378446 tw12507745968733685998 tw14052608555098353902 tw4119476212228169998 tw7084054641172054350 tw6173741798965253518 tw18161508785528551822 tw11503557767594872238 tw6413518961943268782 tw1187355638354170286 tw16607432469888652718 tw8771545008197972462 tw14227947095585311214 tw4813908277586677230 tw1724240806486240750 tw11389519609020434990 tw10304194928227634766 tw379858215423679214 tw8259147600073945838 tw1661697341137132366 tw3608229679919001454 tw4194299448600513422 tw9877393412319525806 tw9376591404916264878 tw6392893841515340718 tw835643560775418830 tw4299811194239492046 tw847135908648234958 tw13429499247345593294 tw15410472273118213102 tw5795598343837188078 tw9014308062329916431 tw8312452964324567055 tw5477171719746651247 tw11804555214474104943 tw5876546487579435119 tw14713071880921906287 tw10477300469552137359 tw1987907387218434223 tw12660562181826976015:True)
 (tw7958573898496417103 tw405494408220389711 tw14404127887446951279 tw9190791979701954927 tw14474941973201089935 tw17366739707626571183 tw16174894892883696047 tw16971948099453919695 tw16949229931841155535 tw11526498559377963471 tw2027822869822233103 tw17921334220983172623 tw11244970855537348143 tw11087634374579058223 tw5206524344699863663 tw4724057571576790671 tw7965408506508075695 tw18056080448396296911 tw10309480391479230191 tw17490757372177323823 tw5113263483630566223 tw11256279655564323663 tw3367847871703763823 tw14303419360511984527 tw16198701850532423599 tw14449417234911081423 tw2293316605122798543 tw18157274582203300815 tw7642974530500528144 tw4894694379535089680 tw17677981672990241808 tw11432713208684875824 tw2128807934774255664 tw5716664821890513968 tw16103398098541160528 tw14657411997671373904 tw9678221100716056784 tw17041373397760636112 tw10053525278112159024 tw16386459465029769584:True)
 (tw17391440160106825104 tw4315592434410860976 tw1233931146017694128 tw8673376115530754480 tw10958147180790229520 tw16341174938740734480 tw14444064293583572496 tw17481714688317610512 tw10403443033987077680 tw11125547232430705264 tw13675208791549696656 tw8956536170697050800 tw11579423274911401680 tw8575466101925350128 tw4861725127904499440 tw2781710014234420976 tw12531390143574694672 tw16771303318174494480 tw7517291924103434032 tw8088520121823172400 tw18305279157979036464 tw15468833931278237552 tw727594536182308752 tw9950966076698576816 tw17141614178167868336 tw6714502826384322480 tw2633604244829308945 tw9090869116498613265 tw3087921572053526545 tw16299607780365185041 tw10570693516168805393 tw781905521263349809 tw4740126621583904849 tw6502742182030151761 tw3983153624804957265 tw12194560662435069009 tw10001037359014222961 tw6303546212752328881 tw9204203338571788465 tw16421632179451689137:True)
 (tw5445428624255026385 tw10161577617963313361 tw8855329278099030257 tw3875543663092151537 tw9266240160092633329 tw2176201312911410417 tw6302790401749292305 tw1060745841752771889 tw13858060810582151473 tw1317623440070201649 tw7442237907638040913 tw13757805612824294737 tw7097949865854292337 tw14524028172284541361 tw4532065881074659761 tw10370944881957402065 tw9761742070869509617 tw14618665506292258353 tw4206469025778100785 tw9676693999516930641 tw16724000868439218769 tw8159638810974567025 tw3881618004657134193 tw9078541311428264593 tw13604613468423164561 tw7581226629417091793 tw15802222731296098001 tw17462317450448696017 tw14616996195298846449 tw5387938354485195505 tw11019824744512489233 tw5353532764680757009 tw8444974512683455281 tw12516211084509525809 tw15343570060294584113 tw15717808029234992977 tw2679727427318366033 tw7119332636937619313 tw291123635064328049 tw1967398392944582513:True)
 (tw10243597832928176017 tw4455208878610863025 tw7770480467952164785 tw15477330004680838097 tw543758929374612433 tw9019451973026410449 tw1105230051041116113 tw17440754765169058801 tw4226584190876250162 tw8321152042818282578 tw16521547316737666130 tw18313058152121378962 tw12531855411059606674 tw4202114002406368466 tw1961436784254289138 tw8175187839140091122 tw14649197996666145042 tw880023995042018610 tw14210989141590919570 tw6312327118574761426 tw3935752602790045170 tw1121561897768073746 tw4206288286838330994 tw15114863450558655090 tw11472713820684888754 tw5906582276942742194 tw12738801429080629938 tw1510579118679526130 tw9376714409954642674 tw1367380911442286354 tw9931187851009024786 tw18339892073860289330 tw4428198338419262322 tw10271023337827346290 tw9045189838481504178 tw13131261592885101522 tw10185349089644040146 tw14531801500807394258 tw6155873501528700914 tw4350554474783247379:True)
 (tw11923783581219891283 tw17709808564035800147 tw9945196211870625907 tw8417562932364202131 tw1769142482785245363 tw13647478348394935507 tw7892128719395735795 tw15944970211604235571 tw5084775645725470003 tw4005422694087604531 tw5928285908851408211 tw13032938861588270419 tw5382158251759426899 tw7027630051640340819 tw2810879912719819155 tw10021671804503112115 tw4922045150457059763 tw5275007826010638835 tw14536245993505249811 tw6225296485652394515 tw1695755852856359443 tw14820535634027651635 tw5371831855800530483 tw7134315728043658803 tw4258462924134059667 tw12866979360118236851 tw2865178292859792051 tw3082448352604530387 tw12876625021735878515 tw3615232766904949651 tw12888436396626553779 tw7777770487582802899 tw11729039150933890035 tw9363672218054327283 tw2660003448316605492 tw12958736384462048372 tw2835093354068398260 tw4476611270426582196 tw2065122132224849172 tw12765673449454932276:True)
 (tw13737476589141275956 tw3701362567783666004 tw12719535488723228052 tw14073422516181511572 tw1046703766187402644 tw11429430405510958548 tw1145147636959132116 tw9122457858877473236 tw17827527049680420308 tw18428484048839926260 tw13714788224604757556 tw9004757597580391988 tw17654442983788378676 tw11863053602577106580 tw4570199657573182132 tw5879590009280117460 tw14761283773333468884 tw4290474281557861140 tw18396761312840986452 tw11206862732796279700 tw16187560292022364084 tw14442315009343636404 tw16787906579847882708 tw5540895416197760980 tw17622899695418279957 tw6705289049625956469 tw10102851063852132469 tw3315615230187807893 tw7777037633605024981 tw15353051506511266005 tw3605499500782327125 tw15199382313199190357 tw5980434522134673749 tw5332475348657634645 tw3386808925273013621 tw7710470864534160757 tw18095928220838221173 tw14176458765251246517 tw3087157149195358677 tw1955676154964361749:True)
 (tw18299908280372876821 tw17937234032540024341 tw7069777577502627381 tw4930879487029660245 tw755163862856332885 tw4075405389290405461 tw9998555514535683733 tw16503566711899058997 tw15540196904662948789 tw1981637442612971477 tw6033981844542855157 tw1365591548937554933 tw17260181367426962454 tw5900672414068072470 tw307859903378229302 tw8383585685238263862 tw17267139033449321526 tw14607522012546556982 tw1062087608141975702 tw300067518250958998 tw13888322466613684374 tw10884746551820260534 tw13583365483883077846 tw11652109524815849686 tw9311335369019152598 tw395636343537169622 tw10248177962880765174 tw14318176415134610710 tw968971147980289334 tw10438321834320964950 tw5438082485005686134 tw18251547368268714358 tw14677837335184113014 tw7566173623277427094 tw14705581224492946966 tw7582724833592738390 tw1211467289538203222 tw11191913256085393014 tw17924277986103666294 tw877042461361923702:True)
 (tw5635840581956336246 tw583739671273941654 tw7236670885519614614 tw83921186490071734 tw7387181556356368054 tw11447614916213876438 tw384610986783294166 tw14532660356877795126 tw10010010806757608310 tw2089701629856698326 tw15761614794038381558 tw5336310672129645558 tw719034923978526743 tw12974619867203311671 tw12078172751265677367 tw10523760814843778103 tw17896909376878974039 tw6100661962865629303 tw15910705234821877943 tw10652075171383140535 tw13923897479673852151 tw5486960075378310391 tw16225445899145492759 tw1246851606762633527 tw1150076946024022327 tw10889627915228665143 tw16961877069839627575 tw10476342417723816279 tw14836073520657441143 tw1951946553780733399 tw11026921339386055127 tw15474365717011662359 tw4514809678938904087 tw7874933268334999063 tw9585739583741093431 tw9047846239302273655 tw7107376647609773719 tw3665515730722448023 tw10665910300043711159 tw4379785085135991479:True)
 (tw2085041368660807383 tw9939811888990229207 tw322865669111736055 tw3396573971904361207 tw11277503097184056055 tw5497864417587520279 tw11823393290734382903 tw4397192190359940951 tw11873804986275515223 tw17849718573304504151 tw7018058371225104311 tw10637097768517667831 tw6933695843480540151 tw7357927920657747959 tw3278950015566774328 tw12040031292270033976 tw16904001627416051800 tw16286957031221130328 tw15338970574655786104 tw14081193030848410744 tw10210621444626335928 tw478631396060560632 tw2037149876056434968 tw436369075112788280 tw6884425673204877624 tw9070783711713153336 tw13394077449770400056 tw7334234180456763768 tw17483008240440433016 tw15235781784550684088 tw17088385013951663608 tw9128489490565443096 tw15588938145679889944 tw11108911296772381240 tw6430172772714234424 tw15119946470179265080 tw15687895665457855032 tw2932901701859806808 tw2083608455707020888 tw17699926245592300152:True)
 (tw8692635344323985048 tw5655419076931969720 tw13989321083903871736 tw5352488869081086712 tw478949847293404952 tw14190412117023264600 tw15611189350432860024 tw6740479729919846296 tw9084930069814610872 tw2044593237916768184 tw16482127916800096216 tw17005105191744495576 tw5498817868380814457 tw11442594111820996761 tw7688924823000662201 tw11690437006447588569 tw12373997981746160857 tw852399009208173817 tw10278729394118870265 tw13465991835134850329 tw11519200639315096921 tw16696387917126802809 tw5857215624084874617 tw11522924231944623513 tw12205064339258580537 tw1108863757422796345 tw12594623078217622137 tw2003077935844646521 tw15690968282221299353 tw14436514995740081817 tw3490422150024795865 tw8277221601474753273 tw17024192895144403737 tw198549410336338713 tw12304094392729050937 tw3775697492454627129 tw8641377800740765497 tw4646106190031410009 tw1044121084688100185 tw11906500699643381625:True)
 (tw12606979882039237529 tw13130190659815804857 tw12812619735939504057 tw1166781438475179001 tw14598788155730934777 tw1103071119954099193 tw16768275527088819290 tw8831543084389266522 tw5275592519143633050 tw1202242843095188634 tw1700917182303588506 tw7898670641163541690 tw13088422333671626938 tw16396167521304729786 tw17919098927327812826 tw12471032884104947930 tw11500030044300921082 tw9650902239360066874 tw14351440588741016890 tw6400698794680184154 tw15727868253087369594 tw1056163291254987130 tw12213447041774961018 tw6041320438424034714 tw11459204564110251450 tw10788604254027923898 tw1064172179978702266 tw17633887376307616186 tw16255488217354200538 tw2234885485759897082 tw5927455483727375898 tw8293414434663716410 tw6998823832909545018 tw4999633635039537754 tw17587423041000401530 tw16115540886748728986 tw15095859243050774202 tw6707603267052435130 tw7358586205774747354 tw175677048996092698:True)
 (tw18272834193941398330 tw4683381676330479418 tw5537979757368499034 tw134065409529493370 tw8144566515651979162 tw14870493954714483674 tw453364959696463899 tw9881214405807879195 tw15523887881204774939 tw335412450139809851 tw11530077594780912763 tw16399690215803287675 tw15065451634644286587 tw12397051420967351483 tw15437512921413612763 tw2401075422303170843 tw4018755299270437179 tw12062457706163208603 tw5637724272165337499 tw6044794497944524219 tw18044256672688931323 tw7851550165409614363 tw13737533764515554843 tw13006047985326689883 tw738399381999948443 tw9884440692020950683 tw10579375684742931131 tw16257133749857989339 tw12050126091781702427 tw1146582056276479771 tw802326559987904315 tw13839061244002827067 tw5403900987036043099 tw9511425319405097819 tw16746279796647315291 tw2084348157371760539 tw5794892638432353179 tw8056221388426637243 tw18179183651835363259 tw18400383607572367323:True)
 (tw16499075316090019803 tw2146953313485206491 tw11293929866086797307 tw17489286873300713500 tw13398190211580172348 tw16994734249125434428 tw2015517676341555260 tw15280807893136733244 tw15964910535145330876 tw2080055039246331068 tw14288909231138842844 tw5746297166716067068 tw5104608065202743548 tw4852615462491753756 tw5795820243346662684 tw15704382114625497436 tw9030094267029604700 tw4799910687618819420 tw677614413347436924 tw5998368675964475772 tw3161963733236056476 tw11613105186255494556 tw17502656740753891740 tw5823919075808573852 tw2347101836936780220 tw6199401903841430972 tw1175707099822715324 tw4676253739165522396 tw9695498068228185564 tw14588677269023770108 tw12172308933598090780 tw18334536734046265916 tw668827100961448508 tw2599961350520976956 tw425691138456554108 tw18321933751328683644 tw10535966368385923708 tw1000376303170390716 tw3331158454926354108 tw10674568965023119036:True)
 (tw11067393232126166716 tw12064548020088539868 tw7470501025775076060 tw5881973224361291516 tw17292474480362927900 tw12975629741881945884 tw16889553115807883100 tw2440593030541433692 tw10000489225867237244 tw15044921583204583324 tw15170891100057958300 tw8294811314456891324 tw10161817032248081372 tw377204982692149212 tw16220793442676803580 tw17367379023979528221 tw18029460834242399325 tw10592384272573598813 tw16818106964651260029 tw542580777171906685 tw13707375860956392669 tw4138340143048916189 tw7262296858810244381 tw5848005473807300893 tw16591441545571076413 tw15449745106742973757 tw7886827538229843261 tw1146909060953369917 tw8691379852603425117 tw13354945915750640989 tw17177125261362326877 tw16215032146943669597 tw12174925656792311165 tw13928199334700781981 tw10111895217033657757 tw18439108538808276445 tw8132972873884899805 tw4293762169724286461 tw2476621521503247869 tw7448577828595956221:True)
 (tw10648436920518847069 tw5162247795371119229 tw14389156872878098109 tw6658708229480167101 tw10713699097335111389 tw7875141584152839901 tw11240815939143569181 tw6000892614658462493 tw6575289341074724669 tw15922124854451795773 tw58536229550368701 tw865692199010747325 tw13380845504689163197 tw7359590716989893565 tw14937775986427165629 tw1503243261641719741 tw17981909340808332253 tw10899374802256324573 tw6939006072840433661 tw13345337514868732925 tw17784689713613023262 tw4707535762851391518 tw15671877438818843678 tw12879469873867185246 tw12064227871157782654 tw17307403773907406974 tw6076285324957283454 tw15302239478924575934 tw4036142466848735486 tw2254614754434413822 tw12927670635073943838 tw12604479036006287646 tw1472484816827772190 tw150732932401357214 tw1535770394852826590 tw17663631069731204638 tw3679880755379681822 tw282519761788633726 tw9612223963692273278 tw18051787590650905214:True)
 (tw3522462915219637886 tw5758975922314411646 tw15830139260971711134 tw4470661417638886046 tw6634059213373934270 tw5915984517388242654 tw437350584323202846 tw14844421635716286334 tw10362967080533704574 tw12864389249301911454 tw159941146105389982 tw16072072587132808094 tw1533293231620128670 tw12193729813695348702 tw7780034429176835038 tw3469087399196105726 tw18168608409819449375 tw1620915483683594271 tw271868645947915295 tw573599078416196703 tw2638393401487800447 tw12455143000303738015 tw12282307538957322431 tw6671188064895218911 tw6076939893384498399 tw9066457138009378079 tw18076783064720473375 tw13649161592589021567 tw8389548292519900575 tw7934338542631330271 tw12510331652447485407 tw10190661420257443327 tw13094272967133265407 tw11067904886777334303 tw14655880796789854751 tw11336819026799540799 tw1538534738501029439 tw9664553480299844191 tw9505553570463943295 tw3550040474169941631:True)
 (tw4974136551117074111 tw5289217394495406783 tw8422072787585622719 tw4116347333560233727 tw10981621387242508095 tw13982719005944367999 tw5209376856827180991 tw9769771070286215135 tw10636905542976361439 tw14024621855726918623 tw8623553799295890399 tw7298963183629242367 tw6373003253308108049:True)
open PySem PySem.W PyProof.Rows
set_option maxRecDepth 100000 in
set_option maxHeartbeats 0 in
theorem PySem.Challenge.cw_mendfield_k41_lightest_word_holds : PySem.Challenge.rw_mendfield_k41_lightest_word.Holds := by
 w_on;o_law;k_head;(case hw=>w_witness2)
 k_fill
 refine HK41.walk (l:=PySem.Challenge.rw_mendfield_k41_lightest_word) rfl rfl (λw h Y=>⟨PySem.W.km_in_of Y,PySem.W.km_tabs_of Y⟩) ?C ?F
 case C =>
  intro w h hX
  repeat' (first | exact List.forall_mem_nil _ | refine List.forall_mem_cons.mpr ⟨?_,?_⟩)
  all_goals first | (refine' HK41.az5 hX ?a ?b ?l ?lk ?lp ?n ?e;(case a=>k_is);(case b=>k_is);(case l=>k_is);(case lk=>k_is);(case lp=>first | rfl | with_unfolding_all rfl);(case n=>kernel_rfl);(case e=>kernel_rfl)) | (refine' HK41.aE9 hX ?a ?b ?l ?lk ?lp ?n ?e;(case a=>k_is);(case b=>k_is);(case l=>k_is);(case lk=>k_is);(case lp=>first | rfl | with_unfolding_all rfl);(case n=>kernel_rfl);(case e=>kernel_rfl))
 case F =>
  intro w mg fa h KX G yj
  refine' HK41.all_mk (t:=HK41.cF.mk ..) KX G yj (HK41.Txt.mk ..) ?lk0 ?lp0 ?lk1 ?lp1 ?nl ?sub
  rotate_left 182
  iterate 12 ((try dsimp only);exact PySem.W.mg_of KX G (by k_is))
  iterate 13 ((try dsimp only);exact PySem.W.mg_none_of KX G (by k_is))
  iterate 25 ((try dsimp only);focus (apply L2.Meth.mk<;>k_is))
  iterate 5 ((try dsimp only);focus (apply L2.Mk.mk<;>k_is))
  iterate 2 ((try dsimp only);focus (apply L2.uV.mk<;>k_is))
  iterate 54 ((try dsimp only);focus (apply L2.Fk.of KX G;(case a=>k_is);(case F=>apply L2.KQ<;>k_is);(case b=>first | exact λ_ _ _ _ _ _=>L2.G7 λ_=>rfl | exact λ_ _ _ _ _ _=>L2.G8 λ_ _=>rfl | exact λ_ _ _ _ _ _=>L2.G9 λ_ _ _=>rfl | exact λ_ _ _ _ _ _=>L2.CP λ_ _ _ _=>rfl | exact λ_ _ _ _ _ _=>L2.Oh λ_ _ _ _ _ _=>rfl)))
  iterate 24 ((try dsimp only);focus (apply L2.Fm.of;(case F=>apply L2.KQ<;>k_is);(case b=>first | exact λ_ _ _ _ _ _=>L2.G7 λ_=>rfl | exact λ_ _ _ _ _ _=>L2.G8 λ_ _=>rfl | exact λ_ _ _ _ _ _=>L2.G9 λ_ _ _=>rfl | exact λ_ _ _ _ _ _=>L2.CP λ_ _ _ _=>rfl | exact λ_ _ _ _ _ _=>L2.Oh λ_ _ _ _ _ _=>rfl)))
  iterate 1 ((try dsimp only);focus (apply L2.c38<;>k_is))
  iterate 1 ((try dsimp only);focus (apply L2.c39 rfl;(case ho=>k_is);(case hs=>rfl);(case h=>first | exact L2.Og λ_ _ _ _ _=>⟨_,rfl,rfl⟩)))
  iterate 1 ((try dsimp only);focus (apply L3.c50 rfl;(case ho=>k_is);(case hs=>rfl);(case hk=>rfl);(case h=>first | exact L2.CP λ_ _ _ _=>⟨_,rfl,rfl⟩)))
  iterate 2 (exact rfl)
  (case lk0=>k_is)
  (case lp0=>first | rfl | with_unfolding_all rfl)
  (case lk1=>k_is)
  (case lp1=>first | rfl | with_unfolding_all rfl)
  iterate 2 ((try dsimp only);kernel_rfl)
  iterate 5 ((try dsimp only);focus (apply L2.cE.mk<;>k_is))
  iterate 34 ((try dsimp only);focus (unfold L2.bf;k_is))
  iterate 1 ((try dsimp only);exact L3.cO6 (PySem.W.mg_of KX G (by k_is)) (by k_exc))
  iterate 1 ((try dsimp only);focus (apply L2.wg.mk<;>first | k_is | rfl | decide))
  iterate 9 ((try dsimp only);first | exact L3.cO8 | exact L3.kit_cls (by first | rfl | decide | k_is) (by first | k_is | rfl | decide) (by k_is) (by k_is) | exact L3.cO9 rfl (by decide +kernel) (by k_is))
  iterate 1 ((try dsimp only);exact L3.exm_cls (by first | k_is | rfl | decide) (by k_is) (by k_is) (by k_is))
  (case nl=>first | k_is | rfl | decide)
  (case sub=>decide)
