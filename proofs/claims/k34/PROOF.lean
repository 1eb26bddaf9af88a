import PyProof.Rows.All
import Wide.All
import OpenK.AllK
import Wide.FinOn
import Lean
import PyProof.EqAt
import PyProof.EqKinds
import PyProof.TupleCall
import PyProof.NeKinds
import PyProof.Rows.Range3
import PyProof.FitsBits
import PyProof.StationsW
import PyProof.NsDelKeeps
import PyProof.Rows.CatchOwn
import KE.KTryMore
import PyProof.ExcArgsOwn
import PyProof.ExcAttrAll.ValueError
import OpenK.KOwn
import PyProof.ZipIter
import PyProof.WalksEnum
import PyProof.EnumMake
import KE.KIntText
import PyProof.Conv_int
import PyProof.StrWalks
import PyProof.StrLawsFirst
import KE.KLam
import KE.KNestM
import KE.KRevIter
import PyProof.ListRange
import PyProof.Rows.SortWalk
import PyProof.Rows.SetFrom
import PyProof.FactsAll.set
import PyProof.Rows.SeqMore
import PyProof.FString
import PySem.Challenge.RW_mendfield_k34_message_written
open Array renaming append_assoc→tS,length_toList→zb,getElem?_eq_some_iff→Vg,toList_append→dE0
open Bool renaming and_eq_true→eH,false_ne_true→i5,true_and→lQ,or_true→lR,and_true→nj,false_and→tU,eq_iff_iff→ue,false_eq_true→uf,or_false→zd,not_false→Dv,not_true→Dw,true_or→Dx,false_or→Dy
open Classical renaming byContradiction→IE
open False renaming elim→fU
open ForInStep renaming yield→IF
open Int renaming toNat→fJ,toNat_natCast→gU,emod_nonneg→gW,emod_lt_of_pos→ib,natAbs_natCast→i8,natCast_emod→oM,natCast_mul→um,toNat_of_nonneg→zu,natCast_add→IQ,natCast_nonneg→U8,zero_add→Vr,emod_eq_of_lt→Vv,fdiv_eq_ediv_of_nonneg→dC7
open List renaming range→aM,getElem?_eq_getElem→aP,getD_eq_getElem?_getD→aU,replicate→bo,length_map→bA,mem_map→bH,mem_append→bZ,length_range→cm,getElem?_map→cu,mem_cons→cz,map_map→cA,zipWith→cW,mem_range→da,mem_append_right→df,append_assoc→dh,map_cons→dv,all_cons→dy,all_eq_true→dz,getElem_mem→dE,length_append→dN,size_toArray→dO,mem_append_left→eZ,mem_singleton→fk,map_append→fv,append_nil→fV,length_replicate→fW,lookup_cons→fX,mem_cons_of_mem→gq,getElem?_eq_none→gr,length_take→iJ,mem_cons_self→iY,getElem?_eq_some_iff→iZ,not_mem_nil→i6,length_zipWith→i7,length_cons→jz,set_cons_zero→jA,set_cons_succ→jB,nodup_cons→jW,map_nil→jX,length_set→jY,getElem?_range→jZ,getElem?_append_right→kB,getElem_of_mem→kD,lookup→lJ,length_drop→lL,length_singleton→lM,cons.inj→m9,take_add_one→nh,all_map→ni,cons_append→nk,getElem?_zipWith→nq,perm_append_comm→oK,getElem?_cons_zero→oN,getElem?_cons_succ→oO,getElem?_append_left→qA,replicate_succ→qC,append_eq_nil_iff→qF,mem_of_mem_drop→qG,map→qH,map_replicate→qI,mem_filter→tR,getElem?_set_ne→tT,of_mem_zip→tX,getElem?_replicate→tY,mem_of_getElem?→tZ,flatten_cons→t9,foldl_cons→ua,nil_append→ub,take_length→ug,mem_of_mem_take→uh,all_nil→ui,map_congr_left→uj,append_inj→zh,take_of_length_le→zi,map_set→zw,getElem_map→zx,filterMap_cons→CZ,set_set→Df,mem_replicate→Dg,zipWith_map→Dj,getElem?_mapIdx→Dk,foldl_append→Dm,pairwise_append→Dr,length_nil→Dt,cons.injEq→Du,getElem?_set_self→Iw,length→Iy,map_zipWith→IM,mem_map_of_mem→IS,length_zip→IT,range_succ→IU,contains_iff_mem→IV,pairwise_cons→IY,Pairwise.nil→Vb,any_eq_true→Ve,Sublist.refl→Vi,mem_of_find?_eq_some→Vk,map_drop→Vl,map_take→Vm,ext_getElem?→Vn,getElem?_drop→Vo,drop_eq_nil_of_le→Vp,mem_or_eq_of_mem_set→Vs,ext_getElem→Vu,sum_cons→Vw,zipWith_cons_cons→Vx,findIdx_lt_length_of_exists→Vz,find?_eq_none→VA,getElem_range→VC,pairwise_singleton→VD,take_append_drop→VE,mem_filterMap→dC6,getElem?_take_of_lt→dC8,set_eq_of_length_le→dD5,eq_nil_iff_forall_not_mem→dD6,filter_eq_self→dD7,range_succ_eq_map→dD8,getElem?_take→dD9,zip_cons_cons→dE1,sublist_cons_self→dE2,findIdx_getElem→dE3,findIdx?_eq_some_iff_getElem→dE4,findIdx?_eq_none_iff→dE5,pairwise_iff_getElem→dE6,Pairwise.filter→dE7,countP_eq_length_filter→dE8,pairwise_lt_range→dE9,find?_eq_some_iff_append→dF0,length_filter_le→dF1,flatMap_append→dF3
open Nat renaming le_refl→bK,lt_of_lt_of_le→du,ne_of_lt→fj,le_trans→fu,lt_irrefl→gI,shiftLeft_eq→kC,zero_le→lK,xor_zero→lN,mul_comm→m4,pow_succ→m5,testBit_xor→m6,lt_of_le_of_lt→m8,zero_xor→oJ,succ_pos→oQ,xor_assoc→qD,mul_assoc→ud,mod_lt→uk,two_pow_pos→ze,pow_le_pow_right→zf,sub_self→zj,not_lt→zk,mul_mod→zo,mod_eq_of_lt→zr,mod_add_mod→zt,le_of_lt→CY,le_of_eq→C5,lt_succ_self→C6,eq_of_testBit_eq→C9,testBit_zero→Dc,xor_self→De,min_self→Dh,le_of_succ_le→Dn,succ.inj→Dq,testBit_lt_two_pow→IB,testBit_succ→IC,strongRecOn→ID,add_assoc→IL,one_shiftLeft→IZ,ne_of_gt→U7,add_comm→Va,xor_comm→Vc,testBit_and→Vd,lt_succ_of_lt→Vq,mod_mod→Vt,zero_add→Vy,lt_or_ge→VB,testBit_eq_decide_div_mod_eq→dC9,shiftLeft_xor_distrib→dD0,mul_lt_mul_right→dD1,testBit_shiftLeft→dD2,shiftRight_eq_div_pow→dD3,mul_le_mul_right→dF2
open Ne renaming symm→fH
open Option renaming some.inj→cV,getD_some→qE,getD_none→t7,map_some→zy,some.injEq→zA,isSome_iff_exists→C7,map_eq_some_iff→Di,map_none→Ds,toList_some→Vj,bind_some→dD4
open Or renaming inl→ai,inr→aW
open PyProof renaming Rows.callWith_type1→C2
open PySem renaming Heap.lt_size→bS,Value.ref→cZ,PassesOwn.never→eR,Heap.get?_push_of_some→fI,Heap.get?_push_size→gJ,Value.int→oG,Builtin.bitAnd→oH,Builtin.bitXor→oI,Value.none→qy,Heap.get?_update_other→qB,Heap.size_push→tW,Str.empty→zc,Obj.mapSeq→C8,Value.bool→Iu,Heap.get?_update_self→Iz,SeqAt.EqAt→IA,Walks.list→IG,Obj.data_mapFields→IH,Value.builtin→II,Value.type.inj→IJ,Builtin.Str.strSliceIndices→IK,NameKind.cell→IW,Builtin.List.listTooLong→U9,Obj.isFreed_of_fields→Vf,Heap.MadeExcOf→Vh,Calls.Name_function_global→dC5
open Sum renaming inl→tP,inr→tQ
open True renaming intro→tV
set_option Elab.async false
set_option linter.all false
set_option maxRecDepth 100000
local macro_rules | `(tactic| omega)=>`(tactic| lia)
noncomputable section
namespace L2
open PySem PySem.Spec PyProof.Rows
abbrev Key:=Sum Int Str
def VF:Key->Value->Bool
 | .inl k,v=>Value.isInt k v
 | .inr x,v=>Value.isStrOf x v
def c04(w:World):Key->Int
 | .inl k=>hashInt k
 | .inr x=>hashStr w x
theorem nt:∀{k:Key} {v:Value},VF k v=true->(∃i t,k=tP i/\v=oG i t)\/(∃x t,k=tQ x/\v=Value.str x t)
 | .inl i,v,h=>by
  obtain⟨t,e⟩:=Value.isInt_shape (k:=i) (v:=v) h
  exact .inl ⟨i,t,rfl,e⟩
 | .inr x,v,h=>by
  obtain⟨t,e⟩:=Value.isStrOf_shape (x:=x) (v:=v) h
  exact .inr ⟨x,t,rfl,e⟩
theorem cR4(a b:Int):decide ((tP a:Key)=tP b)=(a==b):=by
 by_cases e:a=b
 ·subst e;simp
 ·have h:¬ (tP a:Key)=tP b:=λq=>e (Sum.inl.inj q)
  rw[decide_eq_false h]
  exact(beq_eq_false_iff_ne.mpr e).symm
theorem cO4(a b:Str):decide ((tQ a:Key)=tQ b)=decide (a=b):=by
 by_cases e:a=b
 ·subst e;simp
 ·have h:¬ (tQ a:Key)=tQ b:=λq=>e (Sum.inr.inj q)
  rw[decide_eq_false h,decide_eq_false e]
theorem cN3(a:Int)(b:Str):decide ((tP a:Key)=tQ b)=false:=decide_eq_false (λq=>nomatch q)
theorem cO2(a:Str)(b:Int):decide ((tQ a:Key)=tP b)=false:=decide_eq_false (λq=>nomatch q)
def VG(prog:Program)(w:World):PySem.KeyKind prog w Key where
 is:=VF
 hash:=c04 w
 inj:=λv a b ha hb=>by
  rcases nt ha with⟨i,t,rfl,rfl⟩ | ⟨x,t,rfl,rfl⟩
  ·rcases nt hb with⟨j,u,rfl,e⟩ | ⟨y,u,rfl,e⟩
   ·injection e with e1 _;rw[e1]
   ·exact nomatch e
  ·rcases nt hb with⟨j,u,rfl,e⟩ | ⟨y,u,rfl,e⟩
   ·exact nomatch e
   ·injection e with e1 _;rw[e1]
 byValue:=λk v h=>by
  rcases nt h with⟨i,t,rfl,rfl⟩ | ⟨x,t,rfl,rfl⟩<;>rfl
 pyHash:=λhv h=>by
  rcases nt hv with⟨i,t,rfl,rfl⟩ | ⟨x,t,rfl,rfl⟩
  ·exact wpAny_pyHash_int h
  ·exact wpAny_pyHash_str h
 eqBool:=λhu hv h=>by
  rcases nt hu with⟨i,t,rfl,rfl⟩ | ⟨x,t,rfl,rfl⟩
  ·rcases nt hv with⟨j,u,rfl,rfl⟩ | ⟨y,u,rfl,rfl⟩
   ·rw[cR4]at h;exact wpAny_eqBool_int h
   ·rw[cN3]at h;exact SeqAt.EqAt.int_str i t y u _ _ _ _ h
  ·rcases nt hv with⟨j,u,rfl,rfl⟩ | ⟨y,u,rfl,rfl⟩
   ·rw[cO2]at h;exact SeqAt.EqAt.str_int x t j u _ _ _ _ h
   ·rw[cO4]at h;exact wpAny_eqBool_str h
 «strs»:=λk x t v h=>by
  rcases nt h with⟨i,u,rfl,e⟩ | ⟨y,u,rfl,e⟩
  ·exact nomatch e
  ·injection e with e1 _
   subst e1
   cases v<;>rfl
end L2
namespace L2
open PySem PySem.Spec PyProof.Rows
inductive V where
 | aw | bl (b:Bool) | int (i:Int) | str (x:Str) | Dz (b:Array UInt8) | qJ (b:UInt64) | ref (a:Addr) | ty (n:String)
 deriving DecidableEq
def RelV:V->Value->Prop
 | .aw,u=>u=qy
 | .bl b,u=>u=Iu b
 | .int i,u=>∃t,u=oG i t
 | .str x,u=>∃t,u=Value.str x t
 | .Dz b,u=>∃t,u=Value.bytes b t
 | .qJ b,u=>∃t,u=Value.float b t
 | .ref a,u=>u=cZ a
 | .ty n,u=>u=Value.type n
abbrev Vals:List V->List Value->Prop:=Paired RelV
theorem Vals.length{xs:List V}{us:List Value}(r:Vals xs us):xs.length=us.length:=Paired.length r
theorem Vals.get:∀{xs:List V} {us:List Value} {i:Nat} {x:V},Vals xs us->xs[i]?=some x->∃u,us[i]?=some u/\RelV x u
 | _,_,_,_,.nil,e=>by simp at e
 | _,_,0,_,.cons r _,e=>by simp at e;subst e;exact⟨_,rfl,r⟩
 | _,_,i+1,x,.cons _ t,e=>by
  obtain⟨u,h1,h2⟩:=Vals.get (i:=i) (x:=x) t (by simpa using e)
  exact⟨u,by simpa using h1,h2⟩
theorem Vals.set{x:V}{u:Value}(r:RelV x u):∀{xs:List V} {us:List Value} (i:Nat),Vals xs us->Vals (xs.set i x) (us.set i u)
 | _,_,_,.nil=>.nil
 | _,_,0,.cons _ t=>.cons r t
 | _,_,i+1,.cons q t=>.cons q (Vals.set r i t)
theorem Vals.append:∀{xs ys:List V} {us ws:List Value},Vals xs us->Vals ys ws->Vals (xs++ys) (us++ws)
 | _,_,_,_,.nil,s=>s
 | _,_,_,_,.cons r t,s=>.cons r (Vals.append t s)
theorem Vals.take:∀{xs:List V} {us:List Value} (n:Nat),Vals xs us->Vals (xs.take n) (us.take n)
 | _,_,0,_=>.nil
 | _,_,_+1,.nil=>.nil
 | _,_,n+1,.cons r t=>.cons r (Vals.take n t)
theorem Vals.drop:∀{xs:List V} {us:List Value} (n:Nat),Vals xs us->Vals (xs.drop n) (us.drop n)
 | _,_,0,r=>r
 | _,_,_+1,.nil=>.nil
 | _,_,n+1,.cons _ t=>Vals.drop n t
def lU:Option V->Option Value->Prop
 | some v,some u=>RelV v u
 | none,none=>True
 | _,_=>False
def KV{κ:Type}:List (κ × V)->List (κ × Value)->Prop:=Paired λ(p:κ × V) (q:κ × Value)=>p.1=q.1/\RelV p.2 q.2
def kV:Key->V
 | .inl i=>.int i
 | .inr x=>.str x
inductive HO where
 | lst (xs:List V)
 | tup (xs:List V)
 | dK (dP:List (Key × V)) | dT (dP:List (List Key × V))
 | set (S:Int->Bool) (n:Nat)
 | ins (C dx:Addr) (fs:List (Str × V))
 | own (x:Addr)
 | xd (fs:List (Str × V))
 | met (f x:Addr)
 | zB (lo hi:Int)
 | bz (o:Obj) (u:HO)
 | dF (ps:Array Value)
 | ext (φ:Heap->Prop)
abbrev Hp:=Addr->Option HO
def upd(H:Hp)(a:Addr)(o:HO):Hp:=λb=>if b=a then some o else H b
theorem bM{H:Hp}{a:Addr}{o:HO}:upd H a o a=some o:=by unfold upd;rw[if_pos rfl]
theorem bf{H:Hp}{a b:Addr}{o:HO}(h:b≠a):upd H a o b=H b:=by unfold upd;rw[if_neg h]
theorem eU{H:Hp}{a b:Addr}{o:HO}(h:H a=some o)(h':H b=none):a≠b:=by
 intro e;subst e;rw[h]at h';cases h'
section
variable(P:Program)(w:World)
def eB(H:Hp)(h:Heap)(a:Addr):HO->Prop
 | .lst xs=>xs.length<=sizeLine/\∃(its:List Value) (n:Nat),Vals xs its/\h.get? a=some { cls:=.type "list",data:=.seq its.toArray n }
 | .tup xs=>xs.length<=sizeLine/\∃its:List Value,Vals xs its/\IsTup h a its.toArray
 | .dK dP=>dP.length<=sizeLine/\(a==sysModules)=false/\∃vs,KV dP vs/\h.DictOf (VG P w) a vs
 | .dT dP=>dP.length<=sizeLine/\(a==sysModules)=false/\∃xs:List (List Key × Addr × Value),
   Paired (λ(p:List Key × V) (q:List Key × Addr × Value)=>p.1=q.1/\H q.2.1=some (.tup (p.1.map kV))/\RelV p.2 q.2.2) dP xs /\
   ∃o es ep,h.get? a=some o/\o.ExactDict/\o.data=.dict es ep/\es.toList=xs.map (entryOfKey (tupleKind (VG P w)))/\(xs.map (·.1)).Nodup
 | .set S n=>h.SetOf (intKind P w) a S n
 | .ins C dx fs=>H dx=some (.own a)/\fs.length<=1000/\dx≠a/\h.get? a=some (PySem.W.instObj C dx) /\
   ∃mA,h.Ns1 dx mA/\(∀f,lU (fs.lookup f) (mA f))/\PySem.Within mA (fs.map (·.1))
 | .own _=>∃o,h.get? a=some o
 | .xd fs=>∃mA,h.Ns1 a mA/\∀f,lU (fs.lookup f) (mA f)
 | .zB lo hi=>∃t u v,h.get? a=some { cls:=.type "range",data:=.fields #[.int lo t,.int hi u,.int 1 v] }
 | .bz o u=>h.get? a=some o/\eB H h a u
 | .dF ps=>h.get? a=some { cls:=.none,data:=.fields ps }/\TriplesOk ps.toList/\∀pos cv,codeAmong pos ps.toList=some cv->∃c φ,cv=.ref c/\H c=some (.ext φ)/\∀h',φ h'->∃q,h'.CodeRec (.ref c) q
 | .met f x=>h.get? a=some (PySem.W.methodObj (.ref f) (.ref x))
 | .ext φ=>φ h/\(∃o,h.get? a=some o)/\∀h1 h2:Heap,φ h1->(∀b o,(b=a\/H b=some (.own a))->h1.get? b=some o->h2.get? b=some o)->φ h2
def cO(H:Hp)(h:Heap):Prop:=∀a o,H a=some o->eB P w H h a o
end
section
variable{P:Program}{w:World}{H H':Hp}{h h':Heap}{a:Addr}{o:HO}
theorem eB.lt(x:eB P w H h a o):a<h.objs.size:=by
 cases o with
 | lst xs=>obtain⟨_,_,_,_,e⟩:=x;exact bS e
 | tup xs=>obtain⟨_,_,_,p⟩:=x;exact p.lt
 | dK dP=>obtain⟨_,_,_,_,o,_,_,e,_⟩:=x;exact bS e
 | dT dP=>obtain⟨_,_,_,_,o,_,_,e,_⟩:=x;exact bS e
 | set S n=>obtain⟨o,_,_,_,e,_⟩:=x;exact bS e
 | ins C dx fs=>obtain⟨_,_,_,e,_⟩:=x;exact bS e
 | own y=>obtain⟨_,e⟩:=x;exact bS e
 | xd fs=>obtain⟨_,⟨_,_,_,e,_⟩,_⟩:=x;exact bS e
 | zB lo hi=>obtain⟨_,_,_,e⟩:=x;exact bS e
 | bz ob u=>obtain⟨e,_⟩:=x;exact bS e
 | dF ps=>exact bS (show h.get? a=some _ from x.1)
 | met f y=>exact bS (show h.get? a=some _ from x)
 | ext φ=>obtain⟨_,⟨_,e⟩,_⟩:=x;exact bS e
theorem Paired.I0{α β:Type}{F G:α->β->Prop}:∀{l₁:List α} {l₂:List β},Paired F l₁ l₂->(∀a b,F a b->G a b)->Paired G l₁ l₂
 | _,_,.nil,_=>.nil
 | _,_,.cons r t,f=>.cons (f _ _ r) (Paired.I0 t f)
theorem eB.kE(x:eB P w H h a o)(k:∀b u,(b=a\/H b=some (.own a))->h.get? b=some u->h'.get? b=some u)
  (ho:∀b,H b=some (.own a)->H' b=some (.own a)) (ht:∀b xs,H b=some (.tup xs)->H' b=some (.tup xs)) (hx:∀b φ,H b=some (.ext φ)->H' b=some (.ext φ)):eB P w H' h' a o:=by
 induction o with
 | lst xs=>obtain⟨z,its,n,r,e⟩:=x;exact⟨z,its,n,r,k _ _ (.inl rfl) e⟩
 | tup xs=>obtain⟨z,its,r,ob,e,c⟩:=x;exact⟨z,its,r,ob,k _ _ (.inl rfl) e,c⟩
 | dK dP=>obtain⟨z,y,vs,r,ob,es,ep,e,c⟩:=x;exact⟨z,y,vs,r,ob,es,ep,k _ _ (.inl rfl) e,c⟩
 | dT dP =>
  obtain⟨z,y,xs,r,ob,es,ep,e,c⟩:=x
  exact⟨z,y,xs,Paired.I0 r λp q z=>⟨z.1,ht _ _ z.2.1,z.2.2⟩,ob,es,ep,k _ _ (.inl rfl) e,c⟩
 | set S n=>obtain⟨ob,es,ep,t,e,c⟩:=x;exact⟨ob,es,ep,t,k _ _ (.inl rfl) e,c⟩
 | ins C dx fs =>
  obtain⟨d,z,ne,e,mA,⟨od,es,ep,e2,c⟩,r⟩:=x
  exact⟨ho _ d,z,ne,k _ _ (.inl rfl) e,mA,⟨od,es,ep,k _ _ (.inr d) e2,c⟩,r⟩
 | own y=>obtain⟨ob,e⟩:=x;exact⟨ob,k _ _ (.inl rfl) e⟩
 | xd fs=>obtain⟨mA,⟨od,es,ep,e,c⟩,r⟩:=x;exact⟨mA,⟨od,es,ep,k _ _ (.inl rfl) e,c⟩,r⟩
 | zB lo hi=>obtain⟨t,u,v,e⟩:=x;exact⟨t,u,v,k _ _ (.inl rfl) e⟩
 | bz ob u ih=>obtain⟨e,q⟩:=x;exact⟨k _ _ (.inl rfl) e,ih q⟩
 | dF ps =>
  obtain⟨e,t,c⟩:=x
  refine⟨k a _ (.inl rfl) e,t,λpos cv q=>?_⟩
  obtain⟨d,φ,e1,e2,e3⟩:=c pos cv q
  exact⟨d,φ,e1,hx _ _ e2,e3⟩
 | met f y =>
  have e:h.get? a=some (PySem.W.methodObj (.ref f) (.ref y)):=x
  show h'.get? a=some (PySem.W.methodObj (.ref f) (.ref y))
  exact k a _ (.inl rfl) e
 | ext φ=>obtain⟨p,⟨o,e⟩,st⟩:=x;exact⟨st _ _ p λb o hb q=>k _ _ hb q,⟨o,k _ _ (.inl rfl) e⟩,λh1 h2 p1 kk=>st h1 h2 p1 λb o hb q=>kk b o (hb.imp id (ho b)) q⟩
theorem cO.lt(x:cO P w H h)(e:H a=some o):a<h.objs.size:=(x a o e).lt
theorem cO.fresh(x:cO P w H h)(e:h.objs.size<=a):H a=none:=by
 cases q:H a with
 | none=>rfl
 | some u=>exact absurd (du (x.lt q) e) (gI _)
theorem cO.kept(x:cO P w H h)(k:∀b u,h.get? b=some u->h'.get? b=some u):cO P w H h':=λa o e =>
 (x a o e).kE (λb u _ q=>k b u q) (λ_ q=>q) (λ_ _ q=>q) λ_ _ q=>q
theorem cO.laid(x:cO P w H h)(k:∀b u,h.get? b=some u->h'.get? b=some u)(hp:h.objs.size<=a)(new:eB P w (upd H a o) h' a o):cO P w (upd H a o) h':=λb u e=>by
 have hn:=x.fresh hp
 by_cases hb:b=a
 ·subst hb;rw[bM]at e;cases e;exact new
 ·rw[bf hb]at e
  exact(x b u e).kE (λc v _ q=>k c v q) (λc q=>by rw[bf (eU q hn)];exact q) (λc xs q=>by rw[bf (eU q hn)];exact q) λc xs q=>by rw[bf (eU q hn)];exact q
end
def Rd(H:Hp)(a:Addr)(u:HO):Prop:=H a=some u\/∃o,H a=some (.bz o u)
theorem Rd.ok{P:Program}{w:World}{H:Hp}{h:Heap}{a:Addr}{u:HO}(r:Rd H a u)(x:cO P w H h):eB P w H h a u:=by
 rcases r with r | ⟨o,r⟩
 ·exact x a u r
 ·obtain⟨_,q⟩:=x a _ r
  exact q
def DA:Option HO->Prop
 | some (.lst _)=>True
 | some (.dK _)=>True
 | some (.dT _)=>True
 | some (.set _ _)=>True
 | some (.ins _ _ _)=>True
 | _=>False
section
variable{P:Program}{w:World}{H:Hp}{h h':Heap}{x e:Addr}{o':HO}
theorem cO.write(ok:cO P w H h)(mu:DA (H x))(he:e=x\/H e=some (.own x))(k:∀b u,b≠e->h.get? b=some u->h'.get? b=some u)(uo:∃u,h'.get? e=some u)
  (new:eB P w (upd H x o') h' x o'):cO P w (upd H x o') h':=λb u q=>by
 have VH:∀c y,H c=some (.own y)->c≠x:=λc y r z=>by subst z;rw[r]at mu;exact mu
 have dF9:∀c xs,H c=some (.tup xs)->c≠x:=λc xs r z=>by subst z;rw[r]at mu;exact mu
 by_cases hb:b=x
 ·subst hb;rw[bM]at q;cases q;exact new
 ·rw[bf hb]at q
  by_cases qK:b=e
  ·have q':H b=some (.own x):=by
    rcases he with z | z
    ·exact absurd (qK.trans z) hb
    ·rw[qK];exact z
   rw[q]at q';cases q'
   obtain⟨v,hv⟩:=uo
   exact⟨v,by rw[qK];exact hv⟩
  ·refine(ok b u q).kE (λc v hc r=>k c v ?_ r) (λc r=>by rw[bf (VH c b r)];exact r) (λc xs r=>by rw[bf (dF9 c xs r)];exact r) λc φ r=>by rw[bf (λz=>by rw[z]at r;rw[r]at mu;exact mu)];exact r
   rcases hc with rfl | hc
   ·exact qK
   ·rintro rfl
    rcases he with z | z
    ·exact VH c b hc z
    ·rw[hc]at z;cases z;exact hb rfl
end
structure Un(fs ex:List Addr)(H H':Hp)(h h':Heap):Prop where
 keep:∀b o,h.get? b=some o->H b=none->b ∉ fs->b ∉ ex->h'.get? b=some o
 slot:∀b o,h.get? b=some o->H b=none->b∈fs->b ∉ ex->∃sl,h'.get? b=some { o with slots:=sl }
 free:∀b o,h.get? b=some o->H b=none->b ∉ ex->H' b=none
 there:∀b o,h.get? b=some o->b ∉ ex->∃o',h'.get? b=some o'
 j3:∀b xs,H b=some (.tup xs)->H' b=some (.tup xs)
 jC:∀b o u,H b=some (.bz o u)->H' b=some (.bz o u)
 iK:∀b ps,H b=some (.dF ps)->∃more,H' b=some (.dF (ps++more))
section
variable{fs fs' ex ex':List Addr}{H H1 H2:Hp}{h h1 h2 h':Heap}{a x e:Addr}{o:HO}
theorem Un.any(u:Un fs ex H H1 h h1){b:Addr}{ob:Obj}(q:h.get? b=some ob)(n:H b=none)(hx:b ∉ ex):∃sl,h1.get? b=some { ob with slots:=sl }:=by
 by_cases hb:b∈fs
 ·exact u.slot b ob q n hb hx
 ·exact⟨ob.slots,u.keep b ob q n hb hx⟩
theorem Un.kept(k:∀b u,h.get? b=some u->h'.get? b=some u):Un fs ex H H h h' :=
 ⟨λb ob q _ _ _=>k b ob q,λb ob q _ _ _=>⟨ob.slots,k b ob q⟩,λ_ _ _ n _=>n,λb ob q _=>⟨ob,k b ob q⟩,λ_ _ q=>q,λ_ _ _ q=>q,λ_ ps q=>⟨#[],by rw[q];simp⟩⟩
theorem Un.refl:Un fs ex H H h h:=Un.kept λ_ _ q=>q
theorem Un.laid(k:∀b u,h.get? b=some u->h'.get? b=some u)(hp:h.objs.size<=a)(hn:H a=none):Un fs ex H (upd H a o) h h' where
 keep:=λb u q _ _ _=>k b u q
 slot:=λb u q _ _ _=>⟨u.slots,k b u q⟩
 free:=λb u q n _=>by rw[bf (fj (du (bS q) hp))];exact n
 there:=λb u q _=>⟨u,k b u q⟩
 j3:=λb xs q=>by rw[bf (eU q hn)];exact q
 jC:=λb u xs q=>by rw[bf (eU q hn)];exact q
 iK:=λb ps q=>⟨#[],by rw[bf (eU q hn),q];simp⟩
theorem Un.write(mu:DA (H x))(he:e=x\/H e=some (.own x))(k:∀b u,b≠e->h.get? b=some u->h'.get? b=some u)(uo:∃u,h'.get? e=some u):Un fs ex H (upd H x o) h h':=by
 have hx:∀b,H b=none->b≠x:=λb n z=>by subst z;rw[n]at mu;exact mu
 have hb:∀b,H b=none->b≠e:=λb n z=>by
  subst z
  rcases he with r | r
  ·exact hx b n r
  ·rw[n]at r;cases r
 have hm:∀b u,H b=some u->¬ DA (some u)->b≠x:=λb u q nm z=>by subst z;rw[q]at mu;exact nm mu
 refine⟨λb u q n _ _=>k b u (hb b n) q,λb u q n _ _=>⟨u.slots,k b u (hb b n) q⟩,λb u q n _=>by rw[bf (hx b n)];exact n,λb u q _=>?_,
  λb xs q=>by rw[bf (hm b _ q λz=>z)];exact q,λb u xs q=>by rw[bf (hm b _ q λz=>z)];exact q,λb ps q=>⟨#[],by rw[bf (hm b _ q λz=>z),q];simp⟩⟩
 by_cases qK:b=e
 ·subst qK;exact uo
 ·exact⟨u,k b u qK q⟩
end
def DB(h:Heap)(H:Hp):List Addr:=(aM h.objs.size).filter λa=>(H a).isSome
def lV(h:Heap)(H:Hp):Heap:=PySem.W.hideAll h (DB h H)
theorem ca7(h:Heap)(H:Hp):(lV h H).objs.size=h.objs.size:=PySem.W.hideAll_size _ _
theorem cn3{h:Heap}{H:Hp}{b:Addr}{o:Obj}(e:h.get? b=some o)(n:H b=none):(lV h H).get? b=some o :=
 PySem.W.hideAll_get _ e λhm=>by
  have q:(H b).isSome=true:=(tR.mp hm).2
  rw[n]at q;simp at q
theorem cx9{h:Heap}{H:Hp}{b:Addr}{o:Obj}(e:(lV h H).get? b=some o):h.get? b=some o/\H b=none:=by
 have e':h.get? b=some o:=PySem.W.of_hideAll (DB h H) e
 refine⟨e',?_⟩
 cases q:H b with
 | none=>rfl
 | some x =>
  have hm:b∈DB h H:=tR.mpr ⟨da.mpr (bS e'),by simp[q]⟩
  have z:(lV h H).get? b=none:=PySem.W.hideAll_none (DB h H) hm
  rw[z]at e;cases e
end L2
namespace L2
open PySem PySem.Spec PyProof.Rows
structure Mod(K:PySem.W.Frag)(mg:Str->Option Value)(base:Heap):Prop where
 nu:K.In base
 glob:base.Ns mainGlobals mg
 blt:∃mb,base.Ns builtinsNs mb/\∀x:Str,x≠"__name__"->mb x=bootBuiltins x
 nolimit:base.NoLimit
structure Cx where
 prog:Program
 w:World
 K:PySem.W.Frag
 mg:Str->Option Value
 base:Heap
 A:Around
 N:List Str
 cP:Shared
 j4:Hp
 env:Env
 outer:List Env
 stack:List Env
 ex:List Addr
 fn:Str->Bool
 calm:Bool
 pn:List (Addr × Obj)
 xe:Value->Shared->Prop
def eI(l:List Env):List Addr:=l.filterMap (·.frame)
abbrev Cx.fs(X:Cx):List Addr:=eI X.outer
def lW(sc:Scope)(x:Str):Prop:=sc.names.lookup x=some .local\/sc.names.lookup x=some .cell\/sc.names.lookup x=some .free
def Loc(sc:Scope)(x:Str):Prop:=sc.names.lookup x=some .local\/sc.names.lookup x=some .cell
def c87(env:Env)(h:Heap)(m:Str->Option Value)(x:Str)(u:Value):Prop :=
 (env.kindOf x=some .local/\m x=some u)\/((env.kindOf x=some .cell\/env.kindOf x=some .free)/\∃c,env.cells.lookup x=some c/\h.IsCell c (some u))
structure Cx.Ok(X:Cx):Prop where
 mod:Mod X.K X.mg X.base
 kind:X.env.scope.kind=.function
 glob:X.env.globals=mainGlobals
 blt:X.env.builtins=builtinsNs
 above:X.cP.heap.objs.size<=X.env.locals
 inj:∀x y c,X.env.cells.lookup x=some c->X.env.cells.lookup y=some c->x=y
 has:∀x,(X.env.kindOf x=some .cell\/X.env.kindOf x=some .free)->∃c,X.env.cells.lookup x=some c
 qL:∀x c,X.fn x=true->X.env.cells.lookup x=some c->X.cP.heap.objs.size<=c
 hd:X.calm=true->X.A.handled=none
 frames:X.A.frames=some X.stack
 zC:X.stack=X.outer\/(X.stack=X.env::X.outer/\X.env.frame=some X.env.locals)
 zD:∀b∈X.ex,b≠X.env.locals/\∀x c,X.env.cells.lookup x=some c->c≠b
 bs:∀b o,X.base.get? b=some o->X.cP.heap.get? b=some o/\X.j4 b=none
 j5:X.base.objs.size<=X.cP.heap.objs.size
 uq:∀b o,X.base.get? b=some o->b ∉ X.ex
 ur:∀b∈X.ex,b ∉ X.fs
 gX:X.cP.heap.FunFrames X.base X.outer
 j6:∀b∈X.fs,X.j4 b=none
structure Inv(X:Cx)(pins:List (Addr × Obj))(σ:List (Option V))(H:Hp)(s:Shared):Prop where
 ok:X.Ok
 os:s.os=X.cP.os
 bare:AllBare s.gens
 base:Un X.fs X.ex X.j4 H X.cP.heap s.heap
 loc:∃m,s.heap.Ns X.env.locals m/\∀(i:Nat) (x:Str) (v:V),X.N[i]?=some x->σ[i]?=some (some v)->lW X.env.scope x->∃u,RelV v u/\c87 X.env s.heap m x u
 cell:∀x c,X.env.cells.lookup x=some c->∃v,s.heap.IsCell c v
 free:H X.env.locals=none
 jD:∀x c,X.env.cells.lookup x=some c->H c=none
 pin:∀p∈X.pn++pins,s.heap.get? p.1=some p.2/\H p.1=none/\p.1≠X.env.locals/\p.1 ∉ X.fs/\∀v,p.2.data≠.cell v
 aL:cO X.prog X.w H s.heap
 len:σ.length=X.N.length
section
variable{X:Cx}{pins:List (Addr × Obj)}{σ:List (Option V)}{H H':Hp}{s:Shared}{h':Heap}
theorem Cx.Ok.dG4(ok:X.Ok){b:Addr}{o:Obj}(e:X.base.get? b=some o):b ∉ X.fs:=λhb=>by
 have:=(ok.gX.mem hb).1
 rw[e]at this;cases this
theorem Inv.bs(I:Inv X pins σ H s):∀b o,X.base.get? b=some o->s.heap.get? b=some o/\H b=none:=λb o e =>
 ⟨I.base.keep b o (I.ok.bs b o e).1 (I.ok.bs b o e).2 (I.ok.dG4 e) (I.ok.uq b o e),I.base.free b o (I.ok.bs b o e).1 (I.ok.bs b o e).2 (I.ok.uq b o e)⟩
theorem Inv.bk(I:Inv X pins σ H s):∀b o,X.base.get? b=some o->s.heap.get? b=some o:=λb o e=>(I.bs b o e).1
theorem Inv.mod(I:Inv X pins σ H s):Mod X.K X.mg X.base:=I.ok.mod
theorem Inv.di(I:Inv X pins σ H s):X.K.In s.heap:=I.ok.mod.nu.keeps I.bk
theorem Inv.lt(I:Inv X pins σ H s):X.env.locals<s.heap.objs.size:=let⟨_,hn,_⟩:=I.loc;hn.lt
theorem Inv.sz(I:Inv X pins σ H s):X.cP.heap.objs.size<=s.heap.objs.size:=fu I.ok.above (CY I.lt)
theorem Inv.VI(I:Inv X pins σ H s){a:Addr}(h:s.heap.objs.size<=a):a ∉ X.fs:=λhb=>by
 obtain⟨_,o,ho,_⟩:=I.ok.gX.mem hb
 exact absurd (du (bS ho) (fu I.sz h)) (gI _)
theorem Inv.oR(I:Inv X pins σ H s):∀x c,X.env.cells.lookup x=some c->c≠X.env.locals:=λx c e z=>by
 obtain⟨v,o,ho,hd⟩:=I.cell x c e
 obtain⟨m,⟨o',es,ep,kF,zE,_⟩,_⟩:=I.loc
 rw[z,kF]at ho;cases ho;rw[zE]at hd;cases hd
theorem Inv.gX(I:Inv X pins σ H s):s.heap.FunFrames X.base X.outer:=by
 have all:∀(l:List Env),(∀b∈eI l,b∈X.fs)->X.cP.heap.FunFrames X.base l->s.heap.FunFrames X.base l:=by
  intro l
  induction l with
  | nil=>intro _ _;trivial
  | cons env r ih =>
   intro hs hl
   obtain⟨hk,⟨L,o,hf,hn,ho,hd⟩,hr⟩:=hl
   have hL:L∈X.fs:=hs L (by unfold eI;rw[CZ,hf];exact iY)
   obtain⟨sl,e⟩:=I.base.slot L o ho (I.ok.j6 L hL) hL λz=>I.ok.ur L z hL
   exact⟨hk,⟨L,_,hf,hn,e,hd⟩,ih (λb hb=>hs b (by unfold eI;rw[CZ,hf];exact gq _ hb)) hr⟩
 exact all X.outer (λ_ hb=>hb) I.ok.gX
theorem Inv.stack(I:Inv X pins σ H s):s.heap.FunFrames X.base X.stack:=by
 rcases I.ok.zC with e | ⟨e,hf⟩
 ·rw[e];exact I.gX
 ·rw[e]
  obtain⟨m,hn,_⟩:=I.loc
  refine .cons (by rw[I.ok.kind];decide) hf hn ?_ I.gX
  exact Heap.get?_none_of_le (fu I.ok.j5 I.ok.above)
theorem Inv.DC(I:Inv X pins σ H s):∀b∈eI X.stack,b∈X.env.locals::X.fs:=λb hb=>by
 rcases I.ok.zC with e | ⟨e,hf⟩
 ·rw[e]at hb;exact gq _ hb
 ·rw[e]at hb
  unfold eI at hb
  rw[CZ,hf]at hb
  exact hb
theorem Inv.Ja(I:Inv X pins σ H s):∀b∈eI X.stack,H b=none:=λb hb=>by
 rcases cz.mp (I.DC b hb)with e | hb
 ·rw[e];exact I.free
 ·obtain⟨_,o,ho,_⟩:=I.ok.gX.mem hb
  exact I.base.free b o ho (I.ok.j6 b hb) λz=>I.ok.ur b z hb
theorem Inv.step{g':Array GenState}{t':Nat}{d':Drawn}{ch:List Addr}(I:Inv X pins σ H s)
  (lX:∀b∈ch,(b∈X.ex\/X.cP.heap.objs.size<=b)/\b≠X.env.locals/\(∀x c,X.env.cells.lookup x=some c->c≠b)/\∀p∈X.pn++pins,p.1≠b)
  (keep:∀b o,b≠X.env.locals->b ∉ X.fs->b ∉ ch->s.heap.get? b=some o->H b=none->h'.get? b=some o)
  (slot:∀b o,b≠X.env.locals->b∈X.fs->b ∉ ch->s.heap.get? b=some o->H b=none->∃sl,h'.get? b=some { o with slots:=sl }) (free:∀b o,b ∉ ch->s.heap.get? b=some o->H b=none->H' b=none)
  (there:∀b o,b ∉ ch->s.heap.get? b=some o->∃o',h'.get? b=some o')
  (j3:∀b xs,H b=some (.tup xs)->H' b=some (.tup xs)) (jC:∀b o u,H b=some (.bz o u)->H' b=some (.bz o u)) (iK:∀b ps,H b=some (.dF ps)->∃more,H' b=some (.dF (ps++more)))
  (ns:∀m,s.heap.Ns X.env.locals m->h'.Ns X.env.locals m) (aL:cO X.prog X.w H' h') (hg:AllBare g') :
  Inv X pins σ H' { s with heap:=h',gens:=g',drawn:=d',toks:=t' }:=by
 have DD:∀b o,X.cP.heap.get? b=some o->b≠X.env.locals:=λb o e=>fj (du (bS e) I.ok.above)
 have uu:∀b o,X.cP.heap.get? b=some o->b ∉ X.ex->b ∉ ch:=λb o e hx hb=>by
  rcases(lX b hb).1 with z | z
  ·exact hx z
  ·exact absurd (du (bS e) z) (gI _)
 have cellK:∀x c,X.env.cells.lookup x=some c->∀v,s.heap.IsCell c v->h'.IsCell c v:=λx c e v ⟨o,ho,hd⟩=>by
  have zF:c ∉ ch:=λz=>(lX c z).2.2.1 x c e rfl
  by_cases hc:c∈X.fs
  ·obtain⟨sl,q⟩:=slot c o (I.oR x c e) hc zF ho (I.jD x c e)
   exact⟨_,q,hd⟩
  ·exact⟨o,keep c o (I.oR x c e) hc zF ho (I.jD x c e),hd⟩
 refine⟨I.ok,I.os,hg,⟨λb o e n hb hx=>?_,λb o e n hb hx=>?_,λb o e n hx=>?_,λb o e hx=>?_,λb xs e=>j3 b xs (I.base.j3 b xs e),λb o xs e=>jC b o xs (I.base.jC b o xs e),λb ps e=>?_⟩,?_,λx c e=>?_,?_,λx c e=>?_,λp hp=>?_,aL,I.len⟩
 ·exact keep b o (DD b o e) hb (uu b o e hx) (I.base.keep b o e n hb hx) (I.base.free b o e n hx)
 ·obtain⟨sl,e1⟩:=I.base.slot b o e n hb hx
  obtain⟨Jb,e2⟩:=slot b _ (DD b o e) hb (uu b o e hx) e1 (I.base.free b o e n hx)
  exact⟨Jb,e2⟩
 ·obtain⟨o',e1⟩:=I.base.there b o e hx
  exact free b o' (uu b o e hx) e1 (I.base.free b o e n hx)
 ·obtain⟨o',e1⟩:=I.base.there b o e hx
  exact there b o' (uu b o e hx) e1
 ·obtain⟨m1,e1⟩:=I.base.iK b ps e
  obtain⟨m2,e2⟩:=iK b _ e1
  exact⟨m1++m2,by rw[e2,tS]⟩
 ·obtain⟨m,hn,hl⟩:=I.loc
  refine⟨m,ns m hn,λi x v e1 e2 e3=>?_⟩
  obtain⟨u,r,l⟩:=hl i x v e1 e2 e3
  refine⟨u,r,?_⟩
  rcases l with l | ⟨k,c,e,z⟩
  ·exact .inl l
  ·exact .inr ⟨k,c,e,cellK x c e _ z⟩
 ·obtain⟨v,z⟩:=I.cell x c e
  exact⟨v,cellK x c e v z⟩
 ·obtain⟨m,⟨o,_,_,ho,_⟩,_⟩:=I.loc
  exact free _ o (λz=>(lX _ z).2.1 rfl) ho I.free
 ·obtain⟨v,o,ho,hd⟩:=I.cell x c e
  exact free c o (λz=>(lX c z).2.2.1 x c e rfl) ho (I.jD x c e)
 ·obtain⟨e,n,ne,nf,d⟩:=I.pin p hp
  have zF:p.1 ∉ ch:=λz=>(lX p.1 z).2.2.2 p hp rfl
  exact⟨keep p.1 p.2 ne nf zF e n,free p.1 p.2 zF e n,ne,nf,d⟩
theorem Inv.un{t':Nat}(I:Inv X pins σ H s)(u:Un X.fs [] H H' s.heap h')(aL:cO X.prog X.w H' h'):Inv X pins σ H' { s with heap:=h',toks:=t' }:=by
 obtain⟨m,⟨o,es,ep,ho,r⟩,_⟩:=id I.loc
 obtain⟨sl,hL⟩:=u.any ho I.free (by simp)
 exact I.step (g':=s.gens) (d':=s.drawn) (ch:=[]) (λ_ z=>nomatch z) (λb o _ hb _ e n=>u.keep b o e n hb (by simp)) (λb o _ hb _ e n=>u.slot b o e n hb (by simp)) (λb o _ e n=>u.free b o e n (by simp)) (λb o _ e=>u.there b o e (by simp)) u.j3 u.jC u.iK (λm' hm=>by
  obtain⟨o',Jc,Jd,kF,r'⟩:=hm
  rw[ho]at kF;cases kF
  exact⟨_,Jc,Jd,hL,r'⟩) aL I.bare
theorem Inv.call{g':Array GenState}{t':Nat}{d':Drawn}{ch:List Addr}(I:Inv X pins σ H s)(u:Un (eI X.stack) ch H H' s.heap h')(aL:cO X.prog X.w H' h')(hg:AllBare g')
  (lX:∀b∈ch,(b∈X.ex\/X.cP.heap.objs.size<=b)/\b≠X.env.locals/\(∀x c,X.env.cells.lookup x=some c->c≠b)/\∀p∈X.pn++pins,p.1≠b) :
  Inv X pins σ H' { s with heap:=h',gens:=g',drawn:=d',toks:=t' }:=by
 obtain⟨m,⟨o,es,ep,ho,r⟩,_⟩:=id I.loc
 obtain⟨sl,hL⟩:=u.any ho I.free λz=>(lX _ z).2.1 rfl
 exact I.step (ch:=ch) lX (λb o hL hb hc e n=>u.keep b o e n (λz=>(cz.mp (I.DC b z)).elim hL hb) hc) (λb o _ _ hc e n=>u.any e n hc) (λb o hc e n=>u.free b o e n hc) (λb o hc e=>u.there b o e hc) u.j3 u.jC u.iK (λm' hm=>by
  obtain⟨o',Jc,Jd,kF,r'⟩:=hm
  rw[ho]at kF;cases kF
  exact⟨_,Jc,Jd,hL,r'⟩) aL hg
theorem Inv.turned{t':Nat}{it:Addr}(I:Inv X pins σ H s)(k:∀b o,b≠it->s.heap.get? b=some o->h'.get? b=some o)(hn:H it=none)(hL:it≠X.env.locals)
  (h1:it∈X.ex\/X.cP.heap.objs.size<=it) (h2:∀x c,X.env.cells.lookup x=some c->c≠it) (h3:∀p∈X.pn++pins,p.1≠it):Inv X pins σ H { s with heap:=h',toks:=t' }:=by
 have oS:∀b u,H b=some u->b≠it:=λb u e z=>by rw[z,hn]at e;cases e
 refine I.step (g':=s.gens) (d':=s.drawn) (ch:=[it]) (λb hb=>?_) (λb o _ _ hc e _=>k b o (λz=>hc (by simp[z])) e) (λb o _ _ hc e _=>⟨o.slots,k b o (λz=>hc (by simp[z])) e⟩) (λ_ _ _ _ n=>n)
  (λb o hc e=>⟨o,k b o (λz=>hc (by simp[z])) e⟩) (λ_ _ e=>e) (λ_ _ _ e=>e) (λb ps e=>⟨#[],by rw[e];simp⟩) (λm hm=>?_) (λb u e=>?_) I.bare
 ·have e:b=it:=by simpa using hb
  subst e
  exact⟨h1,hL,h2,h3⟩
 ·obtain⟨o,es,ep,ho,r⟩:=hm
  exact⟨o,es,ep,k _ o (fH hL) ho,r⟩
 ·refine(I.aL b u e).kE (λc v hc q=>k c v ?_ q) (λ_ q=>q) (λ_ _ q=>q) λ_ _ q=>q
  rcases hc with z | z
  ·rw[z];exact oS b u e
  ·exact oS c _ z
theorem Inv.tok(I:Inv X pins σ H s)(t:Nat):Inv X pins σ H { s with toks:=t }:=I.un (h':=s.heap) (t':=t) Un.refl I.aL
theorem Inv.kept{t':Nat}(I:Inv X pins σ H s)(k:∀b u,s.heap.get? b=some u->h'.get? b=some u):Inv X pins σ H { s with heap:=h',toks:=t' }:=I.un (Un.kept k) (I.aL.kept k)
theorem Inv.laid{a:Addr}{o:HO}{t':Nat}(I:Inv X pins σ H s)(k:∀b u,s.heap.get? b=some u->h'.get? b=some u)(hp:s.heap.objs.size<=a)(new:eB X.prog X.w (upd H a o) h' a o) :
  Inv X pins σ (upd H a o) { s with heap:=h',toks:=t' }:=I.un (Un.laid k hp (I.aL.fresh hp)) (I.aL.laid k hp new)
theorem Inv.write{x e:Addr}{o:HO}{t':Nat}(I:Inv X pins σ H s)(mu:DA (H x))(he:e=x\/H e=some (.own x))(k:∀b u,b≠e->s.heap.get? b=some u->h'.get? b=some u)(uo:∃u,h'.get? e=some u)
  (new:eB X.prog X.w (upd H x o) h' x o):Inv X pins σ (upd H x o) { s with heap:=h',toks:=t' }:=I.un (Un.write mu he k uo) (I.aL.write mu he k uo new)
theorem Inv.weak{aK:List (Option V)}(I:Inv X pins σ H s)(hl:aK.length=σ.length)(w:∀(i:Nat) v,aK[i]?=some (some v)->σ[i]?=some (some v)):Inv X pins aK H s :=
 ⟨I.ok,I.os,I.bare,I.base,let⟨m,hn,Je⟩:=I.loc;⟨m,hn,λi x v e1 e2 e3=>Je i x v e1 (w i v e2) e3⟩,I.cell,I.free,I.jD,I.pin,I.aL,hl.trans I.len⟩
theorem Inv.VJ{Jf:List (Addr × Obj)}(I:Inv X pins σ H s)(h:∀p∈Jf,s.heap.get? p.1=some p.2/\H p.1=none/\p.1≠X.env.locals/\p.1 ∉ X.fs/\∀v,p.2.data≠.cell v):Inv X Jf σ H s :=
 ⟨I.ok,I.os,I.bare,I.base,I.loc,I.cell,I.free,I.jD,λp hp=>(bZ.mp hp).elim (λz=>I.pin p (eZ _ z)) (h p),I.aL,I.len⟩
theorem VL{N:List Str}(hN:N.Nodup){i j:Nat}{x:Str}(a:N[i]?=some x)(b:N[j]?=some x):i=j:=by
 obtain⟨h1,e1⟩:=iZ.mp a
 obtain⟨h2,e2⟩:=iZ.mp b
 exact(List.getElem_inj hN).mp (e1.trans e2.symm)
theorem ce7{M:Model}{A:Around}{E:Value->Shared->Prop}{i:Nat}{x:Str}{v:V}{u:Value}{Q:Unit->Shared->Prop}(I:Inv X pins σ H s)(hN:X.N.Nodup)(hi:X.N[i]?=some x)(hx:Loc X.env.scope x)(r:RelV v u)
  (h:∀s',Inv X pins (σ.set i (some v)) H s'->(∃a,Heap.SameBut a s.heap s'.heap/\(a=X.env.locals\/X.env.cells.lookup x=some a))->Q () s') (hf:X.fn x=true\/X.env.scope.names.lookup x=some .local:=by first | exact .inl rfl | exact .inr rfl | assumption):wpAny M A (storeName X.env x u) Q E s:=by
 obtain⟨m,hn,hl⟩:=id I.loc
 have dG6:(X.env.scope.kind==.class||(X.env.scope.kind==.module&&X.env.locals != X.env.globals))=false:=by rw[I.ok.kind];rfl
 have VM:i<σ.length:=by rw[I.len];exact(iZ.mp hi).1
 have oR:=I.oR
 have tracked:∀{a:Addr} {h':Heap},(∃o,s.heap.get? a=some o/\H a=none)->Heap.SameBut a s.heap h'->cO X.prog X.w H h':=λ{a h'} ha hs b ob e=>by
  obtain⟨_,_,VN⟩:=ha
  refine(I.aL b ob e).kE (λc w' hc q=>(hs.2 c ?_).trans q) (λ_ q=>q) (λ_ _ q=>q) λ_ _ q=>q
  rintro rfl
  rcases hc with rfl | hc
  ·rw[VN]at e;cases e
  ·rw[VN]at hc;cases hc
 rcases hx with hk | hk
 ·refine wpAny_storeName_local hk hn (λh' hn' hs=>?_) dG6
  obtain⟨oL,_,_,hoL,_⟩:=id hn
  refine h _ ⟨I.ok,I.os,I.bare,⟨λb o e n hb hx=>?_,λb o e n hb hx=>?_,I.base.free,λb o e hx=>?_,I.base.j3,I.base.jC,I.base.iK⟩,⟨_,hn',λj y v' e1 e2 e3=>?_⟩,λy c e=>?_,I.free,I.jD,λp hp=>?_,tracked ⟨oL,hoL,I.free⟩ hs,by simpa using I.len⟩ ⟨_,hs,.inl rfl⟩
  ·exact(hs.2 b (fj (du (bS e) I.ok.above))).trans (I.base.keep b o e n hb hx)
  ·obtain⟨sl,e1⟩:=I.base.slot b o e n hb hx
   exact⟨sl,(hs.2 b (fj (du (bS e) I.ok.above))).trans e1⟩
  ·obtain⟨o',e1⟩:=I.base.there b o e hx
   exact⟨o',(hs.2 b (fj (du (bS e) I.ok.above))).trans e1⟩
  ·by_cases hj:j=i
   ·subst hj
    rw[hi]at e1;cases e1
    rw[Iw VM]at e2
    cases e2
    exact⟨u,r,.inl ⟨hk,by simp⟩⟩
   ·rw[tT (fH hj)]at e2
    obtain⟨u',r',q⟩:=hl j y v' e1 e2 e3
    refine⟨u',r',?_⟩
    rcases q with⟨k,e⟩ | ⟨k,c,e,z⟩
    ·refine .inl ⟨k,?_⟩
     have:y≠x:=λe=>hj (VL hN e1 (e ▸ hi))
     simp[this,e]
    ·exact .inr ⟨k,c,e,z.sameBut hs (oR y c e)⟩
  ·obtain⟨w',z⟩:=I.cell y c e
   exact⟨w',z.sameBut hs (oR y c e)⟩
  ·obtain⟨e,n,ne,nf,d⟩:=I.pin p hp
   exact⟨(hs.2 p.1 ne).trans e,n,ne,nf,d⟩
 ·have zG:X.fn x=true:=by
   rcases hf with z | z
   ·exact z
   ·rw[z]at hk;cases hk
  obtain⟨c,hc⟩:=I.ok.has x (.inl hk)
  obtain⟨w',z⟩:=I.cell x c hc
  refine wpAny_storeName_cell I.ok.kind hk hc z (λh' zH hs=>?_)
  obtain⟨oc,i9,dG9⟩:=id z
  refine h { s with heap:=h' } ⟨I.ok,I.os,I.bare,⟨λb o e n hb hx=>?_,λb o e n hb hx=>?_,I.base.free,λb o e hx=>?_,I.base.j3,I.base.jC,I.base.iK⟩,⟨m,hn.sameBut hs (fH (oR x c hc)),λj y v' e1 e2 e3=>?_⟩,λy c' e=>?_,I.free,I.jD,λp hp=>?_,tracked ⟨oc,i9,I.jD x c hc⟩ hs,by simpa using I.len⟩ ⟨c,hs,.inr hc⟩
  ·exact(hs.2 b (fj (du (bS e) (I.ok.qL x c zG hc)))).trans (I.base.keep b o e n hb hx)
  ·obtain⟨sl,e1⟩:=I.base.slot b o e n hb hx
   exact⟨sl,(hs.2 b (fj (du (bS e) (I.ok.qL x c zG hc)))).trans e1⟩
  ·obtain⟨o',e1⟩:=I.base.there b o e hx
   exact⟨o',(hs.2 b (fj (du (bS e) (I.ok.qL x c zG hc)))).trans e1⟩
  ·by_cases hj:j=i
   ·subst hj
    rw[hi]at e1;cases e1
    rw[Iw VM]at e2
    cases e2
    exact⟨u,r,.inr ⟨.inl hk,c,hc,zH⟩⟩
   ·rw[tT (fH hj)]at e2
    obtain⟨u',r',q⟩:=hl j y v' e1 e2 e3
    refine⟨u',r',?_⟩
    rcases q with q | ⟨k,c',e,z'⟩
    ·exact .inl q
    ·refine .inr ⟨k,c',e,z'.sameBut hs ?_⟩
     rintro rfl
     exact hj (VL hN e1 (I.ok.inj _ _ _ e hc ▸ hi))
  ·by_cases VO:c'=c
   ·subst VO;exact⟨_,zH⟩
   ·obtain⟨w2,z2⟩:=I.cell y c' e
    exact⟨w2,z2.sameBut hs VO⟩
  ·obtain⟨e,n,ne,nf,d⟩:=I.pin p hp
   refine⟨(hs.2 p.1 ?_).trans e,n,ne,nf,d⟩
   intro q
   rw[q,i9]at e
   have q':oc=p.2:=cV e
   exact d w' (by rw[<-q'];exact dG9)
theorem Jg{M:Model}{A:Around}{E:Value->Shared->Prop}{i:Nat}{x:Str}{v:V}{u:Value}{Q:Unit->Shared->Prop}(I:Inv X pins σ H s)(hN:X.N.Nodup)(hi:X.N[i]?=some x)(hx:Loc X.env.scope x)(r:RelV v u)
  (h:∀s',Inv X pins (σ.set i (some v)) H s'->Q () s') (hf:X.fn x=true\/X.env.scope.names.lookup x=some .local:=by first | exact .inl rfl | exact .inr rfl | assumption):wpAny M A (storeName X.env x u) Q E s :=
 ce7 I hN hi hx r (λs' I' _=>h s' I') hf
theorem Inv.dH0{s':Shared}{ch:List Addr}(I:Inv X pins σ H s)(ho:s'.os=s.os)(u:Un (eI X.stack) ch H H' s.heap s'.heap)(aL:cO X.prog X.w H' s'.heap)(hg:AllBare s'.gens)
  (lX:∀b∈ch,(b∈X.ex\/X.cP.heap.objs.size<=b)/\b≠X.env.locals/\(∀x c,X.env.cells.lookup x=some c->c≠b)/\∀p∈X.pn++pins,p.1≠b):Inv X pins σ H' s':=by
 obtain⟨h',g',d',t',o'⟩:=s'
 have e:o'=s.os:=ho
 subst e
 exact I.call (g':=g') (t':=t') (d':=d') u aL hg lX
end
abbrev XK:=Value->Option Addr->Hp->Prop
abbrev St:=List (Option V)
abbrev VK:=V->Hp->Prop
abbrev TE:=St->Hp->VK->Prop
abbrev TT:=St->Hp->(Bool->Hp->Prop)->Prop
abbrev TA:=St->Hp->(List V->Hp->Prop)->Prop
structure Ends where
 nx:St->Hp->Prop
 rt:VK
 bk:St->Hp->Prop:=λ_ _=>False
 ct:St->Hp->Prop:=λ_ _=>False
abbrev TS:=Ends->St->Hp->Prop
def EP(X:Cx)(pins:List (Addr × Obj))(σ:St)(Q:VK)(u:Value)(s':Shared):Prop:=∃v H',Inv X pins σ H' s'/\RelV v u/\Q v H'
def TP(X:Cx)(pins:List (Addr × Obj))(σ:St)(Q:Bool->Hp->Prop)(b:Bool)(s':Shared):Prop:=∃H',Inv X pins σ H' s'/\Q b H'
def AP(X:Cx)(pins:List (Addr × Obj))(σ:St)(Q:List V->Hp->Prop)(us:List Value)(s':Shared):Prop:=∃vs H',Inv X pins σ H' s'/\Vals vs us/\Q vs H'
def SP(X:Cx)(pins:List (Addr × Obj))(D:Ends)(f:Flow)(s':Shared):Prop :=
 match f with
 | .next=>∃aK H',Inv X pins aK H' s'/\D.nx aK H'
 | .brk=>∃aK H',Inv X pins aK H' s'/\D.bk aK H'
 | .cont=>∃aK H',Inv X pins aK H' s'/\D.ct aK H'
 | .ret u=>∃v aK H',Inv X pins aK H' s'/\RelV v u/\D.rt v H'
def PE(X:Cx)(e:Expr)(t:TE):Prop :=
 ∀(pins:List (Addr × Obj)) (s:Shared) (σ:St) (H:Hp) (Q:VK),Inv X pins σ H s->t σ H Q->wpAny (model X.prog X.w) X.A (eval e X.env) (EP X pins σ Q) X.xe s
def PT(X:Cx)(e:Expr)(t:TT):Prop :=
 ∀(pins:List (Addr × Obj)) (s:Shared) (σ:St) (H:Hp) (Q:Bool->Hp->Prop),Inv X pins σ H s->t σ H Q->wpAny (model X.prog X.w) X.A (isTrue e X.env (eval e X.env)) (TP X pins σ Q) X.xe s
def PW(X:Cx)(e:Expr)(t:TT):Prop :=
 ∀(whole:Sem Value) (pins:List (Addr × Obj)) (s:Shared) (σ:St) (H:Hp) (Q:Bool->Hp->Prop),Inv X pins σ H s->t σ H Q->wpAny (model X.prog X.w) X.A (isTrue e X.env whole) (TP X pins σ Q) X.xe s
theorem PW.pt{X:Cx}{e:Expr}{t:TT}(h:PW X e t):PT X e t:=h _
def PA(X:Cx)(es:List Expr)(t:TA):Prop :=
 ∀(pos:Pos) (pins:List (Addr × Obj)) (s:Shared) (σ:St) (H:Hp) (Q:List V->Hp->Prop),Inv X pins σ H s->t σ H Q->wpAny (model X.prog X.w) X.A (spliced (backTo pos (starEach es X.env))) (AP X pins σ Q) X.xe s
def PS(X:Cx)(st:Stmt)(t:TS):Prop :=
 ∀(pins:List (Addr × Obj)) (s:Shared) (σ:St) (H:Hp) (D:Ends),Inv X pins σ H s->t D σ H->wpAny (model X.prog X.w) X.A (exec st X.env) (SP X pins D) X.xe s
def PSs(X:Cx)(st:List Stmt)(t:TS):Prop :=
 ∀(pins:List (Addr × Obj)) (s:Shared) (σ:St) (H:Hp) (D:Ends),Inv X pins σ H s->t D σ H->wpAny (model X.prog X.w) X.A (execs st X.env) (SP X pins D) X.xe s
theorem aS{α:Type}{t:Sem α}{Q Q':α->Shared->Prop}{M:Model}{A:Around}{E:Value->Shared->Prop}{s:Shared}(h:wpAny M A t Q E s)(hQ:∀a s,Q a s->Q' a s):wpAny M A t Q' E s:=wpAny_mono h hQ λ_ _ x=>x
end L2
namespace L2
open PySem PySem.Spec PyProof.Rows
section
variable{X:Cx}
def VP(i:Nat):TE:=λσ H Q=>∃v,σ[i]?=some (some v)/\Q v H
def tC(v:V):TE:=λ_ H Q=>Q v H
theorem qM{i:Nat}{x:Str}{pos:Pos}(hN:X.N[i]?=some x)(hv:lW X.env.scope x)(hd:(x==("__debug__":Str))=false:=by decide)(cJ:(x==("__classdict__":Str))=false:=by decide):PE X (.Name x pos) (VP i):=by
 intro pins s σ H Q I h
 obtain⟨v,e,h⟩:=h
 obtain⟨m,hn,hl⟩:=I.loc
 obtain⟨u,r,l⟩:=hl i x v hN e hv
 have fin:EP X pins σ Q u s:=⟨v,H,I,r,h⟩
 rcases l with⟨hk,hm⟩ | ⟨hk,c,hc,DE⟩
 ·exact wpAny_Name (wpAny_loadName_local I.ok.kind hk hn hm fin) hd
 ·rcases hk with hk | hk
  ·exact wpAny_Name (wpAny_loadName_cell I.ok.kind hk hc DE fin) hd
  ·exact wpAny_Name (wpAny_loadName_free I.ok.kind hk hc DE fin cJ) hd
theorem oU{i j pos}:PE X (.Constant (.int i) j pos) (tC (.int i)):=λ_ _ _ H _ I h=>wpAny_Constant_int ⟨.int i,H,I.tok _,⟨_,rfl⟩,h⟩
theorem cX3{b j pos}:PE X (.Constant (.bool b) j pos) (tC (.bl b)):=λ_ _ _ H _ I h=>Constant_bool ⟨.bl b,H,I,rfl,h⟩
theorem cN9{j pos}:PE X (.Constant .none j pos) (tC .aw):=λ_ _ _ H _ I h=>Constant_none ⟨.aw,H,I,rfl,h⟩
theorem cR8{x j pos}:PE X (.Constant (.str x) j pos) (tC (.str x)):=λ_ _ _ H _ I h=>Calls.Constant_str ⟨.str x,H,I.tok _,⟨_,rfl⟩,h⟩
def Gl(X:Cx)(x:Str):Prop:=X.env.kindOf x=some .globalImplicit
theorem zI{E:Value->Shared->Prop}{pins:List (Addr × Obj)}{s:Shared}{σ:St}{H:Hp}{x:Str}{u:Value}{pos:Pos}{Q:Value->Shared->Prop}(I:Inv X pins σ H s)(hg:Gl X x)(hm:X.mg x=some u)(h:Q u s)
  (hd:(x==("__debug__":Str))=false:=by decide):wpAny (model X.prog X.w) X.A (eval (.Name x pos) X.env) Q E s :=
 dC5 I.ok.kind hg (Calls.loadGlobal_global (by rw[I.ok.glob];exact I.mod.glob.keeps I.bk) hm h) hd
theorem qN{E:Value->Shared->Prop}{pins:List (Addr × Obj)}{s:Shared}{σ:St}{H:Hp}{x:Str}{u:Value}{pos:Pos}{Q:Value->Shared->Prop}(I:Inv X pins σ H s)(hg:Gl X x)(hm:X.mg x=none)(hv:bootBuiltins x=some u)(h:Q u s)
  (hn:x≠"__name__":=by decide) (hd:(x==("__debug__":Str))=false:=by decide):wpAny (model X.prog X.w) X.A (eval (.Name x pos) X.env) Q E s:=by
 obtain⟨mb,h1,h2⟩:=I.mod.blt
 exact dC5 I.ok.kind hg (Calls.loadGlobal_builtin (by rw[I.ok.glob];exact I.mod.glob.keeps I.bk) hm (by rw[I.ok.blt];exact h1.keeps I.bk) ((h2 x hn).trans hv) h) hd
theorem cC2{x:Str}{v:V}{u:Value}{pos:Pos}(hg:Gl X x)(hm:X.mg x=some u)(r:RelV v u)(hd:(x==("__debug__":Str))=false:=by decide):PE X (.Name x pos) (tC v) :=
 λ_ _ _ H _ I h=>zI I hg hm ⟨v,H,I,r,h⟩ hd
theorem cB4{x:Str}{v:V}{u:Value}{pos:Pos}(hg:Gl X x)(hm:X.mg x=none)(hv:bootBuiltins x=some u)(r:RelV v u)(hn:x≠"__name__":=by decide)(hd:(x==("__debug__":Str))=false:=by decide):PE X (.Name x pos) (tC v) :=
 λ_ _ _ H _ I h=>qN I hg hm hv ⟨v,H,I,r,h⟩ hn hd
variable{a b:Expr}{ta tb:TE}{pos:Pos}
def tB(t:TE):TT:=λσ H Q=>t σ H λx H1=>∃c,x=.bl c/\Q c H1
theorem DF{e:Expr}{t:TE}(h:PE X e t)(he:∀whole,isTrue e X.env whole=(do let v<-whole;standAt e.pos;holding [v] (truthy v)):=by intro _;rfl):PT X e (tB t):=by
 intro pins s σ H Q I hw
 refine isTrue_plain (aS (h pins s σ H _ I hw) λv s1 ⟨x,H1,I1,r1,q1⟩=>?_) (he _)
 obtain⟨d,rfl,q⟩:=q1
 cases r1
 exact wpAny_truthy_bool ⟨H1,I1,q⟩
variable{tA VQ:TT}{rest:List Expr}
def tOr(t u:TT):TT:=λσ H Q=>t σ H λc H1=>if c=true then Q true H1 else u σ H1 Q
def cZ6(t:TT):TT:=λσ H Q=>t σ H λc H1=>Q (!c) H1
theorem lY(ha:PT X a tA):PW X (.BoolOp .Or [a] pos) tA:=by
 intro wh pins s σ H Q I h
 refine isTrue_or (aS (ha pins s σ H Q I h) λc s1 e=>?_)
 cases c with
 | false=>exact isTrue_or_nil e
 | true=>exact e
theorem VR(ha:PT X a tA)(hb:PW X (.BoolOp .Or (b::rest) pos) VQ):PW X (.BoolOp .Or (a::b::rest) pos) (tOr tA VQ):=by
 intro wh pins s σ H Q I h
 refine isTrue_or (aS (ha pins s σ H _ I h) λc s1 ⟨H1,I1,q1⟩=>?_)
 cases c with
 | true=>exact⟨H1,I1,q1⟩
 | false=>exact hb wh pins s1 σ H1 Q I1 q1
theorem DG(ha:PT X a tA):PT X (.UnaryOp .Not a pos) (cZ6 tA):=by
 intro pins s σ H Q I h
 exact isTrue_not (ha pins s σ H (λc H1=>Q (!c) H1) I h)
def cW4(ta tb:TE):TE:=λσ H Q=>ta σ H λx H1=>∃c,x=.bl c/\if c=true then tb σ H1 Q else Q (.bl false) H1
def cV2(ta:TE):TE:=λσ H Q=>ta σ H λx H1=>∃c,x=.bl c/\Q (.bl (!c)) H1
theorem uv{op}{t:TE}(h:PE X a t):PE X (.BoolOp op [a] pos) t:=λpins s σ H Q I hw=>BoolOp_one (h pins s σ H Q I hw)
theorem cQ7(ha:PE X a ta)(hb:PE X (.BoolOp .And (b::rest) pos) tb):PE X (.BoolOp .And (a::b::rest) pos) (cW4 ta tb):=by
 intro pins s σ H Q I h
 refine BoolOp_and (aS (ha pins s σ H _ I h) λv s1 ⟨x,H1,I1,r1,q1⟩=>?_)
 obtain⟨c,rfl,q1⟩:=q1
 cases r1
 refine wpAny_truthy_bool ?_
 cases c with
 | true=>exact hb pins s1 σ H1 Q I1 q1
 | false=>exact⟨.bl false,H1,I1,rfl,q1⟩
theorem cT1(ha:PE X a ta):PE X (.UnaryOp .Not a pos) (cV2 ta):=by
 intro pins s σ H Q I h
 refine UnaryOp_ (aS (ha pins s σ H _ I h) λv s1 ⟨x,H1,I1,r1,q1⟩=>?_)
 obtain⟨c,rfl,q1⟩:=q1
 cases r1
 exact not_of (wpAny_truthy_bool ⟨.bl (!c),H1,I1,rfl,q1⟩)
def tIf(t:TT)(ta tb:TE):TE:=λσ H Q=>t σ H λc H1=>if c=true then ta σ H1 Q else tb σ H1 Q
theorem cp2{c:Expr}(hc:PT X c tA)(ha:PE X a ta)(hb:PE X b tb):PE X (.IfExp c a b pos) (tIf tA ta tb):=by
 intro pins s σ H Q I h
 refine wpAny_IfExp (aS (hc pins s σ H _ I h) λd s1 ⟨H1,I1,q1⟩=>?_)
 cases d with
 | true=>exact ha pins s1 σ H1 Q I1 q1
 | false=>exact hb pins s1 σ H1 Q I1 q1
end
end L2
namespace L2
open PySem PySem.Spec PyProof.Rows
def bN(K:PySem.W.Frag)(H:Hp)(a:Addr)(xs:List V):Prop :=
 Rd H a (.lst xs) \/
  ∃(o:Obj) (its:Array Value) (n:Nat),K.lookup a=some o/\o.cls=.type "list"/\o.dict=none/\o.data=.seq its n/\its.size<=sizeLine/\Vals xs its.toList
def ie(K:PySem.W.Frag)(H:Hp)(a:Addr)(xs:List V):Prop :=
 Rd H a (.tup xs) \/
  ∃(o:Obj) (its:Array Value) (n:Nat),K.lookup a=some o/\o.cls=.type "tuple"/\o.data=.seq its n/\its.size<=sizeLine/\Vals xs its.toList
def c80:Value->Option V
 | .none=>some .aw
 | .bool b=>some (.bl b)
 | .int i _=>some (.int i)
 | .str x _=>some (.str x)
 | .bytes b _=>some (.Dz b)
 | .float b _=>some (.qJ b)
 | .ref a=>some (.ref a)
 | .type n=>some (.ty n)
 | _=>none
theorem RelV.abs{x:V}{u:Value}(r:RelV x u):c80 u=some x:=by
 cases x with
 | aw=>cases r;rfl
 | bl _=>cases r;rfl
 | int _=>obtain⟨t,rfl⟩:=r;rfl
 | str _=>obtain⟨t,rfl⟩:=r;rfl
 | Dz _=>obtain⟨t,rfl⟩:=r;rfl
 | qJ _=>obtain⟨t,rfl⟩:=r;rfl
 | ref _=>cases r;rfl
 | ty _=>cases r;rfl
theorem RelV.inj{x y:V}{u:Value}(r:RelV x u)(q:RelV y u):x=y:=cV (r.abs.symm.trans q.abs)
theorem Vals.inj:∀{xs ys:List V} {us:List Value},Vals xs us->Vals ys us->xs=ys
 | _,_,_,.nil,.nil=>rfl
 | _,_,_,.cons r t,.cons r' t'=>by rw[r.inj r',Vals.inj t t']
section
variable{X:Cx}{pins:List (Addr × Obj)}{σ:St}{H:Hp}{s:Shared}{a:Addr}{xs ys:List V}
theorem bN.of{K:PySem.W.Frag}(h:H a=some (.lst xs)):bN K H a xs:=.inl (.inl h)
theorem ie.of{K:PySem.W.Frag}(h:H a=some (.tup xs)):ie K H a xs:=.inl (.inl h)
theorem Inv.list(I:Inv X pins σ H s)(h:bN X.K H a xs):∃its:List Value,Vals xs its/\PlainL s.heap a its.toArray/\xs.length<=sizeLine:=by
 rcases h with h | ⟨o,its,n,hk,hc,hd,hs,hz,r⟩
 ·obtain⟨z,its,n,r,e⟩:=h.ok I.aL
  exact⟨its,r,⟨_,n,e,rfl,rfl,rfl⟩,z⟩
 ·refine⟨its.toList,r,⟨o,n,I.di a o hk,hc,hd,by simpa using hs⟩,?_⟩
  have e:=r.length
  simp only[zb]at e
  omega
theorem Inv.tuple(I:Inv X pins σ H s)(h:ie X.K H a xs):∃its:List Value,Vals xs its/\IsTup s.heap a its.toArray/\xs.length<=sizeLine:=by
 rcases h with h | ⟨o,its,n,hk,hc,hs,hz,r⟩
 ·obtain⟨z,its,r,p⟩:=h.ok I.aL
  exact⟨its,r,p,z⟩
 ·refine⟨its.toList,r,⟨o,I.di a o hk,hc,n,by simpa using hs⟩,?_⟩
  have e:=r.length
  simp only[zb]at e
  omega
theorem Inv.DH(I:Inv X pins σ H s)(h:bN X.K H a xs)(h':bN X.K H a ys):xs=ys:=by
 obtain⟨its,r,⟨o,n,e,_,_,d⟩,_⟩:=I.list h
 obtain⟨its',r',⟨o',n',e',_,_,d'⟩,_⟩:=I.list h'
 rw[e]at e';cases e'
 rw[d]at d'
 injection d' with d1 _
 have:its=its':=by simpa using congrArg Array.toList d1
 subst this
 exact r.inj r'
end
abbrev Cx.j7(X:Cx)(E:Value->Shared->Prop):Cx:={ X with xe:=E }
abbrev Cx.gu(X:Cx):Cx:=X.j7 λ_ _=>False
theorem Cx.Ok.j7{X:Cx}(ok:X.Ok)(E:Value->Shared->Prop):(X.j7 E).Ok :=
 ⟨ok.mod,ok.kind,ok.glob,ok.blt,ok.above,ok.inj,ok.has,ok.qL,ok.hd,ok.frames,ok.zC,ok.zD,ok.bs,ok.j5,ok.uq,ok.ur,ok.gX,ok.j6⟩
theorem Cx.Ok.lZ{X:Cx}{E:Value->Shared->Prop}(ok:(X.j7 E).Ok):X.Ok :=
 ⟨ok.mod,ok.kind,ok.glob,ok.blt,ok.above,ok.inj,ok.has,ok.qL,ok.hd,ok.frames,ok.zC,ok.zD,ok.bs,ok.j5,ok.uq,ok.ur,ok.gX,ok.j6⟩
section
variable{X:Cx}{pins:List (Addr × Obj)}{σ:St}{H:Hp}{s:Shared}{E:Value->Shared->Prop}
theorem Inv.j7(I:Inv X pins σ H s)(E:Value->Shared->Prop):Inv (X.j7 E) pins σ H s:=⟨I.ok.j7 E,I.os,I.bare,I.base,I.loc,I.cell,I.free,I.jD,I.pin,I.aL,I.len⟩
theorem Inv.lZ(I:Inv (X.j7 E) pins σ H s):Inv X pins σ H s:=⟨I.ok.lZ,I.os,I.bare,I.base,I.loc,I.cell,I.free,I.jD,I.pin,I.aL,I.len⟩
theorem SP.lZ{D:Ends}{f:Flow}{s':Shared}(h:SP (X.j7 E) pins D f s'):SP X pins D f s':=by
 cases f with
 | next=>obtain⟨aK,H',I,q⟩:=h;exact⟨aK,H',I.lZ,q⟩
 | brk=>obtain⟨aK,H',I,q⟩:=h;exact⟨aK,H',I.lZ,q⟩
 | cont=>obtain⟨aK,H',I,q⟩:=h;exact⟨aK,H',I.lZ,q⟩
 | ret u=>obtain⟨v,aK,H',I,r,q⟩:=h;exact⟨v,aK,H',I.lZ,r,q⟩
theorem PE.gu{e:Expr}{t:TE}(h:PE X.gu e t):PE X e t:=λpins s σ H Q I hw =>
 wpAny_mono (h pins s σ H Q (I.j7 _) hw) (λ_ _ ⟨v,H',I',r,q⟩=>⟨v,H',I'.lZ,r,q⟩) λ_ _ z=>fU z
theorem PSs.gu{st:List Stmt}{t:TS}(h:PSs X.gu st t):PSs X st t:=λpins s σ H D I hw =>
 wpAny_mono (h pins s σ H D (I.j7 _) hw) (λ_ _ q=>q.lZ) λ_ _ z=>fU z
end
section
variable{X:Cx}{st:Stmt}{rest:List Stmt}{t u:TS}{e:Expr}{te:TE}{pos:Pos}
def cV5:TS:=λD σ H=>D.nx σ H
def c85(t u:TS):TS:=λD σ H=>t { D with nx:=u D } σ H
theorem qO:PSs X [] cV5:=λ_ _ σ H _ I h=>wpAny_execs_nil ⟨σ,H,I,h⟩
theorem eV(h1:PS X st t)(h2:PSs X rest u):PSs X (st::rest) (c85 t u):=by
 intro pins s σ H D I h
 refine wpAny_execs_cons (aS (h1 pins s σ H { D with nx:=u D } I h) λf s1 q=>?_)
 cases f with
 | next =>
  obtain⟨aK,H',I',q⟩:=q
  exact h2 pins s1 aK H' D I' q
 | ret v=>exact q
 | brk=>exact q
 | cont=>exact q
theorem jc(h1:PS X st t):PSs X [st] t:=by
 intro pins s σ H D I h
 refine wpAny_execs_cons (aS (h1 pins s σ H D I h) λf s1 q=>?_)
 cases f with
 | next=>exact wpAny_execs_nil q
 | ret v=>exact q
 | brk=>exact q
 | cont=>exact q
theorem Inv.quiet{pins:List (Addr × Obj)}{σ:St}{H:Hp}{s:Shared}(I:Inv X pins σ H s):interactive X.env=false:=by simp[interactive,I.ok.kind]
def cX0(te:TE):TS:=λD σ H=>te σ H λ_ H1=>D.nx σ H1
theorem qP(he:PE X e te)(hs:swapsWith e none pos.line X.env=pure false:=by rfl):PS X (.Expr e pos) (cX0 te):=by
 intro pins s σ H D I h
 exact wpAny_Expr_any (aS (he pins s σ H _ I h) λv s1 ⟨x,H1,I1,r1,q1⟩=>⟨σ,H1,I1,q1⟩) I.quiet hs
def c74(te:TE):TS:=λD σ H=>te σ H D.rt
theorem cL4(he:PE X e te):PS X (.Return (some e) pos) (c74 te):=by
 intro pins s σ H D I h
 exact wpAny_Return_some (aS (he pins s σ H _ I h) λv s1 ⟨x,H1,I1,r1,q1⟩=>⟨x,σ,H1,I1,r1,q1⟩)
def cZ7(c:TT)(t u:TS):TS:=λD σ H=>c σ H λb H1=>if b=true then t D σ H1 else u D σ H1
theorem qQ{c:Expr}{a b:List Stmt}{tc:TT}(hc:PT X c tc)(ha:PSs X a t)(hb:PSs X b u):PS X (.If c a b pos) (cZ7 tc t u):=by
 intro pins s σ H D I h
 refine wpAny_If (aS (hc pins s σ H _ I h) λd s1 ⟨H1,I1,q1⟩=>?_)
 cases d with
 | true=>exact ha pins s1 σ H1 D I1 q1
 | false=>exact hb pins s1 σ H1 D I1 q1
def cP6:TS:=λ_ _ _=>False
theorem qR:PS X st cP6:=λ_ _ _ _ _ _ h=>h.elim
end
abbrev TG:=V->St->Hp->(St->Hp->Prop)->Prop
abbrev qS:=List V->St->Hp->(St->Hp->Prop)->Prop
def PG(X:Cx)(target:Expr)(t:TG):Prop :=
 ∀(pins:List (Addr × Obj)) (s:Shared) (σ:St) (H:Hp) (v:V) (u:Value) (Q:St->Hp->Prop),Inv X pins σ H s->RelV v u->t v σ H Q ->
  wpAny (model X.prog X.w) X.A (assign target X.env u) (λ_ s'=>∃aK H',Inv X pins aK H' s'/\Q aK H') X.xe s
def DI(X:Cx)(ts:List Expr)(t:qS):Prop :=
 ∀(pins:List (Addr × Obj)) (s:Shared) (σ:St) (H:Hp) (vs:List V) (us:List Value) (Q:St->Hp->Prop),Inv X pins σ H s->Vals vs us->t vs σ H Q ->
  wpAny (model X.prog X.w) X.A (assignInOrder ((assignEach ts X.env).map (·.2)) us) (λ_ s'=>∃aK H',Inv X pins aK H' s'/\Q aK H') X.xe s
abbrev Jh:=V->V->V->Hp->(Hp->Prop)->Prop
def VS(X:Cx)(t:Jh):Prop :=
 ∀(pins:List (Addr × Obj)) (s:Shared) (σ:St) (H:Hp) (o i v:V) (ov iv u:Value) (Q:Hp->Prop),Inv X pins σ H s->RelV o ov->RelV i iv->RelV v u->t o i v H Q ->
  wpAny (model X.prog X.w) X.A (setItem ov iv u) (λ_ s'=>∃H',Inv X pins σ H' s'/\Q H') X.xe s
abbrev Ji:=V->V->Hp->VK->Prop
def PIp(X:Cx)(op:Operator)(t:Ji):Prop :=
 ∀(pins:List (Addr × Obj)) (s:Shared) (σ:St) (H:Hp) (x y:V) (v u:Value) (Q:VK),Inv X pins σ H s->RelV x v->RelV y u->t x y H Q ->
  wpAny (model X.prog X.w) X.A (inplaceOp op v u) (EP X pins σ Q) X.xe s
section
variable{X:Cx}{pos:Pos}
def DJ(i:Nat):TG:=λv σ H Q=>Q (σ.set i (some v)) H
theorem DK{i:Nat}{x:Str}(hN:X.N.Nodup)(hi:X.N[i]?=some x)(hx:Loc X.env.scope x)(hf:X.fn x=true\/X.env.scope.names.lookup x=some .local:=by first | exact .inl rfl | exact .inr rfl | assumption):PG X (.Name x pos) (DJ i):=by
 intro pins s σ H v u Q I r h
 exact wpAny_assign_Name (Jg I hN hi hx r (λs' I'=>⟨_,H,I',h⟩) hf)
def c73:qS:=λvs σ H Q=>vs=[]/\Q σ H
def cV1(t:TG)(u:qS):qS:=λvs σ H Q=>∃v r,vs=v::r/\t v σ H λaK H'=>u r aK H' Q
theorem cE8:DI X [] c73:=by
 intro pins s σ H vs us Q I r h
 obtain⟨e,h⟩:=h
 subst e
 cases r
 exact assignInOrder_nil ⟨σ,H,I,h⟩
theorem VT{e:Expr}{es:List Expr}{t:TG}{u:qS}(h1:PG X e t)(h2:DI X es u)
  (hs:(assignEach (e::es) X.env).map (·.2)=assign e X.env::(assignEach es X.env).map (·.2):=by rfl):DI X (e::es) (cV1 t u):=by
 intro pins s σ H vs us Q I r h
 obtain⟨v,vr,e1,h⟩:=h
 subst e1
 cases r with
 | cons r rr =>
  rw[hs]
  refine assignInOrder_cons (aS (h1 pins s σ H _ _ _ I r h) λ_ s1 ⟨gY,H1,I1,q1⟩=>?_)
  exact h2 pins s1 gY H1 _ _ Q I1 rr q1
def c75(K:PySem.W.Frag)(n:Nat)(t:qS):TG:=λv σ H Q=>∃a xs,v=.ref a/\ie K H a xs/\xs.length=n/\t xs σ H Q
theorem cS5{es:List Expr}{k:Nat}{t:qS}{n:Nat}(hc:X.calm=true)(h:DI X es t)
  (hn:(assignEach es X.env).length=n:=by rfl) (dj:(assignEach es X.env).findIdx? (·.1)=none:=by rfl):PG X (.Tuple es k pos) (c75 X.K n t):=by
 intro pins s σ H v u Q I r hw
 obtain⟨a,xs,e1,hq,hl,hw⟩:=hw
 subst e1
 cases r
 obtain⟨its,rv,ht,hz⟩:=I.tuple hq
 refine assign_Tuple_tuple (I.ok.hd hc) ht (by simp[hn,<- hl,rv.length]) dj λh' hx=>?_
 have I1:Inv X pins σ H { s with heap:=h' }:=I.kept (t':=s.toks) λb o e=>hx b o (fj (bS e)) e
 exact h pins _ σ H xs _ Q I1 (by simpa using rv) hw
def cZ8(to ti:TE)(t:Jh):TG:=λv σ H Q=>to σ H λo H1=>ti σ H1 λi H2=>t o i v H2 λH3=>Q σ H3
theorem VU{o i:Expr}{to ti:TE}{t:Jh}(ho:PE X o to)(hi:PE X i ti)(hs:VS X t)
  (ha:∀v,assign (.Subscript o i pos) X.env v=(do
   let ov<-holding [v] (eval o X.env)
   let iv<-holding [v,ov] (eval i X.env)
   standAt pos
   holding [v,ov,iv] (setItem ov iv v)
   release [v,ov,iv] []):=by intro _;rfl):PG X (.Subscript o i pos) (cZ8 to ti t):=by
 intro pins s σ H v u Q I r h
 rw[ha]
 refine wpAny_bind (wpAny_holding (aS (ho pins s σ H _ I h) λov s1 ⟨x,H1,I1,r1,q1⟩=>?_))
 refine wpAny_bind (wpAny_holding (aS (hi pins s1 σ H1 _ I1 q1) λiv s2 ⟨y,H2,I2,r2,q2⟩=>?_))
 refine wpAny_bind (wpAny_standAt (wpAny_bind (wpAny_holding (aS (hs pins s2 σ H2 x y v ov iv u _ I2 r1 r2 r q2) λ_ s3 ⟨H3,I3,q3⟩=>?_))))
 exact wpAny_release ⟨σ,H3,I3,q3⟩
def Jj(te:TE)(g:TG):TS:=λD σ H=>te σ H λx H1=>g x σ H1 D.nx
theorem VV{tg e:Expr}{te:TE}{g:TG}(he:PE X e te)(hg:PG X tg g)(hs:swapsWithSole [tg] e pos.line X.env=pure false:=by rfl)(hw:swappedStores [tg] e X.env=pure none:=by rfl)
  (h1:(assignEach [tg] X.env).map (·.2)=[assign tg X.env]:=by rfl):PS X (.Assign [tg] e pos) (Jj te g):=by
 intro pins s σ H D I h
 refine wpAny_Assign_stores (aS (he pins s σ H _ I h) λv s1 ⟨x,H1,I1,r1,q1⟩=>?_) hs hw
 rw[h1]
 exact aS (hg pins s1 σ H1 x v _ I1 r1 q1) λ_ s2 q=>q
theorem Jk{i:Nat}{x:Str}{e:Expr}{te:TE}{pos':Pos}(hN:X.N.Nodup)(hi:X.N[i]?=some x)(hx:Loc X.env.scope x)(he:PE X e te)(hs:swapsWith e (some (.Name x pos')) pos.line X.env=pure false:=by rfl)(hf:X.fn x=true\/X.env.scope.names.lookup x=some .local:=by first | exact .inl rfl | exact .inr rfl | assumption) :
  PS X (.Assign [.Name x pos'] e pos) (Jj te (DJ i)):=by
 intro pins s σ H D I h
 refine wpAny_Assign_Name (aS (he pins s σ H _ I h) λv s1 ⟨y,H1,I1,r1,q1⟩=>?_) hs
 exact Jg I1 hN hi hx r1 (λs2 I2=>⟨_,H1,I2,q1⟩) hf
def c06(i:Nat)(te:TE)(ti:Ji):TS:=λD σ H=>∃x,σ[i]?=some (some x)/\te σ H λy H1=>ti x y H1 λz H2=>D.nx (σ.set i (some z)) H2
theorem cT2{i:Nat}{x:Str}{e:Expr}{te:TE}{op:Operator}{ti:Ji}{pos':Pos}(hN:X.N.Nodup)(hi:X.N[i]?=some x)(hx:Loc X.env.scope x)(he:PE X e te)(ho:PIp X op ti)(hf:X.fn x=true\/X.env.scope.names.lookup x=some .local:=by first | exact .inl rfl | exact .inr rfl | assumption) :
  PS X (.AugAssign (.Name x pos') op e pos) (c06 i te ti):=by
 intro pins s σ H D I h
 obtain⟨v,e1,h⟩:=h
 obtain⟨m,hn,hl⟩:=I.loc
 have vis:lW X.env.scope x:=by rcases hx with k | k;exact .inl k;exact .inr (.inl k)
 obtain⟨u,r,l⟩:=hl i x v hi e1 vis
 refine wpAny_AugAssign_Name ?_
 have go:wpAny (model X.prog X.w) X.A (eval e X.env) (λw kG=>wpAny (model X.prog X.w) X.A (inplaceOp op u w) (λr dK2=>wpAny (model X.prog X.w) X.A (storeName X.env x r) (λ_=>SP X pins D .next) X.xe dK2) X.xe kG) X.xe s:=by
  refine aS (he pins s σ H _ I h) λw s1 ⟨y,H1,I1,r1,q1⟩=>?_
  refine aS (ho pins s1 σ H1 v y u w _ I1 r r1 q1) λz s2 ⟨zv,H2,I2,r2,q2⟩=>?_
  exact Jg I2 hN hi hx r2 (λs3 I3=>⟨_,H2,I3,q2⟩) hf
 rcases l with⟨hk,hm⟩ | ⟨hk,c,hc,DE⟩
 ·exact wpAny_loadName_local I.ok.kind hk hn hm go
 ·rcases hk with hk | hk
  ·exact wpAny_loadName_cell I.ok.kind hk hc DE go
  ·rcases hx with k | k
   ·have:X.env.scope.names.lookup x=some .free:=hk
    rw[k]at this;cases this
   ·have:X.env.scope.names.lookup x=some .free:=hk
    rw[k]at this;cases this
end
section
variable{X:Cx}{pos:Pos}
def cN5(c:TT)(tb:TS):TS:=λD σ H=>∃W:Nat->St->Hp->Prop,(∃m,W m σ H)/\∀m σ H,W m σ H ->
 c σ H λb H1=>if b=true then ∃N:St->Hp->Prop,(∀aK H',N aK H'->∃m',m'<m/\W m' aK H')/\tb { D with nx:=N,ct:=N,bk:=D.nx } σ H1 else D.nx σ H1
theorem co7{c:Expr}{body:List Stmt}{tc:TT}{tb:TS}(hp:PassesOwn (model X.prog X.w) X.A X.env X.xe)(hc:PT X c tc)(hb:PSs X body tb):PS X (.While c body [] pos) (cN5 tc tb):=by
 intro pins s σ H D I h
 obtain⟨W,⟨m0,w0⟩,turn⟩:=h
 refine wpAny_While (codeAny_whileLoop (λn s'=>∃aK H',Inv X pins aK H' s'/\W n aK H') ?_ m0 ⟨σ,H,I,w0⟩)
 rintro n s1 ⟨gY,H1,I1,w1⟩
 refine wpAny_passesOwn hp (aS (hc pins s1 gY H1 _ I1 (turn n gY H1 w1)) λb s2 ⟨H2,I2,q2⟩=>?_)
 cases b with
 | true =>
  obtain⟨N,hN,q2⟩:=q2
  rw[if_pos rfl]
  refine wpAny_passesOwn hp (aS (hb pins s2 gY H2 _ I2 q2) λf s3 q3=>?_)
  cases f with
  | next =>
   obtain⟨kH,H3,I3,n3⟩:=q3
   obtain⟨m',hm,w3⟩:=hN kH H3 n3
   exact⟨m',hm,kH,H3,I3,w3⟩
  | cont =>
   obtain⟨kH,H3,I3,n3⟩:=q3
   obtain⟨m',hm,w3⟩:=hN kH H3 n3
   exact⟨m',hm,kH,H3,I3,w3⟩
  | brk=>exact q3
  | ret v=>exact q3
 | false =>
  rw[if_neg i5]
  exact wpAny_execs_nil ⟨gY,H2,I2,q2⟩
end
structure It where
 go:Nat->Hp->Prop
 j8:Nat->Hp->V->Hp->Prop
 stop:Nat->Hp->Prop
def je(X:Cx)(pins:List (Addr × Obj))(H:Hp)(b:Addr):Prop :=
 H b=none/\b≠X.env.locals/\b ∉ X.fs/\(b∈X.ex\/X.cP.heap.objs.size<=b)/\(∀x c,X.env.cells.lookup x=some c->c≠b)/\∀p∈X.pn++pins,p.1≠b
theorem Inv.DL{X:Cx}{pins:List (Addr × Obj)}{σ:St}{H H':Hp}{s:Shared}{b:Addr}(I:Inv X pins σ H s)(hb:s.heap.objs.size<=b)(hn:H' b=none):je X pins H' b:=by
 refine⟨hn,U7 (du I.lt hb),I.VI hb,.inr (fu I.sz hb),λx c e z=>?_,λp hp z=>?_⟩
 ·obtain⟨v,q⟩:=I.cell x c e
  exact absurd (du q.lt (by rw[z];exact hb)) (gI _)
 ·exact absurd (du (bS (I.pin p hp).1) (by rw[z];exact hb)) (gI _)
structure Turn(P:Program)(w:World)(K:PySem.W.Frag)(tg:Expr)(J:It)(fp:List Addr)(it:Addr)(tn:Nat->Heap->Prop):Prop where
 mem:it∈fp
 obj:∀i h,tn i h->∀b∈fp,∃o,h.get? b=some o/\∀v,o.data≠.cell v
 keep:∀i h h',tn i h->(∀b∈fp,∀o,h.get? b=some o->h'.get? b=some o)->tn i h'
 item:∀(X:Cx),X.prog=P->X.w=w->X.K=K->X.calm=true->∀(i:Nat) (pins:List (Addr × Obj)) (s:Shared) (σ:St) (H:Hp) (E:Value->Shared->Prop),Inv X pins σ H s->(∀b∈fp,je X pins H b)->tn i s.heap->J.go i H ->
  wpAny (model P w) X.A (pyNext (.ref it)) (λr s1=>∃u,r=some u /\
   wpAny (model P w) X.A (letOwnedTupleGo tg (.ref it) u) (λ_ s2=>∃x H',Inv X pins σ H' s2/\RelV x u/\J.j8 i H x H'/\tn (i+1) s2.heap/\∀b∈fp,H' b=none) E s1) E s
 done:∀(X:Cx),X.prog=P->X.w=w->X.K=K->X.calm=true->∀(i:Nat) (pins:List (Addr × Obj)) (s:Shared) (σ:St) (H:Hp) (E:Value->Shared->Prop),Inv X pins σ H s->(∀b∈fp,je X pins H b)->tn i s.heap->J.stop i H ->
  wpAny (model P w) X.A (pyNext (.ref it)) (λr s1=>r=none/\Inv X pins σ H s1) E s
 self:∀(A:Around) (i:Nat) (s:Shared) (Q:Value->Shared->Prop) (E:Value->Shared->Prop),tn i s.heap->Q (.ref it) s->wpAny (model P w) A (pyIter (.ref it)) Q E s
abbrev TI:=St->Hp->(It->Hp->Prop)->Prop
def VW(X:Cx)(pins:List (Addr × Obj))(σ:St)(tg:Expr)(R:It->Hp->Prop)(Jl:Value)(s2:Shared):Prop :=
 ∃(it:Addr) (fp:List Addr) (tn:Nat->Heap->Prop) (J:It) (H':Hp),Jl=.ref it/\Inv X pins σ H' s2/\Turn X.prog X.w X.K tg J fp it tn/\tn 0 s2.heap/\(∀b∈fp,je X pins H' b)/\R J H'
def PI(X:Cx)(tg iter:Expr)(wi:TI):Prop :=
 ∀(pins:List (Addr × Obj)) (s:Shared) (σ:St) (H:Hp) (R:It->Hp->Prop),Inv X pins σ H s->wi σ H R ->
  wpAny (model X.prog X.w) X.A (eval iter X.env) (λv s1=>wpAny (model X.prog X.w) X.A (pyIter v) (VW X pins σ tg R) X.xe s1) X.xe s
theorem VX{M:Model}{A:Around}{E:Value->Shared->Prop}{s:Shared}{tg:Expr}{it:Addr}{u:Value}{o:Obj}{n:String}{vs:Array Value}{Q:Unit->Shared->Prop}(ho:s.heap.get? it=some o)(hc:o.cls=.type n)(hd:o.data=.fields vs)
  (hn:["enumerate","zip","dict_itemiterator","dict_reverseitemiterator","odict_iterator","itertools.zip_longest","itertools.pairwise"].contains n=false) (hQ:Q () s):wpAny M A (letOwnedTupleGo tg (.ref it) u) Q E s:=by
 unfold letOwnedTupleGo
 cases tg<;>first
  | exact wpAny_pure hQ
  | (cases u<;>first
    | exact wpAny_pure hQ
    | (refine wpAny_bind (wpAny_load ho ?_)
       rw[hc,hd]
       show wpAny M A (if(["enumerate","zip","dict_itemiterator","dict_reverseitemiterator","odict_iterator","itertools.zip_longest","itertools.pairwise"].contains n&&vs[0]?==some (rawInt _))=true then _ else _) Q E s
       rw[if_neg (by intro h;rw[hn,tU]at h;cases h)]
       exact wpAny_pure hQ))
def Jm(K:PySem.W.Frag)(a:Addr):It :=
 ⟨λi H=>∃xs x,bN K H a xs/\xs[i]?=some x,λi H x H'=>H'=H/\∀xs,bN K H a xs->xs[i]?=some x,λi H=>∃xs,bN K H a xs/\xs.length<=i⟩
def zJ(lo:Int)(n:Nat):It:=⟨λi _=>i<n,λi H x H'=>H'=H/\x=.int (lo+i),λi _=>n<=i⟩
theorem ca1{P:Program}{w:World}{K:PySem.W.Frag}{tg:Expr}(a it:Addr):Turn P w K tg (Jm K a) [it] it (λi h=>h.IsListIter it a i) where
 mem:=by simp
 obj:=λi h st b hb=>by
  have e:b=it:=by simpa using hb
  subst e
  obtain⟨o,e,c,d⟩:=st
  exact⟨o,e,λv z=>by rw[d]at z;cases z⟩
 keep:=λi h h' st k=>st.at λo e=>k it (by simp) o e
 item:=by
  intro X hP hw hK hc i pins s σ H E I hf st hg
  subst hP hw hK
  obtain⟨xs,x,hq,hx⟩:=hg
  obtain⟨its,rv,p,hz⟩:=I.list hq
  obtain⟨u,hu,ru⟩:=rv.get hx
  obtain⟨f0,f1,f2,f3,f4,f5⟩:=hf it (by simp)
  refine wpAny_pyNext_list_item st p.isList (x:=u) (by simpa using hu) λh' oV sb=>?_
  have I1:Inv X pins σ H { s with heap:=h' }:=I.turned (t':=s.toks) (λb o hb e=>(sb.2 b hb).trans e) f0 f1 f3 f4 f5
  obtain⟨o,e,c,d⟩:=id oV
  exact⟨u,rfl,VX (s:={ s with heap:=h' }) e c d (by decide) ⟨x,H,I1,ru,⟨rfl,λys hy=>by rw[I.DH hy hq];exact hx⟩,oV,λb hb=>(hf b hb).1⟩⟩
 done:=by
  intro X hP hw hK hc i pins s σ H E I hf st hg
  subst hP hw hK
  obtain⟨xs,hq,hx⟩:=hg
  obtain⟨its,rv,p,hz⟩:=I.list hq
  obtain⟨f0,f1,f2,f3,f4,f5⟩:=hf it (by simp)
  have hl:=rv.length
  exact wpAny_pyNext_list_end (I.ok.hd hc) st p.isList (by simp;omega) λh' eb=>⟨rfl,I.turned (t':=s.toks) (λb o hb e=>eb b o hb e) f0 f1 f3 f4 f5⟩
 self:=λ_ _ _ _ _ st h=>wpAny_pyIter_listiter st h
theorem b77{P:Program}{w:World}{K:PySem.W.Frag}{tg:Expr}(it:Addr)(lo:Int)(n:Nat):Turn P w K tg (zJ lo n) [it] it (λi h=>IsRangeIter h it (lo+(i:Nat)*1) ((n:Int)-(i:Nat)) 1) where
 mem:=by simp
 obj:=λi h st b hb=>by
  have e:b=it:=by simpa using hb
  subst e
  exact⟨_,st,λv z=>by
   have z':Data.fields _=Data.cell v:=z
   cases z'⟩
 keep:=λi h h' st k=>k it (by simp) _ st
 item:=by
  intro X hP hw hK hc i pins s σ H E I hf st hg
  subst hP hw hK
  obtain⟨f0,f1,f2,f3,f4,f5⟩:=hf it (by simp)
  have W:=Walks.range (prog:=X.prog) (w:=X.w) (I.ok.hd hc) it lo 1 n
  refine W.item i s _ _ hg st λv h' tk hv oV kk=>?_
  obtain⟨t,rfl⟩:=hv
  have I1:Inv X pins σ H { s with heap:=h',toks:=tk }:=I.turned (λb o hb e=>kk b o (by simpa using hb) e) f0 f1 f3 f4 f5
  refine⟨_,rfl,VX (s:={ s with heap:=h',toks:=tk }) (n:="range_iterator") oV rfl rfl (by decide) ⟨.int (lo+i),H,I1,⟨t,?_⟩,⟨rfl,rfl⟩,oV,λb hb=>(hf b hb).1⟩⟩
  rw[Int.mul_one]
 done:=by
  intro X hP hw hK hc i pins s σ H E I hf st hg
  subst hP hw hK
  obtain⟨f0,f1,f2,f3,f4,f5⟩:=hf it (by simp)
  exact wpAny_pyNext_range_end (I.ok.hd hc) st (by have:n<=i:=hg;omega) λh' eb=>⟨rfl,I.turned (t':=s.toks) (λb o hb e=>eb b o hb e) f0 f1 f3 f4 f5⟩
 self:=λ_ _ _ _ _ st h=>wpAny_pyIter_rangeiter st h
end L2
namespace L2
open PySem PySem.Spec PyProof.Rows
section
variable{X:Cx}{tg:Expr}
def cV0(K:PySem.W.Frag)(tl:TE):TI:=λσ H R=>tl σ H λx H1=>∃a,x=.ref a/\(∃xs,bN K H1 a xs)/\R (Jm K a) H1
theorem VY{l:Expr}{tl:TE}(hl:PE X l tl):PI X tg l (cV0 X.K tl):=by
 intro pins s σ H R I h
 refine aS (hl pins s σ H _ I h) λv s1 ⟨x,H1,I1,r1,q1⟩=>?_
 obtain⟨a,e,⟨xs,hq⟩,q⟩:=q1
 subst e
 cases r1
 obtain⟨its,rv,p,hz⟩:=I1.list hq
 refine wpAny_pyIter_list p.isList ?_
 refine⟨s1.heap.objs.size,[s1.heap.objs.size],_,_,H1,rfl,I1.kept (t':=s1.toks) λb o e=>fI _ e,ca1 a _,⟨_,gJ _ rfl,rfl,rfl⟩,λb hb=>?_,q⟩
 have e:b=s1.heap.objs.size:=by simpa using hb
 subst e
 exact I1.DL (bK _) (I1.aL.fresh (bK _))
theorem VZ{pins:List (Addr × Obj)}{σ:St}{H:Hp}{s:Shared}{R:It->Hp->Prop}{E:Value->Shared->Prop}{lo hi:Int}{t u v:Tok}{tk:Nat}(I:Inv X pins σ H s)(h1:-(2 ^ 62)<=lo)(h2:lo<2 ^ 62)(h3:-(2 ^ 62)<=hi)(h4:hi<2 ^ 62)
  (q:R (zJ lo (hi-lo).toNat) H):wpAny (model X.prog X.w) X.A (pyIter (.ref s.heap.objs.size)) (VW X pins σ tg R) E { s with heap:=s.heap.push { cls:=.type "range",data:=.fields #[.int lo t,.int hi u,.int 1 v] },toks:=tk }:=by
 refine wpAny_pyIter_range (IsRange.new ..) (small_one h1 h2 h3 h4) ?_
 have I1:Inv X pins σ H { s with heap:=s.heap.push { cls:=.type "range",data:=.fields #[.int lo t,.int hi u,.int 1 v] },toks:=tk }:=I.kept λb o e=>fI _ e
 refine⟨(s.heap.push { cls:=.type "range",data:=.fields #[.int lo t,.int hi u,.int 1 v] }).objs.size,[(s.heap.push { cls:=.type "range",data:=.fields #[.int lo t,.int hi u,.int 1 v] }).objs.size],_,_,H,rfl,
  I1.kept (t':=tk) λb o e=>fI _ e,b77 _ lo (hi-lo).toNat,?_,λb hb=>?_,q⟩
 ·have e1:lo+((0:Nat):Int)*1=lo:=by simp
  have e2:(((hi-lo).toNat:Nat):Int)-((0:Nat):Int)=Builtin.Range.rangeSize lo hi 1:=by rw[rangeSize_one];split<;>omega
  show IsRangeIter _ _ (lo+((0:Nat):Int)*1) ((((hi-lo).toNat:Nat):Int)-((0:Nat):Int)) 1
  rw[e1,e2]
  exact gJ _ rfl
 ·have e:b=(s.heap.push { cls:=.type "range",data:=.fields #[.int lo t,.int hi u,.int 1 v] }).objs.size:=by simpa using hb
  subst e
  exact I1.DL (bK _) (I1.aL.fresh (bK _))
def cT9(ta:TA):TI:=λσ H R=>ta σ H λvs H1=>∃j:Int,vs=[.int j]/\-(2 ^ 62)<=j/\j<2 ^ 62/\R (zJ 0 j.toNat) H1
def cY1(ta:TA):TI:=λσ H R=>ta σ H λvs H1=>∃i j:Int,vs=[.int i,.int j]/\(-(2 ^ 62)<=i/\i<2 ^ 62/\-(2 ^ 62)<=j/\j<2 ^ 62)/\R (zJ i (j-i).toNat) H1
theorem cf9{a:Expr}{ta:TA}{p pos:Pos}(hg:Gl X "range")(hm:X.mg "range"=none)(ha:PA X [a] ta)(hs:starEach [a] X.env=[(false,eval a X.env)]:=by rfl):PI X tg (.Call (.Name "range" p) [a] [] pos) (cT9 ta):=by
 intro pins s σ H R I h
 refine Call_ (qN I hg hm boot_range (C2 (aS (ha pos pins s σ H _ I h) λus s1 ⟨vs,H1,I1,r1,q1⟩=>?_) hs rfl))
 obtain⟨j,e,q1,q2,q⟩:=q1
 subst e
 cases r1 with
 | cons r rr =>
  cases rr
  obtain⟨t,rfl⟩:=r
  exact call_range_1 (VZ I1 (by omega) (by omega) q1 q2 (by simpa using q))
theorem b81{a b:Expr}{ta:TA}{p pos:Pos}(hg:Gl X "range")(hm:X.mg "range"=none)(ha:PA X [a,b] ta)(hs:starEach [a,b] X.env=[(false,eval a X.env),(false,eval b X.env)]:=by rfl)(fw:starEach [b] X.env=[(false,eval b X.env)]:=by rfl) :
  PI X tg (.Call (.Name "range" p) [a,b] [] pos) (cY1 ta):=by
 intro pins s σ H R I h
 refine Call_ (qN I hg hm boot_range (C2 (aS (ha pos pins s σ H _ I h) λus s1 ⟨vs,H1,I1,r1,q1⟩=>?_) (by rw[hs,fw]) (by rw[fw];rfl)))
 obtain⟨i,j,e,⟨q1,q2,q3,q4⟩,q⟩:=q1
 subst e
 cases r1 with
 | cons r rr =>
  cases rr with
  | cons r' rr =>
   cases rr
   obtain⟨t,rfl⟩:=r
   obtain⟨t',rfl⟩:=r'
   exact call_range_2 (VZ I1 q1 q2 q3 q4 q)
def c02(wi:TI)(g:TG)(tb:TS):TS:=λD σ H=>wi σ H λJ H1=>∃W:Nat->Nat->St->Hp->Prop,(∃m,W 0 m σ H1)/\∀i m σ H,W i m σ H ->
 (J.stop i H/\D.nx σ H)\/(J.go i H/\∃N:St->Hp->Prop,(∀aK H',N aK H'->∃m',m'<m/\W (i+1) m' aK H')/\∀x H',J.j8 i H x H'->g x σ H' λmf H2=>tb { D with nx:=N,ct:=N,bk:=D.nx } mf H2)
def zK(fp:List Addr)(h:Heap):List (Addr × Obj):=fp.filterMap λb=>(h.get? b).map λo=>(b,o)
theorem DM{fp:List Addr}{h:Heap}{b:Addr}{o:Obj}(hb:b∈fp)(e:h.get? b=some o):(b,o)∈zK fp h:=dC6.mpr ⟨b,hb,by rw[e];rfl⟩
theorem ce8{fp:List Addr}{h:Heap}{p:Addr × Obj}(hp:p∈zK fp h):p.1∈fp/\h.get? p.1=some p.2:=by
 obtain⟨b,hb,e⟩:=dC6.mp hp
 cases q:h.get? b with
 | none=>rw[q]at e;cases e
 | some o =>
  rw[q]at e
  have e':(b,o)=p:=cV e
  subst e'
  exact⟨hb,q⟩
theorem Inv.pinned{pins:List (Addr × Obj)}{σ:St}{H:Hp}{s:Shared}{fp:List Addr}(I:Inv X pins σ H s)(hf:∀b∈fp,je X pins H b)(ho:∀b∈fp,∃o,s.heap.get? b=some o/\∀v,o.data≠.cell v):Inv X (pins++zK fp s.heap) σ H s :=
 I.VJ λp hp=>(bZ.mp hp).elim (λz=>I.pin p (df _ z)) λz=>by
  obtain⟨hb,e⟩:=ce8 z
  obtain⟨f0,f1,f2,_⟩:=hf p.1 hb
  obtain⟨o,e',d⟩:=ho p.1 hb
  rw[e]at e';cases e'
  exact⟨e,f0,f1,f2,d⟩
theorem Inv.zL{pins pl:List (Addr × Obj)}{σ:St}{H:Hp}{s:Shared}(I:Inv X (pins++pl) σ H s):Inv X pins σ H s:=I.VJ λp hp=>I.pin p (df _ (eZ _ hp))
theorem cS9{iter:Expr}{body:List Stmt}{wi:TI}{g:TG}{tb:TS}{pos:Pos}(hp:PassesOwn (model X.prog X.w) X.A X.env X.xe)(hc:X.calm=true)(hi:PI X tg iter wi)(hg:PG X tg g)(hb:PSs X body tb)
  (hs:∀x,foldedSetIterable iter X.env x=pure x:=by intro _;rfl):PS X (.For tg iter body [] pos) (c02 wi g tb):=by
 intro pins s σ H D I h
 refine wpAny_For (aS (hi pins s σ H _ I h) λv s1 h1=>aS h1 λJl s2 h2=>?_) hs
 obtain⟨it,fp,tn,J,H2,e,I2,T,zM,f2,W,⟨m0,w0⟩,turn⟩:=h2
 subst e
 have Jn:∀{H':Hp},(∀b∈fp,H' b=none)->∀b∈fp,je X pins H' b:=λhn b hb=>⟨hn b hb,(f2 b hb).2⟩
 refine codeAny_forLoop_any (λn s'=>∃i aK H',Inv X pins aK H' s'/\tn i s'.heap/\(∀b∈fp,H' b=none)/\W i n aK H') ?_ m0 ⟨0,σ,H2,I2,zM,λb hb=>(f2 b hb).1,w0⟩
 rintro n s3 ⟨i,kH,H3,I3,V0,Jo,w3⟩
 rcases turn i n kH H3 w3 with⟨stop,qn⟩ | ⟨go,N,hN,step⟩
 ·refine wpAny_passesOwn hp (aS (T.done X rfl rfl rfl hc i pins s3 kH H3 X.xe I3 (Jn Jo) V0 stop) λr s4 ⟨hr,I4⟩=>?_)
  subst hr
  exact wpAny_execs_nil ⟨kH,H3,I4,qn⟩
 ·refine wpAny_passesOwn hp (aS (T.item X rfl rfl rfl hc i pins s3 kH H3 X.xe I3 (Jn Jo) V0 go) λr s4 ⟨u,hr,h4⟩=>?_)
  subst hr
  refine wpAny_passesOwn hp (aS h4 λ_ s5 ⟨x,H5,I5,r5,y5,qT,zN⟩=>?_)
  have Jp:=I5.pinned (Jn zN) (T.obj _ _ qT)
  refine wpAny_passesOwn hp (aS (hg _ s5 kH H5 x u _ Jp r5 (step x H5 y5)) λ_ s6 ⟨Jq,H6,I6,q6⟩=>?_)
  refine wpAny_passesOwn hp (aS (hb _ s6 Jq H6 _ I6 q6) λf s7 q7=>?_)
  have again:∀{kI:St} {H7:Hp},Inv X (pins++zK fp s5.heap) kI H7 s7->N kI H7->∃m,m<n/\∃i aK H',Inv X pins aK H' s7/\tn i s7.heap/\(∀b∈fp,H' b=none)/\W i m aK H':=λ{kI H7} I7 n7=>by
   obtain⟨m',hm,w7⟩:=hN kI H7 n7
   refine⟨m',hm,i+1,kI,H7,I7.zL,T.keep _ _ _ qT λb hb o e=>(I7.pin (b,o) (df _ (df _ (DM hb e)))).1,λb hb=>?_,w7⟩
   obtain⟨o,e,d⟩:=T.obj _ _ qT b hb
   exact(I7.pin (b,o) (df _ (df _ (DM hb e)))).2.1
  cases f with
  | next=>obtain⟨kI,H7,I7,n7⟩:=q7;exact again I7 n7
  | cont=>obtain⟨kI,H7,I7,n7⟩:=q7;exact again I7 n7
  | brk=>obtain⟨kI,H7,I7,q7⟩:=q7;exact⟨kI,H7,I7.zL,q7⟩
  | ret v=>obtain⟨x7,kI,H7,I7,r7,q7⟩:=q7;exact⟨x7,kI,H7,I7.zL,r7,q7⟩
end
end L2
namespace L2
open PySem PySem.Spec PyProof.Rows
abbrev R2:=V->V->Hp->VK->Prop
def cQ(X:Cx)(f:Value->Value->Sem Value)(r:R2):Prop :=
 ∀(pins:List (Addr × Obj)) (s:Shared) (σ:St) (H:Hp) (x y:V) (v u:Value) (Q:VK),Inv X pins σ H s->RelV x v->RelV y u->r x y H Q ->
  wpAny (model X.prog X.w) X.A (f v u) (EP X pins σ Q) X.xe s
def Jr(X:Cx)(f:Value->Sem Value)(r:V->Hp->VK->Prop):Prop :=
 ∀(pins:List (Addr × Obj)) (s:Shared) (σ:St) (H:Hp) (x:V) (v:Value) (Q:VK),Inv X pins σ H s->RelV x v->r x H Q ->
  wpAny (model X.prog X.w) X.A (f v) (EP X pins σ Q) X.xe s
def gv(X:Cx)(f:Value)(r:List V->Hp->VK->Prop):Prop :=
 ∀(pins:List (Addr × Obj)) (s:Shared) (σ:St) (H:Hp) (xs:List V) (us:List Value) (Q:VK),Inv X pins σ H s->Vals xs us->r xs H Q ->
  wpAny (model X.prog X.w) X.A (call f us) (EP X pins σ Q) X.xe s
def zO(r:R2)(ta tb:TE):TE:=λσ H Q=>ta σ H λx H1=>tb σ H1 λy H2=>r x y H2 Q
def tUn(r:V->Hp->VK->Prop)(ta:TE):TE:=λσ H Q=>ta σ H λx H1=>r x H1 Q
def rI(C:Int->Int->Prop)(g:Int->Int->V):R2:=λx y H Q=>∃i j,x=.int i/\y=.int j/\C i j/\Q (g i j) H
def jE(g:Int->Int->V):R2:=λx y H Q=>∃i j,x=.int i/\y=.int j/\Q (g i j) H
def rU(g:Int->V):V->Hp->VK->Prop:=λx H Q=>∃i,x=.int i/\Q (g i) H
section
variable{X:Cx}{a b c:Expr}{ta tb tc:TE}{pos:Pos}
theorem Js(ha:PE X a ta)(hb:PE X b tb){pins:List (Addr × Obj)}{s:Shared}{σ:St}{H:Hp}{R:V->V->Hp->Prop}(I:Inv X pins σ H s)
  (h:ta σ H λx H1=>tb σ H1 λy H2=>R x y H2) {Q:Value->Shared->Prop} {f:Value->Value->Sem Value}
  (hf:∀v u s2 x y H2,Inv X pins σ H2 s2->RelV x v->RelV y u->R x y H2->wpAny (model X.prog X.w) X.A (f v u) Q X.xe s2) :
  wpAny (model X.prog X.w) X.A (eval a X.env) (λv bG=>wpAny (model X.prog X.w) X.A (eval b X.env) (λu kG=>wpAny (model X.prog X.w) X.A (f v u) Q X.xe kG) X.xe bG) X.xe s:=by
 refine aS (ha pins s σ H _ I h) λv s1 ⟨x,H1,I1,r1,q1⟩=>?_
 refine aS (hb pins s1 σ H1 _ I1 q1) λu s2 ⟨y,H2,I2,r2,q2⟩=>?_
 exact hf v u s2 x y H2 I2 r1 r2 q2
theorem zP{op:Operator}{r:R2}(ho:cQ X (binaryOp op) r)(ha:PE X a ta)(hb:PE X b tb):PE X (.BinOp a op b pos) (zO r ta tb):=by
 intro pins s σ H Q I h
 exact wpAny_BinOp (Js ha hb I h λv u s2 x y H2 I2 rx ry q=>ho pins s2 σ H2 x y v u Q I2 rx ry q)
theorem cY2{op:UnaryOp}{r:V->Hp->VK->Prop}(ho:Jr X (unaryOp op) r)(ha:PE X a ta):PE X (.UnaryOp op a pos) (tUn r ta):=by
 intro pins s σ H Q I h
 exact UnaryOp_ (aS (ha pins s σ H _ I h) λv s1 ⟨x,H1,I1,r1,q1⟩=>ho pins s1 σ H1 x v Q I1 r1 q1)
theorem zQ{f:Value->Value->Sem Value}{C:Int->Int->Prop}{g:Int->Int->Int}
  (rule:∀(i j:Int) (t u:Tok) (s:Shared) (Q:Value->Shared->Prop) (E:Value->Shared->Prop),C i j->Q (.int (g i j) s.toks) { s with toks:=s.toks+1 }->wpAny (model X.prog X.w) X.A (f (.int i t) (.int j u)) Q E s) :
  cQ X f (rI C λi j=>.int (g i j)):=by
 intro pins s σ H x y v u Q I rx ry h
 obtain⟨i,j,rfl,rfl,hc,q⟩:=h
 obtain⟨t,rfl⟩:=rx
 obtain⟨t',rfl⟩:=ry
 exact rule i j t t' s _ _ hc ⟨.int (g i j),H,I.tok _,⟨_,rfl⟩,q⟩
theorem uw{f:Value->Value->Sem Value}{g:Int->Int->Int}
  (rule:∀(i j:Int) (t u:Tok) (s:Shared) (Q:Value->Shared->Prop) (E:Value->Shared->Prop),Q (.int (g i j) s.toks) { s with toks:=s.toks+1 }->wpAny (model X.prog X.w) X.A (f (.int i t) (.int j u)) Q E s) :
  cQ X f (jE λi j=>.int (g i j)):=by
 intro pins s σ H x y v u Q I rx ry h
 obtain⟨i,j,rfl,rfl,q⟩:=h
 obtain⟨t,rfl⟩:=rx
 obtain⟨t',rfl⟩:=ry
 exact rule i j t t' s _ _ ⟨.int (g i j),H,I.tok _,⟨_,rfl⟩,q⟩
theorem DN{f:Value->Value->Sem Value}{g:Int->Int->Bool}
  (rule:∀(i j:Int) (t u:Tok) (s:Shared) (Q:Value->Shared->Prop) (E:Value->Shared->Prop),Q (.bool (g i j)) s->wpAny (model X.prog X.w) X.A (f (.int i t) (.int j u)) Q E s) :
  cQ X f (jE λi j=>.bl (g i j)):=by
 intro pins s σ H x y v u Q I rx ry h
 obtain⟨i,j,rfl,rfl,q⟩:=h
 obtain⟨t,rfl⟩:=rx
 obtain⟨t',rfl⟩:=ry
 exact rule i j t t' s _ _ ⟨.bl (g i j),H,I,rfl,q⟩
def ig(i j:Int):Prop:=(-(2 ^ 64)<i/\i<2 ^ 64)\/(-(2 ^ 64)<j/\j<2 ^ 64)
theorem ig.ok{i j:Int}(h:ig i j):IntMulOk i j:=by
 rcases h with⟨h1,h2⟩ | ⟨h1,h2⟩
 ·exact .of_left (intBits_le_64 h1 h2)
 ·exact .of_right (intBits_le_64 h1 h2)
theorem bZ2(k:Nat):(0:Int)<=2 ^ k:=by
 rw[two_pow_cast]
 exact U8 _
theorem cS0:cQ X (binaryOp .Add) (jE λi j=>.int (i+j)):=uw λ_ _ _ _ _ _ _ q=>add_int q
theorem Jt:cQ X (binaryOp .Sub) (jE λi j=>.int (i-j)):=uw λ_ _ _ _ _ _ _ q=>sub_int q
theorem cK4:cQ X (binaryOp .Mod) (rI (λ_ j=>0<j) λi j=>.int (i%j)):=zQ λi j _ _ _ _ _ hc q=>by
 have h1:(0:Int)<j:=hc
 exact mod_int' (by omega) (by rw[Int.fmod_eq_emod_of_nonneg i (by omega)];exact q)
theorem cM9:cQ X (binaryOp .RShift) (rI (λ_ j=>0<=j) λi j=>.int (i/2 ^ j.toNat)):=zQ λi j _ _ _ _ _ hc q =>
 rshift_int hc (by rw[dC7 i (bZ2 _)];exact q)
theorem cR1:cQ X (binaryOp .BitAnd) (jE λi j=>.int (oH i j)):=uw λ_ _ _ _ _ _ _ q=>and_int q
theorem cQ2:cQ X (binaryOp .BitXor) (jE λi j=>.int (oI i j)):=uw λ_ _ _ _ _ _ _ q=>xor_int q
theorem cz1:cQ X (inplaceOp .Add) (jE λi j=>.int (i+j)):=uw λ_ _ _ _ _ _ _ q=>iadd_int q
theorem cy0:cQ X (inplaceOp .BitXor) (jE λi j=>.int (oI i j)):=uw λ_ _ _ _ _ _ _ q=>ixor_int q
theorem unI{f:Value->Sem Value}{g:Int->Int}
  (rule:∀(i:Int) (t:Tok) (s:Shared) (Q:Value->Shared->Prop) (E:Value->Shared->Prop),Q (.int (g i) s.toks) { s with toks:=s.toks+1 }->wpAny (model X.prog X.w) X.A (f (.int i t)) Q E s) :
  Jr X f (rU λi=>.int (g i)):=by
 intro pins s σ H x v Q I rx h
 obtain⟨i,rfl,q⟩:=h
 obtain⟨t,rfl⟩:=rx
 exact rule i t s _ _ ⟨.int (g i),H,I.tok _,⟨_,rfl⟩,q⟩
theorem cQ1:Jr X (unaryOp .USub) (rU λi=>.int (-i)):=unI λ_ _ _ _ _ q=>neg_int q
end
section
variable{X:Cx}{a b c:Expr}{ta tb tc:TE}{pos:Pos}
theorem cN8{pins:List (Addr × Obj)}{σ:St}{H:Hp}{s:Shared}{Q:VK}{k k':Bool}(I:Inv X pins σ H s)(q:Q (.bl k) H)(e:k=k'):EP X pins σ Q (.bool k') s:=by
 subst e
 exact⟨.bl k,H,I,rfl,q⟩
theorem V1:cQ X (compareOp .Lt) (jE λi j=>.bl (decide (i<j))):=DN λ_ _ _ _ _ _ _ q=>lt_int q
theorem cV4:cQ X (compareOp .LtE) (jE λi j=>.bl (decide (i<=j))):=DN λ_ _ _ _ _ _ _ q=>le_int q
theorem V2:cQ X (compareOp .Gt) (jE λi j=>.bl (decide (j<i))):=DN λ_ _ _ _ _ _ _ q=>gt_int q
theorem cW1:cQ X (compareOp .GtE) (jE λi j=>.bl (decide (j<=i))):=DN λ_ _ _ _ _ _ _ q=>ge_int q
theorem cD4:cQ X (compareOp .IsNot) (λx y H Q=>y=.aw/\Q (.bl (!decide (x=.aw))) H):=by
 intro pins s σ H x y v u Q I rx ry h
 obtain⟨rfl,q⟩:=h
 cases ry
 refine isnot_none_gen (cN8 I q ?_)
 cases x<;>first
  | (cases rx;rfl)
  | (obtain⟨t,rfl⟩:=rx;rfl)
theorem cQ.or{f:Value->Value->Sem Value}{r r':R2}(h:cQ X f r)(h':cQ X f r'):cQ X f (λx y H Q=>r x y H Q\/r' x y H Q):=by
 intro pins s σ H x y v u Q I rx ry q
 rcases q with q | q
 ·exact h pins s σ H x y v u Q I rx ry q
 ·exact h' pins s σ H x y v u Q I rx ry q
theorem bP(b:Expr){op:CmpOp}(h:op≠.In:=by decide)(h2:op≠.NotIn:=by decide):behindInMarks op b=false:=by
 have e1:(op==CmpOp.In)=false:=by cases op<;>first | rfl | exact absurd rfl h
 have e2:(op==CmpOp.NotIn)=false:=by cases op<;>first | rfl | exact absurd rfl h2
 cases b<;>simp[behindInMarks,e1,e2]
theorem cA8{op:CmpOp}{r:R2}(ho:cQ X (compareOp op) r)(ha:PE X a ta)(hb:PE X b tb)(hm:behindInMarks op b=false):PE X (.Compare a [op] [b] pos) (zO r ta tb):=by
 intro pins s σ H Q I h
 exact wpAny_Compare1 (Js ha hb I h λv u s2 x y H2 I2 rx ry q=>ho pins s2 σ H2 x y v u Q I2 rx ry q) hm
def V3(t:TE):TT:=λσ H Q=>t σ H λx H'=>∃k,x=.bl k/\Q k H'
theorem Ju{op:CmpOp}{r:R2}(ho:cQ X (compareOp op) r)(ha:PE X a ta)(hb:PE X b tb)(hm:behindInMarks op b=false):PT X (.Compare a [op] [b] pos) (V3 (zO r ta tb)):=by
 intro pins s σ H Q I h
 refine wpAny_isTrue_Compare1 (aS (ha pins s σ H _ I h) λv s1 ⟨x,H1,I1,r1,q1⟩=>aS (hb pins s1 σ H1 _ I1 q1) λu s2 ⟨y,H2,I2,r2,q2⟩ =>
  aS (ho pins s2 σ H2 x y v u _ I2 r1 r2 q2) λc s3 ⟨z,H3,I3,r3,k,e,q3⟩=>?_) hm
 subst e
 cases r3
 exact wpAny_truthy_bool ⟨H3,I3,q3⟩
def V4(r r':R2)(ta tb tc:TE):TE:=λσ H Q=>ta σ H λx H1=>tb σ H1 λy H2=>r x y H2 λz H3=>∃k,z=.bl k /\
 (if k=true then tc σ H3 λw' H4=>r' y w' H4 Q else Q (.bl false) H3)
theorem cq4{op qU:CmpOp}{r r':R2}(ho:cQ X (compareOp op) r)(kF:cQ X (compareOp qU) r')(ha:PE X a ta)(hb:PE X b tb)(hc:PE X c tc)
  (hm:lastMarks [op,qU] [b,c]=false:=by with_unfolding_all rfl):PE X (.Compare a [op,qU] [b,c] pos) (V4 r r' ta tb tc):=by
 intro pins s σ H Q I h
 refine Compare_chain (aS (ha pins s σ H _ I h) λv s1 ⟨x,H1,I1,r1,q1⟩=>chain_link (aS (hb pins s1 σ H1 _ I1 q1) λu s2 ⟨y,H2,I2,r2,q2⟩ =>
  aS (ho pins s2 σ H2 x y v u _ I2 r1 r2 q2) λd s3 ⟨z,H3,I3,r3,k,e,q3⟩=>?_)) hm
 subst e
 cases r3
 refine wpAny_truthy_bool ?_
 cases k with
 | false=>exact ite_ff ⟨.bl false,H3,I3,rfl,q3⟩
 | true=>exact ite_tt (chain_last (aS (hc pins s3 σ H3 _ I3 q3) λw' s4 ⟨z',H4,I4,r4,q4⟩=>kF pins s4 σ H4 y z' u w' Q I4 r2 r4 q4))
theorem uz:(sizeLine:Nat)<2 ^ 63:=by rw[sizeLine_eq];decide
theorem b09:cQ X (binaryOp .Add) (λx y H Q=>∃i j,x=.str i/\y=.str j/\i.length+j.length<=sizeLine/\Q (.str (i++j)) H):=by
 intro pins s σ H x y v u Q I rx ry h
 obtain⟨i,j,rfl,rfl,hz,q⟩:=h
 obtain⟨t,rfl⟩:=rx
 obtain⟨t',rfl⟩:=ry
 exact add_str (λt' tk=>⟨.str (i++j),H,I.tok _,⟨_,rfl⟩,q⟩) hz
theorem Jv{x:V}{us:List Value}(r:Vals [x] us):∃u,us=[u]/\RelV x u:=by
 cases r with
 | cons r1 r2=>cases r2;exact⟨_,rfl,r1⟩
theorem cT6{x y:V}{us:List Value}(r:Vals [x,y] us):∃u w',us=[u,w']/\RelV x u/\RelV y w':=by
 cases r with
 | cons r1 r2 =>
  cases r2 with
  | cons r3 r4=>cases r4;exact⟨_,_,rfl,r1,r3⟩
theorem cj2(hc:X.calm=true):gv X (.builtin "min") (λxs H Q=>∃i j,xs=[.int i,.int j]/\Q (.int (if j<i then j else i)) H):=by
 intro pins s σ H xs us Q I r h
 obtain⟨i,j,rfl,q⟩:=h
 obtain⟨u,w',rfl,⟨t,rfl⟩,⟨t',rfl⟩⟩:=cT6 r
 refine min_two_ints (I.ok.hd hc) λh' tk k=>⟨_,H,I.kept k,?_,q⟩
 by_cases hj:j<i
 ·rw[if_pos hj,if_pos hj];exact⟨_,rfl⟩
 ·rw[if_neg hj,if_neg hj];exact⟨_,rfl⟩
end
end L2
namespace L2
open PySem PySem.Spec PyProof.Rows
structure qV(h:Heap)(x dx C:Addr)(mA:Str->Option Value):Prop where
 obj:h.get? x=some (PySem.W.instObj C dx)
 ns:h.Ns1 dx mA
 ne:dx≠x
theorem b88{h:Heap}{dx:Addr}{mA:Str->Option Value}(n:h.Ns1 dx mA):∃od,h.get? dx=some od/\∀name,PySem.W.lookIn name od=some (mA name):=by
 obtain⟨o,es,ep,ho,hd,hk,_,hm⟩:=n
 refine⟨o,ho,λname=>?_⟩
 have e:=hm name
 unfold nsFind findBy at e
 rw[<-Array.find?_toList]at e
 unfold PySem.W.lookIn
 rw[hd]
 dsimp only
 split
 ·rename_i y q
  rw[q]at e
  exact congrArg some e
 ·rename_i q
  rw[q]at e
  have a:es.toList.any (·.refKey)=false:=by
   rw[List.any_eq_false]
   intro y hy
   obtain⟨z,t,dN7⟩:=hk y (Array.mem_toList_iff.mp hy)
   simp[DictEntry.refKey,dN7]
  have a':¬ es.toList.any (·.refKey)=true:=by rw[a];exact i5
  rw[if_neg a']
  exact congrArg some e
theorem qV.look{h:Heap}{x dx C:Addr}{mA:Str->Option Value}(I:qV h x dx C mA):∃od,PySem.W.InstAt h x (PySem.W.instObj C dx) C (some od)/\∀name,PySem.W.lookIn name od=some (mA name) :=
 let⟨od,ho,hl⟩:=b88 I.ns
 ⟨od,⟨I.obj,rfl,rfl,ho⟩,hl⟩
section
variable{prog:Program}{w:World}{A:Around}{E:Value->Shared->Prop}{s:Shared}{K:PySem.W.Frag}{x dx C f:Addr}{mA:Str->Option Value}{name:Str}{v:Value}
theorem cD2{expr:Bool}{Q:Value->Shared->Prop}(X:K.In s.heap)(I:qV s.heap x dx C mA)(hg:PySem.W.plainGet K C name=true)(hh:PySem.W.hasDictIn K C=true)
  (ha:PySem.W.findIn K (.ref C) name=some none) (hv:mA name=some v) (hv':PySem.W.handedIn v=true) (h:Q v { s with toks:=s.toks+1 }) :
  wpAny (model prog w) A (getAttr (.ref x) name expr) Q E s:=by
 obtain⟨od,J,hl⟩:=I.look
 exact PySem.W.get_value X J (PySem.W.plainGet_of hg).1 (PySem.W.findObj_own hh ha rfl (by rw[hl,hv])) hv' h
theorem cr4{pl:Sem Bool}{Q:Value × List Value->Shared->Prop}(X:K.In s.heap)(I:qV s.heap x dx C mA)(hg:PySem.W.plainGet K C name=true)
  (hf:PySem.W.findIn K (.ref C) name=some (some (.ref f))) (ht:PySem.W.isFn K (.ref f)=true) (hv:mA name=none) (h:Q (.ref f,[.ref x]) s) :
  wpAny (model prog w) A (getMethod (.ref x) name pl) Q E s:=by
 obtain⟨od,J,hl⟩:=I.look
 exact PySem.W.method_fn X J (PySem.W.plainGet_of hg).1 (PySem.W.plainGet_of hg).2 hf (beq_iff_eq.mp ht) (by show(PySem.W.lookIn name od).map (·.isSome)=some false;rw[hl,hv];rfl) h
theorem cz3{ns:List Str}{Q:Unit->Shared->Prop}(X:K.In s.heap)(I:qV s.heap x dx C mA)
  (hs:PySem.W.findIn K (.ref C) "__setattr__"=some (some (.builtin "object.__setattr__"))) (hp:PySem.W.plainOver K C=true) (ht:PySem.W.takerIn K C name=some none) (hh:PySem.W.hasDictIn K C=true)
  (hw:PySem.Within mA ns) (mh:ns.length<=sizeLine)
  (h:∀h',qV h' x dx C (λy=>if y=name then some v else mA y)->Heap.SameBut dx s.heap h'->Q () { s with heap:=h',toks:=s.toks+2 }) :
  wpAny (model prog w) A (setAttr (.ref x) name v) Q E s:=by
 obtain⟨od,J,hl⟩:=I.look
 refine PySem.W.set_plain X J hs (PySem.W.osa_open (s:={ s with toks:=s.toks+1 }) (r:=none) X J hp ht λb=>?_)
 obtain⟨cd,hc,zE⟩:=PySem.W.any_some hh
 have hx:s.heap.get? x=some ⟨.ref C,some dx,.plain,#[]⟩:=I.obj
 refine wpAny_bind (wpAny_pure (wpAny_bind (wpAny_bind (wpAny_loadPart hx (wpAny_bind (PySem.W.Looks.here (s:={ s with toks:=s.toks+1 }) (PySem.W.looks_clsIn X hc) ?_))))))
 rw[zE]
 refine wpAny_pure (a:=some dx) (wpAny_bind (wpAny_pure (wpAny_bind ?_)))
 refine wpAny_nsSet1 (s:={ s with toks:=s.toks+1 }) I.ns λh' uA fw=>?_
 obtain⟨oD,esD,epD,hoD,hdD,nv⟩:=uA.count (PySem.Within.cons name v hw)
 refine wpAny_bind (wpAny_lookBehind hoD (by rw[hdD];exact pastItsLine_dict (fu nv (by rw[jz];omega))) ?_)
 exact wpAny_pure (h _ ⟨(fw.2 _ (fH I.ne)).trans I.obj,uA,I.ne⟩ fw)
theorem co6{R:Result->Shared->Prop}{vs:List Value}{kw:List (Str × Value)}(X:K.In s.heap)(hm:PySem.W.makesIn K C=true)
  (hi:PySem.W.findIn K (.ref C) "__init__"=some (some (.ref f))) (hf:PySem.W.typeIn K (.ref f)=some (.type "function"))
  (h:codeAny (model prog w) (A.under (.builtin "type.__call__" ⟨.ref C::vs,kw⟩)) (.call (.ref f) ⟨.ref (s.heap.objs.size+1)::vs,kw⟩) (PySem.W.InitBack (s.heap.objs.size+1) R)
   { s with heap:=(s.heap.push PySem.W.emptyDict).push (PySem.W.instObj C s.heap.objs.size) }) :
  codeAny (model prog w) A (.call (.ref C) ⟨vs,kw⟩) R s:=by
 obtain⟨hh,g,d,t,os⟩:=s
 exact PySem.W.make_core (PySem.W.makes_of X hm) (PySem.W.looks_findIn X hi) (λself=>PySem.W.bind_fn X self hf) (.inl rfl) h
end
def bF(f:Str)(v:V):List (Str × V)->List (Str × V)
 | []=>[(f,v)]
 | (g,x)::r=>if g=f then(g,v)::r else(g,x)::bF f v r
theorem V5(f g:Str)(v:V):∀fs:List (Str × V),(bF f v fs).lookup g=if g=f then some v else fs.lookup g
 | []=>by
  show lJ g [(f,v)]=_
  by_cases h:g=f
  ·have hb:(g==f)=true:=beq_iff_eq.mpr h
   simp only[lJ,hb,if_pos h]
  ·have hb:(g==f)=false:=beq_eq_false_iff_ne.mpr h
   simp only[lJ,hb,if_neg h]
 | (k,x)::r=>by
  have ih:=V5 f g v r
  rw[show bF f v ((k,x)::r)=(if k=f then(k,v)::r else(k,x)::bF f v r) from rfl]
  by_cases hk:k=f
  ·rw[if_pos hk]
   by_cases h:g=k
   ·have hb:(g==k)=true:=beq_iff_eq.mpr h
    simp only[lJ,hb,if_pos (h.trans hk)]
   ·have hb:(g==k)=false:=beq_eq_false_iff_ne.mpr h
    simp only[lJ,hb,if_neg (λe:g=f=>h (e.trans hk.symm))]
  ·rw[if_neg hk]
   by_cases h:g=k
   ·have hb:(g==k)=true:=beq_iff_eq.mpr h
    simp only[lJ,hb,if_neg (λe:g=f=>hk (h.symm.trans e))]
   ·have hb:(g==k)=false:=beq_eq_false_iff_ne.mpr h
    simp only[lJ,hb]
    exact ih
theorem Jw(f:Str)(v:V):∀fs:List (Str × V),f∈(bF f v fs).map (·.1)/\∀g,g∈fs.map (·.1)->g∈(bF f v fs).map (·.1)
 | []=>⟨by simp[bF],λg h=>by simp at h⟩
 | (k,x)::r=>by
  obtain⟨i1,i2⟩:=Jw f v r
  rw[show bF f v ((k,x)::r)=(if k=f then(k,v)::r else(k,x)::bF f v r) from rfl]
  by_cases hk:k=f
  ·rw[if_pos hk]
   subst hk
   exact⟨by simp,λg h=>by simpa using h⟩
  ·rw[if_neg hk]
   refine⟨?_,λg h=>?_⟩
   ·rw[dv]
    exact gq _ i1
   ·rw[dv]at h ⊢
    rcases cz.mp h with e | e
    ·exact cz.mpr (.inl e)
    ·exact gq _ (i2 g e)
theorem V6(f:Str)(v:V):∀fs:List (Str × V),(bF f v fs).length<=fs.length+1
 | []=>by simp[bF]
 | (k,x)::r=>by
  have ih:=V6 f v r
  rw[show bF f v ((k,x)::r)=(if k=f then(k,v)::r else(k,x)::bF f v r) from rfl]
  by_cases hk:k=f
  ·rw[if_pos hk,jz,jz];omega
  ·rw[if_neg hk,jz,jz];omega
theorem lU.some_of{v:V}{o:Option Value}(r:lU (some v) o):∃u,o=some u/\RelV v u:=by
 cases o with
 | none=>exact(show False from r).elim
 | some u=>exact⟨u,rfl,r⟩
theorem lU.none_of{o:Option Value}(r:lU none o):o=none:=by
 cases o with
 | none=>rfl
 | some u=>exact(show False from r).elim
theorem ci7{v:V}{u:Value}(r:RelV v u):PySem.W.handedIn u=true:=by
 cases v with
 | aw=>cases(show u=qy from r);rfl
 | bl b=>cases(show u=Iu b from r);rfl
 | int i=>obtain⟨t,e⟩:=(show ∃t,u=oG i t from r);cases e;rfl
 | str x=>obtain⟨t,e⟩:=(show ∃t,u=Value.str x t from r);cases e;rfl
 | Dz b=>obtain⟨t,e⟩:=(show ∃t,u=Value.bytes b t from r);cases e;rfl
 | qJ b=>obtain⟨t,e⟩:=(show ∃t,u=Value.float b t from r);cases e;rfl
 | ref a=>cases(show u=cZ a from r);rfl
 | ty n=>cases(show u=Value.type n from r);rfl
section
variable{P:Program}{w:World}{H H':Hp}{h h':Heap}{a C dx:Addr}{fs fs':List (Str × V)}
theorem DO(aL:cO P w H h)(e:H a=some (.ins C dx fs)):∃mA,qV h a dx C mA/\(∀f,lU (fs.lookup f) (mA f))/\PySem.Within mA (fs.map (·.1))/\fs.length<=1000/\H dx=some (.own a):=by
 obtain⟨d,z,ne,ob,mA,n,r,q⟩:=(show eB P w H h a (.ins C dx fs) from aL a _ e)
 exact⟨mA,⟨ob,n,ne⟩,r,q,z,d⟩
end
structure cB(K:PySem.W.Frag)(C:Addr):Prop where
 pg:PySem.W.plainGet K C zc=true
 hd:PySem.W.hasDictIn K C=true
 po:PySem.W.plainOver K C=true
 sa:PySem.W.findIn K (.ref C) "__setattr__"=some (some (.builtin "object.__setattr__"))
theorem cB.get{K:PySem.W.Frag}{C:Addr}(c:cB K C)(f:Str):PySem.W.plainGet K C f=true:=c.pg
def aG(K:PySem.W.Frag)(C:Addr)(f:Str):Prop:=PySem.W.findIn K (.ref C) f=some none
theorem aG.dO6{K:PySem.W.Frag}{C:Addr}{f:Str}(n:aG K C f):PySem.W.takerIn K C f=some none:=by
 unfold PySem.W.takerIn
 rw[show PySem.W.findIn K (.ref C) f=some none from n]
 rfl
structure Meth(K:PySem.W.Frag)(C:Addr)(m:Str)(f:Addr):Prop where
 at_:PySem.W.findIn K (.ref C) m=some (some (.ref f))
 fn:PySem.W.isFn K (.ref f)=true
 kp:PySem.W.keepIn K (.ref f)=true
section
variable{X:Cx}{pins:List (Addr × Obj)}{σ:St}{H:Hp}{s:Shared}{a C dx:Addr}{fs:List (Str × V)}{f:Str}{v:V}{A:Around}{E:Value->Shared->Prop}
theorem bZ3{b:Bool}{Q:Value->Shared->Prop}(I:Inv X pins σ H s)(e:H a=some (.ins C dx fs))(c:cB X.K C)(n:aG X.K C f)(l:fs.lookup f=some v)
  (h:∀u s',Inv X pins σ H s'->RelV v u->Q u s'):wpAny (model X.prog X.w) A (getAttr (.ref a) f b) Q E s:=by
 obtain⟨mA,O,r,_,_,_⟩:=DO I.aL e
 obtain⟨u,hu,ru⟩:=lU.some_of (v:=v) (o:=mA f) (by rw[<-l];exact r f)
 exact cD2 I.di O (c.get f) c.hd n hu (ci7 ru) (h u _ (I.tok _) ru)
theorem DP{m:Str}{g:Addr}{pl:Sem Bool}{Q:Value × List Value->Shared->Prop}(I:Inv X pins σ H s)(e:H a=some (.ins C dx fs))(c:cB X.K C)(k:Meth X.K C m g)(l:fs.lookup m=none)
  (h:Q (.ref g,[.ref a]) s):wpAny (model X.prog X.w) A (getMethod (.ref a) m pl) Q E s:=by
 obtain⟨mA,O,r,_,_,_⟩:=DO I.aL e
 have hn:mA m=none:=lU.none_of (by rw[<-l];exact r m)
 exact cr4 I.di O (c.get m) k.at_ k.fn hn h
theorem bZ1{y:V}{u:Value}{Q:Unit->Shared->Prop}(I:Inv X pins σ H s)(e:H a=some (.ins C dx fs))(c:cB X.K C)(n:aG X.K C f)(hl:fs.length<1000)(ry:RelV y u)
  (h:∀s',Inv X pins σ (upd H a (.ins C dx (bF f y fs))) s'->Q () s'):wpAny (model X.prog X.w) A (setAttr (.ref a) f u) Q E s:=by
 obtain⟨mA,O,r,wi,_,ho⟩:=DO I.aL e
 have hz:(fs.map (·.1)).length<=sizeLine:=by rw[bA,sizeLine_eq];omega
 refine cz3 I.di O c.sa c.po n.dO6 c.hd wi hz λh' O' sb=>h _ ?_
 have hd:∃o,h'.get? dx=some o:=let⟨o,_,_,e',_⟩:=O'.ns;⟨o,e'⟩
 refine I.write (x:=a) (e:=dx) (by rw[e];exact tV) (.inr ho) (λb q hb z=>(sb.2 b hb).trans z) hd ?_
 refine⟨by rw[bf O.ne];exact ho,?_,O.ne,O'.obj,_,O'.ns,λg=>?_,λg hg=>?_⟩
 ·have:=V6 f y fs;omega
 ·show lU ((bF f y fs).lookup g) (if g=f then some u else mA g)
  rw[V5]
  by_cases q:g=f
  ·rw[if_pos q,if_pos q];exact ry
  ·rw[if_neg q,if_neg q];exact r g
 ·by_cases q:g=f
  ·rw[q];exact(Jw f y fs).1
  ·refine(Jw f y fs).2 g (wi g λz=>hg ?_)
   show(if g=f then some u else mA g)=none
   rw[if_neg q];exact z
theorem Inv.made(I:Inv X pins σ H s):Inv X pins σ (upd (upd H s.heap.objs.size (.own (s.heap.objs.size+1))) (s.heap.objs.size+1) (.ins C s.heap.objs.size []))
  { s with heap:=(s.heap.push PySem.W.emptyDict).push (PySem.W.instObj C s.heap.objs.size) }:=by
 have e1:(s.heap.push PySem.W.emptyDict).get? s.heap.objs.size=some PySem.W.emptyDict:=gJ s.heap rfl
 have e2:((s.heap.push PySem.W.emptyDict).push (PySem.W.instObj C s.heap.objs.size)).get? (s.heap.objs.size+1)=some (PySem.W.instObj C s.heap.objs.size):=by
  have:=gJ (s.heap.push PySem.W.emptyDict) (o:=PySem.W.instObj C s.heap.objs.size) rfl
  rwa [tW]at this
 have e3:(s.heap.push PySem.W.emptyDict).Ns s.heap.objs.size (λ_=>none):=⟨PySem.W.emptyDict,#[],_,e1,rfl,(λe he=>absurd he (by simp)),λ_=>rfl⟩
 have I1:=I.laid (a:=s.heap.objs.size) (o:=.own (s.heap.objs.size+1)) (h':=s.heap.push PySem.W.emptyDict) (t':=s.toks) (λb u q=>fI _ q) (bK _) ⟨_,e1⟩
 refine I1.laid (a:=s.heap.objs.size+1) (o:=.ins C s.heap.objs.size []) (t':=s.toks) (λb u q=>fI _ q) (C5 (tW _ _)) ?_
 have ne:s.heap.objs.size≠s.heap.objs.size+1:=fj (C6 _)
 refine⟨by rw[bf ne,bM],lK _,ne,e2,λ_=>none,(Heap.Ns1.of_empty e3).at λo q=>fI _ q,λ_=>tV,λy hy=>absurd rfl hy⟩
theorem cG2{prog:Program}{w:World}{env:Env}{e:Expr}{f:Str}{pos:Pos}{s:Shared}{Q:Value->Shared->Prop}(hb:attributeBase e f env (eval e env)=eval e env)
  (h:wpAny (model prog w) A (eval e env) (λo bG=>wpAny (model prog w) A (getAttr o f true) Q E bG) E s):wpAny (model prog w) A (eval (.Attribute e f pos) env) Q E s :=
 Attribute_any_ h (by rw[arm_eval_Attribute,hb])
end
def c00(K:PySem.W.Frag)(ta:TE)(f:Str):TE:=λσ H Q=>ta σ H λx H1=>∃a C dx fs v,x=.ref a/\H1 a=some (.ins C dx fs)/\cB K C/\aG K C f/\fs.lookup f=some v/\Q v H1
def cZ9(K:PySem.W.Frag)(ta tv:TE)(f:Str):TS:=λD σ H=>tv σ H λy H1=>ta σ H1 λx H2=>∃a C dx fs,x=.ref a/\H2 a=some (.ins C dx fs)/\cB K C/\aG K C f/\fs.length<1000 /\
 D.nx σ (upd H2 a (.ins C dx (bF f y fs)))
section
variable{X:Cx}{o e value:Expr}{f:Str}{pos pos' qW:Pos}{ta tv:TE}
theorem qX(he:PE X e ta)(hb:attributeBase e f X.env (eval e X.env)=eval e X.env):PE X (.Attribute e f pos) (c00 X.K ta f):=by
 intro pins s σ H Q I h
 refine cG2 hb (aS (he pins s σ H _ I h) λu s1 ⟨x,H1,I1,rx,a,C,dx,fs,v,ex,ea,c,n,l,q⟩=>?_)
 subst ex
 obtain rfl:u=cZ a:=rx
 exact bZ3 I1 ea c n l λu' s2 I2 ru=>⟨v,H1,I2,ru,q⟩
theorem gZ(ha:PE X o ta)(hv:PE X value tv)(hs:swapsWith value (some (.Attribute o f pos')) pos.line X.env=pure false):PS X (.Assign [.Attribute o f pos'] value pos) (cZ9 X.K ta tv f):=by
 intro pins s σ H D I h
 refine plainObj_wpAny_Assign_Attribute (aS (hv pins s σ H _ I h) λu s1 ⟨y,H1,I1,ry,q⟩=>aS (ha pins s1 σ H1 _ I1 q) λov s2 ⟨x,H2,I2,rx,a,C,dx,fs,ex,ea,c,n,l,q2⟩=>?_) hs
 subst ex
 obtain rfl:ov=cZ a:=rx
 exact bZ1 I2 ea c n l ry λs3 I3=>⟨σ,_,I3,q2⟩
end
section
variable{X:Cx}{pins:List (Addr × Obj)}{σ:St}{H:Hp}{s:Shared}{A:Around}{E:Value->Shared->Prop}{Q:Value->Shared->Prop}{c:Value}{b:Bool}
inductive ij(K:PySem.W.Frag)(H:Hp):V->Value->Prop where
 | aw:ij K H .aw (.type "NoneType")
 | bl (x:Bool):ij K H (.bl x) (.type "bool")
 | int (i:Int):ij K H (.int i) (.type "int")
 | str (x:Str):ij K H (.str x) (.type "str")
 | qJ (x:UInt64):ij K H (.qJ x) (.type "float")
 | lst {a:Addr} {xs:List V} (e:H a=some (.lst xs)):ij K H (.ref a) (.type "list")
 | bz {a:Addr} {o:Obj} {xs:List V} (e:H a=some (.bz o (.lst xs))):ij K H (.ref a) (.type "list")
 | tup {a:Addr} {xs:List V} (e:H a=some (.tup xs)):ij K H (.ref a) (.type "tuple")
 | dK {a:Addr} {dP:List (Key × V)} (e:H a=some (.dK dP)):ij K H (.ref a) (.type "dict")
 | dT {a:Addr} {dP:List (List Key × V)} (e:H a=some (.dT dP)):ij K H (.ref a) (.type "dict")
 | ins {a C dx:Addr} {fs:List (Str × V)} (e:H a=some (.ins C dx fs)) (cl:cB K C) (ha:PySem.W.findIn K (.ref C) "__class__"=some (some (.builtin "object.__class__")))
   (hn:PySem.W.specialIn K (.builtin "object.__class__") "__get__"=some (some (.builtin "getset_descriptor.__get__"))) (DQ:PySem.W.takesIn K (.builtin "object.__class__")=some true)
   (hm:PySem.W.mroIn K C (.type "object")=some true):ij K H (.ref a) (.ref C)
theorem V7{x:V}{u t:Value}(I:Inv X pins σ H s)(rx:RelV x u)(ty:ij X.K H x t)(e:PySem.W.kitOne X.K t c=some b)(h:∀tk,Q (.bool b) { s with toks:=tk }) :
  wpAny (model X.prog X.w) A (call (.builtin "isinstance") [u,c]) Q E s:=by
 cases ty with
 | aw=>cases(show u=qy from rx);exact PySem.W.kia_one PySem.W.kitx_none I.di tV e (λz=>nomatch z) h
 | bl y=>cases(show u=Iu y from rx);exact PySem.W.kia_one PySem.W.kitx_bool I.di tV e (λz=>nomatch z) h
 | int i=>obtain⟨t,q⟩:=(show ∃t,u=oG i t from rx);cases q;exact PySem.W.kia_one PySem.W.kitx_int I.di tV e (λz=>nomatch z) h
 | str y=>obtain⟨t,q⟩:=(show ∃t,u=Value.str y t from rx);cases q;exact PySem.W.kia_one PySem.W.kitx_str I.di tV e (λz=>nomatch z) h
 | qJ y=>obtain⟨t,q⟩:=(show ∃t,u=Value.float y t from rx);cases q;exact PySem.W.kia_one PySem.W.kitx_float I.di tV e (λz=>nomatch z) h
 | @lst a xs ea =>
  cases(show u=cZ a from rx)
  obtain⟨_,_,n,_,h1⟩:=(show eB X.prog X.w H s.heap a (.lst xs) from I.aL a _ ea)
  exact PySem.W.kia_one PySem.W.kitx_list I.di ⟨_,h1,rfl⟩ e (λz=>nomatch z) h
 | @bz a ob xs ea =>
  cases(show u=cZ a from rx)
  obtain⟨_,_,_,n,_,h1⟩:=(show eB X.prog X.w H s.heap a (.bz ob (.lst xs)) from I.aL a _ ea)
  exact PySem.W.kia_one PySem.W.kitx_list I.di ⟨_,h1,rfl⟩ e (λz=>nomatch z) h
 | @tup a xs ea =>
  cases(show u=cZ a from rx)
  obtain⟨_,_,_,p⟩:=(show eB X.prog X.w H s.heap a (.tup xs) from I.aL a _ ea)
  obtain⟨o,h1,h2,_⟩:=p
  exact PySem.W.kia_one PySem.W.kitx_tuple I.di ⟨o,h1,h2⟩ e (λz=>nomatch z) h
 | @dK a dP ea =>
  cases(show u=cZ a from rx)
  obtain⟨_,_,vs,_,p⟩:=(show eB X.prog X.w H s.heap a (.dK dP) from I.aL a _ ea)
  obtain⟨o,es,ep,h1,h2,_⟩:=p
  exact PySem.W.kia_one PySem.W.kitx_dict I.di ⟨o,h1,h2.1⟩ e (λz=>nomatch z) h
 | @dT a dP ea =>
  cases(show u=cZ a from rx)
  obtain⟨_,_,xs,_,o,es,ep,h1,h2,_⟩:=(show eB X.prog X.w H s.heap a (.dT dP) from I.aL a _ ea)
  exact PySem.W.kia_one PySem.W.kitx_dict I.di ⟨o,h1,h2.1⟩ e (λz=>nomatch z) h
 | @ins a C dx fs ea cl ha hn DQ hm =>
  cases(show u=cZ a from rx)
  obtain⟨mA,O,_⟩:=DO I.aL ea
  obtain⟨od,J,_⟩:=O.look
  exact PySem.W.kia_one (PySem.W.kitx_own (cl.get _) cl.hd ha hn DQ hm) I.di J e (λz=>nomatch z) h
end
end L2
namespace L2
open PySem PySem.Spec PyProof.Rows
structure cj(k:Nat)(A:Around):Prop where
 hd:A.handled=none
 dp:A.depth+3*k+5<recursionLimit
 un:A.units+16*k+200<cLine
theorem cj.mono{j k:Nat}{A:Around}(r:cj k A)(h:j<=k):cj j A:=⟨r.hd,by have:=r.dp;omega,by have:=r.un;omega⟩
theorem cj.deeper{k:Nat}{A:Around}(r:cj (k+1) A)(env:Env):cj k (A.deeper env) :=
 ⟨r.hd,by have:=r.dp;show A.depth+1+3*k+5<_;omega,by have:=r.un;show A.units+3+16*k+200<_;omega⟩
theorem b03{A:Around}{C:Addr}{us:List Value}{kw:List (Str × Value)}:(A.under (.builtin "type.__call__" ⟨.ref C::us,kw⟩)).depth=A.depth+1:=by
 first | rfl | simp[Around.under,Code.weight,Code.isCreation,Code.isGuard,Code.isCaller,Code.frames,Code.isFrame,guardIds]
theorem bY2{A:Around}{C:Addr}{us:List Value}{kw:List (Str × Value)}:(A.under (.builtin "type.__call__" ⟨.ref C::us,kw⟩)).units=A.units+1:=by
 first | rfl | simp[Around.under,Code.cUnits,Code.frames,Code.isFrame]
theorem cj.make{k:Nat}{A:Around}(r:cj (k+1) A)(C:Addr)(us:List Value)(kw:List (Str × Value)):cj k (A.under (.builtin "type.__call__" ⟨.ref C::us,kw⟩)) :=
 ⟨r.hd,by have:=r.dp;rw[b03];omega,by have:=r.un;rw[bY2];omega⟩
theorem cj.depth{k:Nat}{A:Around}(r:cj k A):A.depth<recursionLimit:=by have:=r.dp;omega
def c05:TA:=λ_ H Q=>Q [] H
def cU3(ta:TE)(tr:TA):TA:=λσ H Q=>ta σ H λx H1=>tr σ H1 λxs H2=>Q (x::xs) H2
section
variable{X:Cx}{e:Expr}{es:List Expr}{te:TE}{t:TA}{pos:Pos}
theorem e7:PA X [] c05:=λ_ _ _ _ H Q I h=>Calls.spliced_nil ⟨[],H,I,.nil,h⟩
theorem bX(ha:PE X e te)(hr:PA X es t)(hs:starEach (e::es) X.env=(false,eval e X.env)::starEach es X.env:=by rfl):PA X (e::es) (cU3 te t):=by
 intro pos pins s σ H Q I h
 rw[hs]
 show wpAny _ _ (spliced ((false,eval e X.env)::backTo pos (starEach es X.env))) _ _ s
 refine Calls.spliced_cons (aS (ha pins s σ H _ I h) λu s1 ⟨x,H1,I1,r1,q1⟩=>?_)
 exact aS (hr pos pins s1 σ H1 _ I1 q1) λus s2 ⟨xs,H2,I2,r2,q2⟩=>⟨x::xs,H2,I2,.cons r1 r2,q2⟩
def c82(t:TA):TE:=λσ H Q=>t σ H λxs H1=>xs.length<=sizeLine/\∀p,H1 p=none->Q (.ref p) (upd H1 p (.tup xs))
def c86(t:TA):TE:=λσ H Q=>t σ H λxs H1=>xs.length<=sizeLine/\∀p,H1 p=none->Q (.ref p) (upd H1 p (.lst xs))
theorem cT3{x1}(h:PA X es t):PE X (.Tuple es x1 pos) (c82 t):=by
 intro pins s σ H Q I hq
 refine wpAny_Tuple_spliced (aS (h pos pins s σ H _ I hq) λus s1 ⟨xs,H1,I1,r,z,q⟩=>⟨by rw[<-r.length];exact z,?_⟩)
 have hf:H1 s1.heap.objs.size=none:=I1.aL.fresh (bK _)
 refine⟨.ref s1.heap.objs.size,upd H1 s1.heap.objs.size (.tup xs),I1.laid (t':=s1.toks) (λb u e=>fI _ e) (bK _) ?_,rfl,q _ hf⟩
 exact⟨z,us,r,⟨_,gJ _ rfl,rfl,_,rfl⟩⟩
theorem V8(h:PA X es t):PE X (.List es pos) (c86 t):=by
 intro pins s σ H Q I hq
 refine wpAny_List_spliced (aS (h pos pins s σ H _ I hq) λus s1 ⟨xs,H1,I1,r,z,q⟩=>⟨by rw[<-r.length];exact z,?_⟩)
 have hf:H1 s1.heap.objs.size=none:=I1.aL.fresh (bK _)
 refine⟨.ref s1.heap.objs.size,upd H1 s1.heap.objs.size (.lst xs),I1.laid (t':=s1.toks) (λb u e=>fI _ e) (bK _) ?_,rfl,q _ hf⟩
 exact⟨z,us,0,r,gJ _ rfl⟩
end
abbrev Sp:=List V->Hp->VK->XK->Prop
abbrev eW:=List Env->Hp->Shared->XK->Value->Shared->Prop
structure jf(P:Program)(w:World)(K:PySem.W.Frag)(mg:Str->Option Value)(base:Heap)(A:Around)(outer:List Env)(s:Shared)(H:Hp):Prop where
 frames:A.frames=some outer
 mod:Mod K mg base
 bs:∀b o,base.get? b=some o->s.heap.get? b=some o/\H b=none
 j5:base.objs.size<=s.heap.objs.size
 gX:s.heap.FunFrames base outer
 j6:∀b∈eI outer,H b=none
 aL:cO P w H s.heap
 bare:AllBare s.gens
def CE(outer:List Env)(P:Program)(w:World)(H:Hp)(s:Shared)(Q:VK)(u:Value)(s':Shared):Prop :=
 ∃v H',s'.os=s.os/\AllBare s'.gens/\Un (eI outer) [] H H' s.heap s'.heap/\cO P w H' s'.heap/\RelV v u/\Q v H'
def CR(CX:eW)(outer:List Env)(P:Program)(w:World)(H:Hp)(s:Shared)(Q:VK)(E:XK)(r:Result)(s':Shared):Prop :=
 match r with
 | .ok (.ret u)=>CE outer P w H s Q u s'
 | .ok _=>False
 | .error e=>CX outer H s E e s'
structure aN(P:Program)(w:World)(K:PySem.W.Frag)(mg:Str->Option Value)(base:Heap)(CX:eW)(k:Nat)(f:Addr)(fd:FuncData)(ps:List Str)(sp:Sp):Prop where
 len:∀vs H Q E,sp vs H Q E->vs.length=ps.length
 run:∀(A:Around) (outer:List Env) (s:Shared) (H:Hp) (args:Args) (us:List Value) (vs:List V) (Q:VK) (E:XK),cj k A->jf P w K mg base A outer s H->BindsTo s fd args (ps.zip us)->Vals vs us->sp vs H Q E ->
  codeAny (model P w) A (.call (.ref f) args) (CR CX outer P w H s Q E) s
theorem aN.mono{P:Program}{w:World}{K:PySem.W.Frag}{mg:Str->Option Value}{base:Heap}{CX:eW}{j k:Nat}{f:Addr}{fd:FuncData}{ps:List Str}{sp:Sp}(F:aN P w K mg base CX j f fd ps sp)(h:j<=k) :
  aN P w K mg base CX k f fd ps sp:=⟨F.len,λA outer s H args us vs Q E hr=>F.run A outer s H args us vs Q E (hr.mono h)⟩
theorem aN.imp{P:Program}{w:World}{K:PySem.W.Frag}{mg:Str->Option Value}{base:Heap}{CX:eW}{k:Nat}{f:Addr}{fd:FuncData}{ps:List Str}{sp V9:Sp}(F:aN P w K mg base CX k f fd ps sp)
  (h:∀vs H Q E,V9 vs H Q E->sp vs H Q E):aN P w K mg base CX k f fd ps V9 :=
 ⟨λvs H Q E q=>F.len vs H Q E (h _ _ _ _ q),λA outer s H args us vs Q E hr he hb hv hs=>F.run A outer s H args us vs Q E hr he hb hv (h _ _ _ _ hs)⟩
theorem jf.make{P:Program}{w:World}{K:PySem.W.Frag}{mg:Str->Option Value}{base:Heap}{A:Around}{outer:List Env}{s:Shared}{H:Hp}(e:jf P w K mg base A outer s H)(C:Addr)(us:List Value)(kw:List (Str × Value)) :
  jf P w K mg base (A.under (.builtin "type.__call__" ⟨.ref C::us,kw⟩)) outer s H:=⟨by first | exact e.frames | (simpa[Around.under,Code.envs,Code.isFrame,pushEnvs]using e.frames),e.mod,e.bs,e.j5,e.gX,e.j6,e.aL,e.bare⟩
section
variable{X:Cx}{pins:List (Addr × Obj)}{σ:St}{H:Hp}{s s':Shared}
theorem Inv.zR(I:Inv X pins σ H s):jf X.prog X.w X.K X.mg X.base X.A X.stack s H :=
 ⟨I.ok.frames,I.ok.mod,I.bs,fu I.ok.j5 I.sz,I.stack,I.Ja,I.aL,I.bare⟩
theorem Inv.after{Q:VK}{u:Value}(I:Inv X pins σ H s)(h:CE X.stack X.prog X.w H s Q u s'):EP X pins σ Q u s':=by
 obtain⟨v,H',os,bare,un,aL,r,q⟩:=h
 obtain⟨hh,g,d,t,os'⟩:=s'
 obtain rfl:os'=s.os:=os
 exact⟨v,H',I.call (h':=hh) (g':=g) (d':=d) (t':=t) (ch:=[]) un aL bare (λb z=>absurd z (by simp)),r,q⟩
end
def cU4(sp:Sp)(fm:List V)(E:XK)(t:TA):TE:=λσ H Q=>t σ H λvs H1=>sp (vs++fm) H1 Q E
def cX5(C:Addr)(m:Str)(sp:Sp)(fm:List V)(E:XK)(ta:TE)(t:TA):TE:=λσ H Q=>ta σ H λx H1=>∃a dx fs,x=.ref a/\H1 a=some (.ins C dx fs)/\fs.lookup m=none /\
 t σ H1 λvs H2=>sp (x::(vs++fm)) H2 Q E
def cW2(C:Addr)(sp:Sp)(fm:List V)(E:XK)(t:TA):TE:=λσ H Q=>t σ H λvs H1=>∀x dx,H1 x=none->H1 dx=none->dx≠x ->
 sp (.ref x::(vs++fm)) (upd (upd H1 dx (.own x)) x (.ins C dx [])) (λv H2=>v=.aw/\Q (.ref x) H2) E
def Binds(K:PySem.W.Frag)(fd:FuncData)(ps:List Str)(ds:List Value):Prop :=
 ∀(s:Shared) (us:List Value),K.In s.heap->(us++ds).length=ps.length->BindsTo s fd ⟨us,[]⟩ (ps.zip (us++ds))
theorem Binds.all{K:PySem.W.Frag}{fd:FuncData}{ps:List Str}(h:∀us:List Value,us.length=ps.length->bindArgs fd ⟨us,[]⟩=pure (ps.zip us)):Binds K fd ps []:=λs us _ hl=>by
 rw[fV]at hl ⊢
 exact .of_eq (h us hl)
def j9(CX:eW)(X:Cx)(E:XK):Prop:=∀(pins:List (Addr × Obj)) (σ:St) (H:Hp) (s:Shared) (e:Value) (s':Shared),Inv X pins σ H s->CX X.stack H s E e s'->X.xe e s'
section
variable{X:Cx}{CX:eW}{k:Nat}{f C:Addr}{fd:FuncData}{ps:List Str}{sp:Sp}{fm:List V}{ds:List Value}{E:XK}{x m:Str}{p pos apos:Pos}{e o:Expr}{es:List Expr}{ta:TE}{t:TA}
theorem uB{pins:List (Addr × Obj)}{σ:St}{H:Hp}{s:Shared}{Q:VK}{us:List Value}{vs:List V}(F:aN X.prog X.w X.K X.mg X.base CX k f fd ps sp)(hr:cj k X.A)(hb:Binds X.K fd ps ds)(hd:Vals fm ds)(hx:j9 CX X E)
  (I:Inv X pins σ H s) (r:Vals vs us) (h:sp (vs++fm) H Q E):wpAny (model X.prog X.w) X.A (call (.ref f) us) (EP X pins σ Q) X.xe s:=by
 have r2:Vals (vs++fm) (us++ds):=r.append hd
 have hl:(us++ds).length=ps.length:=by rw[<-r2.length];exact F.len _ _ _ _ h
 refine wpAny_call (codeAny_mono (F.run X.A X.stack s H ⟨us,[]⟩ (us++ds) (vs++fm) Q E hr I.zR (hb s us I.di hl) r2 h) λr s' hq=>?_)
 cases r with
 | error e=>exact hx pins σ H s e s' I hq
 | ok fl =>
  cases fl with
  | ret u=>exact I.after hq
  | next=>exact fU hq
  | brk=>exact fU hq
  | cont=>exact fU hq
theorem jg(F:aN X.prog X.w X.K X.mg X.base CX k f fd ps sp)(hr:cj k X.A)(hg:Gl X x)(hm:X.mg x=some (.ref f))(hk:PySem.W.keepIn X.K (.ref f)=true)(hb:Binds X.K fd ps ds)(hd:Vals fm ds)(hx:j9 CX X E)
  (ha:PA X (e::es) t) (eC:(x==("__debug__":Str))=false:=by decide) (he:starEach (e::es) X.env=(false,eval e X.env)::starEach es X.env:=by rfl) (bQ:(backTo pos (starEach es X.env)).any (·.1)=false:=by rfl) :
  PE X (.Call (.Name x p) (e::es) [] pos) (cU4 sp fm E t):=by
 intro pins s σ H Q I h
 refine wpAny_Call_Name_kw (zI I hg hm ?_ eC)
 refine PySem.W.callWith_K (h₀:=X.base) I.ok.mod.nu hk (aS (ha pos pins s σ H _ I h) λus s1 ⟨vs,H1,I1,r,q⟩=>⟨I1.di,?_⟩) he bQ
 exact uB F hr hb hd hx I1 r q
theorem cD5{pl:Sem Bool}(he:PE X o ta)(c:cB X.K C)(hm:Meth X.K C m f)(F:aN X.prog X.w X.K X.mg X.base CX k f fd ps sp)(hr:cj k X.A)(hb:Binds X.K fd ps ds)(hd:Vals fm ds)(hx:j9 CX X E)(ha:PA X (e::es) t)
  (dj:starEach (e::es) X.env=(false,eval e X.env)::starEach es X.env:=by rfl) (bQ:(backTo pos (starEach es X.env)).any (·.1)=false:=by rfl)
  (ht:eval (.Call (.Attribute o m apos) (e::es) [] pos) X.env=(do
   let ov<-eval o X.env
   standAt apos.atName
   let (f,first)<-holding [ov] (getMethod ov m pl)
   callWith pos f first (backTo pos (starEach (e::es) X.env)) (backToKw pos (keywordEach [] X.env))):=by rfl) :
  PE X (.Call (.Attribute o m apos) (e::es) [] pos) (cX5 C m sp fm E ta t):=by
 intro pins s σ H Q I h
 refine PySem.W.methodCall_KW (pl:=pl) (aS (he pins s σ H _ I h) λu s1 ⟨x,H1,I1,rx,a,dx,fs,ex,ea,l,q⟩=>?_) ht
 subst ex
 obtain rfl:u=cZ a:=rx
 refine DP I1 ea c hm l ?_
 refine PySem.W.callWith_K (first:=[.ref a]) (h₀:=X.base) I.ok.mod.nu hm.kp (aS (ha pos pins s1 σ H1 _ I1 q) λus s2 ⟨vs,H2,I2,r,q2⟩=>⟨I2.di,?_⟩) dj bQ
 exact uB (us:=.ref a::us) (vs:=.ref a::vs) F hr hb hd hx I2 (.cons rfl r) q2
structure Mk(K:PySem.W.Frag)(C f:Addr):Prop where
 makes:PySem.W.makesIn K C=true
 init:PySem.W.findIn K (.ref C) "__init__"=some (some (.ref f))
 fn:PySem.W.isFn K (.ref f)=true
 kp:PySem.W.keepIn K (.ref C)=true
theorem cp3{pins:List (Addr × Obj)}{σ:St}{H:Hp}{s:Shared}{Q:VK}{us:List Value}{vs:List V}(M:Mk X.K C f)(F:aN X.prog X.w X.K X.mg X.base CX k f fd ps sp)(hr:cj (k+1) X.A)(hb:Binds X.K fd ps ds)(hd:Vals fm ds)
  (hx:j9 CX X E) (I:Inv X pins σ H s) (r:Vals vs us)
  (h:∀x dx,H x=none->H dx=none->dx≠x->sp (.ref x::(vs++fm)) (upd (upd H dx (.own x)) x (.ins C dx [])) (λv H2=>v=.aw/\Q (.ref x) H2) E) :
  wpAny (model X.prog X.w) X.A (call (.ref C) us) (EP X pins σ Q) X.xe s:=by
 have hq:=h (s.heap.objs.size+1) s.heap.objs.size (I.aL.fresh (Nat.le_succ _)) (I.aL.fresh (bK _)) (fj (C6 _))
 have I2:=Inv.made (C:=C) I
 have r2:Vals (V.ref (s.heap.objs.size+1)::(vs++fm)) (cZ (s.heap.objs.size+1)::(us++ds)):=.cons rfl (r.append hd)
 have hl:(cZ (s.heap.objs.size+1)::us++ds).length=ps.length:=by
  have e:=r2.length
  rw[F.len _ _ _ _ hq]at e
  exact e.symm
 refine wpAny_call (co6 (f:=f) I.di M.makes M.init (beq_iff_eq.mp M.fn) (codeAny_mono (F.run _ X.stack _ _ ⟨cZ (s.heap.objs.size+1)::us,[]⟩ (cZ (s.heap.objs.size+1)::(us++ds)) _ _ E (hr.make C us [])
  (I2.zR.make C us []) (hb _ (cZ (s.heap.objs.size+1)::us) I2.di hl) r2 hq) λr s' nz=>?_))
 cases r with
 | error e=>exact hx pins σ _ _ e s' I2 nz
 | ok fl =>
  cases fl with
  | ret u =>
   obtain⟨v,H',I3,rv,ev,q3⟩:=I2.after nz
   subst ev
   exact⟨rv,⟨V.ref (s.heap.objs.size+1),H',I3,rfl,q3⟩⟩
  | next=>exact fU nz
  | brk=>exact fU nz
  | cont=>exact fU nz
theorem Wa(M:Mk X.K C f)(F:aN X.prog X.w X.K X.mg X.base CX k f fd ps sp)(hr:cj (k+1) X.A)(hg:Gl X x)(hm:X.mg x=some (.ref C))(hb:Binds X.K fd ps ds)(hd:Vals fm ds)(hx:j9 CX X E)
  (ha:PA X (e::es) t) (eC:(x==("__debug__":Str))=false:=by decide) (he:starEach (e::es) X.env=(false,eval e X.env)::starEach es X.env:=by rfl) (bQ:(backTo pos (starEach es X.env)).any (·.1)=false:=by rfl) :
  PE X (.Call (.Name x p) (e::es) [] pos) (cW2 C sp fm E t):=by
 intro pins s σ H Q I h
 refine wpAny_Call_Name_kw (zI I hg hm ?_ eC)
 refine PySem.W.callWith_K (h₀:=X.base) I.ok.mod.nu M.kp (aS (ha pos pins s σ H _ I h) λus s1 ⟨vs,H1,I1,r,q⟩=>⟨I1.di,?_⟩) he bQ
 exact cp3 M F hr hb hd hx I1 r q
end
section
variable{X:Cx}{CX:eW}{k:Nat}{f C:Addr}{fd:FuncData}{ps ks:List Str}{sp:Sp}{E:XK}{x m:Str}{p pos apos fZ1:Pos}{e o:Expr}{es:List Expr}{kws:List Keyword}{te ta:TE}{t tk:TA}{nm:Option Str}
variable{g:List Value->List Value->List Value}{gV:List V->List V->List V}
end
structure bj(N P:List Str)(sc:Scope):Prop where
 kind:sc.kind=.function
 co:sc.isCoroutine=false
 gen:sc.isGenerator=false
 nd:N.Nodup
 pre:N.take P.length=P
 par:∀x∈P,sc.names.lookup x=some .local\/sc.names.lookup x=some .cell
 dQ7:∀y∈sc.names,y.2≠.free
theorem Wb{kindOf:Str->Option NameKind}{x:Str}:∀{binds:List (Str × Value)} {m:Str->Option Value},(∀v,(x,v) ∉ binds)->bindL kindOf binds m x=m x
 | [],_,_=>rfl
 | (n,v)::r,m,h=>by
  unfold bindL
  rw[Wb λw hw=>h w (gq _ hw)]
  split
  ·have:x≠n:=by rintro rfl;exact h v iY
   simp[this]
  ·rfl
theorem Wc{kindOf:Str->Option NameKind}{x:Str}:∀{binds:List (Str × Value)} {m:Str->Option Value},(∀v,(x,v) ∉ binds)->bindC kindOf binds m x=m x
 | [],_,_=>rfl
 | (n,v)::r,m,h=>by
  unfold bindC
  rw[Wc λw hw=>h w (gq _ hw)]
  split
  ·rfl
  ·have:x≠n:=by rintro rfl;exact h v iY
   simp[this]
theorem Wd{kindOf:Str->Option NameKind}{x:Str}{v:Value}:∀{P:List Str} {vs:List Value} {i:Nat} {m:Str->Option Value},P.Nodup->P[i]?=some x->vs[i]?=some v->kindOf x=some .local ->
  bindL kindOf (P.zip vs) m x=some v
 | [],_,_,_,_,h,_,_=>by simp at h
 | _::_,[],_,_,_,_,h,_=>by simp at h
 | p::P,w::vs,0,m,nd,h1,h2,hk=>by
  simp at h1 h2;subst h1;subst h2
  show bindL kindOf ((p,w)::P.zip vs) m p=_
  unfold bindL
  rw[Wb λv hv=>(jW.mp nd).1 (tX hv).1,if_pos hk]
  simp
 | p::P,w::vs,i+1,m,nd,h1,h2,hk=>by
  show bindL kindOf ((p,w)::P.zip vs) m x=_
  unfold bindL
  exact Wd (i:=i) (jW.mp nd).2 (by simpa using h1) (by simpa using h2) hk
theorem We{kindOf:Str->Option NameKind}{x:Str}{v:Value}:∀{P:List Str} {vs:List Value} {i:Nat} {m:Str->Option Value},P.Nodup->P[i]?=some x->vs[i]?=some v->kindOf x≠some .local ->
  bindC kindOf (P.zip vs) m x=some v
 | [],_,_,_,_,h,_,_=>by simp at h
 | _::_,[],_,_,_,_,h,_=>by simp at h
 | p::P,w::vs,0,m,nd,h1,h2,hk=>by
  simp at h1 h2;subst h1;subst h2
  show bindC kindOf ((p,w)::P.zip vs) m p=_
  unfold bindC
  rw[Wc λv hv=>(jW.mp nd).1 (tX hv).1,if_neg hk]
  simp
 | p::P,w::vs,i+1,m,nd,h1,h2,hk=>by
  show bindC kindOf ((p,w)::P.zip vs) m x=_
  unfold bindC
  exact We (i:=i) (jW.mp nd).2 (by simpa using h1) (by simpa using h2) hk
def start(N:List Str)(vs:List V):St:=vs.map some++bo (N.length-vs.length) none
def iM(CX:eW)(P:Program)(w:World)(K:PySem.W.Frag)(mg:Str->Option Value)(base:Heap)(N:List Str)(qual:Str)(scope:Scope)(f:Addr)(cd:Value)(A:Around)(outer:List Env)(s:Shared)(H:Hp)(E:XK):Cx where
 prog:=P
 w:=w
 K:=K
 mg:=mg
 base:=base
 A:=A.deeper (envOfC qual scope s.heap.objs.size f cd)
 N:=N
 cP:=s
 j4:=H
 env:=envOfC qual scope s.heap.objs.size f cd
 outer:=outer
 stack:=envOfC qual scope s.heap.objs.size f cd::outer
 ex:=[]
 calm:=true
 fn:=λ_=>true
 pn:=[]
 xe:=λe s'=>wpAny (model P w) (A.deeper (envOfC qual scope s.heap.objs.size f cd)) (leaving (envOfC qual scope s.heap.objs.size f cd) e) (λ_ qY=>CX outer H s E e qY) (λe' qY=>CX outer H s E e' qY) s'
theorem Wf{sc:Scope}{n:Nat}{x:Str}(h:sc.names.lookup x=some .cell):∃c,(cellsFrom n sc.names []).lookup x=some c:=by
 have q:=PySem.W.cellsFrom_some sc.names n [] (.inl h)
 exact C7.mp q
theorem cf8{CX:eW}{P:Program}{w:World}{K:PySem.W.Frag}{mg:Str->Option Value}{base:Heap}{N ps:List Str}{qual:Str}{scope:Scope}{f:Addr}{cd:Value}{A:Around}{outer:List Env}{s s1:Shared}{H:Hp}{E:XK}{us:List Value}{vs:List V}
  (S:bj N ps scope) (hd:A.handled=none) (e0:jf P w K mg base A outer s H) (hl:vs.length=ps.length) (r:Vals vs us)
  (x:InCallC s s.heap.objs.size (bindL (envOfC qual scope s.heap.objs.size f cd).kindOf (ps.zip us) λ_=>none) (cellsFrom (s.heap.objs.size+1) scope.names []) (bindC (envOfC qual scope s.heap.objs.size f cd).kindOf (ps.zip us) λ_=>none) s1) :
  Inv (iM CX P w K mg base N qual scope f cd A outer s H E) [] (start N vs) H s1:=by
 have bQ:ps.length<=N.length:=by have:=congrArg Iy S.pre;rw[iJ]at this;omega
 obtain⟨h1,tk,rfl,hk⟩:=x.done
 have zS:∀b:Addr,b ∉ (iM CX P w K mg base N qual scope f cd A outer s H E).ex:=λb z=>absurd (show b∈([]:List Addr) from z) (by simp)
 refine⟨⟨e0.mod,S.kind,rfl,rfl,bK _,λy z c h1 h2=>?_,λy hy=>?_,λy c _ h=>?_,λ_=>hd,Around.frames_deeper e0.frames,.inr ⟨rfl,rfl⟩,λb z=>absurd z (zS b),e0.bs,e0.j5,λb _ _=>zS b,λb z=>absurd z (zS b),e0.gX,e0.j6⟩,
  rfl,e0.bare,Un.kept hk,⟨_,x.toInCall.ns,λi y v h1 h2 h3=>?_⟩,λy c h=>⟨_,x.cell y c h⟩,e0.aL.fresh (bK _),λy c h=>?_,λp hp=>absurd (show p∈([]:List (Addr × Obj)) from hp) (by simp),e0.aL.kept hk,?_⟩
 ·exact name_of_addr x.apart (PySem.mem_of_lookup h1) (PySem.mem_of_lookup h2)
 ·have hy:scope.names.lookup y=some .cell\/scope.names.lookup y=some .free:=hy
  rcases hy with hy | hy
  ·exact Wf hy
  ·exact absurd rfl (S.dQ7 _ (PySem.mem_of_lookup hy))
 ·exact CY (x.above y c (PySem.mem_of_lookup h))
 ·have hi:i<vs.length:=by
   unfold start at h2
   by_cases hi:i<vs.length
   ·exact hi
   ·rw[kB (by simpa using hi)]at h2
    rw[tY]at h2
    split at h2<;>cases h2
  have ha:vs[i]?=some v:=by
   unfold start at h2
   rw[qA (by simpa using hi),cu]at h2
   cases e:vs[i]? with
   | none=>rw[e]at h2;cases h2
   | some a=>rw[e]at h2;cases h2;rfl
  obtain⟨u,hu,rv⟩:=r.get ha
  have hp:ps[i]?=some y:=by
   rw[<-S.pre,dC8 (by omega)];exact h1
  have Wg:ps.Nodup:=by rw[<-S.pre];exact S.nd.sublist (List.take_sublist _ _)
  refine⟨u,rv,?_⟩
  rcases S.par y (tZ hp)with k | k
  ·exact .inl ⟨k,Wd Wg hp hu k⟩
  ·obtain⟨c,e⟩:=Wf (n:=s.heap.objs.size+1) k
   refine .inr ⟨.inl k,c,e,?_⟩
   have q:=x.cell y c e
   rw[We Wg hp hu (by show scope.names.lookup y≠_;rw[k];decide)]at q
   exact q
 ·exact e0.aL.fresh (CY (x.above y c (PySem.mem_of_lookup h)))
 ·unfold start
  show _=N.length
  rw[dN,bA,fW]
  omega
theorem DR{CX:eW}{P:Program}{w:World}{K:PySem.W.Frag}{mg:Str->Option Value}{base:Heap}{k:Nat}{f:Addr}{name qual:Str}{params:Arguments}{body:List Stmt}{scope:Scope}{dV kV doc pm aD ct oc:Value}{an od:Option Addr}
  {ik:Array (Option Value)} {N ps:List Str} {sp:Sp} (lk:K.lookup f=some ⟨oc,od,.func (PySem.W.fnOf name qual params body scope dV kV doc pm an aD ct),ik⟩) (cJ:PySem.W.codeIn K aD qual=true) (S:bj N ps scope)
  (len:∀vs H Q E,sp vs H Q E->vs.length=ps.length)
  (g8:∀(A:Around) (outer:List Env) (s:Shared) (H:Hp) (vs:List V) (Q:VK) (E:XK),cj k (A.deeper (envOfC qual scope s.heap.objs.size f aD))->sp vs H Q E ->
   ∃t,PSs (iM CX P w K mg base N qual scope f aD A outer s H E) body t/\t { nx:=λ_ H'=>Q .aw H',rt:=Q } (start N vs) H) :
  aN P w K mg base CX (k+1) f (PySem.W.fnOf name qual params body scope dV kV doc pm an aD ct) ps sp:=by
 refine⟨len,λA outer s H args us vs Q E hr e0 hb r iq=>?_⟩
 have hl:=len _ _ _ _ iq
 have KX:K.In s.heap:=e0.mod.nu.keeps λb o e=>(e0.bs b o e).1
 have lim:s.heap.NoLimit:=e0.mod.nolimit.keeps λb o e=>(e0.bs b o e).1
 have ir:∀y∈ps.zip us,scope.names.lookup y.1=some .local\/(scope.names.lookup y.1=some .cell/\((cellsFrom (s.heap.objs.size+1) scope.names []).lookup y.1).isSome=true):=λ⟨n,v⟩ hy=>by
  rcases S.par n (tX hy).1 with q | q
  ·exact .inl q
  ·exact .inr ⟨q,PySem.W.cellsFrom_some _ _ _ (.inl q)⟩
 refine codeAny_call_function hr.depth (KX _ _ lk) rfl S.co S.gen rfl (PySem.W.codeRec_of KX cJ) (hb _ _ _ _ ?_)
 refine wpAny_newFunctionEnv_cells S.kind ir λenv he s1 x=>?_
 subst he
 refine⟨lim.keeps x.toInCall.keep,codeAny_func ?_⟩
 obtain⟨t,ht,hq⟩:=g8 A outer s H vs Q E (hr.deeper _) iq
 have I:Inv (iM CX P w K mg base N qual scope f aD A outer s H E) [] (start N vs) H s1:=cf8 S hr.hd e0 hl r x
 refine wpAny_mono (ht [] s1 (start N vs) H _ I hq) (λfl s' hs=>?_) λe s' hs=>hs
 have fin:∀{aK:St} {H':Hp} {v:V} {u:Value},Inv (iM CX P w K mg base N qual scope f aD A outer s H E) [] aK H' s'->RelV v u->Q v H'->CE outer P w H s Q u s' :=
  λ{aK H' v u} J rv q=>⟨v,H',J.os,J.bare,J.base,J.aL,rv,q⟩
 cases fl with
 | ret u =>
  obtain⟨v,aK,H',J,rv,q⟩:=hs
  exact fin J rv q
 | next =>
  obtain⟨aK,H',J,q⟩:=hs
  exact fin (v:=V.aw) (u:=qy) J rfl q
 | brk =>
  obtain⟨_,_,_,q⟩:=hs
  exact fU q
 | cont =>
  obtain⟨_,_,_,q⟩:=hs
  exact fU q
end L2
namespace L2
open PySem PySem.Spec PyProof.Rows
section
variable{X:Cx}{x:Str}{p pos:Pos}{e:Expr}{es:List Expr}{t:TA}{id T:String}{r:List V->Hp->VK->Prop}
def Jx(r:List V->Hp->VK->Prop)(t:TA):TE:=λσ H Q=>t σ H λvs H1=>r vs H1 Q
theorem DS(hc:gv X (.builtin id) r)(hg:Gl X x)(hm:X.mg x=none)(hv:bootBuiltins x=some (.builtin id))(ha:PA X (e::es) t)(hn:x≠"__name__":=by decide)(eC:(x==("__debug__":Str))=false:=by decide)
  (he:starEach (e::es) X.env=(false,eval e X.env)::starEach es X.env:=by rfl) (bQ:(backTo pos (starEach es X.env)).any (·.1)=false:=by rfl):PE X (.Call (.Name x p) (e::es) [] pos) (Jx r t):=by
 intro pins s σ H Q I h
 refine wpAny_Call_Name_kw (qN I hg hm hv ?_ hn eC)
 exact PyProof.Rows.callWith_builtin1 (aS (ha pos pins s σ H _ I h) λus s1 ⟨vs,H1,I1,r1,q1⟩=>hc pins s1 σ H1 vs us Q I1 r1 q1) he bQ
theorem b94(hc:gv X (.type T) r)(hg:Gl X x)(hm:X.mg x=none)(hv:bootBuiltins x=some (.type T))(ha:PA X (e::es) t)(hn:x≠"__name__":=by decide)(eC:(x==("__debug__":Str))=false:=by decide)
  (he:starEach (e::es) X.env=(false,eval e X.env)::starEach es X.env:=by rfl) (bQ:(backTo pos (starEach es X.env)).any (·.1)=false:=by rfl):PE X (.Call (.Name x p) (e::es) [] pos) (Jx r t):=by
 intro pins s σ H Q I h
 refine wpAny_Call_Name_kw (qN I hg hm hv ?_ hn eC)
 exact C2 (aS (ha pos pins s σ H _ I h) λus s1 ⟨vs,H1,I1,r1,q1⟩=>hc pins s1 σ H1 vs us Q I1 r1 q1) he bQ
end
end L2
namespace HT
open PySem PyProof.Rows
section
open PySem.SeqAt
open PySem.AutoSeq1 (wpAny_loadPart')
open PySem.MeetsSeq PySem.MeetsSeq2 PySem.MeetsSeq3
end
section
variable{prog:Program}{w:World}{A:Around}{E:Value->Shared->Prop}{s:Shared}
def dk(n d:Nat):Option Int->Nat
 | none=>d
 | some v=>if v<0 then(v+(n:Int)).toNat else min v.toNat n
theorem Jy(n d k:Nat):dk n d (some (k:Int))=min k n:=by
 show(if(k:Int)<0 then((k:Int)+(n:Int)).toNat else min (k:Int).toNat n)=min k n
 rw[if_neg (by omega),gU]
end
end HT
namespace L2
open PySem PySem.Spec PyProof.Rows
abbrev TO:=St->Hp->(Option Int->Hp->Prop)->Prop
def PO(X:Cx)(e:Option Expr)(t:TO):Prop :=
 ∀(pins:List (Addr × Obj)) (s:Shared) (σ:St) (H:Hp) (Q:Option Int->Hp->Prop),Inv X pins σ H s->t σ H Q ->
  wpAny (model X.prog X.w) X.A (evalPart e X.env) (λu s'=>∃o H',Inv X pins σ H' s'/\IsPart u o/\Q o H') X.xe s
def cC8:TO:=λ_ H Q=>Q none H
def cX8(t:TE):TO:=λσ H Q=>t σ H λx H1=>∃i,x=.int i/\Q (some i) H1
theorem bZ5{ns:List Int}:∀{us:List Value},Vals (ns.map V.int) us->IntsAre us ns:=by
 induction ns with
 | nil=>intro us r;rw[jX]at r;cases r;exact .nil
 | cons n ns ih =>
  intro us r
  rw[dv]at r
  cases r with
  | cons r1 r2 =>
   obtain⟨t,e⟩:=r1
   subst e
   exact .cons n t (ih r2)
section
variable{X:Cx}{e:Expr}{te:TE}{lo hi:Option Expr}{tl th:TO}{pos p2:Pos}
theorem cG0:PO X none cC8:=by
 intro pins s σ H Q I h
 rw[evalPart_none]
 exact wpAny_pure ⟨none,H,I,.none,h⟩
theorem cA5(h:PE X e te):PO X (some e) (cX8 te):=by
 intro pins s σ H Q I hw
 rw[evalPart_some]
 refine aS (h pins s σ H _ I hw) λu s1 ⟨x,H1,I1,r1,q1⟩=>?_
 obtain⟨i,rfl,q⟩:=q1
 obtain⟨t,rfl⟩:=r1
 exact⟨some i,H1,I1,.int i t,q⟩
def qZ(X:Cx)(r:V->Option Int->Option Int->Hp->VK->Prop):Prop :=
 ∀(pins:List (Addr × Obj)) (s:Shared) (σ:St) (H:Hp) (x:V) (v vl vu:Value) (lo hi:Option Int) (sl:Addr) (Q:VK),Inv X pins σ H s->RelV x v->s.heap.IsSliceOf sl vl vu .none->IsPart vl lo->IsPart vu hi->r x lo hi H Q ->
  ∃T id,typeLookup (.type T) "__getitem__"=pure (some (.builtin id))/\s.TypeIs v T/\wpAny (model X.prog X.w) X.A (getItem v (.ref sl)) (EP X pins σ Q) X.xe s
theorem qZ.or{r r':V->Option Int->Option Int->Hp->VK->Prop}(h:qZ X r)(h':qZ X r'):qZ X (λx lo hi H Q=>r x lo hi H Q\/r' x lo hi H Q):=by
 intro pins s σ H x v vl vu lo hi sl Q I rx hs pl pu q
 rcases q with q | q
 ·exact h pins s σ H x v vl vu lo hi sl Q I rx hs pl pu q
 ·exact h' pins s σ H x v vl vu lo hi sl Q I rx hs pl pu q
def tSl(r:V->Option Int->Option Int->Hp->VK->Prop)(te:TE)(tl th:TO):TE:=λσ H Q=>te σ H λx H1=>tl σ H1 λl H2=>th σ H2 λu H3=>r x l u H3 Q
theorem cq9{r:V->Option Int->Option Int->Hp->VK->Prop}(hr:qZ X r)(he:PE X e te)(hl:PO X lo tl)(hu:PO X hi th):PE X (.Subscript e (.Slice lo hi none p2) pos) (tSl r te tl th):=by
 intro pins s σ H Q I h
 refine Subscript_ (aS (he pins s σ H _ I h) λv s1 ⟨x,H1,I1,r1,q1⟩=>?_)
 refine wpAny_Slice (aS (hl pins s1 σ H1 _ I1 q1) λvl s2 ⟨l,H2,I2,pl,q2⟩=>aS (hu pins s2 σ H2 _ I2 q2) λvu s3 ⟨u,H3,I3,pu,q3⟩=>?_)
 rw[evalPart_none]
 refine wpAny_pure ?_
 have I4:Inv X pins σ H3 { s3 with heap:=s3.heap.push { cls:=.type "slice",data:=.fields #[vl,vu,.none] } }:=I3.kept (t':=s3.toks) λb ob q=>fI _ q
 obtain⟨T,id,hT,ht,hg⟩:=hr pins { s3 with heap:=s3.heap.push { cls:=.type "slice",data:=.fields #[vl,vu,.none] } } σ H3 x v vl vu l u s3.heap.objs.size Q I4 r1 (Heap.IsSliceOf.new ..) pl pu q3
 show wpAny (model X.prog X.w) X.A (subscriptTail e (.Slice lo hi none p2) v (.ref s3.heap.objs.size)) (EP X pins σ Q) X.xe { s3 with heap:=s3.heap.push { cls:=.type "slice",data:=.fields #[vl,vu,.none] } }
 exact tail_any (ops:=[.ref s3.heap.objs.size,v]) ht hT hg (by with_unfolding_all rfl)
def uC(xs:List V)(lo hi:Option Int):List V:=(xs.drop (HT.dk xs.length 0 lo)).take (HT.dk xs.length xs.length hi-HT.dk xs.length 0 lo)
theorem bS8(xs:List V)(lo hi:Option Int):(uC xs lo hi).length<=xs.length:=by
 unfold uC
 rw[iJ,lL]
 omega
end
end L2
namespace L2
open PySem PySem.Spec PyProof.Rows
def g9(n:Nat)(i:Int):Option Nat:=if 0<=i then(if i<n then some i.toNat else none)else if -(n:Int)<=i then some (i+n).toNat else none
def eJ{α:Type}(xs:List α)(i:Int):Option α:=(g9 xs.length i).bind λj=>xs[j]?
theorem Wh{n:Nat}{i:Int}{j:Nat}(h:g9 n i=some j):seqIndex? i n=some j/\j<n/\-(n:Int)<=i/\i<n:=by
 unfold g9 at h
 by_cases h0:0<=i
 ·rw[if_pos h0]at h
  by_cases h1:i<n
  ·rw[if_pos h1]at h
   have e:i.toNat=j:=cV h
   exact⟨by rw[seqIndex_of h0 h1,e],by omega,by omega,h1⟩
  ·rw[if_neg h1]at h;cases h
 ·rw[if_neg h0]at h
  by_cases h1:-(n:Int)<=i
  ·rw[if_pos h1]at h
   have e:(i+n).toNat=j:=cV h
   exact⟨by rw[seqIndex_neg (by omega) h1,e],by omega,h1,by omega⟩
  ·rw[if_neg h1]at h;cases h
theorem nB{α:Type}{xs:List α}{i:Int}{v:α}(h:eJ xs i=some v):∃j,seqIndex? i xs.length=some j/\xs[j]?=some v/\j<xs.length/\-(xs.length:Int)<=i/\i<xs.length:=by
 unfold eJ at h
 cases e:g9 xs.length i with
 | none=>rw[e]at h;cases h
 | some j =>
  rw[e]at h
  obtain⟨h1,h2,h3,h4⟩:=Wh e
  exact⟨j,h1,h,h2,h3,h4⟩
def Wi(b:Expr):Prop:=∀o i,subscripted b false o i=operate [o,i] (getItem o i)
def nC(X:Cx)(r:R2):Prop :=
 ∀(value slice:Expr) (pins:List (Addr × Obj)) (s:Shared) (σ:St) (H:Hp) (x y:V) (v u:Value) (Q:VK),Inv X pins σ H s->RelV x v->RelV y u->r x y H Q ->
  subscripted slice false v u=operate [v,u] (getItem v u)->wpAny (model X.prog X.w) X.A (subscriptTail value slice v u) (EP X pins σ Q) X.xe s
def DT(X:Cx)(id:String)(r:V->List V->Hp->VK->Prop):Prop :=
 ∀(pins:List (Addr × Obj)) (s:Shared) (σ:St) (H:Hp) (x:V) (xs:List V) (v:Value) (us:List Value) (Q:VK),Inv X pins σ H s->RelV x v->Vals xs us->r x xs H Q ->
  wpAny (model X.prog X.w) X.A (call (.builtin id) (v::us)) (EP X pins σ Q) X.xe s
section
variable{X:Cx}{a b:Expr}{ta tb:TE}{pos:Pos}
theorem nC.or{r r':R2}(h:nC X r)(h':nC X r'):nC X (λx y H Q=>r x y H Q\/r' x y H Q):=by
 intro value slice pins s σ H x y v u Q I rx ry q hs
 rcases q with q | q
 ·exact h value slice pins s σ H x y v u Q I rx ry q hs
 ·exact h' value slice pins s σ H x y v u Q I rx ry q hs
theorem Wj{r:R2}(hr:nC X r)(ha:PE X a ta)(hb:PE X b tb)(hs:Wi b):PE X (.Subscript a b pos) (zO r ta tb):=by
 intro pins s σ H Q I h
 exact Subscript_ (Js ha hb I h λv u s2 x y H2 I2 rx ry q=>hr a b pins s2 σ H2 x y v u Q I2 rx ry q (hs _ _))
def Wk(K:PySem.W.Frag):R2:=λx y H Q=>∃p xs i v,x=.ref p/\y=.int i/\bN K H p xs/\eJ xs i=some v/\Q v H
def Wl(K:PySem.W.Frag):R2:=λx y H Q=>∃p xs i v,x=.ref p/\y=.int i/\ie K H p xs/\eJ xs i=some v/\Q v H
def Wm:R2:=λx y H Q=>∃z i c,x=.str z/\y=.int i/\z.length<=sizeLine/\eJ z.cps.toList i=some c/\Q (.str ⟨#[c]⟩) H
theorem Wn:nC X (Wk X.K):=by
 intro value slice pins s σ H x y v u Q I rx ry h hs
 obtain⟨p,xs,i,z,rfl,rfl,hq,he,q⟩:=h
 cases rx
 obtain⟨t,rfl⟩:=ry
 obtain⟨its,r,pl,hz⟩:=I.list hq
 obtain⟨j,h1,h2,h3,h4,h5⟩:=nB he
 obtain⟨w,ew,gw⟩:=r.get h2
 have hl:=r.length
 have hn:=uz
 have fin:EP X pins σ Q w s:=⟨z,H,I,gw,q⟩
 by_cases h0:0<=i
 ·have hj:i.toNat=j:=by
   rw[seqIndex_of h0 h5]at h1
   exact cV h1
  exact item_listR pl.isList h0 (by omega) (by rw[hj];simpa using ew) fin hs
 ·have hj:(i+(its.toArray.size:Int)).toNat=j:=by
   rw[seqIndex_neg (by omega) h4]at h1
   rw[dO,<- hl]
   exact cV h1
  exact subscriptTail_builtinR (x:=w) pl.isList.typeIs slot_list_getitem.lookup
   (wpAny_getItem_list_neg (Q:=λr s'=>r=w/\EP X pins σ Q r s') pl.isList (by omega) (by rw[dO]<;>omega) (by omega) (by rw[hj];simpa using ew) ⟨rfl,fin⟩) hs
theorem dS0:nC X (Wl X.K):=by
 intro value slice pins s σ H x y v u Q I rx ry h hs
 obtain⟨p,xs,i,z,rfl,rfl,hq,he,q⟩:=h
 cases rx
 obtain⟨t,rfl⟩:=ry
 obtain⟨its,r,pl,hz⟩:=I.tuple hq
 obtain⟨j,h1,h2,h3,h4,h5⟩:=nB he
 obtain⟨w,ew,gw⟩:=r.get h2
 have hl:=r.length
 have hn:=uz
 have fin:EP X pins σ Q w s:=⟨z,H,I,gw,q⟩
 exact subscriptTail_builtinR (x:=w) pl.typeIs slot_tuple_getitem.lookup
  (getItem_tuple (j:=j) (Q:=λr s'=>r=w/\EP X pins σ Q r s') pl (by omega) (by omega) (by rw[dO,<- hl];exact h1) (by simpa using ew) ⟨rfl,fin⟩) hs
theorem cN1:nC X Wm:=by
 intro value slice pins s σ H x y v u Q I rx ry h hs
 obtain⟨z,i,c,rfl,rfl,hz,he,q⟩:=h
 obtain⟨t,rfl⟩:=rx
 obtain⟨t',rfl⟩:=ry
 obtain⟨j,h1,h2,h3,h4,h5⟩:=nB he
 have hl:z.cps.toList.length=z.length:=by simp[Str.length]
 rw[hl]at h1 h4 h5
 have hn:=uz
 exact tail_any (typeIs_str s z t) slot_str_getitem.lookup (getItem_str (c:=c) (by
  have e1:decide (i < -(2 ^ 63:Int))=false:=decide_eq_false (by omega)
  have e2:decide (i ≥ 2 ^ 63)=false:=decide_eq_false (by omega)
  rw[e1,e2,zd]) (by rw[h1];simpa using h2) ⟨.str ⟨#[c]⟩,H,I.tok _,⟨_,rfl⟩,q⟩) hs
def rIx(K:PySem.W.Frag):R2:=λx y H Q=>Wk K x y H Q\/Wl K x y H Q\/Wm x y H Q
theorem cS6:nC X (rIx X.K):=Wn.or (dS0.or cN1)
theorem bZ0(its:List Value)(n j:Nat)(u:Value):C8 (·.setIfInBounds j u) { cls:=.type "list",data:=.seq its.toArray n }={ cls:=.type "list",data:=.seq (its.set j u).toArray n }:=by
 simp[C8]
theorem Inv.lst{pins:List (Addr × Obj)}{σ:St}{H:Hp}{s:Shared}{p:Addr}{xs:List V}(I:Inv X pins σ H s)(h:H p=some (.lst xs)) :
  ∃(its:List Value) (n:Nat),Vals xs its/\s.heap.get? p=some { cls:=.type "list",data:=.seq its.toArray n }/\xs.length<=sizeLine:=by
 obtain⟨z,its,n,r,e⟩:=I.aL p _ h
 exact⟨its,n,r,e,z⟩
theorem Inv.dS5{pins:List (Addr × Obj)}{σ:St}{H:Hp}{s:Shared}{p:Addr}{xs ys:List V}{its its':List Value}{n n':Nat}{f:Obj->Obj}(I:Inv X pins σ H s)(h:H p=some (.lst xs))
  (ho:s.heap.get? p=some { cls:=.type "list",data:=.seq its.toArray n }) (hf:f { cls:=.type "list",data:=.seq its.toArray n }={ cls:=.type "list",data:=.seq its'.toArray n' }) (r:Vals ys its') (hz:ys.length<=sizeLine) (t:Nat) :
  Inv X pins σ (upd H p (.lst ys)) { s with heap:=s.heap.update p f,toks:=t }:=by
 have e:(s.heap.update p f).get? p=some { cls:=.type "list",data:=.seq its'.toArray n' }:=by
  rw[Iz f ho (by rw[hf]<;>rfl),hf]
 refine I.write (x:=p) (e:=p) (by rw[h];trivial) (.inl rfl) (λb u hb q=>(qB _ _ (fH hb)).trans q) ⟨_,e⟩ ?_
 exact⟨hz,its',n',r,e⟩
def cU7:V->V->V->Hp->(Hp->Prop)->Prop:=λo i v H Q=>∃p xs k j,o=.ref p/\i=.int k/\H p=some (.lst xs)/\g9 xs.length k=some j/\Q (upd H p (.lst (xs.set j v)))
theorem Wo:VS X cU7:=by
 intro pins s σ H o i v ov iv u Q I ro ri rv h
 obtain⟨p,xs,k,j,rfl,rfl,hp,hj,q⟩:=h
 cases ro
 obtain⟨t,rfl⟩:=ri
 obtain⟨its,n,r,ho,hz⟩:=I.lst hp
 obtain⟨h1,h2,h3,h4⟩:=Wh hj
 have hl:=r.length
 have hn:=uz
 have I':Inv X pins σ (upd H p (.lst (xs.set j v))) { s with heap:=s.heap.update p (C8 (·.setIfInBounds j u)) } :=
  I.dS5 hp ho (bZ0 its n j u) (r.set rv j) (by rw[jY];exact hz) s.toks
 by_cases h0:0<=k
 ·have hk:k.toNat=j:=by
   rw[seqIndex_of h0 h4]at h1
   exact cV h1
  exact PySem.W.ki_setAt ho h0 (by omega) (by rw[dO,<- hl];exact h4) (by rw[hk];exact⟨_,I',q⟩)
 ·have hk:(k+(its.toArray.size:Int)).toNat=j:=by
   rw[seqIndex_neg (by omega) h3]at h1
   rw[dO,<- hl]
   exact cV h1
  exact PySem.W.ki_setBack ho (by omega) (by rw[dO,<- hl];exact h3) (by omega) (by rw[hk];exact⟨_,I',q⟩)
theorem Jz(lo hi:Option Int)(n:Nat):(sliceBounds lo hi none n).1=((HT.dk n 0 lo:Nat):Int)/\(sliceBounds lo hi none n).2.1=((HT.dk n n hi:Nat):Int)/\(sliceBounds lo hi none n).2.2=1:=by
 refine⟨?_,?_,rfl⟩
 ·cases lo with
  | none=>simp[sliceBounds,HT.dk]
  | some i =>
   simp only[sliceBounds,HT.dk,t7,show(1:Int)>0 by decide,if_true]
   by_cases h:i<0
   ·simp only[h,if_true]<;>omega
   ·simp only[h,if_false]<;>omega
 ·cases hi with
  | none=>simp[sliceBounds,HT.dk]
  | some i =>
   simp only[sliceBounds,HT.dk,t7,show(1:Int)>0 by decide,if_true]
   by_cases h:i<0
   ·simp only[h,if_true]<;>omega
   ·simp only[h,if_false]<;>omega
theorem bI8(its:List Value)(lo hi:Option Int):slicePick its.toArray lo hi none=((its.drop (HT.dk its.length 0 lo)).take (HT.dk its.length its.length hi-HT.dk its.length 0 lo)).toArray:=by
 obtain⟨h1,h2,h3⟩:=Jz lo hi its.toArray.size
 unfold slicePick
 rw[h1,h2,h3]
 simp only[sliceRange_one,pick_run,dO]<;>rfl
def c09(K:PySem.W.Frag):V->Option Int->Option Int->Hp->VK->Prop:=λx lo hi H Q=>∃a xs,x=.ref a/\bN K H a xs/\∀p,H p=none->Q (.ref p) (upd H p (.lst (uC xs lo hi)))
theorem dS9:qZ X (c09 X.K):=by
 intro pins s σ H x v vl vu lo hi sl Q I rx hs pl pu h
 obtain⟨a,xs,rfl,hx,q⟩:=h
 cases rx
 obtain⟨its,r,ht,hz⟩:=I.list hx
 have hlen:=r.length
 refine⟨"list",_,slot_list_getitem.lookup,ht.isList.typeIs,?_⟩
 refine wpAny_getItem_list_slice ht.isList hs pl pu .none (by simp) ?_ (by rw[dO]<;>omega)
 rw[bI8,<- hlen]
 refine⟨.ref s.heap.objs.size,_,I.laid (t':=s.toks) (o:=.lst (uC xs lo hi)) (λb ob q=>fI _ q) (bK _) ?_,rfl,q _ (I.aL.fresh (bK _))⟩
 exact⟨fu (bS8 xs lo hi) hz,_,0,(r.drop (HT.dk xs.length 0 lo)).take (HT.dk xs.length xs.length hi-HT.dk xs.length 0 lo),gJ _ rfl⟩
def nD:V->Bool
 | .aw=>true
 | .bl _=>true
 | .int _=>true
 | .str _=>true
 | _=>false
def mi:V->V->Bool
 | .aw,.aw=>true
 | .bl a,.bl b=>a==b
 | .bl a,.int b=>(if a then 1 else 0)==b
 | .int a,.bl b=>a==(if b then 1 else 0)
 | .int a,.int b=>a==b
 | .str a,.str b=>a==b
 | _,_=>false
theorem cP7{A:Around}{s:Shared}{y x:V}{u v:Value}(ry:RelV y u)(rx:RelV x v)(fy:nD y=true)(fx:nD x=true):IA A s u v (mi y x):=by
 cases y with
 | aw =>
  cases ry
  cases x with
  | aw=>cases rx;exact SeqAt.EqAt.same _
  | bl b=>cases rx;exact SeqAt.EqAt.none_bool b
  | int b=>obtain⟨t,rfl⟩:=rx;exact SeqAt.EqAt.none_int b t
  | str b=>obtain⟨t,rfl⟩:=rx;exact SeqAt.EqAt.none_str b t
  | _=>exact absurd (show false=true from fx) i5
 | bl a =>
  cases ry
  cases x with
  | aw=>cases rx;exact SeqAt.EqAt.bool_none a
  | bl b=>cases rx;exact SeqAt.EqAt.bool_bool a b
  | int b=>obtain⟨t,rfl⟩:=rx;exact SeqAt.EqAt.bool_int a b t
  | str b=>obtain⟨t,rfl⟩:=rx;exact SeqAt.EqAt.bool_str a b t
  | _=>exact absurd (show false=true from fx) i5
 | int a =>
  obtain⟨t',rfl⟩:=ry
  cases x with
  | aw=>cases rx;exact SeqAt.EqAt.int_none a t'
  | bl b=>cases rx;exact SeqAt.EqAt.int_bool a t' b
  | int b=>obtain⟨t,rfl⟩:=rx;exact SeqAt.EqAt.int_int a t' b t
  | str b=>obtain⟨t,rfl⟩:=rx;exact SeqAt.EqAt.int_str a t' b t
  | _=>exact absurd (show false=true from fx) i5
 | str a =>
  obtain⟨t',rfl⟩:=ry
  cases x with
  | aw=>cases rx;exact SeqAt.EqAt.str_none a t'
  | bl b=>cases rx;exact SeqAt.EqAt.str_bool a t' b
  | int b=>obtain⟨t,rfl⟩:=rx;exact SeqAt.EqAt.str_int a t' b t
  | str b=>obtain⟨t,rfl⟩:=rx;exact SeqAt.EqAt.str_str a t' b t
  | _=>exact absurd (show false=true from fx) i5
 | _=>exact absurd (show false=true from fy) i5
def nE(x:V)(u:Value):Bool:=match u with
 | .none=>mi .aw x
 | .bool b=>mi (.bl b) x
 | .int i _=>mi (.int i) x
 | .str z _=>mi (.str z) x
 | _=>false
theorem Wq{x y:V}{u:Value}(r:RelV y u)(f:nD y=true):nE x u=mi y x:=by
 cases y with
 | aw=>cases r;rfl
 | bl b=>cases r;rfl
 | int i=>obtain⟨t,rfl⟩:=r;rfl
 | str z=>obtain⟨t,rfl⟩:=r;rfl
 | _=>exact absurd (show false=true from f) i5
theorem JA{x:V}:∀{xs:List V} {us:List Value},Vals xs us->xs.all nD=true->us.any (nE x)=xs.any λy=>mi y x
 | _,_,.nil,_=>rfl
 | y::xs,u::us,.cons r t,f=>by
  rw[dy,eH]at f
  rw[List.any_cons,List.any_cons,Wq r f.1,JA t f.2]
theorem JB{A:Around}{s:Shared}{x:V}{v:Value}(rx:RelV x v)(fx:nD x=true):∀{xs:List V} {us:List Value},Vals xs us->xs.all nD=true->∀u∈us,IA A s u v (nE x u)
 | _,_,.nil,_=>λu hu=>by cases hu
 | y::xs,u::us,.cons r t,f=>λu' hu=>by
  rw[dy,eH]at f
  rcases cz.mp hu with rfl | hu
  ·rw[Wq r f.1];exact cP7 r rx f.1 fx
  ·exact JB rx fx t f.2 u' hu
def DU(x:V)(xs:List V):Bool:=xs.any λy=>mi y x
def rIn(K:PySem.W.Frag)(neg:Bool):R2:=λx y H Q=>∃p xs,y=.ref p/\(bN K H p xs\/ie K H p xs)/\nD x=true/\xs.all nD=true/\Q (.bl (if neg then !DU x xs else DU x xs)) H
theorem bM3:cQ X (compareOp .NotIn) (rIn X.K true):=by
 intro pins s σ H x y v u Q I rx ry h
 obtain⟨p,xs,rfl,hq,fx,fs,q⟩:=h
 cases ry
 rcases hq with hq | hq
 ·obtain⟨its,r,pl,hz⟩:=I.list hq
  refine SeqAt.notIn_listAt (nE x) pl.isList (λw hw=>JB rx fx r fs w (by simpa using hw)) ⟨.bl _,H,I,rfl,?_⟩
  rw[show its.toArray.any (nE x)=its.any (nE x) by simp,JA r fs]
  exact q
 ·obtain⟨its,r,pl,hz⟩:=I.tuple hq
  refine SeqAt.notIn_tupleAt (nE x) pl (λw hw=>JB rx fx r fs w (by simpa using hw)) ⟨.bl _,H,I,rfl,?_⟩
  rw[show its.toArray.any (nE x)=its.any (nE x) by simp,JA r fs]
  exact q
theorem Wr:gv X (.builtin "len") (λxs H Q=>∃p ys,xs=[.ref p]/\(bN X.K H p ys\/ie X.K H p ys)/\Q (.int ys.length) H):=by
 intro pins s σ H xs us Q I r h
 obtain⟨p,ys,rfl,hq,q⟩:=h
 obtain⟨u,rfl,rx⟩:=Jv r
 cases rx
 have hn:=uz
 rcases hq with hq | hq
 ·obtain⟨its,r',pl,hz⟩:=I.list hq
  have hlen:=r'.length
  exact Calls.call_len_list pl.isList (by simp only[dO]<;>omega) ⟨.int ys.length,H,I.tok _,⟨s.toks+1,by rw[dO,hlen]⟩,q⟩
 ·obtain⟨its,r',pl,hz⟩:=I.tuple hq
  have hlen:=r'.length
  exact len_tuple pl (by simp only[dO]<;>omega) ⟨.int ys.length,H,I.tok _,⟨s.toks+1,by rw[dO,hlen]⟩,q⟩
theorem bM5:gv X (.builtin "len") (λxs H Q=>∃z,xs=[.str z]/\z.length<=sizeLine/\Q (.int z.length) H):=by
 intro pins s σ H xs us Q I r h
 obtain⟨z,rfl,hz,q⟩:=h
 obtain⟨u,rfl,t,rfl⟩:=Jv r
 have hn:=uz
 exact len_str (by omega) ⟨.int z.length,H,I.tok _,⟨_,rfl⟩,q⟩
theorem gv.or{f:Value}{r r':List V->Hp->VK->Prop}(h:gv X f r)(h':gv X f r'):gv X f (λxs H Q=>r xs H Q\/r' xs H Q):=by
 intro pins s σ H xs us Q I rs q
 rcases q with q | q
 ·exact h pins s σ H xs us Q I rs q
 ·exact h' pins s σ H xs us Q I rs q
theorem bP4:gv X (.type "list") (λxs H Q=>∃p ys,xs=[.ref p]/\(bN X.K H p ys\/ie X.K H p ys)/\∀l,H l=none->Q (.ref l) (upd H l (.lst ys))):=by
 intro pins s σ H xs us Q I r h
 obtain⟨p,ys,rfl,hq,q⟩:=h
 obtain⟨u,rfl,rx⟩:=Jv r
 cases rx
 have fin:∀(its:List Value),Vals ys its->ys.length<=sizeLine->∀(h':Heap) (c':Nat),(∀b o',s.heap.get? b=some o'->h'.get? b=some o') ->
   h'.get? s.heap.objs.size=some { cls:=.type "list",dict:=none,data:=.seq its.toArray c',slots:=#[] }->EP X pins σ Q (.ref s.heap.objs.size) { s with heap:=h' }:=λits r' hz h' c' kp e =>
  ⟨.ref s.heap.objs.size,_,I.laid (t':=s.toks) kp (bK _) (show eB X.prog X.w _ h' _ (.lst ys) from⟨hz,its,c',r',e⟩),rfl,q _ (I.aL.fresh (bK _))⟩
 rcases hq with hq | hq
 ·obtain⟨its,r',pl,hz⟩:=I.list hq
  have hlen:=r'.length
  obtain⟨o,ho,hc,n,hd⟩:=pl.isList
  exact call_list_seq p (.inl rfl) ho hc hd (λh' c' kp e=>fin its r' hz h' c' kp e) (by simp only[dO]<;>omega)
 ·obtain⟨its,r',pl,hz⟩:=I.tuple hq
  have hlen:=r'.length
  obtain⟨o,ho,hc,n,hd⟩:=pl
  exact call_list_seq p (.inr rfl) ho hc hd (λh' c' kp e=>fin its r' hz h' c' kp e) (by simp only[dO]<;>omega)
def JC(K:PySem.W.Frag)(T:String)(x:V)(H:Hp):Prop:=match x with
 | .str _=>T="str"
 | .int _=>T="int"
 | .ref p=>(T="list"/\∃xs,bN K H p xs)\/(T="tuple"/\∃o,K.lookup p=some o/\o.cls=.type "tuple"/\o.dict=none) \/
   (T="dict"/\((∃dP,H p=some (.dK dP))\/∃dP,H p=some (.dT dP)))\/(T="set"/\∃S n,H p=some (.set S n))
 | _=>False
theorem Ws{pins:List (Addr × Obj)}{σ:St}{H:Hp}{s:Shared}{T:String}{x:V}{v:Value}(I:Inv X pins σ H s)(r:RelV x v)(ty:JC X.K T x H) :
  s.TypeIs v T/\∀a,v=.ref a->∃ob,s.heap.get? a=some ob/\ob.dict=none:=by
 cases x with
 | str z =>
  obtain⟨t,rfl⟩:=r
  cases(show T="str" from ty)
  exact⟨typeIs_str s z t,λ_ e=>nomatch e⟩
 | int i =>
  obtain⟨t,rfl⟩:=r
  cases(show T="int" from ty)
  exact⟨typeIs_int s i t,λ_ e=>nomatch e⟩
 | ref p =>
  cases r
  rcases ty with⟨rfl,xs,hq⟩ | ⟨rfl,o,hk,hc,hd⟩ | ⟨rfl,hk⟩ | ⟨rfl,S,n,hk⟩
  ·obtain⟨its,_,pl,_⟩:=I.list hq
   refine⟨pl.isList.typeIs,λa e=>?_⟩
   cases e
   obtain⟨o,n,e,c,hd,_⟩:=pl
   exact⟨o,e,hd⟩
  ·refine⟨⟨o,I.di p o hk,hc⟩,λa e=>?_⟩
   cases e
   exact⟨o,I.di _ o hk,hd⟩
  ·have z:∃o,s.heap.get? p=some o/\o.ExactDict:=by
    rcases hk with⟨dP,hk⟩ | ⟨dP,hk⟩
    ·obtain⟨_,_,_,_,o,_,_,e,ex,_⟩:=I.aL p _ hk
     exact⟨o,e,ex⟩
    ·obtain⟨_,_,_,_,o,_,_,e,ex,_⟩:=I.aL p _ hk
     exact⟨o,e,ex⟩
   obtain⟨o,e,ex⟩:=z
   refine⟨⟨o,e,ex.1⟩,λa e2=>?_⟩
   cases e2
   exact⟨o,e,ex.2.1⟩
  ·obtain⟨o,_,_,_,e,ex,_⟩:=I.aL p _ hk
   refine⟨⟨o,e,ex.1⟩,λa e2=>?_⟩
   cases e2
   exact⟨o,e,ex.2.1⟩
 | _=>exact fU ty
def Wt(K:PySem.W.Frag)(T:String)(r:V->List V->Hp->VK->Prop)(to:TE):TE:=λσ H Q=>to σ H λx H1=>JC K T x H1/\r x [] H1 Q
def tBM(K:PySem.W.Frag)(T:String)(r:V->List V->Hp->VK->Prop)(to:TE)(t:TA):TE:=λσ H Q=>to σ H λx H1=>JC K T x H1/\t σ H1 λxs H2=>r x xs H2 Q
variable{o e:Expr}{es:List Expr}{to:TE}{t:TA}{name:Str}{apos cw:Pos}{T id:String}{r:V->List V->Hp->VK->Prop}
theorem cO8(pa:PlainAttrs T)(slot:Slot T name id)(JE:typeOf (.builtin id)=pure (.type "method_descriptor"))(hm:DT X id r)(ho:PE X o to)
  (nF:attributeBase o name X.env (eval o X.env)=eval o X.env:=by rfl) (nG:(apos.endLine==cw.line)=true:=by rfl):PE X (.Call (.Attribute o name apos) [] [] cw) (Wt X.K T r to):=by
 intro pins s σ H Q I h
 refine wpAny_Call_method0_late nF nG (aS (ho pins s σ H _ I h) λv s1 ⟨x,H1,I1,r1,ty,q1⟩=>?_)
 obtain⟨h1,h2⟩:=Ws I1 r1 ty
 exact⟨T,id,pa,slot,JE,h1,h2,Calls.callWith_builtin rfl (PySem.evalArgs_none (hm pins s1 σ H1 x [] v [] Q I1 r1 .nil q1))⟩
theorem cU9(pa:PlainAttrs T)(slot:Slot T name id)(JE:typeOf (.builtin id)=pure (.type "method_descriptor"))(hm:DT X id r)(ho:PE X o to)(ha:PA X (e::es) t)
  (nF:attributeBase o name X.env (eval o X.env)=eval o X.env:=by rfl)
  (JF:((backTo cw (starEach (e::es) X.env)).all (λx=>!x.1)&&(backToKw cw (keywordEach [] X.env)).all (λx=>x.1.isSome)
   && decide ((e::es).length+([]:List Keyword).length+(if([]:List Keyword).isEmpty then 0 else 1)<30))=true:=by rfl)
  (nG:(apos.endLine==cw.line)=true:=by rfl) (hs:starEach (e::es) X.env=(false,eval e X.env)::starEach es X.env:=by rfl) (JG:(backTo cw (starEach es X.env)).any (·.1)=false:=by rfl) :
  PE X (.Call (.Attribute o name apos) (e::es) [] cw) (tBM X.K T r to t):=by
 intro pins s σ H Q I h
 refine wpAny_Call_method_late nF JF nG rfl (aS (ho pins s σ H _ I h) λv s1 ⟨x,H1,I1,r1,ty,q1⟩=>?_)
 obtain⟨h1,h2⟩:=Ws I1 r1 ty
 refine⟨T,id,pa,slot,JE,h1,h2,?_⟩
 have hA:=ha cw pins s1 σ H1 _ I1 q1
 rw[hs]at hA ⊢
 refine Calls.callWith_builtin (by show(false||(backTo cw (starEach es X.env)).any (·.1))=false;rw[JG]<;>rfl) (Calls.evalArgs_plain ?_)
 exact aS hA λus s2 ⟨vs,H2,I2,r2,q2⟩=>hm pins s2 σ H2 x vs v us Q I2 r1 r2 q2
/- xs.append(e),list.index on a fZ3 tuple .. are DT facts of 06m -/
end
end L2
namespace L2
open PySem PySem.Spec PyProof.Rows
def MtM(X:Cx)(id:String)(r:V->List V->Hp->VK->Prop):Prop :=
 ∀(pins:List (Addr × Obj)) (s:Shared) (σ:St) (H:Hp) (x:V) (xs:List V) (v:Value) (us:List Value) (Q:VK),Inv X pins σ H s->RelV x v->Vals xs us->r x xs H Q ->
  wpAny (model X.prog X.w) X.A (call (.builtin id) (v::us)) (EP X pins σ Q) X.xe s
theorem Vals.one:∀{x:V} {us:List Value},Vals [x] us->∃u,us=[u]/\RelV x u
 | _,_,.cons r .nil=>⟨_,rfl,r⟩
theorem Vals.two:∀{x y:V} {us:List Value},Vals [x,y] us->∃u v,us=[u,v]/\RelV x u/\RelV y v
 | _,_,_,.cons r (.cons q .nil)=>⟨_,_,rfl,r,q⟩
theorem Vals.rep{xs:List V}{us:List Value}(h:Vals xs us):∀k:Nat,Vals (bo k xs).flatten (bo k us).flatten
 | 0=>.nil
 | k+1=>by
  rw[qC,qC,t9,t9]
  exact Vals.append h (Vals.rep h k)
theorem Wu(its:List Value):∀(k:Nat) (acc:List Value),
  List.foldl (λx1 x2=>x1++x2) acc.toArray (bo k its.toArray)=(acc++(bo k its).flatten).toArray
 | 0,acc=>by simp
 | k+1,acc=>by
  have e:acc.toArray++its.toArray=(acc++its).toArray:=by simp
  have e2:(acc++its)++(bo k its).flatten=acc++(bo (k+1) its).flatten:=by
   rw[qC,t9,dh]
  rw[<-e2,<- Wu its k (acc++its),<- e,qC,ua]
section
variable{X:Cx}{pins:List (Addr × Obj)}{σ:St}{H:Hp}{s:Shared}{l b:Addr}{xs ys zs:List V}
theorem Inv.dT9{its its':List Value}{n:Nat}{f:Array Value->Array Value}{t':Nat}(I:Inv X pins σ H s)(hH:H l=some (.lst xs))
  (e:s.heap.get? l=some { cls:=.type "list",data:=.seq its.toArray n }) (hf:f its.toArray=its'.toArray) (hv:Vals ys its') (hz:ys.length<=sizeLine) :
  Inv X pins σ (upd H l (.lst ys)) { s with heap:=s.heap.update l (C8 f),toks:=t' }:=by
 have q:=PySem.IsL.update e f
 rw[hf]at q
 refine I.write (x:=l) (e:=l) (by rw[hH];exact trivial) (.inl rfl) (λb' u hb hu=>(qB s.heap (C8 f) (fH hb)).trans hu) ⟨_,q⟩ ?_
 exact⟨hz,its',_,hv,q⟩
theorem Inv.Wv{its:List Value}{t':Nat}(I:Inv X pins σ H s)(hv:Vals ys its)(hz:ys.length<=sizeLine) :
  Inv X pins σ (upd H s.heap.objs.size (.lst ys)) { s with heap:=s.heap.push { cls:=.type "list",data:=.seq its.toArray },toks:=t' } :=
 I.laid (λ_ _ q=>fI _ q) (bK _) ⟨hz,its,0,hv,gJ _ rfl⟩
theorem Inv.fresh(I:Inv X pins σ H s):H s.heap.objs.size=none:=I.aL.fresh (bK _)
theorem Inv.DV(I:Inv X pins σ H s)(hH:H l=some (.lst xs)):xs.length<=sizeLine/\∃(its:List Value) (n:Nat),Vals xs its/\xs.length=its.length/\s.heap.get? l=some { cls:=.type "list",data:=.seq its.toArray n }:=by
 obtain⟨z,its,n,r,e⟩:=I.aL l _ hH
 exact⟨z,its,n,r,r.length,e⟩
theorem cm9{n:Nat}(h:n<=sizeLine):U9 n=false:=by
 unfold U9
 exact decide_eq_false (by omega)
end
section
variable{X:Cx}
def cG4:V->List V->Hp->VK->Prop:=λx vs H Q=>∃l xs y,x=.ref l/\vs=[y]/\H l=some (.lst xs)/\xs.length<sizeLine/\Q .aw (upd H l (.lst (xs++[y])))
theorem Ww:MtM X "list.append" cG4:=by
 intro pins s σ H x vs v us Q I rx rv h
 obtain⟨l,xs,y,rfl,rfl,hH,hz,q⟩:=h
 cases rx
 obtain⟨u,rfl,ru⟩:=rv.one
 obtain⟨z,its,n,r,hl,e⟩:=I.DV hH
 refine call_meets F.slot_list_append ⟨_,e,rfl⟩ F.entry_list_append (F.args_list_append_2 _ _) (PySem.list_append l its.toArray n u (by rw[dO];omega)) ⟨e,?_⟩
 refine⟨.aw,_,I.dT9 (its':=its++[u]) hH e (by simp) (r.append (.cons ru .nil)) ?_,rfl,q⟩
 rw[dN,lM]
 omega
def c01:R2:=λx y H Q=>∃l b xs zs,x=.ref l/\y=.ref b/\H l=some (.lst xs)/\H b=some (.lst zs)/\xs.length+zs.length<=sizeLine/\∀p,H p=none->Q (.ref p) (upd H p (.lst (xs++zs)))
theorem Wx:cQ X (binaryOp .Add) c01:=by
 intro pins s σ H x y v u Q I rx ry h
 obtain⟨l,b,xs,zs,rfl,rfl,hH,hB,hz,q⟩:=h
 cases rx
 cases ry
 obtain⟨z,its,n,r,hl,e⟩:=I.DV hH
 obtain⟨z2,Wy,n2,r2,DW,e2⟩:=I.DV hB
 refine PySem.P.add_list e e2 ?_ (by rw[dO,dO];omega)
 have ea:its.toArray++Wy.toArray=(its++Wy).toArray:=by simp
 rw[ea]
 exact⟨.ref _,_,I.Wv (t':=s.toks) (r.append r2) (by rw[dN];omega),rfl,q _ I.fresh⟩
def c77:R2:=λx y H Q=>∃l k xs,x=.ref l/\y=.int k/\H l=some (.lst xs)/\-(2 ^ 63)<=k/\k<2 ^ 63/\xs.length*k.toNat<=sizeLine /\
 ∀p,H p=none->Q (.ref p) (upd H p (.lst (bo k.toNat xs).flatten))
theorem cD6{α:Type}(xs:List α)(k:Nat):(bo k xs).flatten.length=k*xs.length:=by
 induction k with
 | zero=>simp
 | succ k ih=>rw[qC,t9,dN,ih,Nat.succ_mul,Va]
theorem cQ5:cQ X (binaryOp .Mult) c77:=by
 intro pins s σ H x y v u Q I rx ry h
 obtain⟨l,k,xs,rfl,rfl,hH,h1,h2,hz,q⟩:=h
 cases rx
 obtain⟨t,rfl⟩:=ry
 obtain⟨z,its,n,r,hl,e⟩:=I.DV hH
 have hlen:its.toArray.size*k.toNat<=sizeLine:=by rw[dO,<- hl];exact hz
 have dU6:¬ its.toArray.size*k.toNat>(2 ^ 63-1)/8:=by
  have:(sizeLine:Nat)<=(2 ^ 63-1)/8:=by decide
  omega
 have dU7:¬ (!Builtin.List.listFitsIndex k)=true:=by
  rw[fitsIndex_both h1 h2]
  exact i5
 have dU8:¬ U9 (its.toArray.size*k.toNat)=true:=by
  rw[cm9 hlen]
  exact i5
 have dU9:List.foldl (λx1 x2=>x1++x2) #[] (bo (if its.toArray.isEmpty=true then 0 else k.toNat) its.toArray)=(bo k.toNat its).flatten.toArray:=by
  have f0:∀m:Nat,List.foldl (λx1 x2=>x1++x2) #[] (bo m its.toArray)=(bo m its).flatten.toArray:=λm=>by
   have:=Wu its m []
   rw[ub]at this
   exact this
  rw[f0]
  cases its with
  | nil=>simp
  | cons a r'=>rw[if_neg (by simp)]
 refine wpAny_binaryOp_repeat_ref (T:="list") (U:="int") (by decide) ⟨_,e,rfl⟩ (λs'=>typeIs_int s' k t) noFill_list_mul F.fills_int_mul F.slot_int_rmul repeat_list F.slot_int_index.lookup
  (call_meets F.slot_int_rmul (typeIs_int s k t) F.entry_int_rmul (F.args_int_rmul_2 _ _) (int___rmul___int_list k t l its.toArray n)
   ⟨e,rfl,⟨_,e,rfl⟩,call_meets F.slot_list_mul ⟨_,e,rfl⟩ F.entry_list_mul (F.args_list_mul_2 _ _) (AutoListH.list___mul___list_int_3 l its.toArray n k t dU7 dU6 dU8) ⟨e,?_⟩⟩)
 rw[dU9]
 exact⟨.ref _,_,I.Wv (t':=s.toks) (r.rep k.toNat) (by rw[cD6,m4];exact hz),rfl,q _ I.fresh⟩
end
section
variable{prog:Program}{w:World}{A:Around}{E:Value->Shared->Prop}{s:Shared}
end
section
variable{X:Cx}
end
end L2
namespace Att
open PySem PySem.W PySem.Calls PyProof.Rows
theorem bA7{P:Params}{h:Heap}:∀(ns:List Int) (vs:List Value),WellAll P h vs (ns.map WData.int)->IntsAre vs ns:=by
 intro ns
 induction ns with
 | nil =>
  intro vs w
  rw[jX]at w
  cases w
  exact .nil
 | cons n ns ih =>
  intro vs w
  rw[dv]at w
  cases w with
  | cons a b =>
   cases a
   exact .cons _ _ (ih _ b)
theorem cc3{l:OpenLaw}{n:Nat}(hn:l.most=some n){P:Params}{h:Heap}{args:List WData}{vals:List Value}
  (DX:l.row.toRowW.claim.pre args=true) (JH:WellAll P h vals args) :
  ∃a vs ns,vals=[cZ a]/\args=[WData.list (ns.map WData.int)]/\h.get? a=some { cls:=.type "list",data:=.seq vs.toArray }/\IntsAre vs ns/\ns.length<=n:=by
 have zT:WShape.hasAll [] args [.list .int]=true:=(pre_splitW DX).1
 have hc:l.pre.holds [] { args:=args }=true:=(pre_splitW DX).2
 obtain⟨d,r,rfl,h1,h2⟩:=hasAllW_cons zT
 obtain rfl:=hasAllW_nil h2
 obtain⟨xs,rfl,h3⟩:=hasW_list h1
 obtain⟨ns,rfl⟩:=items_int h3
 have hlen:ns.length<=n:=by
  unfold OpenLaw.pre at hc
  have h4:(WTm.not (.lt (.lit (.int (n:Int))) (.len (.arg 0)))).holds [] { args:=[.list (ns.map .int)] }=true:=by
   have h4:=(holds_andW hc).1
   rw[hn]at h4
   exact h4
  have h5:=condW_of h4 (w_not (w_lt w_lit (w_len_list (w_arg rfl))))
  rw[bA]at h5
  refine Nat.le_of_not_lt λq=>?_
  have q':(n:Int)<((ns.length:Nat):Int):=by omega
  first
   | (rw[decide_eq_true q']at h5;exact absurd h5 (by decide))
   | (simp at h5;omega)
 cases JH with
 | cons w1 w2 =>
  cases w2
  cases w1 with
  | list ho dV2=>exact⟨_,_,ns,rfl,rfl,ho,bA7 ns _ dV2,hlen⟩
theorem ci3(l:OpenLaw)(args:List WData):l.row.toRowW.claim.post args (.bool true) args=true :=
 postW_of (r:=l.row.toRowW) (X:=(true==true))
  (show WShape.has [] (.bool true) .bool=true by first | rfl | decide | simp[WShape.has,WShape.arms,WShape.armsAll])
  (show(WTm.eq .res (.lit (.bool true))).value [] { args:=args,res:=some (.bool true),after:=args }=some (.bool (true==true)) from w_eq_bool (w_res rfl) w_lit) rfl
theorem dV4{l:OpenLaw}{n:Nat}{q:Program}{loose:List Str}{XP:(Str->Option Value)->Heap->Prop}{YP:World->Heap->Prop}{d:DefRec}
  (hn:l.most=some n) (zU:d.params.defaults=[])
  (call:∀(w:World) (cP bG:Shared) (mg mb:Str->Option Value) (fa:Addr) (o:Obj) (pm cd doc:Value) (a:Addr) (vs:List Value) (ns:List Int),
   Ground q loose [] XP w cP mg mb bG.heap->YP w bG.heap ->
   bG.heap.get? fa=some o->o.data=.func (docDef d.name d.params d.body d.scope pm cd doc)->bG.heap.CodeRec cd d.name->mg d.name=some (.ref fa) ->
   bG.heap.get? a=some { cls:=.type "list",data:=.seq vs.toArray }->IntsAre vs ns->ns.length<=n->bG.gens=#[] ->
   codeAny (model l.prog w) callerA (.call (.ref fa) ⟨[.ref a],[]⟩) (λr s'=>r=.ok (.ret (.bool true))/\OldK bG.heap s'.heap/\s'.os=bG.os/\AllBare s'.gens) bG) :
  WalkO q loose XP YP l.row.toRowW d [] (λf vs=>PySem.call f vs):=by
 intro w cP bG mg mb G Y fa o pm cd doc dV kV ho hd cJ hD zV hg args vals as DX fZ4 hrd JH fc
 obtain rfl:dV=.none:=Dflts.none hD zU
 obtain rfl:kV=.none:=Dflts.noKw hD
 obtain⟨a,vs,ns,rfl,rfl,JI,hints,hlen⟩:=cc3 hn DX JH
 refine enter_call (codeAny_mono (call w cP bG mg mb fa o pm cd doc a vs ns G Y ho (fd_plain hd) cJ zV JI hints hlen hg) λr s' hq=>?_)
 obtain⟨rfl,h2,h3,h4⟩:=hq
 exact⟨.inl ⟨.bool true,.bool true,[],rfl,λ_=>rfl,.bool true,ci3 l _,λ_=>⟨Vb,λ_ hm=>(nomatch hm)⟩⟩,h2,h3,h4⟩
section
variable{prog:Program}{w:World}{A:Around}{E:Value->Shared->Prop}{s:Shared}{K:Frag}
end
end Att
namespace L2
open PySem PySem.Spec PyProof.Rows
theorem Wz:∀{vs:List Value} {ns:List Int},IntsAre vs ns->Vals (ns.map V.int) vs
 | _,_,.nil=>.nil
 | _,_,.cons n t h=>.cons ⟨t,rfl⟩ (Wz h)
end L2
namespace L2
open PySem PySem.Spec PyProof.Rows
end L2
/- THE fZ7 fZ8 (shape;LID,My.* are f00):
   My.eX: a structure of WA addresses f01 f02 f03 names (classes,f04);My.Txt K t: a structure (Prop) of WA equations over K;
   My.f05:{K} {implicit addresses ..} (e1:nsIn K mainGlobals "law"=some (some (.ref f))) (e2:K.lookup f=some ⟨oc,od,.func (fnOf "law" "law" params body scope dV kV doc pm an aD ct),sl⟩) (e3:codeIn K aD "law"=true) ..:∃t,My.Txt K t
(WA tactic k_is has no namespace: write k_is) -/
namespace L2
open PySem PySem.Spec PyProof.Rows
def eD(s:Stmt)(j:Nat):Stmt:=match s with
 | .ClassDef _ _ _ body _ _ _ _ _ _ _=>body.getD j (.Pass ⟨0,0,0,0⟩)
 | _=>.Pass ⟨0,0,0,0⟩
def aY(s:Stmt):Arguments:=match s with
 | .FunctionDef _ a _ _ _ _ _ _ _ _=>a
 | _=>{ posonlyargs:=[],args:=[],vararg:=none,kwonlyargs:=[],kw_defaults:=[],kwarg:=none,defaults:=[] }
def aQ(s:Stmt):List Stmt:=match s with
 | .FunctionDef _ _ b _ _ _ _ _ _ _=>b
 | _=>[]
def au(s:Stmt):Scope:=match s with
 | .FunctionDef _ _ _ _ _ _ sc _ _ _=>sc
 | _=>{ kind:=.function,names:=[],isGenerator:=false,isCoroutine:=false }
abbrev aR:eW:=λ_ _ _ _ _ _=>False
abbrev E0:XK:=λ_ _ _=>False
theorem aV{X:Cx}:j9 aR X E0:=λ_ _ _ _ _ _ _ h=>h.elim
structure bg(K:PySem.W.Frag)(x qual:Str)(st:Stmt)(f:Addr)(fd:FuncData):Prop where
 ex:∃(oc:Value) (od:Option Addr) (kV doc pm:Value) (an:Option Addr) (aD ct:Value) (ik:Array (Option Value)),
  fd=PySem.W.fnOf x qual (aY st) (aQ st) (au st) .none kV doc pm an aD ct/\K.lookup f=some ⟨oc,od,.func fd,ik⟩/\PySem.W.codeIn K aD qual=true
 kp:PySem.W.keepIn K (.ref f)=true
section
variable{P:Program}{w:World}{K:PySem.W.Frag}{mg:Str->Option Value}{base:Heap}
theorem bg.ok{x qual:Str}{st:Stmt}{f:Addr}{fd:FuncData}{N ps:List Str}{k:Nat}{sp:Sp}(F:bg K x qual st f fd)(S:bj N ps (au st))(len:∀vs H Q E,sp vs H Q E->vs.length=ps.length)
  (g8:∀(aD:Value) (A:Around) (outer:List Env) (s:Shared) (H:Hp) (vs:List V) (Q:VK) (E:XK),cj k (A.deeper (envOfC qual (au st) s.heap.objs.size f aD))->sp vs H Q E ->
   ∃t,PSs (iM aR P w K mg base N qual (au st) f aD A outer s H E).gu (aQ st) t/\t { nx:=λ_ H'=>Q .aw H',rt:=Q } (start N vs) H):aN P w K mg base aR (k+1) f fd ps sp:=by
 obtain⟨oc,od,kV,doc,pm,an,aD,ct,ik,rfl,lk,cJ⟩:=F.ex
 refine DR lk cJ S len λA outer s H vs Q E hr iq=>?_
 obtain⟨t,h,q⟩:=g8 aD A outer s H vs Q E hr iq
 exact⟨t,h.gu,q⟩
theorem bg.binds{x qual:Str}{st:Stmt}{f:Addr}{fd:FuncData}{ps:List Str}(F:bg K x qual st f fd)
  (h:∀(kV doc pm:Value) (an:Option Addr) (aD ct:Value) (us:List Value),us.length=ps.length->bindArgs (PySem.W.fnOf x qual (aY st) (aQ st) (au st) .none kV doc pm an aD ct) ⟨us,[]⟩=pure (ps.zip us)):Binds K fd ps []:=by
 obtain⟨oc,od,kV,doc,pm,an,aD,ct,ik,rfl,lk,cJ⟩:=F.ex
 exact .all (h kV doc pm an aD ct)
theorem bu{x qual:Str}{st:Stmt}{f:Addr}{oc:Value}{od an:Option Addr}{ik:Array (Option Value)}{kV doc pm aD ct:Value}(l:K.lookup f=some ⟨oc,od,.func (PySem.W.fnOf x qual (aY st) (aQ st) (au st) .none kV doc pm an aD ct),ik⟩)
  (c:PySem.W.codeIn K aD qual=true) (k:PySem.W.keepIn K (.ref f)=true):bg K x qual st f (PySem.W.fnOf x qual (aY st) (aQ st) (au st) .none kV doc pm an aD ct):=⟨⟨oc,od,kV,doc,pm,an,aD,ct,ik,rfl,l,c⟩,k⟩
end
section
variable{X:Cx}
theorem pv(i:Nat){x:Str}{pos:Pos}(hN:X.N[i]?=some x:=by rfl)(hv:lW X.env.scope x:=by first | exact ai rfl | exact aW (ai rfl) | exact aW (aW rfl))(hd:(x==("__debug__":Str))=false:=by decide)
  (cJ:(x==("__classdict__":Str))=false:=by decide):PE X (.Name x pos) (VP i):=qM hN hv hd cJ
end
theorem jh{A B:Prop}(h:B):if false=true then A else B:=by
 rw[if_neg i5]
 exact h
theorem q8{A B:Prop}(h:A):if true=true then A else B:=by
 rw[if_pos rfl]
 exact h
end L2
namespace Mf
def bl(n:Nat):Nat:=if n=0 then 0 else n.log2+1
theorem ff{n m:Nat}:bl n<=m↔n<2 ^ m:=by
 unfold bl
 by_cases h:n=0
 ·simp[h,ze]
 ·rw[if_neg h]
  rw[<-Nat.log2_lt h]
  omega
theorem JJ{n m:Nat}:m<bl n↔2 ^ m<=n:=by
 have:=@ff n m
 omega
theorem ji(n:Nat):n<2 ^ bl n:=ff.mp (bK _)
theorem WB{n:Nat}(h:n≠0):2 ^ (bl n-1)<=n:=by
 have:0<bl n:=by unfold bl;rw[if_neg h];omega
 exact JJ.mp (by omega)
theorem iu{n:Nat}(h:n≠0):0<bl n:=by
 unfold bl;rw[if_neg h];omega
theorem nH:bl 0=0:=rfl
theorem uD{n:Nat}(h:n≠0):n.testBit (bl n-1)=true:=by
 have h1:=WB h
 have h2:=ji n
 have hp:=iu h
 have e:bl n=(bl n-1)+1:=by omega
 rw[e,m5]at h2
 rw[dC9]
 have:n/2 ^ (bl n-1)=1:=by
  apply Nat.div_eq_of_lt_le
  ·omega
  ·omega
 rw[this];rfl
theorem bY8{x n:Nat}(h:∀i,n<=i->x.testBit i=false):x<2 ^ n:=by
 apply Nat.lt_pow_two_of_testBit
 intro i hi
 exact h i hi
theorem WC{x y n:Nat}(hx:x<2 ^ (n+1))(hy:y<2 ^ (n+1))(tx:x.testBit n=true)(ty:y.testBit n=true):x ^^^ y<2 ^ n:=by
 apply bY8
 intro i hi
 rw[m6]
 by_cases e:i=n
 ·rw[e,tx,ty];rfl
 ·have gK:n+1<=i:=by omega
  have p:2 ^ (n+1)<=2 ^ i:=zf (by decide) gK
  rw[IB (du hx p),IB (du hy p)]
  rfl
theorem WD(x y z:Nat):(x ^^^ y) ^^^ (z ^^^ y)=x ^^^ z:=by
 apply C9;intro i;simp only[m6]
 cases x.testBit i<;>cases y.testBit i<;>cases z.testBit i<;>rfl
theorem WE(x y z t:Nat):(x ^^^ y) ^^^ (z ^^^ t)=(x ^^^ z) ^^^ (y ^^^ t):=by
 apply C9;intro i;simp only[m6]
 cases x.testBit i<;>cases y.testBit i<;>cases z.testBit i<;>cases t.testBit i<;>rfl
def P(a b:Nat):Nat->Nat
 | 0=>0
 | k+1=>P a b k ^^^ (if b.testBit k then a <<< k else 0)
def cl(a b:Nat):Nat:=P a b (bl b)
theorem WG{a b k:Nat}(h:b<2 ^ k):∀j,P a b (k+j)=P a b k
 | 0=>rfl
 | j+1=>by
  show P a b (k+j) ^^^ (if b.testBit (k+j)then a <<< (k+j)else 0)=_
  rw[WG h j]
  have p:2 ^ k<=2 ^ (k+j):=zf (by decide) (by omega)
  rw[IB (du h p)]
  simp
theorem uE{a b k:Nat}(h:b<2 ^ k):P a b k=cl a b:=by
 have h1:=ff.mpr h
 have e:k=bl b+(k-bl b):=by omega
 rw[e,WG (ji b)]
 rfl
theorem WH(a a' b:Nat):∀k,P (a ^^^ a') b k=P a b k ^^^ P a' b k
 | 0=>(lN 0).symm
 | k+1=>by
  show P (a ^^^ a') b k ^^^ _=(P a b k ^^^ _) ^^^ (P a' b k ^^^ _)
  rw[WH a a' b k]
  by_cases t:b.testBit k=true
  ·rw[if_pos t,if_pos t,if_pos t,dD0]
   ac_rfl
  ·rw[if_neg t,if_neg t,if_neg t]
   simp
theorem WI(a b b':Nat):∀k,P a (b ^^^ b') k=P a b k ^^^ P a b' k
 | 0=>(lN 0).symm
 | k+1=>by
  show P a (b ^^^ b') k ^^^ _=(P a b k ^^^ _) ^^^ (P a b' k ^^^ _)
  rw[WI a b b' k,m6]
  cases b.testBit k<;>cases b'.testBit k<;>simp
  ·ac_rfl
  ·ac_rfl
  ·exact(WD _ _ _).symm
theorem oW(a a' b:Nat):cl (a ^^^ a') b=cl a b ^^^ cl a' b:=WH a a' b _
theorem uF{x y n:Nat}(hx:x<2 ^ n)(hy:y<2 ^ n):x ^^^ y<2 ^ n:=Nat.xor_lt_two_pow hx hy
theorem bP5(a b b':Nat):cl a (b ^^^ b')=cl a b ^^^ cl a b':=by
 let k:=bl b+bl b'
 have h1:b<2 ^ k:=ff.mp (by omega)
 have h2:b'<2 ^ k:=ff.mp (by omega)
 rw[<-uE (uF h1 h2),<- uE h1,<- uE h2,WI]
theorem cC1(a:Nat):cl a 0=0:=rfl
theorem WJ(b:Nat):∀k,P 0 b k=0
 | 0=>rfl
 | k+1=>by
  show P 0 b k ^^^ _=0
  rw[WJ b k];simp
theorem oX(b:Nat):cl 0 b=0:=WJ b _
theorem bO8(b k:Nat):(b/2).testBit k=b.testBit (k+1):=by
 rw[IC]
theorem WK(a b:Nat):∀k,P a b (k+1)=(if b%2=1 then a else 0) ^^^ P (2*a) (b/2) k
 | 0=>by
  show 0 ^^^ _=_ ^^^ 0
  rw[oJ,lN,Dc]
  simp
 | k+1=>by
  show P a b (k+1) ^^^ _=_ ^^^ (P (2*a) (b/2) k ^^^ _)
  rw[WK a b k,bO8,qD]
  have e:a <<< (k+1)=(2*a) <<< k:=by
   rw[kC,kC,m5]
   rw[m4 2 a,ud,m4 2]
  rw[e]
theorem WL{b k:Nat}(h:b<2 ^ (k+1)):b/2<2 ^ k:=by
 rw[m5]at h;omega
theorem WM(a b:Nat):cl a b=(if b%2=1 then a else 0) ^^^ cl (2*a) (b/2):=by
 have h:b<2 ^ (bl b+1):=Nat.lt_trans (ji b) (by rw[m5];have:=ze (bl b);omega)
 rw[<-uE h,WK,uE (WL h)]
theorem WN(a b:Nat):∀k,P (2*a) b k=2*P a b k
 | 0=>rfl
 | k+1=>by
  show P (2*a) b k ^^^ _=2*(P a b k ^^^ _)
  rw[WN a b k]
  have d:∀x y:Nat,2*(x ^^^ y)=2*x ^^^ 2*y:=by
   intro x y
   have h:=@dD0 1 x y
   rw[kC,kC,kC,Nat.pow_one]at h
   rw[m4 2 (x ^^^ y),m4 2 x,m4 2 y]
   exact h
  rw[d]
  by_cases t:b.testBit k=true
  ·rw[if_pos t,if_pos t,kC,kC,ud]
  ·rw[if_neg t,if_neg t]
theorem JK(a b:Nat):cl (2*a) b=2*cl a b:=WN a b _
theorem zW(a c t:Nat)(ht:t<2):cl a (2*c+t)=2*cl a c ^^^ (if t=1 then a else 0):=by
 rw[WM,JK,Vc]
 have e1:(2*c+t)/2=c:=by omega
 have e2:(2*c+t)%2=t:=by omega
 rw[e1,e2]
theorem cP0(a c:Nat):cl a (2*c)=2*cl a c:=by
 have h:=zW a c 0 (by decide)
 simpa using h
theorem WO(c t:Nat)(ht:t<2):2*c ^^^ t=2*c+t:=by
 apply C9
 intro i
 cases i with
 | zero =>
  rw[m6,Dc,Dc,Dc]
  have:t=0\/t=1:=by omega
  rcases this with h | h<;>subst h<;>simp<;>omega
 | succ i =>
  rw[m6,IC,IC,IC]
  have e1:2*c/2=c:=by omega
  have e2:t/2=0:=by omega
  have e3:(2*c+t)/2=c:=by omega
  rw[e1,e2,e3];simp
theorem JL:∀b:Nat,cl 1 b=b:=by
 intro b
 induction b using ID with
 | ind b ih =>
  by_cases h:b=0
  ·subst h;rfl
  ·have e:b=2*(b/2)+b%2:=by omega
   rw[e,zW 1 (b/2) (b%2) (by omega),ih (b/2) (by omega)]
   have:b%2=0\/b%2=1:=by omega
   rcases this with h | h
   ·rw[h];simp
   ·rw[h];rw[if_pos rfl];exact WO _ _ (by decide)
theorem zX:∀b a:Nat,cl a b=cl b a:=by
 intro b
 induction b using ID with
 | ind b ih =>
  intro a
  by_cases h:b=0
  ·subst h;rw[oX];rfl
  ·have e:b=2*(b/2)+b%2:=by omega
   have lt:b%2<2:=by omega
   have e':cl b a=cl (2*(b/2) ^^^ b%2) a:=by rw[WO _ _ lt,<- e]
   rw[e',oW,JK,<- ih (b/2) (by omega) a]
   have e'':cl a b=cl a (2*(b/2)+b%2):=by rw[<-e]
   rw[e'',zW _ _ _ lt]
   have:b%2=0\/b%2=1:=by omega
   rcases this with h | h
   ·rw[h,oX];rfl
   ·rw[h,JL];rfl
theorem JM{a m:Nat}(h:a<2 ^ m)(b:Nat):∀k,P a b (k+1)<2 ^ (m+k)
 | 0=>by
  show 0 ^^^ _<_
  rw[oJ,Nat.add_zero]
  by_cases t:b.testBit 0=true
  ·rw[if_pos t];simpa using h
  ·rw[if_neg t];exact ze m
 | k+1=>by
  show P a b (k+1) ^^^ _<_
  have i:=JM h b k
  have p:2 ^ (m+k)<=2 ^ (m+(k+1)):=zf (by decide) (by omega)
  apply uF (du i p)
  by_cases t:b.testBit (k+1)=true
  ·rw[if_pos t,kC,Nat.pow_add 2 m]
   exact(dD1 (ze _)).mpr h
  ·rw[if_neg t];exact ze _
theorem cU6{a b m n:Nat}(h:a<2 ^ m)(h':b<2 ^ (n+1)):cl a b<2 ^ (m+n):=by
 rw[<-uE h'];exact JM h b n
theorem cW5{a b:Nat}(ha:a≠0)(hb:b≠0):2 ^ (bl a-1+(bl b-1))<=cl a b:=by
 have e:bl b=(bl b-1)+1:=by have:=iu hb;omega
 have ta:=uD ha
 have tb:=uD hb
 apply Nat.ge_two_pow_of_testBit
 unfold cl
 rw[e]
 show(P a b (bl b-1) ^^^ _).testBit _=true
 have e2:bl b-1+1-1=bl b-1:=by omega
 rw[e2,m6,if_pos tb]
 have f:(P a b (bl b-1)).testBit (bl a-1+(bl b-1))=false:=by
  cases q:bl b-1 with
  | zero=>show Nat.testBit 0 _=false;exact Nat.zero_testBit _
  | succ k =>
   apply IB
   have l:=JM (ji a) b k
   have p:=iu ha
   have e3:bl a-1+(k+1)=bl a+k:=by omega
   rw[e3];exact l
 rw[f,dD2]
 have e4:bl a-1+(bl b-1)-(bl b-1)=bl a-1:=by omega
 rw[e4,ta]
 simp
theorem WQ{a b:Nat}(ha:a≠0)(hb:b≠0):bl (cl a b)=bl a+bl b-1:=by
 have p1:=iu ha
 have p2:=iu hb
 have h1:bl (cl a b)<=bl a+(bl b-1):=ff.mpr (cU6 (ji a) (by
  have e:bl b-1+1=bl b:=by omega
  rw[e];exact ji b))
 have h2:=JJ.mpr (cW5 ha hb)
 omega
theorem WR(s b:Nat):cl (2 ^ s) b=b <<< s:=by
 induction s with
 | zero=>rw[Nat.pow_zero,JL];rfl
 | succ s ih =>
  rw[m5,m4,JK,ih,kC,kC,m5]
  rw[<-ud,m4 2,ud,m4 2,<- ud,ud]
theorem cm6{a q b r s:Nat}(h:a=cl q b ^^^ r):a=cl (q ^^^ 2 ^ s) b ^^^ (r ^^^ b <<< s):=by
 rw[oW,WR,h,WD]
theorem WS{b r:Nat}(hb:b≠0)(h:bl b<=bl r):bl (r ^^^ b <<< (bl r-bl b))<bl r:=by
 have p:=iu hb
 have hr:r≠0:=by
  intro z;rw[z,nH]at h;omega
 have:r ^^^ b <<< (bl r-bl b)<2 ^ (bl r-1):=by
  apply WC
  ·have e:bl r-1+1=bl r:=by omega
   rw[e];exact ji r
  ·have e:bl r-1+1=bl b+(bl r-bl b):=by omega
   rw[e,kC,Nat.pow_add]
   exact(dD1 (ze _)).mpr (ji b)
  ·exact uD hr
  ·rw[dD2]
   have e:bl r-1-(bl r-bl b)=bl b-1:=by omega
   rw[e,uD hb]
   simp;omega
 have:=ff.mpr this
 omega
theorem bZ9{x y z:Nat}(h:x ^^^ y=z):x=z ^^^ y:=by
 rw[<-h,qD,De,lN]
theorem JN{x y:Nat}(h:x ^^^ y=0):x=y:=by
 have:=bZ9 h
 rwa [oJ]at this
theorem bY3{b q r q' r':Nat}(h:cl q b ^^^ r=cl q' b ^^^ r')(hr:bl r<bl b)(bx:bl r'<bl b):q=q'/\r=r':=by
 have hb:b≠0:=by intro z;rw[z,nH]at hr;omega
 have e:cl (q ^^^ q') b=r ^^^ r':=by
  rw[oW]
  have z:(cl q b ^^^ r) ^^^ (cl q' b ^^^ r')=0:=by rw[h,De]
  rw[WE]at z
  exact JN z
 have lt:bl (r ^^^ r')<bl b:=by
  have h1:r<2 ^ (bl b-1):=ff.mp (by omega)
  have h2:r'<2 ^ (bl b-1):=ff.mp (by omega)
  have:=ff.mpr (uF h1 h2)
  have:=iu hb
  omega
 have z:q ^^^ q'=0:=by
  apply IE
  intro hq
  have h1:=WQ hq hb
  have h2:=iu hq
  rw[e]at h1
  omega
 have zq:=JN z
 subst zq
 rw[z,oX]at e
 exact⟨rfl,JN e.symm⟩
end Mf
namespace Mf
open PySem PySem.Builtin.Int
theorem cF4(x y:Nat):(x ^^^ y)+2*(x &&& y)=x+y:=by
 induction x using ID generalizing y with
 | ind x ih =>
  by_cases h:x=0
  ·subst h;simp
  ·have h1:=ih (x/2) (by omega) (y/2)
   have e1:(x ^^^ y)/2=x/2 ^^^ y/2:=Nat.xor_div_two
   have e2:(x &&& y)/2=x/2 &&& y/2:=Nat.and_div_two
   have t:∀n:Nat,n%2=if n.testBit 0=true then 1 else 0:=by
    intro n
    rw[Dc]
    by_cases h:n%2=1
    ·simp[h]
    ·simp[h];omega
   have m1:(x ^^^ y)%2=(x%2+y%2)%2:=by
    rw[t (x ^^^ y),t x,t y,m6]
    cases x.testBit 0<;>cases y.testBit 0<;>rfl
   have m2:(x &&& y)%2=x%2*(y%2):=by
    rw[t (x &&& y),t x,t y,Vd]
    cases x.testBit 0<;>cases y.testBit 0<;>rfl
   have d1:=Nat.div_add_mod (x ^^^ y) 2
   have d2:=Nat.div_add_mod (x &&& y) 2
   rw[e1]at d1
   rw[e2]at d2
   have hx:x%2=0\/x%2=1:=by omega
   have hy:y%2=0\/y%2=1:=by omega
   rcases hx with hx | hx<;>rcases hy with hy | hy<;>rw[hx,hy]at m1 m2<;>omega
theorem WT{x y:Int}(hx:0<=x)(hy:0<=y):oH x y=((x.toNat &&& y.toNat:Nat):Int):=by
 unfold oH
 rw[decide_eq_true hx,decide_eq_true hy]
theorem cp7{x y:Int}(hx:0<=x)(hy:0<=y):Builtin.bitOr x y=((x.toNat ||| y.toNat:Nat):Int):=by
 unfold Builtin.bitOr oH Builtin.bitNot
 rw[decide_eq_false (by omega),decide_eq_false (by omega)]
 show-(-((((- (-x-1)-1).toNat ||| (-(-y-1)-1).toNat:Nat):Int))-1)-1=_
 have e1:(- (-x-1)-1).toNat=x.toNat:=by omega
 have e2:(- (-y-1)-1).toNat=y.toNat:=by omega
 rw[e1,e2]
 omega
theorem cL6(x y:Nat):(x ||| y)=(x ^^^ y)+(x &&& y):=by
 have d:(x ^^^ y) &&& (x &&& y)=0:=by
  apply C9;intro i
  simp only[m6,Vd,Nat.zero_testBit]
  cases x.testBit i<;>cases y.testBit i<;>rfl
 have e:(x ||| y)=(x ^^^ y) ^^^ (x &&& y):=by
  apply C9;intro i
  simp only[m6,Vd,Nat.testBit_or]
  cases x.testBit i<;>cases y.testBit i<;>rfl
 have h:=cF4 (x ^^^ y) (x &&& y)
 rw[d]at h
 rw[e];omega
theorem b98{x y:Int}(hx:0<=x)(hy:0<=y):oI x y=((x.toNat ^^^ y.toNat:Nat):Int):=by
 unfold oI
 rw[cp7 hx hy,WT hx hy,cL6]
 omega
theorem nI(x y:Nat):oI (x:Int) (y:Int)=((x ^^^ y:Nat):Int):=by
 rw[b98 (by omega) (by omega)];rfl
theorem WU(x y:Nat):oH (x:Int) (y:Int)=((x &&& y:Nat):Int):=by
 rw[WT (by omega) (by omega)];rfl
theorem uG(x k:Nat):(x:Int)*2 ^ ((k:Int)).toNat=((x <<< k:Nat):Int):=by
 rw[kC]
 simp
theorem cB1(x k:Nat):(x:Int)/2 ^ ((k:Int)).toNat=((x >>> k:Nat):Int):=by
 rw[dD3]
 simp
theorem cE6(x k:Nat):((x >>> k) &&& 1=1)↔x.testBit k=true:=by
 rw[dC9,dD3]
 have:(x/2 ^ k) &&& 1=(x/2 ^ k)%2:=Nat.and_two_pow_sub_one_eq_mod _ 1
 rw[this]
 simp
end Mf
namespace Mf
end Mf
namespace Mf
theorem WV(a b:Nat):∀c,cl (cl a b) c=cl a (cl b c):=by
 intro c
 induction c using ID with
 | ind c ih =>
  by_cases h:c=0
  ·subst h;rfl
  ·have e:c=2*(c/2)+c%2:=by omega
   have lt:c%2<2:=by omega
   have i:=ih (c/2) (by omega)
   rw[e,zW _ _ _ lt,zW _ _ _ lt,i,bP5,cP0]
   have:c%2=0\/c%2=1:=by omega
   rcases this with h | h
   ·rw[h];rfl
   ·rw[h];rfl
def uH:Nat->Nat->Nat->Nat
 | 0,a,_=>a
 | n+1,a,b=>if bl a<bl b then a else uH n (a ^^^ b <<< (bl a-bl b)) b
def md(a b:Nat):Nat:=uH (bl a+1) a b
theorem WW{b:Nat}(hb:b≠0):∀n a,bl a<n->(∃q,a=cl q b ^^^ uH n a b)/\bl (uH n a b)<bl b
 | 0,_,h=>absurd h (by omega)
 | n+1,a,h=>by
  unfold uH
  by_cases l:bl a<bl b
  ·rw[if_pos l]
   exact⟨⟨0,by rw[oX,oJ]⟩,l⟩
  ·rw[if_neg l]
   have less:=WS hb (show bl b<=bl a by omega)
   obtain⟨⟨q,e⟩,l2⟩:=WW hb n (a ^^^ b <<< (bl a-bl b)) (by omega)
   refine⟨⟨q ^^^ 2 ^ (bl a-bl b),?_⟩,l2⟩
   rw[oW,WR]
   have e2:a=(a ^^^ b <<< (bl a-bl b)) ^^^ b <<< (bl a-bl b):=by rw[qD,De,lN]
   rw[e]at e2
   refine e2.trans ?_
   generalize uH n _ b=r
   rw[qD,Vc r,<- qD]
theorem zY{b:Nat}(hb:b≠0)(a:Nat):(∃q,a=cl q b ^^^ md a b)/\bl (md a b)<bl b:=WW hb _ a (by omega)
theorem zZ{a b q r:Nat}(h:a=cl q b ^^^ r)(hr:bl r<bl b):md a b=r:=by
 have hb:b≠0:=by intro z;rw[z,nH]at hr;omega
 obtain⟨⟨q',e⟩,l⟩:=zY hb a
 exact(bY3 (e.symm.trans h) l hr).2
theorem cW7(q:Nat){b:Nat}(hb:b≠0):md (cl q b) b=0 :=
 zZ (q:=q) (by rw[lN]) (by rw[nH];exact iu hb)
end Mf
namespace Mf
theorem cF0(y:Nat):bl (y/2)=bl y-1:=by
 by_cases h:y=0
 ·subst h;rfl
 ·have p:=iu h
  have h1:bl (y/2)<=bl y-1:=ff.mpr (WL (by
   have e:bl y-1+1=bl y:=by omega
   rw[e];exact ji y))
  have h2:bl y<=bl (y/2)+1:=ff.mpr (by
   have:=ji (y/2)
   rw[m5];omega)
  omega
theorem cO9(x:Nat):bl (2*x)<=bl x+1:=ff.mpr (by
 have:=ji x
 rw[m5];omega)
theorem JO{x y:Nat}(h:x<=y):bl x<=bl y:=ff.mpr (m8 h (ji y))
end Mf
namespace Mf
def al(a:Nat):Bool:=decide (2<=a)&&(aM (2 ^ ((bl a-1)/2+1)-2)).all λi=>md a (2+i) != 0
theorem cm7{a:Nat}(h:a<2):al a=false:=by
 unfold al;rw[decide_eq_false (by omega)];rfl
theorem cy2{a:Nat}(h:2<=a)(k:∀i,i<2 ^ ((bl a-1)/2+1)-2->md a (2+i)≠0):al a=true:=by
 unfold al
 rw[decide_eq_true h,lQ,dz]
 intro i hi
 have:=k i (da.mp hi)
 simpa using this
theorem cq8{a i:Nat}(k:i<2 ^ ((bl a-1)/2+1)-2)(z:md a (2+i)=0):al a=false:=by
 unfold al
 rw[Bool.and_eq_false_iff]
 right
 rw[List.all_eq_false]
 exact⟨i,da.mpr k,by simp[z]⟩
theorem cn5{a:Nat}(h:2<=a){b:Nat}(hb:b<2 ^ ((bl a-1)/2+1)):b<a/\2*bl b<=bl a+1:=by
 have h2:2<=bl a:=by
  have:=JJ.mpr (show 2 ^ 1<=a by omega)
  omega
 have l:=ff.mpr hb
 refine⟨du hb (fu (zf (by decide) ?_) (WB (by omega))),by omega⟩
 omega
end Mf
namespace L2
open PySem PySem.Spec PyProof.Rows Mf
theorem fY:bootBuiltins "len"=some (.builtin "len"):=by decide +kernel
theorem WX:bootBuiltins "isinstance"=some (.builtin "isinstance"):=by decide +kernel
theorem q9:bootBuiltins "min"=some (.builtin "min"):=by decide +kernel
theorem uI:bootBuiltins "all"=some (.builtin "all"):=by decide +kernel
theorem WY:bootBuiltins "any"=some (.builtin "any"):=by decide +kernel
theorem cS3:bootBuiltins "sum"=some (.builtin "sum"):=by decide +kernel
theorem WZ:bootBuiltins "int"=some (.type "int"):=by decide +kernel
theorem W0:bootBuiltins "bool"=some (.type "bool"):=by decide +kernel
theorem mj:bootBuiltins "list"=some (.type "list"):=by decide +kernel
section
variable{X:Cx}{a b o:Expr}{ta tb to:TE}{pos apos cw:Pos}
theorem W2(i:Int):Builtin.Int.intBits i=bl i.natAbs:=by
 unfold Builtin.Int.intBits bl
 by_cases h:i=0
 ·subst h;rfl
 ·have h':¬ i.natAbs=0:=by omega
  rw[if_neg h',if_neg (by simpa using h)]
def W3:V->List V->Hp->VK->Prop:=λx vs H Q=>∃i,x=.int i/\vs=[]/\Q (.int (bl i.natAbs:Nat)) H
theorem ca0:DT X "int.bit_length" W3:=by
 intro pins s σ H x xs v us Q I rx rs h
 obtain⟨i,rfl,rfl,q⟩:=h
 obtain⟨t,rfl⟩:=rx
 cases rs
 refine call_int_bit_length ?_
 rw[W2]
 exact⟨.int _,H,I.tok _,⟨_,rfl⟩,q⟩
theorem JP(ho:PE X o to)(nF:attributeBase o "bit_length" X.env (eval o X.env)=eval o X.env:=by rfl)(nG:(apos.endLine==cw.line)=true:=by rfl) :
  PE X (.Call (.Attribute o "bit_length" apos) [] [] cw) (Wt X.K "int" W3 to) :=
 cO8 PySem.F.plainAttrs_int PySem.F.slot_int_bit_length PySem.F.type_int_bit_length ca0 ho nF nG
def W4(i j:Int):Prop:=0<=j/\((bl i.natAbs:Nat):Int)+j<=134217728
theorem W5:cQ X (binaryOp .LShift) (rI W4 λi j=>.int (i*2 ^ j.toNat)):=zQ λi j _ _ _ _ _ hc q =>
 lshift_int hc.1 (by rw[W2];exact Int.le_trans hc.2 (by decide)) q
theorem cU1{x:Str}{n:String}(hg:Gl X x)(hm:X.mg x=none)(hv:bootBuiltins x=some (.type n))(hn:x≠"__name__":=by decide)(hd:(x==("__debug__":Str))=false:=by decide):PE X (.Name x pos) (tC (.ty n)) :=
 cB4 hg hm hv rfl hn hd
def c83(K:PySem.W.Frag):List V->Hp->VK->Prop:=λxs H Q=>∃x n t b,xs=[x,.ty n]/\ij K H x t/\PySem.W.kitOne K t (.type n)=some b/\Q (.bl b) H
theorem bB7:gv X (.builtin "isinstance") (c83 X.K):=by
 intro pins s σ H xs us Q I r h
 obtain⟨x,n,t,b,rfl,ty,e,q⟩:=h
 obtain⟨u,v,rfl,ru,rv⟩:=r.two
 cases(show v=Value.type n from rv)
 exact V7 I ru ty e λtk=>⟨.bl b,H,I.tok _,rfl,q⟩
end
theorem cA1(b i:Nat):decide (V.int (oH ((b:Int)/2 ^ ((0:Int)+(i:Int)).toNat) 1)=V.int 1)=b.testBit i:=by
 have e:((0:Int)+(i:Int)).toNat=((i:Int)).toNat:=by omega
 rw[e,cB1,show(1:Int)=((1:Nat):Int) from rfl,WU,ue,decide_eq_true_iff,<- cE6]
 constructor
 ·intro h;injection h with h;omega
 ·intro h;rw[h]
theorem co5{a b i:Nat}(h:b.testBit i=true):oI ((P a b i:Nat):Int) ((a:Int)*2 ^ ((0:Int)+(i:Int)).toNat)=((P a b (i+1):Nat):Int):=by
 have e:((0:Int)+(i:Int)).toNat=((i:Int)).toNat:=by omega
 rw[e,uG,nI]
 show _=((P a b i ^^^ (if b.testBit i then a <<< i else 0):Nat):Int)
 rw[if_pos h]
theorem bY4{a b i:Nat}(h:¬ b.testBit i=true):P a b (i+1)=P a b i:=by
 show P a b i ^^^ (if b.testBit i then a <<< i else 0)=_
 rw[if_neg h,lN]
theorem dI{i j:Int}:decide (V.int i=V.int j)=true↔i=j:=by
 rw[decide_eq_true_iff]
 exact⟨λh=>by injection h,λh=>by rw[h]⟩
end L2
namespace L2
open PySem PySem.Spec PyProof.Rows
section
variable{X:Cx}
end
end L2
namespace L2
open PySem PySem.Spec PyProof.Rows
def DY(X:Cx)(scope:Scope)(N:List Str)(cl:List (Str × Addr))(C:Addr)(s:Shared)(H:Hp)(fp:List Addr):Cx where
 prog:=X.prog
 w:=X.w
 K:=X.K
 mg:=X.mg
 base:=X.base
 A:=X.A
 N:=N
 cP:=s
 j4:=H
 env:=compEnvC scope cl C X.env
 outer:=X.stack
 stack:=X.stack
 ex:=fp
 fn:=λ_=>false
 calm:=X.calm
 pn:=[]
 xe:=λ_ _=>False
def mm(X:Cx)(scope:Scope)(cl:List (Str × Addr)):List (Str × Nat)->Prop
 | []=>True
 | (y,i)::r=>(X.N[i]?=some y/\(X.env.scope.names.lookup y=some .cell\/X.env.scope.names.lookup y=some .free)/\((relabel scope X.env).names.lookup y=some .cell\/(relabel scope X.env).names.lookup y=some .free)/\∃c,cl.lookup y=some c/\X.env.cells.lookup y=some c)/\mm X scope cl r
theorem mm.at{X:Cx}{scope:Scope}{cl:List (Str × Addr)}:∀{aE:List (Str × Nat)},mm X scope cl aE->∀p∈aE,X.N[p.2]?=some p.1/\(X.env.scope.names.lookup p.1=some .cell\/X.env.scope.names.lookup p.1=some .free)/\((relabel scope X.env).names.lookup p.1=some .cell\/(relabel scope X.env).names.lookup p.1=some .free)/\∃c,cl.lookup p.1=some c/\X.env.cells.lookup p.1=some c
 | [],_,p,hp=>absurd hp (by simp)
 | (y,i)::r,h,p,hp=>by
  rcases cz.mp hp with e | e
  ·subst e;exact h.1
  ·exact mm.at h.2 p e
def mn(Y:Cx)(ifs:List Expr)(t:TT):Prop :=
 ∀(pins:List (Addr × Obj)) (s:Shared) (σ:St) (H:Hp) (Q:Bool->Hp->Prop),Inv Y pins σ H s->t σ H Q ->
  wpAny (model Y.prog Y.w) Y.A (forIn ifs true λc r=>if r=true then do let ok<-isTrue c Y.env (eval c Y.env);pure (IF ok)else pure (IF r)) (TP Y pins σ Q) Y.xe s
def c78:TT:=λ_ H Q=>Q true H
theorem cE3{Y:Cx}:mn Y [] c78:=λ_ _ _ H _ I h=>wpAny_tests_nil ⟨H,I,h⟩
theorem cG9{Y:Cx}{c:Expr}{t:TT}(h:PT Y c t):mn Y [c] t:=λpins s σ H Q I q=>wpAny_tests_one (h pins s σ H Q I q)
section
variable{X:Cx}{elt iter:Expr}{x:Str}{px pos:Pos}{ifs:List Expr}{scope:Scope}{cl:List (Str × Addr)}{aE:List (Str × Nat)}{wi:TI}{tt:TT}{te:TE}
end
section
variable{prog:Program}{w:World}{A:Around}{R:Result->Shared->Prop}{s:Shared}
theorem bL0{elt target iter:Expr}{ifs:List Expr}{scope:Scope}{pos:Pos}{it acc:Value}{env:Env}(Iv:Nat->Shared->Prop)
  (turn:∀n s,Iv n s->wpAny (model prog w) A (pyNext it) (λr s1=>match r with
   | none=>R (.ok .next) s1
   | some v=>wpAny (model prog w) A (letOwnedTupleGo target it v) (λ_ t1=>wpAny (model prog w) A (assign target env v) (λ_ s2 =>
     wpAny (model prog w) A (forIn ifs true λc r=>if r=true then do let ok<-isTrue c env (eval c env);pure (IF ok)else pure (IF r)) (λok s3 =>
      if ok=true then wpAny (model prog w) A (eval elt env) (λy s4=>wpAny (model prog w) A (call (.builtin "list.append") [acc,y]) (λ_ s5=>∃m,m<n/\Iv m s5) (λ_ _=>False) s4) (λ_ _=>False) s3
      else ∃m,m<n/\Iv m s3) (λ_ _=>False) s2) (λ_ _=>False) t1) (λ_ _=>False) s1) (λ_ _=>False) s)
  (n:Nat) (h:Iv n s):codeAny (model prog w) A (.compLoop (.ListComp elt [⟨target,iter,ifs,0⟩] scope pos) 0 it acc env) R s:=by
 refine codeAny_loop rfl Iv (λn s hI=>?_) n h
 change wpAny _ A (Sem.onRaise (compTurn (.ListComp elt [⟨target,iter,ifs,0⟩] scope pos) 0 it acc env) λx=>do noteFrame x env;theTreesLotGoes x) _ _ s
 refine wpAny_noted (wpAny_mono (E:=λ_ _=>False) ?_ (λ_ _ q=>q) λ_ _ z=>z.elim)
 rw[compTurn_list]
 refine wpAny_bind (wpAny_standAt (wpAny_bind (aS (turn n s hI) λr s1 h1=>?_)))
 cases r with
 | none=>exact wpAny_pure h1
 | some v =>
  refine wpAny_bind (aS h1 λ_ t1 k1=>wpAny_bind (aS k1 λ_ s2 h2=>wpAny_bind (aS h2 λok s3 h3=>?_)))
  cases ok with
  | false=>exact wpAny_pure ⟨rfl,h3⟩
  | true=>exact wpAny_bind (wpAny_bind (aS h3 λy s4 h4=>wpAny_bind (aS h4 λ_ s5 h5=>wpAny_pure (wpAny_pure ⟨rfl,h5⟩))))
end
section
variable{X:Cx}{elt iter:Expr}{x:Str}{px pos:Pos}{ifs:List Expr}{scope:Scope}{cl:List (Str × Addr)}{aE:List (Str × Nat)}{wi:TI}{tt:TT}{te:TE}
end
end L2
namespace L2
open PySem PySem.Spec PyProof.Rows
section
variable{X:Cx}
theorem W6{bs:List Bool}{us:List Value}(r:Vals (bs.map V.bl) us):bs.length=us.length/\∀(i:Nat) (v:Value),us[i]?=some v->∃b,bs[i]?=some b/\v=.bool b:=by
 have l:=r.length
 rw[bA]at l
 refine⟨l,λi v e=>?_⟩
 have hi:i<us.length:=(iZ.mp e).1
 have hb:i<bs.length:=by omega
 obtain⟨u,e2,q⟩:=r.get (i:=i) (x:=V.bl bs[i]) (by rw[cu,aP hb];rfl)
 rw[e]at e2
 cases e2
 exact⟨bs[i],aP hb,q⟩
theorem DZ{s:Shared}{h':Heap}{o:Obj}(hk:∀b x,b ∉ [s.heap.objs.size]->(s.heap.push o).get? b=some x->h'.get? b=some x)(b:Addr)(x:Obj)(e:s.heap.get? b=some x):h'.get? b=some x :=
 hk b x (λhm=>gI _ (by have:=bS e;rw[fk.mp hm]at this;exact this)) (fI _ e)
theorem cr6(bs:List Bool):((aM bs.length).all λi=>(bs[i]?).getD true)=bs.all id:=by
 rw[ue,dz,dz]
 constructor
 ·intro h b hb
  obtain⟨i,hi,rfl⟩:=kD hb
  have:=h i (da.mpr hi)
  rwa [aP hi]at this
 ·intro h i hi
  have gK:=da.mp hi
  rw[aP gK]
  exact h _ (dE gK)
theorem W7(bs:List Bool):((aM bs.length).any λi=>(bs[i]?).getD false)=bs.any id:=by
 rw[ue,Ve,Ve]
 constructor
 ·rintro⟨i,hi,h⟩
  have gK:=da.mp hi
  rw[aP gK]at h
  exact⟨_,dE gK,h⟩
 ·rintro⟨b,hb,h⟩
  obtain⟨i,hi,rfl⟩:=kD hb
  exact⟨i,da.mpr hi,by rw[aP hi];exact h⟩
theorem cm3(hc:X.calm=true):gv X (.builtin "all") (λxs H Q=>∃(p:Addr) (bs:List Bool),xs=[.ref p]/\bN X.K H p (bs.map V.bl)/\Q (.bl (bs.all id)) H):=by
 intro pins s σ H xs us Q I r h
 obtain⟨p,bs,rfl,hS,q⟩:=h
 obtain⟨u,rfl,ru⟩:=r.one
 cases ru
 obtain⟨its,rv,pl,hz⟩:=I.list hS
 obtain⟨hlen,z7⟩:=W6 rv
 have hl:=pl.isList
 have fK:p<s.heap.objs.size:=by obtain⟨_,e,_⟩:=hl;exact bS e
 refine call_all_walk (wpAny_pyIter_list hl ?_)
 refine⟨s.heap.objs.size,[s.heap.objs.size,p],[s.heap.objs.size],its.toArray.size,_,_,λi=>(bs[i]?).getD true,rfl,IG (A:=X.A.in1) (I.ok.hd hc) _ p (fj fK) its.toArray,
  ⟨⟨_,gJ _ rfl,rfl,rfl⟩,hl.push _⟩,λi v s' Q' E' hP hQ=>?_,λh' tk hk=>?_⟩
 ·obtain⟨b,e,rfl⟩:=z7 i v (by simpa using hP)
  simp only[e,qE]at hQ
  exact wpAny_truthy_bool hQ
 ·have e:((aM its.toArray.size).all λi=>(bs[i]?).getD true)=bs.all id:=by
   rw[dO,<- hlen];exact cr6 bs
  rw[e]
  exact⟨.bl _,H,I.kept (h':=h') (t':=tk) (DZ hk),rfl,q⟩
theorem cr7(hc:X.calm=true):gv X (.builtin "any") (λxs H Q=>∃(p:Addr) (bs:List Bool),xs=[.ref p]/\bN X.K H p (bs.map V.bl)/\Q (.bl (bs.any id)) H):=by
 intro pins s σ H xs us Q I r h
 obtain⟨p,bs,rfl,hS,q⟩:=h
 obtain⟨u,rfl,ru⟩:=r.one
 cases ru
 obtain⟨its,rv,pl,hz⟩:=I.list hS
 obtain⟨hlen,z7⟩:=W6 rv
 have hl:=pl.isList
 have fK:p<s.heap.objs.size:=by obtain⟨_,e,_⟩:=hl;exact bS e
 refine call_any_walk (wpAny_pyIter_list hl ?_)
 refine⟨s.heap.objs.size,[s.heap.objs.size,p],[s.heap.objs.size],its.toArray.size,_,_,λi=>(bs[i]?).getD false,rfl,IG (A:=X.A.in1) (I.ok.hd hc) _ p (fj fK) its.toArray,
  ⟨⟨_,gJ _ rfl,rfl,rfl⟩,hl.push _⟩,λi v s' Q' E' hP hQ=>?_,λh' tk hk=>?_⟩
 ·obtain⟨b,e,rfl⟩:=z7 i v (by simpa using hP)
  simp only[e,qE]at hQ
  exact wpAny_truthy_bool hQ
 ·have e:((aM its.toArray.size).any λi=>(bs[i]?).getD false)=bs.any id:=by
   rw[dO,<- hlen];exact W7 bs
  rw[e]
  exact⟨.bl _,H,I.kept (h':=h') (t':=tk) (DZ hk),rfl,q⟩
end
def mq(X:Cx):List (Str × Addr)->Prop
 | []=>True
 | (y,c)::r=>X.env.cells.lookup y=some c/\mq X r
theorem mq.all{X:Cx}:∀{cl:List (Str × Addr)},mq X cl->∀y c,cl.lookup y=some c->X.env.cells.lookup y=some c
 | [],_,y,c,h=>by simp at h
 | (z,d)::r,h,y,c,e=>by
  rw[fX]at e
  cases q:y==z with
  | true =>
   rw[q]at e
   cases e
   rw[eq_of_beq q]
   exact h.1
  | false =>
   rw[q]at e
   exact mq.all h.2 y c e
def mr(cl:List (Str × Addr)):List (Str × NameKind)->Prop
 | []=>True
 | (y,k)::r=>(k=.local\/k=.globalImplicit\/∃c,cl.lookup y=some c)/\mr cl r
theorem mr.all{cl:List (Str × Addr)}:∀{ns:List (Str × NameKind)},mr cl ns->∀y,(ns.lookup y=some .cell\/ns.lookup y=some .free)->∃c,cl.lookup y=some c
 | [],_,y,h=>by simp at h
 | (z,k)::r,h,y,e=>by
  rw[fX]at e
  cases q:y==z with
  | true =>
   rw[q]at e
   rw[eq_of_beq q]
   rcases h.1 with g | g | g
   ·rw[g]at e;rcases e with e | e<;>cases e
   ·rw[g]at e;rcases e with e | e<;>cases e
   ·exact g
  | false =>
   rw[q]at e
   exact mr.all h.2 y e
section
variable{X:Cx}{elt iter:Expr}{x:Str}{px pos:Pos}{ifs:List Expr}{scope:Scope}{cl:List (Str × Addr)}{wi:TI}{tt:TT}{te:TE}
end
end L2
namespace L2
open PySem PySem.Spec PyProof.Rows Mf
end L2
namespace L2
end L2
namespace L2
open PySem PySem.Spec PyProof.Rows
def iw(aE:List (Str × Nat))(n:Nat)(σ:L2.St):St:=(aE.map λp=>(σ[p.2]?).getD none)++bo n none
def W8(J:It)(aE:List (Str × Nat))(n:Nat)(g:TG)(tt:TT)(te:TE)(σ:L2.St)(H1:Hp)(Q:VK):Prop:=∀D,H1 D=none->∃W:Nat->Nat->List V->Hp->Prop,(∃m,W 0 m [] (upd H1 D (.lst []))) /\
 ∀i m acc H2,W i m acc H2->H2 D=some (.lst acc)/\((J.stop i H2/\Q (.ref D) H2)\/(J.go i H2/\∀x H3,J.j8 i H2 x H3->H3 D=some (.lst acc)/\g x (iw aE n σ) H3 λgY H4 =>
  (gY.length=(iw aE n σ).length/\∀j,j<aE.length->gY[j]?=(iw aE n σ)[j]?)/\tt gY H4 λb H5=>H5 D=some (.lst acc) /\
  if b=true then te gY H5 λy H6=>H6 D=some (.lst acc)/\acc.length<sizeLine/\∃m',m'<m/\W (i+1) m' (acc++[y]) (upd H6 D (.lst (acc++[y])))else ∃m',m'<m/\W (i+1) m' acc H5))
def D0(wi:TI)(aE:List (Str × Nat))(n:Nat)(g:TG)(tt:TT)(te:TE):TE:=λσ H Q=>wi σ H λJ H1=>W8 J aE n g tt te σ H1 Q
section
variable{X:Cx}{elt iter tg:Expr}{pos:Pos}{ifs:List Expr}{scope:Scope}{cl:List (Str × Addr)}{wi:TI}{tt:TT}{te:TE}{g:TG}
end
end L2
namespace L2
open PySem PySem.Spec PyProof.Rows
section
variable{X:Cx}{tg:Expr}
end
end L2
namespace L2
open PySem PySem.Spec PyProof.Rows
def JQ(h:Heap)(a T:Addr)(cls fl:Value):Prop :=
 ∃oe vs oT ts,h.get? a=some oe/\oe.cls=cls/\oe.dict=none/\oe.data=.fields vs/\vs[1]?=some (.ref T)/\T≠a/\h.get? T=some oT/\oT.data=.fields ts/\ts[3]?=some fl
abbrev rh(h:Heap)(a T:Addr)(cls:Value):Prop:=JQ h a T cls .none
theorem bD4(o:Obj)(f:Array Value->Array Value):(o.mapFields f).dict=o.dict:=by
 obtain⟨c,d,dt,sl⟩:=o
 cases dt<;>rfl
section
variable{M:Model}{A:Around}{E:Value->Shared->Prop}{s:Shared}{base:Heap}{env:Env}{outer:List Env}{L a T:Addr}{cls:Value}{oe:Obj}{vs:Array Value}{Q:Unit->Shared->Prop}
structure Ent(fs:List Addr)(h h':Heap)(a T:Addr)(oe:Obj)(L:Addr):Prop where
 new:h.get? T=none
 ne:T≠a
 keep:∀b o,b≠a->b ∉ fs->h.get? b=some o->h'.get? b=some o
 slot:∀b o,b≠a->h.get? b=some o->∃sl,h'.get? b=some { o with slots:=sl }
 exc:h'.get? a=some (oe.mapFields λz=>z.setIfInBounds 1 (.ref T))
 ent:∃oT ts,h'.get? T=some oT/\oT.data=.fields ts/\ts[3]?=some (rawInt L)
theorem W9{head:Value}{dZ5:Bool}(eK:A.frames=some (env::outer))(hl:s.heap.FunFrames base (env::outer))(hf:env.frame=some L)(he:s.heap.get? a=some oe)(hd:oe.data=.fields vs)(mh:1<vs.size)
  (na:a ∉ (env::outer).filterMap (·.frame)) (k:∀h' T',Ent ((env::outer).filterMap (·.frame)) s.heap h' a T' oe L->Q () { s with heap:=h' }) :
  wpAny M A (do let x<-frameOf env;let pl<-entryPlaceOf L dZ5;let b<-EntryCells.newEntry head x .none (rawInt L) .none pl;setField (.ref a) 1 b) Q E s:=by
 refine wpAny_bind (wpAny_frameOf_fun eK hl hf λg1 so=>wpAny_bind (wpAny_entryPlaceOf λpl ip=>?_))
 unfold EntryCells.newEntry newFields
 have e1:g1.get? a=some oe:=(so.2.1 a na).trans he
 refine wpAny_bind (wpAny_newObj_type ?_ (ip.sizeOk5 _ _ _ _ _))
 generalize Xa:({ cls:=.type "traceback",dict:=none,data:=.fields ([head,cZ L,.none,rawInt L,.none]++(if pl.isEmpty then bo 6 qy else pl)).toArray }:Obj)=te
 have e2:(g1.push te).get? a=some oe:=fI te e1
 have hda:te.data=.fields ([head,cZ L,.none,rawInt L,.none]++(if pl.isEmpty then bo 6 qy else pl)).toArray:=by rw[<-Xa]
 have nf:te.isFreed=false:=by rw[<-Xa];rfl
 refine wpAny_setField e2 hd mh ?_
 have d3:=IH hd λz=>z.setIfInBounds 1 (cZ g1.objs.size)
 have nT:g1.objs.size≠a:=U7 (bS e1)
 refine k _ g1.objs.size ⟨?_,nT,λb o hb hz q=>?_,λb o hb q=>?_,Iz _ e2 (Vf d3),⟨te,_,?_,hda,?_⟩⟩
 ·cases q:s.heap.get? g1.objs.size with
  | none=>rfl
  | some o=>obtain⟨sl,z⟩:=so.2.2 _ _ q;exact absurd (bS z) (gI _)
 ·rw[qB _ _ (fH hb)]
  exact fI te ((so.2.1 b hz).trans q)
 ·obtain⟨sl,z⟩:=so.2.2 b o q
  refine⟨sl,?_⟩
  rw[qB _ _ (fH hb)]
  exact fI te z
 ·rw[qB _ _ (fH nT)]
  exact gJ g1 nf
 ·first | (simp;done) | (rcases ip with rfl | ⟨_,_,_,_,_,_,_,rfl⟩<;>simp)
structure Xb(fs Z:List Addr)(h h':Heap)(a T:Addr)(cls:Value):Prop where
 new:h.get? T=none
 keep:∀b o,b ∉ Z->b ∉ fs->h.get? b=some o->h'.get? b=some o
 slot:∀b o,b ∉ Z->h.get? b=some o->∃sl,h'.get? b=some { o with slots:=sl }
 z9:rh h' a T cls
theorem Xc{fl:Value}(tr:JQ s.heap a T cls fl)(k:∀h',(∀b o,b≠T->s.heap.get? b=some o->h'.get? b=some o)->rh h' a T cls->Q () { s with heap:=h' }):wpAny M A (setFlight (.ref a) none) Q E s:=by
 obtain⟨oe,vs,oT,ts,h1,h2,h3,h4,h5,h6,h7,h8,h9⟩:=tr
 have sz:3<ts.size:=(Vg.mp h9).1
 unfold setFlight
 refine wpAny_bind (wpAny_field h1 h4 h5 ?_)
 rw[if_pos (by simp)]
 refine wpAny_setField h7 h8 sz (k _ (λb o hb q=>(qB _ _ (fH hb)).trans q) ?_)
 have d:=IH h8 λz=>z.setIfInBounds 3 ((none:Option Addr).elim qy λf=>rawInt f)
 exact⟨oe,vs,_,_,(qB _ _ h6).trans h1,h2,h3,h4,h5,h6,Iz _ h7 (Vf d),d,by simp[sz]⟩
theorem Ent.fin{fs:List Addr}{h h':Heap}{a T L:Addr}{oe:Obj}{vs:Array Value}(e:Ent fs h h' a T oe L)(hd:oe.data=.fields vs)(mh:1<vs.size)(hdi:oe.dict=none):JQ h' a T oe.cls (rawInt L):=by
 obtain⟨oT,ts,e1,e2,e3⟩:=e.ent
 exact⟨_,_,oT,ts,e.exc,Obj.cls_mapFields _ _,by rw[bD4];exact hdi,IH hd _,by simp[mh],e.ne,e1,e2,e3⟩
theorem bS1(eK:A.frames=some (env::outer))(hl:s.heap.FunFrames base (env::outer))(hf:env.frame=some L)(na:a ∉ (env::outer).filterMap (·.frame))(tr:rh s.heap a T cls)
  (k:∀h' T',Xb ((env::outer).filterMap (·.frame)) [a,T] s.heap h' a T' cls->Q () { s with heap:=h' }):wpAny M A (noteFrame (.ref a) env) (λ_ kG=>wpAny M A (setFlight (.ref a) none) Q E kG) E s:=by
 obtain⟨oe,vs,oT,ts,h1,h2,h3,h4,h5,h6,h7,h8,h9⟩:=tr
 have s1:1<vs.size:=(Vg.mp h5).1
 have s3:3<ts.size:=(Vg.mp h9).1
 unfold noteFrame
 simp only[hf]
 refine wpAny_bind (wpAny_field h1 h4 h5 ?_)
 rw[if_pos (by simp)]
 refine wpAny_bind (wpAny_field h7 h8 h9 ?_)
 rw[if_neg (by simp[rawInt])]
 refine wpAny_bind (wpAny_setField h7 h8 s3 ?_)
 generalize hg:s.heap.update T (Obj.mapFields λz=>z.setIfInBounds 3 qy)=g
 have rj:∀b,b≠T->g.get? b=s.heap.get? b:=λb hb=>by rw[<-hg];exact qB _ _ (fH hb)
 have bT:∀b o,s.heap.get? b=some o->(∀ws,o.data≠.fields ws)->b≠T:=λb o q hn z=>by subst z;rw[h7]at q;cases q;exact hn ts h8
 have gT:∃oT',g.get? T=some oT':=⟨_,by rw[<-hg];exact Iz _ h7 (Vf (IH h8 _))⟩
 refine W9 (s:={ s with heap:=g }) eK (hl.of_keeps λb o q hn=>⟨o,(rj b (bT b o q hn)).trans q,rfl⟩) hf ((rj a (fH h6)).trans h1) h4 s1 na λh' T' en=>?_
 have nT':T'≠T:=λz=>by subst z;obtain⟨o,q⟩:=gT;rw[en.new]at q;cases q
 refine Xc (s:={ s with heap:=h' }) (h2 ▸ en.fin h4 s1 h3) λJR kp JS=>?_
 refine k JR T' ⟨(rj T' nT').symm.trans en.new,λb o hz hb q=>?_,λb o hz q=>?_,JS⟩
 ·have z1:b≠a:=λz=>hz (by simp[z])
  have z2:b≠T:=λz=>hz (by simp[z])
  have z3:b≠T':=λz=>by have:=en.new;rw[<-z,rj b z2,q]at this;cases this
  exact kp b o z3 (en.keep b o z1 hb ((rj b z2).trans q))
 ·have z1:b≠a:=λz=>hz (by simp[z])
  have z2:b≠T:=λz=>hz (by simp[z])
  have z3:b≠T':=λz=>by have:=en.new;rw[<-z,rj b z2,q]at this;cases this
  obtain⟨sl,r⟩:=en.slot b o z1 ((rj b z2).trans q)
  exact⟨sl,kp b _ z3 r⟩
theorem bQ0{h1:Heap}{args:List Value}(eK:A.frames=some (env::outer))(hl:s.heap.FunFrames base (env::outer))(hf:env.frame=some L)(hx:Vh s.heap h1 a cls args)
  (k:∀h' T',Xb ((env::outer).filterMap (·.frame)) [] s.heap h' a T' cls->Q () { s with heap:=h' }):wpAny M A (noteFrame (.ref a) env) (λ_ kG=>wpAny M A (setFlight (.ref a) none) Q E kG) E { s with heap:=h1 }:=by
 obtain⟨t,e1,_,_⟩:=hx.there
 have na:a ∉ (env::outer).filterMap (·.frame):=λhb=>by obtain⟨_,o,ho,_⟩:=hl.mem hb;rw[hx.new]at ho;cases ho
 unfold noteFrame
 simp only[hf]
 refine wpAny_bind (wpAny_field (s:={ s with heap:=h1 }) e1 rfl (x:=.none) (by rfl) ?_)
 rw[if_neg (by decide)]
 refine W9 (s:={ s with heap:=h1 }) eK (hl.of_keeps λb o q _=>⟨o,hx.keeps b o q,rfl⟩) hf e1 rfl (by simp) na λh' T' en=>?_
 refine Xc (s:={ s with heap:=h' }) (en.fin rfl (by simp) rfl) λJR kp JS=>?_
 have ba:∀b o,s.heap.get? b=some o->b≠a:=λb o q z=>by rw[z,hx.new]at q;cases q
 have bT:∀b o,s.heap.get? b=some o->b≠T':=λb o q z=>by have:=hx.keeps b o q;rw[z,en.new]at this;cases this
 refine k JR T' ⟨?_,λb o _ hb q=>kp b o (bT b o q) (en.keep b o (ba b o q) hb (hx.keeps b o q)),λb o _ q=>?_,JS⟩
 ·cases q:s.heap.get? T' with
  | none=>rfl
  | some o=>exact absurd rfl (bT T' o q)
 ·obtain⟨sl,r⟩:=en.slot b o (ba b o q) (hx.keeps b o q)
  exact⟨sl,kp b _ (bT b o q) r⟩
end
end L2
namespace L2
open PySem PySem.Spec PyProof.Rows
theorem eB.there{P:Program}{w:World}{H:Hp}{h:Heap}{a:Addr}{o:HO}(x:eB P w H h a o):∃u,h.get? a=some u:=by
 cases o with
 | lst xs=>obtain⟨_,_,_,_,e⟩:=x;exact⟨_,e⟩
 | tup xs=>obtain⟨_,_,_,o,e,_⟩:=x;exact⟨o,e⟩
 | dK dP=>obtain⟨_,_,_,_,o,_,_,e,_⟩:=x;exact⟨_,e⟩
 | dT dP=>obtain⟨_,_,_,_,o,_,_,e,_⟩:=x;exact⟨_,e⟩
 | set S n=>obtain⟨o,_,_,_,e,_⟩:=x;exact⟨_,e⟩
 | ins C dx fs=>obtain⟨_,_,_,e,_⟩:=x;exact⟨_,e⟩
 | own y=>exact x
 | xd fs=>obtain⟨_,⟨_,_,_,e,_⟩,_⟩:=x;exact⟨_,e⟩
 | zB lo hi=>obtain⟨_,_,_,e⟩:=x;exact⟨_,e⟩
 | bz ob u=>obtain⟨e,_⟩:=x;exact⟨_,e⟩
 | dF ps=>exact⟨_,show h.get? a=some _ from x.1⟩
 | met f y=>exact⟨_,show h.get? a=some _ from x⟩
 | ext φ=>obtain⟨_,e,_⟩:=x;exact e
theorem cO.none{P:Program}{w:World}{H:Hp}{h:Heap}{a:Addr}(x:cO P w H h)(e:h.get? a=.none):H a=.none:=by
 cases q:H a with
 | none=>rfl
 | some u=>obtain⟨o,z⟩:=(x a u q).there;rw[e]at z;cases z
structure Apart(X:Cx)(pins:List (Addr × Obj))(H:Hp)(b:Addr):Prop where
 old:X.cP.heap.get? b=none
 free:H b=none
 loc:b≠X.env.locals
 cell:∀x c,X.env.cells.lookup x=some c->c≠b
 pin:∀p∈X.pn++pins,p.1≠b
 fr:b ∉ eI X.stack
section
variable{X:Cx}{pins:List (Addr × Obj)}{σ:St}{H H':Hp}{s:Shared}{a T b:Addr}{cls:Value}{M:Model}{Q:Unit->Shared->Prop}{E:Value->Shared->Prop}{h':Heap}
theorem Inv.old(I:Inv X pins σ H s)(hex:X.ex=[])(e:s.heap.get? b=none):X.cP.heap.get? b=none:=by
 cases q:X.cP.heap.get? b with
 | none=>rfl
 | some o=>obtain⟨o',z⟩:=I.base.there b o q (by rw[hex];simp);rw[e]at z;cases z
theorem Xd(I:Inv X pins σ H s)(dj:X.stack=X.env::X.outer)(hex:X.ex=[])(hf:X.env.frame=some X.env.locals)(Z:List Addr)(hZ:∀b∈Z,X.cP.heap.get? b=none/\H b=none)
  (keep:∀b o,b ∉ Z->b ∉ eI X.stack->s.heap.get? b=some o->h'.get? b=some o) (slots:∀b o,b ∉ Z->s.heap.get? b=some o->∃sl,h'.get? b=some { o with slots:=sl }) :
  Un (eI X.outer) [] X.j4 H X.cP.heap h'/\cO X.prog X.w H h':=by
 have JT:∀b o,X.cP.heap.get? b=some o->b ∉ Z:=λb o e z=>by rw[(hZ b z).1]at e;cases e
 have sub:∀b,b∈eI X.stack->b=X.env.locals\/b∈eI X.outer:=λb hb=>by
  rw[dj]at hb
  unfold eI at hb
  rw[CZ,hf]at hb
  exact cz.mp hb
 have sup:∀b,b∈eI X.outer->b∈eI X.stack:=λb hb=>by
  rw[dj]
  unfold eI
  rw[CZ,hf]
  exact gq _ hb
 have DD:∀b o,X.cP.heap.get? b=some o->b≠X.env.locals:=λb o e=>fj (du (bS e) I.ok.above)
 have nx:∀b:Addr,b ∉ X.ex:=λb=>by rw[hex];simp
 refine⟨⟨λb o e n hb _=>?_,λb o e n hb _=>?_,λb o e n _=>I.base.free b o e n (nx b),λb o e _=>?_,I.base.j3,I.base.jC,I.base.iK⟩,λb ob e=>?_⟩
 ·exact keep b o (JT b o e) (λz=>(sub b z).elim (DD b o e) hb) (I.base.keep b o e n hb (nx b))
 ·obtain⟨sl,e1⟩:=I.base.slot b o e n hb (nx b)
  exact(slots b _ (JT b o e) e1).imp λsl h=>h
 ·obtain⟨o',e1⟩:=I.base.there b o e (nx b)
  exact(slots b o' (JT b o e) e1).elim λsl q=>⟨_,q⟩
 ·refine(I.aL b ob e).kE (λc u hc q=>keep c u (λz=>?_) (λz=>?_) q) (λ_ q=>q) (λ_ _ q=>q) λ_ _ q=>q
  ·have n:=(hZ c z).2
   rcases hc with rfl | hc
   ·rw[n]at e;cases e
   ·rw[n]at hc;cases hc
  ·have n:=I.Ja c z
   rcases hc with rfl | hc
   ·rw[n]at e;cases e
   ·rw[n]at hc;cases hc
structure Xe(X:Cx)(H:Hp)(h':Heap)(a T:Addr)(cls:Value):Prop where
 un:Un (eI X.outer) [] X.j4 H X.cP.heap h'
 aL:cO X.prog X.w H h'
 z9:rh h' a T cls
 a0:X.cP.heap.get? a=none
 a1:H a=none
 t0:X.cP.heap.get? T=none
 t1:H T=none
theorem ci0(I:Inv X pins σ H s)(dj:X.stack=X.env::X.outer)(hex:X.ex=[])(hf:X.env.frame=some X.env.locals)(tr:rh s.heap a T cls)(pa:Apart X pins H a)(pT:Apart X pins H T)
  (hQ:∀h' T',Xe X H h' a T' cls->Q () { s with heap:=h' }):wpAny M X.A (leaving X.env (.ref a)) Q E s:=by
 have hZ:∀b∈[a,T],X.cP.heap.get? b=none/\H b=none:=λb hb=>by
  rcases cz.mp hb with rfl | hb
  ·exact⟨pa.old,pa.free⟩
  ·rw[fk.mp hb];exact⟨pT.old,pT.free⟩
 have na:a ∉ (X.env::X.outer).filterMap (·.frame):=by have:=pa.fr;rw[dj]at this;exact this
 refine wpAny_bind (bS1 (base:=X.base) (by rw[I.ok.frames,dj]) (dj ▸ I.stack) hf na tr λh' T' st=>?_)
 have kp:∀b o,b ∉ [a,T]->b ∉ eI X.stack->s.heap.get? b=some o->h'.get? b=some o:=λb o hz hb q=>st.keep b o hz (by rw[dj]at hb;exact hb) q
 obtain⟨un,aL⟩:=Xd (h':=h') I dj hex hf [a,T] hZ kp st.slot
 exact hQ h' T' ⟨un,aL,st.z9,pa.old,pa.free,I.old hex st.new,I.aL.none st.new⟩
theorem b92{h1:Heap}{args:List Value}(I:Inv X pins σ H s)(dj:X.stack=X.env::X.outer)(hex:X.ex=[])(hf:X.env.frame=some X.env.locals)(hx:Vh s.heap h1 a cls args)
  (hQ:∀h' T',Xe X H h' a T' cls->Q () { s with heap:=h' }):wpAny M X.A (leaving X.env (.ref a)) Q E { s with heap:=h1 }:=by
 refine wpAny_bind (bQ0 (base:=X.base) (by rw[I.ok.frames,dj]) (dj ▸ I.stack) hf hx λh' T' st=>?_)
 have kp:∀b o,b ∉ ([]:List Addr)->b ∉ eI X.stack->s.heap.get? b=some o->h'.get? b=some o:=λb o hz hb q=>st.keep b o hz (by rw[dj]at hb;exact hb) q
 obtain⟨un,aL⟩:=Xd (h':=h') I dj hex hf [] (λb hb=>absurd hb (by simp)) kp st.slot
 exact hQ h' T' ⟨un,aL,st.z9,I.old hex hx.new,I.aL.none hx.new,I.old hex st.new,I.aL.none st.new⟩
end
def nJ(P:Program)(w:World):eW:=λouter H s E e s'=>∃a T cls H',e=.ref a/\s'.os=s.os/\AllBare s'.gens/\Un (eI outer) [] H H' s.heap s'.heap/\cO P w H' s'.heap/\rh s'.heap a T cls /\
 s.heap.get? a=none/\H' a=none/\s.heap.get? T=none/\H' T=none/\E cls none H'
section
variable{X:Cx}{pins:List (Addr × Obj)}{σ:St}{H H':Hp}{s:Shared}{a T b:Addr}{cls:Value}{M:Model}{Q:Unit->Shared->Prop}{E:Value->Shared->Prop}{h':Heap}
end
end L2
namespace L2
open PySem PySem.W PySem.Spec PySem.Calls PyProof.Rows
section
variable{prog:Program}{w:World}{A:Around}{E:Value->Shared->Prop}{s:Shared}{K:Frag}{x D:Addr}{ox:Obj}{oY:Option Obj}
theorem ck1{tk:Tok}{Q:Fin->Shared->Prop}(X:K.In s.heap)(I:PySem.W.InstAt s.heap x ox D oY)(hf:findObj K D oY "__class__"=some (.bind (.builtin "getset_descriptor.__get__") (.builtin "object.__class__")))(hm:mroIn K D (.type "object")=some true)
  (hq:Q (.done (.ret (.ref D))) s):wpAny (model prog w) A (Builtin.«object.__getattribute__» ⟨[.ref x,.str "__class__" tk],[]⟩) Q E s:=by
 have cg:=λ(R:Result->Shared->Prop) (hR:R (.ok (.ret (.ref D))) s) (A:Around)=>PySem.W.class_get (prog:=prog) (w:=w) (A:=A) (R:=R) (tp:=.ref D) X I hm hR
 obtain⟨hh,g,d,t,os⟩:=s
 have L0:=I.type (M:=model prog w)
 have L1:=looks_find (M:=model prog w) X I hf
 unfold Builtin.«object.__getattribute__»
 repeat (any_goals (first | assumption | refine wpAny_bind (L0.at ?_) | refine wpAny_bind (L1.at ?_) | wp_step))
 exact cg _ (wpAny_pure hq) _
theorem b95{M:Model}{Xf:Value}{Q:Unit->Shared->Prop}(X:K.In s.heap)(I:PySem.W.InstAt s.heap x ox D oY)(hb:mroIn K D (.type "BaseException")=some true)(hq:Q () s) :
  wpAny M A (checkBuiltinCall "BaseException.__getattribute__" ⟨[.ref x,Xf],[]⟩) Q E s:=by
 obtain⟨hh,g,d,t,os⟩:=s
 have L0:=I.type (M:=M)
 have L1:=looks_mroIn (M:=M) X hb
 have hk:builtinKind "BaseException.__getattribute__"=some .slot:=by decide +kernel
 have d06:splitId "BaseException.__getattribute__"=some ("BaseException","__getattribute__"):=by decide +kernel
 have ha:=F.args_bexc_ga (.ref x) Xf
 simp only[checkBuiltinCall,hk,d06]
 refine wpAny_bind ?_
 ·unfold isInstance
  repeat (first | refine wpAny_bind (L0.at ?_) | refine wpAny_bind (L1.at ?_) | refine L1.at ?_ | wp_step)
  exact hq
theorem ck7{tk:Tok}{R:Result->Shared->Prop}(X:K.In s.heap)(I:PySem.W.InstAt s.heap x ox D oY)(hf:findObj K D oY "__class__"=some (.bind (.builtin "getset_descriptor.__get__") (.builtin "object.__class__")))(hm:mroIn K D (.type "object")=some true)(hb:mroIn K D (.type "BaseException")=some true)
  (hq:R (.ok (.ret (.ref D))) s):codeAny (model prog w) A (.call (.builtin "BaseException.__getattribute__") ⟨[.ref x,.str "__class__" tk],[]⟩) R s :=
 codeAny_call_builtin (by decide +kernel) F.entry_bexc_ga (b95 X I hb (ck1 X I hf hm hq))
end
end L2
namespace L2
open PySem PySem.W PySem.Spec PySem.Calls PyProof.Rows
section
variable{prog:Program}{w:World}{A:Around}{E:Value->Shared->Prop}{s:Shared}{K:Frag}{x D:Addr}{ox:Obj}{oY:Option Obj}
theorem cj6{Q:Option Value->Shared->Prop}(X:K.In s.heap)(I:PySem.W.InstAt s.heap x ox D oY)(hga:findIn K (.ref D) "__getattribute__"=some (some (.builtin "BaseException.__getattribute__")))(hgt:findIn K (.ref D) "__getattr__"=some none)
  (hf:findObj K D oY "__class__"=some (.bind (.builtin "getset_descriptor.__get__") (.builtin "object.__class__"))) (hm:mroIn K D (.type "object")=some true) (hb:mroIn K D (.type "BaseException")=some true)
  (h:Q (some (.ref D)) { s with toks:=s.toks+1 }):wpAny (model prog w) A (getAttr? (.ref x) "__class__") Q E s:=by
 have xc:=λ(R:Result->Shared->Prop) (tk:Tok) (hR:R (.ok (.ret (.ref D))) { s with toks:=s.toks+1 }) (A:Around)=>ck7 (prog:=prog) (w:=w) (A:=A) (R:=R) (tk:=tk) (s:={ s with toks:=s.toks+1 }) X I hf hm hb hR
 obtain⟨hh,g,d,t,os⟩:=s
 have L0:=I.type (M:=model prog w)
 have L1:=looks_findIn (M:=model prog w) X hga
 have L2:=looks_findIn (M:=model prog w) X hgt
 have f3:=(F.excAttr_ValueError).ga.bind (.ref x)
 have dZ:(II "BaseException.__getattribute__"==II "object.__getattribute__")=false:=by decide +kernel
 have cC:(onTheHeap (cZ D)&&II "BaseException.__getattribute__"==II "object.__getattribute__")=false:=by rw[dZ];rfl
 unfold getAttr? getAttrBy? getAttrBy
 refine wpAny_bind (wpAny_mkText (wpAny_bind (wpAny_attempt (wpAny_holding (wpAny_bind (L0.at (wpAny_bind (L1.at ?_))))))))
 dsimp only
 rw[cC]
 simp only[uf,if_false]
 unfold getAttrByItsOwn
 repeat (any_goals (first | assumption | refine wpAny_bind (L0.at ?_) | refine wpAny_bind (L2.at ?_) | wp_step))
 refine xc _ t ?_ _
 show wpAny _ _ (handedOut (.ref D)) _ _ _
 exact handed_on rfl (wpAny_pure h)
structure JU(K:Frag)(C:Addr):Prop where
 cls:(clsIn K C).isSome=true
 ga:findIn K (.ref C) "__getattribute__"=some (some (.builtin "BaseException.__getattribute__"))
 gt:findIn K (.ref C) "__getattr__"=some none
 ca:findIn K (.ref C) "__class__"=some (some (.builtin "object.__class__"))
 hn:specialIn K (.builtin "object.__class__") "__get__"=some (some (.builtin "getset_descriptor.__get__"))
 tk:takesIn K (.builtin "object.__class__")=some true
 mo:mroIn K C (.type "object")=some true
 mb:mroIn K C (.type "BaseException")=some true
def D1(a C:Addr)(h:Heap):Prop:=∃o,h.get? a=some o/\o.cls=.ref C/\notCls o=true/\o.dict=none
theorem bO6{K:Frag}{C:Addr}{name:Str}{a g:Value}(hc:(clsIn K C).isSome=true)(ha:findIn K (.ref C) name=some (some a))(hg:specialIn K a "__get__"=some (some g))(ht:takesIn K a=some true):findObj K C none name=some (.bind g a):=by
 obtain⟨cd,hc⟩:=C7.mp hc
 unfold findObj
 rw[hc,dD4,ha,dD4]
 simp[hg,ht]
theorem Xg{a C:Addr}{h:Heap}(p:D1 a C h):∃ox,PySem.W.InstAt h a ox C none:=by
 obtain⟨o,h1,h2,h3,h4⟩:=p
 exact⟨o,h1,h2,h3,by rw[h4];trivial⟩
theorem cn2{a C:Addr}(c:JU K C):KitX K (.ref a) (.ref C) (D1 a C) where
 ty:=λ_ _ _ p=>let⟨_,I⟩:=Xg p;I.type
 it:=λ_ _ X _=>by
  obtain⟨uJ,nv⟩:=C7.mp c.cls
  unfold clsIn at nv
  split at nv
  ·rename_i c' d' cd' Jb ho
   intro A' Q' E' s' k q
   unfold isType loadHead
   exact wpAny_bind (wpAny_loadPart (k _ _ (X _ _ ho)) (wpAny_pure q))
  ·cases nv
 ne:=λh tp dd its n sl X htp=>by
  obtain⟨uJ,nv⟩:=C7.mp c.cls
  refine Bool.eq_false_iff.mpr λq=>?_
  have e:C=tp:=Value.ref.inj (beq_iff_eq.mp q)
  subst e
  unfold clsIn at nv
  split at nv
  ·rename_i c' d' cd' Jb ho
   have z:=(X _ _ ho).symm.trans htp
   cases z
  ·cases nv
 ca:=λX p k=>let⟨_,I⟩:=Xg p;cj6 X I c.ga c.gt (bO6 c.cls c.ca c.hn c.tk) c.mo c.mb k
end
end L2
namespace L2
open PySem PySem.Spec PyProof.Rows
section
variable{X:Cx}{pins:List (Addr × Obj)}{σ:St}{H:Hp}{s:Shared}{h':Heap}{its:List Addr}{T:Addr}{o:HO}{t':Nat}
theorem Inv.D2(I:Inv X pins σ H s)(k:∀b o,b ∉ its->s.heap.get? b=some o->h'.get? b=some o)(hf:∀b∈its,je X pins H b):Inv X pins σ H { s with heap:=h',toks:=t' }:=by
 have oS:∀b u,H b=some u->b ∉ its:=λb u e z=>by have:=(hf b z).1;rw[this]at e;cases e
 refine I.step (g':=s.gens) (d':=s.drawn) (ch:=its) (λb hb=>?_) (λb o _ _ hc e _=>k b o hc e) (λb o _ _ hc e _=>⟨o.slots,k b o hc e⟩) (λ_ _ _ _ n=>n)
  (λb o hc e=>⟨o,k b o hc e⟩) (λ_ _ e=>e) (λ_ _ _ e=>e) (λb ps e=>⟨#[],by rw[e];simp⟩) (λm hm=>?_) (λb u e=>?_) I.bare
 ·obtain⟨_,h1,_,h2,h3,h4⟩:=hf b hb
  exact⟨h2,h1,h3,h4⟩
 ·obtain⟨o,es,ep,ho,r⟩:=hm
  exact⟨o,es,ep,k _ o (λz=>(hf _ z).2.1 rfl) ho,r⟩
 ·refine(I.aL b u e).kE (λc v hc q=>k c v ?_ q) (λ_ q=>q) (λ_ _ q=>q) λ_ _ q=>q
  rcases hc with z | z
  ·rw[z];exact oS b u e
  ·exact oS c _ z
theorem Inv.Xh(I:Inv X pins σ H s)(k:∀b o,b ∉ its->s.heap.get? b=some o->h'.get? b=some o)(hf:∀b∈its,je X pins H b)(hT:s.heap.objs.size<=T)(new:eB X.prog X.w (upd H T o) h' T o) :
  Inv X pins σ (upd H T o) { s with heap:=h',toks:=t' }:=by
 have oS:∀b u,H b=some u->b ∉ its:=λb u e z=>by have:=(hf b z).1;rw[this]at e;cases e
 have fT:H T=none:=I.aL.fresh hT
 have neT:∀b u,H b=some u->b≠T:=λb u e z=>by rw[z,fT]at e;cases e
 have neS:∀b u,s.heap.get? b=some u->b≠T:=λb u e z=>absurd (du (bS e) hT) (by rw[z];exact gI _)
 refine I.step (g':=s.gens) (d':=s.drawn) (ch:=its) (λb hb=>?_) (λb o _ _ hc e _=>k b o hc e) (λb o _ _ hc e _=>⟨o.slots,k b o hc e⟩) (λb u _ e n=>by rw[bf (neS b u e)];exact n)
  (λb o hc e=>⟨o,k b o hc e⟩) (λb _ e=>by rw[bf (neT b _ e)];exact e) (λb _ _ e=>by rw[bf (neT b _ e)];exact e) (λb ps e=>⟨#[],by rw[bf (neT b _ e),e];simp⟩) (λm hm=>?_) (λb u e=>?_) I.bare
 ·obtain⟨_,h1,_,h2,h3,h4⟩:=hf b hb
  exact⟨h2,h1,h3,h4⟩
 ·obtain⟨o,es,ep,ho,r⟩:=hm
  exact⟨o,es,ep,k _ o (λz=>(hf _ z).2.1 rfl) ho,r⟩
 ·by_cases hb:b=T
  ·subst hb;rw[bM]at e;cases e;exact new
  ·rw[bf hb]at e
   refine(I.aL b u e).kE (λc v hc q=>k c v ?_ q) (λc q=>by rw[bf (neT c _ q)];exact q) (λc _ q=>by rw[bf (neT c _ q)];exact q) λc _ q=>by rw[bf (neT c _ q)];exact q
   rcases hc with z | z
   ·rw[z];exact oS b u e
   ·exact oS c _ z
def JV(K:PySem.W.Frag)(a b:Addr):It :=
 ⟨λi H=>∃xs ys x y,bN K H a xs/\bN K H b ys/\xs[i]?=some x/\ys[i]?=some y,
  λi H v H'=>∃T x y,v=.ref T/\H T=none/\H'=upd H T (.tup [x,y])/\(∀xs,bN K H a xs->xs[i]?=some x)/\∀ys,bN K H b ys->ys[i]?=some y,
  λi H=>∃xs ys,bN K H a xs/\bN K H b ys/\(xs.length<=i\/ys.length<=i)⟩
theorem oZ{K:PySem.W.Frag}{a c:Addr}{xs:List V}(hk:X.K=K)(I:Inv X pins σ H s)(h:bN K H a xs)(hf:je X pins H c)(ho:∃o,s.heap.get? c=some o/\o.cls≠.type "list"):a≠c:=by
 subst hk
 obtain⟨its,rv,p,hz⟩:=I.list h
 obtain⟨o,e,d⟩:=ho
 obtain⟨o',e',c',_⟩:=p.isList
 intro z
 subst z
 rw[e]at e';cases e'
 exact d c'
theorem ck6{P:Program}{w:World}{K:PySem.W.Frag}{elts:List Expr}{k:Nat}{pos:Pos}(a b z TI TO i1 i2:Addr)(D5:[z,TI,TO,i1,i2].Nodup) :
  Turn P w K (.Tuple elts k pos) (JV K a b) [z,TI,TO,i1,i2] z (λi h=>IsZip h z TI TO .none/\IsPair h TI (.ref i1) (.ref i2)/\(∃u v,IsPair h TO u v)/\h.IsListIter i1 a i/\h.IsListIter i2 b i):=by
 have ap:∀(X:Cx) (pins:List (Addr × Obj)) (s:Shared) (σ:St) (H:Hp) (i:Nat) (xs ys:List V),X.K=K->Inv X pins σ H s->(∀b∈[z,TI,TO,i1,i2],je X pins H b)->IsZip s.heap z TI TO .none->(∃u v,IsPair s.heap TO u v)->s.heap.IsListIter i1 a i->s.heap.IsListIter i2 b i ->
   bN K H a xs->bN K H b ys->ZipApart z TI TO i1 i2 a b:=by
  intro X pins s σ H i xs ys hK I hf hz jk h1 h2 hx hy
  simp only[jW,cz,not_or,i6,not_false_eq_true,and_true]at D5
  obtain⟨⟨d1,d2,d3,d4⟩,⟨d5,d6,d7⟩,⟨d8,d9⟩,d10,_⟩:=D5
  have oz:∃o,s.heap.get? z=some o/\o.cls≠.type "list":=⟨_,hz,by intro q;exact absurd (IJ q) (by decide)⟩
  have Xi:∃o,s.heap.get? TO=some o/\o.cls≠.type "list":=by obtain⟨u,v,e⟩:=jk;exact⟨_,e,by intro q;exact absurd (IJ q) (by decide)⟩
  have o1:∃o,s.heap.get? i1=some o/\o.cls≠.type "list":=by obtain⟨o,e,c,d⟩:=h1;exact⟨_,e,by rw[c];intro q;exact absurd (IJ q) (by decide)⟩
  have o2:∃o,s.heap.get? i2=some o/\o.cls≠.type "list":=by obtain⟨o,e,c,d⟩:=h2;exact⟨_,e,by rw[c];intro q;exact absurd (IJ q) (by decide)⟩
  exact⟨fH d1,fH d2,fH d3,fH d4,d5,d6,d7,d8,d9,d10,
   oZ hK I hx (hf z (by simp)) oz,oZ hK I hx (hf TO (by simp)) Xi,oZ hK I hx (hf i1 (by simp)) o1,oZ hK I hx (hf i2 (by simp)) o2,
   oZ hK I hy (hf z (by simp)) oz,oZ hK I hy (hf TO (by simp)) Xi,oZ hK I hy (hf i1 (by simp)) o1,oZ hK I hy (hf i2 (by simp)) o2⟩
 refine⟨by simp,λi h st c hc=>?_,λi h h' st kk=>?_,?_,?_,λ_ _ _ _ _ st h=>wpAny_pyIter_zip st.1 h⟩
 ·obtain⟨hz,kJ,⟨u,v,jk⟩,⟨o1,e1,c1,d1⟩,⟨o2,e2,c2,d2⟩⟩:=st
  simp only[cz,i6,or_false]at hc
  rcases hc with rfl | rfl | rfl | rfl | rfl
  ·exact⟨_,hz,λv q=>by cases q⟩
  ·exact⟨_,kJ,λv q=>by cases q⟩
  ·exact⟨_,jk,λv q=>by cases q⟩
  ·exact⟨_,e1,λv q=>by rw[d1]at q;cases q⟩
  ·exact⟨_,e2,λv q=>by rw[d2]at q;cases q⟩
 ·obtain⟨hz,kJ,⟨u,v,jk⟩,h1,h2⟩:=st
  exact⟨kk _ (by simp) _ hz,kk _ (by simp) _ kJ,⟨u,v,kk _ (by simp) _ jk⟩,h1.at λo e=>kk _ (by simp) o e,h2.at λo e=>kk _ (by simp) o e⟩
 ·intro X hP hw hK hc i pins s σ H E I hf st hg
  obtain⟨xs,ys,x,y,hx,hy,ex,ey⟩:=hg
  obtain⟨hz,kJ,⟨u,v,jk⟩,h1,h2⟩:=st
  have D:=ap X pins s σ H i xs ys hK I hf hz ⟨u,v,jk⟩ h1 h2 hx hy
  subst hP hw hK
  obtain⟨as,ra,pa,_⟩:=I.list hx
  obtain⟨bs,rb,pb,_⟩:=I.list hy
  obtain⟨ux,JW,rx⟩:=ra.get ex
  obtain⟨uy,euy,ry⟩:=rb.get ey
  refine wpAny_pyNext_zip_item D hz kJ jk h1 h2 pa.isList pb.isList (x:=ux) (y:=uy) (by simpa using JW) (by simpa using euy) λh' z' TO' ka jF T' sz kk=>?_
  have fT:H s.heap.objs.size=none:=I.aL.fresh (bK _)
  have I1:Inv X pins σ (upd H s.heap.objs.size (.tup [x,y])) { s with heap:=h',toks:=s.toks }:=I.Xh (its:=[z,TO,i1,i2]) (λc o hc e=>kk c o (λq=>hc (by simp[q])) (λq=>hc (by simp[q])) (λq=>hc (by simp[q])) (λq=>hc (by simp[q])) e)
   (λc hc=>hf c (by simp only[cz,i6,or_false]at hc ⊢;rcases hc with rfl | rfl | rfl | rfl<;>simp)) (bK _) ⟨by show 2<=sizeLine;decide,[ux,uy],.cons rx (.cons ry .nil),⟨_,T',rfl,_,rfl⟩⟩
  have nT:∀c∈[z,TI,TO,i1,i2],c≠s.heap.objs.size:=λc hc q=>by
   have:∃o,s.heap.get? c=some o:=by
    simp only[cz,i6,or_false]at hc
    rcases hc with rfl | rfl | rfl | rfl | rfl
    ·exact⟨_,hz⟩
    ·exact⟨_,kJ⟩
    ·exact⟨_,jk⟩
    ·obtain⟨o,e,_⟩:=h1;exact⟨o,e⟩
    ·obtain⟨o,e,_⟩:=h2;exact⟨o,e⟩
   obtain⟨o,e⟩:=this
   exact absurd (bS e) (by rw[q];exact gI _)
  refine⟨_,rfl,wpAny_letOwnedTupleGo_zip z' λJX JY sb=>?_⟩
  have JZ:∀c∈[z],je X pins (upd H s.heap.objs.size (.tup [x,y])) c:=λc hc=>by
   have e:c=z:=by simpa using hc
   subst e
   obtain⟨f0,fr⟩:=hf c (by simp)
   exact⟨by rw[bf (nT c (by simp))];exact f0,fr⟩
  have I2:=Inv.D2 (h':=JX) (its:=[z]) (t':=s.toks) I1 (λc o hc e=>sb.extBut _ _ (λq=>hc (by simp[q])) e) JZ
  refine⟨.ref s.heap.objs.size,_,I2,rfl,⟨_,x,y,rfl,fT,rfl,λxs' de=>by rw[I.DH de hx];exact ex,λrk hy'=>by rw[I.DH hy' hy];exact ey⟩,⟨JY,sb.extBut _ _ D.TIz (kk _ _ D.TIz D.TITO D.TIi1 D.TIi2 kJ),⟨ux,uy,sb.extBut _ _ D.TOz TO'⟩,ka.extBut sb.extBut D.i1z,jF.extBut sb.extBut D.i2z⟩,λc hc=>?_⟩
  rw[bf (nT c hc)]
  exact(hf c hc).1
 ·intro X hP hw hK hc i pins s σ H E I hf st hg
  obtain⟨xs,ys,hx,hy,hl⟩:=hg
  obtain⟨hz,kJ,⟨u,v,jk⟩,h1,h2⟩:=st
  have D:=ap X pins s σ H i xs ys hK I hf hz ⟨u,v,jk⟩ h1 h2 hx hy
  subst hP hw hK
  obtain⟨as,ra,pa,_⟩:=I.list hx
  obtain⟨bs,rb,pb,_⟩:=I.list hy
  have la:=ra.length
  have lb:=rb.length
  refine wpAny_pyNext_zip_end (I.ok.hd hc) D hz kJ jk h1 h2 pa.isList pb.isList (hl.imp (λq=>by simp;omega) λq=>by simp;omega) λh' kk=>⟨rfl,?_⟩
  exact I.D2 (its:=[z,TO,i1,i2]) (t':=s.toks) (λc o hc e=>kk c o (λq=>hc (by simp[q])) (λq=>hc (by simp[q])) (λq=>hc (by simp[q])) (λq=>hc (by simp[q])) e)
   (λc hc=>hf c (by simp only[cz,i6,or_false]at hc ⊢;rcases hc with rfl | rfl | rfl | rfl<;>simp))
def J0(K:PySem.W.Frag)(a:Addr):It :=
 ⟨λi H=>∃xs x,bN K H a xs/\xs[i]?=some x,
  λi H v H'=>∃T x,v=.ref T/\H T=none/\H'=upd H T (.tup [.int i,x])/\∀xs,bN K H a xs->xs[i]?=some x,
  λi H=>∃xs,bN K H a xs/\xs.length<=i⟩
theorem cc2{P:Program}{w:World}{K:PySem.W.Frag}{elts:List Expr}{k:Nat}{pos:Pos}(a z it:Addr)(mw:z≠it) :
  Turn P w K (.Tuple elts k pos) (J0 K a) [z,it] z (λi h=>(∃old,IsEnum h z it i old)/\h.IsListIter it a i):=by
 refine⟨by simp,λi h st c hc=>?_,λi h h' st kk=>?_,?_,?_,λ_ _ _ _ _ st h=>by obtain⟨⟨old,e⟩,_⟩:=st;exact wpAny_pyIter_enum e h⟩
 ·obtain⟨⟨old,hz⟩,⟨o1,e1,c1,d1⟩⟩:=st
  simp only[cz,i6,or_false]at hc
  rcases hc with rfl | rfl
  ·exact⟨_,hz,λv q=>by cases q⟩
  ·exact⟨_,e1,λv q=>by rw[d1]at q;cases q⟩
 ·obtain⟨⟨old,hz⟩,h1⟩:=st
  exact⟨⟨old,kk _ (by simp) _ hz⟩,h1.at λo e=>kk _ (by simp) o e⟩
 ·intro X hP hw hK hc i pins s σ H E I hf st hg
  subst hP hw hK
  obtain⟨xs,x,hx,ex⟩:=hg
  obtain⟨⟨old,hz⟩,h1⟩:=st
  obtain⟨as,ra,pa,_⟩:=I.list hx
  obtain⟨ux,JW,rx⟩:=ra.get ex
  refine wpAny_pyNext_enum_item hz h1 pa.isList (x:=ux) (by simpa using JW) mw λh' z' ka T' sz kk=>?_
  have fT:H s.heap.objs.size=none:=I.aL.fresh (bK _)
  have I1:Inv X pins σ (upd H s.heap.objs.size (.tup [.int i,x])) { s with heap:=h',toks:=s.toks+1 }:=I.Xh (its:=[z,it]) (λc o hc e=>kk c o (λq=>hc (by simp[q])) (λq=>hc (by simp[q])) e)
   (λc hc=>hf c hc) (bK _) ⟨by show 2<=sizeLine;decide,[.int i s.toks,ux],.cons ⟨_,rfl⟩ (.cons rx .nil),⟨_,T',rfl,_,rfl⟩⟩
  have nT:∀c∈[z,it],c≠s.heap.objs.size:=λc hc q=>by
   have:∃o,s.heap.get? c=some o:=by
    simp only[cz,i6,or_false]at hc
    rcases hc with rfl | rfl
    ·exact⟨_,hz⟩
    ·obtain⟨o,e,_⟩:=h1;exact⟨o,e⟩
   obtain⟨o,e⟩:=this
   exact absurd (bS e) (by rw[q];exact gI _)
  refine⟨_,rfl,wpAny_letOwnedTupleGo_enum z' λJX JY sb=>?_⟩
  have JZ:∀c∈[z],je X pins (upd H s.heap.objs.size (.tup [.int i,x])) c:=λc hc=>by
   have e:c=z:=by simpa using hc
   subst e
   obtain⟨f0,fr⟩:=hf c (by simp)
   exact⟨by rw[bf (nT c (by simp))];exact f0,fr⟩
  have I2:=Inv.D2 (h':=JX) (its:=[z]) (t':=s.toks+1) I1 (λc o hc e=>sb.extBut _ _ (λq=>hc (by simp[q])) e) JZ
  refine⟨.ref s.heap.objs.size,_,I2,rfl,⟨_,x,rfl,fT,rfl,λxs' de=>by rw[I.DH de hx];exact ex⟩,⟨⟨ux,by simpa using JY⟩,ka.extBut sb.extBut (fH mw)⟩,λc hc=>?_⟩
  rw[bf (nT c hc)]
  exact(hf c hc).1
 ·intro X hP hw hK hc i pins s σ H E I hf st hg
  subst hP hw hK
  obtain⟨xs,hx,hl⟩:=hg
  obtain⟨⟨old,hz⟩,h1⟩:=st
  obtain⟨as,ra,pa,_⟩:=I.list hx
  have la:=ra.length
  refine wpAny_pyNext_enum_end (I.ok.hd hc) hz h1 pa.isList (by simp;omega) λh' kk=>⟨rfl,?_⟩
  exact I.D2 (its:=[it]) (t':=s.toks) (λc o hc e=>kk c o (λq=>hc (by simp[q])) e) (λc hc=>hf c (by simp at hc ⊢;simp[hc]))
end
section
variable{X:Cx}{a b:Expr}{ta:TA}{p pos qW:Pos}{elts:List Expr}{x1:Nat}
def c07(K:PySem.W.Frag)(ta:TA):TI:=λσ H R=>ta σ H λvs H1=>∃a b,vs=[.ref a,.ref b]/\(∃xs,bN K H1 a xs)/\(∃ys,bN K H1 b ys)/\R (JV K a b) H1
theorem cm2:bootBuiltins "zip"=some (.type "zip"):=by decide +kernel
theorem cP8(hg:Gl X "zip")(hm:X.mg "zip"=none)(ha:PA X [a,b] ta)(hs:starEach [a,b] X.env=[(false,eval a X.env),(false,eval b X.env)]:=by rfl)(fw:starEach [b] X.env=[(false,eval b X.env)]:=by rfl) :
  PI X (.Tuple elts x1 qW) (.Call (.Name "zip" p) [a,b] [] pos) (c07 X.K ta):=by
 intro pins s σ H R I h
 refine Call_ (qN I hg hm cm2 (C2 (aS (ha pos pins s σ H _ I h) λus s1 ⟨vs,H1,I1,r1,q1⟩=>?_) (by rw[hs,fw]) (by rw[fw];rfl)))
 obtain⟨a,b,e,⟨xs,hx⟩,⟨ys,hy⟩,q⟩:=q1
 subst e
 cases r1 with
 | cons r rr =>
  cases rr with
  | cons r2 rr =>
   cases rr
   cases r
   cases r2
   obtain⟨as,ra,pa,_⟩:=I1.list hx
   obtain⟨bs,rb,pb,_⟩:=I1.list hy
   refine call_zip_2 pa.isList pb.isList λh' hz kJ jk h1 h2 sz kk=>wpAny_pyIter_zip hz ?_
   refine⟨_,[s1.heap.objs.size+4,s1.heap.objs.size+2,s1.heap.objs.size+3,s1.heap.objs.size,s1.heap.objs.size+1],_,_,H1,rfl,I1.kept (t':=s1.toks) kk,ck6 a b _ _ _ _ _ (by simp),⟨hz,kJ,⟨_,_,jk⟩,h1,h2⟩,λc hc=>?_,q⟩
   have hle:s1.heap.objs.size<=c:=by
    simp only[cz,i6,or_false]at hc
    rcases hc with rfl | rfl | rfl | rfl | rfl<;>omega
   exact I1.DL hle (I1.aL.fresh hle)
def cT8(K:PySem.W.Frag)(ta:TA):TI:=λσ H R=>ta σ H λvs H1=>∃a,vs=[.ref a]/\(∃xs,bN K H1 a xs)/\R (J0 K a) H1
theorem bD3:bootBuiltins "enumerate"=some (.type "enumerate"):=by decide +kernel
theorem cA3(hg:Gl X "enumerate")(hm:X.mg "enumerate"=none)(ha:PA X [a] ta)(hs:starEach [a] X.env=[(false,eval a X.env)]:=by rfl) :
  PI X (.Tuple elts x1 qW) (.Call (.Name "enumerate" p) [a] [] pos) (cT8 X.K ta):=by
 intro pins s σ H R I h
 refine Call_ (qN I hg hm bD3 (C2 (aS (ha pos pins s σ H _ I h) λus s1 ⟨vs,H1,I1,r1,q1⟩=>?_) hs rfl))
 obtain⟨a,e,⟨xs,hx⟩,q⟩:=q1
 subst e
 cases r1 with
 | cons r rr =>
  cases rr
  cases r
  obtain⟨as,ra,pa,_⟩:=I1.list hx
  refine call_enumerate_list pa.isList λh' hz h1 sz kk=>wpAny_pyIter_enum hz ?_
  refine⟨_,[s1.heap.objs.size+1,s1.heap.objs.size],_,_,H1,rfl,I1.kept (t':=s1.toks) kk,cc2 a (s1.heap.objs.size+1) s1.heap.objs.size (Nat.succ_ne_self _),⟨⟨_,hz⟩,h1⟩,λc hc=>?_,q⟩
  have hle:s1.heap.objs.size<=c:=by
   simp only[cz,i6,or_false]at hc
   rcases hc with rfl | rfl<;>omega
  exact I1.DL hle (I1.aL.fresh hle)
end
end L2
namespace L2
open PySem PySem.Spec PyProof.Rows PySem.W PySem.Calls
section
variable{X:Cx}
def uK{α:Type}(xs:List α)(lo hi:Option Int):List α:=(xs.drop (HT.dk xs.length 0 lo)).take (HT.dk xs.length xs.length hi-HT.dk xs.length 0 lo)
theorem b91(x:Str)(lo hi:Option Int):Txt.slice x lo hi=⟨(uK x.cps.toList lo hi).toArray⟩:=by
 have hx:x.length=x.cps.size:=rfl
 have e:(IK lo hi 1 x.length).filterMap (x.cps[·]?)=uK x.cps.toList lo hi:=by
  obtain⟨h1,h2,h3⟩:=Jz lo hi x.length
  have e0:IK lo hi 1 x.length=sliceRange (sliceBounds lo hi none x.length).1 (sliceBounds lo hi none x.length).2.1 1:=by
   cases lo<;>cases hi<;>rfl
  rw[e0,h1,h2]
  simp only[sliceRange_one,pick_run]
  unfold uK
  rw[hx,zb]
 unfold Txt.slice
 split
 ·rename_i h
  have hl:(IK lo hi 1 x.length).length=x.length:=by
   rw[eH]at h;exact eq_of_beq h.2
  have hs:(uK x.cps.toList lo hi)=x.cps.toList:=by
   have e2:HT.dk x.cps.toList.length x.cps.toList.length hi-HT.dk x.cps.toList.length 0 lo=x.length:=by
    obtain⟨h1,h2,h3⟩:=Jz lo hi x.length
    have e0:IK lo hi 1 x.length=sliceRange (sliceBounds lo hi none x.length).1 (sliceBounds lo hi none x.length).2.1 1:=by
     cases lo<;>cases hi<;>rfl
    rw[e0,h1,h2]at hl
    simp only[sliceRange_one,bA,cm]at hl
    rw[zb,<- hx]
    omega
   unfold uK
   have le:HT.dk x.cps.toList.length x.cps.toList.length hi<=x.cps.toList.length:=by
    cases hi with
    | none=>simp[HT.dk]
    | some i=>simp only[HT.dk];split<;>omega
   have le2:HT.dk x.cps.toList.length 0 lo<=x.cps.toList.length:=by
    cases lo with
    | none=>simp[HT.dk]
    | some i=>simp only[HT.dk];split<;>omega
   rw[zb,<- hx]at e2 le le2 ⊢
   have z:HT.dk x.length 0 lo=0:=by omega
   have z2:HT.dk x.length x.length hi=x.length:=by omega
   rw[z,z2,List.drop_zero,Nat.sub_zero,hx,<- zb,ug]
  rw[hs]
 ·rw[e]
theorem cJ8:qZ X (λx lo hi H Q=>∃z,x=.str z/\z.length<=sizeLine/\Q (.str ⟨(uK z.cps.toList lo hi).toArray⟩) H):=by
 intro pins s σ H x v vl vu lo hi sl Q I rx hs pl pu h
 obtain⟨z,rfl,hz,q⟩:=h
 obtain⟨t,rfl⟩:=rx
 refine⟨"str",_,F.slot_str_getitem.lookup,typeIs_str _ _ _,?_⟩
 have fin:∀(l u:Option (Int × Tok)),l.map (·.1)=lo->u.map (·.1)=hi->partValue l=vl->partValue u=vu->wpAny (model X.prog X.w) X.A (getItem (.str z t) (.ref sl)) (EP X pins σ Q) X.xe s:=by
  intro l u h1 h2 h3 h4
  obtain⟨o,e1,e2,e3⟩:=hs
  refine wpAny_getItem_str_slice (l:=l) (u:=u) (st:=none) ⟨o,e1,e2,by rw[e3,h3,h4];rfl⟩ rfl ?_
  have e:Txt.slice z lo hi=(if(((none:Option (Int × Tok)).map (·.1)).getD 1==1&&(slicePicked z l u none).length==z.length)=true then z else⟨((slicePicked z l u none).filterMap (z.cps[·]?)).toArray⟩):=by
   unfold Txt.slice slicePicked;rw[h1,h2];rfl
  refine post_val_or_str ⟨?_,λt' k=>?_⟩
  ·rw[<-e];exact fu (Txt.slice_le z _ _) hz
  ·rw[<-e,b91];exact⟨.str _,H,I.tok _,⟨_,rfl⟩,q⟩
 cases pl with
 | none =>
  cases pu with
  | none=>exact fin none none rfl rfl rfl rfl
  | int j tj=>exact fin none (some (j,tj)) rfl rfl rfl rfl
 | int i ti =>
  cases pu with
  | none=>exact fin (some (i,ti)) none rfl rfl rfl rfl
  | int j tj=>exact fin (some (i,ti)) (some (j,tj)) rfl rfl rfl rfl
end
end L2
namespace L3
open PySem L2
def jl:HO->Bool
 | .dF _=>false
 | _=>true
structure af(H H':Hp):Prop where
 get:∀b o,H b=some o->(h:jl o=true:=by rfl)->H' b=some o
 tb:∀b ps,H b=some (.dF ps)->∃more,H' b=some (.dF (ps++more))
instance {H H':Hp}:CoeFun (af H H') λ_=>∀b o,H b=some o->(h:jl o=true:=by rfl)->H' b=some o:=⟨λs=>@af.get _ _ s⟩
theorem J1{o:HO}(h:jl o=false):∃ps,o=.dF ps:=by
 cases o with
 | dF ps=>exact⟨ps,rfl⟩
 | _=>cases h
theorem af.of{H H':Hp}(h:∀b o,H b=some o->H' b=some o):af H H':=⟨λb o e _=>h b o e,λb ps e=>⟨#[],by rw[h b _ e];simp⟩⟩
theorem af.refl(H:Hp):af H H:=.of λ_ _ h=>h
theorem af.trans{H H1 H2:Hp}(a:af H H1)(b:af H1 H2):af H H2 :=
 ⟨λc o h n=>b.get c o (a.get c o h n) n,λc ps h=>by
  obtain⟨m1,e1⟩:=a.tb c ps h
  obtain⟨m2,e2⟩:=b.tb c _ e1
  exact⟨m1++m2,by rw[e2,tS]⟩⟩
theorem af.any{H H':Hp}(e:af H H'){l:Addr}{o:HO}(h:H l=some o):∃o',H' l=some o':=by
 cases n:jl o with
 | true=>exact⟨o,e.get l o h n⟩
 | false =>
  obtain⟨ps,rfl⟩:=J1 n
  obtain⟨m,q⟩:=e.tb l ps h
  exact⟨_,q⟩
theorem af.free{H H':Hp}(e:af H H'){l:Addr}(h:H' l=Option.none):H l=Option.none:=by
 cases q:H l with
 | none=>rfl
 | some o =>
  obtain⟨o',z⟩:=e.any q
  rw[z]at h
  cases h
inductive uL where
 | ext (φ:Addr->Heap->Prop)
 | lam (of oc:Obj) (c k:Addr)
instance:Coe (Addr->Heap->Prop) uL:=⟨.ext⟩
def J2(H:Hp)(k:Addr):Prop:=∃ψ,H k=some (.ext ψ)/\∀h,ψ h->∃q,h.CodeRec (.ref k) q
def jG(of oc:Obj)(c p:Addr):Heap->Prop:=λh=>h.get? p=some of/\h.get? c=some oc
structure kb(H:Hp)(p:Addr)(of oc:Obj)(c k:Addr):Prop where
 fn:H p=some (.ext (jG of oc c p))
 cell:H c=some (.own p)
 J3:J2 H k
def rm(H:Hp)(p:Addr):uL->Prop
 | .ext φ=>H p=some (.ext (φ p))
 | .lam of oc c k=>kb H p of oc c k
theorem rm.mono{H H':Hp}{p:Addr}:∀{z:uL},rm H p z->(∀a o,H a=some o->(∀ws,o≠.lst ws)->jl o=true->H' a=some o)->rm H' p z
 | .ext φ,x,k=>k _ _ x (λws q=>by cases q) rfl
 | .lam of oc c k',x,k=>⟨k _ _ x.fn (λws q=>by cases q) rfl,k _ _ x.cell (λws q=>by cases q) rfl,let⟨ψ,e,h⟩:=x.J3;⟨ψ,k _ _ e (λws q=>by cases q) rfl,h⟩⟩
inductive D where
 | aw | bl (b:Bool) | int (i:Int) | str (x:Str)
 | lst (o:Bool) (xs:List D)
 | tup (xs:List D)
 | obj (C:Addr) (ns:List Str) (xs:List D)
 | fz (xs:List D)
 | bI (z:uL)
 deriving Inhabited
def D.pl:D->Bool
 | .lst o xs=>!o&&Aa xs
 | .tup xs=>Aa xs
 | _=>true
where Aa:List D->Bool
 | []=>true
 | d::ds=>d.pl&&Aa ds
def D.fr:D->Bool
 | .lst o xs=>o&&Ab xs
 | .tup xs=>Ab xs
 | .obj _ _ _=>false
 | .fz _=>false
 | _=>true
where Ab:List D->Bool
 | []=>true
 | d::ds=>d.fr&&Ab ds
def D.sh:D->D
 | .lst _ xs=>.lst false (Ac xs)
 | .tup xs=>.tup (Ac xs)
 | d=>d
where Ac:List D->List D
 | []=>[]
 | d::ds=>d.sh::Ac ds
theorem Xj(ds:List D):D.pl.Aa ds=ds.all D.pl:=by induction ds with | nil=>rfl | cons d ds ih=>simp[D.pl.Aa,ih]
theorem Xk(ds:List D):D.fr.Ab ds=ds.all D.fr:=by induction ds with | nil=>rfl | cons d ds ih=>simp[D.fr.Ab,ih]
theorem Xl(ds:List D):D.sh.Ac ds=ds.map D.sh:=by induction ds with | nil=>rfl | cons d ds ih=>simp[D.sh.Ac,ih]
theorem fZ(o:Bool)(xs:List D):(D.lst o xs).pl=(!o&&xs.all D.pl):=by simp[D.pl,Xj]
theorem kK(xs:List D):(D.tup xs).pl=xs.all D.pl:=by simp[D.pl,Xj]
theorem fL(o:Bool)(xs:List D):(D.lst o xs).fr=(o&&xs.all D.fr):=by simp[D.fr,Xk]
theorem rn(xs:List D):(D.tup xs).fr=xs.all D.fr:=by simp[D.fr,Xk]
theorem dQ(o:Bool)(xs:List D):(D.lst o xs).sh=.lst false (xs.map D.sh):=by simp[D.sh,Xl]
theorem mx(xs:List D):(D.tup xs).sh=.tup (xs.map D.sh):=by simp[D.sh,Xl]
inductive R(F H:Hp):List D->List V->List Addr->Prop
 | nil:R F H [] [] []
 | aw {ds vs B}:R F H ds vs B->R F H (.aw::ds) (.aw::vs) B
 | bl {b ds vs B}:R F H ds vs B->R F H (.bl b::ds) (.bl b::vs) B
 | int {i ds vs B}:R F H ds vs B->R F H (.int i::ds) (.int i::vs) B
 | str {x ds vs B}:R F H ds vs B->R F H (.str x::ds) (.str x::vs) B
 | shr {p ws xs ds vs B}:F p=some (.lst ws)->R F H xs ws []->R F H ds vs B->R F H (.lst false xs::ds) (.ref p::vs) B
 | own {p ws xs A ds vs B}:H p=some (.lst ws)->F p=none->R F H xs ws A->R F H ds vs B->R F H (.lst true xs::ds) (.ref p::vs) (p::(A++B))
 | tup {p ws xs A ds vs B}:H p=some (.tup ws)->R F H xs ws A->R F H ds vs B->R F H (.tup xs::ds) (.ref p::vs) (A++B)
 | obj {p C dx ns ws xs ds vs B}:H p=some (.ins C dx (ns.zip ws))->ns.length=ws.length->R F H xs ws []->R F H ds vs B->R F H (.obj C ns xs::ds) (.ref p::vs) B
 | fz {p o ws xs ds vs B}:F p=some (.bz o (.lst ws))->R F H xs ws []->R F H ds vs B->R F H (.fz xs::ds) (.ref p::vs) B
 | bI {p z ds vs B}:rm H p z->R F H ds vs B->R F H (.bI z::ds) (.ref p::vs) B
inductive S(F H:Hp):List D->List V->Prop
 | nil:S F H [] []
 | aw {ds vs}:S F H ds vs->S F H (.aw::ds) (.aw::vs)
 | bl {b ds vs}:S F H ds vs->S F H (.bl b::ds) (.bl b::vs)
 | int {i ds vs}:S F H ds vs->S F H (.int i::ds) (.int i::vs)
 | str {x ds vs}:S F H ds vs->S F H (.str x::ds) (.str x::vs)
 | shr {p ws xs ds vs}:F p=some (.lst ws)->R F H xs ws []->S F H ds vs->S F H (.lst false xs::ds) (.ref p::vs)
 | own {p ws xs ds vs}:H p=some (.lst ws)->S F H xs ws->S F H ds vs->S F H (.lst true xs::ds) (.ref p::vs)
 | tup {p ws xs ds vs}:H p=some (.tup ws)->S F H xs ws->S F H ds vs->S F H (.tup xs::ds) (.ref p::vs)
 | obj {p C dx ns ws xs ds vs}:H p=some (.ins C dx (ns.zip ws))->ns.length=ws.length->R F H xs ws []->S F H ds vs->S F H (.obj C ns xs::ds) (.ref p::vs)
 | fz {p o ws xs ds vs}:F p=some (.bz o (.lst ws))->R F H xs ws []->S F H ds vs->S F H (.fz xs::ds) (.ref p::vs)
 | bI {p z ds vs}:rm H p z->S F H ds vs->S F H (.bI z::ds) (.ref p::vs)
section
variable{F F' H H':Hp}{d:D}{ds es:List D}{v:V}{vs ws:List V}{A B:List Addr}
theorem R.length(r:R F H ds vs A):ds.length=vs.length:=by
 induction r<;>simp_all
theorem S.length(r:S F H ds vs):ds.length=vs.length:=by
 induction r<;>simp_all
theorem R.cons(r:R F H [d] [v] A)(q:R F H ds vs B):R F H (d::ds) (v::vs) (A++B):=by
 cases r with
 | aw r=>cases r;exact .aw q
 | bl r=>cases r;exact .bl q
 | int r=>cases r;exact .int q
 | str r=>cases r;exact .str q
 | shr h x r=>cases r;exact .shr h x q
 | own h f x r=>cases r;simpa using R.own h f x q
 | tup h x r=>cases r;simpa using R.tup h x q
 | obj h l x r=>cases r;exact .obj h l x q
 | fz h x r=>cases r;exact .fz h x q
 | bI h r=>cases r;exact .bI h q
theorem R.cR(r:R F H (d::ds) vs A):∃v bU A1 A2,vs=v::bU/\A=A1++A2/\R F H [d] [v] A1/\R F H ds bU A2:=by
 cases r with
 | aw r=>exact⟨_,_,[],_,rfl,rfl,.aw .nil,r⟩
 | bl r=>exact⟨_,_,[],_,rfl,rfl,.bl .nil,r⟩
 | int r=>exact⟨_,_,[],_,rfl,rfl,.int .nil,r⟩
 | str r=>exact⟨_,_,[],_,rfl,rfl,.str .nil,r⟩
 | shr h x r=>exact⟨_,_,[],_,rfl,rfl,.shr h x .nil,r⟩
 | @own p _ _ A1 _ _ B1 h f x r=>exact⟨_,_,p::A1,B1,rfl,rfl,by simpa using R.own h f x .nil,r⟩
 | @tup p _ _ A1 _ _ B1 h x r=>exact⟨_,_,A1,B1,rfl,rfl,by simpa using R.tup h x .nil,r⟩
 | obj h l x r=>exact⟨_,_,[],_,rfl,rfl,.obj h l x .nil,r⟩
 | fz h x r=>exact⟨_,_,[],_,rfl,rfl,.fz h x .nil,r⟩
 | bI h r=>exact⟨_,_,[],_,rfl,rfl,.bI h .nil,r⟩
theorem S.cons(r:S F H [d] [v])(q:S F H ds vs):S F H (d::ds) (v::vs):=by
 cases r with
 | aw r=>exact .aw q
 | bl r=>exact .bl q
 | int r=>exact .int q
 | str r=>exact .str q
 | shr h x r=>exact .shr h x q
 | own h x r=>exact .own h x q
 | tup h x r=>exact .tup h x q
 | obj h l x r=>exact .obj h l x q
 | fz h x r=>exact .fz h x q
 | bI h r=>exact .bI h q
theorem S.cR(r:S F H (d::ds) vs):∃v bU,vs=v::bU/\S F H [d] [v]/\S F H ds bU:=by
 cases r with
 | aw r=>exact⟨_,_,rfl,.aw .nil,r⟩
 | bl r=>exact⟨_,_,rfl,.bl .nil,r⟩
 | int r=>exact⟨_,_,rfl,.int .nil,r⟩
 | str r=>exact⟨_,_,rfl,.str .nil,r⟩
 | shr h x r=>exact⟨_,_,rfl,.shr h x .nil,r⟩
 | own h x r=>exact⟨_,_,rfl,.own h x .nil,r⟩
 | tup h x r=>exact⟨_,_,rfl,.tup h x .nil,r⟩
 | obj h l x r=>exact⟨_,_,rfl,.obj h l x .nil,r⟩
 | fz h x r=>exact⟨_,_,rfl,.fz h x .nil,r⟩
 | bI h r=>exact⟨_,_,rfl,.bI h .nil,r⟩
theorem R.append:∀{ds:List D} {vs:List V} {A:List Addr},R F H ds vs A->R F H es ws B->R F H (ds++es) (vs++ws) (A++B)
 | [],_,_,r,q=>by cases r;exact q
 | d::ds,_,_,r,q=>by
  obtain⟨v,bU,A1,A2,rfl,rfl,h1,h2⟩:=r.cR
  simpa using h1.cons (R.append h2 q)
theorem S.append:∀{ds:List D} {vs:List V},S F H ds vs->S F H es ws->S F H (ds++es) (vs++ws)
 | [],_,r,q=>by cases r;exact q
 | d::ds,_,r,q=>by
  obtain⟨v,bU,rfl,h1,h2⟩:=r.cR
  exact h1.cons (S.append h2 q)
theorem R.split:∀{ds:List D} {vs:List V} {A:List Addr},R F H (ds++es) vs A->∃v1 v2 A1 A2,vs=v1++v2/\A=A1++A2/\R F H ds v1 A1/\R F H es v2 A2
 | [],vs,A,r=>⟨[],vs,[],A,rfl,rfl,.nil,r⟩
 | d::ds,_,_,r=>by
  obtain⟨v,bU,A1,A2,rfl,rfl,h1,h2⟩:=R.cR (ds:=ds++es) r
  obtain⟨v1,v2,B1,B2,rfl,rfl,h3,h4⟩:=R.split (ds:=ds) h2
  exact⟨v::v1,v2,A1++B1,B2,rfl,by simp,h1.cons h3,h4⟩
theorem R.get:∀{ds:List D} {vs:List V} {A:List Addr} {i:Nat},R F H ds vs A->ds[i]?=some d->∃v A1,vs[i]?=some v/\R F H [d] [v] A1/\A1 ⊆ A
 | [],_,_,_,_,e=>by simp at e
 | d'::ds,_,_,i,r,e=>by
  obtain⟨v,bU,A1,A2,rfl,rfl,h1,h2⟩:=r.cR
  cases i with
  | zero=>simp at e;subst e;exact⟨v,A1,rfl,h1,by simp⟩
  | succ i =>
   obtain⟨w,B1,e2,q,sb⟩:=R.get (ds:=ds) (i:=i) h2 (by simpa using e)
   exact⟨w,B1,by simpa using e2,q,λx hx=>df _ (sb hx)⟩
theorem S.get:∀{ds:List D} {vs:List V} {i:Nat},S F H ds vs->ds[i]?=some d->∃v,vs[i]?=some v/\S F H [d] [v]
 | [],_,_,_,e=>by simp at e
 | d'::ds,_,i,r,e=>by
  obtain⟨v,bU,rfl,h1,h2⟩:=r.cR
  cases i with
  | zero=>simp at e;subst e;exact⟨v,rfl,h1⟩
  | succ i =>
   obtain⟨w,e2,q⟩:=S.get (ds:=ds) (i:=i) h2 (by simpa using e)
   exact⟨w,by simpa using e2,q⟩
theorem S.get':∀{ds:List D} {vs:List V} {i:Nat},S F H ds vs->vs[i]?=some v->∃d,ds[i]?=some d/\S F H [d] [v]
 | [],_,_,r,e=>by cases r;simp at e
 | d'::ds,_,i,r,e=>by
  obtain⟨v,bU,rfl,h1,h2⟩:=r.cR
  cases i with
  | zero=>simp at e;subst e;exact⟨d',rfl,h1⟩
  | succ i =>
   obtain⟨w,e2,q⟩:=S.get' (ds:=ds) (i:=i) h2 (by simpa using e)
   exact⟨w,by simpa using e2,q⟩
theorem S.take:∀{ds:List D} {vs:List V} (n:Nat),S F H ds vs->S F H (ds.take n) (vs.take n)
 | _,_,0,r=>by simpa using S.nil
 | [],_,n+1,r=>by cases r;exact .nil
 | d::ds,_,n+1,r=>by
  obtain⟨v,bU,rfl,h1,h2⟩:=r.cR
  exact h1.cons (S.take n h2)
theorem S.drop:∀{ds:List D} {vs:List V} (n:Nat),S F H ds vs->S F H (ds.drop n) (vs.drop n)
 | _,_,0,r=>by simpa using r
 | [],_,n+1,r=>by cases r;exact .nil
 | d::ds,_,n+1,r=>by
  obtain⟨v,bU,rfl,h1,h2⟩:=r.cR
  exact S.drop n h2
theorem iN{p:Addr}{o:HO}(h:Rd F p o)(s:af F F')(n:jl o=true:=by rfl):Rd F' p o:=by
 rcases h with h | ⟨u,h⟩
 ·exact .inl (s.get _ _ h n)
 ·exact .inr ⟨u,s _ _ h⟩
theorem R.s(r:R F H ds vs A):S F H ds vs:=by
 induction r with
 | nil=>exact .nil
 | aw _ ih=>exact .aw ih
 | bl _ ih=>exact .bl ih
 | int _ ih=>exact .int ih
 | str _ ih=>exact .str ih
 | shr h x _ _ ih=>exact .shr h x ih
 | own h f _ _ i1 i2=>exact .own h i1 i2
 | tup h _ _ i1 i2=>exact .tup h i1 i2
 | obj h l x _ _ ih=>exact .obj h l x ih
 | fz h x _ _ ih=>exact .fz h x ih
 | bI h _ ih=>exact .bI h ih
structure fM(W:List Addr)(H H':Hp):Prop where
 get:∀a o,H a=some o->a ∉ W->(h:jl o=true:=by rfl)->H' a=some o
instance {W:List Addr} {H H':Hp}:CoeFun (fM W H H') λ_=>∀a o,H a=some o->a ∉ W->(h:jl o=true:=by rfl)->H' a=some o:=⟨λs=>@fM.get _ _ _ s⟩
def gx(W:List Addr)(H:Hp):Prop:=∀a∈W,∃ws,H a=some (.lst ws)
theorem R.keep{W:List Addr}(hf:af F F')(hb:fM W H H')(hl:gx W H)(r:R F H ds vs A)(hn:∀a∈A,F' a=none)(hd:∀a∈A,a ∉ W):R F' H' ds vs A:=by
 induction r with
 | nil=>exact .nil
 | aw _ ih=>exact .aw (ih hn hd)
 | bl _ ih=>exact .bl (ih hn hd)
 | int _ ih=>exact .int (ih hn hd)
 | str _ ih=>exact .str (ih hn hd)
 | shr h x _ i1 ih=>exact .shr (hf _ _ h) (i1 (by simp) (by simp)) (ih hn hd)
 | own h f _ _ i1 i2 =>
  refine .own (hb _ _ h (hd _ (by simp))) (hn _ (by simp)) (i1 (λa ha=>hn a ?_) λa ha=>hd a ?_) (i2 (λa ha=>hn a ?_) λa ha=>hd a ?_)<;>simp[ha]
 | @tup p ws _ _ _ _ _ h _ _ i1 i2 =>
  refine .tup (hb _ _ h λz=>?_) (i1 (λa ha=>hn a ?_) λa ha=>hd a ?_) (i2 (λa ha=>hn a ?_) λa ha=>hd a ?_)<;>try simp[ha]
  obtain⟨q,e⟩:=hl _ z
  rw[h]at e;cases e
 | obj h l x _ i1 ih =>
  refine .obj (hb _ _ h λz=>?_) l (i1 (by simp) (by simp)) (ih hn hd)
  obtain⟨q,e⟩:=hl _ z
  rw[h]at e;cases e
 | fz h x _ i1 ih=>exact .fz (hf _ _ h) (i1 (by simp) (by simp)) (ih hn hd)
 | bI h _ ih =>
  exact .bI (h.mono λa o e n t=>hb.get a o e (λz=>by
   obtain⟨q,e'⟩:=hl _ z
   rw[e]at e';cases e';exact n _ rfl) t) (ih hn hd)
theorem fM.same(h:af H H'):fM [] H H':=⟨λa o e _ n=>h.get a o e n⟩
theorem gx.nil:gx [] H:=λa h=>absurd h (by simp)
theorem R.grow(hf:af F F')(hb:af H H')(r:R F H ds vs A)(hn:∀a∈A,F' a=none):R F' H' ds vs A :=
 r.keep hf (fM.same hb) gx.nil hn (by simp)
theorem R.shared(hf:af F F')(hb:af H H')(r:R F H ds vs []):R F' H' ds vs []:=r.grow hf hb (by simp)
theorem S.mono(hf:af F F')(hb:af H H')(r:S F H ds vs):S F' H' ds vs:=by
 induction r with
 | nil=>exact .nil
 | aw _ ih=>exact .aw ih
 | bl _ ih=>exact .bl ih
 | int _ ih=>exact .int ih
 | str _ ih=>exact .str ih
 | shr h x _ ih=>exact .shr (hf _ _ h) (x.shared hf hb) ih
 | own h _ _ i1 i2=>exact .own (hb _ _ h) i1 i2
 | tup h _ _ i1 i2=>exact .tup (hb _ _ h) i1 i2
 | obj h l x _ ih=>exact .obj (hb _ _ h) l (x.shared hf hb) ih
 | fz h x _ ih=>exact .fz (hf _ _ h) (x.shared hf hb) ih
 | bI h _ ih=>exact .bI (h.mono λa o e _ t=>hb.get a o e t) ih
theorem S.r(s:S F H ds vs)(p:ds.all D.pl=true):R F H ds vs []:=by
 induction s with
 | nil=>exact .nil
 | aw _ ih=>exact .aw (ih (by simpa[D.pl]using p))
 | bl _ ih=>exact .bl (ih (by simpa[D.pl]using p))
 | int _ ih=>exact .int (ih (by simpa[D.pl]using p))
 | str _ ih=>exact .str (ih (by simpa[D.pl]using p))
 | shr h x _ ih=>exact .shr h x (ih (by simp[fZ]at p;simpa using p.2))
 | own h _ _ i1 i2=>simp[fZ]at p
 | tup h _ _ i1 i2 =>
  rw[dy,kK,eH]at p
  simpa using R.tup h (i1 p.1) (i2 p.2)
 | obj h l x _ ih=>exact .obj h l x (ih (by simpa[D.pl]using p))
 | fz h x _ ih=>exact .fz h x (ih (by simpa[D.pl]using p))
 | bI h _ ih=>exact .bI h (ih (by simpa[D.pl]using p))
theorem R.pl(r:R F H ds vs []):ds.all D.pl=true:=by
 generalize e:([]:List Addr)=A at r
 induction r with
 | nil=>rfl
 | aw _ ih=>simp[D.pl];simpa using ih e
 | bl _ ih=>simp[D.pl];simpa using ih e
 | int _ ih=>simp[D.pl];simpa using ih e
 | str _ ih=>simp[D.pl];simpa using ih e
 | shr h x _ i1 ih=>simp only[dy,fZ,i1 rfl,ih e];rfl
 | own h f _ _ i1 i2=>cases e
 | tup h _ _ i1 i2 =>
  obtain⟨e1,e2⟩:=qF.mp e.symm
  simp only[dy,kK,i1 e1.symm,i2 e2.symm];rfl
 | obj h l x _ i1 ih=>simp[D.pl];simpa using ih e
 | fz h x _ i1 ih=>simp[D.pl];simpa using ih e
 | bI h _ ih=>simp[D.pl];simpa using ih e
theorem D.D3:∀{d:D},d.pl=true->d.sh=d
 | .aw,_=>rfl
 | .bl _,_=>rfl
 | .int _,_=>rfl
 | .str _,_=>rfl
 | .obj _ _ _,_=>rfl
 | .fz _,_=>rfl
 | .bI _,_=>rfl
 | .lst o xs,h=>by
  rw[fZ,eH]at h
  have:∀(l:List D),(∀x∈l,x∈xs)->l.all D.pl=true->l.map D.sh=l:=by
   intro l hl hp
   induction l with
   | nil=>rfl
   | cons x l ih =>
    simp only[dy,eH]at hp
    have hx:x∈xs:=hl x (by simp)
    rw[dv,D.D3 hp.1,ih (λy hy=>hl y (by simp[hy])) hp.2]
  rw[dQ,this xs (λ_ h=>h) h.2]
  cases o<;>simp_all
 | .tup xs,h=>by
  rw[kK]at h
  have:∀(l:List D),(∀x∈l,x∈xs)->l.all D.pl=true->l.map D.sh=l:=by
   intro l hl hp
   induction l with
   | nil=>rfl
   | cons x l ih =>
    simp only[dy,eH]at hp
    have hx:x∈xs:=hl x (by simp)
    rw[dv,D.D3 hp.1,ih (λy hy=>hl y (by simp[hy])) hp.2]
  rw[mx,this xs (λ_ h=>h) h]
termination_by d=>sizeOf d
theorem my{l:List D}(h:l.all D.pl=true):l.map D.sh=l:=by
 induction l with
 | nil=>rfl
 | cons x l ih =>
  simp only[dy,eH]at h
  rw[dv,D.D3 h.1,ih h.2]
theorem S.frozen(e:af F H)(s:S F H ds vs):R H H (ds.map D.sh) vs []:=by
 induction s with
 | nil=>exact .nil
 | aw _ ih=>exact .aw ih
 | bl _ ih=>exact .bl ih
 | int _ ih=>exact .int ih
 | str _ ih=>exact .str ih
 | shr h x _ ih =>
  rw[dv,dQ,my x.pl]
  exact .shr (e _ _ h) (x.shared e (af.refl _)) ih
 | own h _ _ i1 i2=>rw[dv,dQ];exact .shr h i1 i2
 | tup h _ _ i1 i2=>rw[dv,mx];simpa using R.tup h i1 i2
 | obj h l x _ ih=>exact .obj h l (x.shared e (af.refl _)) ih
 | fz h x _ ih=>exact .fz (e _ _ h) (x.shared e (af.refl _)) ih
 | bI h _ ih=>exact .bI h ih
def bz(F H:Hp)(A:List Addr):Hp:=λa=>if a∈A then H a else F a
theorem iy(e:af F H):af F (bz F H A):=⟨λa o h n=>by unfold bz;split;exact e.get _ _ h n;exact h,λa ps h=>by unfold bz;split;exact e.tb _ _ h;exact⟨#[],by rw[h];simp⟩⟩
theorem nK(e:af F H):af (bz F H A) H:=⟨λa o h n=>by unfold bz at h;split at h;exact h;exact e.get _ _ h n,λa ps h=>by unfold bz at h;split at h;exact⟨#[],by rw[h];simp⟩;exact e.tb _ _ h⟩
theorem pd{a:Addr}(h:a ∉ A):bz F H A a=F a:=by unfold bz;rw[if_neg h]
theorem cL3{a:Addr}(h:a∈A):bz F H A a=H a:=by unfold bz;rw[if_pos h]
theorem R.bz(e:af F H)(r:R F H ds vs A):∀A',A ⊆ A'->R (L3.bz F H A') H (ds.map D.sh) vs []:=by
 induction r with
 | nil=>exact λ_ _=>.nil
 | aw _ ih=>exact λA' h=>.aw (ih A' h)
 | bl _ ih=>exact λA' h=>.bl (ih A' h)
 | int _ ih=>exact λA' h=>.int (ih A' h)
 | str _ ih=>exact λA' h=>.str (ih A' h)
 | shr h x _ i1 ih =>
  intro A' hA
  rw[dv,dQ,my x.pl]
  exact .shr (iy e _ _ h) (x.shared (iy e) (af.refl _)) (ih A' hA)
 | own h f _ _ i1 i2 =>
  intro A' hA
  rw[dv,dQ]
  exact .shr ((cL3 (hA (by simp))).trans h) (i1 A' λa ha=>hA (by simp[ha])) (i2 A' λa ha=>hA (by simp[ha]))
 | tup h _ _ i1 i2 =>
  intro A' hA
  rw[dv,mx]
  simpa using R.tup h (i1 A' λa ha=>hA (by simp[ha])) (i2 A' λa ha=>hA (by simp[ha]))
 | obj h l x _ i1 ih=>exact λA' hA=>.obj h l (x.shared (iy e) (af.refl _)) (ih A' hA)
 | fz h x _ i1 ih=>exact λA' hA=>.fz (iy e _ _ h) (x.shared (iy e) (af.refl _)) (ih A' hA)
 | bI h _ ih=>exact λA' hA=>.bI h (ih A' hA)
theorem R.lists(r:R F H ds vs A):∀a∈A,(∃ws,H a=some (.lst ws))/\F a=none:=by
 induction r with
 | nil=>simp
 | aw _ ih=>exact ih
 | bl _ ih=>exact ih
 | int _ ih=>exact ih
 | str _ ih=>exact ih
 | shr h x _ i1 ih=>exact ih
 | own h f _ _ i1 i2 =>
  intro a ha
  rcases cz.mp ha with rfl | ha
  ·exact⟨⟨_,h⟩,f⟩
  ·exact(bZ.mp ha).elim (i1 a) (i2 a)
 | tup h _ _ i1 i2=>exact λa ha=>(bZ.mp ha).elim (i1 a) (i2 a)
 | obj h l x _ i1 ih=>exact ih
 | fz h x _ i1 ih=>exact ih
 | bI h _ ih=>exact ih
theorem R.rq(r:R F H ds vs A)(hd:ds.all D.fr=true)(e:af F' F):R F' H ds vs A:=by
 induction r with
 | nil=>exact .nil
 | aw _ ih=>exact .aw (ih (by simpa[D.fr]using hd))
 | bl _ ih=>exact .bl (ih (by simpa[D.fr]using hd))
 | int _ ih=>exact .int (ih (by simpa[D.fr]using hd))
 | str _ ih=>exact .str (ih (by simpa[D.fr]using hd))
 | shr h x _ i1 ih=>simp[fL]at hd
 | own h f _ _ i1 i2 =>
  rw[dy,fL,eH,lQ]at hd
  exact .own h (e.free f) (i1 hd.1) (i2 hd.2)
 | tup h _ _ i1 i2 =>
  rw[dy,rn,eH]at hd
  exact .tup h (i1 hd.1) (i2 hd.2)
 | obj h l x _ i1 ih=>simp[D.fr]at hd
 | fz h x _ i1 ih=>simp[D.fr]at hd
 | bI h _ ih=>exact .bI h (ih (by simpa[D.fr]using hd))
theorem R.inj(r:R F H ds vs A):∀{B:List Addr},R F H ds vs B->A=B:=by
 induction r with
 | nil=>intro B q;cases q;rfl
 | aw _ ih=>intro B q;cases q with | aw q=>exact ih q
 | bl _ ih=>intro B q;cases q with | bl q=>exact ih q
 | int _ ih=>intro B q;cases q with | int q=>exact ih q
 | str _ ih=>intro B q;cases q with | str q=>exact ih q
 | shr h x _ i1 ih=>intro B q;cases q with | shr _ _ q=>exact ih q
 | own h f _ _ i1 i2 =>
  intro B q
  cases q with
  | own h' f' x' q =>
   rw[h]at h';cases h'
   rw[i1 x',i2 q]
 | tup h _ _ i1 i2 =>
  intro B q
  cases q with
  | tup h' x' q =>
   rw[h]at h';cases h'
   rw[i1 x',i2 q]
 | obj h l x _ i1 ih=>intro B q;cases q with | obj _ _ _ q=>exact ih q
 | fz h x _ i1 ih=>intro B q;cases q with | fz _ _ q=>exact ih q
 | bI h _ ih=>intro B q;cases q with | bI _ q=>exact ih q
theorem R.perm{ps qs:List (D × V)}(hp:ps.Perm qs):∀{A:List Addr},R F H (ps.map (·.1)) (ps.map (·.2)) A->∃A',R F H (qs.map (·.1)) (qs.map (·.2)) A'/\A.Perm A':=by
 induction hp with
 | nil=>exact λr=>⟨_,r,.refl _⟩
 | cons x _ ih =>
  intro A r
  obtain⟨v,bU,A1,A2,e,rfl,h1,h2⟩:=R.cR r
  obtain⟨rfl,rfl⟩:=m9 e
  obtain⟨A',r',p⟩:=ih h2
  exact⟨A1++A',h1.cons r',p.append_left _⟩
 | swap x y l =>
  intro A r
  obtain⟨v,bU,A1,A2,e,rfl,h1,h2⟩:=R.cR r
  obtain⟨rfl,rfl⟩:=m9 e
  obtain⟨v2,J4,B1,B2,e,rfl,h3,h4⟩:=R.cR h2
  obtain⟨rfl,rfl⟩:=m9 e
  exact⟨B1++(A1++B2),h3.cons (h1.cons h4),by rw[<-dh,<- dh];exact oK.append_right _⟩
 | trans _ _ i1 i2 =>
  intro A r
  obtain⟨A',r',p⟩:=i1 r
  obtain⟨A2,r2,p2⟩:=i2 r'
  exact⟨A2,r2,p.trans p2⟩
def Full(F H:Hp):Prop:=∀a o,H a=some o->(∀ws,o≠.lst ws)->F a=some o
theorem Full.refl(H:Hp):Full H H:=λ_ _ h _=>h
theorem R.full(hF:Full F H)(hs:af F H')(r:R F H ds vs A)(e:A=[]):R F H' ds vs []:=by
 induction r with
 | nil=>exact .nil
 | aw _ ih=>exact .aw (ih e)
 | bl _ ih=>exact .bl (ih e)
 | int _ ih=>exact .int (ih e)
 | str _ ih=>exact .str (ih e)
 | shr h x _ i1 ih=>exact .shr h (i1 rfl) (ih e)
 | own h f _ _ i1 i2=>cases e
 | tup h _ _ i1 i2 =>
  obtain⟨e1,e2⟩:=qF.mp e
  exact R.tup (A:=[]) (B:=[]) (hs _ _ (hF _ _ h (by intro ws z;cases z))) (i1 e1) (i2 e2)
 | obj h l x _ i1 ih=>exact .obj (hs _ _ (hF _ _ h (by intro ws z;cases z))) l (i1 rfl) (ih e)
 | fz h x _ i1 ih=>exact .fz h (i1 rfl) (ih e)
 | bI h _ ih=>exact .bI (h.mono λa o e n t=>hs.get a o (hF a o e n) t) (ih e)
open Classical in
def snap(F H:Hp):Hp:=λa=>if(∃o,H a=some o/\∀ws,o≠.lst ws)then H a else F a
theorem uM:Full (snap F H) H:=λa o h n=>by unfold snap;rw[if_pos ⟨o,h,n⟩];exact h
theorem rz(e:af F H):af F (snap F H):=⟨λa o h n=>by
 unfold snap;split
 ·exact e.get a o h n
 ·exact h,λa ps h=>by
 unfold snap;split
 ·exact e.tb a ps h
 ·exact⟨#[],by rw[h];simp⟩⟩
theorem cl9(e:af F H):af (snap F H) H:=⟨λa o h n=>by
 unfold snap at h;split at h
 ·exact h
 ·exact e.get a o h n,λa ps h=>by
 unfold snap at h;split at h
 ·exact⟨#[],by rw[h];simp⟩
 ·exact e.tb a ps h⟩
theorem b87(e:af F H){a:Addr}{ws:List V}(h:snap F H a=some (.lst ws)):F a=some (.lst ws):=by
 unfold snap at h;split at h
 ·rename_i z
  obtain⟨o,h1,h2⟩:=z
  rw[h]at h1;exact absurd (cV h1).symm (h2 ws)
 ·exact h
theorem b86{a:Addr}{ws:List V}(h:H a=some (.lst ws))(n:F a=none):snap F H a=none:=by
 unfold snap;split
 ·rename_i z
  obtain⟨o,h1,h2⟩:=z
  rw[h]at h1;exact absurd (cV h1).symm (h2 ws)
 ·exact n
end
end L3
namespace L3
open PySem L2
abbrev Dl:=List (Option D)
inductive RS(F H:Hp):Dl->St->List Addr->Prop
 | nil:RS F H [] [] []
 | aw {δ σ o C}:RS F H δ σ C->RS F H (none::δ) (o::σ) C
 | dR {d v A δ σ C}:R F H [d] [v] A->RS F H δ σ C->RS F H (some d::δ) (some v::σ) (A++C)
theorem gy{A B:List Addr}:(A++B).Nodup↔A.Nodup/\B.Nodup/\∀a∈A,a ∉ B:=by
 rw[List.nodup_append]
 constructor
 ·rintro⟨h1,h2,h3⟩;exact⟨h1,h2,λa ha hb=>h3 a ha a hb rfl⟩
 ·rintro⟨h1,h2,h3⟩;exact⟨h1,h2,λa ha b hb e=>h3 a ha (e ▸ hb)⟩
section
variable{F F' H H':Hp}{d:D}{v:V}{δ:Dl}{σ:St}{A C:List Addr}{i:Nat}
theorem RS.length(r:RS F H δ σ C):δ.length=σ.length:=by induction r<;>simp_all
theorem RS.pick:∀{δ:Dl} {σ:St} {C:List Addr} {i:Nat},RS F H δ σ C->δ[i]?=some (some d)->∃v A C',σ[i]?=some (some v)/\R F H [d] [v] A/\RS F H (δ.set i none) σ C'/\C.Perm (A++C')
 | _,_,_,_,.nil,e=>by simp at e
 | _,_,_,i,.aw r,e=>by
  cases i with
  | zero=>simp at e
  | succ i =>
   obtain⟨v,A,C',e1,h1,h2,p⟩:=RS.pick r (by simpa using e)
   exact⟨v,A,C',by simpa using e1,h1,.aw h2,p⟩
 | _,_,_,i,.dR (A:=A0) (C:=C0) h r,e=>by
  cases i with
  | zero =>
   simp at e;subst e
   exact⟨_,A0,C0,rfl,h,.aw r,.refl _⟩
  | succ i =>
   obtain⟨v,A,C',e1,h1,h2,p⟩:=RS.pick r (by simpa using e)
   refine⟨v,A,A0++C',by simpa using e1,h1,.dR h h2,(p.append_left A0).trans ?_⟩
   rw[<-dh,<- dh]
   exact oK.append_right _
theorem RS.fill:∀{δ:Dl} {σ:St} {C:List Addr} {i:Nat},RS F H δ σ C->δ[i]?=some none->σ[i]?=some (some v)->R F H [d] [v] A->∃C',RS F H (δ.set i (some d)) σ C'/\C'.Perm (A++C)
 | _,_,_,_,.nil,e,_,_=>by simp at e
 | _,_,_,i,.aw r,e,e2,h=>by
  cases i with
  | zero=>simp at e2;subst e2;exact⟨_,.dR h r,.refl _⟩
  | succ i =>
   obtain⟨C',h1,p⟩:=RS.fill r (by simpa using e) (by simpa using e2) h
   exact⟨C',.aw h1,p⟩
 | _,_,_,i,.dR (A:=A0) (C:=C0) h0 r,e,e2,h=>by
  cases i with
  | zero=>simp at e
  | succ i =>
   obtain⟨C',h1,p⟩:=RS.fill r (by simpa using e) (by simpa using e2) h
   refine⟨A0++C',.dR h0 h1,(p.append_left A0).trans ?_⟩
   rw[<-dh,<- dh]
   exact oK.append_right _
theorem RS.drop:∀{δ:Dl} {σ:St} {C:List Addr} (i:Nat),RS F H δ σ C->∃C',RS F H (δ.set i none) σ C'/\C'.Sublist C
 | _,_,_,_,.nil=>⟨_,.nil,.refl _⟩
 | _,_,_,i,.aw r=>by
  cases i with
  | zero=>exact⟨_,.aw r,.refl _⟩
  | succ i=>obtain⟨C',h,s⟩:=RS.drop i r;exact⟨C',.aw h,s⟩
 | _,_,_,i,.dR (A:=A0) h0 r=>by
  cases i with
  | zero=>exact⟨_,.aw r,List.sublist_append_right _ _⟩
  | succ i=>obtain⟨C',h,s⟩:=RS.drop i r;exact⟨_,.dR h0 h,(Vi A0).append s⟩
theorem RS.Ad:∀{δ:Dl} {σ:St} {C:List Addr} {i:Nat} (o:Option V),RS F H δ σ C->(δ[i]?=some none\/δ[i]?=none)->RS F H δ (σ.set i o) C
 | _,_,_,_,_,.nil,_=>.nil
 | _,_,_,i,_,.aw r,e=>by
  cases i with
  | zero=>exact .aw r
  | succ i=>exact .aw (RS.Ad _ r (by simpa using e))
 | _,_,_,i,_,.dR h0 r,e=>by
  cases i with
  | zero=>simp at e
  | succ i=>exact .dR h0 (RS.Ad _ r (by simpa using e))
theorem RS.keep{W:List Addr}(hf:af F F')(hb:fM W H H')(hl:gx W H)(r:RS F H δ σ C)(hn:∀a∈C,F' a=none)(hd:∀a∈C,a ∉ W):RS F' H' δ σ C:=by
 induction r with
 | nil=>exact .nil
 | aw _ ih=>exact .aw (ih hn hd)
 | dR h _ ih=>exact .dR (h.keep hf hb hl (λa ha=>hn a (by simp[ha])) λa ha=>hd a (by simp[ha])) (ih (λa ha=>hn a (by simp[ha])) λa ha=>hd a (by simp[ha]))
theorem RS.lists(r:RS F H δ σ C):∀a∈C,(∃ws,H a=some (.lst ws))/\F a=none:=by
 induction r with
 | nil=>simp
 | aw _ ih=>exact ih
 | dR h _ ih=>exact λa ha=>(bZ.mp ha).elim (h.lists a) (ih a)
end
structure Bs where
 H0:Hp
 F0:Hp
structure aq(B:Bs)(F H:Hp)(σ:St)(δ:Dl)(ts:List (D × V)):Prop where
 ext:af F H
 b1:af B.H0 H
 b2:af B.F0 F
 b3:∀a ws,F a=some (.lst ws)->B.F0 a=some (.lst ws)\/B.H0 a=none
 own:∃A C,R F H (ts.map (·.1)) (ts.map (·.2)) A/\RS F H δ σ C/\(A++C).Nodup/\∀a∈A++C,B.H0 a=none
section
variable{B:Bs}{F F' H H':Hp}{d:D}{v:V}{δ:Dl}{σ:St}{ts ps:List (D × V)}{A C W:List Addr}{i:Nat}{p:Addr}{xs ys:List D}{vs ws:List V}
theorem aq.look(c:aq B F H σ δ ts)(e:δ[i]?=some (some d)):∃v,σ[i]?=some (some v)/\S F H [d] [v]:=by
 obtain⟨A,C,r,s,nd,fr⟩:=c.own
 obtain⟨v,A',C',e1,h1,h2,p⟩:=s.pick e
 exact⟨v,e1,h1.s⟩
theorem aq.len(c:aq B F H σ δ ts):δ.length=σ.length:=let⟨_,_,_,s,_⟩:=c.own;s.length
theorem aq.grow(c:aq B F H σ δ ts)(h:af H H'):aq B F H' σ δ ts:=by
 obtain⟨A,C,r,s,nd,fr⟩:=c.own
 exact⟨c.ext.trans h,c.b1.trans h,c.b2,c.b3,A,C,r.grow (af.refl _) h λa ha=>(r.lists a ha).2,s.keep (af.refl _) (fM.same h) gx.nil (λa ha=>(s.lists a ha).2) (by simp),nd,fr⟩
theorem aq.pop(c:aq B F H σ δ ((d,v)::ts)):aq B F H σ δ ts:=by
 obtain⟨A,C,r,s,nd,fr⟩:=c.own
 obtain⟨w,bU,A1,A2,e,rfl,h1,h2⟩:=R.cR r
 obtain⟨rfl,rfl⟩:=m9 e
 refine⟨c.ext,c.b1,c.b2,c.b3,A2,C,h2,s,?_,λa ha=>fr a (by simp at ha ⊢;exact .inr ha)⟩
 rw[dh]at nd
 exact(gy.mp nd).2.1
theorem aq.top(c:aq B F H σ δ ((d,v)::ts)):S F H [d] [v]:=by
 obtain⟨A,C,r,s,nd,fr⟩:=c.own
 obtain⟨w,bU,A1,A2,e,rfl,h1,h2⟩:=R.cR r
 obtain⟨rfl,rfl⟩:=m9 e
 exact h1.s
theorem aq.pushS(c:aq B F H σ δ ts)(s:S F H [d] [v])(pl:d.pl=true):aq B F H σ δ ((d,v)::ts):=by
 obtain⟨A,C,r,q,nd,fr⟩:=c.own
 exact⟨c.ext,c.b1,c.b2,c.b3,A,C,(s.r (by simp[pl])).cons r,q,nd,fr⟩
theorem af.upd{o:HO}(h:H p=none):af H (upd H p o):=.of λb u e=>by rw[bf (eU e h)];exact e
theorem aq.pack(c:aq B F H σ δ (ps++ts))(hs:af H H')(k:∀A1,R F H' (ps.map (·.1)) (ps.map (·.2)) A1->A1.Nodup->∃A',R F H' [d] [v] A'/\A'.Nodup/\∀a∈A',a∈A1\/H a=none):aq B F H' σ δ ((d,v)::ts):=by
 obtain⟨A,C,r,s,nd,fr⟩:=c.own
 rw[fv,fv]at r
 obtain⟨v1,v2,A1,A2,e,rfl,h1,h2⟩:=R.split r
 have l1:(ps.map (·.2)).length=v1.length:=by rw[<-h1.length];simp
 obtain⟨rfl,rfl⟩:=zh e l1
 rw[dh]at nd fr
 obtain⟨n1,n2,n3⟩:=gy.mp nd
 have g1:=h1.grow (af.refl F) hs λa ha=>(h1.lists a ha).2
 have g2:=h2.grow (af.refl F) hs λa ha=>(h2.lists a ha).2
 have gs:=s.keep (af.refl F) (fM.same hs) gx.nil (λa ha=>(s.lists a ha).2) (by simp)
 obtain⟨A',r',Ae,sub⟩:=k A1 g1 n1
 refine⟨c.ext.trans hs,c.b1.trans hs,c.b2,c.b3,A'++A2,C,r'.cons g2,gs,?_,?_⟩
 ·rw[dh]
  refine gy.mpr ⟨Ae,n2,λa ha hb=>?_⟩
  rcases sub a ha with z | z
  ·exact n3 a z hb
  ·rcases bZ.mp hb with y | y
   ·obtain⟨⟨_,q⟩,_⟩:=h2.lists a y;rw[z]at q;cases q
   ·obtain⟨⟨_,q⟩,_⟩:=s.lists a y;rw[z]at q;cases q
 ·intro a ha
  rw[dh]at ha
  rcases bZ.mp ha with y | y
  ·rcases sub a y with z | z
   ·exact fr a (by simp[z])
   ·exact c.b1.free z
  ·exact fr a (df _ y)
theorem aq.J5(c:aq B F H σ δ ts)(hs:af H H')(r:R F H' [d] [v] A)(nd:A.Nodup)(fr:∀a∈A,H a=none):aq B F H' σ δ ((d,v)::ts) :=
 aq.pack (ps:=[]) c hs λ_ _ _=>⟨A,r,nd,λa ha=>.inr (fr a ha)⟩
theorem aq.pf(c:aq B F H σ δ ts)(hp:H p=none)(s:S F H xs vs)(pl:xs.all D.pl=true):aq B F (upd H p (.lst vs)) σ δ ((.lst true xs,.ref p)::ts) :=
 c.J5 (af.upd hp) (A:=[p]) (by simpa using R.own bM (c.ext.free hp) ((s.r pl).shared (af.refl _) (af.upd hp)) .nil) (by simp) (by simp[hp])
theorem aq.d37(c:aq B F H σ δ (ps++ts))(hp:H p=none):aq B F (upd H p (.lst (ps.map (·.2)))) σ δ ((.lst true (ps.map (·.1)),.ref p)::ts):=by
 refine c.pack (af.upd hp) λA1 r nd=>⟨p::A1,by simpa using R.own bM (c.ext.free hp) r .nil,jW.mpr ⟨λh=>?_,nd⟩,λa ha=>?_⟩
 ·obtain⟨A,C,r0,_,_,_⟩:=c.own
  rw[fv,fv]at r0
  obtain⟨v1,v2,B1,B2,e,rfl,h1,h2⟩:=R.split r0
  have l1:(ps.map (·.2)).length=v1.length:=by rw[<-h1.length];simp
  obtain⟨rfl,rfl⟩:=zh e l1
  have g1:=h1.grow (af.refl F) (af.upd (o:=.lst (ps.map (·.2))) hp) λa ha=>(h1.lists a ha).2
  have:A1=B1:=R.inj r g1
  subst this
  obtain⟨⟨_,q⟩,_⟩:=h1.lists p h
  rw[hp]at q;cases q
 ·rcases cz.mp ha with rfl | h
  ·exact .inr hp
  ·exact .inl h
theorem aq.d38(c:aq B F H σ δ (ps++ts))(hp:H p=none):aq B F (upd H p (.tup (ps.map (·.2)))) σ δ ((.tup (ps.map (·.1)),.ref p)::ts) :=
 c.pack (af.upd hp) λA1 r nd=>⟨A1,by simpa using R.tup (F:=F) bM r .nil,nd,λa ha=>.inl ha⟩
theorem aq.perm(c:aq B F H σ δ ps)(h:ps.Perm ts):aq B F H σ δ ts:=by
 obtain⟨A,C,r,s,nd,fr⟩:=c.own
 obtain⟨A',r',p⟩:=r.perm h
 have pp:=p.append_right C
 exact⟨c.ext,c.b1,c.b2,c.b3,A',C,r',s,pp.nodup_iff.mp nd,λa ha=>fr a (pp.mem_iff.mpr ha)⟩
theorem aq.move(c:aq B F H σ δ ts)(e:δ[i]?=some (some d)):∃v,σ[i]?=some (some v)/\aq B F H σ (δ.set i none) ((d,v)::ts):=by
 obtain⟨A,C,r,s,nd,fr⟩:=c.own
 obtain⟨v,A',C',e1,h1,h2,p⟩:=s.pick e
 have pp:(A++C).Perm ((A'++A)++C'):=by
  refine(p.append_left A).trans ?_
  rw[<-dh]
  exact oK.append_right _
 exact⟨v,e1,c.ext,c.b1,c.b2,c.b3,A'++A,C',h1.cons r,h2,pp.nodup_iff.mp nd,λa ha=>fr a (pp.mem_iff.mpr ha)⟩
theorem aq.forget(c:aq B F H σ δ ts)(i:Nat):aq B F H σ (δ.set i none) ts:=by
 obtain⟨A,C,r,s,nd,fr⟩:=c.own
 obtain⟨C',h,sb⟩:=s.drop i
 exact⟨c.ext,c.b1,c.b2,c.b3,A,C',r,h,nd.sublist ((Vi A).append sb),λa ha=>fr a (((Vi A).append sb).subset ha)⟩
theorem aq.fill(c:aq B F H σ δ ((d,v)::ts))(e:δ[i]?=some none)(e2:σ[i]?=some (some v)):aq B F H σ (δ.set i (some d)) ts:=by
 obtain⟨A,C,r,s,nd,fr⟩:=c.own
 obtain⟨w,bU,A1,A2,e',rfl,h1,h2⟩:=R.cR r
 obtain⟨rfl,rfl⟩:=m9 e'
 obtain⟨C',s',p⟩:=s.fill e e2 h1
 have pp:((A1++A2)++C).Perm (A2++C'):=by
  refine((oK (l₁:=A1) (l₂:=A2)).append_right C).trans ?_
  rw[dh]
  exact(p.symm).append_left A2
 exact⟨c.ext,c.b1,c.b2,c.b3,A2,C',h2,s',pp.nodup_iff.mp nd,λa ha=>fr a (pp.mem_iff.mpr ha)⟩
theorem aq.Ad(c:aq B F H σ δ ts)(o:Option V)(e:δ[i]?=some none\/δ[i]?=none):aq B F H (σ.set i o) δ ts:=by
 obtain⟨A,C,r,s,nd,fr⟩:=c.own
 exact⟨c.ext,c.b1,c.b2,c.b3,A,C,r,s.Ad o e,nd,fr⟩
theorem aq.store(c:aq B F H σ δ ((d,v)::ts))(i:Nat):aq B F H (σ.set i (some v)) (δ.set i (some d)) ts:=by
 by_cases hi:i<δ.length
 ·have c1:=c.forget i
  have hs:i<σ.length:=by rw[<-c.len];exact hi
  have e:(δ.set i none)[i]?=some none:=by simp[hi]
  have c2:=(c1.Ad (some v) (.inl e)).fill (i:=i) e (by simp[hs])
  rwa [Df]at c2
 ·have hs:¬ i<σ.length:=by rw[<-c.len];exact hi
  rw[dD5 (by omega),dD5 (by omega)]
  exact c.pop
theorem aq.mut(c:aq B F H σ δ (ps++ts))(e:δ[i]?=some (some (.lst true xs)))(e2:σ[i]?=some (some (.ref p)))
  (k:∀ws A1 A2,H p=some (.lst ws)->R F H xs ws A1->R F H (ps.map (·.1)) (ps.map (·.2)) A2->(A1++A2).Nodup->∃A',R F H ys vs A'/\A'.Nodup/\∀a∈A',a∈A1++A2) :
  aq B F (upd H p (.lst vs)) σ (δ.set i (some (.lst true ys))) ts:=by
 have hi:i<δ.length:=(iZ.mp e).1
 obtain⟨v,e3,c1⟩:=c.move e
 rw[e2]at e3;cases e3
 obtain⟨A,C,r,s,nd,fr⟩:=c1.own
 have r':R F H (([.lst true xs]++ps.map (·.1))++ts.map (·.1)) ((.ref p::ps.map (·.2))++ts.map (·.2)) A:=by simpa using r
 obtain⟨v1,v2,A1,A2,e4,rfl,h1,h2⟩:=R.split r'
 have l1:(V.ref p::ps.map (·.2)).length=v1.length:=by rw[<-h1.length];simp
 obtain⟨rfl,rfl⟩:=zh e4 l1
 cases h1 with
 | @own _ D4 _ B1 _ _ B2 hH hF hx hr =>
  rw[dh]at nd fr
  obtain⟨n1,n2,n3⟩:=gy.mp nd
  obtain⟨m1,m2⟩:=jW.mp n1
  obtain⟨A',ra,J6,sub⟩:=k D4 B1 B2 hH hx hr m2
  have pA:p ∉ A':=λz=>m1 (sub _ z)
  have pR:p ∉ A2++C:=λz=>n3 p (by simp) z
  have but:fM [p] H (upd H p (.lst vs)):=⟨λa o q z _=>by rw[bf (by simpa using z)];exact q⟩
  have hl:gx [p] H:=λa ha=>by rw[fk.mp ha];exact⟨_,hH⟩
  have g1:=ra.keep (af.refl F) but hl (λa ha=>(ra.lists a ha).2) λa ha z=>pA (by rw[<-fk.mp z];exact ha)
  have g2:=h2.keep (af.refl F) but hl (λa ha=>(h2.lists a ha).2) λa ha z=>pR (by rw[<-fk.mp z];exact eZ _ ha)
  have gs:=s.keep (af.refl F) but hl (λa ha=>(s.lists a ha).2) λa ha z=>pR (by rw[<-fk.mp z];exact df _ ha)
  have fp:B.H0 p=none:=fr p (by simp)
  have b1:af B.H0 (upd H p (.lst vs)):=⟨λa o q n=>by
   rw[bf (λz=>by rw[z,fp]at q;cases q)]
   exact c1.b1.get a o q n,λa ps q=>by
   rw[bf (λz=>by rw[z,fp]at q;cases q)]
   exact c1.b1.tb a ps q⟩
  have ext:af F (upd H p (.lst vs)):=⟨λa o q n=>by
   rw[bf (λz=>by rw[z,hF]at q;cases q)]
   exact c1.ext.get a o q n,λa ps q=>by
   rw[bf (λz=>by rw[z,hF]at q;cases q)]
   exact c1.ext.tb a ps q⟩
  have c2:aq B F (upd H p (.lst vs)) σ (δ.set i none) ((.lst true ys,.ref p)::ts):=by
   refine⟨ext,b1,c1.b2,c1.b3,(p::A')++A2,C,R.cons (by simpa using R.own bM hF g1 .nil) g2,gs,?_,?_⟩
   ·rw[dh]
    refine gy.mpr ⟨jW.mpr ⟨pA,J6⟩,n2,λa ha hb=>?_⟩
    rcases cz.mp ha with rfl | ha
    ·exact pR hb
    ·exact n3 a (gq _ (sub a ha)) hb
   ·intro a ha
    rw[dh]at ha
    rcases bZ.mp ha with z | z
    ·rcases cz.mp z with rfl | z
     ·exact fp
     ·exact fr a (eZ _ (gq _ (sub a z)))
    ·exact fr a (df _ z)
  have c3:=c2.fill (i:=i) (by simp[hi]) e2
  rwa [Df]at c3
theorem aq.J7(c:aq B F H σ δ ((d,v)::ts)):∃F',af F F'/\aq B F' H σ δ ((d.sh,v)::ts):=by
 obtain⟨A,C,r,s,nd,fr⟩:=c.own
 obtain⟨w,bU,A1,A2,e',rfl,h1,h2⟩:=R.cR r
 obtain⟨rfl,rfl⟩:=m9 e'
 rw[dh]at nd fr
 obtain⟨n1,n2,n3⟩:=gy.mp nd
 have out:∀a∈A2++C,bz F H A1 a=F a:=λa ha=>pd λz=>n3 a z ha
 have b3:∀a o,bz F H A1 a=some (.lst o)->B.F0 a=some (.lst o)\/B.H0 a=none:=λa o q=>by
  by_cases z:a∈A1
  ·exact .inr (fr a (eZ _ z))
  ·rw[pd z]at q;exact c.b3 a o q
 refine⟨bz F H A1,iy c.ext,nK c.ext,c.b1,c.b2.trans (iy c.ext),b3,A2,C,?_,?_,n2,λa ha=>fr a (df _ ha)⟩
 ·have g1:=h1.bz c.ext A1 (λ_ h=>h)
  exact R.cons (A:=[]) g1 (h2.keep (iy c.ext) (fM.same (af.refl H)) gx.nil (λa ha=>by rw[out a (eZ _ ha)];exact(h2.lists a ha).2) (by simp))
 ·exact s.keep (iy c.ext) (fM.same (af.refl H)) gx.nil (λa ha=>by rw[out a (df _ ha)];exact(s.lists a ha).2) (by simp)
theorem aq.freeze(c:aq B F H σ δ ts)(e:δ[i]?=some (some d)):∃F',af F F'/\aq B F' H σ (δ.set i (some d.sh)) ts:=by
 have hi:i<δ.length:=(iZ.mp e).1
 obtain⟨v,e2,c1⟩:=c.move e
 obtain⟨F',s,c2⟩:=c1.J7
 refine⟨F',s,?_⟩
 have c3:=c2.fill (i:=i) (by simp[hi]) e2
 rwa [Df]at c3
theorem aq.rebase(c:aq B F H σ δ ts):aq ⟨B.H0,F⟩ F H σ δ ts:=⟨c.ext,c.b1,af.refl _,λ_ _ q=>.inl q,c.own⟩
theorem aq.d39{F1:Hp}(c:aq ⟨B.H0,F1⟩ F H σ δ ts)(h:af B.F0 F1)(h3:∀a ws,F1 a=some (.lst ws)->B.F0 a=some (.lst ws)\/B.H0 a=none):aq B F H σ δ ts :=
 ⟨c.ext,c.b1,h.trans c.b2,λa o q=>(c.b3 a o q).elim (h3 a o) .inr,c.own⟩
theorem aq.call(c:aq B F H σ δ ts)(hs:af H H')(hf:af F F')(he:af F' H')(h3:∀a ws,F' a=some (.lst ws)->F a=some (.lst ws)\/H a=none)(r:R F' H' [d] [v] A)(nd:A.Nodup)(fr:∀a∈A,H a=none) :
  aq B F' H' σ δ ((d,v)::ts):=by
 obtain⟨A0,C,r0,s,nd0,fr0⟩:=c.own
 have no:∀a,(∃ws,H a=some (.lst ws))/\F a=none->F' a=none:=λa zz=>by
  obtain⟨⟨ws,e⟩,n⟩:=zz
  cases q:F' a with
  | none=>rfl
  | some o =>
   have q2:H' a=some o:=by
    cases n:jl o with
    | true=>exact he.get a o q n
    | false =>
     obtain⟨ps,rfl⟩:=J1 n
     obtain⟨m,z⟩:=he.tb a ps q
     rw[hs a _ e]at z
     cases z
   rw[hs a _ e]at q2
   cases q2
   rcases h3 a ws q with z | z
   ·rw[n]at z;cases z
   ·rw[e]at z;cases z
 refine⟨he,c.b1.trans hs,c.b2.trans hf,λa o q=>(h3 a o q).elim (c.b3 a o) λz=>.inr (c.b1.free z),A++A0,C,R.cons r (r0.grow hf hs λa ha=>no a (r0.lists a ha)),
  s.keep hf (fM.same hs) gx.nil (λa ha=>no a (s.lists a ha)) (by simp),?_,?_⟩
 ·rw[dh]
  refine gy.mpr ⟨nd,nd0,λa ha hb=>?_⟩
  have z:=fr a ha
  rcases bZ.mp hb with y | y
  ·obtain⟨⟨_,q⟩,_⟩:=r0.lists a y;rw[z]at q;cases q
  ·obtain⟨⟨_,q⟩,_⟩:=s.lists a y;rw[z]at q;cases q
 ·intro a ha
  rw[dh]at ha
  rcases bZ.mp ha with y | y
  ·exact c.b1.free (fr a y)
  ·exact fr0 a y
theorem aq.inS(c:aq B F H σ δ ((d,v)::ts)):aq B F H (some v::σ) (some d::δ) ts:=by
 obtain⟨A,C,r,s,nd,fr⟩:=c.own
 obtain⟨w,bU,A1,A2,e',rfl,h1,h2⟩:=R.cR r
 obtain⟨rfl,rfl⟩:=m9 e'
 have pp:((A1++A2)++C).Perm (A2++(A1++C)):=by
  rw[<-dh];exact oK.append_right C
 exact⟨c.ext,c.b1,c.b2,c.b3,A2,A1++C,h2,.dR h1 s,pp.nodup_iff.mp nd,λa ha=>fr a (pp.mem_iff.mpr ha)⟩
theorem aq.d43{w:V}(c:aq B F H (some w::σ) (some d::δ) ts):aq B F H σ δ ((d,w)::ts):=by
 obtain⟨A,C,r,s,nd,fr⟩:=c.own
 cases s with
 | @dR _ _ A1 _ _ C1 h1 s =>
  have pp:(A++(A1++C1)).Perm ((A1++A)++C1):=by
   rw[<-dh];exact oK.append_right C1
  exact⟨c.ext,c.b1,c.b2,c.b3,A1++A,C1,R.cons h1 r,s,pp.nodup_iff.mp nd,λa ha=>fr a (pp.mem_iff.mpr ha)⟩
theorem aq.d44(c:aq B F H σ δ ((d,v)::(.lst true xs,.ref p)::ts))(hp:H p=some (.lst ws)):aq B F (upd H p (.lst (ws++[v]))) σ δ ((.lst true (xs++[d]),.ref p)::ts):=by
 have c1:=(c.perm (List.Perm.swap _ _ _)).inS
 refine(aq.mut (ps:=[(d,v)]) (i:=0) (ys:=xs++[d]) (vs:=ws++[v]) c1 rfl rfl λgL A1 A2 h r1 r2 nd=>?_).d43
 rw[hp]at h;cases h
 exact⟨A1++A2,r1.append r2,nd,λa ha=>ha⟩
theorem aq.app(c:aq B F H σ δ ((d,v)::ts))(e:δ[i]?=some (some (.lst true xs)))(e2:σ[i]?=some (some (.ref p)))(hp:H p=some (.lst ws)) :
  aq B F (upd H p (.lst (ws++[v]))) σ (δ.set i (some (.lst true (xs++[d])))) ts :=
 aq.mut (ps:=[(d,v)]) c e e2 λgL A1 A2 h r1 r2 nd=>by
  rw[hp]at h;cases h
  exact⟨A1++A2,r1.append r2,nd,λa ha=>ha⟩
theorem R.J8:∀{xs:List D} {ws:List V} {A1 A2:List Addr} (j:Nat),R F H xs ws A1->R F H [d] [v] A2->(A1++A2).Nodup->∃A',R F H (xs.set j d) (ws.set j v) A'/\A'.Nodup/\∀a∈A',a∈A1++A2
 | [],_,A1,A2,j,r,q,nd=>by cases r;exact⟨[],.nil,by simp,by simp⟩
 | x::xs,_,A1,A2,j,r,q,nd=>by
  obtain⟨w,gL,B1,B2,rfl,rfl,h1,h2⟩:=r.cR
  rw[dh]at nd
  obtain⟨n1,n2,n3⟩:=gy.mp nd
  cases j with
  | zero =>
   refine⟨A2++B2,q.cons h2,(oK (l₁:=B2) (l₂:=A2)).nodup_iff.mp n2,λa ha=>?_⟩
   simp only[bZ]at ha ⊢
   rcases ha with z | z
   ·exact .inr z
   ·exact .inl (.inr z)
  | succ j =>
   obtain⟨A',r',Ae,sub⟩:=R.J8 j h2 q n2
   refine⟨B1++A',h1.cons r',gy.mpr ⟨n1,Ae,λa ha hb=>n3 a ha (sub a hb)⟩,λa ha=>?_⟩
   rcases bZ.mp ha with z | z
   ·simp[z]
   ·have:=sub a z
    simp only[bZ]at this ⊢
    rcases this with z | z
    ·exact .inl (.inr z)
    ·exact .inr z
theorem aq.d45(c:aq B F H σ δ ((d,v)::ts))(e:δ[i]?=some (some (.lst true xs)))(e2:σ[i]?=some (some (.ref p)))(hp:H p=some (.lst ws))(j:Nat) :
  aq B F (upd H p (.lst (ws.set j v))) σ (δ.set i (some (.lst true (xs.set j d)))) ts :=
 aq.mut (ps:=[(d,v)]) c e e2 λgL A1 A2 h r1 r2 nd=>by
  rw[hp]at h;cases h
  exact r1.J8 j r2 nd
theorem aq.ownAt(c:aq B F H σ δ ts)(e:δ[i]?=some (some (.lst true xs))):∃p ws,σ[i]?=some (some (.ref p))/\H p=some (.lst ws)/\xs.length=ws.length:=by
 obtain⟨v,e1,s⟩:=c.look e
 cases s with
 | own h x _=>exact⟨_,_,e1,h,x.length⟩
theorem RS.start{ds:List D}{vs:List V}(r:R F H ds vs [])(n:Nat):RS F H (ds.map some++bo n none) (vs.map some++bo n none) []:=by
 have z:∀n,RS F H (bo n none) (bo n none) []:=λn=>by
  induction n with
  | zero=>exact .nil
  | succ n ih=>exact .aw ih
 have:∀(ds:List D) (vs:List V),R F H ds vs []->RS F H (ds.map some++bo n none) (vs.map some++bo n none) []:=by
  intro ds
  induction ds with
  | nil=>intro vs r;cases r;exact z n
  | cons d ds ih =>
   intro vs r
   obtain⟨v,bU,A1,A2,rfl,e,h1,h2⟩:=r.cR
   obtain⟨rfl,rfl⟩:=qF.mp e.symm
   exact .dR (A:=[]) h1 (ih _ h2)
 exact this ds vs r
theorem aq.start{ds:List D}{vs:List V}(e:af F H)(r:R F H ds vs [])(n:Nat):aq ⟨H,F⟩ F H (vs.map some++bo n none) (ds.map some++bo n none) [] :=
 ⟨e,af.refl _,af.refl _,λ_ _ q=>.inl q,[],[],.nil,RS.start r n,by simp,by simp⟩
theorem aq.snap(c:aq B F H σ δ ts):aq B (L3.snap F H) H σ δ ts:=by
 obtain⟨A,C,r,s,nd,fr⟩:=c.own
 have no:∀a,(∃ws,H a=some (.lst ws))/\F a=none->L3.snap F H a=none:=λa ⟨⟨ws,e⟩,n⟩=>b86 e n
 exact⟨cl9 c.ext,c.b1,c.b2.trans (rz c.ext),λa ws q=>c.b3 a ws (b87 c.ext q),A,C,r.grow (rz c.ext) (af.refl _) λa ha=>no a (r.lists a ha),
  s.keep (rz c.ext) (fM.same (af.refl _)) gx.nil (λa ha=>no a (s.lists a ha)) (by simp),nd,fr⟩
end
end L3
namespace L3
open PySem L2 PySem.Spec PyProof.Rows
abbrev aO:=Dl->(D->Dl->Prop)->Prop
abbrev gz:=Dl->(Bool->Dl->Prop)->Prop
abbrev cK:=Dl->(List D->Dl->Prop)->Prop
structure uN where
 nx:Dl->Prop
 rt:D->Prop
 bk:Dl->Prop:=λ_=>False
 ct:Dl->Prop:=λ_=>False
 xc:Addr->Dl->Prop:=λ_ _=>False
 xr:Addr->Dl->Prop:=λ_ _=>False
abbrev cL:=uN->Dl->Prop
def lE(t:aO):TE:=λσ H Q=>∃B F δ ts Qd,aq B F H σ δ ts/\t δ Qd/\∀d ah v F' H',Qd d ah->af F F'->af H H'->aq B F' H' σ ah ((d,v)::ts)->Q v H'
def lB(t:aO):TE:=λσ H Q=>∃B F δ ts Qd,aq B F H σ δ ts/\t δ Qd/\∀d ah v F' H',Qd d ah->af F F'->af H H'->aq B F' H' σ ah ts->S F' H' [d] [v]->Q v H'
def lT(t:gz):TT:=λσ H Q=>∃B F δ ts Qd,aq B F H σ δ ts/\t δ Qd/\∀b ah F' H',Qd b ah->af F F'->af H H'->aq B F' H' σ ah ts->Q b H'
def lA(t:cK):TA:=λσ H Q=>∃B F δ ts Qd,aq B F H σ δ ts/\t δ Qd/\∀ds ah vs F' H',Qd ds ah->af F F'->af H H'->aq B F' H' σ ah ts->S F' H' ds vs->Q vs H'
def lO(t:cK):TA:=λσ H Q=>∃B F δ ts Qd,aq B F H σ δ ts/\t δ Qd/\∀(ps:List (D × V)) ah F' H',Qd (ps.map (·.1)) ah->af F F'->af H H'->aq B F' H' σ ah (ps++ts)->Q (ps.map (·.2)) H'
def XL(X:Cx)(B:Bs)(Dd:uN):Prop :=
 (∀C ah pins aK F' H' s' a T,Dd.xc C ah->aq B F' H' aK ah []->Inv X pins aK H' s'->rh s'.heap a T (.ref C)->Apart X pins H' a->Apart X pins H' T->X.xe (.ref a) s') /\
 (∀C ah pins aK F' H' s' h' e vs,Dd.xr C ah->aq B F' H' aK ah []->Inv X pins aK H' s'->Vh s'.heap h' e (.ref C) vs->X.xe (.ref e) { s' with heap:=h' })
theorem XL.none{X:Cx}{B:Bs}{Dd:uN}(h1:∀C δ,¬ Dd.xc C δ)(h2:∀C δ,¬ Dd.xr C δ):XL X B Dd:=⟨λC δ _ _ _ _ _ _ _ h=>absurd h (h1 C δ),λC δ _ _ _ _ _ _ _ _ h=>absurd h (h2 C δ)⟩
def lS(X:Cx)(t:cL):TS:=λD σ H=>∃B F δ Dd,aq B F H σ δ []/\t Dd δ/\(∀ah aK F' H',Dd.nx ah->aq B F' H' aK ah []->D.nx aK H')/\(∀d v ah aK F' H',Dd.rt d->aq B F' H' aK ah [(d,v)]->D.rt v H') /\
 (∀ah aK F' H',Dd.bk ah->aq B F' H' aK ah []->D.bk aK H')/\(∀ah aK F' H',Dd.ct ah->aq B F' H' aK ah []->D.ct aK H')/\XL X B Dd
section
variable{X:Cx}{e a b c:Expr}{es:List Expr}{pos:Pos}{st:Stmt}{Af:List Stmt}
theorem dA{t t':TE}(h:PE X e t)(m:∀σ H Q,t' σ H Q->t σ H Q):PE X e t':=λpins s σ H Q I q=>h pins s σ H Q I (m σ H Q q)
theorem J9{t t':TT}(h:PT X e t)(m:∀σ H Q,t' σ H Q->t σ H Q):PT X e t':=λpins s σ H Q I q=>h pins s σ H Q I (m σ H Q q)
theorem cz0{t t':TT}(h:PW X e t)(m:∀σ H Q,t' σ H Q->t σ H Q):PW X e t':=λwh pins s σ H Q I q=>h wh pins s σ H Q I (m σ H Q q)
theorem Ag{t t':TA}(h:PA X es t)(m:∀σ H Q,t' σ H Q->t σ H Q):PA X es t':=λp pins s σ H Q I q=>h p pins s σ H Q I (m σ H Q q)
theorem jH{t t':TS}(h:PS X st t)(m:∀D σ H,t' D σ H->t D σ H):PS X st t':=λpins s σ H D I q=>h pins s σ H D I (m D σ H q)
theorem Ka{t t':TS}(h:PSs X Af t)(m:∀D σ H,t' D σ H->t D σ H):PSs X Af t':=λpins s σ H D I q=>h pins s σ H D I (m D σ H q)
variable{t u ta tb tc:aO}
theorem aa(h:PE X e (lE t)):PE X e (lB t):=dA h λσ H Q ⟨B,F,δ,ts,Qd,c,q,k⟩=>⟨B,F,δ,ts,Qd,c,q,λd ah v F' H' hd sf sh c'=>k d ah v F' H' hd sf sh c'.pop c'.top⟩
def nL(t:aO):aO:=λδ Q=>t δ λd ah=>d.pl=true/\Q d ah
theorem dm(h:PE X e (lB t)):PE X e (lE (nL t)):=dA h λσ H Q ⟨B,F,δ,ts,Qd,c,q,k⟩=>⟨B,F,δ,ts,_,c,q,λd ah v F' H' hd sf sh c' s=>k d ah v F' H' hd.2 sf sh (c'.pushS s hd.1)⟩
def ph(i:Nat):aO:=λδ Q=>match δ[i]? with
 | some (some d)=>Q d δ
 | _=>False
def pj(i:Nat):aO:=λδ Q=>match δ[i]? with
 | some (some d)=>Q d (δ.set i none)
 | _=>False
theorem cF2{i:Nat}{δ:Dl}{Q:D->Dl->Prop}(h:ph i δ Q):∃d,δ[i]?=some (some d)/\Q d δ:=by
 unfold ph at h
 split at h
 ·rename_i d e;exact⟨d,e,h⟩
 ·exact h.elim
theorem cl6{i:Nat}{δ:Dl}{Q:D->Dl->Prop}(h:pj i δ Q):∃d,δ[i]?=some (some d)/\Q d (δ.set i none):=by
 unfold pj at h
 split at h
 ·rename_i d e;exact⟨d,e,h⟩
 ·exact h.elim
def dC(d:D):aO:=λδ Q=>Q d δ
theorem bv(i:Nat){x:Str}(hN:X.N[i]?=some x:=by rfl)(hv:lW X.env.scope x:=by first | exact ai rfl | exact aW (ai rfl) | exact aW (aW rfl))(hd:(x==("__debug__":Str))=false:=by decide)
  (cJ:(x==("__classdict__":Str))=false:=by decide):PE X (.Name x pos) (lB (ph i)):=dA (qM hN hv hd cJ) λσ H Q ⟨B,F,δ,ts,Qd,c,q,k⟩=>by
 obtain⟨d,e,q⟩:=cF2 q
 obtain⟨v,e1,s⟩:=c.look e
 exact⟨v,e1,k d δ v F H q (af.refl _) (af.refl _) c s⟩
theorem em(i:Nat){x:Str}(hN:X.N[i]?=some x:=by rfl)(hv:lW X.env.scope x:=by first | exact ai rfl | exact aW (ai rfl) | exact aW (aW rfl))(hd:(x==("__debug__":Str))=false:=by decide)
  (cJ:(x==("__classdict__":Str))=false:=by decide):PE X (.Name x pos) (lE (pj i)):=dA (qM hN hv hd cJ) λσ H Q ⟨B,F,δ,ts,Qd,c,q,k⟩=>by
 obtain⟨d,e,q⟩:=cl6 q
 obtain⟨v,e1,c'⟩:=c.move e
 exact⟨v,e1,k d _ v F H q (af.refl _) (af.refl _) c'⟩
theorem D6{B:Bs}{F H:Hp}{σ:L2.St}{δ:Dl}{ts:List (D × V)}{Qd:D->Dl->Prop}{Q:VK}{d:D}{v:V}(c:aq B F H σ δ ts)(q:Qd d δ)(s:S F H [d] [v])(p:d.pl=true)
  (k:∀d ah v F' H',Qd d ah->af F F'->af H H'->aq B F' H' σ ah ((d,v)::ts)->Q v H'):Q v H:=k d δ v F H q (af.refl _) (af.refl _) (c.pushS s p)
theorem aj{i j}:PE X (.Constant (.int i) j pos) (lE (dC (.int i))):=dA oU λσ H Q ⟨B,F,δ,ts,Qd,c,q,k⟩=>D6 c q (.int .nil) rfl k
theorem iO{i j}:PE X (.Constant (.bool i) j pos) (lE (dC (.bl i))):=dA cX3 λσ H Q ⟨B,F,δ,ts,Qd,c,q,k⟩=>D6 c q (.bl .nil) rfl k
theorem Kb{j}:PE X (.Constant .none j pos) (lE (dC .aw)):=dA cN9 λσ H Q ⟨B,F,δ,ts,Qd,c,q,k⟩=>D6 c q (.aw .nil) rfl k
theorem Xm{x j}:PE X (.Constant (.str x) j pos) (lE (dC (.str x))):=dA cR8 λσ H Q ⟨B,F,δ,ts,Qd,c,q,k⟩=>D6 c q (.str .nil) rfl k
abbrev cX:=D->D->(D->Prop)->Prop
def D7(r:R2)(rd:cX):Prop:=∀{B:Bs} {F H:Hp} {σ:L2.St} {δ:Dl} {ts:List (D × V)} {x y:D} {v w:V} {Q:VK} {Qd:D->Prop},aq B F H σ δ ts->S F H [x] [v]->S F H [y] [w]->rd x y Qd ->
 (∀d z H',Qd d->af H H'->aq B F H' σ δ ((d,z)::ts)->Q z H')->r v w H Q
def bW(X:Cx)(f:Value->Value->Sem Value)(rd:cX):Prop:=∃r,cQ X f r/\D7 r rd
theorem bW.or{f:Value->Value->Sem Value}{r1 r2:cX}(h1:bW X f r1)(h2:bW X f r2):bW X f λx y Q=>r1 x y Q\/r2 x y Q:=by
 obtain⟨q1,a1,b1⟩:=h1
 obtain⟨q2,a2,b2⟩:=h2
 refine⟨_,a1.or a2,λ{B F H σ δ ts x y v w Q Qd} c sx sy h k=>?_⟩
 rcases h with h | h
 ·exact .inl (b1 c sx sy h k)
 ·exact .inr (b2 c sx sy h k)
theorem bW.imp{f:Value->Value->Sem Value}{r1 r2:cX}(h1:bW X f r1)(h:∀x y Q,r2 x y Q->r1 x y Q):bW X f r2:=by
 obtain⟨q1,a1,b1⟩:=h1
 exact⟨q1,a1,λ{B F H σ δ ts x y v w Q Qd} c sx sy h2 k=>b1 c sx sy (h _ _ _ h2) k⟩
def nM(rd:cX)(ta tb:aO):aO:=λδ Q=>ta δ λx ao=>tb ao λy aT=>rd x y λd=>Q d aT
theorem Ke{r:R2}{rd:cX}(hl:D7 r rd):∀σ H Q,lE (nM rd ta tb) σ H Q->zO r (lB ta) (lB tb) σ H Q:=λσ H Q ⟨B,F,δ,ts,Qd,c,q,k⟩ =>
 ⟨B,F,δ,ts,_,c,q,λx ao v F1 H1 q1 f1 h1 c1 s1=>⟨B,F1,ao,ts,_,c1,q1,λy aT w F2 H2 q2 f2 h2 c2 s2 =>
  hl c2 (s1.mono f2 h2) s2 q2 λd z H' hd hs c3=>k d aT z F2 H' hd (f1.trans f2) ((h1.trans h2).trans hs) c3⟩⟩
theorem aB{op:Operator}{rd:cX}(ho:bW X (binaryOp op) rd)(ha:PE X a (lB ta))(hb:PE X b (lB tb)):PE X (.BinOp a op b pos) (lE (nM rd ta tb)):=by
 obtain⟨r,h1,h2⟩:=ho
 exact dA (zP h1 ha hb) (Ke h2)
theorem uO{op:CmpOp}{rd:cX}(ho:bW X (compareOp op) rd)(ha:PE X a (lB ta))(hb:PE X b (lB tb))(hm:behindInMarks op b=false):PE X (.Compare a [op] [b] pos) (lE (nM rd ta tb)):=by
 obtain⟨r,h1,h2⟩:=ho
 exact dA (cA8 h1 ha hb hm) (Ke h2)
def dT(t:aO):gz:=λδ Q=>t δ λd ah=>∃k,d=.bl k/\Q k ah
theorem cq2{te:TE}(h:∀σ H Q,lE t σ H Q->te σ H Q):∀σ H Q,lT (dT t) σ H Q->V3 te σ H Q:=λσ H Q zz=>by
 obtain⟨B,F,δ,ts,Qd,c,q,k⟩:=zz
 refine h σ H _ ⟨B,F,δ,ts,_,c,q,λd ah v F' H' hd sf sh c'=>?_⟩
 obtain⟨b,rfl,qb⟩:=hd
 have s:=c'.top
 cases s with
 | bl _=>exact⟨b,rfl,k b ah F' H' qb sf sh c'.pop⟩
theorem cq{op:CmpOp}{rd:cX}(ho:bW X (compareOp op) rd)(ha:PE X a (lB ta))(hb:PE X b (lB tb))(hm:behindInMarks op b=false):PT X (.Compare a [op] [b] pos) (lT (dT (nM rd ta tb))):=by
 obtain⟨r,h1,h2⟩:=ho
 exact J9 (Ju h1 ha hb hm) (cq2 (Ke h2))
def rA(r r':cX)(ta tb tc:aO):aO:=λδ Q=>ta δ λx ao=>tb ao λy aT=>r x y λd=>∃k,d=.bl k/\if k=true then tc aT λz iP=>r' y z λd'=>Q d' iP else Q (.bl false) aT
theorem hE(h:PE X e (lB t))(he:∀whole,isTrue e X.env whole=(do let v<-whole;standAt e.pos;holding [v] (truthy v)):=by intro _;rfl):PT X e (lT (dT t)) :=
 J9 (DF h he) λσ H Q ⟨B,F,δ,ts,Qd,c,q,k⟩=>⟨B,F,δ,ts,_,c,q,λd ah v F' H' hd sf sh c' s=>by
  obtain⟨b,rfl,qb⟩:=hd
  cases s with
  | bl _=>exact⟨b,rfl,k b ah F' H' qb sf sh c'⟩⟩
variable{tA tB:gz}{rest:List Expr}
def uP(t u:gz):gz:=λδ Q=>t δ λc ao=>if c=true then Q true ao else u ao Q
def uQ(t:gz):gz:=λδ Q=>t δ λc ao=>Q (!c) ao
theorem kL(ha:PT X a (lT tA))(hb:PW X (.BoolOp .Or (b::rest) pos) (lT tB)):PW X (.BoolOp .Or (a::b::rest) pos) (lT (uP tA tB)) :=
 cz0 (VR ha hb) λσ H Q ⟨B,F,δ,ts,Qd,c,q,k⟩=>⟨B,F,δ,ts,_,c,q,λb ao F1 H1 q1 f1 h1 c1=>by
  cases b with
  | true=>exact q8 (k true ao F1 H1 (by simpa using q1) f1 h1 c1)
  | false=>exact jh ⟨B,F1,ao,ts,Qd,c1,by simpa using q1,λb ah F' H' hd sf sh c'=>k b ah F' H' hd (f1.trans sf) (h1.trans sh) c'⟩⟩
theorem mB(ha:PT X a (lT tA)):PT X (.UnaryOp .Not a pos) (lT (uQ tA)) :=
 J9 (DG ha) λσ H Q ⟨B,F,δ,ts,Qd,c,q,k⟩=>⟨B,F,δ,ts,_,c,q,λb ao F1 H1 q1 f1 h1 c1=>k _ ao F1 H1 q1 f1 h1 c1⟩
def uR(ta tb:aO):aO:=λδ Q=>ta δ λx ao=>∃c,x=.bl c/\if c=true then tb ao Q else Q (.bl false) ao
def uS(ta:aO):aO:=λδ Q=>ta δ λx ao=>∃c,x=.bl c/\Q (.bl (!c)) ao
theorem pk(ha:PE X a (lB ta))(hb:PE X (.BoolOp .And (b::rest) pos) (lE tb)):PE X (.BoolOp .And (a::b::rest) pos) (lE (uR ta tb)) :=
 dA (cQ7 ha hb) λσ H Q ⟨B,F,δ,ts,Qd,c,q,k⟩=>⟨B,F,δ,ts,_,c,q,λd ao v F1 H1 q1 f1 h1 c1 s1=>by
  obtain⟨b,rfl,qb⟩:=q1
  cases s1 with
  | bl _ =>
   refine⟨b,rfl,?_⟩
   cases b with
   | true=>exact q8 ⟨B,F1,ao,ts,Qd,c1,by simpa using qb,λd ah v F' H' hd sf sh c'=>k d ah v F' H' hd (f1.trans sf) (h1.trans sh) c'⟩
   | false=>exact jh (k _ ao _ F1 H1 (by simpa using qb) f1 h1 (c1.pushS (.bl .nil) rfl))⟩
theorem Xn(ha:PE X a (lB ta)):PE X (.UnaryOp .Not a pos) (lE (uS ta)) :=
 dA (cT1 ha) λσ H Q ⟨B,F,δ,ts,Qd,c,q,k⟩=>⟨B,F,δ,ts,_,c,q,λd ao v F1 H1 q1 f1 h1 c1 s1=>by
  obtain⟨b,rfl,qb⟩:=q1
  cases s1 with
  | bl _=>exact⟨b,rfl,k _ ao _ F1 H1 qb f1 h1 (c1.pushS (.bl .nil) rfl)⟩⟩
def uT(t:gz)(ta tb:aO):aO:=λδ Q=>t δ λc ao=>if c=true then ta ao Q else tb ao Q
theorem c81(hc:PT X c (lT tA))(ha:PE X a (lE ta))(hb:PE X b (lE tb)):PE X (.IfExp c a b pos) (lE (uT tA ta tb)) :=
 dA (cp2 hc ha hb) λσ H Q ⟨B,F,δ,ts,Qd,c,q,k⟩=>⟨B,F,δ,ts,_,c,q,λb ao F1 H1 q1 f1 h1 c1=>by
  cases b with
  | true=>exact q8 ⟨B,F1,ao,ts,Qd,c1,by simpa using q1,λd ah v F' H' hd sf sh c'=>k d ah v F' H' hd (f1.trans sf) (h1.trans sh) c'⟩
  | false=>exact jh ⟨B,F1,ao,ts,Qd,c1,by simpa using q1,λd ah v F' H' hd sf sh c'=>k d ah v F' H' hd (f1.trans sf) (h1.trans sh) c'⟩⟩
def rB:cK:=λδ Q=>Q [] δ
def rC(t:aO)(r:cK):cK:=λδ Q=>t δ λd ao=>r ao λds aT=>Q (d::ds) aT
theorem ax:PA X [] (lA rB):=Ag e7 λσ H Q ⟨B,F,δ,ts,Qd,c,q,k⟩=>k [] δ [] F H q (af.refl _) (af.refl _) c .nil
variable{tr:cK}
theorem ag(ha:PE X e (lB t))(hr:PA X es (lA tr))(hs:starEach (e::es) X.env=(false,eval e X.env)::starEach es X.env:=by rfl):PA X (e::es) (lA (rC t tr)) :=
 Ag (bX ha hr hs) λσ H Q ⟨B,F,δ,ts,Qd,c,q,k⟩=>⟨B,F,δ,ts,_,c,q,λd ao v F1 H1 q1 f1 h1 c1 s1=>⟨B,F1,ao,ts,_,c1,q1,λds aT vs F2 H2 q2 f2 h2 c2 s2 =>
  k (d::ds) aT (v::vs) F2 H2 q2 (f1.trans f2) (h1.trans h2) c2 ((s1.mono f2 h2).cons s2)⟩⟩
theorem cH:PA X [] (lO rB):=Ag e7 λσ H Q ⟨B,F,δ,ts,Qd,c,q,k⟩=>k [] δ F H q (af.refl _) (af.refl _) c
theorem cy(ha:PE X e (lE t))(hr:PA X es (lO tr))(hs:starEach (e::es) X.env=(false,eval e X.env)::starEach es X.env:=by rfl):PA X (e::es) (lO (rC t tr)) :=
 Ag (bX ha hr hs) λσ H Q ⟨B,F,δ,ts,Qd,c,q,k⟩=>⟨B,F,δ,ts,_,c,q,λd ao v F1 H1 q1 f1 h1 c1=>⟨B,F1,ao,(d,v)::ts,_,c1,q1,λps aT F2 H2 q2 f2 h2 c2 =>
  k ((d,v)::ps) aT F2 H2 q2 (f1.trans f2) (h1.trans h2) (c2.perm (List.perm_middle))⟩⟩
def rD(t:cK):aO:=λδ Q=>t δ λds ah=>ds.length<=sizeLine/\Q (.lst true ds) ah
def uU(t:cK):aO:=λδ Q=>t δ λds ah=>ds.length<=sizeLine/\Q (.tup ds) ah
theorem dS(h:PA X es (lO tr)):PE X (.List es pos) (lE (rD tr)) :=
 dA (V8 h) λσ H Q ⟨B,F,δ,ts,Qd,c,q,k⟩=>⟨B,F,δ,ts,_,c,q,λps ao F1 H1 q1 f1 h1 c1=>⟨by simpa using q1.1,λp hp=>k _ ao _ F1 _ q1.2 f1 (h1.trans (af.upd hp)) (c1.d37 hp)⟩⟩
theorem nN{x1}(h:PA X es (lO tr)):PE X (.Tuple es x1 pos) (lE (uU tr)) :=
 dA (cT3 h) λσ H Q ⟨B,F,δ,ts,Qd,c,q,k⟩=>⟨B,F,δ,ts,_,c,q,λps ao F1 H1 q1 f1 h1 c1=>⟨by simpa using q1.1,λp hp=>k _ ao _ F1 _ q1.2 f1 (h1.trans (af.upd hp)) (c1.d38 hp)⟩⟩
end
end L3
namespace L3
open PySem L2 PySem.Spec PyProof.Rows
abbrev bq:=List D->(D->Prop)->Prop
def br(sp:bq):Sp:=λvs H Q _=>∃F ds Qd,af F H/\R F H ds vs []/\sp ds Qd/\∀d v F' H' A,Qd d->af H H'->af F F'->af F' H'->(∀a ws,F' a=some (.lst ws)->F a=some (.lst ws)\/H a=none)->R F' H' [d] [v] A->A.Nodup->(∀a∈A,H a=none)->Q v H'
def rE(sp:bq)(t:cK):aO:=λδ Q=>t δ λds ah=>sp (ds.map D.sh) λd=>(ds.all D.pl||d.fr)=true/\Q d ah
theorem Ah{B:Bs}{F H:Hp}{σ:L2.St}{δ:Dl}{ts:List (D × V)}{Qd:D->Prop}{Q:VK}{E:XK}{ds:List D}{vs:List V}{sp:bq}(c:aq B F H σ δ ts)(s:S F H ds vs)(q:sp (ds.map D.sh) λd=>(ds.all D.pl||d.fr)=true/\Qd d)
  (k:∀d v F' H',Qd d->af F F'->af H H'->aq B F' H' σ δ ((d,v)::ts)->Q v H'):br sp vs H Q E:=by
 by_cases hp:ds.all D.pl=true
 ·rw[my hp]at q
  exact⟨F,ds,_,c.ext,s.r hp,q,λd v F' H' A hd hs hf he h3 r nd fr=>k d v F' H' hd.2 hf hs (c.call hs hf he h3 r nd fr)⟩
 ·refine⟨H,ds.map D.sh,_,af.refl _,s.frozen c.ext,q,λd v F' H' A hd hs hf he h3 r nd fr=>?_⟩
  have eK:d.fr=true:=by
   have:=hd.1
   rw[Bool.or_eq_true]at this
   exact this.resolve_left hp
  exact k d v F H' hd.2 (af.refl _) hs (c.J5 hs (r.rq (by simp[eK]) (c.ext.trans hf)) nd fr)
section
variable{X:Cx}{CX:eW}{n:Nat}{f:Addr}{fd:FuncData}{ps:List Str}{sp:bq}{E:XK}{x:Str}{p pos:Pos}{e:Expr}{es:List Expr}{t:cK}
theorem bB(F:aN X.prog X.w X.K X.mg X.base CX n f fd ps (br sp))(hr:cj n X.A)(hg:Gl X x)(hm:X.mg x=some (.ref f))(hk:PySem.W.keepIn X.K (.ref f)=true)(hb:Binds X.K fd ps [])(hx:j9 CX X E)
  (ha:PA X (e::es) (lA t)) (eC:(x==("__debug__":Str))=false:=by decide) (he:starEach (e::es) X.env=(false,eval e X.env)::starEach es X.env:=by rfl) (bQ:(backTo pos (starEach es X.env)).any (·.1)=false:=by rfl) :
  PE X (.Call (.Name x p) (e::es) [] pos) (lE (rE sp t)) :=
 dA (jg F hr hg hm hk hb .nil hx ha eC he bQ) λσ H Q ⟨B,F,δ,ts,Qd,c,q,k⟩=>⟨B,F,δ,ts,_,c,q,λds ao vs F1 H1 q1 f1 h1 c1 s1=>by
  show br sp (vs++[]) H1 Q E
  rw[fV]
  exact Ah c1 s1 q1 λd v F' H' hd hf hs c'=>k d ao v F' H' hd (f1.trans hf) (h1.trans hs) c'⟩
end
def kM(N:List Str)(ds:List D):Dl:=ds.map some++bo (N.length-ds.length) none
section
variable{P:Program}{w:World}{K:PySem.W.Frag}{mg:Str->Option Value}{base:Heap}
theorem bD{x qual:Str}{st:Stmt}{f:Addr}{fd:FuncData}{N ps:List Str}{k:Nat}{sp:bq}(F:bg K x qual st f fd)(S:bj N ps (au st))(len:∀ds Q,sp ds Q->ds.length=ps.length)
  (g8:∀(aD:Value) (A:Around) (outer:List Env) (s:Shared) (H:Hp) (E:XK),cj k (A.deeper (envOfC qual (au st) s.heap.objs.size f aD)) ->
   ∃t:cL,PSs (iM aR P w K mg base N qual (au st) f aD A outer s H E).gu (aQ st) (lS (iM aR P w K mg base N qual (au st) f aD A outer s H E).gu t)/\∀ds Q,sp ds Q->t { nx:=λ_=>Q .aw,rt:=Q } (kM N ds)):aN P w K mg base aR (k+1) f fd ps (br sp):=by
 refine F.ok S (λvs H Q E ⟨F,ds,Qd,e,r,h,_⟩=>by rw[<-r.length];exact len ds Qd h) λaD A outer s H vs Q E hr zz=>?_
 obtain⟨F,ds,Qd,e,r,h,k⟩:=zz
 obtain⟨t,ht,hq⟩:=g8 aD A outer s H E hr
 have fin:∀d v ah aK F' H',Qd d->aq ⟨H,F⟩ F' H' aK ah [(d,v)]->Q v H':=λd v ah aK F' H' hd c=>by
  obtain⟨A,C,r',s',nd,fr⟩:=c.own
  exact k d v F' H' A hd c.b1 c.b2 c.ext c.b3 r' (gy.mp nd).1 λa ha=>fr a (eZ _ ha)
 have e1:L2.start N vs=vs.map some++bo (N.length-ds.length) none:=by unfold L2.start;rw[r.length]
 refine⟨_,ht,⟨H,F⟩,F,kM N ds,_,?_,hq ds Qd h,λah aK F' H' hd c=>fin .aw .aw ah aK F' H' hd (c.pushS (.aw .nil) rfl),fin,λ_ _ _ _ z=>z.elim,λ_ _ _ _ z=>z.elim,XL.none (λ_ _ z=>z) λ_ _ z=>z⟩
 rw[e1]
 exact aq.start e r _
end
section
variable{X:Cx}{e a b c:Expr}{es:List Expr}{pos:Pos}{st:Stmt}{Af rest:List Stmt}{t u:cL}{te:aO}{tt:gz}
def uV:cL:=λD δ=>D.nx δ
def Xo(t u:cL):cL:=λD δ=>t { D with nx:=u D } δ
theorem az{t u:cL}{En:uN}{δ:Dl}(h:∀U:Dl->Prop,(∀ah,u En ah->U ah)->t { En with nx:=U } δ):Xo t u En δ:=h (u En) λ_ z=>z
theorem cS:PSs X [] (lS X uV):=Ka qO λD σ H ⟨B,F,δ,Dd,c,q,k1,_⟩=>k1 δ σ F H q c
theorem aA(h1:PS X st (lS X t))(h2:PSs X rest (lS X u)):PSs X (st::rest) (lS X (Xo t u)) :=
 Ka (eV h1 h2) λD σ H ⟨B,F,δ,Dd,c,q,k1,k2,k3,k4⟩=>⟨B,F,δ,{ Dd with nx:=u Dd },c,q,λah aK F' H' hq c'=>⟨B,F',ah,Dd,c',hq,k1,k2,k3,k4⟩,k2,k3,k4⟩
theorem aH(h1:PS X st (lS X t)):PSs X [st] (lS X t):=jc h1
theorem Xp:PS X st (lS X λ_ _=>False):=jH qR λD σ H ⟨_,_,_,_,_,q,_⟩=>q.elim
def rF(i:Nat)(t:cL):cL:=λD δ=>∃d,δ[i]?=some (some d)/\t D (δ.set i (some d.sh))
theorem Kf(i:Nat)(h:PSs X Af (lS X t)):PSs X Af (lS X (rF i t)):=Ka h λD σ H zz=>by
 obtain⟨B,F,δ,Dd,c,⟨d,e,q⟩,k⟩:=zz
 obtain⟨F',s,c'⟩:=c.freeze e
 exact⟨B,F',_,Dd,c',q,k⟩
def rG(i:Nat)(t:aO):cL:=λD δ=>t δ λd ah=>D.nx (ah.set i (some d))
theorem aZ{i:Nat}{x:Str}{pos':Pos}(hN:X.N.Nodup)(hi:X.N[i]?=some x)(hx:Loc X.env.scope x)(he:PE X e (lE te))(hs:swapsWith e (some (.Name x pos')) pos.line X.env=pure false:=by rfl)
  (hf:X.fn x=true\/X.env.scope.names.lookup x=some .local:=by first | exact .inl rfl | exact .inr rfl | assumption):PS X (.Assign [.Name x pos'] e pos) (lS X (rG i te)) :=
 jH (Jk hN hi hx he hs hf) λD σ H ⟨B,F,δ,Dd,c,q,k1,k2,k3,k4⟩=>⟨B,F,δ,[],_,c,q,λd ah v F' H' hd sf sh c'=>k1 _ _ F' H' hd (c'.store i)⟩
def uW(t:aO):cL:=λD δ=>t δ λd _=>D.rt d
theorem aX(he:PE X e (lE te)):PS X (.Return (some e) pos) (lS X (uW te)) :=
 jH (cL4 he) λD σ H ⟨B,F,δ,Dd,c,q,k1,k2,k3,k4⟩=>⟨B,F,δ,[],_,c,q,λd ah v F' H' hd sf sh c'=>k2 d v ah σ F' H' hd c'⟩
def uX(t:aO):cL:=λD δ=>t δ λ_ ah=>D.nx ah
theorem Kg(he:PE X e (lB te))(hs:swapsWith e none pos.line X.env=pure false:=by rfl):PS X (.Expr e pos) (lS X (uX te)) :=
 jH (qP he hs) λD σ H ⟨B,F,δ,Dd,c,q,k1,k2,k3,k4⟩=>⟨B,F,δ,[],_,c,q,λd ah v F' H' hd sf sh c' s=>k1 ah σ F' H' hd c'⟩
def uY(tc:gz)(t u:cL):cL:=λD δ=>tc δ λb ah=>if b=true then t D ah else u D ah
theorem cT{l r:List Stmt}(hc:PT X c (lT tt))(ha:PSs X l (lS X t))(hb:PSs X r (lS X u)):PS X (.If c l r pos) (lS X (uY tt t u)) :=
 jH (qQ hc ha hb) λD σ H ⟨B,F,δ,Dd,c,q,k⟩=>⟨B,F,δ,[],_,c,q,λb ah F' H' hq sf sh c'=>by
  cases b with
  | true=>exact q8 ⟨B,F',ah,Dd,c',by simpa using hq,k⟩
  | false=>exact jh ⟨B,F',ah,Dd,c',by simpa using hq,k⟩⟩
def uZ(i:Nat)(rd:cX)(t:aO):cL:=λD δ=>∃x,δ[i]?=some (some x)/\t δ λy ao=>rd x y λz=>D.nx (ao.set i (some z))
theorem Ai{i:Nat}{x:Str}{op:Operator}{rd:cX}{pos':Pos}(hN:X.N.Nodup)(hi:X.N[i]?=some x)(hx:Loc X.env.scope x)(he:PE X e (lB te))(ho:bW X (inplaceOp op) rd)
  (hf:X.fn x=true\/X.env.scope.names.lookup x=some .local:=by first | exact .inl rfl | exact .inr rfl | assumption):PS X (.AugAssign (.Name x pos') op e pos) (lS X (uZ i rd te)):=by
 obtain⟨r,h1,h2⟩:=ho
 refine jH (cT2 hN hi hx he (ti:=r) h1 hf) λD σ H zz=>?_
 obtain⟨B,F,δ,Dd,c,⟨d0,e0,q⟩,k1,k2,k3,k4⟩:=zz
 obtain⟨v0,e1,s0⟩:=c.look e0
 exact⟨v0,e1,B,F,δ,[],_,c,q,λd ah v F' H' hd sf sh c' s=>h2 c' (s0.mono sf sh) s hd λz w H2 hz h3 c3=>k1 _ _ F' H2 hz (c3.store i)⟩
def u0(tc:gz)(tb:cL):cL:=λD δ=>∃W:Nat->Dl->Prop,(∃m,W m δ)/\∀m δ,W m δ->tc δ λb ah=>if b=true then tb { D with nx:=λah=>∃m',m'<m/\W m' ah,ct:=λah=>∃m',m'<m/\W m' ah,bk:=D.nx } ah else D.nx ah
theorem u3{body:List Stmt}(hp:PassesOwn (model X.prog X.w) X.A X.env X.xe)(hc:PT X c (lT tt))(hb:PSs X body (lS X t)):PS X (.While c body [] pos) (lS X (u0 tt t)) :=
 jH (co7 hp hc hb) λD σ H zz=>by
  obtain⟨B,F,δ,Dd,c,⟨W,⟨m0,w0⟩,hw⟩,k1,k2,k3,k4⟩:=zz
  refine⟨λm σ H=>∃F δ,aq B F H σ δ []/\W m δ,⟨m0,F,δ,c,w0⟩,λm σ H ⟨F,δ,c,w⟩=>⟨B,F,δ,[],_,c,hw m δ w,λb ah F' H' hq sf sh c'=>?_⟩⟩
  cases b with
  | true =>
   refine q8 ⟨λaK H'=>∃m',m'<m/\∃F δ,aq B F H' aK δ []/\W m' δ,λaK H' z=>z,B,F',ah,{ Dd with nx:=λah=>∃m',m'<m/\W m' ah,ct:=λah=>∃m',m'<m/\W m' ah,bk:=Dd.nx },c',by simpa using hq,λaT mf F2 H2 ⟨m',hm,w2⟩ c2=>⟨m',hm,F2,aT,c2,w2⟩,k2,λaT mf F2 H2 z c2=>k1 aT mf F2 H2 z c2,λaT mf F2 H2 ⟨m',hm,w2⟩ c2=>⟨m',hm,F2,aT,c2,w2⟩,k4.2⟩
  | false=>exact jh (k1 ah σ F' H' (by simpa using hq) c')
end
structure JD(J:It)(F:Hp)(xs:List D):Prop where
 go:∀i H,af F H->i<xs.length->J.go i H
 j8:∀i H x H',af F H->i<xs.length->J.j8 i H x H'->∃d,xs[i]?=some d/\af H H'/\R F H' [d] [x] []
 stop:∀i H,af F H->xs.length<=i->J.stop i H
abbrev jm:=Dl->(Bool->List D->Dl->Prop)->Prop
def lI(t:jm):TI:=λσ H Rr=>∃B F δ ts Qd,aq B F H σ δ ts/\t δ Qd/\∀g xs ah J F' H',Qd g xs ah->af F F'->af H H'->aq B F' H' σ ah ts->JD J H' (xs.map D.sh)->(g=true->xs.all D.pl=true/\JD J F' xs)->Rr J H'
abbrev iz:=D->Dl->(Dl->Prop)->Prop
def lG(m:Nat)(t:iz):TG:=λv σ H Q=>∃B F δ ts d Qd,aq B F H σ δ ((d,v)::ts)/\t d δ Qd/\∀ah aK,Qd ah->aK.length=σ.length->(∀j,j<m->aK[j]?=σ[j]?)->aq B F H aK ah ts->Q aK H
def ke:D->Option (List D)
 | .lst _ xs=>some xs
 | .fz xs=>some xs
 | _=>none
section
variable{B:Bs}{F H F1:Hp}{σ:L2.St}{δ:Dl}{ts:List (D × V)}
end
section
variable{X:Cx}{e a b c tg l iter:Expr}{es:List Expr}{pos:Pos}{t u:cL}{te:aO}{tt:gz}{ta:cK}{m:Nat}
theorem u4{w w':TI}(h:PI X tg iter w)(m:∀σ H Q,w' σ H Q->w σ H Q):PI X tg iter w':=λpins s σ H Q I q=>h pins s σ H Q I (m σ H Q q)
theorem Xq{w w':TG}(h:PG X tg w)(m:∀v σ H Q,w' v σ H Q->w v σ H Q):PG X tg w':=λpins s σ H v u Q I r q=>h pins s σ H v u Q I r (m v σ H Q q)
def gN(i:Nat):iz:=λd δ Q=>Q (δ.set i (some d))
theorem cI{i:Nat}{x:Str}(hN:X.N.Nodup)(hi:X.N[i]?=some x)(hx:Loc X.env.scope x)(hm:m<=i:=by decide)(hf:X.fn x=true\/X.env.scope.names.lookup x=some .local:=by first | exact .inl rfl | exact .inr rfl | assumption):PG X (.Name x pos) (lG m (gN i)) :=
 Xq (DK hN hi hx hf) λv σ H Q ⟨B,F,δ,ts,d,Qd,c,q,k⟩=>k _ _ q (by simp) (λj hj=>by rw[tT (by omega)]) (c.store i)
theorem nO{K:PySem.W.Frag}{F H:Hp}{p:Addr}{xs:List D}{ws:List V}(hp:Rd F p (.lst ws))(r:R F H xs ws [])(hF:Full F H):JD (Jm K p) F xs where
 go:=λi H' hs hi=>by
  have l:=r.length
  have gK:i<ws.length:=by omega
  exact⟨ws,ws[i],.inl (iN hp hs),aP gK⟩
 j8:=λi H' x H2 hs hi zz=>by
  obtain⟨e,y⟩:=zz
  subst e
  have hx:=y ws (.inl (iN hp hs))
  obtain⟨v,A1,e2,r1,sub⟩:=(r.full hF hs rfl).get (aP hi)
  rw[hx]at e2;cases e2
  have:A1=[]:=dD6.mpr λa ha=>by simpa using sub ha
  subst this
  exact⟨_,aP hi,af.refl _,r1⟩
 stop:=λi H' hs hi=>⟨ws,.inl (iN hp hs),by have:=r.length;omega⟩
theorem D8{F:Hp}(lo:Int)(n:Nat):JD (zJ lo n) F ((aM n).map λ(k:Nat)=>D.int (lo+(k:Int))) where
 go:=λi H' hs hi=>by
  have gK:i<n:=by simpa using hi
  exact gK
 j8:=λi H' x H2 hs hi zz=>by
  obtain⟨e,y⟩:=zz
  subst e y
  have gK:i<n:=by simpa using hi
  exact⟨.int (lo+i),by simp[jZ gK],af.refl _,.int .nil⟩
 stop:=λi H' hs hi=>by
  have gK:n<=i:=by simpa using hi
  exact gK
def u5(t:aO):jm:=λδ Q=>t δ λd ah=>∃xs,ke d=some xs/\Q true (xs.map D.sh) ah
theorem c08(xs:List D){F H:Hp}{ws:List V}(r:R F H (xs.map D.sh) ws []):(xs.map D.sh).map D.sh=xs.map D.sh:=my r.pl
theorem D9(h:PE X l (lE te)):PI X tg l (lI (u5 te)) :=
 u4 (VY h) λσ H Q ⟨B,F,δ,ts,Qd,c,q,k⟩=>⟨B,F,δ,ts,_,c,q,λd ao v F1 H1 hd f1 h1 c1=>by
  obtain⟨xs,e,hq⟩:=hd
  obtain⟨F2,f2,c2⟩:=c1.J7
  have tp:=c2.top
  have c3:=c2.pop.snap
  have e2:=c2.ext
  have sn:=rz e2
  cases d with
  | lst o ys =>
   obtain rfl:=cV e
   rw[dQ]at tp
   cases tp with
   | @shr p ws _ _ _ hp r _ =>
    have r3:=r.shared sn (af.refl _)
    refine⟨p,rfl,⟨ws,bN.of (e2 _ _ hp)⟩,k true _ ao _ _ H1 hq ((f1.trans f2).trans sn) h1 c3 ?_ λ_=>⟨r.pl,nO (.inl (sn _ _ hp)) r3 uM⟩⟩
    rw[c08 _ r]
    exact nO (.inl (e2 _ _ hp)) (r.shared e2 (af.refl _)) (Full.refl _)
  | fz ys =>
   obtain rfl:=cV e
   cases tp with
   | @fz p o ws _ _ _ hp r _ =>
    have r3:=r.shared sn (af.refl _)
    have es:=my r.pl
    rw[es]at hq
    refine⟨p,rfl,⟨ws,.inl (.inr ⟨o,e2 _ _ hp⟩)⟩,k true _ ao _ _ H1 hq ((f1.trans f2).trans sn) h1 c3 ?_ λ_=>⟨r.pl,nO (.inr ⟨o,sn _ _ hp⟩) r3 uM⟩⟩
    rw[es]
    exact nO (.inr ⟨o,e2 _ _ hp⟩) (r.shared e2 (af.refl _)) (Full.refl _)
  | aw=>cases e
  | bl _=>cases e
  | int _=>cases e
  | str _=>cases e
  | tup _=>cases e
  | obj _ _ _=>cases e
  | bI _=>cases e⟩
def u6(t:aO):jm:=λδ Q=>t δ λd ah=>∃xs,ke d=some xs/\Q d.pl xs ah
theorem hJ(h:PE X l (lB te)):PI X tg l (lI (u6 te)) :=
 u4 (VY h) λσ H Q ⟨B,F,δ,ts,Qd,c,q,k⟩=>⟨B,F,δ,ts,_,c,q,λd ao v F1 H1 hd f1 h1 c1 s=>by
  obtain⟨xs,e,hq⟩:=hd
  have c3:=c1.snap
  have e2:=c1.ext
  have sn:=rz e2
  cases s with
  | @shr p ws ys _ _ hp r _ =>
   obtain rfl:=cV e
   refine⟨p,rfl,⟨ws,bN.of (e2 _ _ hp)⟩,k _ _ ao _ _ H1 hq (f1.trans sn) h1 c3 ?_ λ_=>⟨r.pl,nO (.inl (sn _ _ hp)) (r.shared sn (af.refl _)) uM⟩⟩
   rw[my r.pl]
   exact nO (.inl (e2 _ _ hp)) (r.shared e2 (af.refl _)) (Full.refl _)
  | @own p ws ys _ _ hp r _ =>
   obtain rfl:=cV e
   refine⟨p,rfl,⟨ws,bN.of hp⟩,k _ _ ao _ _ H1 hq (f1.trans sn) h1 c3 (nO (.inl hp) (r.frozen e2) (Full.refl _)) λz=>by simp[fZ]at z⟩
  | @fz p o ws ys _ _ hp r _ =>
   obtain rfl:=cV e
   refine⟨p,rfl,⟨ws,.inl (.inr ⟨o,e2 _ _ hp⟩)⟩,k _ _ ao _ _ H1 hq (f1.trans sn) h1 c3 ?_ λ_=>⟨r.pl,nO (.inr ⟨o,sn _ _ hp⟩) (r.shared sn (af.refl _)) uM⟩⟩
   rw[my r.pl]
   exact nO (.inr ⟨o,e2 _ _ hp⟩) (r.shared e2 (af.refl _)) (Full.refl _)
  | aw _=>cases e
  | bl _=>cases e
  | int _=>cases e
  | str _=>cases e
  | tup _ _ _=>cases e
  | obj _ _ _ _=>cases e
  | bI _ _=>cases e⟩
theorem Aj(f:Nat->Int)(l:List Nat):(l.map λk=>D.int (f k)).map D.sh=l.map λk=>D.int (f k):=by simp[D.sh]
theorem Xr(f:Nat->Int)(l:List Nat):(l.map λk=>D.int (f k)).all D.pl=true:=by simp[D.pl]
def u7(t:cK):jm:=λδ Q=>t δ λds ah=>∃j:Int,ds=[.int j]/\(-(2 ^ 62)<=j/\j<2 ^ 62)/\Q true ((aM j.toNat).map λ(k:Nat)=>D.int (0+(k:Int))) ah
theorem jI{p:Pos}(hg:Gl X "range")(hm:X.mg "range"=none)(ha:PA X [a] (lA ta))(hs:starEach [a] X.env=[(false,eval a X.env)]:=by rfl):PI X tg (.Call (.Name "range" p) [a] [] pos) (lI (u7 ta)) :=
 u4 (cf9 hg hm ha hs) λσ H Q ⟨B,F,δ,ts,Qd,c,q,k⟩=>⟨B,F,δ,ts,_,c,q,λds ao vs F1 H1 hd f1 h1 c1 s=>by
  obtain⟨j,rfl,⟨b1,b2⟩,hq⟩:=hd
  cases s with
  | int s =>
   cases s
   refine⟨j,rfl,b1,b2,k true _ ao _ _ H1 hq f1 h1 c1 ?_ λ_=>⟨Xr _ _,D8 0 _⟩⟩
   rw[Aj]
   exact D8 0 _⟩
def u9(t:cK):jm:=λδ Q=>t δ λds ah=>∃i j:Int,ds=[.int i,.int j]/\(-(2 ^ 62)<=i/\i<2 ^ 62/\-(2 ^ 62)<=j/\j<2 ^ 62)/\Q true ((aM (j-i).toNat).map λ(k:Nat)=>D.int (i+(k:Int))) ah
theorem Ak{p:Pos}(hg:Gl X "range")(hm:X.mg "range"=none)(ha:PA X [a,b] (lA ta))(hs:starEach [a,b] X.env=[(false,eval a X.env),(false,eval b X.env)]:=by rfl)(fw:starEach [b] X.env=[(false,eval b X.env)]:=by rfl) :
  PI X tg (.Call (.Name "range" p) [a,b] [] pos) (lI (u9 ta)) :=
 u4 (b81 hg hm ha hs fw) λσ H Q ⟨B,F,δ,ts,Qd,c,q,k⟩=>⟨B,F,δ,ts,_,c,q,λds ao vs F1 H1 hd f1 h1 c1 s=>by
  obtain⟨i,j,rfl,bd,hq⟩:=hd
  cases s with
  | int s =>
   cases s with
   | int s =>
    cases s
    refine⟨i,j,rfl,bd,k true _ ao _ _ H1 hq f1 h1 c1 ?_ λ_=>⟨Xr _ _,D8 i _⟩⟩
    rw[Aj]
    exact D8 i _⟩
def gb(xs:List D)(g:iz)(tb:cL):cL:=λEn ao=>∃Iv:Nat->Dl->Prop,Iv 0 ao /\
 (∀i d ah,xs[i]?=some d->Iv i ah->g d ah λaT=>tb { En with nx:=Iv (i+1),ct:=Iv (i+1),bk:=En.nx } aT)/\∀ah,Iv xs.length ah->En.nx ah
theorem gb.mk{xs:List D}{g:iz}{tb:cL}{En:uN}{δ:Dl}(Iv:Nat->Dl->Prop)(h0:Iv 0 δ)(ht:∀i d ah,xs[i]?=some d->Iv i ah->g d ah λaT=>tb { En with nx:=Iv (i+1),ct:=Iv (i+1),bk:=En.nx } aT)
  (hf:∀ah,Iv xs.length ah->En.nx ah):gb xs g tb En δ:=⟨Iv,h0,ht,hf⟩
def va(ti:jm)(g:iz)(tb:cL):cL:=λEn δ=>ti δ λsh xs ao=>sh=true/\gb xs g tb En ao
theorem gg{ti:jm}{g:iz}{body:List Stmt}(hp:PassesOwn (model X.prog X.w) X.A X.env X.xe)(hc:X.calm=true)(hi:PI X tg iter (lI ti))(hg:PG X tg (lG 0 g))(hb:PSs X body (lS X t))
  (hs:∀x,foldedSetIterable iter X.env x=pure x:=by intro _;rfl):PS X (.For tg iter body [] pos) (lS X (va ti g t)) :=
 jH (cS9 hp hc hi hg hb hs) λEn σ H ⟨B,F,δ,Dd,c,q,k1,k2,k3,k4⟩=>⟨B,F,δ,[],_,c,q,λsh xs ao J F1 H1 hq f1 h1 c1 _ jd=>by
  obtain⟨zT,Iv,i0,turn,fin⟩:=hq
  obtain⟨bQ,jd⟩:=jd zT
  have un:∀{F' H':Hp} {aK:L2.St} {ah:Dl} {ts:List (D × V)},aq ⟨B.H0,F1⟩ F' H' aK ah ts->aq B F' H' aK ah ts:=λc'=>c'.d39 c1.b2 c1.b3
  refine⟨λi m σ H=>m=xs.length-i/\i<=xs.length/\∃F δ,aq ⟨B.H0,F1⟩ F H σ δ []/\Iv i δ,⟨_,rfl,lK _,F1,ao,c1.rebase,i0⟩,?_⟩
  rintro i m mf H2 ⟨rfl,hi,F2,aT,c2,iv⟩
  have s2:af F1 H2:=c2.b2.trans c2.ext
  by_cases fK:i<xs.length
  ·refine .inr ⟨jd.go i H2 s2 fK,λaK H'=>∃F δ,aq ⟨B.H0,F1⟩ F H' aK δ []/\Iv (i+1) δ,λaK H' z=>⟨xs.length-(i+1),by omega,rfl,fK,z⟩,λx H3 y=>?_⟩
   obtain⟨d,e,s3,r⟩:=jd.j8 i H2 x H3 s2 fK y
   have c3:=(c2.grow s3).pushS (d:=d) (v:=x) ((r.s).mono c2.b2 (af.refl _)) (by have:=r.pl;simpa using this)
   refine⟨⟨B.H0,F1⟩,F2,aT,[],d,_,c3,turn i d aT e iv,λah aK hq _ _ c4=>?_⟩
   exact⟨⟨B.H0,F1⟩,F2,ah,_,c4,hq,λjJ nQ F5 H5 h5 c5=>⟨F5,jJ,c5,h5⟩,λd5 v5 jJ nQ F5 H5 h5 c5=>k2 d5 v5 jJ nQ F5 H5 h5 (un c5),λjJ nQ F5 H5 h5 c5=>k1 jJ nQ F5 H5 h5 (un c5),λjJ nQ F5 H5 h5 c5=>⟨F5,jJ,c5,h5⟩,⟨λC jJ pins nQ F5 H5 s5 a T h5 c5=>k4.2.1 C jJ pins nQ F5 H5 s5 a T h5 (un c5),λC jJ pins nQ F5 H5 s5 h' e vs h5 c5=>k4.2.2 C jJ pins nQ F5 H5 s5 h' e vs h5 (un c5)⟩⟩
  ·have e:i=xs.length:=by omega
   subst e
   exact .inl ⟨jd.stop _ H2 s2 (bK _),k1 aT mf F2 H2 (fin aT iv) (un c2)⟩⟩
end
end L3
namespace L3
open PySem L2 PySem.Spec PyProof.Rows
def jK(δ:Dl)(q:Str × Nat):Option D:=(δ[q.2]?).getD none
def jn(δ:Dl)(q:Str × Nat):Bool:=match jK δ q with
 | some d=>d.pl
 | none=>true
def gA(aE:List (Str × Nat))(n:Nat)(δ:Dl):Dl:=(aE.map λq=>(jK δ q).map D.sh)++bo n none
def vb(sh:Bool)(xs:List D)(aE:List (Str × Nat))(n:Nat)(g:iz)(tt:gz)(te:aO)(ao:Dl)(Q:D->Dl->Prop):Prop:=∃(p:D->Bool) (f:D->D),
 (∀x∈xs.map D.sh,g x (gA aE n ao) λaT=>tt aT λb iP=>b=p x/\(p x=true->te iP λd _=>d=f x)) /\
 ((sh&&aE.all (jn ao))=true\/∀x∈xs.map D.sh,p x=true->(f x).fr=true)/\xs.length<=sizeLine/\Q (.lst true (((xs.map D.sh).filter p).map f)) ao
def pq(ti:jm)(aE:List (Str × Nat))(n:Nat)(g:iz)(tt:gz)(te:aO):aO:=λδ Q=>ti δ λsh xs ao=>vb sh xs aE n g tt te ao Q
def mC:gz:=λδ Q=>Q true δ
theorem cr1{sh:Bool}{xs:List D}{aE:List (Str × Nat)}{n m:Nat}{te:aO}{ao:Dl}{Q:D->Dl->Prop}(f:D->D)(hx:∀x∈xs.map D.sh,te ((gA aE n ao).set m (some x)) λd _=>d=f x)
  (eK:(sh&&aE.all (jn ao))=true\/∀x∈xs.map D.sh,(f x).fr=true) (hl:xs.length<=sizeLine) (hq:Q (.lst true ((xs.map D.sh).map f)) ao):vb sh xs aE n (gN m) mC te ao Q :=
 ⟨λ_=>true,f,λx h=>⟨rfl,λ_=>hx x h⟩,eK.imp id λh x hx _=>h x hx,hl,by rw[dD7.mpr (λ_ _=>rfl)];exact hq⟩
section
variable{B:Bs}{F H:Hp}{σ:L2.St}{δ:Dl}{ts:List (D × V)}
theorem Xs(c:aq B F H σ δ ts)(n:Nat):∀(aE:List (Str × Nat)),aE.all (jn δ)=true->RS F H (gA aE n δ) (iw aE n σ) []
 | [],_=>by
  have z:∀n,RS F H (bo n none) (bo n none) []:=λn=>by
   induction n with
   | zero=>exact .nil
   | succ n ih=>exact .aw ih
  exact z n
 | q::r,h=>by
  rw[dy,eH]at h
  have ih:=Xs c n r h.2
  show RS F H ((jK δ q).map D.sh::gA r n δ) ((σ[q.2]?).getD none::iw r n σ) []
  cases e:jK δ q with
  | none=>exact .aw ih
  | some d =>
   have e2:δ[q.2]?=some (some d):=by
    unfold jK at e
    cases z:δ[q.2]? with
    | none=>rw[z]at e;cases e
    | some o=>rw[z]at e;exact congrArg some e
   have hp:d.pl=true:=by have:=h.1;unfold jn at this;rw[e]at this;exact this
   obtain⟨v,e3,s⟩:=c.look e2
   rw[e3]
   show RS F H (some d.sh::_) (some v::_) []
   rw[D.D3 hp]
   exact .dR (A:=[]) (s.r (by simp[hp])) ih
theorem Xt(c:aq B F H σ δ ts)(n:Nat):∀(aE:List (Str × Nat)),RS H H (gA aE n δ) (iw aE n σ) []
 | []=>by
  have z:∀n,RS H H (bo n none) (bo n none) []:=λn=>by
   induction n with
   | zero=>exact .nil
   | succ n ih=>exact .aw ih
  exact z n
 | q::r=>by
  have ih:=Xt c n r
  show RS H H ((jK δ q).map D.sh::gA r n δ) ((σ[q.2]?).getD none::iw r n σ) []
  cases e:jK δ q with
  | none=>exact .aw ih
  | some d =>
   have e2:δ[q.2]?=some (some d):=by
    unfold jK at e
    cases z:δ[q.2]? with
    | none=>rw[z]at e;cases e
    | some o=>rw[z]at e;exact congrArg some e
   obtain⟨v,e3,s⟩:=c.look e2
   rw[e3]
   exact .dR (A:=[]) (s.frozen c.ext) ih
theorem Xu{α:Type}(xs:List α)(p:α->Bool)(i:Nat)(x:α)(h:xs[i]?=some x):(xs.take (i+1)).filter p=(xs.take i).filter p++(if p x=true then [x]else []):=by
 rw[nh,h,List.filter_append]
 simp only[Vj]
 by_cases hp:p x=true<;>simp[hp]
end
section
variable{X:Cx}{elt iter tg:Expr}{pos:Pos}{ifs:List Expr}{scope:Scope}{cl:List (Str × Addr)}{ti:jm}{tt:gz}{te:aO}{g:iz}
theorem Kh{B:Bs}{F1 H1:Hp}{σ:L2.St}{ao:Dl}{ts:List (D × V)}{J:It}{Qd:D->Dl->Prop}{Q:VK}{xs:List D}{sh:Bool}{aE:List (Str × Nat)}{n:Nat}(c1:aq B F1 H1 σ ao ts)
  (nR:JD J H1 (xs.map D.sh)) (rH:sh=true->xs.all D.pl=true/\JD J F1 xs) (p:D->Bool) (f:D->D)
  (hx:∀x∈xs.map D.sh,g x (gA aE n ao) λaT=>tt aT λb iP=>b=p x/\(p x=true->te iP λd _=>d=f x))
  (eK:(sh&&aE.all (jn ao))=true\/∀x∈xs.map D.sh,p x=true->(f x).fr=true) (hlen:xs.length<=sizeLine) (hq:Qd (.lst true (((xs.map D.sh).filter p).map f)) ao)
  (k:∀d ah v F' H',Qd d ah->af F1 F'->af H1 H'->aq B F' H' σ ah ((d,v)::ts)->Q v H'):W8 J aE n (lG aE.length g) (lT tt) (lE te) σ H1 Q:=by
 intro Dp hD
 have cD:aq B F1 (upd H1 Dp (.lst [])) σ ao ((.lst true [],.ref Dp)::ts):=c1.pf hD .nil rfl
 refine⟨λi m acc H2=>m=xs.length-i/\i<=xs.length/\H2 Dp=some (.lst acc)/\af H1 H2/\acc.length<=i/\∃F2,af F1 F2 /\
  aq B F2 H2 σ ao ((.lst true ((((xs.map D.sh).take i).filter p).map f),.ref Dp)::ts),⟨xs.length,rfl,lK _,bM,af.upd hD,bK _,F1,af.refl _,by simpa using cD⟩,?_⟩
 rintro i m acc H2 ⟨rfl,hi,Ki,Al,hal,F2,mD,c2⟩
 refine⟨Ki,?_⟩
 by_cases fK:i<xs.length
 case neg =>
  have e:i=xs.length:=by omega
  subst e
  refine .inl ⟨nR.stop _ H2 Al (by simp),k _ ao _ F2 H2 ?_ mD Al c2⟩
  have:(xs.map D.sh).take xs.length=xs.map D.sh:=by rw[zi (by simp)]
  rw[this]
  exact hq
 case pos =>
  refine .inr ⟨nR.go i H2 Al (by simpa using fK),λx H3 y=>?_⟩
  obtain⟨d0,e0,Kj,r0⟩:=nR.j8 i H2 x H3 Al (by simpa using fK) y
  have Xv:d0∈xs.map D.sh:=tZ e0
  have Xw:H3 Dp=some (.lst acc):=Kj _ _ Ki
  have c3:=c2.grow Kj
  have Kk:=Al.trans Kj
  refine⟨Xw,?_⟩
  have gB:=hx d0 Xv
  have turn:∀Fi,af Fi H3->RS Fi H3 (gA aE n ao) (iw aE n σ) []->S Fi H3 [d0] [x]->d0.pl=true ->
    (∀d v F' H' A,d=f d0->p d0=true->af H3 H'->af Fi F'->af F' H'->(∀a ws,F' a=some (.lst ws)->Fi a=some (.lst ws)\/H3 a=none)->R F' H' [d] [v] A->A.Nodup->(∀a∈A,H3 a=none) ->
     ∃F4,af F2 F4/\aq B F4 H' σ ao ((d,v)::(.lst true ((((xs.map D.sh).take i).filter p).map f),.ref Dp)::ts)) ->
    lG aE.length g x (iw aE n σ) H3 λgY H4 =>
     (gY.length=(iw aE n σ).length/\∀j,j<aE.length->gY[j]?=(iw aE n σ)[j]?)/\lT tt gY H4 λb H5=>H5 Dp=some (.lst acc) /\
     if b=true then lE te gY H5 λy H6=>H6 Dp=some (.lst acc)/\acc.length<sizeLine/\∃m',m'<xs.length-i /\
      (m'=xs.length-(i+1)/\i+1<=xs.length/\upd H6 Dp (.lst (acc++[y])) Dp=some (.lst (acc++[y]))/\af H1 (upd H6 Dp (.lst (acc++[y])))/\(acc++[y]).length<=i+1/\∃F2,af F1 F2 /\
       aq B F2 (upd H6 Dp (.lst (acc++[y]))) σ ao ((.lst true ((((xs.map D.sh).take (i+1)).filter p).map f),.ref Dp)::ts))
     else ∃m',m'<xs.length-i/\(m'=xs.length-(i+1)/\i+1<=xs.length/\H5 Dp=some (.lst acc)/\af H1 H5/\acc.length<=i+1/\∃F2,af F1 F2 /\
       aq B F2 H5 σ ao ((.lst true ((((xs.map D.sh).take (i+1)).filter p).map f),.ref Dp)::ts)):=by
   intro Fi hFi hRS hS bQ back
   have ci:aq ⟨H3,Fi⟩ Fi H3 (iw aE n σ) (gA aE n ao) []:=⟨hFi,af.refl _,af.refl _,λ_ _ q=>.inl q,[],[],.nil,hRS,by simp,by simp⟩
   refine⟨⟨H3,Fi⟩,Fi,gA aE n ao,[],d0,_,ci.pushS hS bQ,gB,λah gY hq1 l1 k1 c4=>⟨⟨l1,k1⟩,⟨H3,Fi⟩,Fi,ah,[],_,c4,hq1,λb jJ F5 H5 hb f5 h5 c5=>?_⟩⟩
   obtain⟨hb,ht⟩:=hb
   have Ea:H5 Dp=some (.lst acc):=h5 _ _ Xw
   refine⟨Ea,?_⟩
   by_cases hp:p d0=true
   ·rw[hb,hp]
    refine q8 ⟨⟨H3,Fi⟩,F5,jJ,[],_,c5,ht hp,λd δ6 v F6 H6 hd f6 h6 c6=>?_⟩
    have Xx:H6 Dp=some (.lst acc):=h6 _ _ Ea
    obtain⟨A,C,r,s,nd,fr⟩:=c6.own
    obtain⟨F4,pz,c7⟩:=back d v F6 H6 A hd hp c6.b1 c6.b2 c6.ext c6.b3 r (gy.mp nd).1 λa ha=>fr a (eZ _ ha)
    have c8:=c7.d44 Xx
    refine⟨Xx,by omega,xs.length-(i+1),by omega,rfl,fK,bM,?_,by simpa using hal,F4,mD.trans pz,?_⟩
    ·have Xy:=Kk.trans c6.b1
     exact⟨λa o q n=>by rw[bf (eU q hD)];exact Xy.get a o q n,λa ps q=>by rw[bf (eU q hD)];exact Xy.tb a ps q⟩
    ·have e9:(((xs.map D.sh).take (i+1)).filter p).map f=(((xs.map D.sh).take i).filter p).map f++[d]:=by
      rw[Xu _ p i d0 e0,hp,hd];simp
     rw[e9]
     exact c8
   ·have Eb:p d0=false:=by simpa using hp
    rw[hb,Eb]
    refine jh ⟨xs.length-(i+1),by omega,rfl,fK,Ea,Kk.trans h5,by omega,F2,mD,?_⟩
    have e9:(((xs.map D.sh).take (i+1)).filter p).map f=(((xs.map D.sh).take i).filter p).map f:=by
     rw[Xu _ p i d0 e0,Eb];simp
    rw[e9]
    exact c3.grow h5
  by_cases hA:(sh&&aE.all (jn ao))=true
  ·rw[eH]at hA
   obtain⟨bQ,jd⟩:=rH hA.1
   have zT:=my bQ
   rw[zT]at e0
   obtain⟨d1,e1,_,r1⟩:=jd.j8 i H2 x H3 (mD.trans c2.ext) fK y
   rw[e0]at e1;cases e1
   have d58:d0.pl=true:=by have:=r1.pl;simpa using this
   refine turn F2 c3.ext (Xs c3 n aE hA.2) ((r1.s).mono mD (af.refl _)) d58 λd v F' H' A hd hp hs hf he h3 r nd fr=>⟨F',hf,c3.call hs hf he h3 r nd fr⟩
  ·have d60:=eK.resolve_left hA
   refine turn H3 (af.refl _) (Xt c3 n aE) ((r0.shared Kk (af.refl _)).s) (by have:=r0.pl;simpa using this) λd v F' H' A hd hp hs hf he h3 r nd fr=>⟨F2,af.refl _,?_⟩
   exact c3.J5 hs (r.rq (by rw[hd];simp[d60 d0 Xv hp]) (c3.ext.trans hf)) nd fr
theorem dB{Y:Cx}:mn Y [] (lT mC):=λ_ _ _ H _ I ⟨B,F,δ,ts,Qd,c,q,k⟩=>cE3 _ _ _ H _ I (k true δ F H q (af.refl _) (af.refl _) c)
theorem Kl{Y:Cx}{c:Expr}(h:PT Y c (lT tt)):mn Y [c] (lT tt):=cG9 h
end
end L3
namespace L3
open PySem L2 PySem.Spec PyProof.Rows
section
variable{X:Cx}{F H:Hp}{v w:V}
def l2(rd:cX):R2:=λv w H Q=>∃B F σ δ ts x y Qd,aq B F H σ δ ts/\S F H [x] [v]/\S F H [y] [w]/\rd x y Qd/\∀d z H',Qd d->af H H'->aq B F H' σ δ ((d,z)::ts)->Q z H'
theorem bW.of{f:Value->Value->Sem Value}{rd:cX}(h:cQ X f (l2 rd)):bW X f rd:=⟨_,h,λ{B F H σ δ ts x y v w Q Qd} c sx sy q k=>⟨B,F,σ,δ,ts,x,y,Qd,c,sx,sy,q,k⟩⟩
theorem Am{f:Value->Value->Sem Value}{C:Int->Int->Prop}{g:Int->Int->V}{gd:Int->Int->D}(ho:cQ X f (rI C g))(hg:∀i j F H,S F H [gd i j] [g i j])(hp:∀i j,(gd i j).pl=true):bW X f λx y Q=>∃i j,x=.int i/\y=.int j/\C i j/\Q (gd i j) :=
 ⟨_,ho,λ{B F H σ δ ts x y v w Q Qd} c sx sy h k=>by
  obtain⟨i,j,rfl,rfl,hc,q⟩:=h
  cases sx;cases sy
  exact⟨i,j,rfl,rfl,hc,k _ _ _ q (af.refl _) (c.pushS (hg i j F H) (hp i j))⟩⟩
theorem mE{f:Value->Value->Sem Value}{g:Int->Int->V}{gd:Int->Int->D}(ho:cQ X f (jE g))(hg:∀i j F H,S F H [gd i j] [g i j])(hp:∀i j,(gd i j).pl=true):bW X f λx y Q=>∃i j,x=.int i/\y=.int j/\Q (gd i j) :=
 ⟨_,ho,λ{B F H σ δ ts x y v w Q Qd} c sx sy h k=>by
  obtain⟨i,j,rfl,rfl,q⟩:=h
  cases sx;cases sy
  exact⟨i,j,rfl,rfl,k _ _ _ q (af.refl _) (c.pushS (hg i j F H) (hp i j))⟩⟩
theorem jo{o:Bool}{xs:List D}(s:S F H [.lst o xs] [v])(e:af F H):∃p ws,v=.ref p/\H p=some (.lst ws)/\S F H xs ws:=by
 cases s with
 | shr h r _=>exact⟨_,_,rfl,e _ _ h,r.s⟩
 | own h r _=>exact⟨_,_,rfl,h,r⟩
theorem kN{xs:List D}(s:S F H [.tup xs] [v]):∃p ws,v=.ref p/\H p=some (.tup ws)/\S F H xs ws:=by
 cases s with
 | tup h r _=>exact⟨_,_,rfl,h,r⟩
theorem kO{d:D}{xs:List D}(s:S F H [d] [v])(e:af F H)(h:ke d=some xs):∃p ws,v=.ref p/\Rd H p (.lst ws)/\S F H xs ws:=by
 cases s with
 | shr h' r _=>cases h;exact⟨_,_,rfl,.inl (e _ _ h'),r.s⟩
 | own h' r _=>cases h;exact⟨_,_,rfl,.inl h',r⟩
 | fz h' r _=>cases h;exact⟨_,_,rfl,.inr ⟨_,e _ _ h'⟩,r.s⟩
 | aw _=>cases h
 | bl _=>cases h
 | int _=>cases h
 | str _=>cases h
 | tup _ _ _=>cases h
 | obj _ _ _ _=>cases h
 | bI _ _=>cases h
theorem S.rep{xs:List D}{ws:List V}(s:S F H xs ws):∀k:Nat,S F H (bo k xs).flatten (bo k ws).flatten
 | 0=>by simpa using S.nil
 | k+1=>by
  rw[qC,qC,t9,t9]
  exact s.append (S.rep s k)
def rJ:cX:=λx y Q=>match x,y with
 | .int i,.int j=>Q (.int (i+j))
 | .str a,.str b=>a.length+b.length<=sizeLine/\Q (.str (a++b))
 | .lst _ xs,.lst _ ys=>(xs.length+ys.length<=sizeLine/\xs.all D.pl=true/\ys.all D.pl=true)/\Q (.lst true (xs++ys))
 | _,_=>False
theorem cT5:bW X (binaryOp .Add) λx y Q=>∃o xs o' ys,x=.lst o xs/\y=.lst o' ys/\(xs.length+ys.length<=sizeLine/\xs.all D.pl=true/\ys.all D.pl=true)/\Q (.lst true (xs++ys)) :=
 ⟨_,Wx,λ{B F H σ δ ts x y v w Q Qd} c sx sy h k=>by
  obtain⟨o,xs,o',ys,rfl,rfl,⟨hz,h1,h2⟩,q⟩:=h
  obtain⟨p,ws,rfl,e1,s1⟩:=jo sx c.ext
  obtain⟨p',gL,rfl,e2,s2⟩:=jo sy c.ext
  refine⟨p,p',ws,gL,rfl,rfl,e1,e2,by rw[<-s1.length,<- s2.length];exact hz,λr hr=>?_⟩
  exact k _ _ _ q (af.upd hr) (c.pf hr (s1.append s2) (by simp[h1,h2]))⟩
theorem d62:bW X (binaryOp .Add) λx y Q=>∃i j,x=.str i/\y=.str j/\i.length+j.length<=sizeLine/\Q (.str (i++j)) :=
 ⟨_,b09,λ{B F H σ δ ts x y v w Q Qd} c sx sy h k=>by
  obtain⟨i,j,rfl,rfl,hz,q⟩:=h
  cases sx;cases sy
  exact⟨i,j,rfl,rfl,hz,k _ _ _ q (af.refl _) (c.pushS (.str .nil) rfl)⟩⟩
theorem cU:bW X (binaryOp .Add) rJ:=((mE (gd:=λi j=>.int (i+j)) cS0 (λ_ _ _ _=>.int .nil) λ_ _=>rfl).or (d62.or cT5)).imp λx y Q h=>by
 unfold rJ at h
 split at h
 ·exact .inl ⟨_,_,rfl,rfl,h⟩
 ·exact .inr (.inl ⟨_,_,rfl,rfl,h.1,h.2⟩)
 ·exact .inr (.inr ⟨_,_,_,_,rfl,rfl,h.1,h.2⟩)
 ·exact h.elim
def iI(C:Int->Int->Prop)(g:Int->Int->D):cX:=λx y Q=>match x,y with
 | .int i,.int j=>C i j/\Q (g i j)
 | _,_=>False
def iA(g:Int->Int->D):cX:=λx y Q=>match x,y with
 | .int i,.int j=>Q (g i j)
 | _,_=>False
theorem Ec{f:Value->Value->Sem Value}{C:Int->Int->Prop}{g:Int->Int->D}(h:bW X f λx y Q=>∃i j,x=.int i/\y=.int j/\C i j/\Q (g i j)):bW X f (iI C g):=h.imp λx y Q h=>by
 unfold iI at h
 split at h
 ·exact⟨_,_,rfl,rfl,h.1,h.2⟩
 ·exact h.elim
theorem nS{f:Value->Value->Sem Value}{g:Int->Int->D}(h:bW X f λx y Q=>∃i j,x=.int i/\y=.int j/\Q (g i j)):bW X f (iA g):=h.imp λx y Q h=>by
 unfold iA at h
 split at h
 ·exact⟨_,_,rfl,rfl,h⟩
 ·exact h.elim
def vd:cX:=iA λi j=>.int (i-j)
theorem dG:bW X (binaryOp .Sub) vd:=nS (mE Jt (λ_ _ _ _=>.int .nil) λ_ _=>rfl)
def Km(_ j:Int):Prop:=0<j/\j.natAbs.log2<9000
theorem rK{i j:Int}(h1:0<j)(h2:j<1073741824):Km i j:=⟨h1,by
 have h:j.natAbs<2 ^ 30:=by omega
 have:=(Nat.log2_lt (show j.natAbs≠0 by omega)).mpr h
 omega⟩
theorem cq6:cQ X (binaryOp .FloorDiv) (rI Km λi j=>.int (i/j)):=zQ λi j _ _ _ _ _ hc q =>
 floordiv_int (show j≠0 by have:=hc.1;omega) (by rw[dC7 i (by have:=hc.1;omega)];exact q) (.inl (PyProof.noPylong_of_log2 hc.2))
def ve:cX:=iI Km λi j=>.int (i/j)
theorem rL:bW X (binaryOp .FloorDiv) ve:=Ec (Am cq6 (λ_ _ _ _=>.int .nil) λ_ _=>rfl)
def vg:cX:=iI (λ_ j=>0<j) λi j=>.int (i%j)
theorem dH:bW X (binaryOp .Mod) vg:=Ec (Am cK4 (λ_ _ _ _=>.int .nil) λ_ _=>rfl)
def vh:cX:=iI W4 λi j=>.int (i*2 ^ j.toNat)
theorem vi:bW X (binaryOp .LShift) vh:=Ec (Am W5 (λ_ _ _ _=>.int .nil) λ_ _=>rfl)
def vj:cX:=iI (λ_ j=>0<=j) λi j=>.int (i/2 ^ j.toNat)
theorem Xz:bW X (binaryOp .RShift) vj:=Ec (Am cM9 (λ_ _ _ _=>.int .nil) λ_ _=>rfl)
def vk:cX:=iA λi j=>.int (oH i j)
theorem XA:bW X (binaryOp .BitAnd) vk:=nS (mE cR1 (λ_ _ _ _=>.int .nil) λ_ _=>rfl)
def vm:cX:=iA λi j=>.int (oI i j)
theorem An:bW X (binaryOp .BitXor) vm:=nS (mE cQ2 (λ_ _ _ _=>.int .nil) λ_ _=>rfl)
theorem cq7:cQ X (binaryOp .Mult) (rI IntMulOk λi j=>.int (i*j)):=zQ λ_ _ _ _ _ _ _ hc q=>mul_int q hc
def rM:cX:=λx y Q=>match x,y with
 | .int i,.int j=>IntMulOk i j/\Q (.int (i*j))
 | .lst _ xs,.int k=>(-(2 ^ 63)<=k/\k<2 ^ 63/\xs.length*k.toNat<=sizeLine/\xs.all D.pl=true)/\Q (.lst true (bo k.toNat xs).flatten)
 | _,_=>False
theorem cW3:bW X (binaryOp .Mult) λx y Q=>∃o xs k,x=.lst o xs/\y=.int k/\(-(2 ^ 63)<=k/\k<2 ^ 63/\xs.length*k.toNat<=sizeLine/\xs.all D.pl=true)/\Q (.lst true (bo k.toNat xs).flatten) :=
 ⟨_,cQ5,λ{B F H σ δ ts x y v w Q Qd} c sx sy h k=>by
  obtain⟨o,xs,n,rfl,rfl,⟨b1,b2,hz,h1⟩,q⟩:=h
  obtain⟨p,ws,rfl,e1,s1⟩:=jo sx c.ext
  cases sy
  refine⟨p,n,ws,rfl,rfl,e1,b1,b2,by rw[<-s1.length];exact hz,λr hr=>?_⟩
  refine k _ _ _ q (af.upd hr) (c.pf hr (s1.rep _) ?_)
  rw[dz]
  intro x hx
  obtain⟨l,hl,rN⟩:=List.mem_flatten.mp hx
  rw[(Dg.mp hl).2]at rN
  exact dz.mp h1 x rN⟩
theorem fA:bW X (binaryOp .Mult) rM:=((Am (gd:=λi j=>.int (i*j)) cq7 (λ_ _ _ _=>.int .nil) λ_ _=>rfl).or cW3).imp λx y Q h=>by
 unfold rM at h
 split at h
 ·exact .inl ⟨_,_,rfl,rfl,h.1,h.2⟩
 ·exact .inr ⟨_,_,_,rfl,rfl,h.1,h.2⟩
 ·exact h.elim
theorem cK6:bW X (inplaceOp .Add) (iA λi j=>.int (i+j)):=nS (mE cz1 (λ_ _ _ _=>.int .nil) λ_ _=>rfl)
theorem Ee:bW X (inplaceOp .BitXor) (iA λi j=>.int (oI i j)):=nS (mE cy0 (λ_ _ _ _=>.int .nil) λ_ _=>rfl)
def vn:cX:=iA λi j=>.bl (decide (i<j))
def vo:cX:=iA λi j=>.bl (decide (i<=j))
def vp:cX:=iA λi j=>.bl (decide (j<i))
def vq:cX:=iA λi j=>.bl (decide (j<=i))
theorem rO:bW X (compareOp .Lt) vn:=nS (mE V1 (λ_ _ _ _=>.bl .nil) λ_ _=>rfl)
theorem kg:bW X (compareOp .LtE) vo:=nS (mE cV4 (λ_ _ _ _=>.bl .nil) λ_ _=>rfl)
theorem Kn:bW X (compareOp .Gt) vp:=nS (mE V2 (λ_ _ _ _=>.bl .nil) λ_ _=>rfl)
theorem c76:bW X (compareOp .GtE) vq:=nS (mE cW1 (λ_ _ _ _=>.bl .nil) λ_ _=>rfl)
def pB:D->Bool
 | .aw=>true
 | _=>false
def rP:cX:=λx y Q=>match y with
 | .aw=>Q (.bl (!pB x))
 | _=>False
theorem cz8{d:D}(s:S F H [d] [v]):decide (v=.aw)=pB d:=by cases s<;>simp[pB]
theorem cM8:bW X (compareOp .IsNot) rP:=⟨_,cD4,λ{B F H σ δ ts x y v w Q Qd} c sx sy h k=>by
 unfold rP at h
 split at h
 ·cases sy
  refine⟨rfl,?_⟩
  rw[cz8 sx]
  exact k _ _ _ h (af.refl _) (c.pushS (.bl .nil) rfl)
 ·exact h.elim⟩
def bJ:D->D->Bool
 | .aw,.aw=>true
 | .bl a,.bl b=>a==b
 | .bl a,.int b=>(if a then 1 else 0)==b
 | .int a,.bl b=>a==(if b then 1 else 0)
 | .int a,.int b=>a==b
 | .str a,.str b=>a==b
 | .lst _ xs,.lst _ ys=>gh xs ys
 | .tup xs,.tup ys=>gh xs ys
 | _,_=>false
where gh:List D->List D->Bool
 | [],[]=>true
 | x::xs,y::ys=>bJ x y&&gh xs ys
 | _,_=>false
def dU:Nat->D->Bool
 | _,.aw=>true
 | _,.bl _=>true
 | _,.int _=>true
 | _,.str _=>true
 | n+1,.lst _ xs=>xs.all (dU n)
 | n+1,.tup xs=>xs.all (dU n)
 | _,_=>false
theorem Ko:∀(xs ys:List D),xs.length=ys.length->bJ.gh xs ys=(aM xs.length).all λj=>bJ (xs.getD j .aw) (ys.getD j .aw)
 | [],[],_=>rfl
 | x::xs,y::ys,h=>by
  rw[jz,dD8,dy,ni]
  show(bJ x y&&bJ.gh xs ys)=_
  rw[Ko xs ys (by simpa using h)]
  rfl
theorem Kp:∀(xs ys:List D),xs.length≠ys.length->bJ.gh xs ys=false
 | [],[],h=>absurd rfl h
 | [],_::_,_=>rfl
 | _::_,[],_=>rfl
 | x::xs,y::ys,h=>by
  show(bJ x y&&bJ.gh xs ys)=false
  rw[Kp xs ys (by simpa using h),Bool.and_false]
def ofV:V->D
 | .bl b=>.bl b
 | .int i=>.int i
 | .str z=>.str z
 | _=>.aw
theorem Ao{x:D}{v:V}(h:dU 0 x=true)(s:S F H [x] [v]):x=ofV v:=by
 cases s with
 | aw _=>rfl
 | bl _=>rfl
 | int _=>rfl
 | str _=>rfl
 | _=>cases h
theorem XB{x:D}(h:dU 0 x=true):bJ x x=true:=by
 cases x with
 | aw=>rfl
 | bl b=>exact beq_self_eq_true b
 | int i=>exact beq_self_eq_true i
 | str z=>exact beq_self_eq_true z
 | _=>cases h
theorem pE{n:Nat}{x:D}(h:dU (n+1) x=true):dU 0 x=true\/(∃o xs,x=.lst o xs/\xs.all (dU n)=true)\/∃xs,x=.tup xs/\xs.all (dU n)=true:=by
 cases x with
 | lst o xs=>exact .inr (.inl ⟨o,xs,rfl,h⟩)
 | tup xs=>exact .inr (.inr ⟨xs,rfl,h⟩)
 | obj _ _ _=>exact absurd h i5
 | fz _=>exact absurd h i5
 | bI _=>exact absurd h i5
 | _=>exact .inl rfl
theorem Ef{x:D}{p:Addr}(h:dU 0 x=true)(s:S F H [x] [.ref p]):False:=by
 rw[Ao h s]at s
 cases s
theorem XC:∀(n:Nat) {xs ys:List D} {vs:List V},xs.all (dU n)=true->ys.all (dU n)=true->S F H xs vs->S F H ys vs->af F H->bJ.gh xs ys=true:=by
 intro n xs
 induction n generalizing xs with
 | zero =>
  induction xs with
  | nil=>intro ys vs _ _ s1 s2 _;cases s1;cases s2;rfl
  | cons x xs ih =>
   intro ys vs h1 h2 s1 s2 e
   obtain⟨v,bU,rfl,q1,r1⟩:=s1.cR
   cases ys with
   | nil=>cases s2
   | cons y ys =>
    obtain⟨v',J4,ee,q2,r2⟩:=s2.cR
    obtain⟨rfl,rfl⟩:=m9 ee
    rw[dy,eH]at h1 h2
    show(bJ x y&&bJ.gh xs ys)=true
    rw[ih h1.2 h2.2 r1 r2 e,nj,Ao h2.1 q2,<- Ao h1.1 q1]
    exact XB h1.1
 | succ n XD =>
  induction xs with
  | nil=>intro ys vs _ _ s1 s2 _;cases s1;cases s2;rfl
  | cons x xs ih =>
   intro ys vs h1 h2 s1 s2 e
   obtain⟨v,bU,rfl,q1,r1⟩:=s1.cR
   cases ys with
   | nil=>cases s2
   | cons y ys =>
    obtain⟨v',J4,ee,q2,r2⟩:=s2.cR
    obtain⟨rfl,rfl⟩:=m9 ee
    rw[dy,eH]at h1 h2
    show(bJ x y&&bJ.gh xs ys)=true
    rw[ih h1.2 h2.2 r1 r2 e,nj]
    have h1:=h1.1
    have h2:=h2.1
    clear ih r1 r2 s1 s2
    rcases pE h1 with k1 | ⟨o1,a1,rfl,k1⟩ | ⟨a1,rfl,k1⟩
    ·rcases pE h2 with k2 | ⟨o2,a2,rfl,k2⟩ | ⟨a2,rfl,k2⟩
     ·rw[Ao k2 q2,<- Ao k1 q1]
      exact XB k1
     ·obtain⟨p,ws,rfl,_⟩:=jo q2 e
      exact(Ef k1 q1).elim
     ·obtain⟨p,ws,rfl,_⟩:=kN q2
      exact(Ef k1 q1).elim
    ·obtain⟨p,ws,rfl,e1,t1⟩:=jo q1 e
     rcases pE h2 with k2 | ⟨o2,a2,rfl,k2⟩ | ⟨a2,rfl,k2⟩
     ·exact(Ef k2 q2).elim
     ·obtain⟨p2,Kq,ev,e2,t2⟩:=jo q2 e
      cases ev
      cases e1.symm.trans e2
      exact XD k1 k2 t1 t2 e
     ·obtain⟨p2,Kq,ev,e2,t2⟩:=kN q2
      cases ev
      cases e1.symm.trans e2
    ·obtain⟨p,ws,rfl,e1,t1⟩:=kN q1
     rcases pE h2 with k2 | ⟨o2,a2,rfl,k2⟩ | ⟨a2,rfl,k2⟩
     ·exact(Ef k2 q2).elim
     ·obtain⟨p2,Kq,ev,e2,t2⟩:=jo q2 e
      cases ev
      cases e1.symm.trans e2
     ·obtain⟨p2,Kq,ev,e2,t2⟩:=kN q2
      cases ev
      cases e1.symm.trans e2
      exact XD k1 k2 t1 t2 e
end
end L3
namespace L3
open PySem L2 PySem.Spec PyProof.Rows
structure XE(A:Around)(s:Shared)(u w:Value)(b:Bool):Prop where
 rc:SeqAt.RcAt A s u w b
 ne:SeqAt.RcNeAt A s u w (!b)
 eq:IA A s u w b
section
variable{X:Cx}{F H:Hp}{v w:V}
theorem XF{xs:List V}{us:List Value}(r:Vals xs us){j:Nat}(h:j<us.toArray.size):∃x,xs[j]?=some x/\RelV x us.toArray[j]:=by
 have l:=r.length
 have hj:j<xs.length:=by rw[l];simpa using h
 obtain⟨u,e,q⟩:=r.get (aP hj)
 obtain⟨_,z⟩:=iZ.mp e
 refine⟨_,aP hj,?_⟩
 have:us.toArray[j]=u:=by simpa using z
 rw[this];exact q
theorem XG{xs:List D}{j:Nat}{d:D}(h:xs[j]?=some d):xs.getD j .aw=d:=by rw[aU,h];rfl
theorem vt{x:D}{v:V}{u:Value}(h:dU 0 x=true)(s:S F H [x] [v])(r:RelV v u):(x=.aw/\u=.none)\/(∃b,x=.bl b/\u=.bool b)\/(∃i t,x=.int i/\u=.int i t)\/∃z t,x=.str z/\u=.str z t:=by
 cases s with
 | aw _=>cases r;exact .inl ⟨rfl,rfl⟩
 | bl _=>cases r;exact .inr (.inl ⟨_,rfl,rfl⟩)
 | int _=>obtain⟨t,rfl⟩:=r;exact .inr (.inr (.inl ⟨_,t,rfl,rfl⟩))
 | str _=>obtain⟨t,rfl⟩:=r;exact .inr (.inr (.inr ⟨_,t,rfl,rfl⟩))
 | _=>exact absurd h i5
theorem XH{x y:D}{u u':Value}{A:Around}{s:Shared}(h1:(x=.aw/\u=.none)\/(∃b,x=.bl b/\u=.bool b)\/(∃i t,x=.int i/\u=.int i t)\/∃z t,x=.str z/\u=.str z t)(h2:(y=.aw/\u'=.none)\/(∃b,y=.bl b/\u'=.bool b)\/(∃i t,y=.int i/\u'=.int i t)\/∃z t,y=.str z/\u'=.str z t):XE A s u u' (bJ x y):=by
 rcases h1 with⟨rfl,rfl⟩ | ⟨a,rfl,rfl⟩ | ⟨a,t,rfl,rfl⟩ | ⟨a,t,rfl,rfl⟩<;>rcases h2 with⟨rfl,rfl⟩ | ⟨b,rfl,rfl⟩ | ⟨b,t',rfl,rfl⟩ | ⟨b,t',rfl,rfl⟩
 ·exact⟨.none_none,.none_none,.same _⟩
 ·exact⟨.none_bool _,.none_bool _,.none_bool _⟩
 ·exact⟨.none_int _ _,.none_int _ _,.none_int _ _⟩
 ·exact⟨.none_str _ _,.none_str _ _,.none_str _ _⟩
 ·exact⟨.bool_none _,.bool_none _,.bool_none _⟩
 ·exact⟨.bool_bool _ _,.bool_bool _ _,.bool_bool _ _⟩
 ·exact⟨.bool_int _ _ _,.bool_int _ _ _,.bool_int _ _ _⟩
 ·exact⟨.bool_str _ _ _,.bool_str _ _ _,.bool_str _ _ _⟩
 ·exact⟨.int_none _ _,.int_none _ _,.int_none _ _⟩
 ·exact⟨.int_bool _ _ _,.int_bool _ _ _,.int_bool _ _ _⟩
 ·exact⟨.int_int _ _ _ _,.int_int _ _ _ _,.int_int _ _ _ _⟩
 ·exact⟨.int_str _ _ _ _,.int_str _ _ _ _,.int_str _ _ _ _⟩
 ·exact⟨.str_none _ _,.str_none _ _,.str_none _ _⟩
 ·exact⟨.str_bool _ _ _,.str_bool _ _ _,.str_bool _ _ _⟩
 ·exact⟨.str_int _ _ _ _,.str_int _ _ _ _,.str_int _ _ _ _⟩
 ·exact⟨.str_str _ _ _ _,.str_str _ _ _ _,.str_str _ _ _ _⟩
theorem XI{pins:List (Addr × Obj)}{σ:L2.St}{s:Shared}(I:Inv X pins σ H s)(e:af F H):∀(n:Nat) (x y:D) (v w:V) (u u':Value) (A:Around),dU n x=true->dU n y=true->S F H [x] [v]->S F H [y] [w]->RelV v u->RelV w u' ->
  A.units+n<cLine->XE A s u u' (bJ x y):=by
 intro n
 induction n with
 | zero =>
  intro x y v w u u' A hx hy sx sy rv gw hu
  exact XH (vt hx sx rv) (vt hy sy gw)
 | succ n ih =>
  intro x y v w u u' A hx hy sx sy rv gw hu
  have bC:A.units<cLine:=m8 (Nat.le_add_right ..) hu
  have XJ:A.in1.units+n<cLine:=by show A.units+1+n<cLine;rw[IL,Va 1];exact hu
  have items:∀{xs ys:List D} {vs ws:List V} {us iB:List Value},xs.all (dU n)=true->ys.all (dU n)=true->S F H xs vs->S F H ys ws->Vals vs us->Vals ws iB ->
    ∀j (h1:j<us.toArray.size) (h2:j<iB.toArray.size),IA A.in1 s us.toArray[j] iB.toArray[j] (bJ (xs.getD j .aw) (ys.getD j .aw)):=by
   intro xs ys vs ws us iB hx hy sx sy r1 r2 j h1 h2
   obtain⟨a,e1,q1⟩:=XF r1 h1
   obtain⟨b,e2,q2⟩:=XF r2 h2
   obtain⟨d1,g1,t1⟩:=sx.get' e1
   obtain⟨d2,g2,t2⟩:=sy.get' e2
   rw[XG g1,XG g2]
   exact(ih d1 d2 a b _ _ A.in1 (dz.mp hx d1 (tZ g1)) (dz.mp hy d2 (tZ g2)) t1 t2 q1 q2 XJ).eq
  clear ih hu XJ
  rcases pE hx with k1 | ⟨o,xs,rfl,k1⟩ | ⟨xs,rfl,k1⟩
  ·have f:=vt k1 sx rv
   rcases pE hy with k2 | ⟨o',ys,rfl,k2⟩ | ⟨ys,rfl,k2⟩
   ·exact XH f (vt k2 sy gw)
   ·obtain⟨p',gL,rfl,e2,t2⟩:=jo sy e
    cases gw
    obtain⟨kP,r2,p2,z2⟩:=I.list (bN.of (K:=X.K) e2)
    have p2:=p2.isList
    rcases f with⟨rfl,rfl⟩ | ⟨a,rfl,rfl⟩ | ⟨a,t,rfl,rfl⟩ | ⟨a,t,rfl,rfl⟩
    ·exact⟨.none_list p2 bC,.none_list p2 bC,.none_list p2 bC⟩
    ·exact⟨.bool_list _ p2 bC,.bool_list _ p2 bC,.bool_list _ p2 bC⟩
    ·exact⟨.int_list _ _ p2 bC,.int_list _ _ p2 bC,.int_list _ _ p2 bC⟩
    ·exact⟨.str_list _ _ p2 bC,.str_list _ _ p2 bC,.str_list _ _ p2 bC⟩
   ·obtain⟨p',gL,rfl,e2,t2⟩:=kN sy
    cases gw
    obtain⟨kP,r2,p2,z2⟩:=I.tuple (ie.of (K:=X.K) e2)
    rcases f with⟨rfl,rfl⟩ | ⟨a,rfl,rfl⟩ | ⟨a,t,rfl,rfl⟩ | ⟨a,t,rfl,rfl⟩
    ·exact⟨.none_tuple p2 bC,.none_tuple p2 bC,.none_tuple p2 bC⟩
    ·exact⟨.bool_tuple _ p2 bC,.bool_tuple _ p2 bC,.bool_tuple _ p2 bC⟩
    ·exact⟨.int_tuple _ _ p2 bC,.int_tuple _ _ p2 bC,.int_tuple _ _ p2 bC⟩
    ·exact⟨.str_tuple _ _ p2 bC,.str_tuple _ _ p2 bC,.str_tuple _ _ p2 bC⟩
  ·obtain⟨p,ws,rfl,e1,t1⟩:=jo sx e
   cases rv
   obtain⟨its,r1,p1,z1⟩:=I.list (bN.of (K:=X.K) e1)
   have p1:=p1.isList
   rcases pE hy with k2 | ⟨o',ys,rfl,k2⟩ | ⟨ys,rfl,k2⟩
   ·rcases vt k2 sy gw with⟨rfl,rfl⟩ | ⟨a,rfl,rfl⟩ | ⟨a,t,rfl,rfl⟩ | ⟨a,t,rfl,rfl⟩
    ·exact⟨.list_none p1 bC,.list_none p1 bC,.list_none p1 bC⟩
    ·exact⟨.list_bool _ p1 bC,.list_bool _ p1 bC,.list_bool _ p1 bC⟩
    ·exact⟨.list_int _ _ p1 bC,.list_int _ _ p1 bC,.list_int _ _ p1 bC⟩
    ·exact⟨.list_str _ _ p1 bC,.list_str _ _ p1 bC,.list_str _ _ p1 bC⟩
   ·obtain⟨p',gL,rfl,e2,t2⟩:=jo sy e
    cases gw
    obtain⟨kP,r2,p2,z2⟩:=I.list (bN.of (K:=X.K) e2)
    have p2:=p2.isList
    have rQ:xs.length=its.length:=t1.length.trans r1.length
    have vv:ys.length=kP.length:=t2.length.trans r2.length
    by_cases hl:xs.length=ys.length
    ·have mh:its.toArray.size=kP.toArray.size:=by rw[dO,dO,<- rQ,<- vv];exact hl
     have ev:(aM its.toArray.size).all (λj=>bJ (xs.getD j .aw) (ys.getD j .aw))=bJ (.lst o xs) (.lst o' ys):=by
      show _=bJ.gh xs ys
      rw[Ko xs ys hl,dO,<- rQ]
     have a:=SeqAt.RcAt.lists (e:=λj=>bJ (xs.getD j .aw) (ys.getD j .aw)) p1 p2 mh bC (items k1 k2 t1 t2 r1 r2)
     have b:=SeqAt.RcNeAt.lists (e:=λj=>bJ (xs.getD j .aw) (ys.getD j .aw)) p1 p2 mh bC (items k1 k2 t1 t2 r1 r2)
     rw[ev]at a b
     refine⟨a,b,?_⟩
     by_cases rR:p=p'
     ·subst rR
      cases e1.symm.trans e2
      rw[show bJ (.lst o xs) (.lst o' ys)=true from XC n k1 k2 t1 t2 e]
      exact .same _
     ·exact .of_refs rR a
    ·have mh:(its.toArray.size != kP.toArray.size)=true:=bne_iff_ne.mpr (by rw[dO,dO,<- rQ,<- vv];exact hl)
     rw[show bJ (.lst o xs) (.lst o' ys)=false from Kp xs ys hl]
     have a:=SeqAt.RcAt.lists_lengths p1 p2 mh bC
     refine⟨a,SeqAt.RcNeAt.lists_lengths p1 p2 mh bC,.of_refs (λrR=>?_) a⟩
     subst rR
     cases e1.symm.trans e2
     exact hl (t1.length.trans t2.length.symm)
   ·obtain⟨p',gL,rfl,e2,t2⟩:=kN sy
    cases gw
    obtain⟨kP,r2,p2,z2⟩:=I.tuple (ie.of (K:=X.K) e2)
    exact⟨.list_tuple p1 p2 bC,.list_tuple p1 p2 bC,.list_tuple p1 p2 bC⟩
  ·obtain⟨p,ws,rfl,e1,t1⟩:=kN sx
   cases rv
   obtain⟨its,r1,p1,z1⟩:=I.tuple (ie.of (K:=X.K) e1)
   rcases pE hy with k2 | ⟨o',ys,rfl,k2⟩ | ⟨ys,rfl,k2⟩
   ·rcases vt k2 sy gw with⟨rfl,rfl⟩ | ⟨a,rfl,rfl⟩ | ⟨a,t,rfl,rfl⟩ | ⟨a,t,rfl,rfl⟩
    ·exact⟨.tuple_none p1 bC,.tuple_none p1 bC,.tuple_none p1 bC⟩
    ·exact⟨.tuple_bool _ p1 bC,.tuple_bool _ p1 bC,.tuple_bool _ p1 bC⟩
    ·exact⟨.tuple_int _ _ p1 bC,.tuple_int _ _ p1 bC,.tuple_int _ _ p1 bC⟩
    ·exact⟨.tuple_str _ _ p1 bC,.tuple_str _ _ p1 bC,.tuple_str _ _ p1 bC⟩
   ·obtain⟨p',gL,rfl,e2,t2⟩:=jo sy e
    cases gw
    obtain⟨kP,r2,p2,z2⟩:=I.list (bN.of (K:=X.K) e2)
    have p2:=p2.isList
    exact⟨.tuple_list p1 p2 bC,.tuple_list p1 p2 bC,.tuple_list p1 p2 bC⟩
   ·obtain⟨p',gL,rfl,e2,t2⟩:=kN sy
    cases gw
    obtain⟨kP,r2,p2,z2⟩:=I.tuple (ie.of (K:=X.K) e2)
    have rQ:xs.length=its.length:=t1.length.trans r1.length
    have vv:ys.length=kP.length:=t2.length.trans r2.length
    have ev:((aM (min its.toArray.size kP.toArray.size)).all (λj=>bJ (xs.getD j .aw) (ys.getD j .aw))&&its.toArray.size==kP.toArray.size)=bJ (.tup xs) (.tup ys):=by
     show _=bJ.gh xs ys
     rw[dO,dO,<- rQ,<- vv]
     by_cases hl:xs.length=ys.length
     ·rw[Ko xs ys hl,<- hl,Dh,beq_self_eq_true,nj]
     ·rw[Kp xs ys hl,beq_false_of_ne hl,Bool.and_false]
    have a:=SeqAt.RcAt.tuples (e:=λj=>bJ (xs.getD j .aw) (ys.getD j .aw)) p1 p2 bC (items k1 k2 t1 t2 r1 r2)
    have b:=SeqAt.RcNeAt.tuples (e:=λj=>bJ (xs.getD j .aw) (ys.getD j .aw)) p1 p2 bC (items k1 k2 t1 t2 r1 r2)
    rw[ev]at a b
    refine⟨a,b,?_⟩
    by_cases rR:p=p'
    ·subst rR
     cases e1.symm.trans e2
     rw[show bJ (.tup xs) (.tup ys)=true from XC n k1 k2 t1 t2 e]
     exact .same _
    ·exact .of_refs rR a
def vw:cX:=λx y Q=>(dU 6 x=true/\dU 6 y=true)/\Q (.bl (bJ x y))
def vx:cX:=λx y Q=>(dU 6 x=true/\dU 6 y=true)/\Q (.bl (!bJ x y))
theorem gC(hu:X.A.units+6<cLine):bW X (compareOp .Eq) vw:=bW.of λpins s σ H v w u u' Q I rv gw zz=>by
 obtain⟨B,F,aK,δ,ts,x,y,Qd,c,sx,sy,⟨⟨hx,hy⟩,q⟩,k⟩:=zz
 exact(XI I c.ext 6 x y v w u u' X.A hx hy sx sy rv gw hu).rc _ _ _ _ ⟨.bl _,H,I,rfl,k _ _ _ q (af.refl _) (c.pushS (.bl .nil) rfl)⟩
theorem gM(hu:X.A.units+6<cLine):bW X (compareOp .NotEq) vx:=bW.of λpins s σ H v w u u' Q I rv gw zz=>by
 obtain⟨B,F,aK,δ,ts,x,y,Qd,c,sx,sy,⟨⟨hx,hy⟩,q⟩,k⟩:=zz
 exact(XI I c.ext 6 x y v w u u' X.A hx hy sx sy rv gw hu).ne _ _ _ _ ⟨.bl _,H,I,rfl,k _ _ _ q (af.refl _) (c.pushS (.bl .nil) rfl)⟩
end
end L3
namespace L3
open PySem L2 PySem.Spec PyProof.Rows
section
variable{X:Cx}{F H:Hp}{v w:V}{e a b c o:Expr}{es:List Expr}{pos p p2 apos cw:Pos}{t ta tb tc te:aO}{tr:cK}{x:Str}
theorem cd8{r r':R2}{rd Ap:cX}(hl:D7 r rd)(Je:D7 r' Ap):∀σ H Q,lE (rA rd Ap ta tb tc) σ H Q->V4 r r' (lB ta) (lB tb) (lB tc) σ H Q:=λσ H Q ⟨B,F,δ,ts,Qd,c,q,k⟩ =>
 ⟨B,F,δ,ts,_,c,q,λx ao v F1 H1 q1 f1 h1 c1 s1=>⟨B,F1,ao,ts,_,c1,q1,λy aT w F2 H2 q2 f2 h2 c2 s2=>by
  refine hl c2 (s1.mono f2 h2) s2 q2 λd z H' hd hs c3=>?_
  obtain⟨b,rfl,qb⟩:=hd
  have st:=c3.top
  cases st with
  | bl _ =>
   refine⟨b,rfl,?_⟩
   cases b with
   | true =>
    refine q8 ⟨B,F2,aT,ts,_,c3.pop,by simpa using qb,λz iP w3 F3 H3 q3 f3 h3 c4 s3=>?_⟩
    exact Je c4 (s2.mono f3 (hs.trans h3)) s3 q3 λd z H' hd hs' c5=>k d iP z F3 H' hd ((f1.trans f2).trans f3) ((((h1.trans h2).trans hs).trans h3).trans hs') c5
   | false=>exact jh (k _ aT _ F2 H' (by simpa using qb) (f1.trans f2) ((h1.trans h2).trans hs) (c3.pop.pushS (.bl .nil) rfl))⟩⟩
theorem rS{op qU:CmpOp}{rd Ap:cX}(ho:bW X (compareOp op) rd)(kF:bW X (compareOp qU) Ap)(ha:PE X a (lB ta))(hb:PE X b (lB tb))(hc:PE X c (lB tc))
  (hm:lastMarks [op,qU] [b,c]=false:=by with_unfolding_all rfl):PE X (.Compare a [op,qU] [b,c] pos) (lE (rA rd Ap ta tb tc)):=by
 obtain⟨r,h1,h2⟩:=ho
 obtain⟨r',ka,jF⟩:=kF
 exact dA (cq4 h1 ka ha hb hc hm) (cd8 h2 jF)
def vy(t:aO):aO:=λδ Q=>t δ λd ah=>match d with
 | .int i=>Q (.int (-i)) ah
 | _=>False
theorem XM(ha:PE X a (lB ta)):PE X (.UnaryOp .USub a pos) (lE (vy ta)):=dA (cY2 cQ1 ha) λσ H Q ⟨B,F,δ,ts,Qd,c,q,k⟩=>⟨B,F,δ,ts,_,c,q,λd ao v F1 H1 q1 f1 h1 c1 s1=>by
 cases s1 with
 | int _=>exact⟨_,rfl,k _ ao _ F1 H1 q1 f1 h1 (c1.pushS (.int .nil) rfl)⟩
 | _=>exact q1.elim⟩
abbrev jq:=List D->(D->Prop)->Prop
def lc(rd:jq):List V->Hp->VK->Prop:=λvs H Q=>∃B F σ δ ts ds Qd,aq B F H σ δ ts/\S F H ds vs/\rd ds Qd/\∀d z H',Qd d->af H H'->aq B F H' σ δ ((d,z)::ts)->Q z H'
def gD(X:Cx)(f:Value)(rd:jq):Prop:=gv X f (lc rd)
theorem gD.of{f:Value}{r:List V->Hp->VK->Prop}{rd:jq}(h:gv X f r)(m:∀vs H Q,lc rd vs H Q->r vs H Q):gD X f rd:=λpins s σ H xs us Q I r q=>h pins s σ H xs us Q I r (m xs H Q q)
def pF(rd:jq)(t:cK):aO:=λδ Q=>t δ λds ah=>rd ds λd=>Q d ah
theorem XN{rd:jq}:∀σ H Q,lE (pF rd tr) σ H Q->Jx (lc rd) (lA tr) σ H Q:=λσ H Q ⟨B,F,δ,ts,Qd,c,q,k⟩=>⟨B,F,δ,ts,_,c,q,λds ao vs F1 H1 q1 f1 h1 c1 s1 =>
 ⟨B,F1,σ,ao,ts,ds,_,c1,s1,q1,λd z H' hd hs c'=>k d ao z F1 H' hd f1 (h1.trans hs) c'⟩⟩
theorem cY{id:String}{rd:jq}(hc:gD X (.builtin id) rd)(hg:Gl X x)(hm:X.mg x=none)(hv:bootBuiltins x=some (.builtin id))(ha:PA X (e::es) (lA tr))(hn:x≠"__name__":=by decide)(eC:(x==("__debug__":Str))=false:=by decide)
  (he:starEach (e::es) X.env=(false,eval e X.env)::starEach es X.env:=by rfl) (bQ:(backTo pos (starEach es X.env)).any (·.1)=false:=by rfl):PE X (.Call (.Name x p) (e::es) [] pos) (lE (pF rd tr)) :=
 dA (DS hc hg hm hv ha hn eC he bQ) XN
theorem rT{T:String}{rd:jq}(hc:gD X (.type T) rd)(hg:Gl X x)(hm:X.mg x=none)(hv:bootBuiltins x=some (.type T))(ha:PA X (e::es) (lA tr))(hn:x≠"__name__":=by decide)(eC:(x==("__debug__":Str))=false:=by decide)
  (he:starEach (e::es) X.env=(false,eval e X.env)::starEach es X.env:=by rfl) (bQ:(backTo pos (starEach es X.env)).any (·.1)=false:=by rfl):PE X (.Call (.Name x p) (e::es) [] pos) (lE (pF rd tr)) :=
 dA (b94 hc hg hm hv ha hn eC he bQ) XN
theorem kh{d:D}{vs:List V}(s:S F H [d] vs):∃v,vs=[v]/\S F H [d] [v]:=by
 obtain⟨v,bU,rfl,h1,h2⟩:=s.cR
 cases h2
 exact⟨v,rfl,h1⟩
theorem cW6{d d':D}{vs:List V}(s:S F H [d,d'] vs):∃v v',vs=[v,v']/\S F H [d] [v]/\S F H [d'] [v']:=by
 obtain⟨v,bU,rfl,h1,h2⟩:=s.cR
 obtain⟨v',rfl,h3⟩:=kh h2
 exact⟨v,v',rfl,h1,h3⟩
theorem ki{K:PySem.W.Frag}{p:Addr}{ws:List V}(h:Rd H p (.lst ws)):bN K H p ws:=.inl h
def rV:jq:=λds Q=>match ds with
 | [.lst _ xs]=>Q (.int xs.length)
 | [.fz xs]=>Q (.int xs.length)
 | [.tup xs]=>Q (.int xs.length)
 | [.str z]=>z.length<=sizeLine/\Q (.int z.length)
 | _=>False
theorem gE:gD X (.builtin "len") rV:=gD.of (Wr.or bM5) λvs H Q zz=>by
 obtain⟨B,F,σ,δ,ts,ds,Qd,c,s,q,k⟩:=zz
 unfold rV at q
 split at q
 ·obtain⟨v,rfl,s1⟩:=kh s
  obtain⟨p,ws,rfl,h,t⟩:=kO s1 c.ext rfl
  refine .inl ⟨p,ws,rfl,.inl (ki h),?_⟩
  rw[<-t.length]
  exact k _ _ _ q (af.refl _) (c.pushS (.int .nil) rfl)
 ·obtain⟨v,rfl,s1⟩:=kh s
  obtain⟨p,ws,rfl,h,t⟩:=kO s1 c.ext rfl
  refine .inl ⟨p,ws,rfl,.inl (ki h),?_⟩
  rw[<-t.length]
  exact k _ _ _ q (af.refl _) (c.pushS (.int .nil) rfl)
 ·obtain⟨v,rfl,s1⟩:=kh s
  obtain⟨p,ws,rfl,h,t⟩:=kN s1
  refine .inl ⟨p,ws,rfl,.inr (ie.of h),?_⟩
  rw[<-t.length]
  exact k _ _ _ q (af.refl _) (c.pushS (.int .nil) rfl)
 ·obtain⟨v,rfl,s1⟩:=kh s
  cases s1
  exact .inr ⟨_,rfl,q.1,k _ _ _ q.2 (af.refl _) (c.pushS (.int .nil) rfl)⟩
 ·exact q.elim
def rW:jq:=λds Q=>match ds with
 | [.lst _ xs]=>xs.all D.pl=true/\Q (.lst true xs)
 | [.fz xs]=>Q (.lst true xs)
 | [.tup xs]=>xs.all D.pl=true/\Q (.lst true xs)
 | _=>False
theorem rX:gD X (.type "list") rW:=gD.of bP4 λvs H Q zz=>by
 obtain⟨B,F,σ,δ,ts,ds,Qd,c,s,q,k⟩:=zz
 unfold rW at q
 split at q
 ·obtain⟨v,rfl,s1⟩:=kh s
  obtain⟨p,ws,rfl,h,t⟩:=kO s1 c.ext rfl
  exact⟨p,ws,rfl,.inl (ki h),λl hl=>k _ _ _ q.2 (af.upd hl) (c.pf hl t q.1)⟩
 ·obtain⟨v,rfl,s1⟩:=kh s
  cases s1 with
  | fz h r _=>exact⟨_,_,rfl,.inl (ki (.inr ⟨_,c.ext _ _ h⟩)),λl hl=>k _ _ _ q (af.upd hl) (c.pf hl r.s r.pl)⟩
 ·obtain⟨v,rfl,s1⟩:=kh s
  obtain⟨p,ws,rfl,h,t⟩:=kN s1
  exact⟨p,ws,rfl,.inr (ie.of h),λl hl=>k _ _ _ q.2 (af.upd hl) (c.pf hl t q.1)⟩
 ·exact q.elim
def ii(g:Int->Int->Int):jq:=λds Q=>match ds with
 | [.int i,.int j]=>Q (.int (g i j))
 | _=>False
theorem cV3{f:Value}{g:Int->Int->Int}(h:gv X f (λxs H Q=>∃i j,xs=[.int i,.int j]/\Q (.int (g i j)) H)):gD X f (ii g):=gD.of h λvs H Q zz=>by
 obtain⟨B,F,σ,δ,ts,ds,Qd,c,s,q,k⟩:=zz
 unfold ii at q
 split at q
 ·obtain⟨v,v',rfl,s1,s2⟩:=cW6 s
  cases s1;cases s2
  exact⟨_,_,rfl,k _ _ _ q (af.refl _) (c.pushS (.int .nil) rfl)⟩
 ·exact q.elim
theorem rY(hc:X.calm=true):gD X (.builtin "min") (ii λi j=>if j<i then j else i):=cV3 (cj2 hc)
def mF(bs:List Bool):List D:=bs.map D.bl
theorem Kr:∀{bs:List Bool} {ws:List V},S F H (mF bs) ws->ws=bs.map V.bl
 | [],_,s=>by cases s;rfl
 | b::bs,_,s=>by
  cases s with
  | bl s=>rw[Kr s];rfl
def rZ:jq:=λds Q=>match ds with
 | [.lst _ xs]=>∃bs,xs=mF bs/\Q (.bl (bs.all id))
 | _=>False
def se:jq:=λds Q=>match ds with
 | [.lst _ xs]=>∃bs,xs=mF bs/\Q (.bl (bs.any id))
 | _=>False
theorem vz(hc:X.calm=true):gD X (.builtin "all") rZ:=gD.of (cm3 hc) λvs H Q zz=>by
 obtain⟨B,F,σ,δ,ts,ds,Qd,c,s,q,k⟩:=zz
 unfold rZ at q
 split at q
 ·obtain⟨v,rfl,s1⟩:=kh s
  obtain⟨bs,rfl,q⟩:=q
  obtain⟨p,ws,rfl,h,t⟩:=kO s1 c.ext rfl
  rw[Kr t]at h
  exact⟨p,bs,rfl,ki h,k _ _ _ q (af.refl _) (c.pushS (.bl .nil) rfl)⟩
 ·exact q.elim
theorem cX9(hc:X.calm=true):gD X (.builtin "any") se:=gD.of (cr7 hc) λvs H Q zz=>by
 obtain⟨B,F,σ,δ,ts,ds,Qd,c,s,q,k⟩:=zz
 unfold se at q
 split at q
 ·obtain⟨v,rfl,s1⟩:=kh s
  obtain⟨bs,rfl,q⟩:=q
  obtain⟨p,ws,rfl,h,t⟩:=kO s1 c.ext rfl
  rw[Kr t]at h
  exact⟨p,bs,rfl,ki h,k _ _ _ q (af.refl _) (c.pushS (.bl .nil) rfl)⟩
 ·exact q.elim
def Ks:D->Option String
 | .int _=>some "int"
 | .bl _=>some "bool"
 | .aw=>some "NoneType"
 | .str _=>some "str"
 | .lst _ _=>some "list"
 | .fz _=>some "list"
 | .tup _=>some "tuple"
 | _=>none
def Kt(k n:String):Option Bool:=([("int","int",true),("int","bool",false),("int","list",false),("int","tuple",false),("int","str",false),("bool","int",true),("bool","bool",true),("bool","list",false),("bool","tuple",false),("bool","str",false),
 ("NoneType","int",false),("NoneType","bool",false),("NoneType","list",false),("NoneType","tuple",false),("NoneType","str",false),("str","int",false),("str","bool",false),("str","list",false),("str","tuple",false),("str","str",true),
 ("list","int",false),("list","bool",false),("list","list",true),("list","tuple",false),("list","str",false),("tuple","int",false),("tuple","bool",false),("tuple","list",false),("tuple","tuple",true),("tuple","str",false)].find? λz=>z.1==k&&z.2.1==n).map (·.2.2)
def mG(n:String)(d:D):Option Bool:=(Ks d).bind λk=>Kt k n
theorem cQ8{K:PySem.W.Frag}{k n:String}{r:Bool}(h:Kt k n=some r):PySem.W.kitOne K (.type k) (.type n)=some r:=by
 unfold Kt at h
 obtain⟨z,hz,rfl⟩:=Di.mp h
 have hm:=Vk hz
 have hp:=List.find?_some hz
 rw[eH,beq_iff_eq,beq_iff_eq]at hp
 obtain⟨rfl,rfl⟩:=hp
 simp only[cz,i6,or_false]at hm
 repeat' (rcases hm with hm | hm)
 all_goals rfl
theorem cG5{K:PySem.W.Frag}{d:D}(s:S F H [d] [v])(e:af F H){k:String}(h:Ks d=some k):ij K H v (.type k):=by
 cases s with
 | int _=>cases h;exact .int _
 | bl _=>cases h;exact .bl _
 | aw _=>cases h;exact .aw
 | str _=>cases h;exact .str _
 | shr h' _ _=>cases h;exact .lst (e _ _ h')
 | own h' _ _=>cases h;exact .lst h'
 | fz h' _ _=>cases h;exact .bz (e _ _ h')
 | tup h' _ _=>cases h;exact .tup h'
 | obj _ _ _ _=>cases h
 | bI _ _=>cases h
theorem cU5{K:PySem.W.Frag}{d:D}(s:S F H [d] [v])(e:af F H){n:String}{r:Bool}(h:mG n d=some r):∃t,ij K H v t/\PySem.W.kitOne K t (.type n)=some r:=by
 unfold mG at h
 cases hk:Ks d with
 | none=>rw[hk]at h;cases h
 | some k=>rw[hk]at h;exact⟨_,cG5 s e hk,cQ8 h⟩
def vA(n:String)(t:aO):aO:=λδ Q=>t δ λd ah=>∃r,mG n d=some r/\Q (.bl r) ah
theorem sg{n:String}{y:Str}{q:Pos}(hg:Gl X "isinstance")(hm:X.mg "isinstance"=none)(Ku:Gl X y)(Eg:X.mg y=none)(hv2:bootBuiltins y=some (.type n))(ha:PE X a (lB ta))
  (hn:y≠"__name__":=by decide) (hd:(y==("__debug__":Str))=false:=by decide)
  (hs:starEach [a,.Name y q] X.env=(false,eval a X.env)::starEach [.Name y q] X.env:=by rfl) (fw:starEach [.Name y q] X.env=(false,eval (.Name y q) X.env)::starEach [] X.env:=by rfl) (bQ:(backTo pos (starEach [.Name y q] X.env)).any (·.1)=false:=by rfl) :
  PE X (.Call (.Name "isinstance" p) [a,.Name y q] [] pos) (lE (vA n ta)) :=
 dA (DS bB7 hg hm WX (bX ha (bX (cU1 Ku Eg hv2 hn hd) e7 fw) hs) (by decide) (by decide) hs bQ) λσ H Q ⟨B,F,δ,ts,Qd,c,q,k⟩=>⟨B,F,δ,ts,_,c,q,λd ao v F1 H1 q1 f1 h1 c1 s1=>by
  obtain⟨r,e,qr⟩:=q1
  obtain⟨t,h2,h3⟩:=cU5 (K:=X.K) s1 c1.ext e
  exact⟨v,n,t,r,rfl,h2,h3,k _ ao _ F1 H1 qr f1 h1 (c1.pushS (.bl .nil) rfl)⟩⟩
theorem Kv{xs:List D}{ws:List V}{i:Int}{d:D}(s:S F H xs ws)(h:eJ xs i=some d):∃v,eJ ws i=some v/\S F H [d] [v]:=by
 unfold eJ at h ⊢
 rw[<-s.length]
 cases e:g9 xs.length i with
 | none=>rw[e]at h;cases h
 | some j =>
  rw[e]at h
  exact s.get h
def si(x y:D)(Q:D->Prop):Prop:=match x,y with
 | .lst _ xs,.int i=>∃d,eJ xs i=some d/\Q d
 | .fz xs,.int i=>∃d,eJ xs i=some d/\Q d
 | .tup xs,.int i=>∃d,eJ xs i=some d/\Q d
 | .str z,.int i=>z.length<=sizeLine/\∃ch,eJ z.cps.toList i=some ch/\Q (.str ⟨#[ch]⟩)
 | _,_=>False
def vB(ta tb:aO):aO:=λδ Q=>ta δ λx ao=>tb ao λy aT=>si x y λd=>Q d aT
theorem bE(ha:PE X a (lB ta))(hb:PE X b (lB tb))(hs:Wi b):PE X (.Subscript a b pos) (lB (vB ta tb)) :=
 dA (Wj cS6 ha hb hs) λσ H Q ⟨B,F,δ,ts,Qd,c,q,k⟩=>⟨B,F,δ,ts,_,c,q,λx ao v F1 H1 q1 f1 h1 c1 s1=>⟨B,F1,ao,ts,_,c1,q1,λy aT w F2 H2 q2 f2 h2 c2 s2=>by
  have nU:=s1.mono f2 h2
  have fin:∀d z,Qd d aT->S F2 H2 [d] [z]->Q z H2:=λd z hd s=>k d aT z F2 H2 hd (f1.trans f2) (h1.trans h2) c2 s
  unfold si at q2
  split at q2
  ·obtain⟨d,ed,qd⟩:=q2
   cases s2
   obtain⟨p,ws,rfl,h,t⟩:=kO nU c2.ext rfl
   obtain⟨z,ez,sz⟩:=Kv t ed
   exact .inl ⟨p,ws,_,z,rfl,rfl,ki h,ez,fin d z qd sz⟩
  ·obtain⟨d,ed,qd⟩:=q2
   cases s2
   obtain⟨p,ws,rfl,h,t⟩:=kO nU c2.ext rfl
   obtain⟨z,ez,sz⟩:=Kv t ed
   exact .inl ⟨p,ws,_,z,rfl,rfl,ki h,ez,fin d z qd sz⟩
  ·obtain⟨d,ed,qd⟩:=q2
   cases s2
   obtain⟨p,ws,rfl,h,t⟩:=kN nU
   obtain⟨z,ez,sz⟩:=Kv t ed
   exact .inr (.inl ⟨p,ws,_,z,rfl,rfl,ie.of h,ez,fin d z qd sz⟩)
  ·obtain⟨hz,ch,ec,qc⟩:=q2
   cases nU
   cases s2
   exact .inr (.inr ⟨_,_,ch,rfl,rfl,hz,ec,fin _ _ qc (.str .nil)⟩)
  ·exact q2.elim⟩⟩
abbrev vC:=Dl->(Option Int->Dl->Prop)->Prop
def lP(t:vC):TO:=λσ H Q=>∃B F δ ts Qd,aq B F H σ δ ts/\t δ Qd/\∀o ah F' H',Qd o ah->af F F'->af H H'->aq B F' H' σ ah ts->Q o H'
theorem XO{oe:Option Expr}{u u':TO}(h:PO X oe u)(m:∀σ H Q,u' σ H Q->u σ H Q):PO X oe u':=λpins s σ H Q I q=>h pins s σ H Q I (m σ H Q q)
def vD:vC:=λδ Q=>Q none δ
def vE(t:aO):vC:=λδ Q=>t δ λd ah=>match d with
 | .int i=>Q (some i) ah
 | _=>False
theorem Aq:PO X none (lP vD):=XO cG0 λσ H Q ⟨B,F,δ,ts,Qd,c,q,k⟩=>k none δ F H q (af.refl _) (af.refl _) c
theorem Ar(h:PE X e (lB t)):PO X (some e) (lP (vE t)):=XO (cA5 h) λσ H Q ⟨B,F,δ,ts,Qd,c,q,k⟩=>⟨B,F,δ,ts,_,c,q,λd ao v F1 H1 q1 f1 h1 c1 s1=>by
 cases s1 with
 | int _=>exact⟨_,rfl,k _ ao F1 H1 q1 f1 h1 c1⟩
 | _=>exact q1.elim⟩
def fO{α:Type}(xs:List α)(lo hi:Option Int):List α:=(xs.drop (HT.dk xs.length 0 lo)).take (HT.dk xs.length xs.length hi-HT.dk xs.length 0 lo)
theorem S.cut{xs:List D}{ws:List V}(s:S F H xs ws)(lo hi:Option Int):S F H (fO xs lo hi) (uC ws lo hi):=by
 unfold fO uC
 rw[<-s.length]
 exact(s.drop _).take _
theorem XQ{xs:List D}{p:D->Bool}(h:xs.all p=true)(lo hi:Option Int):(fO xs lo hi).all p=true:=by
 rw[dz]at h ⊢
 intro x hx
 exact h x (qG (uh hx))
def vF(t:aO):aO:=λδ Q=>t δ λd ah=>match d with
 | .int i=>Q (.int (Mf.bl i.natAbs:Nat)) ah
 | _=>False
theorem nV(ho:PE X o (lB t))(nF:attributeBase o "bit_length" X.env (eval o X.env)=eval o X.env:=by rfl)(nG:(apos.endLine==cw.line)=true:=by rfl):PE X (.Call (.Attribute o "bit_length" apos) [] [] cw) (lE (vF t)) :=
 dA (JP ho nF nG) λσ H Q ⟨B,F,δ,ts,Qd,c,q,k⟩=>⟨B,F,δ,ts,_,c,q,λd ao v F1 H1 q1 f1 h1 c1 s1=>by
  cases s1 with
  | int _=>exact⟨rfl,_,rfl,rfl,k _ ao _ F1 H1 q1 f1 h1 (c1.pushS (.int .nil) rfl)⟩
  | _=>exact q1.elim⟩
end
end L3
namespace L3
open PySem L2 PySem.Spec PyProof.Rows
section
variable{X:Cx}{F H:Hp}{v w:V}{e a b c o tg:Expr}{es:List Expr}{pos p p2 apos cw pos':Pos}{t ta tb tc te ti:aO}{tr:cK}{x:Str}{i:Nat}
def vG(i:Nat)(t:aO):cL:=λD δ=>(∃xs,δ[i]?=some (some (.lst true xs)))/\t δ λd ah=>∃xs,ah[i]?=some (some (.lst true xs))/\xs.length<sizeLine/\D.nx (ah.set i (some (.lst true (xs++[d]))))
theorem kQ(hN:X.N[i]?=some x)(hv:lW X.env.scope x)(he:PE X e (lE t))(hd:(x==("__debug__":Str))=false:=by decide)(cJ:(x==("__classdict__":Str))=false:=by decide)
  (nF:attributeBase (.Name x p) "append" X.env (eval (.Name x p) X.env)=eval (.Name x p) X.env:=by rfl)
  (JF:((backTo cw (starEach [e] X.env)).all (λx=>!x.1)&&(backToKw cw (keywordEach [] X.env)).all (λx=>x.1.isSome)
   && decide ([e].length+([]:List Keyword).length+(if([]:List Keyword).isEmpty then 0 else 1)<30))=true:=by rfl)
  (nG:(apos.endLine==cw.line)=true:=by rfl) (hs:starEach [e] X.env=(false,eval e X.env)::starEach [] X.env:=by rfl) (JG:(backTo cw (starEach [] X.env)).any (·.1)=false:=by rfl)
  (sj:swapsWith (.Call (.Attribute (.Name x p) "append" apos) [e] [] cw) none pos.line X.env=pure false:=by rfl) :
  PS X (.Expr (.Call (.Attribute (.Name x p) "append" apos) [e] [] cw) pos) (lS X (vG i t)) :=
 jH (qP (cU9 PySem.F.plainAttrs_list PySem.F.slot_list_append PySem.F.type_list_append Ww (qM hN hv hd cJ) (bX he e7 hs) nF JF nG hs JG) sj) λEn σ H zz=>by
  obtain⟨B,F,δ,Dd,c,⟨⟨ys,ey⟩,q⟩,k1,k2,k3,k4⟩:=zz
  obtain⟨p0,D4,g1,g2,g3⟩:=c.ownAt ey
  refine⟨.ref p0,g1,.inl ⟨rfl,_,bN.of g2⟩,B,F,δ,[],_,c,q,λd ah v F' H' hd sf sh c'=>?_⟩
  obtain⟨xs,ex,hl,hn⟩:=hd
  obtain⟨p1,ws,r1,r2,r3⟩:=c'.ownAt ex
  rw[g1]at r1;cases r1
  exact⟨p0,ws,v,rfl,rfl,r2,by omega,k1 _ _ F' _ hn (c'.app ex g1 r2)⟩
def vH(i:Nat)(te ti:aO):cL:=λD δ=>te δ λd ao=>∃ys,ao[i]?=some (some (.lst true ys))/\nL ti ao λk aT=>match k with
 | .int n=>∃xs j,aT[i]?=some (some (.lst true xs))/\g9 xs.length n=some j/\D.nx (aT.set i (some (.lst true (xs.set j d))))
 | _=>False
theorem sk(hN:X.N[i]?=some x)(hv:lW X.env.scope x)(he:PE X e (lE te))(hi:PE X b (lB ti))(hd:(x==("__debug__":Str))=false:=by decide)(cJ:(x==("__classdict__":Str))=false:=by decide)
  (ha:∀v,assign (.Subscript (.Name x p) b pos') X.env v=(do
   let ov<-holding [v] (eval (.Name x p) X.env)
   let iv<-holding [v,ov] (eval b X.env)
   standAt pos'
   holding [v,ov,iv] (setItem ov iv v)
   release [v,ov,iv] []):=by intro _;rfl)
  (hs:swapsWithSole [.Subscript (.Name x p) b pos'] e pos.line X.env=pure false:=by rfl) (hw:swappedStores [.Subscript (.Name x p) b pos'] e X.env=pure none:=by rfl)
  (h1:(assignEach [.Subscript (.Name x p) b pos'] X.env).map (·.2)=[assign (.Subscript (.Name x p) b pos') X.env]:=by rfl) :
  PS X (.Assign [.Subscript (.Name x p) b pos'] e pos) (lS X (vH i te ti)) :=
 jH (VV he (VU (qM hN hv hd cJ) (dm hi) Wo ha) hs hw h1) λEn σ H ⟨B,F,δ,Dd,c,q,k1,k2,k3,k4⟩=>⟨B,F,δ,[],_,c,q,λd ao v F1 H1 hq f1 h1 c1=>by
  obtain⟨ys,ey,hq⟩:=hq
  obtain⟨p0,D4,g1,g2,g3⟩:=c1.ownAt ey
  refine⟨.ref p0,g1,B,F1,ao,[(d,v)],_,c1,hq,λkd aT kv F2 H2 hk f2 h2 c2=>?_⟩
  have st:=c2.top
  split at hk
  ·obtain⟨xs,j,ex,ej,hn⟩:=hk
   cases st
   have c3:=c2.pop
   obtain⟨p1,ws,r1,r2,r3⟩:=c3.ownAt ex
   rw[g1]at r1;cases r1
   exact⟨p0,ws,_,j,rfl,rfl,r2,by rw[<-r3];exact ej,k1 _ _ F2 _ hn (c3.d45 ex g1 r2 j)⟩
  ·exact hk.elim⟩
end
end L3
namespace L3
open PySem L2 PySem.Spec PyProof.Rows
theorem cM{A:Around}{k:Nat}(hr:cj k A):A.units+6<cLine:=by have:=hr.un;omega
def aJ(ns:List Int):List D:=ns.map D.int
def Kw(o:Obj):Bool:=match o.cls with
 | .type n=>n != "list"
 | _=>true
def XR:bq:=λds Q=>∃ns:List Int,ds=[.fz (aJ ns)]/\ns.length<=63/\Q (.bl true)
theorem kR{F H:Hp}:∀ns:List Int,R F H (aJ ns) (ns.map V.int) []
 | []=>.nil
 | n::ns=>.int (kR ns)
theorem bQ2{K:PySem.W.Frag}{a:Addr}{o:Obj}(h:K.lookup a=some o):(a,o)∈K:=by
 induction K with
 | nil=>cases h
 | cons p K ih =>
  obtain⟨b,u⟩:=p
  rw[fX]at h
  split at h
  ·rename_i z
   have:a=b:=by simpa using z
   cases h;subst this;simp
  ·exact gq _ (ih h)
end L3
namespace L3
open PySem L2 PySem.Spec PyProof.Rows
section
variable{B:Bs}{F H:Hp}{σ:L2.St}{δ:Dl}{ts ps:List (D × V)}{i k:Nat}{p q:Addr}{l1 l2 ys rk:List D}{ws iB:List V}
theorem aq.d82(c:aq B F H σ δ (ps++ts))(e:δ[i]?=some (some (.lst true (l1++.lst true ys::l2))))(e2:σ[i]?=some (some (.ref p)))(hp:H p=some (.lst ws))(hq:ws[l1.length]?=some (.ref q))
  (kk:∀us A1 A2,H q=some (.lst us)->R F H ys us A1->R F H (ps.map (·.1)) (ps.map (·.2)) A2->(A1++A2).Nodup->∃A',R F H rk iB A'/\A'.Nodup/\∀a∈A',a∈A1++A2) :
  aq B F (upd H q (.lst iB)) σ (δ.set i (some (.lst true (l1++.lst true rk::l2)))) ts:=by
 have hi:i<δ.length:=(iZ.mp e).1
 obtain⟨v,e3,c1⟩:=c.move e
 rw[e2]at e3;cases e3
 obtain⟨A,C,r,s,nd,fr⟩:=c1.own
 have r':R F H ([.lst true (l1++.lst true ys::l2)]++(ps.map (·.1)++ts.map (·.1))) ([.ref p]++(ps.map (·.2)++ts.map (·.2))) A:=by simpa using r
 obtain⟨v1,v2,A1,A2,e4,rfl,h1,h2⟩:=R.split r'
 have l1':v1.length=1:=by rw[<-h1.length];rfl
 obtain⟨rfl,rfl⟩:=zh e4 (by simp[l1'])
 obtain⟨v3,v4,B1,B2,e5,rfl,h3,h4⟩:=R.split h2
 have l3:(ps.map (·.2)).length=v3.length:=by rw[<-h3.length];simp
 obtain⟨rfl,rfl⟩:=zh e5 l3
 cases h1 with
 | @own _ D4 _ Ax _ _ Bx hH hF hx hr =>
  cases hr
  rw[hp]at hH;cases hH
  obtain⟨w1,w2,X1,X2,e6,rfl,g1,g2⟩:=R.split hx
  obtain⟨wq,w3,X3,X4,rfl,rfl,g3,g4⟩:=R.cR g2
  have lw:w1.length=l1.length:=g1.length.symm
  have hwq:wq=.ref q:=by
   rw[e6,<- lw,kB (bK _),zj]at hq
   simpa using hq
  subst hwq
  cases g3 with
  | @own _ us _ Y1 _ _ Y2 XS Kx hy Ky =>
   cases Ky
   simp only[fV]at *
   have Ae:(p::(X1++(q::Y1++X4))++(B1++B2)++C).Nodup:=by simpa[dh]using nd
   have mH:∀a∈p::(X1++(q::Y1++X4))++(B1++B2)++C,B.H0 a=none:=λa ha=>fr a (by simpa[dh]using ha)
   have XT:=Ae
   simp only[nk,dh,jW,gy,bZ,cz,not_or]at XT
   have ndk:(Y1++B1).Nodup:=gy.mpr ⟨by grind,by grind,by grind⟩
   obtain⟨A',ra,J6,sub⟩:=kk us Y1 B1 XS hy h3 ndk
   have Eh:∀a∈A',a∈Y1\/a∈B1:=λa ha=>bZ.mp (sub a ha)
   have but:fM [q] H (upd H q (.lst iB)):=⟨λa o z w _=>by rw[bf (by simpa using w)];exact z⟩
   have hl:gx [q] H:=λa ha=>by rw[fk.mp ha];exact⟨_,XS⟩
   have kp:∀{ds:List D} {vs:List V} {A:List Addr},R F H ds vs A->q ∉ A->R F (upd H q (.lst iB)) ds vs A:=λr n=>r.keep (af.refl F) but hl (λa ha=>(r.lists a ha).2) λa ha z=>n (by rw[<-fk.mp z];exact ha)
   have fq:B.H0 q=none:=mH q (by simp)
   have npq:p≠q:=by grind
   have b1:af B.H0 (upd H q (.lst iB)):=⟨λa o z n=>by
    rw[bf (λw=>by rw[w,fq]at z;cases z)]
    exact c1.b1.get a o z n,λa ps z=>by
    rw[bf (λw=>by rw[w,fq]at z;cases z)]
    exact c1.b1.tb a ps z⟩
   have ext:af F (upd H q (.lst iB)):=⟨λa o z n=>by
    rw[bf (λw=>by rw[w,Kx]at z;cases z)]
    exact c1.ext.get a o z n,λa ps z=>by
    rw[bf (λw=>by rw[w,Kx]at z;cases z)]
    exact c1.ext.tb a ps z⟩
   have big:R F (upd H q (.lst iB)) [.lst true (l1++.lst true rk::l2)] [.ref p] (p::(X1++(q::(A'++X4)))):=by
    have Kz:R F (upd H q (.lst iB)) (l1++.lst true rk::l2) (w1++.ref q::w3) (X1++(q::(A'++X4))) :=
     R.append (kp g1 (by grind)) (R.own bM Kx (kp ra (by grind)) (kp g4 (by grind)))
    have:=R.own (F:=F) (H:=upd H q (.lst iB)) (p:=p) (by rw[bf npq,hp,e6]) hF Kz .nil
    simpa using this
   have c2:aq B F (upd H q (.lst iB)) σ (δ.set i none) ((.lst true (l1++.lst true rk::l2),.ref p)::ts):=by
    refine⟨ext,b1,c1.b2,c1.b3,(p::(X1++(q::(A'++X4))))++B2,C,R.cons big (kp h4 (by grind)),s.keep (af.refl F) but hl (λa ha=>(s.lists a ha).2) (λa ha z=>?_),?_,?_⟩
    ·have:a=q:=by simpa using z
     subst this
     grind
    ·obtain⟨⟨p1,p2,p3,p4,p5,p6,p7⟩,x1,⟨⟨q1,q2,q3,q4,q5⟩,y1,⟨x4,⟨b1',⟨b2',cc,b2c⟩,XU⟩,XW⟩,y1x⟩,x1x⟩:=XT
     simp only[nk,dh,jW,gy,bZ,cz,not_or]
     refine⟨⟨p1,p2,λz=>(Eh _ z).elim p3 p5,p4,p6,p7⟩,x1,⟨⟨λz=>(Eh _ z).elim q1 q3,q2,q4,q5⟩,J6,⟨x4,⟨b2',cc,b2c⟩,λa ha=>?_⟩,λa ha=>?_⟩,λa ha=>?_⟩
     ·obtain⟨z1,z2,z3⟩:=XW a ha;exact⟨z2,z3⟩
     ·rcases Eh a ha with z | z
      ·obtain⟨z1,z2,z3,z4⟩:=y1x a z;exact⟨z1,z3,z4⟩
      ·refine⟨λw=>(XW a w).1 z,(XU a z).1,(XU a z).2⟩
     ·obtain⟨z1,z2,z3,z4,z5,z6⟩:=x1x a ha
      exact⟨z1,λw=>(Eh a w).elim z2 z4,z3,z5,z6⟩
    ·intro a ha
     simp only[nk,dh,cz,bZ]at ha mH
     apply mH
     grind
   have c3:=c2.fill (i:=i) (by simp[hi]) e2
   rwa [Df]at c3
end
section
variable{X:Cx}{F H:Hp}{e b:Expr}{pos p pr apos cw KA:Pos}{t ti te:aO}{x y:Str}{i j:Nat}
end
end L3
namespace L3
open PySem L2 PySem.Spec PyProof.Rows
theorem As(i:Int):(D.int i).pl=true:=rfl
theorem Au(i:Bool):(D.bl i).pl=true:=rfl
theorem Av(i:Str):(D.str i).pl=true:=rfl
theorem Aw:D.aw.pl=true:=rfl
theorem Az(xs:List D):(D.fz xs).pl=true:=rfl
theorem AA(C:Addr)(ns:List Str)(xs:List D):(D.obj C ns xs).pl=true:=rfl
theorem AB(i:Int):(D.int i).fr=true:=rfl
theorem AD(i:Bool):(D.bl i).fr=true:=rfl
theorem AE(i:Str):(D.str i).fr=true:=rfl
theorem AF:D.aw.fr=true:=rfl
theorem pG(i:Int):(D.int i).sh=.int i:=rfl
theorem AG(i:Bool):(D.bl i).sh=.bl i:=rfl
theorem AH(i:Str):(D.str i).sh=.str i:=rfl
theorem AI:D.aw.sh=.aw:=rfl
theorem AJ(xs:List D):(D.fz xs).sh=.fz xs:=rfl
theorem AK(C:Addr)(ns:List Str)(xs:List D):(D.obj C ns xs).sh=.obj C ns xs:=rfl
theorem vI{α:Type}(n:Nat)(x:α):(bo n [x]).flatten=bo n x:=by
 induction n with
 | zero=>rfl
 | succ n ih=>rw[qC,t9,ih];rfl
theorem kS(ns:List Int):(aJ ns).length=ns.length:=by simp[aJ]
theorem nW(ns:List Int):(aJ ns).all D.pl=true:=by simp[aJ,D.pl]
theorem sq(ns:List Int):(aJ ns).all D.fr=true:=by simp[aJ,D.fr]
theorem kj(ns:List Int):(aJ ns).map D.sh=aJ ns:=by simp[aJ,D.sh]
theorem sr(a b:List Int):aJ a++aJ b=aJ (a++b):=by simp[aJ]
theorem AL(n:Nat)(i:Int):bo n (D.int i)=aJ (bo n i):=by simp[aJ]
theorem su(n:Nat)(i:Int):dU n (.int i)=true:=by cases n<;>rfl
theorem AM(n:Nat)(i:Str):dU n (.str i)=true:=by cases n<;>rfl
theorem jL(i j:Int):bJ (.int i) (.int j)=decide (i=j):=by
 show(i==j)=_
 rw[Bool.beq_eq_decide_eq]
theorem XX:∀(a b:List Int),bJ.gh (aJ a) (aJ b)=decide (a=b)
 | [],[]=>rfl
 | [],_::_=>by simp[aJ,bJ.gh]
 | _::_,[]=>by simp[aJ,bJ.gh]
 | x::xs,y::ys=>by
  show(bJ (.int x) (.int y)&&bJ.gh (aJ xs) (aJ ys))=_
  rw[XX xs ys,jL,ue];simp
theorem vJ(o o':Bool)(a b:List Int):bJ (.lst o (aJ a)) (.lst o' (aJ b))=decide (a=b):=XX a b
theorem XY{ns:List Int}{k:Nat}(h:k<ns.length):(aJ ns)[k]?=some (.int ns[k]):=by simp[aJ,h]
theorem mI{ns:List Int}{k:Int}(h0:0<=k)(h:k<ns.length):eJ (aJ ns) k=some (.int (ns.getD k.toNat 0)):=by
 unfold eJ g9
 rw[if_pos h0,kS,if_pos h]
 show(aJ ns)[k.toNat]?=_
 have hk:k.toNat<ns.length:=by omega
 rw[XY hk,aU,aP hk];rfl
theorem vK(ns:List Int)(lo hi:Option Int):fO (aJ ns) lo hi=aJ (fO ns lo hi):=by simp[fO,aJ,Vl,Vm]
theorem AN(i:Int):mG "int" (.int i)=some true:=by rfl
theorem AO(i:Int):mG "bool" (.int i)=some false:=by rfl
theorem AQ(i:Int):mG "list" (.int i)=some false:=by rfl
theorem AR(o:Bool)(xs:List D):mG "list" (.lst o xs)=some true:=by rfl
theorem AS:mG "int" .aw=some false:=by rfl
theorem AU(x:Str):mG "str" (.str x)=some true:=by rfl
theorem AV(xs:List D):mG "tuple" (.tup xs)=some true:=by rfl
theorem sL:sizeLine=16777216:=rfl
theorem AW{p:Prop}[Decidable p]:(decide p=true)=p:=by simp
theorem cz6{α:Type}(xs:List α)(a b:Nat):fO xs (some (a:Int)) (some (b:Int))=(xs.drop a).take (b-a):=by
 unfold fO
 rw[HT.Jy,HT.Jy]
 by_cases h:a<=xs.length
 ·rw[Nat.min_eq_left h]
  apply Vn
  intro i
  rw[dD9,dD9,Vo]
  by_cases hi:i<b-a
  ·rw[if_pos hi]
   by_cases hb:a+i<xs.length
   ·rw[if_pos (by omega)]
   ·rw[gr (by omega)];simp
  ·rw[if_neg hi,if_neg (by omega)]
 ·rw[Nat.min_eq_right (show xs.length<=a by omega),Vp (bK _),Vp (show xs.length<=a by omega)];simp
end L3
namespace L2
open PySem PySem.Spec PyProof.Rows
section
variable{X:Cx}{e:Expr}{te:TE}{lo hi:Option Expr}{st:Expr}{tl th ts:TO}{pos p2:Pos}
theorem XZ(ns:List Int):∀k,k<=ns.length->preSum (λi=>ns.getD i 0) k=(ns.take k).sum
 | 0,_=>rfl
 | k+1,h=>by
  show preSum (λi=>ns.getD i 0) k+ns.getD k 0=_
  rw[XZ ns k (by omega),nh,aP (by omega),List.sum_append,aU,aP (by omega)]
  simp
theorem cb6(hc:X.calm=true):gv X (.builtin "sum") (λxs H Q=>∃(p:Addr) (ns:List Int),xs=[.ref p]/\bN X.K H p (ns.map V.int)/\Q (.int ns.sum) H):=by
 intro pins s σ H xs us Q I r h
 obtain⟨p,ns,rfl,hS,q⟩:=h
 obtain⟨u,rfl,ru⟩:=r.one
 cases ru
 obtain⟨its,rv,pl,hz⟩:=I.list hS
 have hi:=bZ5 rv
 have hlen:ns.length=its.length:=by have:=rv.length;simpa using this
 have hl:=pl.isList
 have fK:p<s.heap.objs.size:=by obtain⟨_,e,_⟩:=hl;exact bS e
 refine call_sum_walkG (wpAny_pyIter_list hl ?_)
 refine⟨s.heap.objs.size,[s.heap.objs.size,p],[s.heap.objs.size],its.toArray.size,_,_,λi=>ns.getD i 0,rfl,IG (A:=X.A.in1) (I.ok.hd hc) _ p (fj fK) its.toArray,
  ⟨⟨_,gJ _ rfl,rfl,rfl⟩,hl.push _⟩,λb hb=>?_,λi v hP=>?_,λh' tk t' hk=>?_⟩
 ·simp only[tW]
  rcases cz.mp hb with rfl | hb
  ·exact C6 _
  ·rw[fk.mp hb];exact Vq fK
 ·have e:its[i]?=some v:=by simpa using hP
  obtain⟨x,ex,q2⟩:∃x,(ns.map V.int)[i]?=some x/\RelV x v:=by
   have gK:i<its.length:=(iZ.mp e).1
   obtain⟨u,e2,q2⟩:=rv.get (i:=i) (x:=V.int ns[i]) (by rw[cu,aP (by omega)];rfl)
   rw[e]at e2;cases e2
   exact⟨_,by rw[cu,aP (by omega)];rfl,q2⟩
  rw[cu]at ex
  obtain⟨n,en,rfl⟩:=Di.mp ex
  obtain⟨t,rfl⟩:=q2
  exact⟨t,by show oG n t=oG (ns.getD i 0) t;rw[aU,en];rfl⟩
 ·rw[dO,<- hlen,XZ ns _ (bK _),ug]
  exact⟨.int _,H,I.kept (h':=h') (t':=tk) (DZ hk),⟨_,rfl⟩,q⟩
end
end L2
namespace L3
open PySem L2 PySem.Spec PyProof.Rows
section
variable{X:Cx}{F H:Hp}{e:Expr}{t:aO}{lo hi:Option Expr}{st:Expr}{tl th td:vC}{pos p2:Pos}
theorem KC:∀{a:List Int} {ws:List V},S F H (aJ a) ws->ws=a.map V.int
 | [],_,s=>by cases s;rfl
 | b::bs,_,s=>by
  cases s with
  | int s=>rw[KC s];rfl
def nX:jq:=λds Q=>match ds with
 | [.lst _ xs]=>∃a,xs=aJ a/\Q (.int a.sum)
 | _=>False
theorem cX6(hc:X.calm=true):gD X (.builtin "sum") nX:=gD.of (cb6 hc) λvs H Q zz=>by
 obtain⟨B,F,σ,δ,ts,ds,Qd,c,s,q,k⟩:=zz
 unfold nX at q
 split at q
 ·obtain⟨v,rfl,s1⟩:=kh s
  obtain⟨a,rfl,q⟩:=q
  obtain⟨p,ws,rfl,h,t⟩:=kO s1 c.ext rfl
  rw[KC t]at h
  exact⟨p,a,rfl,ki h,k _ _ _ q (af.refl _) (c.pushS (.int .nil) rfl)⟩
 ·exact q.elim
def KD:Expr->Option Int
 | .Constant (.int i) _ _=>some i
 | _=>none
def Ei:List Expr->Option (List Int)
 | []=>some []
 | e::es=>(KD e).bind λi=>(Ei es).map (i :: ·)
theorem cn9{e:Expr}{i:Int}(h:KD e=some i):∃a b,e=.Constant (.int i) a b:=by
 cases e with
 | Constant c a b =>
  cases c with
  | int j=>cases h;exact⟨_,_,rfl⟩
  | _=>cases h
 | _=>cases h
def cU0(ns:List Int):cK:=λδ Q=>Q (aJ ns) δ
theorem X0:∀(es:List Expr) (ns:List Int),Ei es=some ns->PA X es (lO (cU0 ns))
 | [],ns,h=>by cases h;exact cH
 | e::es,ns,h=>by
  obtain⟨i,hi,h2⟩:=Option.bind_eq_some_iff.mp (show(KD e).bind (λi=>(Ei es).map (i :: ·))=some ns from h)
  obtain⟨ms,hm,rfl⟩:=Di.mp h2
  obtain⟨a,b,rfl⟩:=cn9 hi
  exact Ag (cy (aj (i:=i)) (X0 es ms hm)) λ_ _ _ q=>q
def vL(ns:List Int):aO:=λδ Q=>ns.length<=sizeLine/\Q (.lst true (aJ ns)) δ
theorem X5{es:List Expr}{ns:List Int}(h:Ei es=some ns):PE X (.List es pos) (lE (vL ns)) :=
 dA (dS (X0 es ns h)) λ_ _ _ ⟨B,F,δ,ts,Qd,c,q,k⟩=>⟨B,F,δ,ts,Qd,c,by
  show(aJ ns).length<=sizeLine/\_
  rw[kS];exact q,k⟩
theorem cb3{ns:List Int}(h:0<ns.length):eJ (aJ ns) (-1)=some (.int (ns.getD (ns.length-1) 0)):=by
 unfold eJ g9
 rw[if_neg (by decide),kS,if_pos (by omega)]
 have hk:((-1:Int)+ns.length).toNat=ns.length-1:=by omega
 show(aJ ns)[((-1:Int)+ns.length).toNat]?=_
 rw[hk,XY (by omega),aU,aP (by omega)];rfl
theorem AX{n:Nat}{g:iz}{tb:cL}{En:uN}{δ:Dl}(Iv:Nat->Dl->Prop)(h0:Iv 0 δ)(ht:∀k ah,k<n->Iv k ah->g (.int k) ah λaT=>tb { En with nx:=Iv (k+1),ct:=Iv (k+1),bk:=En.nx } aT)
  (hf:∀ah,Iv n ah->En.nx ah):gb (qH (λ(k:Nat)=>D.int (0+(k:Int))) (aM (n:Int).toNat)) g tb En δ:=by
 rw[gU]
 refine gb.mk Iv h0 (λi d ah hd iv=>?_) λah iv=>hf ah (by simpa using iv)
 rw[cu]at hd
 obtain⟨k,hk,rfl⟩:=Di.mp hd
 have hi:i<n:=by have:=(iZ.mp hk).1;simpa using this
 rw[jZ hi]at hk
 cases hk
 rw[Vr]
 exact ht i ah hi iv
theorem nB{xs:List D}{k:Int}{d:D}(h0:0<=k)(h:xs[k.toNat]?=some d):eJ xs k=some d:=by
 unfold eJ g9
 have hk:k.toNat<xs.length:=(iZ.mp h).1
 rw[if_pos h0,if_pos (by omega)]
 exact h
end
end L3
namespace L3
open PySem L2 PySem.Spec PyProof.Rows
abbrev pH:=List D->(D->Prop)->(Addr->Prop)->Prop
def AY(sp:pH):Sp:=λvs H Q E=>∃F ds Qd Ed,af F H/\R F H ds vs []/\sp ds Qd Ed/\(∀d v F' H' A,Qd d->af H H'->af F F'->af F' H'->(∀a ws,F' a=some (.lst ws)->F a=some (.lst ws)\/H a=none)->R F' H' [d] [v] A->A.Nodup->(∀a∈A,H a=none)->Q v H') /\
 ∀C H',Ed C->af H H'->E (.ref C) none H'
section
variable{P:Program}{w:World}{K:PySem.W.Frag}{mg:Str->Option Value}{base:Heap}
theorem X6{x qual:Str}{st:Stmt}{f:Addr}{fd:FuncData}{N ps:List Str}{k:Nat}{sp:pH}(F:bg K x qual st f fd)(S:bj N ps (au st))(len:∀ds Q E,sp ds Q E->ds.length=ps.length)
  (g8:∀(aD:Value) (A:Around) (outer:List Env) (s:Shared) (H:Hp) (E:XK),cj k (A.deeper (envOfC qual (au st) s.heap.objs.size f aD)) ->
   ∃t:cL,PSs (iM (nJ P w) P w K mg base N qual (au st) f aD A outer s H E) (aQ st) (lS (iM (nJ P w) P w K mg base N qual (au st) f aD A outer s H E) t) /\
    ∀ds Q Ex,sp ds Q Ex->t { nx:=λ_=>Q .aw,rt:=Q,xc:=λC _=>Ex C,xr:=λC _=>Ex C } (kM N ds)):aN P w K mg base (nJ P w) (k+1) f fd ps (AY sp):=by
 obtain⟨oc,od,kV,doc,pm,an,aD,ct,ik,rfl,lk,cJ⟩:=F.ex
 refine DR lk cJ S (λvs H Q E ⟨F,ds,Qd,Ed,e,r,h,_⟩=>by rw[<-r.length];exact len ds Qd Ed h) λA outer s H vs Q E hr zz=>?_
 obtain⟨F,ds,Qd,Ed,e,r,h,k,kx⟩:=zz
 obtain⟨t,ht,hq⟩:=g8 aD A outer s H E hr
 have fin:∀d v ah aK F' H',Qd d->aq ⟨H,F⟩ F' H' aK ah [(d,v)]->Q v H':=λd v ah aK F' H' hd c=>by
  obtain⟨A,C,r',s',nd,fr⟩:=c.own
  exact k d v F' H' A hd c.b1 c.b2 c.ext c.b3 r' (gy.mp nd).1 λa ha=>fr a (eZ _ ha)
 have e1:L2.start N vs=vs.map some++bo (N.length-ds.length) none:=by unfold L2.start;rw[r.length]
 refine⟨_,ht,⟨H,F⟩,F,kM N ds,_,?_,hq ds Qd Ed h,λah aK F' H' hd c=>fin .aw .aw ah aK F' H' hd (c.pushS (.aw .nil) rfl),fin,λ_ _ _ _ z=>z.elim,λ_ _ _ _ z=>z.elim,λC ah pins aK F' H' s' a T hx c I tr pa pT=>?_,λC ah pins aK F' H' s' h' e vs hx c I hm=>?_⟩
 ·rw[e1]
  exact aq.start e r _
 ·exact ci0 I rfl rfl rfl tr pa pT λh' T' g=>⟨a,T',.ref C,H',rfl,I.os,I.bare,g.un,g.aL,g.z9,g.a0,g.a1,g.t0,g.t1,kx C H' hx c.b1⟩
 ·exact b92 I rfl rfl rfl hm λh' T' g=>⟨e,T',.ref C,H',rfl,I.os,I.bare,g.un,g.aL,g.z9,g.a0,g.a1,g.t0,g.t1,kx C H' hx c.b1⟩
end
section
variable{X:Cx}{n:Nat}{f:Addr}{fd:FuncData}{ps:List Str}{sp:pH}{x:Str}{p pos:Pos}{e:Expr}{es:List Expr}{t:cK}{tx:f08}
def vM(t:cL):cL:=λD δ=>t { D with xc:=λ_ _=>False,xr:=λ_ _=>False } δ
theorem cX2{st:Stmt}{u:cL}(h:PS X.gu st (lS X.gu u)):PS X st (lS X (vM u)):=by
 intro pins s σ H D I zz
 obtain⟨B,F,δ,Dd,c,q,k1,k2,k3,k4,xl⟩:=zz
 exact wpAny_mono (h pins s σ H D (I.j7 _) ⟨B,F,δ,_,c,q,k1,k2,k3,k4,XL.none (λ_ _ z=>z) λ_ _ z=>z⟩) (λ_ _ q=>q.lZ) λ_ _ z=>fU z
def vN(C:Addr)(t:cK):cL:=λD δ=>t δ λds ah=>ds.length<=9/\D.xr C ah
structure KG(K:PySem.W.Frag)(mg:Str->Option Value)(x:Str)(C:Addr):Prop where
 own:∀h:Heap,K.In h->h.Ns mainGlobals mg->∃newId Bn X7 X8 B X9 Ya Ej,OwnCls x C Ej newId mg h/\ExcBaseFacts Bn newId X7 X8/\Ej.contains (.type Bn)=true/\ExcBaseFacts B X9 Ya Ej
theorem Yb{C:Addr}{np cw:Pos}(hm:KG X.K X.mg x C)(hc:X.calm=true)(hg:Gl X x)(ha:PA X (e::es) (lA t))(eC:(x==("__debug__":Str))=false:=by decide)
  (he:starEach (e::es) X.env=(false,eval e X.env)::starEach es X.env:=by rfl) (bQ:(backTo cw (starEach es X.env)).any (·.1)=false:=by rfl) :
  PS X (.Raise (some (.Call (.Name x np) (e::es) [] cw)) none pos) (lS X (vN C t)):=by
 intro pins s σ H D I zz
 obtain⟨B,F,δ,Dd,c,q,k1,k2,k3,k4,xl⟩:=zz
 obtain⟨newId,Bn,X7,X8,B',X9,Ya,Ej,O,Fn,hBn,FB⟩:=hm.own X.base I.ok.mod.nu I.ok.mod.glob
 obtain⟨tl,N,nm,qn,bs,hdct,sn,sub,ab,col,dd,k0,rQ,vv,k3',k5,mN,hC,hN,mJ,T⟩:=O.obj
 refine wpAny_Raise_call_subU (k5:=k5) (k3:=k3') (k2:=vv) (k1:=rQ) (k0:=k0) (dd:=dd) (col:=col) (ab:=ab) (sub:=sub) (sn:=sn) (hdct:=hdct) (bs:=bs) (N:=N) (q:=qn) (nm:=nm) (C:=C) Fn hBn FB (mN:=mN) (T.hasType FB.hasBase) (I.ok.hd hc) (by rw[he];show(false||(backTo cw (starEach es X.env)).any (·.1))=false;rw[bQ];rfl) mJ (zI I hg O.bound ⟨rfl,?_⟩ eC)
 have Ek:=ha cw pins s σ H (λvs H1=>vs.length<=9/\∃ah F',Dd.xr C ah/\aq B F' H1 σ ah []) I ⟨B,F,δ,[],_,c,q,λds ao vs F1 H1 q1 f1 h1 c1 s1=>⟨by rw[<-s1.length];exact q1.1,ao,F1,q1.2,c1⟩⟩
 rw[he]at Ek ⊢
 refine Calls.evalArgs_plain (wpAny_mono Ek (λus s2 h2=>?_) λ_ _ y=>y)
 obtain⟨vs,H1,I1,r,hl,ah,F',hx,c'⟩:=h2
 exact⟨rfl,by rw[<-r.length];exact fu hl (by decide),I1.bk _ _ hC,hN.keeps I1.bk,T.keeps I1.bk,λh' e' hm'=>xl.2 C ah pins σ F' H1 s2 h' e' _ hx c' I1 hm'⟩
end
end L3
namespace L3
open PySem L2 PySem.Spec PyProof.Rows
section
variable{X:Cx}{pins Jf:List (Addr × Obj)}{σ:L2.St}{H:Hp}{s:Shared}{a:Addr}
end
section
variable{X:Cx}{tb th:cL}{body ea1:List Stmt}{ea2:Stmt}{K n:Str}{Kc:Addr}{i:Nat}{kp ea3 pos:Pos}
end
end L3
namespace L3
open PySem L2 PySem.Spec PyProof.Rows
def Yc:V->Option Value
 | .ref a=>some (.ref a)
 | .ty n=>some (.type n)
 | _=>none
theorem cy8{c:V}{u cv:Value}(h:Yc c=some cv)(r:RelV c u):u=cv:=by
 cases c<;>cases h<;>exact r
inductive KH(K:PySem.W.Frag)(H:Hp):V->Value->Prop where
 | ty {v:V} {t:Value} (h:ij K H v t):KH K H v t
 | exc {a C:Addr} (e:H a=some (.ext (D1 a C))) (x:JU K C):KH K H (.ref a) (.ref C)
def cZ5(K:PySem.W.Frag):List V->Hp->VK->Prop:=λxs H Q=>∃x c cv t b,xs=[x,c]/\Yc c=some cv/\KH K H x t/\PySem.W.kitOne K t cv=some b/\Q (.bl b) H
section
variable{X:Cx}{F H:Hp}{v:V}{a:Expr}{ta:aO}{p pos:Pos}
theorem ch1:gv X (.builtin "isinstance") (cZ5 X.K):=by
 intro pins s σ H xs us Q I r h
 obtain⟨x,c,cv,t,b,rfl,hv,ty,e,q⟩:=h
 obtain⟨u,v,rfl,ru,rv⟩:=r.two
 cases cy8 hv rv
 cases ty with
 | ty ty=>exact V7 I ru ty e λtk=>⟨.bl b,H,I.tok _,rfl,q⟩
 | @exc a C ea x =>
  cases(show u=cZ a from ru)
  obtain⟨xa,_,_⟩:=(show eB X.prog X.w H s.heap a (.ext (D1 a C)) from I.aL a _ ea)
  exact PySem.W.kia_one (cn2 x) I.di xa e (λz=>nomatch z) λtk=>⟨.bl b,H,I.tok _,rfl,q⟩
end
section
variable{K:PySem.W.Frag}{mg:Str->Option Value}{x:Str}{C:Addr}
theorem cM7(hm:mg x=some (.ref C))(q:PySem.W.excIn K C [.type "ValueError",.type "Exception",.type "BaseException",.type "object"] "ValueError.__new__"=true):KG K mg x C:=by
 refine⟨λh X G=>⟨"ValueError.__new__","ValueError",_,_,"ValueError",_,_,[.type "ValueError",.type "Exception",.type "BaseException",.type "object"],?_,PySem.F.excBase_ValueError,rfl,PySem.F.excBase_ValueError⟩⟩
 refine⟨hm,?_⟩
 unfold PySem.W.excIn at q
 split at q
 ·rename_i dd cd sl ho
  split at q
  ·rename_i C' bm k0 k1 k2 k3 n k5 hm hs
   simp only[eH,beq_iff_eq,Bool.not_eq_true']at q
   obtain⟨⟨⟨⟨⟨rfl,rfl⟩,Yd⟩,ht⟩,aL⟩,mJ⟩:=q
   obtain⟨nm,bs,mro,ns,qn,hd,sn,sub,ab,col,del⟩:=cd
   dsimp only at hm Yd aL mJ
   subst hm Yd
   have hsl:sl=#[k0,k1,k2,k3,some (.builtin "ValueError.__new__"),k5]:=by
    obtain⟨l⟩:=sl
    simp only at hs
    rw[hs]
   subst hsl
   exact⟨bm,ns,nm,qn,bs,hd,sn,sub,ab,col,dd,k0,k1,k2,k3,k5,_,X _ _ ho,.of_isNs (PySem.W.isNs_of_in X aL),PySem.W.nsMap_none_of_in X aL mJ,PySem.W.tail_of_in X ht⟩
  ·cases q
 ·cases q
open PySem.W in
theorem AZ{t:Value}{b:Bool}(mw:(t==.ref C)=false)(h1:(clsIn K C).isSome=true)(h2:typeIn K (.ref C)=some (.type "type"))(h3:subIn K t (.ref C)=some b):kitOne K t (.ref C)=some b:=by
 unfold kitOne kitCls
 rw[mw]
 simp only[uf,if_false]
 rw[h1,h2,if_pos (by rfl),h3]
end
theorem KI{P:Program}{w:World}{X:Cx}:j9 (nJ P w) X E0:=by
 rintro _ _ _ _ _ _ _ ⟨_,_,_,_,_,_,_,_,_,_,_,_,_,_,z⟩
 exact z.elim
theorem KJ{P:Program}{w:World}{K:PySem.W.Frag}{mg:Str->Option Value}{base:Heap}{k:Nat}{f:Addr}{fd:FuncData}{ps:List Str}{sp:pH}(h:aN P w K mg base (nJ P w) k f fd ps (AY sp)) :
  aN P w K mg base (nJ P w) k f fd ps (br λds Q=>sp ds Q λ_=>False) :=
 h.imp λvs H Q E ⟨F,ds,Qd,e,r,q,k⟩=>⟨F,ds,Qd,_,e,r,q,k,λ_ _ z=>z.elim⟩
end L3
namespace L3
open PySem L2 PySem.Spec PyProof.Rows
theorem A6{CX:eW}{P:Program}{w:World}{K:PySem.W.Frag}{mg:Str->Option Value}{base:Heap}{N:List Str}{q:Str}{sc:Scope}{f:Addr}{aD:Value}{A:Around}{outer:List Env}{s:Shared}{H:Hp}{E:XK}:(iM CX P w K mg base N q sc f aD A outer s H E).K=K:=rfl
theorem A8(φ:uL):(D.bI φ).pl=true:=rfl
theorem Ba(φ:uL):(D.bI φ).sh=.bI φ:=rfl
end L3
namespace L3
open PySem L2 PySem.Spec PyProof.Rows
theorem Bb{X:Cx}:X.gu.K=X.K:=rfl
end L3
namespace L3
open PySem L2 PySem.Spec PyProof.Rows
def dJ(xs ys:List D):List D:=cW (λx y=>D.tup [x,y]) xs ys
def fP(xs:List D):List D:=xs.mapIdx λi x=>D.tup [.int i,x]
theorem Ye(xs ys:List D):(dJ xs ys).map D.sh=dJ (xs.map D.sh) (ys.map D.sh):=by
 unfold dJ
 rw[IM,Dj]
 congr 1
theorem cE9{xs ys:List D}(h1:xs.all D.pl=true)(h2:ys.all D.pl=true):(dJ xs ys).all D.pl=true:=by
 unfold dJ
 rw[dz]at h1 h2 ⊢
 intro d hd
 obtain⟨i,hi,e⟩:=kD hd
 rw[List.getElem_zipWith]at e
 subst e
 rw[kK]
 simp only[dy,ui,nj,eH]
 exact⟨h1 _ (dE _),h2 _ (dE _)⟩
theorem cp8(xs:List D):(fP xs).map D.sh=fP (xs.map D.sh):=by
 unfold fP
 apply Vn
 intro i
 simp only[cu,Dk,Option.map_map]
 cases xs[i]? with
 | none=>rfl
 | some x =>
  show some (D.sh (.tup [.int i,x]))=some (D.tup [.int i,x.sh])
  rw[mx];rfl
theorem cr0{xs:List D}(h1:xs.all D.pl=true):(fP xs).all D.pl=true:=by
 unfold fP
 rw[dz]at h1 ⊢
 intro d hd
 obtain⟨i,hi,e⟩:=kD hd
 rw[List.getElem_mapIdx]at e
 subst e
 rw[kK]
 simp only[dy,ui,nj,eH]
 exact⟨rfl,h1 _ (dE _)⟩
theorem sA(xs:List D):(fP xs).length=xs.length:=by simp[fP]
theorem KL(xs ys:List D):(dJ xs ys).length=min xs.length ys.length:=by simp[dJ]
section
variable{F H:Hp}{d:D}{v:V}{xs ys:List D}{ws us:List V}{p q:Addr}{K:PySem.W.Frag}
theorem KN(s:S F H [d] [v])(e2:af F H)(e:ke d=some xs):∃p ws,v=.ref p/\Rd H p (.lst ws)/\R H H (xs.map D.sh) ws []/\(d.pl=true->xs.all D.pl=true/\Rd F p (.lst ws)/\R F H xs ws []):=by
 cases s with
 | @shr p ws ys _ _ hp r _ =>
  obtain rfl:=cV e
  refine⟨p,ws,rfl,.inl (e2 _ _ hp),?_,λ_=>⟨r.pl,.inl hp,r⟩⟩
  rw[my r.pl]
  exact r.shared e2 (af.refl _)
 | @own p ws ys _ _ hp r _ =>
  obtain rfl:=cV e
  exact⟨p,ws,rfl,.inl hp,r.frozen e2,λz=>by simp[fZ]at z⟩
 | @fz p o ws ys _ _ hp r _ =>
  obtain rfl:=cV e
  refine⟨p,ws,rfl,.inr ⟨o,e2 _ _ hp⟩,?_,λ_=>⟨r.pl,.inr ⟨o,hp⟩,r⟩⟩
  rw[my r.pl]
  exact r.shared e2 (af.refl _)
 | aw _=>cases e
 | bl _=>cases e
 | int _=>cases e
 | str _=>cases e
 | tup _ _ _=>cases e
 | obj _ _ _ _=>cases e
 | bI _ _=>cases e
theorem KO(r:R F H xs ws []){i:Nat}(hi:i<xs.length){x:V}(hx:ws[i]?=some x):R F H [xs[i]] [x] []:=by
 obtain⟨v,A1,e2,r1,sub⟩:=r.get (aP hi)
 rw[hx]at e2;cases e2
 have:A1=[]:=dD6.mpr λa ha=>by simpa using sub ha
 subst this
 exact r1
theorem Yf(hp:Rd F p (.lst ws))(r:R F H xs ws [])(hq:Rd F q (.lst us))(t:R F H ys us [])(hF:Full F H):JD (JV K p q) F (dJ xs ys) where
 go:=λi H' hs hi=>by
  rw[KL]at hi
  have l1:=r.length
  have l2:=t.length
  exact⟨ws,us,_,_,.inl (iN hp hs),.inl (iN hq hs),aP (show i<ws.length by omega),aP (show i<us.length by omega)⟩
 j8:=λi H' v H2 hs hi zz=>by
  obtain⟨T,x,y,e1,e2,e3,hx,hy⟩:=zz
  subst e1 e3
  have Bc:=hi
  rw[KL]at Bc
  have h1:=KO (r.full hF hs rfl) (show i<xs.length by omega) (hx ws (.inl (iN hp hs)))
  have h2:=KO (t.full hF hs rfl) (show i<ys.length by omega) (hy us (.inl (iN hq hs)))
  have sm:=af.upd (o:=.tup [x,y]) e2
  refine⟨_,aP hi,sm,?_⟩
  have eg:(dJ xs ys)[i]=.tup [xs[i]'(by omega),ys[i]'(by omega)]:=by simp[dJ]
  rw[eg]
  exact R.tup (A:=[]) (B:=[]) bM ((h1.shared (af.refl _) sm).cons (h2.shared (af.refl _) sm)) .nil
 stop:=λi H' hs hi=>by
  rw[KL]at hi
  have l1:=r.length
  have l2:=t.length
  exact⟨ws,us,.inl (iN hp hs),.inl (iN hq hs),by omega⟩
theorem Yg(hp:Rd F p (.lst ws))(r:R F H xs ws [])(hF:Full F H):JD (J0 K p) F (fP xs) where
 go:=λi H' hs hi=>by
  rw[sA]at hi
  have l1:=r.length
  exact⟨ws,_,.inl (iN hp hs),aP (show i<ws.length by omega)⟩
 j8:=λi H' v H2 hs hi zz=>by
  obtain⟨T,x,e1,e2,e3,hx⟩:=zz
  subst e1 e3
  have Bc:=hi
  rw[sA]at Bc
  have h1:=KO (r.full hF hs rfl) Bc (hx ws (.inl (iN hp hs)))
  have sm:=af.upd (o:=.tup [.int i,x]) e2
  refine⟨_,aP hi,sm,?_⟩
  have eg:(fP xs)[i]=.tup [.int i,xs[i]]:=by simp[fP]
  rw[eg]
  exact R.tup (A:=[]) (B:=[]) bM (.int (h1.shared (af.refl _) sm)) .nil
 stop:=λi H' hs hi=>by
  rw[sA]at hi
  have l1:=r.length
  exact⟨ws,.inl (iN hp hs),by omega⟩
end
section
variable{X:Cx}{a b:Expr}{ta:cK}{p pos qW:Pos}{elts:List Expr}{x1:Nat}
def vO(t:cK):jm:=λδ Q=>t δ λds ah=>match ds with
 | [d1,d2]=>∃xs ys,ke d1=some xs/\ke d2=some ys/\Q (d1.pl&&d2.pl) (dJ xs ys) ah
 | _=>False
theorem pI(hg:Gl X "zip")(hm:X.mg "zip"=none)(ha:PA X [a,b] (lA ta))(hs:starEach [a,b] X.env=[(false,eval a X.env),(false,eval b X.env)]:=by rfl)(fw:starEach [b] X.env=[(false,eval b X.env)]:=by rfl) :
  PI X (.Tuple elts x1 qW) (.Call (.Name "zip" p) [a,b] [] pos) (lI (vO ta)) :=
 u4 (cP8 hg hm ha hs fw) λσ H Q ⟨B,F,δ,ts,Qd,c,q,k⟩=>⟨B,F,δ,ts,_,c,q,λds ao vs F1 H1 hd f1 h1 c1 s=>by
  match ds,hd,s with
  | [d1,d2],⟨xs,ys,i1,i2,hq⟩,s =>
   obtain⟨v1,bU,rfl,s1,s2⟩:=s.cR
   obtain⟨v2,f09,rfl,s2,s3⟩:=s2.cR
   cases s3
   have e2:=c1.ext
   have sn:=rz e2
   obtain⟨p1,w1,rfl,r1,t1,u1⟩:=KN s1 e2 i1
   obtain⟨p2,w2,rfl,r2,t2,u2⟩:=KN s2 e2 i2
   refine⟨p1,p2,rfl,⟨w1,.inl r1⟩,⟨w2,.inl r2⟩,k _ _ ao _ _ H1 hq (f1.trans sn) h1 c1.snap ?_ λz=>?_⟩
   ·rw[Ye]
    exact Yf r1 t1 r2 t2 (Full.refl _)
   ·rw[eH]at z
    obtain⟨a1,a2,a3⟩:=u1 z.1
    obtain⟨b1,b2,b3⟩:=u2 z.2
    exact⟨cE9 a1 b1,Yf (iN a2 sn) (a3.shared sn (af.refl _)) (iN b2 sn) (b3.shared sn (af.refl _)) uM⟩⟩
def vP(t:cK):jm:=λδ Q=>t δ λds ah=>match ds with
 | [d1]=>∃xs,ke d1=some xs/\Q d1.pl (fP xs) ah
 | _=>False
theorem sC(hg:Gl X "enumerate")(hm:X.mg "enumerate"=none)(ha:PA X [a] (lA ta))(hs:starEach [a] X.env=[(false,eval a X.env)]:=by rfl) :
  PI X (.Tuple elts x1 qW) (.Call (.Name "enumerate" p) [a] [] pos) (lI (vP ta)) :=
 u4 (cA3 hg hm ha hs) λσ H Q ⟨B,F,δ,ts,Qd,c,q,k⟩=>⟨B,F,δ,ts,_,c,q,λds ao vs F1 H1 hd f1 h1 c1 s=>by
  match ds,hd,s with
  | [d1],⟨xs,i1,hq⟩,s =>
   obtain⟨v1,bU,rfl,s1,s2⟩:=s.cR
   cases s2
   have e2:=c1.ext
   have sn:=rz e2
   obtain⟨p1,w1,rfl,r1,t1,u1⟩:=KN s1 e2 i1
   refine⟨p1,rfl,⟨w1,.inl r1⟩,k _ _ ao _ _ H1 hq (f1.trans sn) h1 c1.snap ?_ λz=>?_⟩
   ·rw[cp8]
    exact Yg r1 t1 (Full.refl _)
   ·obtain⟨a1,a2,a3⟩:=u1 z
    exact⟨cr0 a1,Yg (iN a2 sn) (a3.shared sn (af.refl _)) uM⟩⟩
end
end L3
namespace L3
open PySem L2 PySem.Spec PyProof.Rows
section
variable{X:Cx}{F H:Hp}{e b:Expr}{pos p p2 p3 pr apos cw KA:Pos}{t ti te:aO}{x y:Str}{i j:Nat}
theorem El{α:Type}{xs:List α}{k:Nat}{v:α}(h:xs[k]?=some v):eJ xs (k:Int)=some v:=by
 unfold eJ g9
 have hk:k<xs.length:=(iZ.mp h).1
 rw[if_pos (by omega),if_pos (by omega)]
 exact h
theorem Kz{B:Bs}{σ:L2.St}{δ:Dl}{ts:List (D × V)}{l1 l2 ys:List D}{p0:Addr}{ws:List V}(c:aq B F H σ δ ts)(e1:δ[i]?=some (some (.lst true (l1++.lst true ys::l2))))(g1:σ[i]?=some (some (.ref p0)))(g2:H p0=some (.lst ws)) :
  ∃q us,ws[l1.length]?=some (.ref q)/\H q=some (.lst us)/\ys.length=us.length/\S F H [.lst true ys] [.ref q]:=by
 obtain⟨v,ev,sv⟩:=c.look e1
 rw[g1]at ev;cases ev
 cases sv with
 | own hh sx _ =>
  rw[g2]at hh;cases hh
  obtain⟨v2,e2,s3⟩:=sx.get (i:=l1.length) (d:=D.lst true ys) (by rw[kB (bK _),zj];rfl)
  have s4:=s3
  cases s3 with
  | own h3 s5 _=>exact⟨_,_,e2,h3,s5.length,s4⟩
end
section
variable{X:Cx}{CX:eW}{k:Nat}{f:Addr}{fd:FuncData}{ps:List Str}{sp:bq}{E:XK}{fn x1 x2 y1 y2:Str}{i1 i2 j1 j2:Nat}{tk:Nat}
 {tp t1 t2 zp f73 q1 q2 fp f74 a1 a2 eb2 f75 f76 cp KA pr apos cw f77 pos:Pos}
end
end L3
namespace L3
open PySem L2 PySem.Spec PyProof.Rows
theorem aq.eb3{B:Bs}{F H:Hp}{σ:L2.St}{δ:Dl}{ts:List (D × V)}{a b:D}{v:V}(c:aq B F H σ δ ((.tup [a,b],v)::ts)):∃p u w,v=.ref p/\H p=some (.tup [u,w])/\aq B F H σ δ ((a,u)::(b,w)::ts):=by
 obtain⟨A,C,r,s,nd,fr⟩:=c.own
 cases r with
 | @tup p ws xs A1 _ _ B1 hp r1 r2 =>
  obtain⟨u,gL,A2,A3,rfl,rfl,h1,h2⟩:=r1.cR
  obtain⟨w,f78,A4,A5,rfl,rfl,h3,h4⟩:=h2.cR
  cases h4
  refine⟨p,u,w,rfl,hp,c.ext,c.b1,c.b2,c.b3,A2++(A4++B1),C,h1.cons (h3.cons r2),s,?_,?_⟩
  ·simpa using nd
  ·intro a ha;exact fr a (by simpa using ha)
section
variable{X:Cx}{y1 y2:Str}{i1 i2 tk m:Nat}{t1 t2 tp:Pos}
def jM(i1 i2:Nat):iz:=λd δ Q=>match d with
 | .tup [a,b]=>Q ((δ.set i1 (some a)).set i2 (some b))
 | _=>False
theorem iC(hc:X.calm=true)(Yh:X.N.Nodup)(m1:X.N[i1]?=some y1)(l1:Loc X.env.scope y1)(m2:X.N[i2]?=some y2)(l2:Loc X.env.scope y2)(hm1:m<=i1:=by decide)(Eg:m<=i2:=by decide)
  (f1:X.fn y1=true\/X.env.scope.names.lookup y1=some .local:=by first | exact .inl rfl | exact .inr rfl | assumption) (f2:X.fn y2=true\/X.env.scope.names.lookup y2=some .local:=by first | exact .inl rfl | exact .inr rfl | assumption)
  (hag:(assignEach [.Name y1 t1,.Name y2 t2] X.env).map (·.2)=assign (.Name y1 t1) X.env::(assignEach [.Name y2 t2] X.env).map (·.2):=by rfl) (eb5:(assignEach [.Name y2 t2] X.env).map (·.2)=assign (.Name y2 t2) X.env::(assignEach [] X.env).map (·.2):=by rfl)
  (hn:(assignEach [.Name y1 t1,.Name y2 t2] X.env).length=2:=by rfl) (dj:(assignEach [.Name y1 t1,.Name y2 t2] X.env).findIdx? (·.1)=none:=by rfl) :
  PG X (.Tuple [.Name y1 t1,.Name y2 t2] tk tp) (lG m (jM i1 i2)) :=
 Xq (cS5 hc (VT (DK Yh m1 l1 f1) (VT (DK Yh m2 l2 f2) cE8 eb5) hag) hn dj) λv σ H Q zz=>by
  obtain⟨B,F,δ,ts,d,Qd,c,q,k⟩:=zz
  obtain⟨a,b,rfl,q⟩:∃a b,d=D.tup [a,b]/\Qd ((δ.set i1 (some a)).set i2 (some b)):=by
   unfold jM at q
   split at q
   ·exact⟨_,_,rfl,q⟩
   ·exact q.elim
  obtain⟨p,u,w,rfl,hp,c2⟩:=c.eb3
  refine⟨p,[u,w],rfl,ie.of hp,rfl,u,[w],rfl,w,[],rfl,rfl,k _ _ q (by simp) (λj hj=>?_) ((c2.store i1).store i2)⟩
  rw[tT (by omega),tT (by omega)]
end
open Classical in
theorem eN{α:Type}{sh:Bool}{xs:List D}{aE:List (Str × Nat)}{n m:Nat}{te:aO}{ao:Dl}{Q:D->Dl->Prop}(l:List α)(e g:α->D)(jr:xs.map D.sh=l.map e)(inj:∀a b,e a=e b->a=b)
  (hx:∀a∈l,te ((gA aE n ao).set m (some (e a))) λd _=>d=g a) (eK:(sh&&aE.all (jn ao))=true\/∀a∈l,(g a).fr=true) (hl:l.length<=sizeLine) (hq:Q (.lst true (l.map g)) ao):vb sh xs aE n (gN m) mC te ao Q:=by
 let f:D->D:=λx=>if h:∃a∈l,e a=x then g h.choose else .aw
 have hf:∀a∈l,f (e a)=g a:=λa ha=>by
  have h:∃b∈l,e b=e a:=⟨a,ha,rfl⟩
  show(if h:∃b∈l,e b=e a then g h.choose else .aw)=g a
  rw[dif_pos h]
  exact congrArg g (inj _ _ h.choose_spec.2)
 refine cr1 f (λx h=>?_) (eK.imp id λh x hx=>?_) ?_ ?_
 ·rw[jr]at h
  obtain⟨a,ha,rfl⟩:=bH.mp h
  rw[hf a ha];exact hx a ha
 ·rw[jr]at hx
  obtain⟨a,ha,rfl⟩:=bH.mp hx
  rw[hf a ha];exact h a ha
 ·have:=congrArg Iy jr
  simp at this
  omega
 ·rw[jr,cA,show l.map (f ∘ e)=l.map g from uj λa ha=>hf a ha]
  exact hq
end L3
namespace L3
open PySem L2 PySem.Spec PyProof.Rows
end L3
namespace L2
open PySem PySem.Spec PyProof.Rows
section
variable{X:Cx}
end
end L2
namespace L3
open PySem L2 PySem.Spec PyProof.Rows
abbrev tx(l:List Nat):D:=.str ⟨l.toArray⟩
section
variable{X:Cx}{F H:Hp}{e:Expr}{es:List Expr}{t:aO}{pos p p2 apos cw:Pos}
def sD(x:D)(lo hi:Option Int)(Q:D->Prop):Prop:=match x with
 | .lst _ xs=>xs.all D.pl=true/\Q (.lst true (fO xs lo hi))
 | .fz xs=>Q (.lst true (fO xs lo hi))
 | .str z=>z.length<=sizeLine/\Q (tx (fO z.cps.toList lo hi))
 | _=>False
def vQ(t:aO)(tl th:vC):aO:=λδ Q=>t δ λx ao=>tl ao λl aT=>th aT λu iP=>sD x l u λd=>Q d iP
theorem Bd{lo hi:Option Expr}{tl th:vC}(he:PE X e (lB t))(hl:PO X lo (lP tl))(hu:PO X hi (lP th)):PE X (.Subscript e (.Slice lo hi none p2) pos) (lE (vQ t tl th)) :=
 dA (cq9 (dS9.or cJ8) he hl hu) λσ H Q ⟨B,F,δ,ts,Qd,c,q,k⟩=>⟨B,F,δ,ts,_,c,q,λx ao v F1 H1 q1 f1 h1 c1 s1=>⟨B,F1,ao,ts,_,c1,q1,λl aT F2 H2 q2 f2 h2 c2=>⟨B,F2,aT,ts,_,c2,q2,λu iP F3 H3 q3 f3 h3 c3=>by
  have nU:=s1.mono (f2.trans f3) (h2.trans h3)
  unfold sD at q3
  split at q3
  ·obtain⟨p,ws,rfl,h,t⟩:=kO nU c3.ext rfl
   exact .inl ⟨p,ws,rfl,ki h,λr hr=>k _ iP _ F3 _ q3.2 ((f1.trans f2).trans f3) (((h1.trans h2).trans h3).trans (af.upd hr)) (c3.pf hr (t.cut _ _) (XQ q3.1 _ _))⟩
  ·obtain⟨p,ws,rfl,h,t⟩:=kO nU c3.ext rfl
   cases nU with
   | fz h' r _=>exact .inl ⟨_,_,rfl,ki (.inr ⟨_,c3.ext _ _ h'⟩),λr' hr=>k _ iP _ F3 _ q3 ((f1.trans f2).trans f3) (((h1.trans h2).trans h3).trans (af.upd hr)) (c3.pf hr (r.s.cut _ _) (XQ r.pl _ _))⟩
  ·cases nU with
   | str _=>exact .inr ⟨_,rfl,q3.1,k _ iP _ F3 H3 q3.2 ((f1.trans f2).trans f3) ((h1.trans h2).trans h3) (c3.pushS (.str .nil) rfl)⟩
  ·exact q3.elim⟩⟩⟩
end
theorem Be(a:List Nat):(⟨a.toArray⟩:Str).length=a.length:=by show a.toArray.size=_;simp
end L3
namespace L3
open PySem L2 PySem.Spec PyProof.Rows
def ak(l:List Nat):List D:=aJ (l.map λ(n:Nat)=>(n:Int))
theorem eo(l:List Nat):(ak l).length=l.length:=by unfold ak;rw[kS,bA]
theorem cE(l:List Nat):ak l=l.map λ(n:Nat)=>D.int (n:Int):=by unfold ak aJ;rw[cA];rfl
theorem pJ(l:List Nat):(ak l).map D.sh=l.map λ(n:Nat)=>D.int (n:Int):=by unfold ak;rw[kj];exact cE l
theorem iQ(a b:Nat)(h:D.int (a:Int)=D.int (b:Int)):a=b:=by injection h with h;omega
theorem kT(l:List Nat):(ak l).all D.pl=true:=nW _
theorem sE(l:List Nat):(ak l).map D.sh=ak l:=kj _
theorem nY(a b:List Nat):ak a++ak b=ak (a++b):=by unfold ak;rw[sr,fv]
theorem Bf(l:List Nat)(lo hi:Option Int):fO (ak l) lo hi=ak (fO l lo hi):=by
 unfold ak
 rw[vK]
 congr 1
 unfold fO
 rw[bA,Vm,Vl]
theorem Yi{α:Type}(xs:List α)(b:Nat):fO xs none (some (b:Int))=xs.take b:=by
 have:=cz6 xs 0 b
 unfold fO at this ⊢
 simpa[HT.dk]using this
theorem KP{α:Type}(xs:List α)(a:Nat):fO xs (some (a:Int)) none=xs.drop a:=by
 unfold fO
 rw[HT.Jy]
 show(xs.drop (min a xs.length)).take (xs.length-min a xs.length)=_
 by_cases h:a<=xs.length
 ·rw[Nat.min_eq_left h,zi (by rw[lL];exact bK _)]
 ·rw[Nat.min_eq_right (by omega),List.drop_length,Vp (by omega)];simp
end L3
namespace L2
open PySem PySem.Spec PyProof.Rows
section
variable{X:Cx}{tg l o e:Expr}{tl to te:TE}{apos cw:Pos}
end
end L2
namespace L3
open PySem L2 PySem.Spec PyProof.Rows
section
variable{X:Cx}{F H:Hp}{tg l e:Expr}{te t tb:aO}{apos cw pos:Pos}
variable{o:Expr}
theorem KQ:∀{ns:List Int} {ws:List V},S F H (aJ ns) ws->ws=ns.map V.int
 | [],_,s=>by cases s;rfl
 | n::ns,_,s=>by
  cases s with
  | int s=>rw[KQ s];rfl
end
end L3
namespace L3
open PySem L2 PySem.Spec PyProof.Rows
end L3
namespace L2
open PySem PySem.Spec PyProof.Rows
def Tb(ts:List Addr)(H:Hp):Prop:=∀P∈ts,∃ps,H P=some (.dF ps)
structure vR(ts:List Addr)(H:Hp):Prop where
 any:∀b,H b=none\/(∃o xs,H b=some (.bz o (.lst xs)))\/(b∈ts/\H b=some (.dF #[]))
 tab:∀P∈ts,H P=some (.dF #[])
theorem vR.tb{ts:List Addr}{H:Hp}(h:vR ts H):Tb ts H:=λP hP=>⟨#[],h.tab P hP⟩
def Bm(mg:Str->Option Value)(base:Heap):Prop:=∃bm o,mg "__builtins__"=some (.ref bm)/\bm≠builtinsNs/\bm≠mainGlobals/\base.get? bm=some o/\o.cls=.type "module"/\o.dict=some builtinsNs/\o.data=.plain
theorem ca4{P:Program}{w:World}{K:PySem.W.Frag}{mg mb:Str->Option Value}{CX:eW}{k:Nat}{fa a:Addr}{fd:FuncData}{x:Str}{sp:Sp}{bG:Shared}{vs:List Value}{ns:List Int}{ts:List Addr}
  (KX:K.In bG.heap) (Em:bG.heap.Ns mainGlobals mg) (hb:bG.heap.Ns builtinsNs mb) (hbb:∀x:Str,x≠"__name__"->mb x=bootBuiltins x) (eb8:bG.heap.NoLimit) (hg:bG.gens=#[])
  (ht:∀P∈ts,bG.heap.get? P=some (PySem.W.tabObj #[])) (KR:∀P∈ts,isCodeTable bG.heap P) (hkt:∀P∈ts,K.lookup P=none)
  (ha:bG.heap.get? a=some { cls:=.type "list",data:=.seq vs.toArray }) (hi:IntsAre vs ns) (hl:ns.length<=sizeLine) (hr:cj k callerA)
  (Bg:Bm mg bG.heap) (F:∀base:Heap,K.In base->base.Ns mainGlobals mg->Bm mg base->aN P w K mg base CX k fa fd [x] sp) (ec0:∀(s:Shared) (u:Value),BindsTo s fd ⟨[u],[]⟩ [(x,u)])
  (iq:∀H:Hp,vR ts H->bN K H a (ns.map V.int)->sp [.ref a] H (λv _=>v=.bl true) λ_ _ _=>False)
  (KS:∀H e s',CX [] H bG (λ_ _ _=>False) e s'->False) :
  codeAny (model P w) callerA (.call (.ref fa) ⟨[.ref a],[]⟩) (λr s'=>r=.ok (.ret (.bool true))/\OldK bG.heap s'.heap/\s'.os=bG.os/\AllBare s'.gens) bG:=by
 have rv:=Wz hi
 have ec1:=hi.length
 have nat:a ∉ ts:=λz=>by
  have:=ht a z
  rw[ha]at this
  cases this
 have core:∀H:Hp,vR ts H->bN K H a (ns.map V.int)->cO P w H bG.heap->(∀b,H b≠none->b=a\/b∈ts)->(H a≠none->K.lookup a=none) ->
   codeAny (model P w) callerA (.call (.ref fa) ⟨[.ref a],[]⟩) (λr s'=>r=.ok (.ret (.bool true))/\OldK bG.heap s'.heap/\s'.os=bG.os/\AllBare s'.gens) bG:=by
  intro H hO hS aL hA hK
  have KU:∀{b:Addr} {o:Obj},bG.heap.get? b=some o->H b=none->(lV bG.heap H).get? b=some o:=λe n=>cn3 e n
  have zS:∀{b:Addr} {o:Obj} {es:Array DictEntry} {ep:Nat},bG.heap.get? b=some o->o.data=.dict es ep->H b=none:=λ{b o es ep} e d=>by
   cases q:H b with
   | none=>rfl
   | some u =>
    rcases hA b (by rw[q];simp)with e' | e'
    ·subst e'
     rw[ha]at e;cases e
     have d':Data.seq vs.toArray _=Data.dict es ep:=d
     cases d'
    ·rw[ht b e']at e;cases e
     have d':Data.fields #[]=Data.dict es ep:=d
     cases d'
  have Eo:∀{b:Addr} {m:Str->Option Value},bG.heap.Ns b m->(lV bG.heap H).Ns b m:=λ{b m} ⟨o,es,ep,e,d,r⟩=>⟨o,es,ep,KU e (zS e d),d,r⟩
  have Yj:K.In (lV bG.heap H):=λb o e=>KU (KX b o e) (by
   cases q:H b with
   | none=>rfl
   | some u =>
    rcases hA b (by rw[q];simp)with e' | e'
    ·subst e'
     rw[hK (by rw[q];simp)]at e;cases e
    ·rw[hkt b e']at e;cases e)
  have hBm:Bm mg (lV bG.heap H):=by
   obtain⟨bm,o,b1,b2,b3,b4,b5,b6,b7⟩:=Bg
   refine⟨bm,o,b1,b2,b3,KU b4 ?_,b5,b6,b7⟩
   cases q:H bm with
   | none=>rfl
   | some u =>
    rcases hA bm (by rw[q];simp)with e' | e'
    ·rw[e',ha]at b4;cases b4
     have d':Data.seq vs.toArray _=Data.plain:=b7
     cases d'
    ·rw[ht bm e']at b4;cases b4
     have d':Data.fields #[]=Data.plain:=b7
     cases d'
  have hM:Mod K mg (lV bG.heap H):=⟨Yj,Eo Em,⟨mb,Eo hb,hbb⟩,let⟨mc,h1,h2⟩:=eb8;⟨mc,Eo h1,h2⟩⟩
  have e0:jf P w K mg (lV bG.heap H) callerA [] bG H:=⟨rfl,hM,λb o e=>cx9 e,C5 (ca7 _ _),trivial,λb hb=>absurd (show b∈([]:List Addr) from hb) (by simp),aL,.of_eq hg⟩
  refine codeAny_mono ((F _ Yj (Eo Em) hBm).run callerA [] bG H ⟨[.ref a],[]⟩ [.ref a] [.ref a] _ _ hr e0 (ec0 bG (.ref a)) (.cons rfl .nil) (iq H hO hS)) λr s' h=>?_
  cases r with
  | error e=>exact(KS H e s' h).elim
  | ok fl =>
   cases fl with
   | next=>exact fU h
   | brk=>exact fU h
   | cont=>exact fU h
   | ret u =>
    obtain⟨v,H',os,bare,un,Yk,r',q⟩:=h
    have q':v=.bl true:=q
    subst q'
    obtain rfl:u=Iu true:=r'
    have each:∀b o,bG.heap.get? b=some o->asItWas bG.heap s'.heap b o/\∃o',s'.heap.get? b=some o':=λb o e=>by
     cases q:H b with
     | none =>
      have z:=un.keep b o e q (by intro z;exact absurd (show b∈([]:List Addr) from z) (by simp)) (by simp)
      exact⟨.inl z,o,z⟩
     | some u =>
      rcases hO.any b with z | ⟨ob,xs,z⟩ | ⟨jN,z⟩
      ·rw[q]at z;cases z
      ·have z2:=un.jC b ob _ z
       obtain⟨e1,_⟩:=aL b _ z
       obtain⟨e2,_⟩:=Yk b _ z2
       rw[e]at e1;cases e1
       exact⟨.inl e2,_,e2⟩
      ·obtain⟨more,z2⟩:=un.iK b _ z
       have e2:=(Yk b _ z2).1
       rw[ht b jN]at e;cases e
       exact⟨.inr (.inl ⟨KR b jN,rfl,#[],more,rfl,e2⟩),_,e2⟩
    exact⟨rfl,⟨λb o e=>(each b o e).1,λb o e=>(each b o e).2⟩,os,bare⟩
 have tok:∀(H:Hp) (b:Addr),b∈ts->eB P w H bG.heap b (.dF #[]):=λH b hb=>⟨ht b hb,trivial,λpos cv q=>by cases q⟩
 cases hk:K.lookup a with
 | some o =>
  have e:=KX a o hk
  rw[ha]at e
  cases e
  refine core (λb=>if b∈ts then some (.dF #[])else none) ⟨λb=>?_,λb hb=>if_pos hb⟩ (.inr ⟨_,vs.toArray,_,hk,rfl,rfl,rfl,by rw[dO,ec1];exact hl,by simpa using rv⟩) (λb u z=>?_) (λb z=>?_) λz=>absurd (if_neg nat) z
  ·by_cases hb:b∈ts
   ·exact .inr (.inr ⟨hb,if_pos hb⟩)
   ·exact .inl (if_neg hb)
  ·by_cases hb:b∈ts
   ·have z':=(if_pos hb).symm.trans z
    cases z'
    exact tok _ b hb
   ·have z':=(if_neg hb).symm.trans z
    cases z'
  ·by_cases hb:b∈ts
   ·exact .inr hb
   ·exact absurd (if_neg hb) z
 | none =>
  refine core (λb=>if b=a then some (.bz { cls:=.type "list",data:=.seq vs.toArray } (.lst (ns.map V.int)))else if b∈ts then some (.dF #[])else none) ⟨λb=>?_,λb hb=>?_⟩ (.inl (.inr ⟨{ cls:=.type "list",data:=.seq vs.toArray },if_pos rfl⟩)) (λb u z=>?_) (λb z=>?_) λ_=>hk
  ·by_cases hb:b=a
   ·exact .inr (.inl ⟨_,_,if_pos hb⟩)
   ·by_cases jN:b∈ts
    ·exact .inr (.inr ⟨jN,(if_neg hb).trans (if_pos jN)⟩)
    ·exact .inl ((if_neg hb).trans (if_neg jN))
  ·have mw:b≠a:=λz=>nat (z ▸ hb)
   exact(if_neg mw).trans (if_pos hb)
  ·by_cases hb:b=a
   ·have z':=(if_pos hb).symm.trans z
    cases z'
    subst hb
    exact⟨ha,by rw[bA];exact hl,vs,_,rv,ha⟩
   ·by_cases jN:b∈ts
    ·have z':=((if_neg hb).trans (if_pos jN)).symm.trans z
     cases z'
     exact tok _ b jN
    ·have z':=((if_neg hb).trans (if_neg jN)).symm.trans z
     cases z'
  ·by_cases hb:b=a
   ·exact .inl hb
   ·by_cases jN:b∈ts
    ·exact .inr jN
    ·exact absurd ((if_neg hb).trans (if_neg jN)) z
theorem ec3{l:PySem.W.OpenLaw}{n k:Nat}{q:Program}{loose:List Str}{XP:(Str->Option Value)->Heap->Prop}{YP:World->Heap->Prop}{d:DefRec}{K:Params->PySem.W.Frag}{CX:World->eW}{sp:World->Sp}{x:Str}{ts:List Addr}
  (hn:l.most=some n) (uA:n<=sizeLine) (zU:d.params.defaults=[]) (hr:cj k callerA)
  (hY:∀(w:World) (h:Heap),YP w h->(K w.params).In h/\∀P∈ts,h.get? P=some (PySem.W.tabObj #[]))
  (hC:∀(w:World) (h:Heap),(K w.params).In h->∀P∈ts,(K w.params).lookup P=none/\∃c,PySem.W.CodeHd h c P)
  (F:∀(w:World) (mg:Str->Option Value) (fa:Addr) (h:Heap),(K w.params).In h->h.Ns mainGlobals mg->mg d.name=some (.ref fa) ->
   ∃fd:FuncData,(∀(s:Shared) (u:Value),BindsTo s fd ⟨[u],[]⟩ [(x,u)]) /\
    ∀base:Heap,(K w.params).In base->base.Ns mainGlobals mg->Bm mg base->aN l.prog w (K w.params) mg base (CX w) k fa fd [x] (sp w))
  (iq:∀(w:World) (H:Hp) (a:Addr) (ns:List Int),ns.length<=n->vR ts H->bN (K w.params) H a (ns.map V.int)->sp w [.ref a] H (λv _=>v=.bl true) λ_ _ _=>False)
  (KS:∀(w:World) (H:Hp) (s:Shared) (e:Value) (s':Shared),CX w [] H s (λ_ _ _=>False) e s'->False) :
  PySem.W.WalkO q loose XP YP l.row.toRowW d [] (λf vs=>PySem.call f vs):=by
 refine Att.dV4 hn zU λw cP bG mg mb fa o pm cd doc a vs ns G Y ho hd cJ zV JI hints hlen hg=>?_
 obtain⟨KX,hT⟩:=hY w _ Y
 obtain⟨fd,hb,hF⟩:=F w mg fa _ KX G.T.g zV
 have KR:∀P∈ts,isCodeTable bG.heap P:=λP hP=>by
  obtain⟨_,c,C⟩:=hC w _ KX P hP
  exact(C.tab (hT P hP)).isCodeTable
 have Bg:Bm mg bG.heap:=by
  obtain⟨bm,ob,b1,b2,b3,b4,b5,b6⟩:=G.T.bmain
  refine⟨bm,ob,b1,b2,λq=>?_,b3,b4,b5,b6⟩
  obtain⟨o,es,ep,e,hd,_⟩:=G.T.g
  rw[q,e]at b3;cases b3;rw[hd]at b6;cases b6
 exact ca4 KX G.T.g G.T.b G.T.builtins G.T.nolimit hg hT KR (λP hP=>(hC w _ KX P hP).1) JI hints (fu hlen uA) hr Bg hF hb (λH hO hS=>iq w H a ns hlen hO hS) λH e s'=>KS w H bG e s'
end L2
namespace L3
open PySem L2 PySem.Spec PyProof.Rows
def vS(ts:List Addr)(sp:Sp):Sp:=λvs H Q E=>Tb ts H/\sp vs H Q E
theorem KW{X:Cx}{pins:List (Addr × Obj)}{σ:L2.St}{H:Hp}{s:Shared}{ts:List Addr}(I:Inv X pins σ H s)(h:Tb ts X.j4):Tb ts H:=λP hP=>by
 obtain⟨ps,e⟩:=h P hP
 obtain⟨m,e2⟩:=I.base.iK P ps e
 exact⟨_,e2⟩
def Ep(ts:List Addr)(K:PySem.W.Frag):Sp:=λvs H Q _=>∃(a:Addr) (ns:List Int),vs=[.ref a]/\vR ts H/\bN K H a (ns.map V.int)/\ns.length<=63/\∀H',Q (.bl true) H'
theorem cr3{ts:List Addr}{K:PySem.W.Frag}(nl:K.all (λp=>Kw p.2)=true){vs:List V}{H:Hp}{Q:VK}{E:XK}(h:Ep ts K vs H Q E):vS ts (br XR) vs H Q E:=by
 obtain⟨a,ns,rfl,hO,hS,hl,q⟩:=h
 have hz:∃o,H a=some (.bz o (.lst (ns.map V.int))):=by
  rcases hS with (hS | hS) | ⟨o,its,n,hk,hc,_⟩
  ·rcases hO.any a with z | ⟨o,xs,z⟩ | ⟨_,z⟩
   ·rw[hS]at z;cases z
   ·rw[hS]at z;cases z
   ·rw[hS]at z;cases z
  ·exact hS
  ·have hm:=bQ2 hk
   have:=dz.mp nl _ hm
   simp[Kw,hc]at this
 obtain⟨o,ho⟩:=hz
 refine⟨hO.tb,H,[.fz (aJ ns)],λd=>d=.bl true,af.refl _,.fz ho (kR ns) .nil,⟨ns,rfl,hl,rfl⟩,λd v F' H' A hd hs hf he h3 r nd fr=>?_⟩
 subst hd
 cases r
 exact q H'
end L3
namespace L2
open PySem PySem.Spec PyProof.Rows
def rem(H:Hp)(f c:Addr):Hp:=λb=>if b=f\/b=c then none else H b
def nZ(H H':Hp)(f c:Addr):Hp:=λb=>if b=f\/b=c then H b else H' b
section
variable{P:Program}{w:World}{H H':Hp}{h:Heap}{a b f c:Addr}{o:HO}{of oc:Obj}
theorem Yl:rem H f c f=none:=if_pos (.inl rfl)
theorem Er:rem H f c c=none:=if_pos (.inr rfl)
theorem iD(h1:b≠f)(h2:b≠c):rem H f c b=H b:=if_neg (by simp[h1,h2])
theorem vT(e:H b=none):rem H f c b=none:=by unfold rem;split;rfl;exact e
theorem Ym(e:rem H f c b=some o):b≠f/\b≠c/\H b=some o:=by
 unfold rem at e
 split at e
 ·cases e
 ·rename_i n
  exact⟨λz=>n (.inl z),λz=>n (.inr z),e⟩
theorem pK(h1:b≠f)(h2:b≠c):nZ H H' f c b=H' b:=if_neg (by simp[h1,h2])
theorem Yn:nZ H H' f c f=H f:=if_pos (.inl rfl)
theorem KY:nZ H H' f c c=H c:=if_pos (.inr rfl)
theorem eB.rem{φ:Heap->Prop}(x:eB P w H h a o)(ha:a≠f)(hf:H f=some (.ext φ))(hc:H c=some (.own f)\/H c=none)(KZ:¬ ∀h',φ h'->∃q,h'.CodeRec (.ref f) q):eB P w (rem H f c) h a o:=by
 have own:∀b,H b=some (.own a)->L2.rem H f c b=some (.own a):=λb e=>by
  rw[iD (λz=>by subst z;rw[hf]at e;cases e) (λz=>by subst z;rcases hc with hc | hc<;>(rw[hc]at e;cases e);exact ha rfl)];exact e
 have tup:∀b xs,H b=some (.tup xs)->L2.rem H f c b=some (.tup xs):=λb xs e=>by
  rw[iD (λz=>by subst z;rw[hf]at e;cases e) (λz=>by subst z;rcases hc with hc | hc<;>(rw[hc]at e;cases e))];exact e
 induction o with
 | lst xs=>exact x
 | tup xs=>exact x
 | dK dP=>exact x
 | dT dP =>
  obtain⟨z,y,xs,r,ob⟩:=x
  exact⟨z,y,xs,Paired.I0 r λp q z=>⟨z.1,tup _ _ z.2.1,z.2.2⟩,ob⟩
 | set S n=>exact x
 | ins C dx fs =>
  obtain⟨d,r⟩:=x
  exact⟨own _ d,r⟩
 | own y=>exact x
 | xd fs=>exact x
 | zB lo hi=>exact x
 | bz ob u ih=>obtain⟨e,q⟩:=x;exact⟨e,ih q⟩
 | dF ps =>
  obtain⟨e,t,cc⟩:=x
  refine⟨e,t,λpos cv q=>?_⟩
  obtain⟨d,φ,e1,e2,e3⟩:=cc pos cv q
  refine⟨d,φ,e1,?_,e3⟩
  rw[iD (λz=>?_) (λz=>by subst z;rcases hc with hc | hc<;>(rw[hc]at e2;cases e2))]
  ·exact e2
  ·subst z
   rw[hf]at e2;cases e2
   exact KZ e3
 | met f y=>exact x
 | ext φ=>obtain⟨p,r,st⟩:=x;exact⟨p,r,λh1 h2 p1 kk=>st h1 h2 p1 λb o hb q=>kk b o (hb.imp id (own b)) q⟩
theorem Yo{φ:Heap->Prop}{fd:FuncData}(p:φ h)(g:∀h',φ h'->h'.get? f=some of)(hd:of.data=.func fd):¬ ∀h',φ h'->∃q,h'.CodeRec (.ref f) q:=λz=>by
 obtain⟨q,k,ok,vs,t,q1,q2,q3,_⟩:=z h p
 cases q1
 rw[g h p]at q2;cases q2
 rw[hd]at q3;cases q3
theorem cO.lam(ok:cO P w H h)(hf:H f=some (.ext (L3.jG of oc c f))):L3.jG of oc c f h:=(ok f _ hf).1
theorem cO.rem{fd:FuncData}(ok:cO P w H h)(hf:H f=some (.ext (L3.jG of oc c f)))(hc:H c=some (.own f))(hd:of.data=.func fd):cO P w (rem H f c) h:=λb o e =>
 let⟨h1,_,h3⟩:=Ym e;(ok b o h3).rem h1 hf (.inl hc) (Yo (ok.lam hf) (λ_ p=>p.1) hd)
end
theorem jf.rem{P:Program}{w:World}{K:PySem.W.Frag}{mg:Str->Option Value}{base:Heap}{A:Around}{outer:List Env}{s:Shared}{H:Hp}{f c:Addr}{of oc:Obj}{fd:FuncData}(e:jf P w K mg base A outer s H)
  (hf:H f=some (.ext (L3.jG of oc c f))) (hc:H c=some (.own f)) (hd:of.data=.func fd):jf P w K mg base A outer s (rem H f c) :=
 ⟨e.frames,e.mod,λb o q=>⟨(e.bs b o q).1,vT (e.bs b o q).2⟩,e.j5,e.gX,λb hb=>vT (e.j6 b hb),e.aL.rem hf hc hd,e.bare⟩
theorem CE.add{P:Program}{w:World}{K:PySem.W.Frag}{mg:Str->Option Value}{base:Heap}{A:Around}{outer:List Env}{s s':Shared}{H:Hp}{f c:Addr}{of oc:Obj}{Q Q':VK}{u:Value}(e0:jf P w K mg base A outer s H)
  (hf:H f=some (.ext (L3.jG of oc c f))) (hc:H c=some (.own f)) (h:CE outer P w (rem H f c) s Q u s') (hQ:∀v H',Q v H'->H' f=none->H' c=none->Q' v (nZ H H' f c)):CE outer P w H s Q' u s':=by
 obtain⟨v,H',os,bare,un,aL,r,q⟩:=h
 obtain⟨gf,gc⟩:=e0.aL.lam hf
 have Yp:∀{b o},H b=some o->b ∉ eI outer:=λ{b o} e z=>by rw[e0.j6 b z]at e;cases e
 have nf:H' f=none:=un.free f _ gf Yl (by simp)
 have nc:H' c=none:=un.free c _ gc Er (by simp)
 have kf:=un.keep f _ gf Yl (Yp hf) (by simp)
 have kc:=un.keep c _ gc Er (Yp hc) (by simp)
 refine⟨v,nZ H H' f c,os,bare,⟨λb o e n=>un.keep b o e (vT n),λb o e n=>un.slot b o e (vT n),λb o e n x=>?_,un.there,λb xs e=>?_,λb ob xs e=>?_,λb ps e=>?_⟩,λb o e=>?_,r,hQ v H' q nf nc⟩
 ·rw[pK (λz=>by subst z;rw[hf]at n;cases n) (λz=>by subst z;rw[hc]at n;cases n)]
  exact un.free b o e (vT n) x
 ·have n1:b≠f:=λz=>by subst z;rw[hf]at e;cases e
  have n2:b≠c:=λz=>by subst z;rw[hc]at e;cases e
  rw[pK n1 n2]
  exact un.j3 b xs (by rw[iD n1 n2];exact e)
 ·have n1:b≠f:=λz=>by subst z;rw[hf]at e;cases e
  have n2:b≠c:=λz=>by subst z;rw[hc]at e;cases e
  rw[pK n1 n2]
  exact un.jC b ob xs (by rw[iD n1 n2];exact e)
 ·have n1:b≠f:=λz=>by subst z;rw[hf]at e;cases e
  have n2:b≠c:=λz=>by subst z;rw[hc]at e;cases e
  rw[pK n1 n2]
  exact un.iK b ps (by rw[iD n1 n2];exact e)
 ·by_cases z:b=f
  ·subst z
   rw[Yn,hf]at e;cases e
   refine⟨⟨kf,kc⟩,⟨_,kf⟩,λh1 h2 p kk=>⟨kk b _ (.inl rfl) p.1,kk c _ (.inr ?_) p.2⟩⟩
   rw[KY];exact hc
  ·by_cases z2:b=c
   ·subst z2
    rw[KY,hc]at e;cases e
    exact⟨_,kc⟩
   ·rw[pK z z2]at e
    have up:∀{b' o'},H' b'=some o'->nZ H H' f c b'=some o':=λ{b' o'} q=>by
     rw[pK (λz=>by subst z;rw[nf]at q;cases q) (λz=>by subst z;rw[nc]at q;cases q)];exact q
    exact(aL b o e).kE (λ_ _ _ q=>q) (λ_ q=>up q) (λ_ _ q=>up q) λ_ _ q=>up q
theorem cr5{prog:Program}{w:World}{A:Around}{R:Result->Shared->Prop}{s:Shared}{a:Addr}{args:Args}{o:Obj}{fd:FuncData}{body:Expr}{q:Str}(ec6:A.depth<recursionLimit)
  (ho:s.heap.get? a=some o)
  (zE:o.data=.func fd) (hco:fd.scope.isCoroutine=false) (ec8:fd.scope.isGenerator=false) (g8:fd.body=.expr body) (cJ:s.heap.CodeRec fd.code q)
  (h:wpAny (model prog w) A.in1 (bindArgs fd args) (λbinds bG =>
   wpAny (model prog w) A.in1 (newFunctionEnv fd.scope fd.globals fd.closure binds (q++".<locals>.") (some a) fd.code none fd.builtins)
    (λenv kG=>kG.heap.NoLimit/\codeAny (model prog w) A (.expr body env) R kG) (λe s'=>R (.error e) s') bG) (λe s'=>R (.error e) s') s) :
  codeAny (model prog w) A (.call (.ref a) args) R s:=by
 refine codeAny_of_tree ?_
 show wpAny _ A.in1 (callAny (.ref a) args) _ _ s
 simp only[callAny]
 refine wpAny_bind (wpAny_load ho ?_)
 obtain⟨c,oc,vs,tq,hc,i9,K0,hq⟩:=cJ
 simp only[zE,callFunction,hco,ec8,g8,hc]
 rw[hc]at h
 refine wpAny_bind (m:=field (.ref c) 1) (wpAny_field i9 K0 hq (wpAny_bind (wpAny_pure ?_)))
 exact wpAny_bind (wpAny_mono h (λbinds bG Es=>wpAny_bind (wpAny_mono Es (λenv kG Yq=>wpAny_bind (wpAny_enterFrame Yq.1 ec6
  (wpAny_pure (And.intro rfl Yq.2)))) λ_ _ h'=>h')) λ_ _ h'=>h')
structure Yr(p1 p2 x:Str)(sc:Scope):Prop where
 kind:sc.kind=.function
 co:sc.isCoroutine=false
 gen:sc.isGenerator=false
 nd:[p1,p2,x].Nodup
 l1:sc.names.lookup p1=some .local
 l2:sc.names.lookup p2=some .local
 Ys:∀y∈sc.names,y.2≠.cell
 only:∀y∈sc.names,y.2=.free->y.1=x
 lx:sc.names.lookup x=some .free
def sF(CX:eW)(P:Program)(w:World)(K:PySem.W.Frag)(mg:Str->Option Value)(base:Heap)(N:List Str)(qual:Str)(scope:Scope)(f:Addr)(cd:Value)(cl:List (Str × Addr))(A:Around)(outer:List Env)(s:Shared)(H:Hp)(E:XK):Cx where
 prog:=P
 w:=w
 K:=K
 mg:=mg
 base:=base
 A:=A.deeper (PySem.W.envX qual scope s.heap.objs.size f cd cl)
 N:=N
 cP:=s
 j4:=H
 env:=PySem.W.envX qual scope s.heap.objs.size f cd cl
 outer:=outer
 stack:=PySem.W.envX qual scope s.heap.objs.size f cd cl::outer
 ex:=[]
 calm:=true
 fn:=λ_=>false
 pn:=[]
 xe:=λe s'=>wpAny (model P w) (A.deeper (PySem.W.envX qual scope s.heap.objs.size f cd cl)) (leaving (PySem.W.envX qual scope s.heap.objs.size f cd cl) e) (λ_ qY=>CX outer H s E e qY) (λe' qY=>CX outer H s E e' qY) s'
theorem cB2{CX:eW}{P:Program}{w:World}{K:PySem.W.Frag}{mg:Str->Option Value}{base:Heap}{p1 p2 x qn q:Str}{params:Arguments}{body:Expr}{scope:Scope}{pm js:Value}{f c c':Addr}{k:Nat}{A:Around}{outer:List Env}{s:Shared}{H:Hp}{E:XK}
  {u1 u2 uc:Value} {v1 v2 vc:V} {Q:VK} {t:TE} {args:Args} (S:Yr p1 p2 x scope) (e0:jf P w K mg base A outer s H) (hr:cj (k+1) A)
  (hf:s.heap.get? f=some (PySem.W.kla_obj "<lambda>" qn params body scope [(x,c)] pm c' js)) (hc:s.heap.IsCell c (some uc)) (rc:RelV vc uc) (hH:H c=none) (cJ:s.heap.CodeRec (.ref c') q)
  (hb:bindArgs (PySem.W.kla_fn "<lambda>" qn params body scope [(x,c)] pm (.ref c') js) args=pure [(p1,u1),(p2,u2)]) (r1:RelV v1 u1) (r2:RelV v2 u2)
  (ht:PE (sF CX P w K mg base [p1,p2,x] q scope f (.ref c') [(x,c)] A outer s H E) body t) (h:t [some v1,some v2,some vc] H Q) :
  codeAny (model P w) A (.call (.ref f) args) (CR CX outer P w H s Q E) s:=by
 have lim:s.heap.NoLimit:=e0.mod.nolimit.keeps λb o e=>(e0.bs b o e).1
 refine cr5 hr.depth hf rfl S.co S.gen rfl cJ ?_
 rw[hb]
 have ed0:∀y∈[(p1,u1),(p2,u2)],scope.names.lookup y.1=some .local:=λy hy=>by
  simp at hy
  rcases hy with rfl | rfl
  ·exact S.l1
  ·exact S.l2
 refine wpAny_pure (wpAny_newFunctionEnv S.Ys ed0 (λEs Em Yt=>⟨lim.fresh _ Yt,?_⟩) S.kind)
 show codeAny _ _ (.expr body (PySem.W.envX q scope s.heap.objs.size f (.ref c') [(x,c)])) _ _
 have hk:∀b o,s.heap.get? b=some o->Es.get? b=some o:=λb o e=>Yt.extBut b o (fj (bS e)) (fI _ e)
 have cC:p1≠p2/\p1≠x/\p2≠x:=by have:=S.nd;simp at this;exact⟨this.1.1,this.1.2,this.2⟩
 have look:∀y d,([(x,c)]:List (Str × Addr)).lookup y=some d->y=x/\d=c:=λy d e=>by
  rw[fX]at e
  split at e
  ·rename_i z;exact⟨beq_iff_eq.mp z,(cV e).symm⟩
  ·cases e
 have I:Inv (sF CX P w K mg base [p1,p2,x] q scope f (.ref c') [(x,c)] A outer s H E) [] [some v1,some v2,some vc] H { s with heap:=Es,toks:=s.toks+[(p1,u1),(p2,u2)].length }:=by
  refine⟨⟨e0.mod,S.kind,rfl,rfl,bK _,λy z d h1 h2=>?_,λy hy=>?_,λy d z _=>absurd z (by simp[sF]),λ_=>hr.hd,Around.frames_deeper e0.frames,.inr ⟨rfl,rfl⟩,λb z=>absurd z (by simp[sF]),e0.bs,e0.j5,λb _ _=>by simp[sF],λb z=>absurd z (by simp[sF]),e0.gX,e0.j6⟩,
   rfl,e0.bare,Un.kept hk,⟨_,Em,λi y v h1 h2 h3=>?_⟩,λy d h=>?_,e0.aL.fresh (bK _),λy d h=>?_,λp hp=>absurd (show p∈([]:List (Addr × Obj)) from hp) (by simp),e0.aL.kept hk,rfl⟩
  ·exact(look y d h1).1.trans (look z d h2).1.symm
  ·have hy:scope.names.lookup y=some .cell\/scope.names.lookup y=some .free:=hy
   rcases hy with hy | hy
   ·exact absurd rfl (S.Ys _ (PySem.mem_of_lookup hy))
   ·obtain rfl:y=x:=S.only _ (PySem.mem_of_lookup hy) rfl
    exact⟨c,by show([(y,c)]:List (Str × Addr)).lookup y=_;rw[fX,beq_self_eq_true]⟩
  ·match i,h1,h2 with
   | 0,h1,h2 =>
    cases h1;cases h2
    exact⟨u1,r1,.inl ⟨S.l1,by
     show([(p1,u1),(p2,u2)]:List (Str × Value)).reverse.lookup p1=_
     simp[fX,beq_eq_false_iff_ne.mpr cC.1]⟩⟩
   | 1,h1,h2 =>
    cases h1;cases h2
    exact⟨u2,r2,.inl ⟨S.l2,by
     show([(p1,u1),(p2,u2)]:List (Str × Value)).reverse.lookup p2=_
     simp[fX]⟩⟩
   | 2,h1,h2 =>
    cases h1;cases h2
    exact⟨uc,rc,.inr ⟨.inr S.lx,c,by show([(x,c)]:List (Str × Addr)).lookup x=_;rw[fX,beq_self_eq_true],hc.keeps hk⟩⟩
   | n+3,h1,h2=>cases h2
  ·obtain⟨rfl,rfl⟩:=look y d h
   exact⟨_,hc.keeps hk⟩
  ·obtain⟨rfl,rfl⟩:=look y d h
   exact hH
 refine PySem.W.kla_codeExpr (wpAny_mono (ht [] _ _ H _ I h) (λu s' hs=>?_) λe s' hs=>hs)
 obtain⟨v,H',J,rv,q⟩:=hs
 exact⟨v,H',J.os,J.bare,J.base,J.aL,rv,q⟩
end L2
namespace L3
open PySem L2 PySem.Spec PyProof.Rows
theorem af.nZ{H H':Hp}{f c:Addr}{o1 o2:HO}(h:af (rem H f c) H')(h1:H f=some o1)(n1:jl o1=true)(h2:H c=some o2)(n2:jl o2=true):af H (nZ H H' f c) where
 get b o e n:=by
  by_cases z:b=f
  ·rw[z,Yn,<- z];exact e
  ·by_cases z2:b=c
   ·rw[z2,KY,<- z2];exact e
   ·rw[pK z z2];exact h.get b o (by rw[iD z z2];exact e) n
 tb b ps e:=by
  have z:b≠f:=λz=>by subst z;rw[h1]at e;cases e;cases n1
  have z2:b≠c:=λz=>by subst z;rw[h2]at e;cases e;cases n2
  rw[pK z z2]
  exact h.tb b ps (by rw[iD z z2];exact e)
abbrev vU:=Int->Int->(Int->Prop)->Prop
structure Bh(P:Program)(w:World)(K:PySem.W.Frag)(mg:Str->Option Value)(base:Heap)(n:Nat)(of oc:Obj)(c k:Addr)(sp:vU):Prop where
 fn:∃o1 od fd sl,of=⟨o1,od,.func fd,sl⟩
 run:∀(A:Around) (outer:List Env) (s:Shared) (H:Hp) (f:Addr) (t u:Tok) (i j:Int) (Qd:Int->Prop),cj n A->jf P w K mg base A outer s H->s.heap.get? f=some of->s.heap.get? c=some oc->H c=none->(∃q,s.heap.CodeRec (.ref k) q)->sp i j Qd ->
  codeAny (model P w) A (.call (.ref f) ⟨[.int i t,.int j u],[]⟩) (CR aR outer P w H s (λv H'=>∃r,v=.int r/\Qd r/\af H H') (λ_ _ _=>False)) s
def vV(L:Obj->Obj->Addr->Addr->vU->Prop)(i:Nat)(ta:cK):aO:=λδ Q=>∃of oc c k sp,δ[i]?=some (some (.bI (.lam of oc c k)))/\L of oc c k sp/\ta δ λds ah=>∃a b,ds=[.int a,.int b]/\sp a b λr=>Q (.int r) ah
theorem Yu{X:Cx}{n i:Nat}{x:Str}{p pos:Pos}{e1 e2:Expr}{ta:cK}(hN:X.N[i]?=some x)(hv:lW X.env.scope x)(hr:cj n X.A)(ha:PA X [e1,e2] (lA ta))
  (hd:(x==("__debug__":Str))=false:=by decide) (cJ:(x==("__classdict__":Str))=false:=by decide) (he:starEach [e1,e2] X.env=(false,eval e1 X.env)::starEach [e2] X.env:=by rfl) (bQ:(backTo pos (starEach [e2] X.env)).any (·.1)=false:=by rfl) :
  PE X (.Call (.Name x p) [e1,e2] [] pos) (lE (vV (Bh X.prog X.w X.K X.mg X.base n) i ta)):=by
 intro pins s σ H Q I zz
 obtain⟨B,F,δ,ts,Qd,c,⟨of,oc,cc,k,sp,ed,L,q⟩,kk⟩:=zz
 obtain⟨v,ev,sv⟩:=c.look ed
 obtain⟨f,rfl,lam⟩:∃f,v=.ref f/\kb H f of oc cc k:=by
  cases sv with
  | bI h _=>exact⟨_,rfl,h⟩
 refine wpAny_Call_Name_kw (aS (qM hN hv hd cJ pins s σ H (λv' H'=>v'=.ref f/\H'=H) I ⟨_,ev,rfl,rfl⟩) λu s1 zz=>?_)
 obtain⟨v',H',I1,r1,e1,e2⟩:=zz
 subst e1 e2
 obtain rfl:u=.ref f:=r1
 have fnAt:∀{H1:Hp} {s2:Shared},Inv X pins σ H1 s2->kb H1 f of oc cc k->PySem.W.FnAt f s2.heap:=λ{H1 s2} J l=>by
  obtain⟨o1,od,fd,sl,e⟩:=L.fn
  exact⟨o1,od,fd,sl,by rw[<-e];exact(J.aL.lam l.fn).1⟩
 refine PySem.W.callWith_F (fnAt I1 lam) (aS (ha pos pins s1 σ H' (λvs H2=>∃a b ah F',vs=[.int a,.int b]/\(sp a b λr=>Qd (.int r) ah)/\af F F'/\af H' H2/\aq B F' H2 σ ah ts) I1
  ⟨B,F,δ,ts,_,c,q,λds ah vs F' H2 ⟨a,b,eds,q2⟩ f1 h1 c1 s1=>?_⟩) λus s2 ⟨vs,H2,I2,r2,a,b,ah,F',evs,q2,f1,h1,c1⟩=>⟨fnAt I2 ((show rm H' f (.lam of oc cc k) from lam).mono λa o e _ t=>h1.get a o e t),?_⟩) he bQ
 ·subst eds
  refine⟨a,b,ah,F',?_,q2,f1,h1,c1⟩
  cases s1 with
  | int s1=>cases s1 with
   | int s1=>cases s1;rfl
 ·subst evs
  have pL:kb H2 f of oc cc k:=(show rm H' f (.lam of oc cc k) from lam).mono λa o e _ t=>h1.get a o e t
  obtain⟨o1,od,fd,sl,eof⟩:=L.fn
  have ed3:of.data=.func fd:=by rw[eof]
  obtain⟨gf,gc⟩:=I2.aL.lam pL.fn
  obtain⟨ψ,eψ,Bi⟩:=pL.J3
  obtain⟨u1,u2,t1,t2,rfl⟩:∃(u1 u2:Unit) (t1 t2:Tok),us=[.int a t1,.int b t2]:=by
   cases r2 with
   | cons ra r2=>cases r2 with
    | cons rb r2 =>
     cases r2
     obtain⟨t1,rfl⟩:=ra
     obtain⟨t2,rfl⟩:=rb
     exact⟨(),(),t1,t2,rfl⟩
  refine wpAny_call (codeAny_mono (L.run X.A X.stack s2 (rem H2 f cc) f t1 t2 a b _ hr (I2.zR.rem pL.fn pL.cell ed3) gf gc Er (Bi _ (I2.aL k _ eψ).1) q2) λr s' hq=>?_)
  cases r with
  | error e=>exact hq.elim
  | ok fl =>
   cases fl with
   | ret u =>
    refine I2.after (CE.add I2.zR pL.fn pL.cell hq (Q':=Q) ?_)
    rintro v H3 ⟨r,rfl,hqd,hs⟩ nf nc
    have sm:=hs.nZ pL.fn rfl pL.cell rfl
    exact kk _ ah _ F' _ hqd f1 (h1.trans sm) ((c1.grow sm).pushS (.int .nil) rfl)
   | next=>exact fU hq
   | brk=>exact fU hq
   | cont=>exact fU hq
end L3
namespace L2
open PySem PySem.Spec PyProof.Rows
theorem bO4{p:Pos}{c:Value}(l:List Value)(h:TriplesOk l):TriplesOk (l++[rawInt p.line,rawInt p.col,c]):=by
 fun_induction TriplesOk l with
 | case1=>simp[TriplesOk,rawInt]
 | case2 a b d e f rest ih=>exact ih h
 | case3=>exact h.elim
theorem b05{p q:Pos}{c cv:Value}(l:List Value)(h:TriplesOk l)(e:codeAmong q (l++[rawInt p.line,rawInt p.col,c])=some cv):codeAmong q l=some cv\/cv=c:=by
 fun_induction TriplesOk l with
 | case1 =>
  simp only[ub,rawInt,codeAmong]at e
  split at e
  ·exact .inr (cV e).symm
  ·cases e
 | case2 a b d e' f rest ih =>
  simp only[nk,codeAmong]at e ⊢
  split at e
  ·rename_i z;rw[if_pos z];exact .inl e
  ·rename_i z;rw[if_neg z];exact ih h e
 | case3=>exact h.elim
def n6(f:Addr)(o:Obj):Heap->Prop:=λh=>h.get? f=some o
def c03(P c:Addr)(x:Str)(params:Arguments)(body:Expr)(scope:Scope):TE:=λ_ H Q=>(∃ps,H P=some (.dF ps)) /\
 ∀f k qn pm js H',H f=none->H' f=some (.ext (n6 f (PySem.W.kla_obj "<lambda>" qn params body scope [(x,c)] pm k js)))->L3.J2 H' k->k≠f->L3.af H H'->(∀a ws,H' a=some (.lst ws)->H a=some (.lst ws))->Q (.ref f) H'
theorem Yv{X:Cx}{P c cc:Addr}{x:Str}{params:Arguments}{body:Expr}{scope:Scope}{pos:Pos}(gF:closureFor scope X.env=pure [(x,c)])(Et:X.env.code=.ref cc)(hK:PySem.W.codeHdIn X.K cc P=true)(Bg:Bm X.mg X.base)
  (ed9:defaultsOf params X.env=([],[]):=by rfl):PE X (.Lambda params body scope pos) (c03 P c x params body scope):=by
 intro pins s σ H Q I zz
 obtain⟨⟨ps,hP⟩,q⟩:=zz
 obtain⟨bm,ob,b1,b2,b3,b4,b5,b6,b7⟩:=Bg
 have C:=PySem.W.codeHd_of_K I.di hK
 obtain⟨oP,Eu,codes⟩:=I.aL P _ hP
 have hg:=I.mod.glob.keeps I.bk
 have Yw:∀{b o},X.base.get? b=some o->b≠P:=λ{b o} e z=>by
  have:=(I.bs b o e).2
  rw[z,hP]at this;cases this
 have hgP:mainGlobals≠P:=by
  obtain⟨o,es,ep,e,_⟩:=I.mod.glob
  exact Yw e
 have Yx:s.heap.BuiltinsAt X.mg P:=⟨bm,ob,b1,b2,b3,Yw b4,I.bk _ _ b4,b5,b6,b7⟩
 refine PySem.W.kla_eval ed9 ?_
 have fresh:∀{b:Addr},s.heap.objs.size<=b->H b=none:=λ{b} h=>I.aL.fresh h
 cases K1:codeAmong pos ps.toList with
 | none =>
  refine PySem.W.kla_makeFunction (mg:=X.mg) gF I.ok.glob hg Et C oP Eu K1 hgP Yx λk js h' tk hx Bj fK ee1 Yy=>?_
  have K2:P<s.heap.objs.size:=bS oP
  have hPk:k≠P:=λz=>by rw[z]at Bj;exact absurd K2 (zk.mpr Bj)
  have sG:s.heap.objs.size<=h'.objs.size:=fu Bj (CY fK)
  have hPf:h'.objs.size≠P:=λz=>by rw[<-z]at K2;exact absurd K2 (zk.mpr sG)
  have Yz:k≠h'.objs.size:=fj fK
  generalize YA:PySem.W.kla_obj "<lambda>" (X.env.qual++"<lambda>") params body scope [(x,c)] ((X.mg "__name__").getD .none) k js=obj
  have eK:obj.isFreed=false:=by rw[<-YA];rfl
  have Bk:∀b,b≠P->b≠k->b≠h'.objs.size->upd (upd (upd H P (.dF (ps++#[rawInt pos.line,rawInt pos.col,.ref k]))) k (.ext λh=>∃q,h.CodeRec (.ref k) q)) h'.objs.size (.ext (n6 h'.objs.size obj)) b=H b:=λb n1 n2 n3=>by
   rw[bf n3,bf n2,bf n1]
  have Ew:upd (upd (upd H P (.dF (ps++#[rawInt pos.line,rawInt pos.col,.ref k]))) k (.ext λh=>∃q,h.CodeRec (.ref k) q)) h'.objs.size (.ext (n6 h'.objs.size obj)) h'.objs.size=some (.ext (n6 h'.objs.size obj)):=bM
  have atK:upd (upd (upd H P (.dF (ps++#[rawInt pos.line,rawInt pos.col,.ref k]))) k (.ext λh=>∃q,h.CodeRec (.ref k) q)) h'.objs.size (.ext (n6 h'.objs.size obj)) k=some (.ext λh=>∃q,h.CodeRec (.ref k) q):=by rw[bf Yz,bM]
  have Ey:upd (upd (upd H P (.dF (ps++#[rawInt pos.line,rawInt pos.col,.ref k]))) k (.ext λh=>∃q,h.CodeRec (.ref k) q)) h'.objs.size (.ext (n6 h'.objs.size obj)) P=some (.dF (ps++#[rawInt pos.line,rawInt pos.col,.ref k])):=by rw[bf hPf.symm,bf hPk.symm,bM]
  generalize hHn:upd (upd (upd H P (.dF (ps++#[rawInt pos.line,rawInt pos.col,.ref k]))) k (.ext λh=>∃q,h.CodeRec (.ref k) q)) h'.objs.size (.ext (n6 h'.objs.size obj))=Hn at Bk Ew atK Ey
  have old:∀{b o},H b=some o->b≠P->Hn b=some o:=λ{b o} e n=>by
   have hb:b<s.heap.objs.size:=I.aL.lt e
   rw[Bk b n (λz=>absurd hb (zk.mpr (z ▸ Bj))) (λz=>absurd hb (zk.mpr (z ▸ sG)))];exact e
  have kept:∀b o,b≠P->s.heap.get? b=some o->(h'.push obj).get? b=some o:=λb o n e=>fI _ (hx b o n e)
  have un:Un X.fs [] H Hn s.heap (h'.push obj):=by
   refine⟨λb o e n _ _=>kept b o (λz=>by rw[z,hP]at n;cases n) e,λb o e n _ _=>⟨o.slots,kept b o (λz=>by rw[z,hP]at n;cases n) e⟩,λb o e n _=>?_,λb o e _=>?_,λb xs e=>old e (λz=>by rw[z,hP]at e;cases e),λb ob xs e=>old e (λz=>by rw[z,hP]at e;cases e),λb YB e=>?_⟩
   ·have hb:=bS e
    rw[Bk b (λz=>by rw[z,hP]at n;cases n) (λz=>absurd hb (zk.mpr (z ▸ Bj))) (λz=>absurd hb (zk.mpr (z ▸ sG)))];exact n
   ·by_cases z:b=P
    ·rw[z];exact⟨_,fI _ Yy⟩
    ·exact⟨o,kept b o z e⟩
   ·by_cases z:b=P
    ·subst z
     rw[hP]at e;cases e
     exact⟨_,Ey⟩
    ·exact⟨#[],by rw[old e z];simp⟩
  have aL:cO X.prog X.w Hn (h'.push obj):=λb o e=>by
   by_cases z1:b=h'.objs.size
   ·subst z1
    rw[Ew]at e;cases e
    exact⟨gJ _ eK,⟨_,gJ _ eK⟩,λh1 h2 p kk=>kk _ _ (.inl rfl) p⟩
   ·by_cases z2:b=k
    ·subst z2
     rw[atK]at e;cases e
     have hr:=ee1.push obj
     refine⟨⟨_,hr⟩,?_,λh1 h2 ⟨q,c1,o1,vs,t,e1,e2,r⟩ kk=>?_⟩
     ·obtain⟨c1,o1,vs,t,e1,e2,_⟩:=hr
      cases e1
      exact⟨o1,e2⟩
     ·cases e1
      exact⟨q,_,o1,vs,t,rfl,kk _ _ (.inl rfl) e2,r⟩
    ·by_cases z3:b=P
     ·subst z3
      rw[Ey]at e;cases e
      refine⟨fI _ Yy,by rw[dE0];exact bO4 _ Eu,λp' cv e'=>?_⟩
      rw[dE0]at e'
      rcases b05 _ Eu e' with e' | e'
      ·obtain⟨d,φ,e1,e2,e3⟩:=codes p' cv e'
       exact⟨d,φ,e1,old e2 (λz=>by rw[z,hP]at e2;cases e2),e3⟩
      ·exact⟨k,_,e',atK,λh' p=>p⟩
     ·rw[Bk b z3 z2 z1]at e
      have nP:∀{b' o'},H b'=some o'->(∀ps,o'≠.dF ps)->b'≠P:=λ{b' o'} e n z=>by rw[z,hP]at e;cases e;exact n _ rfl
      refine(I.aL b o e).kE (λb' u Bl e'=>kept b' u ?_ e') (λb' e'=>old e' (nP e' (λps z=>by cases z))) (λb' xs e'=>old e' (nP e' (λps z=>by cases z))) λb' φ e'=>old e' (nP e' (λps z=>by cases z))
      rcases Bl with rfl | Bl
      ·exact z3
      ·exact nP Bl (λps z=>by cases z)
  refine⟨.ref h'.objs.size,Hn,I.un un aL,rfl,q _ k _ _ _ _ (fresh sG) (by rw[YA];exact Ew) ⟨_,atK,λh p=>p⟩ Yz ⟨λb o e n=>old e (λz=>by rw[z,hP]at e;cases e;cases n),λb YB e=>?_⟩ λa ws e=>?_⟩
  ·exact un.iK b YB e
  ·by_cases z1:a=h'.objs.size
   ·subst z1;rw[Ew]at e;cases e
   ·by_cases z2:a=k
    ·subst z2;rw[atK]at e;cases e
    ·by_cases z3:a=P
     ·subst z3;rw[Ey]at e;cases e
     ·rw[Bk a z3 z2 z1]at e;exact e
 | some cv =>
  obtain⟨k,φ,rfl,hk,KZ⟩:=codes pos cv K1
  refine PySem.W.kla_makeFunctionHit (mg:=X.mg) gF I.ok.glob hg Et C oP Eu K1 Yx λjs h' tk hx sG=>?_
  have hf:=fresh sG
  refine⟨.ref h'.objs.size,upd H h'.objs.size (.ext (n6 h'.objs.size (PySem.W.kla_obj "<lambda>" (X.env.qual++"<lambda>") params body scope [(x,c)] ((X.mg "__name__").getD .none) k js))),I.laid (λb u e=>fI _ (hx b u e)) sG ?_,rfl,q _ k (X.env.qual++"<lambda>") ((X.mg "__name__").getD .none) js _ hf bM ⟨φ,?_,KZ⟩ (eU hk hf) (L3.af.of λb o e=>?_) λa ws e=>?_⟩
  ·exact⟨gJ _ rfl,⟨_,gJ _ rfl⟩,λh1 h2 p kk=>kk _ _ (.inl rfl) p⟩
  ·rw[bf (eU hk hf)];exact hk
  ·rw[bf (eU e hf)];exact e
  ·by_cases z:a=h'.objs.size
   ·subst z;rw[bM]at e;cases e
   ·rw[bf z]at e;exact e
end L2
namespace L2
open PySem PySem.Spec PyProof.Rows
structure vW(K:PySem.W.Frag)(C:Addr)(m:Str)(f:Addr):Prop where
 ga:PySem.W.specialIn K (.ref C) "__getattribute__"=some (some (.builtin "type.__getattribute__"))
 rd:PySem.W.readsIn K C (.type "type")=true
 at_:PySem.W.findCls K (.ref C) (.type "type") m=some (.val (.ref f))
 kp:PySem.W.keepIn K (.ref f)=true
section
variable{X:Cx}{CX:eW}{k:Nat}{f C:Addr}{fd:FuncData}{ps:List Str}{sp:Sp}{E:XK}{x m:Str}{p pos apos:Pos}{e o:Expr}{es:List Expr}{ta:TE}{t:TA}
theorem cp0{pins:List (Addr × Obj)}{σ:St}{H:Hp}{s:Shared}{pl:Sem Bool}{A:Around}{E':Value->Shared->Prop}{Q:Value × List Value->Shared->Prop}(I:Inv X pins σ H s)(M:vW X.K C m f)(h:∀s',Inv X pins σ H s'->Q (.ref f,[]) s') :
  wpAny (model X.prog X.w) A (getMethod (.ref C) m pl) Q E' s :=
 PySem.W.method_cls I.di M.ga (PySem.W.cls_value (mc:=.type "type") I.di M.rd M.at_ rfl (h _ (I.tok _)))
theorem YC{pins:List (Addr × Obj)}{σ:St}{H:Hp}{s:Shared}{pl:Sem Bool}{Q:Value->Shared->Prop}{QA:List V->Hp->Prop}(I:Inv X pins σ H s)(M:vW X.K C m f)(hg:Gl X x)(hm:X.mg x=some (.ref C))(ha:PA X (e::es) t)(h:t σ H QA)
  (hq:∀us s1 vs H1,Inv X pins σ H1 s1->Vals vs us->QA vs H1->wpAny (model X.prog X.w) X.A (call (.ref f) us) Q X.xe s1)
  (eC:(x==("__debug__":Str))=false:=by decide) (dj:starEach (e::es) X.env=(false,eval e X.env)::starEach es X.env:=by rfl) (bQ:(backTo pos (starEach es X.env)).any (·.1)=false:=by rfl)
  (ht:eval (.Call (.Attribute (.Name x p) m apos) (e::es) [] pos) X.env=(do
   let ov<-eval (.Name x p) X.env
   standAt apos.atName
   let (f,first)<-holding [ov] (getMethod ov m pl)
   callWith pos f first (backTo pos (starEach (e::es) X.env)) (backToKw pos (keywordEach [] X.env))):=by rfl) :
  wpAny (model X.prog X.w) X.A (eval (.Call (.Attribute (.Name x p) m apos) (e::es) [] pos) X.env) Q X.xe s:=by
 refine PySem.W.methodCall_KW (pl:=pl) (zI I hg hm ?_ eC) ht
 refine cp0 I M λs1 I1=>?_
 refine PySem.W.callWith_K (first:=[]) (h₀:=X.base) I.ok.mod.nu M.kp (aS (ha pos pins s1 σ H _ I1 h) λus s2 ⟨vs,H2,I2,r,q2⟩=>⟨I2.di,?_⟩) dj bQ
 exact hq us s2 vs H2 I2 r q2
def cW8(sp:Sp)(E:XK)(c:Addr)(i:Nat)(t:TA):TE:=λσ H Q=>t σ H λvs H1=>∃f of fd v,H1 f=some (.ext (n6 f of))/\of.data=.func fd/\σ[i]?=some (some v) /\
 ∀oc u,oc.data=.cell (some u)->RelV v u->H1 c=none->c≠f->sp vs (upd (upd H1 f (.ext (L3.jG of oc c f))) c (.own f)) (λr H2=>H2 f=some (.ext (L3.jG of oc c f))/\H2 c=some (.own f)/\Q r (rem H2 f c)) E
theorem YD{pl:Sem Bool}{y:Str}{c:Addr}{i:Nat}(M:vW X.K C m f)(F:aN X.prog X.w X.K X.mg X.base aR k f fd ps sp)(hr:cj k X.A)(hb:Binds X.K fd ps [])(hg:Gl X x)(hm:X.mg x=some (.ref C))
  (hN:X.N[i]?=some y) (hy:X.env.scope.names.lookup y=some .cell) (gF:X.env.cells.lookup y=some c) (zG:X.fn y=true) (ha:PA X (e::es) t)
  (eC:(x==("__debug__":Str))=false:=by decide) (dj:starEach (e::es) X.env=(false,eval e X.env)::starEach es X.env:=by rfl) (bQ:(backTo pos (starEach es X.env)).any (·.1)=false:=by rfl)
  (ht:eval (.Call (.Attribute (.Name x p) m apos) (e::es) [] pos) X.env=(do
   let ov<-eval (.Name x p) X.env
   standAt apos.atName
   let (f,first)<-holding [ov] (getMethod ov m pl)
   callWith pos f first (backTo pos (starEach (e::es) X.env)) (backToKw pos (keywordEach [] X.env))):=by rfl) :
  PE X (.Call (.Attribute (.Name x p) m apos) (e::es) [] pos) (cW8 sp E c i t):=by
 intro pins s σ H Q I h
 refine YC (pl:=pl) I M hg hm ha h (λus s1 vs H1 I1 r ⟨fa,of,fdd,v,hf,hd,hv,hq⟩=>?_) eC dj bQ ht
 obtain⟨ml,_,hl⟩:=I1.loc
 obtain⟨u,rv,lk⟩:=hl i y v hN hv (.inr (.inl hy))
 obtain⟨oc,gc,i9⟩:∃oc,s1.heap.get? c=some oc/\oc.data=.cell (some u):=by
  rcases lk with⟨hk,_⟩ | ⟨_,c',zH,ic⟩
  ·rw[show X.env.kindOf y=some .cell from hy]at hk;cases hk
  ·rw[gF]at zH;cases zH;exact ic
 have nc:H1 c=none:=I1.jD y c gF
 have pM:c≠fa:=λz=>by rw[z,hf]at nc;cases nc
 have gf:s1.heap.get? fa=some of:=(I1.aL fa _ hf).1
 have nz:=hq oc u i9 rv nc pM
 have YE:=I1.ok.qL y c zG gF
 generalize hH:upd (upd H1 fa (.ext (L3.jG of oc c fa))) c (.own fa)=Hp at nz
 have YF:Hp c=some (.own fa):=by rw[<-hH,bM]
 have atf:Hp fa=some (.ext (L3.jG of oc c fa)):=by rw[<-hH,bf pM.symm,bM]
 have mK:∀b,b≠fa->b≠c->Hp b=H1 b:=λb n1 n2=>by rw[<-hH,bf n2,bf n1]
 have nfs:c ∉ X.fs:=λhb=>by
  obtain⟨_,o,ho,_⟩:=I1.ok.gX.mem hb
  exact absurd (du (bS ho) YE) (gI _)
 have nst:∀b∈eI X.stack,b≠c:=λb hb z=>by
  rcases cz.mp (I1.DC b hb)with e | hb
  ·exact I1.oR y c gF (z ▸ e)
  ·exact nfs (z ▸ hb)
 have ee9:cO X.prog X.w Hp s1.heap:=λb ob q=>by
  by_cases z1:b=c
  ·subst z1;rw[YF]at q;cases q;exact⟨_,gc⟩
  ·by_cases z2:b=fa
   ·subst z2;rw[atf]at q;cases q
    exact⟨⟨gf,gc⟩,⟨_,gf⟩,λh1 h2 p kk=>⟨kk _ _ (.inl rfl) p.1,kk _ _ (.inr YF) p.2⟩⟩
   ·rw[mK b z2 z1]at q
    have x1:=(I1.aL b ob q).rem (f:=fa) (c:=c) z2 hf (.inr nc) (Yo gf (λ_ p=>p) hd)
    have up:∀{b' o'},rem H1 fa c b'=some o'->Hp b'=some o':=λ{b' o'} q=>by
     obtain⟨n1,n2,q'⟩:=Ym q
     rw[mK b' n1 n2];exact q'
    exact x1.kE (λ_ _ _ q=>q) (λ_ q=>up q) (λ_ _ q=>up q) λ_ _ q=>up q
 have e0:jf X.prog X.w X.K X.mg X.base X.A X.stack s1 Hp:=by
  have e1:=I1.zR
  refine⟨e1.frames,e1.mod,λb ob q=>⟨(e1.bs b ob q).1,?_⟩,e1.j5,e1.gX,λb hb=>?_,ee9,e1.bare⟩
  ·have hb0:=(I1.ok.bs b ob q).1
   rw[mK b (λz=>by have:=(e1.bs b ob q).2;rw[z,hf]at this;cases this) (λz=>absurd (du (bS hb0) (z ▸ YE)) (gI _))]
   exact(e1.bs b ob q).2
  ·have nb:=e1.j6 b hb
   rw[mK b (λz=>by rw[z,hf]at nb;cases nb) (nst b hb)];exact nb
 have hlen:us.length=ps.length:=by rw[<-r.length];exact F.len _ _ _ _ nz
 refine wpAny_call (codeAny_mono (F.run X.A X.stack s1 Hp ⟨us,[]⟩ us vs _ E hr e0 (by have:=hb s1 us I1.di (by rw[fV];exact hlen);rwa [fV]at this) r nz) λrr s' hz=>?_)
 cases rr with
 | error e=>exact hz.elim
 | ok fl =>
  cases fl with
  | next=>exact fU hz
  | brk=>exact fU hz
  | cont=>exact fU hz
  | ret u' =>
   obtain⟨v',H2,os,bare,un,YG,rv',q1,q2,q3⟩:=hz
   obtain⟨_,YH⟩:=YG.lam q1
   refine I1.after ⟨v',rem H2 fa c,os,bare,⟨λb ob g n hb hx=>?_,λb ob g n hb hx=>?_,λb ob g n hx=>?_,un.there,λb xs g=>?_,λb ob xs g=>?_,λb ps g=>?_⟩,YG.rem q1 q2 hd,rv',q3⟩
   ·by_cases z:b=c
    ·rw[z,gc]at g;cases g;rw[z];exact YH
    ·exact un.keep b ob g (by rw[mK b (λz=>by rw[z,hf]at n;cases n) z];exact n) hb hx
   ·by_cases z:b=c
    ·rw[z,gc]at g;cases g;rw[z];exact⟨_,YH⟩
    ·exact un.slot b ob g (by rw[mK b (λz=>by rw[z,hf]at n;cases n) z];exact n) hb hx
   ·by_cases z:b=c
    ·rw[z];exact Er
    ·exact vT (un.free b ob g (by rw[mK b (λz=>by rw[z,hf]at n;cases n) z];exact n) hx)
   ·have n1:b≠fa:=λz=>by rw[z,hf]at g;cases g
    have n2:b≠c:=λz=>by rw[z,nc]at g;cases g
    rw[iD n1 n2]
    exact un.j3 b xs (by rw[mK b n1 n2];exact g)
   ·have n1:b≠fa:=λz=>by rw[z,hf]at g;cases g
    have n2:b≠c:=λz=>by rw[z,nc]at g;cases g
    rw[iD n1 n2]
    exact un.jC b ob xs (by rw[mK b n1 n2];exact g)
   ·have n1:b≠fa:=λz=>by rw[z,hf]at g;cases g
    have n2:b≠c:=λz=>by rw[z,nc]at g;cases g
    rw[iD n1 n2]
    exact un.iK b ps (by rw[mK b n1 n2];exact g)
end
end L2
namespace L3
open PySem L2 PySem.Spec PyProof.Rows
theorem Bo{ts:List Addr}{H H':Hp}(h:Tb ts H)(s:af H H'):Tb ts H':=λP hP=>by
 obtain⟨ps,e⟩:=h P hP
 obtain⟨m,e2⟩:=s.tb P ps e
 exact⟨_,e2⟩
theorem YI{P:Program}{w:World}{K:PySem.W.Frag}{mg:Str->Option Value}{base:Heap}{n:Nat}{p1 p2 x qn:Str}{params:Arguments}{body:Expr}{scope:Scope}{pm js:Value}{oc:Obj}{c k:Addr}{m:Int}{tm:Tok}{sp:vU}(S:Yr p1 p2 x scope)
  (i9:oc.data=.cell (some (.int m tm))) (hb:∀u1 u2:Value,bindArgs (PySem.W.kla_fn "<lambda>" qn params body scope [(x,c)] pm (.ref k) js) ⟨[u1,u2],[]⟩=pure [(p1,u1),(p2,u2)])
  (g8:∀(q:Str) (f:Addr) (A:Around) (outer:List Env) (s:Shared) (H:Hp) (E:XK),cj n (A.deeper (PySem.W.envX q scope s.heap.objs.size f (.ref k) [(x,c)])) ->
   ∃t:aO,PE (sF aR P w K mg base [p1,p2,x] q scope f (.ref k) [(x,c)] A outer s H E).gu body (lE t)/\∀i j Qd,sp i j Qd->t [some (.int i),some (.int j),some (.int m)] λd _=>∃r,d=.int r/\Qd r) :
  Bh P w K mg base (n+1) (PySem.W.kla_obj "<lambda>" qn params body scope [(x,c)] pm k js) oc c k sp where
 fn:=⟨_,_,_,_,rfl⟩
 run A outer s H f t u i j Qd hr e0 gf gc hH cJ h:=by
  obtain⟨q,cJ⟩:=cJ
  obtain⟨tt,ht,hq⟩:=g8 q f A outer s H (λ_ _ _=>False) (hr.deeper _)
  refine cB2 (v1:=.int i) (v2:=.int j) (vc:=.int m) (E:=λ_ _ _=>False) S e0 hr gf ⟨oc,gc,i9⟩ ⟨tm,rfl⟩ hH cJ (hb _ _) ⟨t,rfl⟩ ⟨u,rfl⟩ ht.gu ?_
  refine⟨⟨H,H⟩,H,_,[],_,?_,hq i j Qd h,λd ah v F' H' hd f1 h1 c1=>?_⟩
  ·exact aq.start (ds:=[.int i,.int j,.int m]) (vs:=[.int i,.int j,.int m]) (af.refl H) (.int (.int (.int .nil))) 0
  ·obtain⟨r,rfl,hd⟩:=hd
   have s1:=c1.top
   cases s1
   exact⟨r,rfl,hd,h1⟩
section
variable{X:Cx}{CX:eW}{n:Nat}{f:Addr}{fd:FuncData}{ps:List Str}{sp:bq}{E:XK}{x:Str}{p pos:Pos}{e:Expr}{es:List Expr}{t:cK}{tl:List Addr}
theorem YJ(hT:Tb tl X.j4)(F:aN X.prog X.w X.K X.mg X.base CX n f fd ps (vS tl (br sp)))(hr:cj n X.A)(hg:Gl X x)(hm:X.mg x=some (.ref f))(hk:PySem.W.keepIn X.K (.ref f)=true)(hb:Binds X.K fd ps [])(hx:j9 CX X E)
  (ha:PA X (e::es) (lA t)) (eC:(x==("__debug__":Str))=false:=by decide) (he:starEach (e::es) X.env=(false,eval e X.env)::starEach es X.env:=by rfl) (bQ:(backTo pos (starEach es X.env)).any (·.1)=false:=by rfl) :
  PE X (.Call (.Name x p) (e::es) [] pos) (lE (rE sp t)):=by
 intro pins s σ H Q I zz
 obtain⟨B,F',δ,ts,Qd,c,q,k⟩:=zz
 have tb:=KW I hT
 refine jg F hr hg hm hk hb .nil hx ha eC he bQ pins s σ H Q I ⟨B,F',δ,ts,_,c,q,λds ao vs F1 H1 q1 f1 h1 c1 s1=>?_⟩
 refine⟨Bo tb h1,?_⟩
 rw[fV]
 exact Ah c1 s1 q1 λd v F' H' hd hf hs c'=>k d ao v F' H' hd (f1.trans hf) (h1.trans hs) c'
end
section
variable{P:Program}{w:World}{K:PySem.W.Frag}{mg:Str->Option Value}{base:Heap}
theorem K3{x qual:Str}{st:Stmt}{f:Addr}{fd:FuncData}{N ps:List Str}{k:Nat}{sp:bq}{tl:List Addr}(F:bg K x qual st f fd)(S:bj N ps (au st))(len:∀ds Q,sp ds Q->ds.length=ps.length)
  (g8:∀(aD:Value) (A:Around) (outer:List Env) (s:Shared) (H:Hp) (E:XK),Tb tl H->cj k (A.deeper (envOfC qual (au st) s.heap.objs.size f aD)) ->
   ∃t:cL,PSs (iM aR P w K mg base N qual (au st) f aD A outer s H E).gu (aQ st) (lS (iM aR P w K mg base N qual (au st) f aD A outer s H E).gu t)/\∀ds Q,sp ds Q->t { nx:=λ_=>Q .aw,rt:=Q } (kM N ds)):aN P w K mg base aR (k+1) f fd ps (vS tl (br sp)):=by
 refine F.ok S (λvs H Q E ⟨_,F,ds,Qd,e,r,h,_⟩=>by rw[<-r.length];exact len ds Qd h) λaD A outer s H vs Q E hr zz=>?_
 obtain⟨tb,F,ds,Qd,e,r,h,k⟩:=zz
 obtain⟨t,ht,hq⟩:=g8 aD A outer s H E tb hr
 have fin:∀d v ah aK F' H',Qd d->aq ⟨H,F⟩ F' H' aK ah [(d,v)]->Q v H':=λd v ah aK F' H' hd c=>by
  obtain⟨A,C,r',s',nd,fr⟩:=c.own
  exact k d v F' H' A hd c.b1 c.b2 c.ext c.b3 r' (gy.mp nd).1 λa ha=>fr a (eZ _ ha)
 have e1:L2.start N vs=vs.map some++bo (N.length-ds.length) none:=by unfold L2.start;rw[r.length]
 refine⟨_,ht,⟨H,F⟩,F,kM N ds,_,?_,hq ds Qd h,λah aK F' H' hd c=>fin .aw .aw ah aK F' H' hd (c.pushS (.aw .nil) rfl),fin,λ_ _ _ _ z=>z.elim,λ_ _ _ _ z=>z.elim,XL.none (λ_ _ z=>z) λ_ _ z=>z⟩
 rw[e1]
 exact aq.start e r _
theorem YK{x qual:Str}{st:Stmt}{f cc:Addr}{fd:FuncData}{N ps:List Str}{k:Nat}{sp:Sp}(F:bg K x qual st f fd)(Et:fd.code=.ref cc)(S:bj N ps (au st))(len:∀vs H Q E,sp vs H Q E->vs.length=ps.length)
  (g8:∀(A:Around) (outer:List Env) (s:Shared) (H:Hp) (vs:List V) (Q:VK) (E:XK),cj k (A.deeper (envOfC qual (au st) s.heap.objs.size f (.ref cc)))->sp vs H Q E ->
   ∃t,PSs (iM aR P w K mg base N qual (au st) f (.ref cc) A outer s H E).gu (aQ st) t/\t { nx:=λ_ H'=>Q .aw H',rt:=Q } (L2.start N vs) H):aN P w K mg base aR (k+1) f fd ps sp:=by
 obtain⟨oc,od,kV,doc,pm,an,aD,ct,ik,rfl,lk,cJ⟩:=F.ex
 obtain rfl:aD=.ref cc:=Et
 refine DR lk cJ S len λA outer s H vs Q E hr iq=>?_
 obtain⟨t,h,q⟩:=g8 A outer s H vs Q E hr iq
 exact⟨t,h.gu,q⟩
end
end L3
namespace L3
open PySem L2 PySem.Spec PyProof.Rows
theorem bY5{ns:List Str}{xs:List D}{ws:List V}{F H:Hp}{f:Str}{d:D}(r:R F H xs ws [])(h:(ns.zip xs).lookup f=some d):∃w,(ns.zip ws).lookup f=some w/\R F H [d] [w] []:=by
 generalize e:([]:List Addr)=A at r
 induction ns generalizing xs ws A with
 | nil=>simp at h
 | cons n ns ih =>
  cases xs with
  | nil=>simp at h
  | cons x xs =>
   obtain⟨v,bU,A1,A2,rfl,rfl,h1,h2⟩:=R.cR r
   obtain⟨rfl,rfl⟩:=qF.mp e.symm
   rw[dE1]at h ⊢
   by_cases z:f=n
   ·subst z
    rw[fX,beq_self_eq_true]at h
    cases h
    refine⟨v,?_,h1⟩
    rw[fX,beq_self_eq_true]
   ·have z':(f==n)=false:=beq_eq_false_iff_ne.mpr z
    rw[fX,z']at h
    obtain⟨w,e1,e2⟩:=ih h [] rfl h2
    refine⟨w,?_,e2⟩
    rw[fX,z']
    exact e1
theorem K4{ns:List Str}{ws:List V}{f:Str}(h:f ∉ ns):(ns.zip ws).lookup f=none:=by
 induction ns generalizing ws with
 | nil=>simp
 | cons n ns ih =>
  cases ws with
  | nil=>simp
  | cons w ws =>
   rw[dE1,fX]
   have hn:(f==n)=false:=beq_eq_false_iff_ne.mpr λz=>h (by rw[z];simp)
   simp only[hn]
   exact ih λz=>h (by simp[z])
theorem Bp{F H:Hp}{C:Addr}{ns:List Str}{xs:List D}{v:V}(s:S F H [.obj C ns xs] [v]):∃p dx ws,v=.ref p/\H p=some (.ins C dx (ns.zip ws))/\ns.length=ws.length/\R F H xs ws []:=by
 cases s with
 | obj h l r _=>exact⟨_,_,_,rfl,h,l,r⟩
section
variable{X:Cx}{e o:Expr}{es:List Expr}{f m x:Str}{pos p apos:Pos}{t to:aO}{ta:cK}{n:Nat}
def sH(K:PySem.W.Frag)(t:aO)(f:Str):aO:=λδ Q=>t δ λd ah=>∃C ns xs v,d=.obj C ns xs/\cB K C/\aG K C f/\(ns.zip xs).lookup f=some v/\Q v ah
theorem cV8(he:PE X e (lB t))(hb:attributeBase e f X.env (eval e X.env)=eval e X.env:=by rfl):PE X (.Attribute e f pos) (lB (sH X.K t f)) :=
 dA (qX he hb) λσ H Q ⟨B,F,δ,ts,Qd,c,q,k⟩=>⟨B,F,δ,ts,_,c,q,λd ah v F' H' ⟨C,ns,xs,w,ed,hc,hn,hl,hq⟩ f1 h1 c1 s1=>by
  subst ed
  obtain⟨p,dx,ws,rfl,hp,_,r⟩:=Bp s1
  obtain⟨u,hu,ru⟩:=bY5 r hl
  exact⟨p,C,dx,_,u,rfl,hp,hc,hn,hu,k w ah u F' H' hq f1 h1 c1 ru.s⟩⟩
structure jO(P:Program)(w:World)(K:PySem.W.Frag)(mg:Str->Option Value)(base:Heap)(n:Nat)(m:Str)(C:Addr)(sp:bq):Prop where
 cls:cB K C
 ex:∃f fd ps,Meth K C m f/\aN P w K mg base aR n f fd ps (br sp)/\Binds K fd ps []
def sI(MO:Addr->bq->Prop)(m:Str)(to:aO)(ta:cK):aO:=λδ Q=>to δ λd ao=>∃C ns xs sp,d=.obj C ns xs/\MO C sp/\m ∉ ns/\ta ao λds aT=>sp ((D.obj C ns xs::ds).map D.sh) λr=>((D.obj C ns xs::ds).all D.pl||r.fr)=true/\Q r aT
theorem cK7{pl:Sem Bool}(ho:PE X o (lB to))(hr:cj n X.A)(ha:PA X (e::es) (lA ta))
  (dj:starEach (e::es) X.env=(false,eval e X.env)::starEach es X.env:=by rfl) (bQ:(backTo pos (starEach es X.env)).any (·.1)=false:=by rfl)
  (ht:eval (.Call (.Attribute o m apos) (e::es) [] pos) X.env=(do
   let ov<-eval o X.env
   standAt apos.atName
   let (f,first)<-holding [ov] (getMethod ov m pl)
   callWith pos f first (backTo pos (starEach (e::es) X.env)) (backToKw pos (keywordEach [] X.env))):=by rfl) :
  PE X (.Call (.Attribute o m apos) (e::es) [] pos) (lE (sI (jO X.prog X.w X.K X.mg X.base n m) m to ta)):=by
 intro pins s σ H Q I zz
 obtain⟨B,F,δ,ts,Qd,c,q,k⟩:=zz
 refine PySem.W.methodCall_KW (pl:=pl) (aS (ho pins s σ H (λx H1=>∃d ao F1,S F1 H1 [d] [x]/\aq B F1 H1 σ ao ts/\af F F1/\af H H1/\∃C ns xs sp,d=.obj C ns xs/\jO X.prog X.w X.K X.mg X.base n m C sp/\m ∉ ns/\ta ao λds aT=>sp ((D.obj C ns xs::ds).map D.sh) λr=>((D.obj C ns xs::ds).all D.pl||r.fr)=true/\Qd r aT) I
  ⟨B,F,δ,ts,_,c,q,λd ao v F1 H1 hq f1 h1 c1 s1=>⟨d,ao,F1,s1,c1,f1,h1,hq⟩⟩) λu s1 ⟨x,H1,I1,rx,d,ao,F1,sd,c1,f1,h1,C,ns,xs,sp,ed,M,hm,hq⟩=>?_) ht
 subst ed
 obtain⟨a,dx,ws,rfl,ea,hl,r0⟩:=Bp sd
 obtain rfl:u=cZ a:=rx
 obtain⟨f,fd,ps,pO,FO,hb⟩:=M.ex
 refine DP I1 ea M.cls pO (K4 hm) ?_
 refine PySem.W.callWith_K (first:=[.ref a]) (h₀:=X.base) I.ok.mod.nu pO.kp (aS (ha pos pins s1 σ H1 (λvs H2=>∃ds aT F2,S F2 H2 ds vs/\aq B F2 H2 σ aT ts/\af F1 F2/\af H1 H2/\sp ((D.obj C ns xs::ds).map D.sh) λr=>((D.obj C ns xs::ds).all D.pl||r.fr)=true/\Qd r aT) I1
  ⟨B,F1,ao,ts,_,c1,hq,λds aT vs F2 H2 hq f2 h2 c2 s2=>⟨ds,aT,F2,s2,c2,f2,h2,hq⟩⟩) λus s2 ⟨vs,H2,I2,r,ds,aT,F2,K5,c2,f2,h2,iq⟩=>⟨I2.di,?_⟩) dj bQ
 refine uB (us:=.ref a::us) (vs:=.ref a::vs) (fm:=[]) FO hr hb .nil aV I2 (.cons rfl r) ?_
 rw[fV]
 exact Ah c2 (.obj (h2 _ _ ea) hl (r0.shared f2 h2) K5) iq λd v F' H' hd hf hs c'=>k d aT v F' H' hd (f1.trans (f2.trans hf)) (h1.trans (h2.trans hs)) c'
def sJ(MO:Addr->bq->Prop)(m:Str)(to:aO):aO:=λδ Q=>to δ λd ao=>∃C ns xs sp,d=.obj C ns xs/\MO C sp/\m ∉ ns/\sp [D.obj C ns xs] λr=>Q r ao
theorem cF1{pl:Sem Bool}(ho:PE X o (lB to))(hr:cj n X.A)
  (ht:eval (.Call (.Attribute o m apos) [] [] pos) X.env=(do
   let ov<-eval o X.env
   standAt apos.atName
   let (f,first)<-holding [ov] (getMethod ov m pl)
   callWith pos f first (backTo pos (starEach [] X.env)) (backToKw pos (keywordEach [] X.env))):=by rfl) :
  PE X (.Call (.Attribute o m apos) [] [] pos) (lE (sJ (jO X.prog X.w X.K X.mg X.base n m) m to)):=by
 intro pins s σ H Q I zz
 obtain⟨B,F,δ,ts,Qd,c,q,k⟩:=zz
 refine PySem.W.methodCall_KW (pl:=pl) (aS (ho pins s σ H (λx H1=>∃d ao F1,S F1 H1 [d] [x]/\aq B F1 H1 σ ao ts/\af F F1/\af H H1/\∃C ns xs sp,d=.obj C ns xs/\jO X.prog X.w X.K X.mg X.base n m C sp/\m ∉ ns/\sp [D.obj C ns xs] λr=>Qd r ao) I
  ⟨B,F,δ,ts,_,c,q,λd ao v F1 H1 hq f1 h1 c1 s1=>⟨d,ao,F1,s1,c1,f1,h1,hq⟩⟩) λu s1 ⟨x,H1,I1,rx,d,ao,F1,sd,c1,f1,h1,C,ns,xs,sp,ed,M,hm,hq⟩=>?_) ht
 subst ed
 obtain⟨a,dx,ws,rfl,ea,hl,r0⟩:=Bp sd
 obtain rfl:u=cZ a:=rx
 obtain⟨f,fd,ps,pO,FO,hb⟩:=M.ex
 refine DP I1 ea M.cls pO (K4 hm) ?_
 refine PySem.W.callWith_K0 (first:=[.ref a]) I1.di pO.kp (uB (us:=[.ref a]) (vs:=[.ref a]) (fm:=[]) FO hr hb .nil aV I1 (.cons rfl .nil) ?_)
 show br sp [.ref a] H1 Q E0
 exact Ah (Qd:=λr=>Qd r ao) c1 (.obj ea hl r0 .nil) (by simpa[D.sh,D.pl]using hq) λd v F' H' hd hf hs c'=>k d ao v F' H' hd (f1.trans hf) (h1.trans hs) c'
end
structure bO(x:Addr)(H H':Hp):Prop where
 get:∀b o,b≠x->H b=some o->jl o=true->H' b=some o
 tb:∀b ps,H b=some (.dF ps)->∃more,H' b=some (.dF (ps++more))
theorem bO.trans{x:Addr}{H H1 H2:Hp}(a:bO x H H1)(b:bO x H1 H2):bO x H H2 :=
 ⟨λc o n h t=>b.get c o n (a.get c o n h t) t,λc ps h=>by
  obtain⟨m1,e1⟩:=a.tb c ps h
  obtain⟨m2,e2⟩:=b.tb c _ e1
  exact⟨m1++m2,by rw[e2,tS]⟩⟩
theorem af.x{x:Addr}{H H':Hp}(h:af H H'):bO x H H':=⟨λb o _ e n=>h.get b o e n,h.tb⟩
theorem bO.upd{x C dx:Addr}{H:Hp}{o o':HO}(h:H x=some o)(n:jl o=true):bO x H (upd H x o') :=
 ⟨λb o z e _=>by rw[bf z];exact e,λb ps e=>⟨#[],by rw[bf (λz=>by rw[z,h]at e;cases e;cases n),e];simp⟩⟩
def K6(tl:List Addr)(C:Addr)(jP:List D->List Str->List D->Prop):Sp:=λvs H Q _=>∃x dx bU ds ns xs,vs=.ref x::bU/\Tb tl H/\H x=some (.ins C dx [])/\R H H ds bU []/\jP ds ns xs /\
 ∀H' ws A,bO x H H'->H' x=some (.ins C dx (ns.zip ws))->ns.length=ws.length->R (λ_=>none) H' xs ws A->A.Nodup->(∀a∈A,H a=none)->Q .aw H'
def vX(C:Addr)(jP:List D->List Str->List D->Prop)(ta:cK):aO:=λδ Q=>ta δ λds ah=>∃ns xs,jP (ds.map D.sh) ns xs/\Q (.obj C ns (xs.map D.sh)) ah
theorem aq.made{B:Bs}{F H H':Hp}{σ:L2.St}{δ:Dl}{ts:List (D × V)}{C dx x:Addr}{ns:List Str}{xs:List D}{ws:List V}{A:List Addr}(c:aq B F H σ δ ts)(hs:af H H')(hx:H' x=some (.ins C dx (ns.zip ws)))(hl:ns.length=ws.length)
  (r:R (λ_=>none) H' xs ws A) (fr:∀a∈A,H a=none):af F (L3.bz F H' A)/\aq B (L3.bz F H' A) H' σ δ ((.obj C ns (xs.map D.sh),.ref x)::ts):=by
 have c1:=c.grow hs
 have hF:∀a∈A,F a=none:=λa ha=>c.ext.free (fr a ha)
 have r1:R F H' xs ws A:=r.keep (af.of λb o e=>by cases e) (fM.same (af.refl _)) gx.nil hF (by simp)
 have r2:=r1.bz c1.ext A (λ_ h=>h)
 have fs:af F (L3.bz F H' A):=iy c1.ext
 obtain⟨A',C',r',s',nd,mH⟩:=c.own
 have out:∀a,(∃ws,H a=some (.lst ws))/\F a=none->L3.bz F H' A a=none:=λa zz=>by
  obtain⟨⟨ws,h⟩,hf⟩:=zz
  rw[pd (λz=>by rw[fr a z]at h;cases h)];exact hf
 have g1:=r'.grow fs hs λa ha=>out a (r'.lists a ha)
 have g2:=s'.keep fs (fM.same hs) gx.nil (λa ha=>out a (s'.lists a ha)) (by simp)
 refine⟨fs,nK c1.ext,c1.b1,c1.b2.trans fs,λa ws h=>?_,A',C',?_,g2,nd,mH⟩
 ·by_cases z:a∈A
  ·exact .inr (c.b1.free (fr a z))
  ·rw[pd z]at h;exact c.b3 a ws h
 ·exact R.obj hx hl r2 g1
section
variable{X:Cx}{CX:eW}{n:Nat}{f C:Addr}{fd:FuncData}{ps:List Str}{jP:List D->List Str->List D->Prop}{E:XK}{x:Str}{p pos:Pos}{e:Expr}{es:List Expr}{t:cK}{tl:List Addr}
theorem YL(hT:Tb tl X.j4)(M:Mk X.K C f)(F:aN X.prog X.w X.K X.mg X.base CX n f fd ps (K6 tl C jP))(hr:cj (n+1) X.A)(hg:Gl X x)(hm:X.mg x=some (.ref C))(hb:Binds X.K fd ps [])(hx:j9 CX X E)
  (ha:PA X (e::es) (lA t)) (eC:(x==("__debug__":Str))=false:=by decide) (he:starEach (e::es) X.env=(false,eval e X.env)::starEach es X.env:=by rfl) (bQ:(backTo pos (starEach es X.env)).any (·.1)=false:=by rfl) :
  PE X (.Call (.Name x p) (e::es) [] pos) (lE (vX C jP t)):=by
 intro pins s σ H Q I zz
 obtain⟨B,F',δ,ts,Qd,c,q,k⟩:=zz
 have tb:=KW I hT
 refine Wa M F hr hg hm hb .nil hx ha eC he bQ pins s σ H Q I ⟨B,F',δ,ts,_,c,q,λds ao vs F1 H1 q1 f1 h1 c1 s1=>?_⟩
 intro x dx cC dZ mw
 obtain⟨ns,xs,hI,hq⟩:=q1
 have sm:af H1 (upd (upd H1 dx (.own x)) x (.ins C dx [])):=.of λb o e=>by rw[bf (eU e cC),bf (eU e dZ)];exact e
 refine⟨x,dx,vs,ds.map D.sh,ns,xs,by rw[fV],Bo (Bo tb h1) sm,bM,(s1.frozen c1.ext).shared sm sm,hI,λH' ws A Bq de hl r nd fr=>⟨rfl,?_⟩⟩
 have s2:af H1 H':=⟨λb o e n=>Bq.get b o (eU e cC) (sm.get b o e n) n,λb ps e=>by
  obtain⟨m1,e1⟩:=sm.tb b ps e
  obtain⟨m2,e2⟩:=Bq.tb b _ e1
  exact⟨m1++m2,by rw[e2,tS]⟩⟩
 obtain⟨fs,c2⟩:=c1.made s2 de hl r λa ha=>sm.free (fr a ha)
 exact k _ ao _ _ H' hq (f1.trans fs) (h1.trans s2) c2
end
end L3
namespace Mf
open PySem L2 L3
def gm(m:Bool × Nat)(a b:Nat):Nat:=if m.1 then md (cl a b) m.2 else a*b%m.2
def ae(m:Bool × Nat):Nat:=if m.1 then 2 ^ (bl m.2-1)else m.2
def Ez(g:Nat->Nat->Nat)(a:Nat):Nat->Nat->List Int->Option (List Int)
 | 0,_,_=>none
 | f+1,p,acc=>if p=1 then some acc else if p<64 then Ez g a f (g p a) (acc++[(p:Int)])else none
def K7(g:Nat->Nat->Nat)(a:Nat):Option (List Int):=Ez g a 64 (g 1 a) [1]
def EA(g:Nat->Nat->Nat)(many:Nat):Nat->Nat->List Int->Option (List Int)
 | 0,_,_=>none
 | f+1,st,l=>if l.length+1<many then(match K7 g (st+1)with | some l'=>EA g many f (st+1) l' | none=>none)else some l
def Br(g:Nat->Nat->Nat)(many:Nat):Option (List Int):=match K7 g 1 with | some l=>EA g many 62 1 l | none=>none
def Bt(g:Nat->Nat->Nat):vU:=λi j Q=>∃a b:Nat,i=a/\j=b/\a<64/\b<64/\Q (g a b:Nat)
def gO:List Nat:=[7,11,13,19,25,31,37,41,47,55,59,61,67,73,87,91,97,103,109,115,117]
def n8:List Nat:=[2,3,5,7,11,13,17,19,23,29,31,37,41,43,47,53,59,61]
def aI:List (Bool × Nat):=gO.map (λn=>(true,n))++n8.map λn=>(false,n)
def og(l:List Int):Nat->List Int
 | 0=>bo (l.length+1) 0
 | i+1=>(og l i).set (l.getD i 0).toNat (i:Int)
def eO(l:List Int):List Int:=og l l.length
theorem Bu(l:List Int):∀i,(og l i).length=l.length+1
 | 0=>by simp[og]
 | i+1=>by simp[og,Bu l i]
def pP(l g:List Int)(a:Nat):List Int:=if a=0 then bo (l.length+1) 0 else 0::(aM l.length).map λ(b:Nat)=>l.getD ((g.getD a 0+g.getD (b+1) 0)%(l.length:Int)).toNat 0
def vY(l g:List Int)(n:Nat):List D:=(aM n).map λa=>D.lst true (aJ (pP l g a))
def pQ(l g:List Int):List D:=vY l g (l.length+1)
end Mf
namespace L3
open PySem L2 Mf
def LI(H:Hp)(p:Addr)(ns:List Int):Prop:=H p=some (.lst (ns.map V.int))
theorem LI.same{H H':Hp}{p:Addr}{ns:List Int}(h:LI H p ns)(s:af H H'):LI H' p ns:=s.get _ _ h
theorem LI.upd{H:Hp}{p x:Addr}{ns:List Int}{o o':HO}(h:LI H p ns)(hx:H x=some o)(n:∀ws,o≠.lst ws):LI (upd H x o') p ns:=by
 unfold LI
 rw[bf (λz=>by rw[z]at h;unfold LI at h;rw[hx]at h;cases h;exact n _ rfl)];exact h
theorem YM{F' H' H:Hp}{v:V}{A:List Addr}{ns:List Int}(r:R F' H' [.lst true (aJ ns)] [v] A)(fr:∀a∈A,H a=none):∃p,v=.ref p/\LI H' p ns/\H p=none:=by
 cases r with
 | @own p ws xs A1 _ _ B1 hp hf r1 r2 =>
  have:=KC r1.s
  subst this
  exact⟨p,rfl,hp,fr p (by simp)⟩
structure ef6(K:PySem.W.Frag)(C f:Addr):Prop where
 cls:cB K C
 many:aG K C "many"
 wide:aG K C "wide"
 K8:aG K C "powers"
 ef7:aG K C "logs"
 step:aG K C "step"
 sp:Meth K C "step_power" f
structure YN(g:Nat->Nat->Nat)(many:Nat)(l:List Int)(st:Int):Prop where
 lo:2<=many
 hi:many<=64
 step:Br g many=some l
 len:l.length+1=many
 ins:∀x∈l,0<=x/\x.toNat<=l.length
 st:l[((1:Int)%((many:Int)-1)).toNat]?=some st
def iE(b:Str):List Str:=[b,"many","wide","powers","logs","step"]
def EB(n0:Int)(many:Nat)(p1 p2:Addr)(st:Int):List V:=[.int n0,.int many,.int ((bl many:Nat)-1),.ref p1,.ref p2,.int st]
theorem vZ{f:Str}{v:V}:∀{fs:List (Str × V)},(∀p∈fs,p.1≠f)->bF f v fs=fs++[(f,v)]
 | [],_=>rfl
 | (g,x)::r,h=>by
  unfold bF
  rw[if_neg (h (g,x) (by simp)),vZ λp hp=>h p (by simp[hp])];rfl
theorem kb.sM{H:Hp}{x C dx f c k:Addr}{fs:List (Str × V)}{o':HO}{of oc:Obj}(h:kb H f of oc c k)(hx:H x=some (.ins C dx fs)):kb (L2.upd H x o') f of oc c k:=by
 obtain⟨ψ,e,Bi⟩:=h.J3
 exact⟨by rw[bf (λz=>by rw[<-z,h.fn]at hx;cases hx)];exact h.fn,by rw[bf (λz=>by rw[<-z,h.cell]at hx;cases hx)];exact h.cell,ψ,by rw[bf (λz=>by rw[<-z,e]at hx;cases hx)];exact e,Bi⟩
theorem Bv{H:Hp}{x p:Addr}{o o':HO}(hx:H x=some o)(h:L2.upd H x o' p=none):H p=none:=by
 by_cases z:p=x
 ·subst z;rw[bM]at h;cases h
 ·rw[bf z]at h;exact h
theorem EC{α:Type}{b f:Str}{v:α}{r:List (Str × α)}(h:b≠f):((b,v)::r).lookup f=r.lookup f:=by
 rw[fX,beq_eq_false_iff_ne.mpr (fH h)]
section
variable{H2 H3 H':Hp}{x f c p:Addr}{o1 o2:HO}
theorem Bw{b:Addr}{o:HO}(e:H3 b=some o)(nb:b≠f)(nc:H3 c=none):L2.upd (L2.upd H3 f o1) c o2 b=some o:=by
 rw[bf (eU e nc),bf nb];exact e
theorem YO(hs:af H2 H3)(nf:H2 f=none)(nc:H3 c=none)(s:bO x (L2.upd (L2.upd H3 f o1) c o2) H'):bO x H2 (rem H' f c) where
 get b o n e t:=by
  have z1:=eU e nf
  have e3:=hs.get b o e t
  rw[iD z1 (eU e3 nc)]
  exact s.get b o n (Bw e3 z1 nc) t
 tb b ps e:=by
  have z1:=eU e nf
  obtain⟨m,e3⟩:=hs.tb b ps e
  obtain⟨m2,e4⟩:=s.tb b _ (Bw e3 z1 nc)
  exact⟨m++m2,by rw[iD z1 (eU e3 nc),e4,tS]⟩
theorem ED(hs:af H2 H3)(h:L2.upd (L2.upd H3 f o1) c o2 p=none):H2 p=none:=by
 refine hs.free ?_
 by_cases z:p=c
 ·subst z;rw[bM]at h;cases h
 ·rw[bf z]at h
  by_cases z2:p=f
  ·subst z2;rw[bM]at h;cases h
  ·rw[bf z2]at h;exact h
theorem LI.rem{l:List Int}{φ:Heap->Prop}{y:Addr}(h:LI H' p l)(hf:H' f=some (.ext φ))(hc:H' c=some (.own y)):LI (rem H' f c) p l:=by
 unfold LI at h ⊢
 rw[iD (λz=>by rw[z,hf]at h;cases h) (λz=>by rw[z,hc]at h;cases h)];exact h
theorem YQ{of oc:Obj}{k:Addr}(mw:c≠f)(nc:H3 c=none)(hk:J2 H3 k)(kf:k≠f):kb (L2.upd (L2.upd H3 f (.ext (jG of oc c f))) c (.own f)) f of oc c k:=by
 obtain⟨ψ,e,Bi⟩:=hk
 exact⟨by rw[bf mw.symm,bM],bM,ψ,Bw e kf nc,Bi⟩
end
def fl(m:Bool × Nat):List Int:=(Br (gm m) (ae m)).getD []
def fst(m:Bool × Nat):Int:=(fl m).getD ((1:Int)%((ae m:Int)-1)).toNat 0
def YR(m:Bool × Nat):Bool:=decide (2<=ae m)&&decide (ae m<=64)&&(Br (gm m) (ae m)).isSome&&decide ((fl m).length+1=ae m)&&(fl m).all (λx=>decide (0<=x)&&decide (x.toNat<=(fl m).length))&&decide (((1:Int)%((ae m:Int)-1)).toNat<(fl m).length)
theorem cE1:aI.all YR=true:=by decide +kernel
theorem dn{m:Bool × Nat}(h:m∈aI):YN (gm m) (ae m) (fl m) (fst m):=by
 have h:=dz.mp cE1 m h
 simp only[YR,eH,decide_eq_true_eq,dz]at h
 obtain⟨⟨⟨⟨⟨h1,h2⟩,h3⟩,h4⟩,h5⟩,h6⟩:=h
 obtain⟨l,e⟩:=C7.mp h3
 have el:fl m=l:=by unfold fl;rw[e];rfl
 refine⟨h1,h2,by rw[e,el],h4,λx hx=>h5 x hx,?_⟩
 unfold fst
 rw[aU,aP h6];rfl
theorem cm4:∀p∈n8,(decide (2<=(p:Int))&&decide ((p:Int)<=61)&&(aM ((p:Int).toNat-2)).all λi=>(p:Int)%(2+(i:Int)) != 0)=true:=by decide +kernel
theorem cB3:∀p∈gO,(decide (4<=(p:Int))&&decide ((p:Int)<=127)&&al (p:Int).toNat)=true:=by decide +kernel
theorem R.sM{F H:Hp}{x C dx:Addr}{fs:List (Str × V)}{o':HO}{ds:List D}{vs:List V}{A:List Addr}(r:R F H ds vs A)(hx:H x=some (.ins C dx fs))(hd:ds.all D.fr=true):R F (L2.upd H x o') ds vs A:=by
 have up:∀{a o},H a=some o->(∀C dx fs,o≠.ins C dx fs)->L2.upd H x o' a=some o:=λ{a o} e n=>by
  rw[bf (λz=>by rw[z,hx]at e;cases e;exact n _ _ _ rfl)];exact e
 induction r with
 | nil=>exact .nil
 | aw _ ih=>exact .aw (ih (by simpa[D.fr]using hd))
 | bl _ ih=>exact .bl (ih (by simpa[D.fr]using hd))
 | int _ ih=>exact .int (ih (by simpa[D.fr]using hd))
 | str _ ih=>exact .str (ih (by simpa[D.fr]using hd))
 | shr h x _ i1 ih=>simp[fL]at hd
 | own h f _ _ i1 i2 =>
  rw[dy,fL,eH,lQ]at hd
  exact .own (up h λ_ _ _ z=>by cases z) f (i1 hd.1) (i2 hd.2)
 | tup h _ _ i1 i2 =>
  rw[dy,rn,eH]at hd
  exact .tup (up h λ_ _ _ z=>by cases z) (i1 hd.1) (i2 hd.2)
 | obj h l x _ i1 ih=>simp[D.fr]at hd
 | fz h x _ i1 ih=>simp[D.fr]at hd
 | @bI p z _ _ _ h r ih =>
  refine .bI ?_ (ih (by simpa[D.fr]using hd))
  cases z with
  | ext φ=>exact up h λ_ _ _ z=>by cases z
  | lam of oc c k=>exact kb.sM h hx
theorem YS(l g:List Int):(pQ l g).all D.fr=true:=by
 unfold pQ vY
 rw[ni,dz]
 intro a _
 show(D.lst true (aJ _)).fr=true
 rw[fL,sq];rfl
theorem bO.free{x a:Addr}{H H':Hp}(s:bO x H H')(hx:H' x≠none)(h:H' a=none):H a=none:=by
 cases q:H a with
 | none=>rfl
 | some o =>
  by_cases z:a=x
  ·subst z;exact absurd h hx
  ·cases n:jl o with
   | true=>rw[s.get a o z q n]at h;cases h
   | false =>
    obtain⟨ps,rfl⟩:=J1 n
    obtain⟨m,e⟩:=s.tb a ps q
    rw[e]at h;cases h
theorem YT(l:List Int):∀i,∀x∈og l i,0<=x
 | 0=>λx hx=>by rw[(Dg.mp hx).2];exact Int.le_refl _
 | i+1=>λx hx=>by
  unfold og at hx
  rcases Vs hx with h | h
  ·exact YT l i x h
  ·rw[h];exact U8 _
theorem YU:∀p∈gO,bl p<=7:=by decide +kernel
theorem YV:∀p∈gO,1<=bl p:=by decide +kernel
theorem cp4(a b:Nat):bl (cl a b)<=bl a+bl b:=by
 by_cases ha:a=0
 ·subst ha;rw[oX];exact lK _
 ·by_cases hb:b=0
  ·subst hb
   have:cl a 0=0:=rfl
   rw[this];exact lK _
  ·rw[WQ ha hb];omega
def oh(l g:List Int):List D:=(aM (l.length+1)).map λa=>D.lst false (aJ (pP l g a))
theorem cp1(l g:List Int):(D.lst true (pQ l g)).sh=.lst false (oh l g):=by
 rw[dQ]
 unfold pQ vY oh
 rw[cA]
 congr 1
 apply uj
 intro a _
 show D.sh (.lst true (aJ _))=_
 rw[dQ,kj]
theorem ce5(l g:List Int):(oh l g).all D.pl=true:=by
 unfold oh
 rw[ni,dz]
 intro a _
 show(D.lst false (aJ _)).pl=true
 rw[fZ,nW];rfl
abbrev pD(m:Bool × Nat):List D:=[.int m.2,.int (ae m),.int ((bl (ae m):Nat)-1),.lst false (aJ (fl m)),.lst false (aJ (eO (fl m))),.int (fst m)]
def sN(C:Addr)(p:Nat):D:=.obj C (iE "prime") (pD (false,p))
def sO(C:Addr)(p:Nat):D:=.obj C (iE "bits"++[("products":Str)]) (pD (true,p)++[.lst false (oh (fl (true,p)) (eO (fl (true,p))))])
def fD(cb cp:Addr)(m:Bool × Nat):D:=if m.1 then sO cb m.2 else sN cp m.2
end L3
namespace L3
open PySem L2 Mf
theorem Bz{u p:Nat}(h:bl u<bl p):md u p=u:=zZ (q:=0) (by rw[oX,oJ]) h
theorem ci2{u v n:Nat}(hu:bl u<n)(hv:bl v<n):bl (u ^^^ v)<n:=by
 have h1:u<2 ^ (n-1):=ff.mp (by omega)
 have h2:v<2 ^ (n-1):=ff.mp (by omega)
 have:=ff.mpr (uF h1 h2)
 omega
theorem EE{p:Nat}(hp:p≠0)(u v:Nat):md (u ^^^ v) p=md u p ^^^ md v p:=by
 obtain⟨⟨q1,e1⟩,l1⟩:=zY hp u
 obtain⟨⟨q2,e2⟩,l2⟩:=zY hp v
 refine zZ (q:=q1 ^^^ q2) ?_ (ci2 l1 l2)
 rw[oW,<- WE,<- e1,<- e2]
theorem YW{p:Nat}(hp:p≠0)(w:Nat):md (cl p w) p=0:=by rw[zX];exact cW7 w hp
theorem dq:∀m∈aI,0<m.2:=by decide +kernel
theorem iS(m:Bool × Nat)(a b:Nat):gm m a b=gm m b a:=by
 unfold gm
 split
 ·rw[zX]
 ·rw[m4]
theorem YX{n:Nat}(hn:n≠0)(u c:Nat):md (cl (md u n) c) n=md (cl u c) n:=by
 obtain⟨⟨q,e⟩,_⟩:=zY hn u
 have h:cl u c=cl n (cl q c) ^^^ cl (md u n) c:=by
  conv=>lhs;rw[e]
  rw[oW,zX n q,WV]
 rw[h,EE hn,YW hn,oJ]
theorem km{m:Bool × Nat}(h:0<m.2)(a b c:Nat):gm m (gm m a b) c=gm m a (gm m b c):=by
 unfold gm
 split
 ·rw[YX (by omega),zX (md (cl b c) m.2) a,YX (by omega),WV a b c,zX (cl b c) a]
 ·rw[zo,Vt,<- zo,zo a (b*c%m.2),Vt,<- zo,ud]
theorem YY{m:Bool × Nat}(h:m.1=true){a:Nat}:a<ae m↔bl a<=bl m.2-1:=by
 unfold ae
 rw[if_pos h];exact ff.symm
theorem sP{m:Bool × Nat}{a:Nat}(ha:a<ae m):gm m 1 a=a:=by
 obtain⟨k,n⟩:=m
 cases k with
 | true =>
  show md (cl 1 a) n=a
  rw[JL]
  have h1:=(YY (m:=(true,n)) rfl).mp ha
  have h1:bl a<=bl n-1:=h1
  by_cases z:bl n=0
  ·have a0:a=0:=by
    have:=ff (n:=a) (m:=0)
    have:=this.mp (by omega)
    omega
   subst a0
   have n0:n=0:=by
    have:=(ff (n:=n) (m:=0)).mp (by omega)
    omega
   subst n0
   decide
  ·exact Bz (by omega)
 | false=>show 1*a%n=a;rw[Nat.one_mul];exact zr ha
theorem sQ{m:Bool × Nat}{a:Nat}(ha:a<ae m):gm m a 1=a:=by rw[iS];exact sP ha
def lg(m:Bool × Nat)(a:Nat):Int:=(eO (fl m)).getD a 0
def pw(m:Bool × Nat)(k:Nat):Int:=(fl m).getD k 0
def K9(m:Bool × Nat):Bool:=((aM (ae m-1)).all λk=>decide (1<=pw m k)&&decide (pw m k<ae m)&&decide (lg m (pw m k).toNat=k))&&((aM (ae m-1)).all λa=>decide (0<=lg m (a+1))&&decide (lg m (a+1)<(ae m:Int)-1)&&decide (pw m (lg m (a+1)).toNat=((a+1:Nat):Int)))
theorem YZ:aI.all K9=true:=by decide +kernel
theorem EF{m:Bool × Nat}(hm:m∈aI){k:Nat}(hk:k<ae m-1):1<=pw m k/\pw m k<ae m/\lg m (pw m k).toNat=k:=by
 have h:=dz.mp YZ m hm
 simp only[K9,eH,dz,decide_eq_true_eq,da]at h
 have:=h.1 k hk
 exact⟨this.1.1,this.1.2,this.2⟩
theorem EG{m:Bool × Nat}(hm:m∈aI){a:Nat}(h1:1<=a)(h2:a<ae m):0<=lg m a/\lg m a<(ae m:Int)-1/\pw m (lg m a).toNat=a:=by
 have h:=dz.mp YZ m hm
 simp only[K9,eH,dz,decide_eq_true_eq,da]at h
 have:=h.2 (a-1) (by omega)
 rw[show a-1+1=a by omega]at this
 exact⟨this.1.1,this.1.2,this.2⟩
theorem iF(m:Bool × Nat)(b:Nat)(h:0<m.2):gm m 0 b=0:=by
 unfold gm
 split
 ·rw[oX];exact Bz (by rw[nH];exact iu (by omega))
 ·rw[Nat.zero_mul,Nat.zero_mod]
theorem kU(m:Bool × Nat)(b:Nat)(h:0<m.2):gm m b 0=0:=by rw[iS];exact iF m b h
def stC(m:Bool × Nat):Bool:=decide (pw m 0=1)&&(aM (ae m-1)).all λk=>decide (gm m (pw m k).toNat (pw m (1%(ae m-1))).toNat=(pw m ((k+1)%(ae m-1))).toNat)
theorem Y0:aI.all stC=true:=by decide +kernel
theorem cG3(m:Bool × Nat)(hm:m∈aI):pw m 0=1:=by
 have h:=dz.mp Y0 m hm
 simp only[stC,eH,decide_eq_true_eq]at h
 exact h.1
def pN(m:Bool × Nat)(k:Nat):Nat:=(pw m (k%(ae m-1))).toNat
theorem cW0{m:Bool × Nat}(hm:m∈aI)(k:Nat):pN m k<ae m:=by
 have fc:=(dn hm).lo
 have:=EF hm (uk k (show 0<ae m-1 by omega))
 unfold pN
 omega
theorem Y3{m:Bool × Nat}(hm:m∈aI)(k:Nat):gm m (pN m k) (pN m 1)=pN m (k+1):=by
 have fc:=(dn hm).lo
 have h:=dz.mp Y0 m hm
 simp only[stC,eH,decide_eq_true_eq,dz,da]at h
 have h2:=h.2 (k%(ae m-1)) (uk k (by omega))
 rw[zt]at h2
 exact h2
theorem Y4{m:Bool × Nat}(hm:m∈aI)(i:Nat):∀j,gm m (pN m i) (pN m j)=pN m (i+j)
 | 0=>by
  have e:pN m 0=1:=by unfold pN;rw[Nat.zero_mod,cG3 m hm];rfl
  rw[e,sQ (cW0 hm i)];rfl
 | j+1=>by rw[<-Y3 hm j,<- km (dq m hm),Y4 hm i j,Y3 hm];rfl
theorem La{m:Bool × Nat}(hm:m∈aI){a b:Nat}(a1:1<=a)(a2:a<ae m)(b1:1<=b)(b2:b<ae m):((gm m a b:Nat):Int)=pw m ((lg m a+lg m b)%((ae m:Int)-1)).toNat:=by
 have fc:=(dn hm).lo
 obtain⟨g0,g1,g2⟩:=EG hm a1 a2
 obtain⟨f0,f1,f2⟩:=EG hm b1 b2
 have ea:pN m (lg m a).toNat=a:=by unfold pN;rw[zr (by omega),g2];rfl
 have eb:pN m (lg m b).toNat=b:=by unfold pN;rw[zr (by omega),f2];rfl
 have e:=Y4 hm (lg m a).toNat (lg m b).toNat
 rw[ea,eb]at e
 rw[e]
 have ei:((lg m a+lg m b)%((ae m:Int)-1)).toNat=((lg m a).toNat+(lg m b).toNat)%(ae m-1):=by
  have:(((lg m a).toNat+(lg m b).toNat)%(ae m-1):Nat)=((lg m a+lg m b)%((ae m:Int)-1)):=by
   rw[oM,IQ,zu g0,zu f0,Int.natCast_sub (by omega)];rfl
  omega
 rw[ei]
 have:=EF hm (uk ((lg m a).toNat+(lg m b).toNat) (show 0<ae m-1 by omega))
 unfold pN
 omega
theorem cD3{p a:Nat}(hp:p∈gO)(ha:a<ae (true,p)):pP (fl (true,p)) (eO (fl (true,p))) a=(aM (ae (true,p))).map λb=>((gm (true,p) a b:Nat):Int):=by
 have hm:(true,p)∈aI:=eZ _ (IS hp)
 have h0:=dq _ hm
 have hF:=dn hm
 have hlen:=hF.len
 unfold pP
 split
 ·rename_i h
  subst h
  rw[hlen]
  refine Vu (by simp) λi h1 h2=>?_
  simp[iF _ _ h0]
 ·rename_i h
  rw[<-hlen,dD8,dv,cA,kU _ _ h0]
  congr 1
  apply uj
  intro b hb
  have hb:=da.mp hb
  show(fl (true,p)).getD (((eO (fl (true,p))).getD a 0+(eO (fl (true,p))).getD (b+1) 0)%((fl (true,p)).length:Int)).toNat 0=((gm (true,p) a (b+1):Nat):Int)
  rw[La hm (by omega) ha (by omega) (by omega),show(((fl (true,p)).length:Nat):Int)=(ae (true,p):Int)-1 by omega]
  rfl
theorem EH{p a b:Nat}(hp:p∈gO)(ha:a<ae (true,p))(hb:b<ae (true,p)):eJ (aJ (pP (fl (true,p)) (eO (fl (true,p))) a)) (b:Int)=some (.int (gm (true,p) a b:Nat)):=by
 refine nB (by omega) ?_
 rw[cD3 hp ha]
 unfold aJ
 rw[gU,cu,cu,jZ hb];rfl
theorem EI{p a:Nat}(hp:p∈gO)(ha:a<ae (true,p)):eJ (oh (fl (true,p)) (eO (fl (true,p)))) (a:Int)=some (.lst false (aJ (pP (fl (true,p)) (eO (fl (true,p))) a))):=by
 have hF:=dn (m:=(true,p)) (eZ _ (IS hp))
 refine nB (by omega) ?_
 unfold oh
 rw[gU,cu,jZ (by rw[hF.len];exact ha)];rfl
end L3
namespace L3
open PySem L2 Mf
theorem cR2(C:Addr)(p:Nat):D.obj C (iE "bits"++[("products":Str)]) (qH D.sh [.int p,.int (ae (true,p)),.int ((bl (ae (true,p)):Nat)-1),.lst true (aJ (fl (true,p))),.lst true (aJ (eO (fl (true,p)))),.int (fst (true,p)),.lst true (pQ (fl (true,p)) (eO (fl (true,p))))])=sO C p:=by
 simp only[dv,jX]
 rw[cp1]
 simp only[dQ,pG,kj];rfl
theorem cn4(C:Addr)(p:Nat):D.obj C (iE "prime") (qH D.sh [.int p,.int p,.int ((bl p:Nat)-1),.lst true (aJ (fl (false,p))),.lst true (aJ (eO (fl (false,p)))),.int (fst (false,p))])=sN C p:=by
 simp only[dv,jX,dQ,pG,kj];rfl
theorem v7{n:Nat}(h:(true,n)∈aI):n∈gO:=by
 rcases bZ.mp h with h | h
 ·obtain⟨x,hx,e⟩:=bH.mp h
  cases e;exact hx
 ·obtain⟨x,hx,e⟩:=bH.mp h
  cases e
theorem bS6{n:Nat}(h:(false,n)∈aI):n∈n8:=by
 rcases bZ.mp h with h | h
 ·obtain⟨x,hx,e⟩:=bH.mp h
  cases e
 ·obtain⟨x,hx,e⟩:=bH.mp h
  cases e;exact hx
open Classical in
theorem Lb{α:Type}{sh:Bool}{xs:List D}{aE:List (Str × Nat)}{n:Nat}{g0:iz}{te:aO}{ao:Dl}{Q:D->Dl->Prop}(l:List α)(e g:α->D)(jr:xs.map D.sh=l.map e)(inj:∀a b,e a=e b->a=b)
  (hx:∀a∈l,g0 (e a) (gA aE n ao) λaT=>te aT λd _=>d=g a) (hg:∀d δ (P P':Dl->Prop),(∀ah,P ah->P' ah)->g0 d δ P->g0 d δ P') (eK:(sh&&aE.all (jn ao))=true\/∀a∈l,(g a).fr=true) (hl:l.length<=sizeLine) (hq:Q (.lst true (l.map g)) ao):vb sh xs aE n g0 mC te ao Q:=by
 let f:D->D:=λx=>if h:∃a∈l,e a=x then g h.choose else .aw
 have hf:∀a∈l,f (e a)=g a:=λa ha=>by
  have h:∃b∈l,e b=e a:=⟨a,ha,rfl⟩
  show(if h:∃b∈l,e b=e a then g h.choose else .aw)=g a
  rw[dif_pos h]
  exact congrArg g (inj _ _ h.choose_spec.2)
 refine⟨λ_=>true,f,λx h=>?_,eK.imp id λh x hx _=>?_,?_,?_⟩
 ·rw[jr]at h
  obtain⟨a,ha,rfl⟩:=bH.mp h
  rw[hf a ha]
  exact hg _ _ _ _ (λah h=>⟨rfl,λ_=>h⟩) (hx a ha)
 ·rw[jr]at hx
  obtain⟨a,ha,rfl⟩:=bH.mp hx
  rw[hf a ha];exact h a ha
 ·have:=congrArg Iy jr
  simp at this
  omega
 ·rw[jr,dD7.mpr (λ_ _=>rfl),cA,show l.map (f ∘ e)=l.map g from uj λa ha=>hf a ha]
  exact hq
theorem Lc{i1 i2:Nat}(d:D)(δ:Dl)(P P':Dl->Prop)(h:∀ah,P ah->P' ah)(q:jM i1 i2 d δ P):jM i1 i2 d δ P':=by
 unfold jM at q ⊢
 split at q
 ·exact h _ q
 ·exact q
theorem Y5(xs ys:List Int):(dJ (aJ xs) (aJ ys)).map D.sh=(xs.zip ys).map λz=>D.tup [.int z.1,.int z.2]:=by
 rw[Ye,kj,kj]
 unfold dJ aJ
 rw[Dj,List.zip,IM]
theorem cB5{p x y:Nat}(hp:p≠0)(hx:bl x<bl p):md (cl x y) p=(if y%2=1 then x else 0) ^^^ md (cl (if bl (2*x)=bl p then 2*x ^^^ p else 2*x) (y/2)) p:=by
 have e0:md (if y%2=1 then x else 0) p=(if y%2=1 then x else 0):=by
  split
  ·exact Bz hx
  ·exact Bz (by rw[nH];exact iu hp)
 rw[WM,EE hp,e0]
 congr 1
 split
 ·rw[oW,EE hp,YW hp,lN]
 ·rfl
theorem cA0{p x:Nat}(hp:p≠0)(hx:bl x<bl p):bl (if bl (2*x)=bl p then 2*x ^^^ p else 2*x)<bl p:=by
 have h2:=cO9 x
 have h0:=iu hp
 split
 ·rename_i h
  have n0:2*x≠0:=λz=>by rw[z,nH]at h;omega
  have a1:=ji (2*x)
  have a2:=ji p
  have b1:=uD n0
  have b2:=uD hp
  rw[h]at a1 b1
  obtain⟨k,hk⟩:∃k,bl p=k+1:=⟨bl p-1,by omega⟩
  rw[hk]at a1 a2 b1 b2 ⊢
  have:=ff.mpr (WC a1 a2 b1 b2)
  omega
 ·omega
end L3
namespace L3
open PySem L2 PySem.Spec PyProof.Rows
structure EJ(P:Program)(w:World)(K:PySem.W.Frag)(mg:Str->Option Value)(base:Heap)(n:Nat)(m:Str)(C:Addr)(sp:pH):Prop where
 cls:cB K C
 ex:∃f fd ps,Meth K C m f/\aN P w K mg base (nJ P w) n f fd ps (AY sp)/\Binds K fd ps []
section
variable{X:Cx}{e o:Expr}{es:List Expr}{f m x:Str}{pos p apos:Pos}{to:aO}{ta:cK}{n:Nat}
def sR(MO:Addr->pH->Prop)(m:Str)(to:aO)(ta:cK):aO:=λδ Q=>to δ λd ao=>∃C ns xs sp,d=.obj C ns xs/\MO C sp/\m ∉ ns/\ta ao λds aT=>sp ((D.obj C ns xs::ds).map D.sh) (λr=>((D.obj C ns xs::ds).all D.pl||r.fr)=true/\Q r aT) λ_=>False
theorem cE7{pl:Sem Bool}(ho:PE X o (lB to))(hr:cj n X.A)(ha:PA X (e::es) (lA ta))
  (dj:starEach (e::es) X.env=(false,eval e X.env)::starEach es X.env:=by rfl) (bQ:(backTo pos (starEach es X.env)).any (·.1)=false:=by rfl)
  (ht:eval (.Call (.Attribute o m apos) (e::es) [] pos) X.env=(do
   let ov<-eval o X.env
   standAt apos.atName
   let (f,first)<-holding [ov] (getMethod ov m pl)
   callWith pos f first (backTo pos (starEach (e::es) X.env)) (backToKw pos (keywordEach [] X.env))):=by rfl) :
  PE X (.Call (.Attribute o m apos) (e::es) [] pos) (lE (sR (EJ X.prog X.w X.K X.mg X.base n m) m to ta)):=by
 intro pins s σ H Q I zz
 obtain⟨B,F,δ,ts,Qd,c,q,k⟩:=zz
 refine PySem.W.methodCall_KW (pl:=pl) (aS (ho pins s σ H (λx H1=>∃d ao F1,S F1 H1 [d] [x]/\aq B F1 H1 σ ao ts/\af F F1/\af H H1/\∃C ns xs sp,d=.obj C ns xs/\EJ X.prog X.w X.K X.mg X.base n m C sp/\m ∉ ns/\ta ao λds aT=>sp ((D.obj C ns xs::ds).map D.sh) (λr=>((D.obj C ns xs::ds).all D.pl||r.fr)=true/\Qd r aT) λ_=>False) I
  ⟨B,F,δ,ts,_,c,q,λd ao v F1 H1 hq f1 h1 c1 s1=>⟨d,ao,F1,s1,c1,f1,h1,hq⟩⟩) λu s1 ⟨x,H1,I1,rx,d,ao,F1,sd,c1,f1,h1,C,ns,xs,sp,ed,M,hm,hq⟩=>?_) ht
 subst ed
 obtain⟨a,dx,ws,rfl,ea,hl,r0⟩:=Bp sd
 obtain rfl:u=cZ a:=rx
 obtain⟨f,fd,ps,pO,FO,hb⟩:=M.ex
 refine DP I1 ea M.cls pO (K4 hm) ?_
 refine PySem.W.callWith_K (first:=[.ref a]) (h₀:=X.base) I.ok.mod.nu pO.kp (aS (ha pos pins s1 σ H1 (λvs H2=>∃ds aT F2,S F2 H2 ds vs/\aq B F2 H2 σ aT ts/\af F1 F2/\af H1 H2/\sp ((D.obj C ns xs::ds).map D.sh) (λr=>((D.obj C ns xs::ds).all D.pl||r.fr)=true/\Qd r aT) λ_=>False) I1
  ⟨B,F1,ao,ts,_,c1,hq,λds aT vs F2 H2 hq f2 h2 c2 s2=>⟨ds,aT,F2,s2,c2,f2,h2,hq⟩⟩) λus s2 ⟨vs,H2,I2,r,ds,aT,F2,K5,c2,f2,h2,iq⟩=>⟨I2.di,?_⟩) dj bQ
 refine uB (us:=.ref a::us) (vs:=.ref a::vs) (fm:=[]) (KJ FO) hr hb .nil KI I2 (.cons rfl r) ?_
 rw[fV]
 exact Ah (sp:=λds Q=>sp ds Q λ_=>False) c2 (.obj (h2 _ _ ea) hl (r0.shared f2 h2) K5) iq λd v F' H' hd hf hs c'=>k d aT v F' H' hd (f1.trans (f2.trans hf)) (h1.trans (h2.trans hs)) c'
end
section
variable{X:Cx}{tb th:cL}{body ea1:List Stmt}{ea2:Stmt}{K:Str}{Kc:Addr}{kp ea3 pos:Pos}
end
structure sS(K:PySem.W.Frag)(C:Addr):Prop where
 cls:cB K C
 ha:PySem.W.findIn K (.ref C) "__class__"=some (some (.builtin "object.__class__"))
 hn:PySem.W.specialIn K (.builtin "object.__class__") "__get__"=some (some (.builtin "getset_descriptor.__get__"))
 DQ:PySem.W.takesIn K (.builtin "object.__class__")=some true
 hm:PySem.W.mroIn K C (.type "object")=some true
def v9(K:PySem.W.Frag)(cv:Value)(t:aO):aO:=λδ Q=>t δ λd ah=>∃C ns xs r,d=.obj C ns xs/\sS K C/\PySem.W.kitOne K (.ref C) cv=some r/\Q (.bl r) ah
theorem cR6{X:Cx}{a:Expr}{ta:aO}{p pos:Pos}{y:Str}{q:Pos}{C:Addr}(hg:Gl X "isinstance")(hm:X.mg "isinstance"=none)(Ku:Gl X y)(Eg:X.mg y=some (.ref C))(ha:PE X a (lB ta))(hd:(y==("__debug__":Str))=false:=by decide)
  (hs:starEach [a,.Name y q] X.env=(false,eval a X.env)::starEach [.Name y q] X.env:=by rfl) (fw:starEach [.Name y q] X.env=(false,eval (.Name y q) X.env)::starEach [] X.env:=by rfl) (bQ:(backTo pos (starEach [.Name y q] X.env)).any (·.1)=false:=by rfl) :
  PE X (.Call (.Name "isinstance" p) [a,.Name y q] [] pos) (lE (v9 X.K (.ref C) ta)) :=
 dA (DS ch1 hg hm WX (bX ha (bX (cC2 (v:=.ref C) Ku Eg rfl hd) e7 fw) hs) (by decide) (by decide) hs bQ) λσ H Q ⟨B,F,δ,ts,Qd,c,q,k⟩=>⟨B,F,δ,ts,_,c,q,λd ao v F1 H1 q1 f1 h1 c1 s1=>by
  obtain⟨C',ns,xs,r,ed,oc,e,qr⟩:=q1
  subst ed
  obtain⟨a,dx,ws,rfl,ea,_,_⟩:=Bp s1
  exact⟨.ref a,_,_,.ref C',r,rfl,rfl,.ty (.ins ea oc.cls oc.ha oc.hn oc.DQ oc.hm),e,k _ ao _ F1 H1 qr f1 h1 (c1.pushS (.bl .nil) rfl)⟩⟩
end L3
namespace L3
open PySem L2 Mf
theorem Y6{m:Bool × Nat}(hm:m∈aI){a b:Nat}(a1:1<=a)(a2:a<ae m)(b1:1<=b)(b2:b<ae m):∃r:Nat,pw m ((lg m a-lg m b)%((ae m:Int)-1)).toNat=r/\r<ae m/\gm m r b=a:=by
 have hF:=dn hm
 have fc:=hF.lo
 have n0:=gW (lg m a-lg m b) (show(ae m:Int)-1≠0 by omega)
 have n1:=ib (lg m a-lg m b) (show(0:Int)<(ae m:Int)-1 by omega)
 obtain⟨p1,p2,p3⟩:=EF hm (k:=((lg m a-lg m b)%((ae m:Int)-1)).toNat) (by omega)
 obtain⟨g0,g1,g2⟩:=EG hm a1 a2
 refine⟨(pw m ((lg m a-lg m b)%((ae m:Int)-1)).toNat).toNat,by omega,by omega,?_⟩
 have e:=La hm (a:=(pw m ((lg m a-lg m b)%((ae m:Int)-1)).toNat).toNat) (by omega) (by omega) b1 b2
 rw[p3,zu n0,Int.emod_add_emod,Int.sub_add_cancel,Vv g0 g1,g2]at e
 omega
end L3
namespace L3
open PySem L2 PySem.Spec PyProof.Rows
section
variable{X:Cx}{e o a:Expr}{es:List Expr}{f m y:Str}{pos p apos q:Pos}{t to ta':aO}{ta:cK}{n:Nat}{P:Program}{w:World}{K:PySem.W.Frag}{mg:Str->Option Value}{base:Heap}
theorem dW(he:PE X e (lB t))(hK:K=X.K:=by rfl)(hb:attributeBase e f X.env (eval e X.env)=eval e X.env:=by rfl):PE X (.Attribute e f pos) (lB (sH K t f)):=by
 subst hK;exact cV8 he hb
theorem jt{pl:Sem Bool}(ho:PE X o (lB to))(hr:cj n X.A)(ha:PA X (e::es) (lA ta))(hP:P=X.prog:=by rfl)(hw:w=X.w:=by rfl)(hK:K=X.K:=by rfl)(hm:mg=X.mg:=by rfl)(hb:base=X.base:=by rfl)
  (dj:starEach (e::es) X.env=(false,eval e X.env)::starEach es X.env:=by rfl) (bQ:(backTo pos (starEach es X.env)).any (·.1)=false:=by rfl)
  (ht:eval (.Call (.Attribute o m apos) (e::es) [] pos) X.env=(do
   let ov<-eval o X.env
   standAt apos.atName
   let (f,first)<-holding [ov] (getMethod ov m pl)
   callWith pos f first (backTo pos (starEach (e::es) X.env)) (backToKw pos (keywordEach [] X.env))):=by rfl) :
  PE X (.Call (.Attribute o m apos) (e::es) [] pos) (lE (sI (jO P w K mg base n m) m to ta)):=by
 subst hP hw hK hm hb;exact cK7 ho hr ha dj bQ ht
theorem kW{pl:Sem Bool}(ho:PE X o (lB to))(hr:cj n X.A)(hP:P=X.prog:=by rfl)(hw:w=X.w:=by rfl)(hK:K=X.K:=by rfl)(hm:mg=X.mg:=by rfl)(hb:base=X.base:=by rfl)
  (ht:eval (.Call (.Attribute o m apos) [] [] pos) X.env=(do
   let ov<-eval o X.env
   standAt apos.atName
   let (f,first)<-holding [ov] (getMethod ov m pl)
   callWith pos f first (backTo pos (starEach [] X.env)) (backToKw pos (keywordEach [] X.env))):=by rfl) :
  PE X (.Call (.Attribute o m apos) [] [] pos) (lE (sJ (jO P w K mg base n m) m to)):=by
 subst hP hw hK hm hb;exact cF1 ho hr ht
theorem Y7{pl:Sem Bool}(ho:PE X o (lB to))(hr:cj n X.A)(ha:PA X (e::es) (lA ta))(hP:P=X.prog:=by rfl)(hw:w=X.w:=by rfl)(hK:K=X.K:=by rfl)(hm:mg=X.mg:=by rfl)(hb:base=X.base:=by rfl)
  (dj:starEach (e::es) X.env=(false,eval e X.env)::starEach es X.env:=by rfl) (bQ:(backTo pos (starEach es X.env)).any (·.1)=false:=by rfl)
  (ht:eval (.Call (.Attribute o m apos) (e::es) [] pos) X.env=(do
   let ov<-eval o X.env
   standAt apos.atName
   let (f,first)<-holding [ov] (getMethod ov m pl)
   callWith pos f first (backTo pos (starEach (e::es) X.env)) (backToKw pos (keywordEach [] X.env))):=by rfl) :
  PE X (.Call (.Attribute o m apos) (e::es) [] pos) (lE (sR (EJ P w K mg base n m) m to ta)):=by
 subst hP hw hK hm hb;exact cE7 ho hr ha dj bQ ht
end
theorem Ld:∀m∈Mf.aI,1<=Mf.bl m.2/\Mf.bl m.2<=7:=by decide +kernel
end L3
namespace L3
open PySem L2 Mf
def gp(m:Bool × Nat)(a b:Nat):Nat:=if m.1 then a ^^^ b else(a+b)%m.2
def gl(m:Bool × Nat)(a b:Nat):Int:=if m.1 then(a ^^^ b:Nat)else((a:Int)-b)%m.2
def gd(m:Bool × Nat)(xs ys:List Nat):Nat:=(cW (gm m) xs ys).foldl (gp m) 0
def pS(c:Int):Bool × Nat:=if c%2=0 then(true,gO.getD (c/2%21).toNat 0)else(false,n8.getD (c/2%18).toNat 0)
theorem co3(c:Int):pS c∈aI:=by
 unfold pS
 split
 ·refine eZ _ (bH.mpr ⟨_,?_,rfl⟩)
  have h:(c/2%21).toNat<gO.length:=by
   have:=ib (c/2) (show(0:Int)<21 by decide)
   show _<21
   omega
  rw[aU,aP h]
  exact dE _
 ·refine df _ (bH.mpr ⟨_,?_,rfl⟩)
  have h:(c/2%18).toNat<n8.length:=by
   have:=ib (c/2) (show(0:Int)<18 by decide)
   show _<18
   omega
  rw[aU,aP h]
  exact dE _
def dr(m:Bool × Nat):D:=.tup [.bl m.1,.int m.2]
theorem wb(cb cp:Addr)(m:Bool × Nat):fD cb cp m=.obj (if m.1 then cb else cp) (if m.1 then iE "bits"++[("products":Str)]else iE "prime") (if m.1 then pD (true,m.2)++[.lst false (oh (fl (true,m.2)) (eO (fl (true,m.2))))]else pD (false,m.2)):=by
 obtain⟨k,n⟩:=m
 cases k<;>rfl
theorem Y8(m:Bool × Nat)(x:Str)(h:x ∉ (["bits","prime","many","wide","powers","logs","step","products"]:List Str)):x ∉ (if m.1 then iE "bits"++[("products":Str)]else iE "prime"):=by
 obtain⟨k,n⟩:=m
 intro z
 apply h
 cases k
 ·have z:x∈iE "prime":=z
  simp[iE]at z
  simp only[cz]
  rcases z with z | z | z | z | z | z<;>simp[z]
 ·have z:x∈iE "bits"++[("products":Str)]:=z
  simp[iE]at z
  simp only[cz]
  rcases z with z | z | z | z | z | z | z<;>simp[z]
theorem EK(cb cp:Addr)(m:Bool × Nat):(fD cb cp m).sh=fD cb cp m:=by rw[wb];rfl
theorem Y9(cb cp:Addr)(m:Bool × Nat):(fD cb cp m).pl=true:=by rw[wb];rfl
theorem cy3(m:Bool × Nat):(dr m).sh=dr m:=rfl
theorem cy4(m:Bool × Nat):(dr m).pl=true:=rfl
def Za(P:Program)(w:World)(K:PySem.W.Frag)(mg:Str->Option Value)(base:Heap)(n:Nat)(cb cp:Addr)(m:Bool × Nat)(x:Str)(ds:List D)(Q:D->Prop):Prop:=∃C ns xs sp,fD cb cp m=.obj C ns xs/\jO P w K mg base n x C sp/\x ∉ ns/\sp (.obj C ns xs::ds) Q
theorem Zb{p:Nat}(hp:0<p):∀(l:List Nat) (acc:Nat),acc<p->l.foldl (gp (false,p)) acc=(acc+l.sum)%p
 | [],acc,h=>by simp[zr h]
 | x::l,acc,h=>by
  rw[ua,show gp (false,p) acc x=(acc+x)%p from rfl,Zb hp l _ (uk _ hp),Vw]
  show((acc+x)%p+l.sum)%p=_
  rw[zt,IL]
theorem Zc(p:Nat):∀xs ys:List Nat,(cW (gm (false,p)) xs ys).sum%p=(cW (· * ·) xs ys).sum%p
 | [],_=>by simp
 | _::_,[]=>by simp
 | x::xs,y::ys=>by
  simp only[Vx,Vw]
  show(x*y%p+_)%p=_
  rw[zt,Nat.add_mod,Zc p xs ys,<- Nat.add_mod]
theorem Zd:∀xs ys:List Nat,(cW (· * ·) (xs.map λ(n:Nat)=>(n:Int)) (ys.map λ(n:Nat)=>(n:Int))).sum=(((cW (· * ·) xs ys).sum:Nat):Int)
 | [],_=>by simp
 | _::_,[]=>by simp
 | x::xs,y::ys=>by
  simp only[dv,Vx,Vw]
  rw[Zd xs ys,IQ,um]
theorem pU(m:Bool × Nat)(a b:Nat):gp m a b=gp m b a:=by
 unfold gp
 split
 ·rw[Vc]
 ·rw[Va]
theorem Le(m:Bool × Nat)(a b c:Nat):gp m (gp m a b) c=gp m a (gp m b c):=by
 unfold gp
 split
 ·rw[qD]
 ·rw[zt,Nat.add_mod_mod,IL]
theorem Lf{m:Bool × Nat}(h:0<m.2)(a b c:Nat):gm m (gp m a b) c=gp m (gm m a c) (gm m b c):=by
 unfold gm gp
 split
 ·rw[oW,EE (by omega)]
 ·rw[zo,Vt,<- zo,Nat.add_mul,zt,Nat.add_mod_mod]
theorem Ze{m:Bool × Nat}(h:0<m.2)(a b c:Nat):gm m c (gp m a b)=gp m (gm m c a) (gm m c b):=by rw[iS,Lf h,iS m a,iS m b]
theorem cn1:∀m∈aI,m.1=true->2<=bl m.2:=by decide +kernel
theorem Zf{m:Bool × Nat}(hm:m∈aI){a b:Nat}(ha:a<ae m)(hb:b<ae m):gp m a b<ae m:=by
 have h0:=dq m hm
 obtain⟨k,n⟩:=m
 cases k with
 | true=>exact uF ha hb
 | false=>exact uk _ h0
theorem dD{m:Bool × Nat}(hm:m∈aI)(a b:Nat):gm m a b<ae m:=by
 have h0:=dq m hm
 obtain⟨k,n⟩:=m
 cases k with
 | true =>
  have h2:=cn1 (true,n) hm rfl
  have:=(zY (show n≠0 by have:0<n:=h0;omega) (cl a b)).2
  refine(YY rfl).mpr ?_
  show bl (md (cl a b) n)<=bl n-1
  omega
 | false=>exact uk _ h0
theorem Zg{m:Bool × Nat}{a:Nat}(ha:a<ae m):gp m 0 a=a:=by
 obtain⟨k,n⟩:=m
 cases k with
 | true=>exact oJ a
 | false=>show(0+a)%n=a;rw[Vy];exact zr ha
theorem BA{m:Bool × Nat}{a:Nat}(ha:a<ae m):gp m a 0=a:=by rw[pU];exact Zg ha
theorem cV9{m:Bool × Nat}(hm:m∈aI){a b:Nat}(ha:a<ae m)(hb:b<ae m):∃r:Nat,gl m a b=r/\r<ae m/\gp m r b=a:=by
 have h0:=dq m hm
 obtain⟨k,n⟩:=m
 cases k with
 | true=>exact⟨a ^^^ b,rfl,uF ha hb,by show a ^^^ b ^^^ b=a;rw[qD,De,lN]⟩
 | false =>
  have h0:0<n:=h0
  have ha:a<n:=ha
  have hb:b<n:=hb
  refine⟨(a+(n-b))%n,?_,uk _ h0,?_⟩
  ·show((a:Int)-b)%n=_
   rw[oM,IQ,Int.natCast_sub (by omega),show((a:Int)+((n:Int)-b))=((a:Int)-b)+n by omega,Int.add_emod_right]
  ·show((a+(n-b))%n+b)%n=a
   rw[zt,show a+(n-b)+b=a+n by omega,Nat.add_mod_right,zr ha]
def eS(m:Bool × Nat)(n:Int):Nat:=(pw m (n%((ae m:Int)-1)).toNat).toNat
theorem wc{m:Bool × Nat}(hm:m∈aI)(n:Int):1<=eS m n/\eS m n<ae m/\lg m (eS m n)=n%((ae m:Int)-1)/\pw m (n%((ae m:Int)-1)).toNat=eS m n:=by
 have fc:=(dn hm).lo
 have n0:=gW n (show(ae m:Int)-1≠0 by omega)
 have n1:=ib n (show(0:Int)<(ae m:Int)-1 by omega)
 obtain⟨p1,p2,p3⟩:=EF hm (k:=(n%((ae m:Int)-1)).toNat) (by omega)
 unfold eS
 rw[p3]
 omega
theorem c79{m:Bool × Nat}(hm:m∈aI)(n:Int):eS m n<ae m:=(wc hm n).2.1
theorem cX4{m:Bool × Nat}(hm:m∈aI)(a b:Int):gm m (eS m a) (eS m b)=eS m (a+b):=by
 obtain⟨a1,a2,a3,_⟩:=wc hm a
 obtain⟨b1,b2,b3,_⟩:=wc hm b
 have e:=La hm a1 a2 b1 b2
 rw[a3,b3,<- Int.add_emod]at e
 have c:=(wc hm (a+b)).2.2.2
 rw[c]at e
 omega
theorem Zh{m:Bool × Nat}(hm:m∈aI){a:Nat}(h1:1<=a)(h2:a<ae m):eS m (lg m a)=a:=by
 obtain⟨g0,g1,g2⟩:=EG hm h1 h2
 unfold eS
 rw[Vv g0 g1,g2];rfl
theorem Zi{m:Bool × Nat}(hm:m∈aI)(n:Int):(fl m)[(n%((ae m:Int)-1)).toNat]?=some ((eS m n:Nat):Int):=by
 have hF:=dn hm
 have fc:=hF.lo
 have n0:=gW n (show(ae m:Int)-1≠0 by omega)
 have n1:=ib n (show(0:Int)<(ae m:Int)-1 by omega)
 have hk:(n%((ae m:Int)-1)).toNat<(fl m).length:=by have:=hF.len;omega
 rw[<-(wc hm n).2.2.2]
 unfold pw
 rw[aU,aP hk];rfl
theorem cU2{m:Bool × Nat}(hm:m∈aI){a b:Nat}(a1:1<=a)(a2:a<ae m)(b1:1<=b)(b2:b<ae m):gm m a b≠0:=by
 rw[<-Zh hm a1 a2,<- Zh hm b1 b2,cX4 hm]
 have:=(wc hm (lg m a+lg m b)).1
 omega
end L3
namespace L2
open PySem PySem.Spec PyProof.Rows
section
variable{X:Cx}{a:Expr}{ta:TA}{p pos:Pos}{tg:Expr}
end
end L2
namespace L3
open PySem L2 PySem.Spec PyProof.Rows
section
variable{F H:Hp}{K:PySem.W.Frag}{p:Addr}{ws:List V}{xs:List D}
end
section
variable{X:Cx}{a:Expr}{ta:cK}{p pos:Pos}{tg:Expr}
end
end L3
namespace L3
open PySem L2 Mf
def AllLt(n:Nat)(l:List Nat):Prop:=∀a∈l,a<n
theorem AllLt.getD{n:Nat}{l:List Nat}(h:AllLt n l)(h0:0<n)(k:Nat):l.getD k 0<n:=by
 rw[aU]
 cases e:l[k]? with
 | none=>exact h0
 | some v=>exact h v (tZ e)
end L3
namespace L3
open PySem L2 PySem.Spec PyProof.Rows
theorem cf7(n:Nat)(l:List Nat):(ak l).all (dU n)=true:=by
 rw[cE,ni,dz]
 intro a _
 exact su n _
theorem mL(n:Nat)(o:Bool)(l:List Nat):dU (n+1) (.lst o (ak l))=true:=cf7 n l
theorem sT(o o':Bool)(a b:List Nat):bJ (.lst o (ak a)) (.lst o' (ak b))=decide (a=b):=by
 unfold ak
 rw[vJ]
 congr 1
 apply propext
 constructor
 ·intro h
  have:=congrArg (qH fJ) h
  have e:(fJ ∘ λ(n:Nat)=>(n:Int))=id:=by funext x;rfl
  rw[cA,cA,e,List.map_id,List.map_id]at this
  exact this
 ·intro h;rw[h]
theorem oi{l:List Nat}{k:Int}(h0:0<=k)(h:k.toNat<l.length):eJ (ak l) k=some (.int ((l.getD k.toNat 0:Nat):Int)):=by
 refine nB h0 ?_
 rw[cE,cu,aP h,aU,aP h];rfl
theorem sU{n:Nat}{k:Int}(h0:0<=k)(h:k.toNat<n):g9 n k=some k.toNat:=by
 unfold g9
 rw[if_pos h0,if_pos (by omega)]
theorem pV{n:Nat}(k:Int)(h:k=n):(((aM k.toNat).map λ(k:Nat)=>D.int (0+(k:Int))).map D.sh)=(aM n).map λ(i:Nat)=>D.int (i:Int):=by
 subst h
 rw[Aj,gU]
 simp
theorem Zj(l:List Nat)(k v:Nat):(ak l).set k (.int (v:Nat))=ak (l.set k v):=by
 rw[cE,cE,zw]
theorem co1(l:List Nat):(ak l).all D.fr=true:=sq _
theorem BB(o:Bool)(l:List Nat):(D.lst o (ak l)).sh=.lst false (ak l):=by rw[dQ,sE]
theorem hV(l:List Nat):(D.lst true (ak l)).fr=true:=by rw[fL,co1];rfl
theorem cC0{xs:List D}{i:Nat}{d:D}(h:(fP xs)[i]?=some d):∃hi:i<xs.length,d=.tup [.int i,xs[i]]:=by
 have hi:i<(fP xs).length:=(iZ.mp h).1
 rw[sA]at hi
 refine⟨hi,?_⟩
 unfold fP at h
 rw[Dk,aP hi]at h
 exact(cV h).symm
theorem co9{l:List Nat}{i:Nat}{d:D}(h:(fP (ak l))[i]?=some d):∃hi:i<l.length,d=.tup [.int i,.int (l[i]:Nat)]:=by
 obtain⟨hi,e⟩:=cC0 h
 rw[eo]at hi
 refine⟨hi,?_⟩
 rw[e]
 simp only[cE,zx]
theorem cm0{a:Int}{n i:Nat}{d:D}(h:((aM n).map λ(k:Nat)=>D.int (a+(k:Int)))[i]?=some d):i<n/\d=.int (a+i):=by
 have hi:i<n:=by
  have:=(iZ.mp h).1
  simpa using this
 refine⟨hi,?_⟩
 rw[cu,jZ hi]at h
 exact(cV h).symm
section
variable{X:Cx}
end
end L3
namespace L3
open PySem L2 Mf
def bR(m:Bool × Nat)(a b:Nat):Nat:=(gl m a b).toNat
theorem mM{m:Bool × Nat}(hm:m∈aI){a b:Nat}(ha:a<ae m)(hb:b<ae m):gl m a b=(bR m a b:Nat)/\bR m a b<ae m/\gp m (bR m a b) b=a:=by
 obtain⟨r,e,h1,h2⟩:=cV9 hm ha hb
 have:bR m a b=r:=by unfold bR;rw[e];rfl
 rw[this]
 exact⟨e,h1,h2⟩
theorem Lg{n:Nat}{f:Nat->Nat->Nat}:∀{a b:List Nat},(∀x∈a,∀y∈b,f x y<n)->AllLt n (cW f a b)
 | [],_,_=>by intro x hx;simp at hx
 | _::_,[],_=>by intro x hx;simp at hx
 | x::a,y::b,h=>by
  intro z hz
  rw[Vx]at hz
  rcases cz.mp hz with rfl | hz
  ·exact h x (by simp) y (by simp)
  ·exact Lg (λx hx y hy=>h x (by simp[hx]) y (by simp[hy])) z hz
theorem bX9(xs ys:List Nat):(dJ (ak xs) (ak ys)).map D.sh=(xs.zip ys).map λz=>D.tup [.int (z.1:Int),.int (z.2:Int)]:=by
 unfold ak
 rw[Y5,List.zip_map,cA];rfl
theorem Lh{sh:Bool}{aE:List (Str × Nat)}{n i1 i2:Nat}{te:aO}{ao:Dl}{Q:D->Dl->Prop}(f:Nat->Nat->Nat){A B:List Nat}(hx:∀x∈A,∀y∈B,jM i1 i2 (.tup [.int (x:Int),.int (y:Int)]) (gA aE n ao) λaT=>te aT λd _=>d=.int ((f x y:Nat):Int))
  (hl:A.length<=100000) (hq:Q (.lst true (ak (cW f A B))) ao):vb sh (dJ (ak A) (ak B)) aE n (jM i1 i2) mC te ao Q:=by
 refine Lb (A.zip B) (λz=>D.tup [.int (z.1:Int),.int (z.2:Int)]) (λz=>D.int ((f z.1 z.2:Nat):Int)) (bX9 A B) (λa b h=>?_) (λz hz=>hx z.1 (tX hz).1 z.2 (tX hz).2) Lc (.inr λ_ _=>rfl) (by rw[IT,sL];omega) ?_
 ·injection h with h
  simp at h
  exact Prod.ext (by omega) (by omega)
 ·rw[show((A.zip B).map λz=>D.int ((f z.1 z.2:Nat):Int))=ak (cW f A B) by rw[cE,List.zip,IM,IM]]
  exact hq
end L3
namespace L3
open PySem L2 PySem.Spec PyProof.Rows
theorem aq.ei9{B:Bs}{F H:Hp}{σ:L2.St}{δ:Dl}{ps ts:List (D × V)}{p:Addr}{o:HO}{A1:List Addr}(c:aq B F H σ δ (ps++ts))(hp:H p=none)(r:R F (upd H p o) (ps.map (·.1)) (ps.map (·.2)) A1):p ∉ A1:=λh=>by
 obtain⟨A,C,r0,_,_,_⟩:=c.own
 rw[fv,fv]at r0
 obtain⟨v1,v2,B1,B2,e,rfl,h1,h2⟩:=R.split r0
 have l1:(ps.map (·.2)).length=v1.length:=by rw[<-h1.length];simp
 obtain⟨rfl,rfl⟩:=zh e l1
 have g1:=h1.grow (af.refl F) (af.upd (o:=o) hp) λa ha=>(h1.lists a ha).2
 have:A1=B1:=R.inj r g1
 subst this
 obtain⟨ws,e⟩:=(h1.lists p h).1
 rw[hp]at e;cases e
theorem aq.join{B:Bs}{F H:Hp}{σ:L2.St}{δ:Dl}{ts:List (D × V)}{p p' r:Addr}{xs ys:List D}{ws gL:List V}(c:aq B F H σ δ ((.lst true ys,.ref p')::(.lst true xs,.ref p)::ts))(e1:H p=some (.lst ws))(e2:H p'=some (.lst gL))(hr:H r=none) :
  aq B F (upd H r (.lst (ws++gL))) σ δ ((.lst true (xs++ys),.ref r)::ts):=by
 refine aq.pack (ps:=[(.lst true ys,.ref p'),(.lst true xs,.ref p)]) c (af.upd hr) λA1 r1 nd=>?_
 have nin:=aq.ei9 (ps:=[(.lst true ys,.ref p'),(.lst true xs,.ref p)]) (ts:=ts) c hr r1
 have n1:p≠r:=λz=>by rw[z,hr]at e1;cases e1
 have n2:p'≠r:=λz=>by rw[z,hr]at e2;cases e2
 have r1:R F (upd H r (.lst (ws++gL))) [.lst true ys,.lst true xs] [.ref p',.ref p] A1:=r1
 cases r1 with
 | @own _ wy _ Ay _ _ By hy fy ry rb =>
  cases rb with
  | @own _ wx _ Ax _ _ Bx hx fx rx rc =>
   cases rc
   rw[bf n2,e2]at hy;cases hy
   rw[bf n1,e1]at hx;cases hx
   refine⟨r::(Ax++Ay),by simpa using R.own bM (c.ext.free hr) (rx.append ry) .nil,?_,λa ha=>?_⟩
   ·refine jW.mpr ⟨λz=>nin ?_,?_⟩
    ·rcases bZ.mp z with z | z<;>simp[z]
    ·have sl:(Ay++Ax).Sublist (p'::Ay++(p::Ax++[])):=by
      rw[fV]
      exact(((dE2 p Ax).append_left Ay).trans (dE2 p' _))
     exact oK.nodup_iff.mp (nd.sublist sl)
   ·simp only[cz,bZ]at ha ⊢
    rcases ha with rfl | ha | ha
    ·exact .inr hr
    ·simp[ha]
    ·simp[ha]
section
variable{X:Cx}{a b:Expr}{ta tb:aO}{pos:Pos}
def we(ta tb:aO):aO:=λδ Q=>ta δ λx ao=>tb ao λy aT=>∃xs ys,x=.lst true xs/\y=.lst true ys/\xs.length+ys.length<=sizeLine/\Q (.lst true (xs++ys)) aT
theorem cQ9(ha:PE X a (lE ta))(hb:PE X b (lE tb)):PE X (.BinOp a .Add b pos) (lE (we ta tb)) :=
 dA (zP Wx ha hb) λσ H Q ⟨B,F,δ,ts,Qd,c,q,k⟩ =>
  ⟨B,F,δ,ts,_,c,q,λx ao v F1 H1 q1 f1 h1 c1=>⟨B,F1,ao,(x,v)::ts,_,c1,q1,λy aT w F2 H2 q2 f2 h2 c2=>by
   obtain⟨xs,ys,rfl,rfl,hz,hq⟩:=q2
   obtain⟨p',gL,rfl,e2,s2⟩:=jo c2.top c2.ext
   obtain⟨p,ws,rfl,e1,s1⟩:=jo c2.pop.top c2.ext
   refine⟨p,p',ws,gL,rfl,rfl,e1,e2,by rw[<-s1.length,<- s2.length];exact hz,λr hr=>?_⟩
   exact k _ aT _ F2 _ hq (f1.trans f2) ((h1.trans h2).trans (af.upd hr)) (c2.join e1 e2 hr)⟩⟩
end
theorem ci4{a b:List Nat}(h:ak a=ak b):a=b:=by
 have:=sT true true a b
 rw[h,show bJ (D.lst true (ak b)) (D.lst true (ak b))=true from(sT _ _ _ _).trans (decide_eq_true rfl)]at this
 exact of_decide_eq_true this.symm
theorem mO{o:Bool}(a b:List Nat)(h:D.lst o (ak a)=D.lst o (ak b)):a=b:=ci4 (by injection h)
end L3
namespace L3
open PySem L2 Mf
end L3
namespace L2
open PySem PySem.Spec PyProof.Rows
end L2
namespace L3
open PySem L2 PySem.Spec PyProof.Rows Mf
end L3
namespace L3
open PySem L2 Mf
def cf(l:List Nat)(k:Nat):Nat:=l.getD k 0
theorem wg{l:List Nat}{k:Nat}(h:l.length<=k):cf l k=0:=by
 unfold cf;rw[aU,gr h];rfl
theorem fQ{m:Bool × Nat}(hm:m∈aI){l:List Nat}(h:AllLt (ae m) l)(k:Nat):cf l k<ae m:=h.getD (by have:=(dn hm).lo;omega) k
theorem Zk(m:Bool × Nat)(x:Nat):bR m x x=0:=by
 obtain⟨k,n⟩:=m
 cases k with
 | true=>show(((x ^^^ x:Nat):Int)).toNat=0;rw[De];rfl
 | false=>show(((x:Int)-(x:Int))%(n:Int)).toNat=0;rw[Int.sub_self,Int.zero_emod];rfl
end L3
namespace L3
open PySem L2 PySem.Spec PyProof.Rows
section
variable{B:Bs}{F H:Hp}{σ:L2.St}{δ:Dl}{ts ps:List (D × V)}{i k:Nat}{p q:Addr}{l1 l2 ys rk:List D}{ws iB:List V}
end
section
variable{X:Cx}{F H:Hp}{e b:Expr}{pos p p2 p3 pr apos cw KA:Pos}{t ti te:aO}{x y:Str}{i j:Nat}
end
end L3
namespace L3
structure Rg(N:Nat)(p q:Nat->Nat->Nat):Prop where
 pc:∀a b,p a b=p b a
 pa:∀a b c,p (p a b) c=p a (p b c)
 mc:∀a b,q a b=q b a
 ma:∀{a b c},a<N->b<N->c<N->q (q a b) c=q a (q b c)
 dl:∀a b c,q a (p b c)=p (q a b) (q a c)
 z:∀{a},a<N->p 0 a=a
 qz:∀a,q a 0=0
 one:∀{a},a<N->q 1 a=a
 lp:∀{a b},a<N->b<N->p a b<N
 lq:∀a b,q a b<N
 ng:∀{a},a<N->∃b,b<N/\p a b=0
section
variable{N:Nat}{p q:Nat->Nat->Nat}
def sm(p:Nat->Nat->Nat):Nat->(Nat->Nat)->Nat
 | 0,_=>0
 | n+1,f=>p (sm p n f) (f n)
theorem Rg.pos(r:Rg N p q):0<N:=m8 (lK _) (r.lq 0 0)
theorem Rg.z'(r:Rg N p q){a:Nat}(h:a<N):p a 0=a:=by rw[r.pc];exact r.z h
theorem Rg.can(r:Rg N p q){a b c:Nat}(ha:a<N)(hb:b<N)(hc:c<N)(h:p a c=p b c):a=b:=by
 obtain⟨d,_,e⟩:=r.ng hc
 have:=congrArg (λx=>p x d) h
 simp only[r.pa,e]at this
 rw[r.z' ha,r.z' hb]at this
 exact this
theorem Rg.cn(r:Rg N p q){a b:Nat}(ha:a<N)(hb:b<N)(h:p a b=b):a=0:=r.can ha r.pos hb (by rw[h,r.z hb])
theorem eE{f g:Nat->Nat}:∀{n:Nat},(∀j,j<n->f j=g j)->sm p n f=sm p n g
 | 0,_=>rfl
 | n+1,h=>by rw[sm,sm,eE λj hj=>h j (by omega),h n (by omega)]
theorem pW(r:Rg N p q){f:Nat->Nat}:∀{n:Nat},(∀j,j<n->f j<N)->sm p n f<N
 | 0,_=>r.pos
 | n+1,h=>r.lp (pW r λj hj=>h j (by omega)) (h n (by omega))
theorem ju(r:Rg N p q){f:Nat->Nat}:∀{n:Nat},(∀j,j<n->f j=0)->sm p n f=0
 | 0,_=>rfl
 | n+1,h=>by rw[sm,ju r λj hj=>h j (by omega),h n (by omega)];exact r.z r.pos
theorem Rg.four(r:Rg N p q)(a b c d:Nat):p (p a b) (p c d)=p (p a c) (p b d):=by
 rw[r.pa,r.pa,<- r.pa b,<- r.pa c,r.pc b c]
theorem sV(r:Rg N p q)(f g:Nat->Nat):∀n,sm p n (λj=>p (f j) (g j))=p (sm p n f) (sm p n g)
 | 0=>(r.z r.pos).symm
 | n+1=>by rw[sm,sV r f g n,sm,sm,r.four]
theorem sW(r:Rg N p q)(c:Nat)(f:Nat->Nat):∀n,sm p n (λj=>q c (f j))=q c (sm p n f)
 | 0=>(r.qz c).symm
 | n+1=>by rw[sm,sW r c f n,sm,r.dl]
theorem Zl(r:Rg N p q)(F:Nat->Nat->Nat)(k:Nat):∀n,sm p n (λi=>sm p k λj=>F i j)=sm p k λj=>sm p n λi=>F i j
 | 0=>(ju r λ_ _=>rfl).symm
 | n+1=>by
  rw[sm,Zl r F k n,<- sV r];rfl
theorem Zm(r:Rg N p q){f:Nat->Nat}(n:Nat):∀k,(∀j,j<n+k->f j<N)->sm p (n+k) f=p (sm p n f) (sm p k λj=>f (n+j))
 | 0,h=>(r.z' (pW r λj hj=>h j (by omega))).symm
 | k+1,h=>by
  rw[<-IL,sm,Zm r n k λj hj=>h j (by omega),sm,r.pa]
end
end L3
namespace L3
section
variable{N:Nat}{p q:Nat->Nat->Nat}
end
end L3
namespace L3
open PySem L2 Mf
theorem rg{m:Bool × Nat}(hm:m∈aI):Rg (ae m) (gp m) (gm m) where
 pc:=pU m
 pa:=Le m
 mc:=iS m
 ma:=λ_ _ _=>km (dq m hm) _ _ _
 dl:=λa b c=>Ze (dq m hm) b c a
 z:=Zg
 qz:=λa=>kU m a (dq m hm)
 one:=sP
 lp:=Zf hm
 lq:=dD hm
 ng:=λ{a} ha=>by
  have g:=mM hm (a:=0) (b:=a) (by omega) ha
  exact⟨_,g.2.1,(pU m _ _).trans g.2.2⟩
theorem cn6(p:Nat->Nat->Nat)(l:List Nat):l.foldl p 0=sm p l.length λj=>l.getD j 0:=by
 have key:∀n,n<=l.length->(l.take n).foldl p 0=sm p n λj=>l.getD j 0:=by
  intro n
  induction n with
  | zero=>intro _;rfl
  | succ n ih =>
   intro h
   rw[nh,aP (by omega),Dm,ih (by omega),sm,aU,aP (show n<l.length by omega)]
   rfl
 have:=key l.length (bK _)
 rw[ug]at this
 exact this
theorem cP9{m:Bool × Nat}(hm:m∈aI)(f:Nat)(b:List Nat)(j:Nat):cf (b.map (gm m f)) j=gm m f (cf b j):=by
 unfold cf
 rw[aU,cu,aU]
 cases b[j]? with
 | none=>exact(kU m f (dq m hm)).symm
 | some x=>rfl
theorem Zn{m:Bool × Nat}(hm:m∈aI){a b:Nat}(ha:a<ae m)(hb:b<ae m)(h0:b≠0):∃r,r<ae m/\gm m r b=a:=by
 by_cases a0:a=0
 ·exact⟨0,by have:=(dn hm).lo;omega,by rw[a0];exact iF m b (dq m hm)⟩
 ·obtain⟨r,_,h1,h2⟩:=Y6 hm (show 1<=a by omega) ha (show 1<=b by omega) hb
  exact⟨r,h1,h2⟩
end L3
namespace L3
open PySem L2 PySem.Spec PyProof.Rows
section
variable{X:Cx}{i j:Nat}{x y:Str}{p pos pos' apos cw:Pos}
end
section
variable{X:Cx}{e:Expr}{t:aO}{p pos:Pos}
end
section
variable{X:Cx}
theorem cl0(i:Int)(ns:List Int):DU (.int i) (ns.map V.int)=decide (i∈ns):=by
 unfold DU
 rw[List.any_map,ue,Ve,decide_eq_true_iff]
 exact⟨λ⟨x,hx,he⟩=>(show x=i by simpa[mi]using he) ▸ hx,λhx=>⟨i,hx,by simp[mi]⟩⟩
def sX:cX:=λx y Q=>match x,y with
 | .int i,.lst _ xs=>∃ns:List Int,xs=aJ ns/\Q (.bl (!decide (i∈ns)))
 | _,_=>False
theorem cJ6:bW X (compareOp .NotIn) sX :=
 ⟨_,bM3,λ{B F H σ δ ts x y v w Q Qd} c sx sy h k=>by
  unfold sX at h
  split at h
  ·rename_i i o xs
   obtain⟨ns,rfl,q⟩:=h
   obtain⟨p,ws,rfl,e1,s1⟩:=jo sy c.ext
   have e:=KQ s1
   subst e
   cases sx
   refine⟨p,_,rfl,.inl (bN.of e1),rfl,by simp[nD],?_⟩
   rw[if_pos rfl,cl0]
   exact k _ _ _ q (af.refl _) (c.pushS (.bl .nil) rfl)
  ·exact h.elim⟩
end
end L3
namespace L3
open PySem L2 Mf
def ay(o:Bool)(T:List (List Nat)):List D:=T.map λr=>.lst o (ak r)
theorem kn(o:Bool)(T:List (List Nat)):(ay o T).length=T.length:=by unfold ay;rw[bA]
theorem eA(o:Bool)(T:List (List Nat)):(ay o T).map D.sh=ay false T:=by
 unfold ay
 rw[cA]
 exact uj λr _=>BB o r
theorem pX(T:List (List Nat)):(ay false T).all D.pl=true:=by
 unfold ay
 rw[ni,dz]
 intro r _
 show(D.lst false (ak r)).pl=true
 rw[fZ,kT];rfl
theorem pY(T:List (List Nat)):(ay true T).all D.fr=true:=by
 unfold ay
 rw[ni,dz]
 intro r _
 exact hV r
theorem sY(o:Bool)(S T:List (List Nat)):ay o S++ay o T=ay o (S++T):=by unfold ay;rw[fv]
theorem BC(o:Bool)(T:List (List Nat))(lo hi:Option Int):fO (ay o T) lo hi=ay o (fO T lo hi):=by
 unfold ay fO
 rw[bA,Vm,Vl]
theorem sZ(o:Bool){T:List (List Nat)}{i:Nat}(h:i<T.length):eJ (ay o T) (i:Int)=some (.lst o (ak T[i])):=by
 refine L3.El ?_
 unfold ay
 rw[cu,aP h];rfl
theorem b90(n:Nat)(o:Bool)(T:List (List Nat)):(ay o T).all (dU (n+1))=true:=by
 unfold ay
 rw[ni,dz]
 intro r _
 exact mL _ _ _
theorem wj(n:Nat)(o o':Bool)(T:List (List Nat)):dU (n+2) (.lst o (ay o' T))=true:=b90 n o' T
theorem Zo(o o':Bool):∀(a b:List (List Nat)),bJ.gh (ay o a) (ay o' b)=decide (a=b)
 | [],[]=>rfl
 | [],_::_=>by simp[ay,bJ.gh]
 | _::_,[]=>by simp[ay,bJ.gh]
 | x::xs,y::ys=>by
  show(bJ (.lst o (ak x)) (.lst o' (ak y))&&bJ.gh (ay o xs) (ay o' ys))=_
  rw[Zo o o' xs ys,sT,ue];simp
theorem Zp(o o' o1 o2:Bool)(a b:List (List Nat)):bJ (.lst o (ay o1 a)) (.lst o' (ay o2 b))=decide (a=b):=Zo o1 o2 a b
open Classical in
theorem Li{α:Type}{sh:Bool}{xs:List D}{aE:List (Str × Nat)}{n:Nat}{g0:iz}{tt:gz}{te:aO}{ao:Dl}{Q:D->Dl->Prop}(l:List α)(e g:α->D)(kp:α->Bool)(jr:xs.map D.sh=l.map e)(inj:∀a b,e a=e b->a=b)
  (hx:∀a∈l,g0 (e a) (gA aE n ao) λaT=>tt aT λb iP=>b=kp a/\(kp a=true->te iP λd _=>d=g a)) (eK:(sh&&aE.all (jn ao))=true\/∀a∈l,kp a=true->(g a).fr=true) (hl:l.length<=sizeLine) (hq:Q (.lst true ((l.filter kp).map g)) ao):vb sh xs aE n g0 tt te ao Q:=by
 have pick:∀{β:Type} (h:α->β) (z:β),∃f:D->β,∀a∈l,f (e a)=h a:=λh z=>⟨λx=>if w:∃a∈l,e a=x then h w.choose else z,λa ha=>by
  have w:∃b∈l,e b=e a:=⟨a,ha,rfl⟩
  show(if w:∃b∈l,e b=e a then h w.choose else z)=h a
  rw[dif_pos w]
  exact congrArg h (inj _ _ w.choose_spec.2)⟩
 obtain⟨f,hf⟩:=pick g .aw
 obtain⟨p,hp⟩:=pick kp false
 refine⟨p,f,λx h=>?_,eK.imp id λh x de=>?_,?_,?_⟩
 ·rw[jr]at h
  obtain⟨a,ha,rfl⟩:=bH.mp h
  rw[hp a ha,hf a ha]
  exact hx a ha
 ·rw[jr]at de
  obtain⟨a,ha,rfl⟩:=bH.mp de
  rw[hp a ha,hf a ha];exact h a ha
 ·have:=congrArg Iy jr
  simp at this
  omega
 ·rw[jr,List.filter_map,cA,show l.filter (p ∘ e)=l.filter kp from List.filter_congr λa ha=>hp a ha,show(l.filter kp).map (f ∘ e)=(l.filter kp).map g from uj λa ha=>hf a (tR.mp ha).1]
  exact hq
theorem Zq{o:Bool}{G:List (List Nat)}{i:Nat}{d:D}(h:(fP (ay o G))[i]?=some d):∃hi:i<G.length,d=.tup [.int i,.lst o (ak G[i])]:=by
 unfold fP ay at h
 rw[Dk,cu]at h
 by_cases hi:i<G.length
 ·rw[aP hi]at h
  exact⟨hi,(cV h).symm⟩
 ·rw[gr (by omega)]at h;cases h
theorem Lj(r:List Nat):(fP (ak r)).map D.sh=(aM r.length).map λ(i:Nat)=>D.tup [.int (i:Int),.int ((r.getD i 0:Nat):Int)]:=by
 apply Vn
 intro i
 unfold fP
 rw[cE,cu,Dk,cu,cu]
 by_cases hi:i<r.length
 ·have e:r.getD i 0=r[i]:=by rw[aU,aP hi];rfl
  rw[aP hi,jZ hi]
  show _=some (D.tup [D.int (i:Int),D.int ((r.getD i 0:Nat):Int)])
  rw[e];rfl
 ·rw[gr (show r.length<=i by omega),gr (show(aM r.length).length<=i by simpa using hi)];rfl
theorem Zr{r:List Nat}(h:∃x∈r,x≠0):((aM r.length).filter λi=>r.getD i 0 != 0)[0]?=some (r.findIdx (· != 0)):=by
 obtain⟨x,hx,h0⟩:=h
 have hl:r.findIdx (· != 0)<r.length:=Vz ⟨x,hx,by simpa using h0⟩
 rw[<-List.head?_eq_getElem?,List.head?_filter,List.find?_range_eq_some]
 refine⟨?_,da.mpr hl,λj hj=>?_⟩
 ·rw[aU,aP hl]
  exact dE3 (w:=hl)
 ·have:=List.not_of_lt_findIdx hj
  rw[aU,aP (by omega)]
  simpa using this
def av(T:List (List Nat)):Nat:=(T.headD []).length
def jQ(T:List (List Nat))(j:Nat):Option Nat:=T.findIdx? λr=>r.getD j 0 != 0
def gP(m:Bool × Nat)(T:List (List Nat))(l:List Nat)(j:Nat):List (List Nat):=T.map λr=>cW (λx y=>bR m x (gm m (r.getD j 0) y)) r l
def mP(m:Bool × Nat)(b:Nat):Nat:=((aM (ae m)).find? λr=>gm m r b==1).getD 0
theorem EL{m:Bool × Nat}(hm:m∈aI){b r:Nat}(hr:r<ae m)(h:gm m r b=1):mP m b=r:=by
 have m0:=dq m hm
 unfold mP
 cases e:(aM (ae m)).find? λr=>gm m r b==1 with
 | none =>
  have:=VA.mp e r (da.mpr hr)
  simp[h]at this
 | some r' =>
  have h':gm m r' b=1:=by simpa using List.find?_some e
  have l':r'<ae m:=da.mp (Vk e)
  show r'=r
  rw[<-sQ hr,<- h',<- km m0,iS m r r',km m0,h,sQ l']
def RT(N w:Nat)(T:List (List Nat)):Prop:=∀r∈T,r.length=w/\AllLt N r
theorem RT.app{N w:Nat}{S T:List (List Nat)}(a:RT N w S)(b:RT N w T):RT N w (S++T):=λr hr=>(bZ.mp hr).elim (a r) (b r)
theorem Zs{m:Bool × Nat}(hm:m∈aI){w j:Nat}{T:List (List Nat)}{l:List Nat}(h:RT (ae m) w T)(hl:l.length=w):RT (ae m) w (gP m T l j):=λr hr=>by
 obtain⟨r,h1,rfl⟩:=bH.mp hr
 obtain⟨a,b⟩:=h r h1
 exact⟨by rw[i7,a,hl,Dh],Lg λx hx y hy=>(mM hm (b x hx) (dD hm _ y)).2.1⟩
def eG(m:Bool × Nat)(T:List (List Nat))(i p:Nat):List Nat:=(T.getD i []).map (gm m (mP m ((T.getD i []).getD p 0)))
def iG(m:Bool × Nat)(s:List (List Nat) × List (List Nat))(p:Nat):List (List Nat) × List (List Nat):=match jQ s.2 p with
 | none=>s
 | some i=>(gP m s.1 (eG m s.2 i p) p++[eG m s.2 i p],gP m (s.2.take i++s.2.drop (i+1)) (eG m s.2 i p) p)
def jR(m:Bool × Nat)(G:List (List Nat))(k:Nat):List (List Nat) × List (List Nat):=(aM k).foldl (iG m) ([],G)
def bY(m:Bool × Nat)(G:List (List Nat)):List (List Nat):=(jR m G (av G)).1
theorem Lk(m:Bool × Nat)(G:List (List Nat))(k:Nat):jR m G (k+1)=iG m (jR m G k) k:=by
 unfold jR
 rw[IU,Dm];rfl
theorem EM{T:List (List Nat)}{j i:Nat}(h:jQ T j=some i):∃hi:i<T.length,T[i].getD j 0≠0/\T.getD i []=T[i]:=by
 obtain⟨hi,h1,_⟩:=dE4.mp h
 exact⟨hi,by simpa using h1,by rw[aU,aP hi];rfl⟩
structure BD(N w n:Nat)(s:List (List Nat) × List (List Nat)):Prop where
 a:RT N w s.1
 b:RT N w s.2
 l:s.1.length+s.2.length<=n
theorem cr2{m:Bool × Nat}(hm:m∈aI){w n p:Nat}{s:List (List Nat) × List (List Nat)}(h:BD (ae m) w n s):BD (ae m) w n (iG m s p):=by
 unfold iG
 split
 ·exact h
 ·rename_i i e
  obtain⟨hi,h1,h2⟩:=EM e
  have hl:(eG m s.2 i p).length=w:=by unfold eG;rw[bA,h2];exact(h.b _ (dE hi)).1
  have hr:RT (ae m) w [eG m s.2 i p]:=λr hr=>by
   rw[fk]at hr
   refine⟨by rw[hr];exact hl,λx hx=>?_⟩
   rw[hr]at hx
   obtain⟨y,_,rfl⟩:=bH.mp hx
   exact dD hm _ _
  refine⟨(Zs hm h.a hl).app hr,Zs hm (λr hr=>h.b r ?_) hl,?_⟩
  ·rcases bZ.mp hr with hr | hr
   ·exact uh hr
   ·exact qG hr
  ·have:=h.l
   unfold gP
   rw[dN,bA,bA,dN,iJ,lL]
   show s.1.length+1+_<=n
   omega
theorem EN{m:Bool × Nat}(hm:m∈aI){w:Nat}{G:List (List Nat)}(h:RT (ae m) w G):∀k,BD (ae m) w G.length (jR m G k)
 | 0=>⟨(λr hr=>nomatch hr),h,C5 (Vy _)⟩
 | k+1=>by rw[Lk];exact cr2 hm (EN hm h k)
theorem cl3(j:Nat)(l:List Nat):decide ((j:Int)∈l.map λ(n:Nat)=>(n:Int))=l.contains j:=by
 rw[ue,decide_eq_true_iff,IV,bH]
 exact⟨λ⟨a,h,e⟩=>(show a=j by omega) ▸ h,λh=>⟨j,h,rfl⟩⟩
theorem cG1{o:Bool}{G:List (List Nat)}{f:List Nat->Nat}{k:Nat}{d:D}(h:(dJ (ak (G.map f)) (ay o G))[k]?=some d):∃hk:k<G.length,d=.tup [.int ((f G[k]:Nat):Int),.lst o (ak G[k])]:=by
 unfold dJ ay at h
 rw[cE,nq,cu,cu,cu]at h
 by_cases hk:k<G.length
 ·rw[aP hk]at h
  exact⟨hk,(cV h).symm⟩
 ·rw[gr (by omega)]at h;cases h
theorem Zt{α:Type}(a:α->Nat)(b:α->Nat):∀(l:List α) (x:List Nat),(l.foldl (λx z=>x.set (a z) (b z)) x).length=x.length
 | [],_=>rfl
 | z::l,x=>by rw[ua,Zt a b l,jY]
end L3
namespace L2
open PySem PySem.Spec PyProof.Rows
theorem b78{M:Model}{A:Around}{E:Value->Shared->Prop}{s:Shared}{scope:Scope}{globals:Addr}{cl:List (Str × Addr)}{qual:Str}{env:Env}{bi:Addr}{Q:Env->Shared->Prop}
  (hQ:Q (newEnv scope s.heap.objs.size globals (cellsFrom (s.heap.objs.size+1) scope.names cl) qual none .none (some env) bi) { s with heap:=pushCells (s.heap.push { cls:=.type "dict",data:=.dict #[] }) scope.names }) :
  wpAny M A (newFunctionEnv scope globals cl [] qual none .none (some env) bi) Q E s:=by
 simp only[newFunctionEnv,Option.isSome_some,if_true]
 refine wpAny_bind (wpAny_alloc (wpAny_bind (wpAny_layCells _ (λname kind cells=>by cases e:kind==IW<;>simp[e]) _ _ _ _ ?_)))
 rw[List.forIn_nil]
 refine wpAny_bind (wpAny_pure (wpAny_pure ?_))
 have z:({ s with heap:=s.heap.push { cls:=.type "dict",data:=.dict #[] } }:Shared).heap.objs.size=s.heap.objs.size+1:=tW ..
 rw[z]
 exact hQ
theorem BE:∀(ns:List (Str × NameKind)) (n:Nat) (acc:List (Str × Addr)) (y:Str) (c:Addr),(cellsFrom n ns acc).lookup y=some c->(n<=c/\(y,IW)∈ns)\/acc.lookup y=some c
 | [],_,_,_,_,h=>.inr h
 | (z,k)::r,n,acc,y,c,h=>by
  unfold cellsFrom at h
  split at h
  ·rename_i hk
   rcases BE r (n+1) _ y c h with⟨h1,h2⟩ | h1
   ·exact .inl ⟨by omega,gq _ h2⟩
   ·rw[fX]at h1
    cases q:y==z with
    | true =>
     rw[q]at h1;cases h1
     exact .inl ⟨bK _,by rw[eq_of_beq q,eq_of_beq hk];exact iY⟩
    | false=>rw[q]at h1;exact .inr h1
  ·rcases BE r n acc y c h with⟨h1,h2⟩ | h1
   ·exact .inl ⟨h1,gq _ h2⟩
   ·exact .inr h1
theorem Ll:∀(ns:List (Str × NameKind)) (n:Nat) (acc:List (Str × Addr)),(∀y z c,acc.lookup y=some c->acc.lookup z=some c->y=z)->(∀y c,acc.lookup y=some c->c<n) ->
  ∀y z c,(cellsFrom n ns acc).lookup y=some c->(cellsFrom n ns acc).lookup z=some c->y=z
 | [],_,_,i,_,y,z,c,h1,h2=>i y z c h1 h2
 | (u,k)::r,n,acc,i,b,y,z,c,h1,h2=>by
  unfold cellsFrom at h1 h2
  split at h1
  ·rw[if_pos (by assumption)]at h2
   refine Ll r (n+1) ((u,n)::acc) (λy z c e1 e2=>?_) (λy c e=>?_) y z c h1 h2
   ·rw[fX]at e1 e2
    cases q1:y==u with
    | true =>
     rw[q1]at e1;cases e1
     cases q2:z==u with
     | true=>rw[eq_of_beq q1,eq_of_beq q2]
     | false=>rw[q2]at e2;exact absurd (b _ _ e2) (gI _)
    | false =>
     rw[q1]at e1
     cases q2:z==u with
     | true=>rw[q2]at e2;cases e2;exact absurd (b _ _ e1) (gI _)
     | false=>rw[q2]at e2;exact i y z c e1 e2
   ·rw[fX]at e
    cases q:y==u with
    | true=>rw[q]at e;cases e;exact C6 _
    | false=>rw[q]at e;exact Vq (b _ _ e)
  ·rw[if_neg (by assumption)]at h2
   exact Ll r n acc i b y z c h1 h2
theorem Lm:∀(ns:List (Str × NameKind)) (n:Nat) (acc:List (Str × Addr)) (y:Str) (c:Addr),(y,IW)∈ns->(cellsFrom n ns acc).lookup y=some c->n<=c
 | [],_,_,_,_,m,_=>nomatch m
 | (z,k)::r,n,acc,y,c,m,h=>by
  unfold cellsFrom at h
  split at h
  ·rename_i hk
   rcases cz.mp m with e | m
   ·have e1:y=z:=(Prod.mk.inj e).1
    rcases BE r (n+1) _ y c h with⟨h1,_⟩ | h1
    ·exact Dn h1
    ·rw[fX,e1,beq_self_eq_true]at h1
     exact C5 (cV h1)
   ·exact Dn (Lm r (n+1) _ y c m h)
  ·rename_i hk
   rcases cz.mp m with e | m
   ·cases e;exact absurd rfl hk
   ·exact Lm r n acc y c m h
def dM(X:Cx)(scope:Scope)(N:List Str)(cl:List (Str × Addr))(C:Addr)(s:Shared)(H:Hp)(fp:List Addr):Cx :=
 { DY X scope N (cellsFrom (C+1) scope.names cl) C s H fp with fn:=λy=>scope.names.contains (y,IW) }
section
variable{X:Cx}{scope:Scope}{cl:List (Str × Addr)}
theorem ck9{pins:List (Addr × Obj)}{σ:St}{H:Hp}{s:Shared}{fp:List Addr}{C:Addr}(I:Inv X pins σ H s)(ir:scope.kind=.function)(hC:s.heap.objs.size<=C)
  (gF:∀y c,cl.lookup y=some c->X.env.cells.lookup y=some c) (ek4:∀y,((relabel scope X.env).names.lookup y=some .cell\/(relabel scope X.env).names.lookup y=some .free)->∃c,(cellsFrom (C+1) scope.names cl).lookup y=some c)
  (hf:∀b∈fp,je X pins H b) (ho:∀b∈fp,∃o,s.heap.get? b=some o/\∀v,o.data≠.cell v) (N:List Str):(dM X scope N cl C s H fp).Ok where
 mod:=I.ok.mod
 kind:=ir
 glob:=I.ok.glob
 blt:=I.ok.blt
 above:=hC
 inj:=Ll scope.names (C+1) cl (λy z c h1 h2=>I.ok.inj y z c (gF _ _ h1) (gF _ _ h2)) λy c e=>by
  obtain⟨v,o,ho,_⟩:=I.cell y c (gF y c e)
  exact Nat.lt_succ_of_le (CY (du (bS ho) hC))
 has:=ek4
 qL:=λy c h e=>fu hC (Dn (Lm _ _ _ y c (IV.mp h) e))
 hd:=I.ok.hd
 frames:=I.ok.frames
 zC:=.inl rfl
 zD:=λb hb=>⟨by
  obtain⟨o,e,_⟩:=ho b hb
  exact fj (du (bS e) hC),λy c e z=>by
  rcases BE _ _ _ y c e with⟨h1,_⟩ | h1
  ·obtain⟨o,e,_⟩:=ho b hb
   rw[z]at h1
   exact absurd (du (bS e) (fu hC (Dn h1))) (gI _)
  ·exact(hf b hb).2.2.2.2.1 y c (gF _ _ h1) z⟩
 bs:=I.bs
 j5:=fu I.ok.j5 I.sz
 uq:=λb o e hb=>by
  rcases(hf b hb).2.2.2.1 with z | z
  ·exact I.ok.uq b o e z
  ·exact absurd (du (bS (I.ok.bs b o e).1) z) (gI _)
 ur:=λb hb z=>(cz.mp (I.DC b z)).elim (hf b hb).2.1 (hf b hb).2.2.1
 gX:=I.stack
 j6:=I.Ja
end
theorem Ln:∀(ns:List (Str × NameKind)) (h:Heap) (acc:List (Str × Addr)) (y:Str) (c:Addr),(cellsFrom h.objs.size ns acc).lookup y=some c->(∃o,(pushCells h ns).get? c=some o/\o.data=.cell none)\/acc.lookup y=some c
 | [],_,_,_,_,e=>.inr e
 | (z,k)::r,h,acc,y,c,e=>by
  unfold cellsFrom at e
  unfold pushCells
  split at e
  ·rename_i hk
   rw[if_pos hk]
   rw[<-tW h { cls:=.type "cell",data:=.cell none }]at e
   rcases Ln r _ _ y c e with h1 | h1
   ·exact .inl h1
   ·rw[fX]at h1
    cases q:y==z with
    | true =>
     rw[q]at h1;cases h1
     exact .inl ⟨_,pushCells_keeps _ _ _ _ (gJ _ rfl),rfl⟩
    | false=>rw[q]at h1;exact .inr h1
  ·rename_i hk
   rw[if_neg hk]
   exact Ln r h acc y c e
end L2
namespace L2
open PySem PySem.Spec PyProof.Rows
section
variable{X:Cx}{elt iter tg:Expr}{pos:Pos}{ifs:List Expr}{scope:Scope}{cl:List (Str × Addr)}{wi:TI}{tt:TT}{te:TE}{g:TG}
theorem Zu(aE:List (Str × Nat))(bL:List Str)(hc:X.calm=true)(hi:PI X tg iter wi)
  (hg:∀C s H fp,PG (dM X scope (aE.map (·.1)++bL) cl C s H fp) tg g)
  (ht:∀C s H fp,mn (dM X scope (aE.map (·.1)++bL) cl C s H fp) ifs tt) (he:∀C s H fp,PE (dM X scope (aE.map (·.1)++bL) cl C s H fp) elt te)
  (kX:closureFor scope X.env=pure cl) (kY:mq X cl) (kZ:∀C:Addr,mr (cellsFrom (C+1) scope.names cl) (relabel scope X.env).names) (lh:∀C:Addr,mm X scope (cellsFrom (C+1) scope.names cl) aE)
  (ir:scope.kind=.function) (lj:∀y∈scope.names,y.2=.local->scope.names.lookup y.1=some .local)
  (hs:∀x,foldedSetIterable iter X.env x=pure x:=by intro _;rfl) {pins:List (Addr × Obj)} {s:Shared} {σ:L2.St} {H:Hp} {Q:VK} {use:Option (Value->Sem Unit)} {cw:Pos} {Rf:Value->Shared->Prop} (I:Inv X pins σ H s) (h:D0 wi aE bL.length g tt te σ H Q)
  (ek5:∀(s':Shared) (H':Hp) (C Da:Addr) (m:Str->Option Value),Inv X pins σ H' s'->s'.heap.Ns C m->H' C=none->C≠X.env.locals->X.cP.heap.objs.size<=C->(∀x c,X.env.cells.lookup x=some c->c≠C)->(∀p∈X.pn++pins,p.1≠C)->C ∉ X.fs->Q (.ref Da) H' ->
   compPost (model X.prog X.w) X.A X.xe use Rf (.ref Da) C (.ok .next) s') :
  wpAny (model X.prog X.w) X.A (comprehension (.ListComp elt [⟨tg,iter,ifs,0⟩] scope pos) scope X.env cw (newList []) false (eval iter X.env) use) Rf X.xe s:=by
 have gF:=kY.all
 refine wpAny_comprehension_free (use:=use) rfl hs kX ir lj (aS (hi pins s σ H _ I h) λv s1 h1=>aS h1 λJl s2 h2=>?_)
 obtain⟨it,fp,tn,J,H2,e,I2,T,zM,f2,q⟩:=h2
 subst e
 refine wpAny_newList ?_
 refine b78 ?_
 have hD:H2 s2.heap.objs.size=none:=I2.aL.fresh (bK _)
 obtain⟨W,⟨m0,w0⟩,turn⟩:=q s2.heap.objs.size hD
 generalize Lo:s2.heap.push { cls:=.type "list",data:=.seq ([]:List Value).toArray }=g0 at ⊢
 have hCs:g0.objs.size=s2.heap.objs.size+1:=by rw[<-Lo,tW]
 have hDC:s2.heap.objs.size≠g0.objs.size:=by omega
 have hle:s2.heap.objs.size<=g0.objs.size:=by omega
 have uu:∀b o,s2.heap.get? b=some o->b≠g0.objs.size:=λb o e=>fj (du (bS e) hle)
 obtain⟨g1,EO⟩:∃g1,g1=pushCells (g0.push { cls:=.type "dict",data:=.dict #[] }) scope.names:=⟨_,rfl⟩
 have ns1:g1.Ns g0.objs.size (λ_=>none):=by rw[EO];exact(Heap.Ns.new g0 (.type "dict")).keeps (pushCells_keeps _ _)
 have Zv:∀b o,g0.get? b=some o->g1.get? b=some o:=λb o e=>by rw[EO];exact pushCells_keeps _ _ b o (fI _ e)
 have old:∀b o,s2.heap.get? b=some o->g1.get? b=some o:=λb o e=>Zv b o (Lo ▸ fI _ e)
 rw[<-EO]
 have hDg:g1.get? s2.heap.objs.size=some { cls:=.type "list",data:=.seq ([]:List Value).toArray }:=Zv _ _ (Lo ▸ gJ _ rfl)
 have Zw:∀b∈fp,∃o,s2.heap.get? b=some o/\∀v,o.data≠.cell v:=T.obj _ _ zM
 have ER:=ck9 (scope:=scope) (cl:=cl) (C:=g0.objs.size) I2 ir hle gF (kZ g0.objs.size).all f2 Zw (aE.map (·.1)++bL)
 have I4:Inv (dM X scope (aE.map (·.1)++bL) cl g0.objs.size s2 H2 fp) [] (iw aE bL.length σ) (upd H2 s2.heap.objs.size (.lst [])) { s2 with heap:=g1 }:=by
  refine⟨ER,rfl,I2.bare,Un.laid old (bK _) hD,⟨_,ns1,λi y v h1 h2 h3=>?_⟩,λy c e=>?_,?_,λy c e=>?_,λp hp=>absurd hp (by simp[dM,DY]),I2.aL.laid old (bK _) ⟨lK _,[],0,.nil,hDg⟩,by simp[iw,dM,DY]⟩
  ·by_cases Lp:i<aE.length
   case neg =>
    have jF:((aE.map λp=>(σ[p.2]?).getD none)++bo bL.length none)[i]?=some (some v):=h2
    rw[kB (by simpa using Lp),tY]at jF
    split at jF<;>cases jF
   case pos =>
    have ka:(aE.map (·.1))[i]?=some y:=by
     have z:(aE.map (·.1)++bL)[i]?=some y:=h1
     rwa [qA (by simpa using Lp)]at z
    have jF:(aE.map λp=>(σ[p.2]?).getD none)[i]?=some (some v):=by
     have z:((aE.map λp=>(σ[p.2]?).getD none)++bo bL.length none)[i]?=some (some v):=h2
     rwa [qA (by simpa using Lp)]at z
    rw[cu]at ka jF
    cases hj:aE[i]? with
    | none=>rw[hj]at ka;cases ka
    | some p =>
     rw[hj]at ka jF
     have ey:p.1=y:=cV ka
     have ev:(σ[p.2]?).getD none=some v:=cV jF
     obtain⟨hN,hk,Zx,c,e1,e2⟩:=(lh g0.objs.size).at p (tZ hj)
     obtain⟨m,hn,hl⟩:=I2.loc
     have es:σ[p.2]?=some (some v):=by
      cases z:σ[p.2]? with
      | none=>rw[z]at ev;cases ev
      | some o=>rw[z]at ev;exact congrArg some ev
     obtain⟨u,ru,lk⟩:=hl p.2 p.1 v hN es (hk.elim (λz=>.inr (.inl z)) λz=>.inr (.inr z))
     refine⟨u,ru,?_⟩
     rcases lk with⟨lk,_⟩ | ⟨_,c',e3,ic⟩
     ·rcases hk with hk | hk
      ·have:=hk.symm.trans lk;cases this
      ·have:=hk.symm.trans lk;cases this
     ·rw[e2]at e3
      cases e3
      subst ey
      obtain⟨oc,i9,K0⟩:=ic
      exact .inr ⟨Zx,c,e1,oc,old _ _ i9,K0⟩
  ·rcases Ln _ _ _ y c (show(cellsFrom (g0.push { cls:=.type "dict",data:=.dict #[] }).objs.size scope.names cl).lookup y=some c by rw[tW];exact e)with h1 | h1
   ·rw[<-EO]at h1
    exact⟨none,h1⟩
   ·obtain⟨v,o,ho,hd⟩:=I2.cell y c (gF y c h1)
    exact⟨v,o,old _ _ ho,hd⟩
  ·show upd H2 _ _ g0.objs.size=none
   rw[bf (fH hDC)]
   exact I2.aL.fresh hle
  ·rcases BE _ _ _ y c e with⟨h1,_⟩ | h1
   ·rw[bf (U7 (m8 hle h1))]
    exact I2.aL.fresh (fu hle (Dn h1))
   ·obtain⟨v,o,ho,hd⟩:=I2.cell y c (gF y c h1)
    rw[bf (fj (bS ho))]
    exact I2.jD y c (gF y c h1)
 have fin:∀(s':Shared) (H':Hp) (aK:L2.St),Inv (dM X scope (aE.map (·.1)++bL) cl g0.objs.size s2 H2 fp) [] aK H' s'->Q (.ref s2.heap.objs.size) H' ->
   compPost (model X.prog X.w) X.A X.xe use Rf (.ref s2.heap.objs.size) g0.objs.size (.ok .next) s':=by
  intro s' H' aK I' q'
  obtain⟨m,hn,_⟩:=I'.loc
  have u:=I'.base
  have hC':H' g0.objs.size=none:=I'.free
  have IX:Inv X pins σ H' s':=I2.dH0 (s':=s') (ch:=fp) I'.os ⟨u.keep,u.slot,u.free,u.there,u.j3,u.jC,u.iK⟩ I'.aL I'.bare λb hb=>by
   obtain⟨_,y1,y2,y3,y4,y5⟩:=f2 b hb
   exact⟨y3,y1,y4,y5⟩
  have Zy:∀b,(∃o,s2.heap.get? b=some o)->b≠g0.objs.size:=λb ⟨o,e⟩=>uu b o e
  refine ek5 s' H' g0.objs.size s2.heap.objs.size m IX hn hC' (λz=>?_) (fu I2.sz hle) (λx c e z=>?_) (λp hp z=>?_) (λz=>?_) q'
  ·have h0:X.env.locals<s2.heap.objs.size:=I2.lt
   rw[<-z]at h0
   exact gI _ (du h0 hle)
  ·obtain⟨v,o,ho,_⟩:=I2.cell x c e
   exact Zy c ⟨o,ho⟩ z
  ·exact Zy p.1 ⟨_,(I2.pin p hp).1⟩ z
  ·exact I2.VI hle z
 have Lq:∀(H':Hp),(∀b∈fp,H' b=none)->∀b∈fp,je (dM X scope (aE.map (·.1)++bL) cl g0.objs.size s2 H2 fp) [] H' b:=λH' hn b hb =>
  ⟨hn b hb,(ER.zD b hb).1,ER.ur b hb,.inl hb,(ER.zD b hb).2,λp hp=>absurd hp (by simp[dM,DY])⟩
 have loop:codeAny (model X.prog X.w) X.A (.compLoop (.ListComp elt [⟨tg,iter,ifs,0⟩] scope pos) 0 (.ref it) (.ref s2.heap.objs.size) (compEnvC scope (cellsFrom (g0.objs.size+1) scope.names cl) g0.objs.size X.env))
   (compPost (model X.prog X.w) X.A X.xe use Rf (.ref s2.heap.objs.size) g0.objs.size) { s2 with heap:=g1 }:=by
  refine bL0 (λn s'=>∃i acc H',Inv (dM X scope (aE.map (·.1)++bL) cl g0.objs.size s2 H2 fp) [] (iw aE bL.length σ) H' s'/\tn i s'.heap/\(∀b∈fp,H' b=none)/\W i n acc H') ?_ m0
   ⟨0,[],_,I4,T.keep _ _ _ zM λb hb o e=>old b o e,λb hb=>?_,w0⟩
  ·rintro n s' ⟨i,acc,H',I',oV,mH,w'⟩
   obtain⟨Ki,⟨stop,qn⟩ | ⟨go,step⟩⟩:=turn i n acc H' w'
   ·refine aS (T.done (dM X scope (aE.map (·.1)++bL) cl g0.objs.size s2 H2 fp) rfl rfl rfl hc i [] s' _ H' (λ_ _=>False) I' (Lq H' mH) oV stop) λr t1 zz=>?_
    obtain⟨hr,I1⟩:=zz
    subst hr
    exact fin _ _ _ I1 qn
   ·refine aS (T.item (dM X scope (aE.map (·.1)++bL) cl g0.objs.size s2 H2 fp) rfl rfl rfl hc i [] s' _ H' (λ_ _=>False) I' (Lq H' mH) oV go) λr t1 zz=>?_
    obtain⟨u,hr,h4⟩:=zz
    subst hr
    refine aS h4 λ_ t2 zz=>?_
    obtain⟨x5,H5,I5,r5,y5,qT,zN⟩:=zz
    obtain⟨Ea,st6⟩:=step x5 H5 y5
    have Jp:=I5.pinned (Lq H5 zN) (T.obj _ _ qT)
    refine aS (hg _ _ _ _ _ t2 _ H5 x5 u _ Jp r5 st6) λ_ t3 zz=>?_
    obtain⟨Jq,H6,I6,⟨el1,el2⟩,st7⟩:=zz
    have back:∀(s7:Shared) (H7:Hp) (Lr:List V) (m7:Nat),Inv (dM X scope (aE.map (·.1)++bL) cl g0.objs.size s2 H2 fp) ([]++zK fp t2.heap) Jq H7 s7->W (i+1) m7 Lr H7 ->
      ∃i acc H',Inv (dM X scope (aE.map (·.1)++bL) cl g0.objs.size s2 H2 fp) [] (iw aE bL.length σ) H' s7/\tn i s7.heap/\(∀b∈fp,H' b=none)/\W i m7 acc H':=λs7 H7 Lr m7 I7 w7 =>
     ⟨i+1,Lr,H7,(I7.zL).weak el1.symm λj v z=>by
       by_cases hj:j<aE.length
       ·rw[el2 j hj];exact z
       ·have z':((aE.map λp=>(σ[p.2]?).getD none)++bo bL.length none)[j]?=some (some v):=z
        rw[kB (by simpa using hj),tY]at z'
        split at z'<;>(cases z'),
      T.keep _ _ _ qT λb hb o e=>(I7.pin (b,o) (df _ (df _ (DM hb e)))).1,λb hb=>by
       obtain⟨o,e,d⟩:=T.obj _ _ qT b hb
       exact(I7.pin (b,o) (df _ (df _ (DM hb e)))).2.1,w7⟩
    refine aS (ht _ _ _ _ _ t3 _ H6 _ I6 st7) λok t4 zz=>?_
    obtain⟨H7,I7,hD7,q7⟩:=zz
    cases ok with
    | false =>
     obtain⟨m',hm,w7⟩:=(show ∃m',m'<n/\W (i+1) m' acc H7 from q7)
     exact⟨m',hm,back t4 H7 acc m' I7 w7⟩
    | true =>
     refine aS (he _ _ _ _ _ t4 _ H7 _ I7 q7) λy t5 zz=>?_
     obtain⟨v8,H8,I8,r8,hD8,hl8,m',hm,w8⟩:=zz
     exact aS (Ww _ t5 _ H8 (.ref s2.heap.objs.size) [v8] (.ref s2.heap.objs.size) [y] (λ_ H9=>H9=upd H8 s2.heap.objs.size (.lst (acc++[v8]))) I8 rfl (.cons r8 .nil) ⟨_,acc,v8,rfl,rfl,hD8,hl8,rfl⟩) λ_ t6 zz=>by
      obtain⟨_,H9,I9,_,e9⟩:=zz
      subst e9
      exact⟨m',hm,back t6 _ _ m' I9 w8⟩
  ·obtain⟨o,e,_⟩:=Zw b hb
   rw[bf (fj (bS e))]
   exact(f2 b hb).1
 exact codeAny_compStart_list loop (T.self _ 0 _ _ _ (T.keep _ _ _ zM λb hb o e=>old b o e) loop)
theorem cl5(aE:List (Str × Nat))(bL:List Str)(hc:X.calm=true)(hi:PI X tg iter wi)
  (hg:∀C s H fp,PG (dM X scope (aE.map (·.1)++bL) cl C s H fp) tg g)
  (ht:∀C s H fp,mn (dM X scope (aE.map (·.1)++bL) cl C s H fp) ifs tt) (he:∀C s H fp,PE (dM X scope (aE.map (·.1)++bL) cl C s H fp) elt te)
  (kX:closureFor scope X.env=pure cl) (kY:mq X cl) (kZ:∀C:Addr,mr (cellsFrom (C+1) scope.names cl) (relabel scope X.env).names) (lh:∀C:Addr,mm X scope (cellsFrom (C+1) scope.names cl) aE)
  (ir:scope.kind=.function) (lj:∀y∈scope.names,y.2=.local->scope.names.lookup y.1=some .local)
  (hs:∀x,foldedSetIterable iter X.env x=pure x:=by intro _;rfl):PE X (.ListComp elt [⟨tg,iter,ifs,0⟩] scope pos) (D0 wi aE bL.length g tt te):=by
 intro pins s σ H Q I h
 rw[eval_ListComp]
 refine Zu aE bL hc hi hg ht he kX kY kZ lh ir lj hs I h λs' H' C Da m IX hn hC hL h1 h2 h3 h4 q'=>?_
 exact⟨m,hn,λh' sb=>⟨.ref Da,H',IX.turned (t':=s'.toks) (λb o hb e=>sb.extBut b o hb e) hC hL (.inr h1) h2 h3,rfl,q'⟩⟩
theorem Zz{i:Nat}{x:Str}{pos' apos:Pos}(hN:X.N.Nodup)(mJ:X.N[i]?=some x)(hx:Loc X.env.scope x)(hf:X.fn x=true\/X.env.scope.names.lookup x=some .local)(aE:List (Str × Nat))(bL:List Str)(hc:X.calm=true)(hi:PI X tg iter wi)
  (hg:∀C s H fp,PG (dM X scope (aE.map (·.1)++bL) cl C s H fp) tg g)
  (ht:∀C s H fp,mn (dM X scope (aE.map (·.1)++bL) cl C s H fp) ifs tt) (he:∀C s H fp,PE (dM X scope (aE.map (·.1)++bL) cl C s H fp) elt te)
  (kX:closureFor scope X.env=pure cl) (kY:mq X cl) (kZ:∀C:Addr,mr (cellsFrom (C+1) scope.names cl) (relabel scope X.env).names) (lh:∀C:Addr,mm X scope (cellsFrom (C+1) scope.names cl) aE)
  (ir:scope.kind=.function) (lj:∀y∈scope.names,y.2=.local->scope.names.lookup y.1=some .local)
  (sj:swapsWith (.ListComp elt [⟨tg,iter,ifs,0⟩] scope pos) (some (.Name x pos')) apos.line X.env=pure true) (hs:∀x,foldedSetIterable iter X.env x=pure x:=by intro _;rfl):PS X (.Assign [.Name x pos'] (.ListComp elt [⟨tg,iter,ifs,0⟩] scope pos) apos) (Jj (D0 wi aE bL.length g tt te) (DJ i)):=by
 intro pins s σ H D I h
 rw[exec_Assign_Name_used x pos' _ apos sj]
 refine wpAny_bind (wpAny_standAt (wpAny_bind ?_))
 have hh:D0 wi aE bL.length g tt te σ H λv H1=>D.nx (σ.set i (some v)) H1:=h
 show wpAny _ _ (comprehension (.ListComp elt [⟨tg,iter,ifs,0⟩] scope pos) scope X.env (firstIterPos [⟨tg,iter,ifs,0⟩] pos) (newList []) false (eval iter X.env) (some (assign (.Name x pos') X.env)) >>= λ_=>pure ()) _ _ _
 refine wpAny_bind (Zu (use:=some (assign (.Name x pos') X.env)) (pos:=pos) aE bL hc hi hg ht he kX kY kZ lh ir lj hs I hh λs' H' C Da m IX hn hC hL h1 h2 h3 h4 q'=>?_)
 obtain⟨oC,es,ep,hoC,ZA,rest⟩:=id hn
 have IP:Inv X (pins++[(C,oC)]) σ H' s':=⟨IX.ok,IX.os,IX.bare,IX.base,IX.loc,IX.cell,IX.free,IX.jD,λp hp=>by
  rcases bZ.mp hp with z | z
  ·exact IX.pin p (eZ _ z)
  ·rcases bZ.mp z with z | z
   ·exact IX.pin p (df _ z)
   ·obtain rfl:=fk.mp z
    exact⟨hoC,hC,hL,h4,λv w=>by rw[ZA]at w;cases w⟩,IX.aL,IX.len⟩
 refine aS (DK (X:=X) hN mJ hx hf _ s' σ H' (.ref Da) (.ref Da) (λmf H2=>mf=σ.set i (some (.ref Da))/\H2=H') IP rfl ⟨rfl,rfl⟩) λ_ s2 zz=>?_
 obtain⟨mf,H2,I2,e1,e2⟩:=zz
 subst e1 e2
 have pC:=I2.pin (C,oC) (df _ (df _ (by simp)))
 refine⟨m,⟨oC,es,ep,pC.1,ZA,rest⟩,λh' sb=>wpAny_pure (wpAny_pure ?_)⟩
 exact⟨σ.set i (some (.ref Da)),H2,(I2.zL).turned (t':=s2.toks) (λb o hb e=>sb.extBut b o hb e) hC hL (.inr h1) h2 h3,q'⟩
end
end L2
namespace L3
open PySem L2 PySem.Spec PyProof.Rows
section
variable{X:Cx}{elt iter tg:Expr}{pos:Pos}{ifs:List Expr}{scope:Scope}{cl:List (Str × Addr)}{ti:jm}{tt:gz}{te:aO}{g:iz}
theorem dX(aE:List (Str × Nat))(bL:List Str)(hc:X.calm=true)(hi:PI X tg iter (lI ti))
  (hg:∀C s H fp,PG (dM X scope (aE.map (·.1)++bL) cl C s H fp) tg (lG aE.length g))
  (ht:∀C s H fp,mn (dM X scope (aE.map (·.1)++bL) cl C s H fp) ifs (lT tt)) (he:∀C s H fp,PE (dM X scope (aE.map (·.1)++bL) cl C s H fp) elt (lE te))
  (kX:closureFor scope X.env=pure cl) (kY:mq X cl) (kZ:∀C:Addr,mr (cellsFrom (C+1) scope.names cl) (relabel scope X.env).names) (lh:∀C:Addr,mm X scope (cellsFrom (C+1) scope.names cl) aE)
  (ir:scope.kind=.function) (lj:∀y∈scope.names,y.2=.local->scope.names.lookup y.1=some .local)
  (hs:∀x,foldedSetIterable iter X.env x=pure x:=by intro _;rfl):PE X (.ListComp elt [⟨tg,iter,ifs,0⟩] scope pos) (lE (pq ti aE bL.length g tt te)) :=
 dA (cl5 aE bL hc hi hg ht he kX kY kZ lh ir lj hs) λσ H Q ⟨B,F,δ,ts,Qd,c,q,k⟩=>⟨B,F,δ,ts,_,c,q,λsh xs ao J F1 H1 hq f1 h1 c1 nR rH=>by
  obtain⟨p,f,hx,eK,hlen,hQ⟩:=hq
  exact Kh c1 nR rH p f hx eK hlen hQ λd ah v F' H' hd hf hs c'=>k d ah v F' H' hd (f1.trans hf) (h1.trans hs) c'⟩
theorem ES{i:Nat}{x:Str}{pos' apos:Pos}(hN:X.N.Nodup)(mJ:X.N[i]?=some x)(hx:L2.Loc X.env.scope x)(aE:List (Str × Nat))(bL:List Str)(hc:X.calm=true)(hi:PI X tg iter (lI ti))
  (hg:∀C s H fp,PG (dM X scope (aE.map (·.1)++bL) cl C s H fp) tg (lG aE.length g))
  (ht:∀C s H fp,mn (dM X scope (aE.map (·.1)++bL) cl C s H fp) ifs (lT tt)) (he:∀C s H fp,PE (dM X scope (aE.map (·.1)++bL) cl C s H fp) elt (lE te))
  (kX:closureFor scope X.env=pure cl) (kY:mq X cl) (kZ:∀C:Addr,mr (cellsFrom (C+1) scope.names cl) (relabel scope X.env).names) (lh:∀C:Addr,mm X scope (cellsFrom (C+1) scope.names cl) aE)
  (ir:scope.kind=.function) (lj:∀y∈scope.names,y.2=.local->scope.names.lookup y.1=some .local)
  (sj:swapsWith (.ListComp elt [⟨tg,iter,ifs,0⟩] scope pos) (some (.Name x pos')) apos.line X.env=pure true:=by rfl) (hf:X.fn x=true\/X.env.scope.names.lookup x=some .local:=by first | exact .inl rfl | exact .inr rfl)
  (hs:∀x,foldedSetIterable iter X.env x=pure x:=by intro _;rfl):PS X (.Assign [.Name x pos'] (.ListComp elt [⟨tg,iter,ifs,0⟩] scope pos) apos) (lS X (rG i (pq ti aE bL.length g tt te))) :=
 jH (Zz hN mJ hx hf aE bL hc hi hg ht he kX kY kZ lh ir lj sj hs) λEn σ H ⟨B,F,δ,Dd,c,q,k1,k2,k3,k4⟩=>⟨B,F,δ,[],_,c,q,λsh xs ao J F1 H1 hq f1 h1 c1 nR rH=>by
  obtain⟨p,f,hx,eK,hlen,hQ⟩:=hq
  exact Kh (Qd:=λd ah=>Dd.nx (ah.set i (some d))) c1 nR rH p f hx eK hlen hQ λd ah v F' H' hd hf hs c'=>k1 _ _ F' H' hd (c'.store i)⟩
end
end L3
namespace L3
open PySem L2 Mf
theorem lo1{m:Bool × Nat}(hm:m∈aI):1<ae m:=by have:=(dn hm).lo;omega
inductive Sp(N:Nat)(p q:Nat->Nat->Nat)(S:(Nat->Nat)->Prop):(Nat->Nat)->Prop
 | mem {f:Nat->Nat}:S f->Sp N p q S f
 | zero:Sp N p q S λ_=>0
 | add {f g:Nat->Nat}:Sp N p q S f->Sp N p q S g->Sp N p q S λk=>p (f k) (g k)
 | mul {f:Nat->Nat} (c:Nat):c<N->Sp N p q S f->Sp N p q S λk=>q c (f k)
theorem Sp.trans{N:Nat}{p q:Nat->Nat->Nat}{S S':(Nat->Nat)->Prop}(h:∀f,S f->Sp N p q S' f){f:Nat->Nat}(s:Sp N p q S f):Sp N p q S' f:=by
 induction s with
 | mem a=>exact h _ a
 | zero=>exact .zero
 | add _ _ a b=>exact .add a b
 | mul c hc _ a=>exact .mul c hc a
def Gn(T:List (List Nat))(f:Nat->Nat):Prop:=∃r∈T,f=cf r
def cN(m:Bool × Nat)(T:List (List Nat))(f:Nat->Nat):Prop:=Sp (ae m) (gp m) (gm m) (Gn T) f
theorem cN.of{m:Bool × Nat}{T:List (List Nat)}{r:List Nat}(h:r∈T):cN m T (cf r):=.mem ⟨r,h,rfl⟩
theorem cn7{m:Bool × Nat}(hm:m∈aI){a:Nat}(ha:a<ae m){f f' l:Nat->Nat}(hf':∀k,f' k<ae m)(hl:∀k,l k<ae m)(h:∀k,gp m (f' k) (gm m a (l k))=f k):∃b,b<ae m/\f'=λk=>gp m (f k) (gm m b (l k)):=by
 have r:=rg hm
 obtain⟨b,hb,e⟩:=r.ng ha
 refine⟨b,hb,funext λk=>?_⟩
 rw[<-h k,r.pa,r.mc a,r.mc b,<- r.dl,e,r.qz,r.z' (hf' k)]
theorem Lu{m:Bool × Nat}(hm:m∈aI){r l:List Nat}{w:Nat}(hr:r.length=w)(hl:l.length=w)(a k:Nat):cf (cW (λx y=>bR m x (gm m a y)) r l) k=bR m (cf r k) (gm m a (cf l k)):=by
 by_cases h:k<w
 ·unfold cf
  rw[aU,nq,aP (by omega),aP (by omega),aU,aP (by omega),aU,aP (by omega)]
  rfl
 ·rw[wg (by rw[i7];omega),wg (l:=r) (by omega),wg (l:=l) (by omega),kU m _ (dq m hm),Zk]
theorem ET{m:Bool × Nat}(hm:m∈aI){r l:List Nat}{w a:Nat}(hr:r.length=w)(hl:l.length=w)(ar:AllLt (ae m) r)(k:Nat):gp m (cf (cW (λx y=>bR m x (gm m a y)) r l) k) (gm m a (cf l k))=cf r k:=by
 rw[Lu hm hr hl]
 exact(mM hm (fQ hm ar k) (dD hm _ _)).2.2
theorem Lw{m:Bool × Nat}(hm:m∈aI){r l:List Nat}{w:Nat}(hr:r.length=w)(hl:l.length=w)(ar:AllLt (ae m) r)(a k:Nat):cf (cW (λx y=>bR m x (gm m a y)) r l) k<ae m:=by
 rw[Lu hm hr hl]
 exact(mM hm (fQ hm ar k) (dD hm _ _)).2.1
theorem ZC{m:Bool × Nat}(hm:m∈aI){w p i:Nat}{T:List (List Nat)}(hT:RT (ae m) w T)(e:jQ T p=some i):∃(g:List Nat) (c:Nat),g∈T/\T.getD i []=g/\g.length=w/\AllLt (ae m) g/\c<ae m/\gm m c (cf g p)=1/\(eG m T i p).length=w/\AllLt (ae m) (eG m T i p)/\(∀k,cf (eG m T i p) k=gm m c (cf g k))/\cf (eG m T i p) p=1/\∀k,gm m (cf g p) (cf (eG m T i p) k)=cf g k:=by
 obtain⟨hi,h1,h2⟩:=EM e
 obtain⟨a,b⟩:=hT _ (dE hi)
 have l1:1<ae m:=lo1 hm
 obtain⟨c,hc,EU⟩:=Zn hm l1 (fQ hm b p) h1
 have ec:mP m (cf T[i] p)=c:=EL hm hc EU
 have el:eG m T i p=T[i].map (gm m c):=by unfold eG;rw[h2,<- ec];rfl
 have ek:∀k,cf (eG m T i p) k=gm m c (cf T[i] k):=λk=>by rw[el];exact cP9 hm _ _ _
 refine⟨T[i],c,dE hi,h2,a,b,hc,EU,by rw[el,bA,a],λx hx=>?_,ek,by rw[ek];exact EU,λk=>?_⟩
 ·rw[el]at hx
  obtain⟨y,_,rfl⟩:=bH.mp hx
  exact dD hm _ _
 ·rw[ek,<- km (dq m hm),iS m _ c,EU,sP (fQ hm b k)]
theorem ZD{m:Bool × Nat}{s:List (List Nat) × List (List Nat)}{p i:Nat}(e:jQ s.2 p=some i):iG m s p=(gP m s.1 (eG m s.2 i p) p++[eG m s.2 i p],gP m (s.2.take i++s.2.drop (i+1)) (eG m s.2 i p) p):=by unfold iG;rw[e]
theorem ZE{m:Bool × Nat}{s:List (List Nat) × List (List Nat)}{p:Nat}(e:jQ s.2 p=none):iG m s p=s:=by unfold iG;rw[e]
theorem by4{α:Type}{T:List α}{i:Nat}{r:α}(h:r∈T.take i++T.drop (i+1)):r∈T:=(bZ.mp h).elim uh qG
theorem cl8{α:Type}{T:List α}{i:Nat}{r:α}(h:r∈T)(hi:i<T.length):r=T[i]\/r∈T.take i++T.drop (i+1):=by
 obtain⟨j,hj,rfl⟩:=kD h
 rcases Nat.lt_trichotomy j i with h | h | h
 ·exact .inr (bZ.mpr (.inl (List.mem_take_iff_getElem.mpr ⟨j,by omega,rfl⟩)))
 ·subst h;exact .inl rfl
 ·exact .inr (bZ.mpr (.inr (List.mem_drop_iff_getElem.mpr ⟨j-(i+1),by omega,by congr 1;omega⟩)))
theorem b74{m:Bool × Nat}(hm:m∈aI){w n p:Nat}{s:List (List Nat) × List (List Nat)}(h:BD (ae m) w n s)(f:Nat->Nat):cN m (s.1++s.2) f↔cN m ((iG m s p).1++(iG m s p).2) f:=by
 cases e:jQ s.2 p with
 | none=>rw[ZE e]
 | some i =>
  obtain⟨g,c,g1,g2,g3,g4,c1,c2,l1,l2,l3,l4,l5⟩:=ZC hm h.b e
  obtain⟨hi,_,hg⟩:=EM e
  rw[ZD e]
  generalize eG m s.2 i p=l at l1 l2 l3 l4 l5
  have ll:=fQ hm l2
  have row:∀{T:List (List Nat)},RT (ae m) w T->∀r'∈gP m T l p,∃r∈T,∃b,b<ae m/\cf r'=λk=>gp m (cf r k) (gm m b (cf l k)):=λ{T} hT r' bx=>by
   obtain⟨r,hr,rfl⟩:=bH.mp bx
   obtain⟨a1,a2⟩:=hT r hr
   exact⟨r,hr,cn7 hm (fQ hm a2 p) (Lw hm a1 l1 a2 _) ll (ET hm a1 l1 a2)⟩
  have ZF:∀{T:List (List Nat)},RT (ae m) w T->∀r∈T,∃r'∈gP m T l p,cf r=λk=>gp m (cf r' k) (gm m (cf r p) (cf l k)):=λ{T} hT r hr=>by
   obtain⟨a1,a2⟩:=hT r hr
   exact⟨_,bH.mpr ⟨r,hr,rfl⟩,funext λk=>(ET hm a1 l1 a2 k).symm⟩
  have hB:RT (ae m) w (s.2.take i++s.2.drop (i+1)):=λr hr=>h.b r (by4 hr)
  constructor
  ·refine Sp.trans ?_
   rintro f ⟨r,hr,rfl⟩
   have hl:cN m ((gP m s.1 l p++[l])++gP m (s.2.take i++s.2.drop (i+1)) l p) (cf l):=cN.of (by simp)
   rcases bZ.mp hr with hr | hr
   ·obtain⟨r',h1,h2⟩:=ZF h.a r hr
    rw[h2]
    exact .add (cN.of (by simp[h1])) (.mul _ (fQ hm (h.a r hr).2 p) hl)
   ·rcases cl8 hr hi with e' | bx
    ·have:cf r=λk=>gm m (cf g p) (cf l k):=funext λk=>by rw[l5 k,e',<- hg,g2]
     rw[this]
     exact .mul _ (fQ hm g4 p) hl
    ·obtain⟨r',h1,h2⟩:=ZF hB r bx
     rw[h2]
     exact .add (cN.of (by simp[h1])) (.mul _ (fQ hm (h.b r hr).2 p) hl)
  ·refine Sp.trans ?_
   rintro f ⟨r,hr,rfl⟩
   have hl:cN m (s.1++s.2) (cf l):=by
    have:cf l=λk=>gm m c (cf g k):=funext l3
    rw[this]
    exact .mul _ c1 (cN.of (df _ g1))
   rcases bZ.mp hr with hr | hr
   ·rcases bZ.mp hr with hr | hr
    ·obtain⟨r1,h1,b,hb,h2⟩:=row h.a r hr
     rw[h2]
     exact .add (cN.of (eZ _ h1)) (.mul _ hb hl)
    ·rw[fk]at hr
     rw[hr];exact hl
   ·obtain⟨r1,h1,b,hb,h2⟩:=row hB r hr
    rw[h2]
    exact .add (cN.of (df _ (by4 h1))) (.mul _ hb hl)
structure RR(w:Nat)(R:List (List Nat))(H:Nat->Nat):Prop where
 u:∀i j,i<R.length->j<R.length->cf (R.getD i []) (H j)=if i=j then 1 else 0
 z:∀i,i<R.length->∀t,t<H i->cf (R.getD i []) t=0
 i:∀i j,i<j->j<R.length->H i<H j
 l:∀i,i<R.length->H i<w
theorem pZ{α β:Type}(f:α->β){l:List α}{i:Nat}(h:i<l.length)(a:α)(b:β):(l.map f).getD i b=f (l.getD i a):=by
 rw[aU,cu,aU,aP h];rfl
theorem fB{α:Type}{l:List α}{i:Nat}(h:i<l.length)(a:α):l.getD i a∈l:=by
 rw[aU,aP h];exact dE h
theorem bR4{m:Bool × Nat}(hm:m∈aI){w n p:Nat}{s:List (List Nat) × List (List Nat)}(h:BD (ae m) w n s){H:Nat->Nat}(I:RR p s.1 H)(e2:∀r∈s.2,∀t,t<p->cf r t=0):∃H',RR (p+1) (iG m s p).1 H'/\∀r∈(iG m s p).2,∀t,t<p+1->cf r t=0:=by
 cases e:jQ s.2 p with
 | none =>
  rw[ZE e]
  refine⟨H,⟨I.u,I.z,I.i,λi hi=>Vq (I.l i hi)⟩,λr hr t ht=>?_⟩
  rcases VB t p with h1 | h1
  ·exact e2 r hr t h1
  ·have:=dE5.mp e r hr
   have z:r.getD p 0=0:=by simpa using this
   rw[show t=p by omega]
   exact z
 | some i0 =>
  obtain⟨g,c,g1,g2,g3,g4,c1,c2,l1,l2,l3,l4,l5⟩:=ZC hm h.b e
  rw[ZD e]
  generalize eG m s.2 i0 p=l at l1 l2 l3 l4 l5
  have m0:=dq m hm
  have lz:∀t,t<p->cf l t=0:=λt ht=>by rw[l3,e2 g g1 t ht,kU m _ m0]
  have BF:∀{r:List Nat},r.length=w->AllLt (ae m) r->(∀t,t<p->cf (cW (λx y=>bR m x (gm m (r.getD p 0) y)) r l) t=cf r t)/\cf (cW (λx y=>bR m x (gm m (r.getD p 0) y)) r l) p=0:=λ{r} a1 a2=>by
   constructor
   ·intro t ht
    have:=ET hm (a:=r.getD p 0) a1 l1 a2 t
    rw[lz t ht,kU m _ m0,BA (Lw hm a1 l1 a2 _ _)]at this
    exact this
   ·rw[Lu hm a1 l1,l4]
    show bR m (r.getD p 0) (gm m (r.getD p 0) 1)=0
    rw[sQ (show r.getD p 0<ae m from fQ hm a2 p),Zk]
  have nl:(gP m s.1 l p).length=s.1.length:=by unfold gP;rw[bA]
  have ZG:∀i,i<s.1.length->∃r,s.1.getD i []=r/\r.length=w/\AllLt (ae m) r/\(gP m s.1 l p++[l]).getD i []=cW (λx y=>bR m x (gm m (r.getD p 0) y)) r l:=λi hi=>by
   refine⟨_,rfl,(h.a _ (fB hi [])).1,(h.a _ (fB hi [])).2,?_⟩
   rw[aU,qA (by omega),<- aU]
   exact pZ _ hi [] []
  have ZH:(gP m s.1 l p++[l]).getD s.1.length []=l:=by
   rw[aU,kB (by omega),nl,zj];rfl
  have le:(gP m s.1 l p++[l]).length=s.1.length+1:=by rw[dN,nl];rfl
  refine⟨λi=>if i<s.1.length then H i else p,⟨λi j hi hj=>?_,λi hi t ht=>?_,λi j BG hj=>?_,λi hi=>?_⟩,λr hr t ht=>?_⟩
  ·show cf ((gP m s.1 l p++[l]).getD i []) _=_
   dsimp only at hi hj ⊢
   rw[le]at hi hj
   by_cases h1:i<s.1.length
   ·obtain⟨r,r1,r2,r3,r4⟩:=ZG i h1
    rw[r4]
    by_cases h2:j<s.1.length
    ·rw[if_pos h2,(BF r2 r3).1 _ (I.l j h2),<- r1]
     exact I.u i j h1 h2
    ·rw[if_neg h2,(BF r2 r3).2,if_neg (by omega)]
   ·have e1:i=s.1.length:=by omega
    rw[e1,ZH]
    by_cases h2:j<s.1.length
    ·rw[if_pos h2,lz _ (I.l j h2),if_neg (by omega)]
    ·rw[if_neg h2,l4,if_pos (by omega)]
  ·dsimp only at hi ht ⊢
   rw[le]at hi
   by_cases h1:i<s.1.length
   ·rw[if_pos h1]at ht
    obtain⟨r,r1,r2,r3,r4⟩:=ZG i h1
    rw[r4,(BF r2 r3).1 _ (by have:=I.l i h1;omega),<- r1]
    exact I.z i h1 t ht
   ·rw[if_neg h1]at ht
    have e1:i=s.1.length:=by omega
    rw[e1,ZH];exact lz t ht
  ·dsimp only at hj ⊢
   rw[le]at hj
   rw[if_pos (by omega)]
   by_cases h2:j<s.1.length
   ·rw[if_pos h2];exact I.i i j BG h2
   ·rw[if_neg h2];exact I.l i (by omega)
  ·dsimp only at hi ⊢
   rw[le]at hi
   split
   ·have:=I.l i (by omega);omega
   ·omega
  ·obtain⟨r1,EV,rfl⟩:=bH.mp hr
   obtain⟨a1,a2⟩:=h.b r1 (by4 EV)
   rcases VB t p with h1 | h1
   ·rw[(BF a1 a2).1 t h1];exact e2 _ (by4 EV) t h1
   ·rw[show t=p by omega];exact(BF a1 a2).2
theorem ZI{m:Bool × Nat}(hm:m∈aI){w:Nat}{G:List (List Nat)}(h:RT (ae m) w G):∀k,(∃H,RR k (jR m G k).1 H/\∀r∈(jR m G k).2,∀t,t<k->cf r t=0)/\∀f,cN m G f↔cN m ((jR m G k).1++(jR m G k).2) f
 | 0=>⟨⟨λ_=>0,⟨(λ_ _ h=>nomatch h),(λ_ h=>nomatch h),(λ_ _ _ h=>nomatch h),(λ_ h=>nomatch h)⟩,λr _ t ht=>nomatch ht⟩,λf=>.rfl⟩
 | k+1=>by
  obtain⟨⟨H,h1,h2⟩,h3⟩:=ZI hm h k
  have D:=EN hm h k
  rw[Lk]
  exact⟨bR4 hm D h1 h2,λf=>(h3 f).trans (b74 hm D f)⟩
theorem mQ{m:Bool × Nat}(hm:m∈aI){G:List (List Nat)}(h:RT (ae m) (av G) G):(∃H,RR (av G) (bY m G) H)/\RT (ae m) (av G) (bY m G)/\(bY m G).length<=G.length/\∀f,cN m G f↔cN m (bY m G) f:=by
 obtain⟨⟨H,h1,h2⟩,h3⟩:=ZI hm h (av G)
 have D:=EN hm h (av G)
 refine⟨⟨H,h1⟩,D.a,by have:=D.l;show(jR m G (av G)).1.length<=_;omega,λf=>(h3 f).trans ⟨Sp.trans ?_,Sp.trans ?_⟩⟩
 ·rintro f ⟨r,hr,rfl⟩
  rcases bZ.mp hr with hr | hr
  ·exact cN.of hr
  ·have:cf r=λ_=>0:=funext λt=>by
    rcases VB t (av G)with h4 | h4
    ·exact h2 r hr t h4
    ·exact wg (by rw[(D.b r hr).1];exact h4)
   rw[this];exact .zero
 ·rintro f ⟨r,hr,rfl⟩
  exact cN.of (eZ _ hr)
theorem wk{N:Nat}{p q:Nat->Nat->Nat}(r:Rg N p q){f:Nat->Nat}{j0:Nat}(hf:f j0<N):∀{n:Nat},j0<n->(∀j,j<n->j≠j0->f j=0)->sm p n f=f j0
 | 0,h,_=>nomatch h
 | n+1,h,hz=>by
  rw[sm]
  by_cases e:j0=n
  ·subst e
   rw[ju r λj hj=>hz j (by omega) (by omega),r.z hf]
  ·rw[wk r hf (by omega) λj hj=>hz j (by omega),hz n (by omega) (by omega),r.z' hf]
theorem cN.sum{m:Bool × Nat}(hm:m∈aI){w:Nat}{R:List (List Nat)}(hR:RT (ae m) w R){f:Nat->Nat}(s:cN m R f):∃c:Nat->Nat,(∀i,c i<ae m)/\∀k,f k=sm (gp m) R.length λi=>gm m (c i) (cf (R.getD i []) k):=by
 have r:=rg hm
 have m0:=dq m hm
 have l1:=lo1 hm
 induction s with
 | mem a =>
  obtain⟨x,hx,rfl⟩:=a
  obtain⟨i,hi,rfl⟩:=kD hx
  have ei:R[i]=R.getD i []:=by rw[aU,aP hi];rfl
  refine⟨λj=>if j=i then 1 else 0,λj=>by dsimp only;split<;>omega,λk=>?_⟩
  refine((wk r (f:=λa=>gm m (if a=i then 1 else 0) (cf (R.getD a []) k)) (j0:=i) (dD hm _ _) hi λj hj hn=>?_).trans ?_).symm
  ·rw[if_neg hn,iF m _ m0]
  ·rw[if_pos rfl,ei]
   exact sP (fQ hm (hR _ (fB hi [])).2 k)
 | zero=>exact⟨λ_=>0,λ_=>r.pos,λk=>(ju r λj _=>iF m _ m0).symm⟩
 | add _ _ a b =>
  obtain⟨c,hc,a⟩:=a
  obtain⟨d,hd,b⟩:=b
  refine⟨λi=>gp m (c i) (d i),λi=>r.lp (hc i) (hd i),λk=>?_⟩
  dsimp only
  rw[a k,b k,<- sV r]
  refine eE λj _=>?_
  rw[r.mc (gp m _ _),r.dl,r.mc _ (cf _ k),r.mc _ (cf _ k)]
 | mul e he _ a =>
  obtain⟨c,hc,a⟩:=a
  refine⟨λi=>gm m e (c i),λi=>dD hm _ _,λk=>?_⟩
  dsimp only
  rw[a k,<- sW r]
  refine eE λj _=>?_
  rw[km m0]
theorem cN.ann{m:Bool × Nat}(hm:m∈aI){R:List (List Nat)}{n:Nat}{y:Nat->Nat}(h:∀x∈R,sm (gp m) n (λj=>gm m (cf x j) (y j))=0){f:Nat->Nat}(s:cN m R f):sm (gp m) n (λj=>gm m (f j) (y j))=0:=by
 have r:=rg hm
 have m0:=dq m hm
 induction s with
 | mem a=>obtain⟨x,hx,rfl⟩:=a;exact h x hx
 | zero=>exact ju r λj _=>iF m _ m0
 | @add f g _ _ a b =>
  rw[eE (g:=λj=>gp m (gm m (f j) (y j)) (gm m (g j) (y j))) λj _=>by dsimp only;rw[r.mc (gp m _ _),r.dl,r.mc (y j),r.mc (y j)],sV r,a,b,r.z r.pos]
 | @mul f e he _ a =>
  rw[eE (g:=λj=>gm m e (gm m (f j) (y j))) λj _=>km m0 _ _ _,sW r,a,r.qz]
theorem RR.Lx{m:Bool × Nat}(hm:m∈aI){w:Nat}{R:List (List Nat)}{H:Nat->Nat}(hR:RT (ae m) w R)(I:RR w R H){i:Nat}(hi:i<R.length):(R.getD i []).findIdx (· != 0)=H i/\∃x∈R.getD i [],x≠0:=by
 have a:=(hR _ (fB hi [])).1
 have l:=I.l i hi
 have u:=I.u i i hi hi
 rw[if_pos rfl]at u
 have eu:(R.getD i [])[H i]'(by omega)=1:=by
  unfold cf at u
  rw[aU (l:=R.getD i []),aP (by omega)]at u
  exact u
 refine⟨?_,_,dE (show H i<(R.getD i []).length by omega),by rw[eu];decide⟩
 rw[List.findIdx_eq (by omega)]
 refine⟨by rw[eu];rfl,λj hj=>?_⟩
 have z:=I.z i hi j hj
 unfold cf at z
 rw[aU (l:=R.getD i []),aP (by omega)]at z
 simpa using z
theorem EW{a b:List Nat}{w:Nat}(ha:a.length=w)(hb:b.length=w)(h:∀k,k<w->cf a k=cf b k):a=b:=by
 refine Vu (ha.trans hb.symm) λk h1 h2=>?_
 have:=h k (by omega)
 unfold cf at this
 rw[aU,aU,aP h1,aP h2]at this
 exact this
theorem EX(f:Nat->Nat){w k:Nat}(h:k<w):cf ((aM w).map f) k=f k:=by
 unfold cf
 rw[aU,cu,jZ h];rfl
theorem Ly(m:Bool × Nat){xs ys:List Nat}(h:xs.length=ys.length):gd m xs ys=sm (gp m) xs.length λj=>gm m (cf xs j) (cf ys j):=by
 unfold gd
 rw[cn6,i7,h,Dh]
 refine eE λj hj=>?_
 unfold cf
 rw[aU,nq,aP (by omega),aP (by omega),aU,aP (by omega),aU,aP (by omega)]
 rfl
def kq(m:Bool × Nat)(xs:List Nat)(T:List (List Nat))(w:Nat):List Nat:=(aM w).map λk=>gd m xs (T.map λr=>r.getD k 0)
theorem ZJ{T:List (List Nat)}(k i:Nat):cf (T.map λr=>r.getD k 0) i=cf (T.getD i []) k:=by
 by_cases h:i<T.length
 ·exact pZ (λr:List Nat=>r.getD k 0) h [] 0
 ·rw[wg (by rw[bA];omega),aU,gr (by omega)];rfl
theorem Lz(m:Bool × Nat)(xs:List Nat)(T:List (List Nat))(w:Nat):(kq m xs T w).length=w:=by unfold kq;rw[bA,cm]
theorem LA(m:Bool × Nat){xs:List Nat}{T:List (List Nat)}{w k:Nat}(h:xs.length=T.length)(hk:k<w):cf (kq m xs T w) k=sm (gp m) T.length λi=>gm m (cf xs i) (cf (T.getD i []) k):=by
 unfold kq
 rw[EX _ hk,Ly m (by rw[bA,h]),h]
 exact eE λj _=>by rw[ZJ]
theorem cN0{m:Bool × Nat}(hm:m∈aI){xs ys:List Nat}(h:xs.length=ys.length):gd m xs ys<ae m:=by
 rw[Ly m h];exact pW (rg hm) λj _=>dD hm _ _
theorem cJ5{m:Bool × Nat}(hm:m∈aI){xs:List Nat}{T:List (List Nat)}(w:Nat)(h:xs.length=T.length):AllLt (ae m) (kq m xs T w):=λx hx=>by
 obtain⟨k,_,rfl⟩:=bH.mp hx
 exact cN0 hm (by rw[bA,h])
theorem cR9{m:Bool × Nat}{xs u:List Nat}{T:List (List Nat)}{w:Nat}(h:xs.length=T.length)(hu:u.length=w)(hk:∀k,k<w->cf u k=sm (gp m) T.length λi=>gm m (cf xs i) (cf (T.getD i []) k)):kq m xs T w=u :=
 EW (Lz m xs T w) hu λk h1=>by rw[LA m h h1,hk k h1]
def bc(r:List Nat):Nat:=r.findIdx (· != 0)
theorem EY{α:Type}(a b:α->Nat){j:Nat}:∀(l:List α) (x:List Nat),(∀z∈l,a z≠j)->cf (l.foldl (λx z=>x.set (a z) (b z)) x) j=cf x j
 | [],_,_=>rfl
 | z::l,x,h=>by
  rw[ua,EY a b l _ λy hy=>h y (gq _ hy)]
  unfold cf
  rw[aU,tT (h z iY),<- aU]
theorem ZK{α:Type}(a b:α->Nat):∀(l:List α) (x:List Nat),l.Pairwise (λy z=>a y≠a z)->∀z∈l,a z<x.length->cf (l.foldl (λx z=>x.set (a z) (b z)) x) (a z)=b z
 | [],_,_,_,h,_=>nomatch h
 | y::l,x,hp,z,hz,hl=>by
  rw[ua]
  rw[IY]at hp
  rcases cz.mp hz with rfl | hz
  ·rw[EY a b l _ λy hy=>fH (hp.1 y hy)]
   unfold cf
   rw[aU,Iw hl];rfl
  ·exact ZK a b l _ hp.2 z hz (by rw[jY];exact hl)
theorem ZL{α:Type}(a b:α->Nat):∀(l:List α) (x:List Nat),(l.foldl (λx z=>x.set (a z) (b z)) x).length=x.length
 | [],_=>rfl
 | z::l,x=>by rw[ua,ZL a b l,jY]
def eP(T:List (List Nat)):List (List Nat):=(aM (av T)).map λj=>T.map λr=>r.getD j 0
theorem ZM{T:List (List Nat)}{a:Nat}(h:a<av T):(eP T).getD a []=T.map λr=>r.getD a 0:=by
 unfold eP
 rw[aU,cu,jZ h];rfl
theorem ZN{N:Nat}{T:List (List Nat)}(h0:0<N)(hw:0<av T)(hT:RT N (av T) T):(eP T).length=av T/\av (eP T)=T.length/\RT N T.length (eP T):=by
 have a:(eP T).length=av T:=by unfold eP;rw[bA,cm]
 have c:RT N T.length (eP T):=λr hr=>by
  obtain⟨j,_,rfl⟩:=bH.mp hr
  refine⟨bA _,λx hx=>?_⟩
  obtain⟨y,hy,rfl⟩:=bH.mp hx
  exact(hT y hy).2.getD h0 j
 refine⟨a,?_,c⟩
 have:=ZM hw
 have e:av (eP T)=((eP T).getD 0 []).length:=by
  unfold av
  cases eP T<;>rfl
 rw[e,this,bA]
end L3
namespace L3
open PySem L2 Mf
def fS(T:List (List Nat))(w:Nat):List Nat:=(aM w).filter λj=>!(T.map bc).contains j
def gQ(m:Bool × Nat)(T:List (List Nat))(w f:Nat):List Nat:=(((T.map bc).zip T).foldl (λx z=>x.set z.1 (bR m 0 (z.2.getD f 0))) ((bo w 0).set f 1))
def iT(m:Bool × Nat)(T:List (List Nat))(w:Nat):List (List Nat):=(fS T w).map (gQ m T w)
theorem RR.heads{m:Bool × Nat}(hm:m∈aI){w:Nat}{R:List (List Nat)}{H:Nat->Nat}(hR:RT (ae m) w R)(I:RR w R H):R.map bc=(aM R.length).map H:=by
 refine Vu (by rw[bA,bA,cm]) λi h1 h2=>?_
 rw[bA]at h1
 rw[zx,zx,VC,<- (I.Lx hm hR h1).1,aU,aP h1];rfl
theorem RR.mem{m:Bool × Nat}(hm:m∈aI){w:Nat}{R:List (List Nat)}{H:Nat->Nat}(hR:RT (ae m) w R)(I:RR w R H)(j:Nat):j∈R.map bc↔∃i,i<R.length/\H i=j:=by
 rw[I.heads hm hR,bH]
 exact⟨λ⟨i,a,b⟩=>⟨i,da.mp a,b⟩,λ⟨i,a,b⟩=>⟨i,da.mpr a,b⟩⟩
theorem RR.free{m:Bool × Nat}(hm:m∈aI){w:Nat}{R:List (List Nat)}{H:Nat->Nat}(hR:RT (ae m) w R)(I:RR w R H)(j:Nat):j∈fS R w↔j<w/\∀i,i<R.length->H i≠j:=by
 unfold fS
 rw[tR,da,Bool.not_eq_true',<- Bool.not_eq_true,IV,I.mem hm hR]
 exact and_congr_right λ_=>⟨λh i a b=>h ⟨i,a,b⟩,λh ⟨i,a,b⟩=>h i a b⟩
theorem RR.LB{m:Bool × Nat}(hm:m∈aI){w:Nat}{R:List (List Nat)}{H:Nat->Nat}(hR:RT (ae m) w R)(I:RR w R H):(fS R w).length+R.length=w:=by
 have nd:(R.map bc).Nodup:=by
  rw[I.heads hm hR]
  unfold List.Nodup
  rw[dE6]
  intro i j hi hj BG
  rw[bA,cm]at hi hj
  rw[zx,zx,VC,VC]
  have:=I.i i j BG hj
  omega
 have pe:((aM w).filter λj=>(R.map bc).contains j).Perm (R.map bc):=by
  refine(List.perm_ext_iff_of_nodup (dE7 _ List.nodup_range) nd).mpr λj=>?_
  rw[tR,IV,da]
  refine⟨λh=>h.2,λh=>⟨?_,h⟩⟩
  obtain⟨i,hi,rfl⟩:=(I.mem hm hR j).mp h
  exact I.l i hi
 have l1:=pe.length_eq
 rw[bA]at l1
 have l2:=List.length_eq_countP_add_countP (λj=>(R.map bc).contains j) (l:=aM w)
 rw[cm,dE8,dE8,l1]at l2
 unfold fS
 have e:((aM w).filter λa=>decide ¬(R.map bc).contains a=true)=(aM w).filter λj=>!(R.map bc).contains j:=List.filter_congr λx _=>by
  cases(R.map bc).contains x<;>rfl
 rw[e]at l2
 omega
theorem EZ{m:Bool × Nat}(hm:m∈aI){w f:Nat}{R:List (List Nat)}{H:Nat->Nat}(hR:RT (ae m) w R)(I:RR w R H)(hf:f∈fS R w):(gQ m R w f).length=w/\AllLt (ae m) (gQ m R w f)/\cf (gQ m R w f) f=1/\(∀i,i<R.length->cf (gQ m R w f) (H i)=bR m 0 (cf (R.getD i []) f))/\∀j,j≠f->(∀i,i<R.length->H i≠j)->cf (gQ m R w f) j=0:=by
 obtain⟨f1,f2⟩:=(I.free hm hR f).mp hf
 have l1:=lo1 hm
 have zl:((R.map bc).zip R).length=R.length:=by rw[IT,bA,Dh]
 have zg:∀i (h:i<R.length),((R.map bc).zip R)[i]'(by omega)=(H i,R.getD i []):=λi h=>by
  rw[List.getElem_zip,zx]
  have e:R.getD i []=R[i]:=by rw[aU,aP h];rfl
  have:=(I.Lx hm hR h).1
  rw[e]at this ⊢
  exact Prod.ext this rfl
 have zm:∀z∈(R.map bc).zip R,∃i,i<R.length/\z=(H i,R.getD i []):=λz hz=>by
  obtain⟨i,hi,rfl⟩:=kD hz
  exact⟨i,by omega,zg i (by omega)⟩
 have mz:∀i,i<R.length->(H i,R.getD i [])∈(R.map bc).zip R:=λi h=>by
  rw[<-zg i h];exact dE _
 have bd:∀z∈(R.map bc).zip R,bR m 0 (z.2.getD f 0)<ae m:=λz hz=>by
  obtain⟨i,hi,rfl⟩:=zm z hz
  exact(mM hm (by omega) (fQ hm (hR _ (fB hi [])).2 f)).2.1
 refine⟨?_,?_,?_,λi hi=>?_,λj hj hj2=>?_⟩
 ·unfold gQ
  rw[ZL (λz:Nat × List Nat=>z.1) (λz=>bR m 0 (z.2.getD f 0)),jY,fW]
 ·have key:∀(l:List (Nat × List Nat)) (x:List Nat),(∀z∈l,bR m 0 (z.2.getD f 0)<ae m)->AllLt (ae m) x->AllLt (ae m) (l.foldl (λx z=>x.set z.1 (bR m 0 (z.2.getD f 0))) x):=by
   intro l
   induction l with
   | nil=>exact λx _ h=>h
   | cons z l ih =>
    intro x hz h
    rw[ua]
    refine ih _ (λy hy=>hz y (gq _ hy)) λy hy=>?_
    rcases Vs hy with h1 | h1
    ·exact h y h1
    ·rw[h1];exact hz z iY
  refine key _ _ bd λx hx=>?_
  rcases Vs hx with h1 | h1
  ·rw[(Dg.mp h1).2];omega
  ·omega
 ·unfold gQ
  rw[EY (λz:Nat × List Nat=>z.1) (λz=>bR m 0 (z.2.getD f 0)) _ _ λz hz=>?_]
  ·unfold cf
   rw[aU,Iw (by rw[fW];exact f1)];rfl
  ·obtain⟨i,hi,rfl⟩:=zm z hz
   exact f2 i hi
 ·have hp:((R.map bc).zip R).Pairwise (λy z:Nat × List Nat=>y.1≠z.1):=by
   rw[dE6]
   intro i j hi hj BG
   rw[zg i (by omega),zg j (by omega)]
   have:=I.i i j BG (by omega)
   show H i≠H j
   omega
  exact ZK (λz:Nat × List Nat=>z.1) (λz=>bR m 0 (z.2.getD f 0)) _ _ hp _ (mz i hi) (by rw[jY,fW];exact I.l i hi)
 ·unfold gQ
  rw[EY (λz:Nat × List Nat=>z.1) (λz=>bR m 0 (z.2.getD f 0)) _ _ λz hz=>?_]
  ·unfold cf
   rw[aU,tT (fH hj),tY]
   split<;>rfl
  ·obtain⟨i,hi,rfl⟩:=zm z hz
   exact hj2 i hi
theorem cL2{N:Nat}{p q:Nat->Nat->Nat}(r:Rg N p q){f:Nat->Nat}{a b n:Nat}(ha:a<n)(hb:b<n)(hn:a≠b)(fa:f a<N)(fb:f b<N)(hz:∀j,j<n->j≠a->j≠b->f j=0):sm p n f=p (f a) (f b):=by
 have h1:=wk r (f:=λj=>if j=a then f a else 0) (j0:=a) (n:=n) (by rw[if_pos rfl];exact fa) ha λj _ h=>if_neg h
 have h2:=wk r (f:=λj=>if j=b then f b else 0) (j0:=b) (n:=n) (by rw[if_pos rfl];exact fb) hb λj _ h=>if_neg h
 rw[if_pos rfl]at h1 h2
 rw[<-h1,<- h2,<- sV r]
 refine eE λj hj=>?_
 by_cases ja:j=a
 ·rw[if_pos ja,if_neg (by omega),r.z' fa,ja]
 ·by_cases jb:j=b
  ·rw[if_neg ja,if_pos jb,r.z fb,jb]
  ·rw[if_neg ja,if_neg jb,hz j hj ja jb,r.z r.pos]
def dt(m:Bool × Nat)(w:Nat)(x y:Nat->Nat):Nat:=sm (gp m) w λj=>gm m (x j) (y j)
theorem cP5{m:Bool × Nat}(hm:m∈aI)(w:Nat)(x y z:Nat->Nat):dt m w x (λk=>gp m (y k) (z k))=gp m (dt m w x y) (dt m w x z):=by
 have r:=rg hm
 unfold dt
 rw[<-sV r]
 exact eE λj _=>r.dl _ _ _
theorem cO6{m:Bool × Nat}(hm:m∈aI)(w c:Nat)(x y:Nat->Nat):dt m w x (λk=>gm m c (y k))=gm m c (dt m w x y):=by
 have r:=rg hm
 have m0:=dq m hm
 unfold dt
 rw[<-sW r]
 exact eE λj _=>by rw[<-km m0,iS m (x j),km m0]
theorem ZO{m:Bool × Nat}(hm:m∈aI)(w:Nat)(x:Nat->Nat)(c:Nat->Nat)(F:Nat->Nat->Nat):∀n,dt m w x (λk=>sm (gp m) n λi=>gm m (c i) (F i k))=sm (gp m) n λi=>gm m (c i) (dt m w x (F i))
 | 0=>ju (rg hm) λj _=>(rg hm).qz _
 | n+1=>by
  rw[sm,<- ZO hm w x c F n,<- cO6 hm,<- cP5 hm];rfl
theorem ZP{m:Bool × Nat}(hm:m∈aI){w f:Nat}{R:List (List Nat)}{H:Nat->Nat}(hR:RT (ae m) w R)(I:RR w R H)(hf:f∈fS R w){i:Nat}(hi:i<R.length):dt m w (cf (R.getD i [])) (cf (gQ m R w f))=0:=by
 have r:=rg hm
 obtain⟨f1,f2⟩:=(I.free hm hR f).mp hf
 obtain⟨k1,k2,k3,k4,k5⟩:=EZ hm hR I hf
 have il:=fQ hm (hR _ (fB hi [])).2
 have g:=mM hm (a:=0) r.pos (il f)
 unfold dt
 rw[cL2 r (f:=λj=>gm m (cf (R.getD i []) j) (cf (gQ m R w f) j)) (a:=H i) (b:=f) (I.l i hi) f1 (f2 i hi) (dD hm _ _) (dD hm _ _) λj hj ja jb=>?_]
 ·rw[k3,k4 i hi,I.u i i hi hi,if_pos rfl,sP g.2.1,sQ (il f)]
  exact g.2.2
 ·by_cases c:∃i',i'<R.length/\H i'=j
  ·obtain⟨i',h1,rfl⟩:=c
   rw[I.u i i' hi h1,if_neg (λz:i=i'=>ja (by rw[z])),iF m _ (dq m hm)]
  ·rw[k5 j jb λi' h1 h2=>c ⟨i',h1,h2⟩,r.qz]
theorem cN.dt{m:Bool × Nat}(hm:m∈aI){R:List (List Nat)}{n:Nat}{y:Nat->Nat}(h:∀i,i<R.length->dt m n (cf (R.getD i [])) y=0){f:Nat->Nat}(s:cN m R f):dt m n f y=0:=by
 refine s.ann hm λx hx=>?_
 obtain⟨i,hi,rfl⟩:=kD hx
 have:=h i hi
 rw[aU,aP hi]at this
 exact this
theorem s8{N n:Nat}{M:List (List Nat)}(h:RT N n M)(h0:M≠[]):av M=n:=by
 cases M with
 | nil=>exact absurd rfl h0
 | cons g M=>exact(h g iY).1
theorem ZQ{m:Bool × Nat}(hm:m∈aI){n:Nat}{M:List (List Nat)}(h:RT (ae m) n M)(hl:M.length<n):∃(x:Nat->Nat) (f:Nat),f<n/\(∀k,x k<ae m)/\x f=1/\∀i,i<M.length->dt m n (cf (M.getD i [])) x=0:=by
 by_cases h0:M=[]
 ·subst h0
  exact⟨λ_=>1,0,hl,λ_=>lo1 hm,rfl,λi hi=>nomatch hi⟩
 ·have hw:=s8 h h0
  obtain⟨⟨H,I⟩,iR,il,sp⟩:=mQ hm (G:=M) (by rw[hw];exact h)
  rw[hw]at I iR
  have fl:=I.LB hm iR
  have f0:0<(fS (bY m M) n).length:=by omega
  have hf:=fB f0 0
  obtain⟨k1,k2,k3,k4,k5⟩:=EZ hm iR I hf
  refine⟨cf (gQ m (bY m M) n ((fS (bY m M) n).getD 0 0)),_,((I.free hm iR _).mp hf).1,fQ hm k2,k3,λi hi=>?_⟩
  exact cN.dt hm (λi' gK=>ZP hm iR I hf gK) ((sp _).mp (cN.of (fB hi [])))
theorem RR.wm{m:Bool × Nat}(hm:m∈aI){w v:Nat}{S R:List (List Nat)}{H:Nat->Nat}(hS:RT (ae m) w S)(I:RR w S H)(hR:RT (ae m) v R)(h:∀i,i<S.length->cN m R (cf (S.getD i []))):S.length<=R.length:=by
 have r:=rg hm
 refine Nat.le_of_not_lt λhl=>?_
 have hc:∀i,∃c:Nat->Nat,i<S.length->(∀j,c j<ae m)/\∀k,cf (S.getD i []) k=sm (gp m) R.length λj=>gm m (c j) (cf (R.getD j []) k):=λi=>by
  by_cases hi:i<S.length
  ·obtain⟨c,a,b⟩:=(h i hi).sum hm hR
   exact⟨c,λ_=>⟨a,b⟩⟩
  ·exact⟨λ_=>0,λz=>absurd z hi⟩
 obtain⟨C,hC⟩:=Classical.axiomOfChoice hc
 have cl:∀i,i<S.length->∀j,C i j<ae m:=λi hi=>(hC i hi).1
 obtain⟨x,f,f1,x1,x2,x3⟩:=ZQ hm (n:=S.length) (M:=(aM R.length).map λj=>(aM S.length).map λi=>C i j) (λy hy=>by
  obtain⟨j,_,rfl⟩:=bH.mp hy
  refine⟨by rw[bA,cm],λz hz=>?_⟩
  obtain⟨i,hi,rfl⟩:=bH.mp hz
  exact cl i (da.mp hi) j) (by rw[bA,cm];exact hl)
 rw[bA,cm]at x3
 have x4:∀j,j<R.length->sm (gp m) S.length (λi=>gm m (C i j) (x i))=0:=λj hj=>by
  rw[<-x3 j hj]
  refine eE λi hi=>?_
  rw[pZ (λj=>(aM S.length).map λi=>C i j) (by rw[cm];exact hj) 0 [],EX _ hi,aU,jZ hj];rfl
 have x5:∀k,sm (gp m) S.length (λi=>gm m (x i) (cf (S.getD i []) k))=0:=λk=>by
  rw[eE (g:=λi=>sm (gp m) R.length λj=>gm m (gm m (C i j) (x i)) (cf (R.getD j []) k)) λi hi=>?_,Zl r,ju r λj hj=>?_]
  ·rw[eE (g:=λi=>gm m (cf (R.getD j []) k) (gm m (C i j) (x i))) λi hi=>iS m _ _,sW r,x4 j hj,r.qz]
  ·rw[(hC i hi).2 k,<- sW r]
   exact eE λj _=>by rw[<-km (dq m hm),iS m (x i)]
 have:=x5 (H f)
 rw[wk r (f:=λi=>gm m (x i) (cf (S.getD i []) (H f))) (dD hm _ _) f1 λj hj hn=>by rw[I.u j f hj f1,if_neg hn,r.qz],I.u f f f1 f1,if_pos rfl,x2,sP (lo1 hm)]at this
 omega
theorem cB0{m:Bool × Nat}(hm:m∈aI){v:Nat}{G R:List (List Nat)}(hG:RT (ae m) (av G) G)(hR:RT (ae m) v R)(h:∀i,i<G.length->cN m R (cf (G.getD i []))):(bY m G).length<=R.length:=by
 obtain⟨⟨H,I⟩,iR,il,sp⟩:=mQ hm hG
 refine I.wm hm iR hR λi hi=>?_
 refine Sp.trans (λf hf=>?_) ((sp _).mpr (cN.of (fB hi [])))
 obtain⟨x,hx,rfl⟩:=hf
 obtain⟨i,hi,rfl⟩:=kD hx
 have:=h i hi
 rw[aU,aP hi]at this
 exact this
theorem cK5{T:List (List Nat)}{i:Nat}(h:i<T.length):T.getD i []=T[i]:=by rw[aU,aP h];rfl
theorem cN.red{m:Bool × Nat}(hm:m∈aI){G:List (List Nat)}(hG:RT (ae m) (av G) G){f:Nat->Nat}(h:cN m G f):cN m (bY m G) f:=((mQ hm hG).2.2.2 f).mp h
end L3
namespace L3
open PySem L2 PySem.Spec PyProof.Rows
section
variable{X:Cx}{F H:Hp}{e b:Expr}{pos pos' p p2 p3 apos cw:Pos}{ti te:aO}{x y:Str}{i j:Nat}
def BH(i j:Nat)(te ti:aO):cL:=λD δ=>te δ λd ao=>∃l1 ys l2,ao[i]?=some (some (.lst true (l1++.lst true ys::l2)))/\ao[j]?=some (some (.int l1.length))/\nL ti ao λk aT=>match k with
 | .int n=>∃jj,aT[i]?=some (some (.lst true (l1++.lst true ys::l2)))/\g9 ys.length n=some jj/\D.nx (aT.set i (some (.lst true (l1++.lst true (ys.set jj d)::l2))))
 | _=>False
def wo(i:Nat)(n:Int)(te ti:aO):cL:=λD δ=>te δ λd ao=>∃l1 ys l2,ao[i]?=some (some (.lst true (l1++.lst true ys::l2)))/\n=l1.length/\nL ti ao λk aT=>match k with
 | .int n=>∃jj,aT[i]?=some (some (.lst true (l1++.lst true ys::l2)))/\g9 ys.length n=some jj/\D.nx (aT.set i (some (.lst true (l1++.lst true (ys.set jj d)::l2))))
 | _=>False
theorem ZR{n:Int}{tk:Nat}(hN:X.N[i]?=some x)(hv:lW X.env.scope x)(he:PE X e (lE te))(hi:PE X b (lB ti))(hd:(x==("__debug__":Str))=false:=by decide)(cJ:(x==("__classdict__":Str))=false:=by decide)
  (ha:∀v,assign (.Subscript (.Subscript (.Name x p) (.Constant (.int n) tk p2) p3) b pos') X.env v=(do
   let ov<-holding [v] (eval (.Subscript (.Name x p) (.Constant (.int n) tk p2) p3) X.env)
   let iv<-holding [v,ov] (eval b X.env)
   standAt pos'
   holding [v,ov,iv] (setItem ov iv v)
   release [v,ov,iv] []):=by intro _;rfl)
  (hs:swapsWithSole [.Subscript (.Subscript (.Name x p) (.Constant (.int n) tk p2) p3) b pos'] e pos.line X.env=pure false:=by rfl) (hw:swappedStores [.Subscript (.Subscript (.Name x p) (.Constant (.int n) tk p2) p3) b pos'] e X.env=pure none:=by rfl)
  (h1:(assignEach [.Subscript (.Subscript (.Name x p) (.Constant (.int n) tk p2) p3) b pos'] X.env).map (·.2)=[assign (.Subscript (.Subscript (.Name x p) (.Constant (.int n) tk p2) p3) b pos') X.env]:=by rfl) :
  PS X (.Assign [.Subscript (.Subscript (.Name x p) (.Constant (.int n) tk p2) p3) b pos'] e pos) (lS X (wo i n te ti)) :=
 jH (VV he (VU (Wj Wn (qM hN hv hd cJ) oU (λ_ _=>rfl)) (dm hi) Wo ha) hs hw h1) λEn σ H ⟨B,F,δ,Dd,c,q,k1,k2,k3,k4⟩=>⟨B,F,δ,[],_,c,q,λd ao v F1 H1 hq f1 h1 c1=>by
  obtain⟨l1,ys,l2,e1,e2,hq⟩:=hq
  obtain⟨p0,ws,g1,g2,g3⟩:=c1.ownAt e1
  obtain⟨q0,us,g5,g6,g7,_⟩:=Kz c1 e1 g1 g2
  subst e2
  refine⟨.ref p0,g1,p0,ws,_,.ref q0,rfl,rfl,bN.of g2,El g5,B,F1,ao,[(d,v)],_,c1,hq,λkd aT kv F2 H2 hk f2 h2 c2=>?_⟩
  have st:=c2.top
  split at hk
  ·obtain⟨jj,ex,ej,hn⟩:=hk
   cases st
   have c3:=c2.pop
   refine⟨q0,us,_,jj,rfl,rfl,h2 _ _ g6,by rw[<-g7];exact ej,k1 _ _ F2 _ hn ?_⟩
   exact aq.d82 (ps:=[(d,v)]) (ts:=[]) c3 ex g1 (h2 _ _ g2) g5 λus0 A1 A2 z r1 r2 nd=>by
    rw[h2 _ _ g6]at z;cases z
    exact R.J8 jj r1 r2 nd
  ·exact hk.elim⟩
end
section
variable{X:Cx}
end
section
variable{X:Cx}{es:List Expr}{tr:cK}{pos:Pos}
theorem cL8(h:PA X es (lA tr)):PE X (.List es pos) (lB (rD tr)) :=
 dA (V8 h) λσ H Q ⟨B,F,δ,ts,Qd,c,q,k⟩=>⟨B,F,δ,ts,_,c,q,λds ao vs F1 H1 q1 f1 h1 c1 s1=>⟨by rw[<-s1.length];exact q1.1,λp hp=>k _ ao _ F1 _ q1.2 f1 (h1.trans (af.upd hp)) (c1.grow (af.upd hp)) (.own bM (s1.mono (af.refl _) (af.upd hp)) .nil)⟩⟩
end
end L3
namespace L3
open PySem L2 Mf
end L3
namespace L3
open PySem L2 Mf
end L3
namespace L3
open PySem L2 Mf
end L3
namespace L2
open PySem PySem.Spec PyProof.Rows
section
variable{X:Cx}
theorem ZS:∀{ns:List Int} {its:List Value},Vals (ns.map V.int) its->ns.length=its.length/\∀(i:Nat) (v:Value),its[i]?=some v->∃n t,ns[i]?=some n/\v=oG n t
 | [],_,r=>by cases r;exact⟨rfl,λi v h=>by simp at h⟩
 | n::ns,_,r=>by
  cases r with
  | cons a b =>
   obtain⟨h1,h2⟩:=ZS b
   obtain⟨t,rfl⟩:=a
   refine⟨by simp[h1],λi v h=>?_⟩
   cases i with
   | zero=>simp at h;exact⟨n,t,rfl,h.symm⟩
   | succ i=>simpa using h2 i v (by simpa using h)
theorem ca2(hc:X.calm=true):gv X (.builtin "any") (λxs H Q=>∃(p:Addr) (ns:List Int),xs=[.ref p]/\bN X.K H p (ns.map V.int)/\Q (.bl (ns.any (· != 0))) H):=by
 intro pins s σ H xs us Q I r h
 obtain⟨p,ns,rfl,hS,q⟩:=h
 obtain⟨u,rfl,ru⟩:=r.one
 cases ru
 obtain⟨its,rv,pl,hz⟩:=I.list hS
 obtain⟨hlen,z7⟩:=ZS rv
 have hl:=pl.isList
 have fK:p<s.heap.objs.size:=by obtain⟨_,e,_⟩:=hl;exact bS e
 refine call_any_walk (wpAny_pyIter_list hl ?_)
 refine⟨s.heap.objs.size,[s.heap.objs.size,p],[s.heap.objs.size],its.toArray.size,_,_,λi=>((ns.map (· != 0))[i]?).getD false,rfl,IG (A:=X.A.in1) (I.ok.hd hc) _ p (fj fK) its.toArray,
  ⟨⟨_,gJ _ rfl,rfl,rfl⟩,hl.push _⟩,λi v s' Q' E' hP hQ=>?_,λh' tk hk=>?_⟩
 ·obtain⟨n,t,e,rfl⟩:=z7 i v (by simpa using hP)
  simp only[cu,e,zy,qE]at hQ
  exact PyProof.Rows.truthy_int hQ
 ·have e:((aM its.toArray.size).any λi=>((ns.map (· != 0))[i]?).getD false)=(ns.map (· != 0)).any id:=by
   rw[dO,<- hlen,<- bA (f:=(· != 0)) (as:=ns)];exact W7 _
  rw[e,List.any_map]
  exact⟨.bl _,H,I.kept (h':=h') (t':=tk) (DZ hk),rfl,q⟩
end
end L2
namespace L3
open PySem L2 PySem.Spec PyProof.Rows
section
variable{X:Cx}
def s9:jq:=λds Q=>match ds with
 | [.lst _ xs]=>∃ns,xs=aJ ns/\Q (.bl (ns.any (· != 0)))
 | _=>False
theorem cK3(hc:X.calm=true):gD X (.builtin "any") s9:=gD.of (ca2 hc) λvs H Q zz=>by
 obtain⟨B,F,σ,δ,ts,ds,Qd,c,s,q,k⟩:=zz
 unfold s9 at q
 split at q
 ·obtain⟨v,rfl,s1⟩:=kh s
  obtain⟨ns,rfl,q⟩:=q
  obtain⟨p,ws,rfl,h,t⟩:=kO s1 c.ext rfl
  rw[KQ t]at h
  exact⟨p,ns,rfl,ki h,k _ _ _ q (af.refl _) (c.pushS (.bl .nil) rfl)⟩
 ·exact q.elim
end
end L3
namespace L2
open PySem PySem.Spec PyProof.Rows
section
variable{X:Cx}{a:Expr}{ta:TE}{p p2 pos BI:Pos}
end
end L2
namespace L3
open PySem L2 PySem.Spec PyProof.Rows
section
variable{X:Cx}{a:Expr}{t:aO}{p p2 pos BI:Pos}
end
end L3
namespace L3
open PySem L2 PySem.Spec PyProof.Rows
section
variable{F H:Hp}
end
section
variable{X:Cx}{e:Expr}{t:aO}{p2 pos:Pos}
end
end L3
namespace L3
open PySem L2 PySem.Spec PyProof.Rows
section
variable{F H:Hp}
end
section
variable{P:Program}{w:World}{K:PySem.W.Frag}{mg:Str->Option Value}{base:Heap}
end
section
variable{X:Cx}{CX:eW}{n i:Nat}{f:Addr}{fd:FuncData}{ps:List Str}{sp:bq}{E:XK}{fn x:Str}{e:Expr}{te:aO}{p p2 pos pos' BI:Pos}
end
end L3
namespace L2
section
variable{α:Type}{P:List α->Prop}
theorem cJ9(h:P []):∀us:List α,us.length=0->P us:=by
 intro us hl;rcases us with _ | ⟨a,t⟩
 ·exact h
 ·cases hl
theorem fC(h:∀a,P [a]):∀us:List α,us.length=1->P us:=by
 intro us hl;rcases us with _ | ⟨a,t⟩
 ·cases hl
 ·exact cJ9 (P:=λt=>P (a::t)) (h a) t (Dq hl)
theorem eY(h:∀a b,P [a,b]):∀us:List α,us.length=2->P us:=by
 intro us hl;rcases us with _ | ⟨a,t⟩
 ·cases hl
 ·exact fC (P:=λt=>P (a::t)) (h a) t (Dq hl)
theorem gi(h:∀a b c,P [a,b,c]):∀us:List α,us.length=3->P us:=by
 intro us hl;rcases us with _ | ⟨a,t⟩
 ·cases hl
 ·exact eY (P:=λt=>P (a::t)) (h a) t (Dq hl)
theorem p8(h:∀a b c d,P [a,b,c,d]):∀us:List α,us.length=4->P us:=by
 intro us hl;rcases us with _ | ⟨a,t⟩
 ·cases hl
 ·exact gi (P:=λt=>P (a::t)) (h a) t (Dq hl)
theorem ZT(h:∀a b c d e,P [a,b,c,d,e]):∀us:List α,us.length=5->P us:=by
 intro us hl;rcases us with _ | ⟨a,t⟩
 ·cases hl
 ·exact p8 (P:=λt=>P (a::t)) (h a) t (Dq hl)
end
end L2
namespace L3
open PySem L2 PySem.Spec PyProof.Rows
section
variable{B:Bs}{F H:Hp}{σ:L2.St}{δ:Dl}{ts:List (D × V)}
end
section
variable{X:Cx}{elt iter tg:Expr}{pos:Pos}{scope:Scope}{cl:List (Str × Addr)}{ti:jm}{te:aO}{g:iz}
end
end L3
namespace L2
open PySem PySem.Spec PyProof.Rows
section
variable{X:Cx}
end
end L2
namespace L3
open PySem L2 PySem.Spec PyProof.Rows
section
variable{X:Cx}
end
end L3
namespace L3
open PySem L2 Mf
theorem ZU{m:Bool × Nat}(hm:m∈aI){a b:Nat}(ha:a<ae m)(hb:b<ae m):gm m a b=0↔a=0\/b=0:=by
 constructor
 ·intro h
  by_cases a0:a=0
  ·exact .inl a0
  ·by_cases b0:b=0
   ·exact .inr b0
   ·exact absurd h (cU2 hm (by omega) ha (by omega) hb)
 ·rintro (rfl | rfl)
  ·exact iF m _ (dq m hm)
  ·exact kU m _ (dq m hm)
theorem cy9{xs ys:List Nat}{i:Nat}{d:D}(h:(dJ (ak xs) (ak ys))[i]?=some d):∃(hi:i<xs.length) (hj:i<ys.length),d=.tup [.int (xs[i]:Nat),.int (ys[i]:Nat)]:=by
 unfold dJ at h
 rw[cE,cE,Dj]at h
 have hl:=(iZ.mp h).1
 rw[i7]at hl
 have hi:i<xs.length:=by omega
 have hj:i<ys.length:=by omega
 rw[nq,aP hi,aP hj]at h
 exact⟨hi,hj,(cV h).symm⟩
theorem cn8(xs ys:List Nat):(dJ (ak xs) (ak ys)).length=min xs.length ys.length:=by unfold dJ;rw[i7,eo,eo]
def fo(m:Bool × Nat)(b:Nat)(ps:List Nat)(n:Nat):List (List Nat):=(aM n).map λ(i:Nat)=>ps.map λ(p:Nat)=>eS m (((b:Int)+(i:Int))*(p:Int))
theorem E1{m:Bool × Nat}(hm:m∈aI)(b:Nat)(ps:List Nat)(n:Nat):RT (ae m) ps.length (fo m b ps n)/\(fo m b ps n).length=n:=by
 refine⟨λr hr=>?_,by unfold fo;rw[bA,cm]⟩
 obtain⟨i,_,rfl⟩:=bH.mp hr
 refine⟨by rw[bA],λx hx=>?_⟩
 obtain⟨p,_,rfl⟩:=bH.mp hx
 exact c79 hm _
end L3
namespace L3
open PySem L2 Mf
def gR(m:Bool × Nat)(c:List Nat)(os:List (List Nat)):List (List Nat):=os.map λo =>
 (cW (λx y=>bR m x (gm m (gm m (o.getD (bc c) 0) (mP m (c.getD (bc c) 0))) y)) o c).take (bc c)++(cW (λx y=>bR m x (gm m (gm m (o.getD (bc c) 0) (mP m (c.getD (bc c) 0))) y)) o c).drop (bc c+1)
abbrev Cs:=List Nat × List (List Nat)
def nul(c:List Nat):Bool:=c.all (·==0)
def iU(m:Bool × Nat)(w:Nat)(z:Cs × Nat):Cs:=(z.1.1++[w-z.1.2.length+z.2],gR m (z.1.2.getD z.2 []) (z.1.2.drop (z.2+1)))
def fE(s:Cs):List (Cs × Nat):=(aM s.2.length).map λi=>(s,i)
def dY(l:List Cs):List (Cs × Nat):=l.flatMap fE
def oj(z:Cs × Nat):Bool:=nul (z.1.2.getD z.2 [])
def tf(m:Bool × Nat)(w:Nat):Nat->List Cs->Option (List Nat)
 | 0,_=>none
 | f+1,l=>if l=[]then none else match (dY l).find? oj with
  | some z=>some (z.1.1++[w-z.1.2.length+z.2])
  | none=>tf m w f ((dY l).map (iU m w))
def gG(m:Bool × Nat)(C:Nat->Nat->Nat)(ps:List Nat)(c:Nat->Nat)(k:Nat):Nat:=sm (gp m) ps.length λt=>gm m (c t) (C (ps.getD t 0) k)
def wt(m:Bool × Nat)(C:Nat->Nat->Nat)(ps:List Nat):Prop:=∀c:Nat->Nat,(∀t,c t<ae m)->(∀k,gG m C ps c k=0)->∀t,t<ps.length->c t=0
structure Gs(m:Bool × Nat)(C:Nat->Nat->Nat)(w:Nat)(s:Cs):Prop where
 le:s.2.length<=w
 inc:s.1.Pairwise (· < ·)
 off:∀p∈s.1,p<w-s.2.length
 nx:∀j,(∀p∈s.1,p<j)->w-s.2.length<=j
 rt:∃h,RT (ae m) h s.2
 rel:∀a:Nat->Nat,(∀i,a i<ae m)->((∀k,sm (gp m) s.2.length (λi=>gm m (a i) (cf (s.2.getD i []) k))=0)↔∃c:Nat->Nat,(∀t,c t<ae m)/\∀k,gp m (sm (gp m) s.2.length λi=>gm m (a i) (C (w-s.2.length+i) k)) (gG m C s.1 c k)=0)
 ind:wt m C s.1
section
variable{m:Bool × Nat}{C:Nat->Nat->Nat}{w:Nat}
theorem cP2(hm:m∈aI)(C:Nat->Nat->Nat)(ps:List Nat)(c:Nat->Nat)(k:Nat):gG m C ps c k<ae m:=pW (rg hm) λ_ _=>dD hm _ _
theorem E2(hm:m∈aI)(C:Nat->Nat->Nat)(ps:List Nat)(j:Nat)(c:Nat->Nat)(k:Nat):gG m C (ps++[j]) c k=gp m (gG m C ps c k) (gm m (c ps.length) (C j k)):=by
 unfold gG
 rw[dN,lM,sm]
 congr 1
 ·refine eE λt ht=>?_
  rw[aU,qA ht,<- aU]
 ·rw[aU,kB (bK _),zj];rfl
theorem ZV{ps:List Nat}{c c':Nat->Nat}{k:Nat}(h:∀t,t<ps.length->c t=c' t):gG m C ps c k=gG m C ps c' k:=eE λt ht=>by rw[h t ht]
theorem p9(hm:m∈aI){n i e:Nat}(hi:i<n)(a' X:Nat->Nat):sm (gp m) n (λj=>gm m (if j<i then 0 else if j=i then e else a' (j-i-1)) (X j))=gp m (sm (gp m) (n-i-1) λj=>gm m (a' j) (X (i+1+j))) (gm m e (X i)):=by
 have r:=rg hm
 have h0:=dq m hm
 obtain⟨d,rfl⟩:∃d,n=(i+1)+d:=⟨n-i-1,by omega⟩
 rw[Zm r (i+1) d λ_ _=>dD hm _ _,sm,ju r λj hj=>by rw[if_pos hj,iF m _ h0],if_neg (gI _),if_pos rfl,r.z (dD hm _ _),pU]
 congr 1
 rw[show i+1+d-i-1=d by omega]
 refine eE λj hj=>?_
 rw[if_neg (by omega),if_neg (by omega),show i+1+j-i-1=j by omega]
theorem ZW{c:List Nat}:nul c=true↔∀k,cf c k=0:=by
 unfold nul
 rw[dz]
 constructor
 ·intro h k
  by_cases hk:k<c.length
  ·unfold cf
   have:=h _ (fB hk 0)
   exact beq_iff_eq.mp this
  ·exact wg (by omega)
 ·intro h x hx
  obtain⟨k,hk,rfl⟩:=kD hx
  have:=h k
  unfold cf at this
  rw[aU,aP hk]at this
  exact beq_iff_eq.mpr this
theorem LC{c:List Nat}(h:nul c=false):bc c<c.length/\cf c (bc c)≠0:=by
 have hx:∃x∈c,(x != 0)=true:=by
  refine IE λz=>?_
  have:nul c=true:=by
   unfold nul
   rw[dz]
   intro x hx
   refine IE λy=>z ⟨x,hx,?_⟩
   simpa using y
  rw[h]at this;cases this
 have hl:bc c<c.length:=Vz hx
 refine⟨hl,?_⟩
 have h2:(c[bc c] != 0)=true:=dE3 (xs:=c) (p:=(· != 0)) (w:=hl)
 unfold cf
 rw[aU,aP hl]
 simpa using h2
theorem cz4(hm:m∈aI){b:List Nat}{os:List (List Nat)}{h:Nat}(hb:b.length=h)(ab:AllLt (ae m) b)(lu:RT (ae m) h os)(nb:nul b=false){a:Nat->Nat}(ha:∀i,a i<ae m) :
  (∀k,sm (gp m) os.length (λj=>gm m (a j) (cf ((gR m b os).getD j []) k))=0)↔∃e,e<ae m/\∀k,gp m (sm (gp m) os.length λj=>gm m (a j) (cf (os.getD j []) k)) (gm m e (cf b k))=0:=by
 have r:=rg hm
 have h0:=dq m hm
 have fc:=lo1 hm
 obtain⟨hp,bp⟩:=LC nb
 have ZX:=fQ hm ab (bc b)
 obtain⟨iv,iv1,ZY⟩:=Zn hm (a:=1) (by omega) ZX bp
 have LD:mP m (b.getD (bc b) 0)=iv:=EL hm iv1 ZY
 obtain⟨D,hD⟩:∃D:Nat->List Nat,∀j,D j=cW (λx y=>bR m x (gm m (gm m ((os.getD j []).getD (bc b) 0) iv) y)) (os.getD j []) b:=⟨_,λ_=>rfl⟩
 have ZZ:∀j,j<os.length->∀k,gp m (cf (D j) k) (gm m (gm m (cf (os.getD j []) (bc b)) iv) (cf b k))=cf (os.getD j []) k:=λj hj k=>by
  rw[hD]
  exact ET hm (lu _ (fB hj [])).1 hb (lu _ (fB hj [])).2 k
 have Dlt:∀j,j<os.length->∀k,cf (D j) k<ae m:=λj hj k=>by
  rw[hD]
  exact Lw hm (lu _ (fB hj [])).1 hb (lu _ (fB hj [])).2 _ k
 have Dp:∀j,j<os.length->cf (D j) (bc b)=0:=λj hj=>by
  have l1:=fQ hm (lu _ (fB hj [])).2 (bc b)
  have:=ZZ j hj (bc b)
  rw[km h0,ZY,sQ l1]at this
  exact r.cn (Dlt j hj _) l1 this
 have eo2:∀j,j<os.length->(D j).length=h:=λj hj=>by
  rw[hD,i7,(lu _ (fB hj [])).1,hb,Dh]
 have LF:∀j,j<os.length->∀k,cf ((gR m b os).getD j []) k=cf (D j) (if k<bc b then k else k+1):=λj hj k=>by
  have e1:(gR m b os).getD j []=(D j).take (bc b)++(D j).drop (bc b+1):=by
   unfold gR
   rw[pZ _ hj [] [],LD,hD]
  rw[e1]
  have lt:((D j).take (bc b)).length=bc b:=by rw[iJ,eo2 j hj];omega
  unfold cf
  by_cases hk:k<bc b
  ·rw[if_pos hk,aU,qA (by omega),dC8 hk,<- aU]
  ·rw[if_neg hk,aU,kB (by omega),lt,Vo,show bc b+1+(k-bc b)=k+1 by omega,<- aU]
 obtain⟨F,hF⟩:∃F,F=sm (gp m) os.length λj=>gm m (a j) (gm m (cf (os.getD j []) (bc b)) iv):=⟨_,rfl⟩
 have Flt:F<ae m:=by rw[hF];exact pW r λ_ _=>dD hm _ _
 have Z0:∀k,(sm (gp m) os.length λj=>gm m (a j) (cf (os.getD j []) k))=gp m (sm (gp m) os.length λj=>gm m (a j) (cf (D j) k)) (gm m F (cf b k)):=λk=>by
  rw[eE (g:=λj=>gp m (gm m (a j) (cf (D j) k)) (gm m (cf b k) (gm m (a j) (gm m (cf (os.getD j []) (bc b)) iv)))) λj hj=>?_,sV r,sW r,<- hF,iS m (cf b k)]
  rw[<-ZZ j hj k,Ze h0]
  congr 1
  rw[<-km h0,iS m _ (cf b k)]
 have nX:(∀k,sm (gp m) os.length (λj=>gm m (a j) (cf ((gR m b os).getD j []) k))=0)↔∀k,sm (gp m) os.length (λj=>gm m (a j) (cf (D j) k))=0:=by
  constructor
  ·intro h k
   by_cases e:k=bc b
   ·exact ju r λj hj=>by rw[e,Dp j hj,kU m _ h0]
   ·by_cases c:k<bc b
    ·rw[<-h k]
     exact eE λj hj=>by rw[LF j hj,if_pos c]
    ·rw[<-h (k-1)]
     exact eE λj hj=>by rw[LF j hj,if_neg (by omega),show k-1+1=k by omega]
  ·intro h k
   rw[eE λj hj=>by rw[LF j hj]]
   exact h _
 rw[nX]
 constructor
 ·intro h
  obtain⟨e,e1,e2⟩:=r.ng Flt
  refine⟨e,e1,λk=>?_⟩
  rw[Z0 k,h k,r.z (dD hm _ _),<- Lf h0,e2,iF m _ h0]
 ·rintro⟨e,e1,h⟩
  have key:∀k,gp m (sm (gp m) os.length λj=>gm m (a j) (cf (D j) k)) (gm m (gp m F e) (cf b k))=0:=λk=>by
   rw[Lf h0,<- Le,<- Z0 k]
   exact h k
  have fe:gp m F e=0:=by
   have:=key (bc b)
   rw[ju r λj hj=>by rw[Dp j hj,kU m _ h0],r.z (dD hm _ _)]at this
   rcases(ZU hm (Zf hm Flt e1) ZX).mp this with z | z
   ·exact z
   ·exact absurd z bp
  intro k
  have:=key k
  rw[fe,iF m _ h0,BA (pW r λ_ _=>dD hm _ _)]at this
  exact this
theorem Z1(m:Bool × Nat)(b:List Nat)(os:List (List Nat)):(gR m b os).length=os.length:=by unfold gR;rw[bA]
theorem cT0(hm:m∈aI){b:List Nat}{os:List (List Nat)}{h:Nat}(hb:b.length=h)(lu:RT (ae m) h os)(nb:nul b=false):RT (ae m) (h-1) (gR m b os):=λx hx=>by
 obtain⟨o,ho,rfl⟩:=bH.mp hx
 obtain⟨hp,_⟩:=LC nb
 obtain⟨l1,l2⟩:=lu o ho
 refine⟨by rw[dN,iJ,lL,i7,l1,hb];omega,λy hy=>?_⟩
 have:AllLt (ae m) (cW (λx y=>bR m x (gm m (gm m (o.getD (bc b) 0) (mP m (b.getD (bc b) 0))) y)) o b):=Lg λx hx y _=>(mM hm (l2 x hx) (dD hm _ y)).2.1
 rcases bZ.mp hy with z | z
 ·exact this y (uh z)
 ·exact this y (qG z)
theorem Gs.next(hm:m∈aI){s:Cs}(G:Gs m C w s){i:Nat}(hi:i<s.2.length)(nb:nul (s.2.getD i [])=false)(hC:∀j k,C j k<ae m):Gs m C w (iU m w (s,i)):=by
 have r:=rg hm
 have h0:=dq m hm
 have fc:=lo1 hm
 have hle:=G.le
 obtain⟨h,E3⟩:=G.rt
 obtain⟨bl,ba⟩:=E3 _ (fB hi [])
 have Z2:RT (ae m) h (s.2.drop (i+1)):=λx hx=>E3 x (qG hx)
 have kl:(iU m w (s,i)).2.length=s.2.length-i-1:=by
  show(gR m _ _).length=_
  rw[Z1,lL]
  show s.2.length-(i+1)=_
  omega
 have dl:(s.2.drop (i+1)).length=s.2.length-i-1:=by rw[lL];omega
 have ko:w-(iU m w (s,i)).2.length=w-s.2.length+i+1:=by omega
 have dg:∀j,(s.2.drop (i+1)).getD j []=s.2.getD (i+1+j) []:=λj=>by rw[aU,Vo,<- aU]
 refine⟨by omega,?_,λp hp=>?_,λj hj=>?_,⟨h-1,cT0 hm bl Z2 nb⟩,λa ha=>?_,λc hc hz t ht=>?_⟩
 ·refine Dr.mpr ⟨G.inc,VD _ _,λx hx y hy=>?_⟩
  rw[fk.mp hy]
  have:=G.off x hx
  show x<w-s.2.length+i
  omega
 ·rw[ko]
  rcases bZ.mp hp with z | z
  ·have:=G.off p z;omega
  ·rw[fk.mp z];exact C6 _
 ·rw[ko]
  have:=hj (w-s.2.length+i) (df _ (fk.mpr rfl))
  omega
 ·have e1:(∀k,sm (gp m) (iU m w (s,i)).2.length (λj=>gm m (a j) (cf ((iU m w (s,i)).2.getD j []) k))=0)↔∃e,e<ae m/\∀k,gp m (sm (gp m) (s.2.length-i-1) λj=>gm m (a j) (cf (s.2.getD (i+1+j) []) k)) (gm m e (cf (s.2.getD i []) k))=0:=by
   have:=cz4 hm bl ba Z2 nb ha
   rw[dl]at this
   rw[kl]
   refine this.trans ?_
   constructor
   ·rintro⟨e,e1,e2⟩
    exact⟨e,e1,λk=>by rw[<-e2 k,eE λj _=>by rw[<-dg j]]⟩
   ·rintro⟨e,e1,e2⟩
    exact⟨e,e1,λk=>by rw[<-e2 k,eE λj _=>by rw[dg j]]⟩
  rw[e1]
  have al:∀e,e<ae m->∀j,(if j<i then 0 else if j=i then e else a (j-i-1))<ae m:=λe he j=>by
   split
   ·omega
   ·split
    ·exact he
    ·exact ha _
  have Z3:∀(c:Nat->Nat) (e k:Nat),gp m (sm (gp m) s.2.length λj=>gm m (if j<i then 0 else if j=i then e else a (j-i-1)) (C (w-s.2.length+j) k)) (gG m C s.1 c k)=gp m (sm (gp m) (s.2.length-i-1) λj=>gm m (a j) (C (w-s.2.length+i+1+j) k)) (gp m (gG m C s.1 c k) (gm m e (C (w-s.2.length+i) k))):=λc e k=>by
   rw[p9 hm hi a (λj=>C (w-s.2.length+j) k),Le,pU m (gm m e _)]
   congr 1
   exact eE λj _=>by rw[show w-s.2.length+(i+1+j)=w-s.2.length+i+1+j by omega]
  have ln:∀c k,gG m C (iU m w (s,i)).1 c k=gp m (gG m C s.1 c k) (gm m (c s.1.length) (C (w-s.2.length+i) k)):=λc k=>E2 hm C s.1 _ c k
  constructor
  ·rintro⟨e,e1,e2⟩
   obtain⟨c,c1,c2⟩:=(G.rel _ (al e e1)).mp λk=>by
    rw[p9 hm hi a (λj=>cf (s.2.getD j []) k)]
    exact e2 k
   refine⟨λt=>if t=s.1.length then e else c t,λt=>by
    show(if t=s.1.length then e else c t)<ae m
    split
    ·exact e1
    ·exact c1 t,λk=>?_⟩
   rw[ln,ko,kl,if_pos rfl,ZV (c':=c) λt ht=>if_neg (fj ht),<- Z3 c e k]
   exact c2 k
  ·rintro⟨c,c1,c2⟩
   refine⟨c s.1.length,c1 _,λk=>?_⟩
   have:=(G.rel _ (al _ (c1 s.1.length))).mpr ⟨c,c1,λk=>by
    rw[Z3 c _ k]
    have:=c2 k
    rw[ln,ko,kl]at this
    exact this⟩ k
   rw[p9 hm hi a (λj=>cf (s.2.getD j []) k)]at this
   exact this
 ·have ln:∀k,gp m (gG m C s.1 c k) (gm m (c s.1.length) (C (w-s.2.length+i) k))=0:=λk=>by
   rw[<-E2 hm C s.1 _ c k]
   exact hz k
  have e0:c s.1.length=0:=by
   refine IE λz=>?_
   have al:∀j,(if j<i then 0 else if j=i then c s.1.length else(λ_=>0) (j-i-1))<ae m:=λj=>by
    split
    ·omega
    ·split
     ·exact hc _
     ·show 0<_;omega
   have z0:∀(n:Nat) (X:Nat->Nat),sm (gp m) n (λj=>gm m ((λ_=>0) j) (X j))=0:=λn X=>ju r λ_ _=>iF m _ h0
   have:=(G.rel _ al).mpr ⟨c,hc,λk=>by
    rw[p9 hm hi (λ_=>0) (λj=>C (w-s.2.length+j) k),z0,r.z (dD hm _ _),pU]
    exact ln k⟩
   have nn:nul (s.2.getD i [])=true:=ZW.mpr λk=>by
    have q:=this k
    rw[p9 hm hi (λ_=>0) (λj=>cf (s.2.getD j []) k),z0,r.z (dD hm _ _)]at q
    rcases(ZU hm (hc _) (fQ hm ba k)).mp q with y | y
    ·exact absurd y z
    ·exact y
   rw[nb]at nn;cases nn
  have hs:∀k,gG m C s.1 c k=0:=λk=>by
   have:=ln k
   rw[e0,iF m _ h0,BA (cP2 hm C _ c k)]at this
   exact this
  have hl:(iU m w (s,i)).1.length=s.1.length+1:=by show(s.1++[_]).length=_;rw[dN];rfl
  by_cases ct:t<s.1.length
  ·exact G.ind c hc hs t ct
  ·rw[show t=s.1.length by omega];exact e0
theorem Gs.bound(hm:m∈aI){s:Cs}(G:Gs m C w s){i:Nat}(hi:i<s.2.length)(hC:∀j k,C j k<ae m):nul (s.2.getD i [])=true↔∃c:Nat->Nat,(∀t,c t<ae m)/\c s.1.length=1/\∀k,gG m C (s.1++[w-s.2.length+i]) c k=0:=by
 have r:=rg hm
 have h0:=dq m hm
 have fc:=lo1 hm
 obtain⟨h,E3⟩:=G.rt
 obtain⟨bl,ba⟩:=E3 _ (fB hi [])
 have al:∀j,(if j<i then 0 else if j=i then 1 else(λ_=>0) (j-i-1))<ae m:=λj=>by
  split
  ·omega
  ·split
   ·omega
   ·show 0<_;omega
 have z0:∀(n:Nat) (X:Nat->Nat),sm (gp m) n (λj=>gm m ((λ_=>0) j) (X j))=0:=λn X=>ju r λ_ _=>iF m _ h0
 have e1:nul (s.2.getD i [])=true↔∀k,sm (gp m) s.2.length (λj=>gm m (if j<i then 0 else if j=i then 1 else(λ_=>0) (j-i-1)) (cf (s.2.getD j []) k))=0:=by
  rw[ZW]
  refine forall_congr' λk=>?_
  rw[p9 hm hi (λ_=>0) (λj=>cf (s.2.getD j []) k),z0,r.z (dD hm _ _),sP (fQ hm ba k)]
 rw[e1,G.rel _ al]
 constructor
 ·rintro⟨c,c1,c2⟩
  refine⟨λt=>if t=s.1.length then 1 else c t,λt=>by
   show(if t=s.1.length then 1 else c t)<ae m
   split
   ·omega
   ·exact c1 t,if_pos rfl,λk=>?_⟩
  rw[E2 hm,if_pos rfl,ZV (c':=c) λt ht=>if_neg (fj ht),pU,<- c2 k,p9 hm hi (λ_=>0) (λj=>C (w-s.2.length+j) k),z0,r.z (dD hm _ _)]
 ·rintro⟨c,c1,c2,c3⟩
  refine⟨c,c1,λk=>?_⟩
  have:=c3 k
  rw[E2 hm,c2]at this
  rw[p9 hm hi (λ_=>0) (λj=>C (w-s.2.length+j) k),z0,r.z (dD hm _ _),pU]
  exact this
end
end L3
namespace L3
open PySem L2 Mf
def jS:List Nat->List Nat->Prop
 | a::as,b::bs=>a<b\/(a=b/\jS as bs)
 | _,_=>False
theorem Z4:∀l:List Nat,¬ jS l l
 | [],h=>h
 | a::l,h=>h.elim (λz=>gI _ z) λz=>Z4 l z.2
theorem Z5:∀a b:List Nat,jS a b->¬ jS b a
 | [],_,h,_=>h
 | _::_,[],h,_=>h
 | a::as,b::bs,h,h'=>by
  rcases h with h | ⟨rfl,h⟩
  ·rcases h' with h' | ⟨e,_⟩
   ·omega
   ·omega
  ·rcases h' with h' | ⟨_,h'⟩
   ·omega
   ·exact Z5 as bs h h'
theorem Z6:∀(a b:List Nat) (x y:List Nat),a.length=b.length->jS a b->jS (a++x) (b++y)
 | [],_,_,_,_,h=>h.elim
 | _::_,[],_,_,_,h=>h.elim
 | a::as,b::bs,x,y,hl,h=>by
  rcases h with h | ⟨e,h⟩
  ·exact .inl h
  ·exact .inr ⟨e,Z6 as bs x y (by simpa using hl) h⟩
theorem Z7:∀(a:List Nat) (x y:Nat),x<y->jS (a++[x]) (a++[y])
 | [],_,_,h=>.inl h
 | _::as,x,y,h=>.inr ⟨rfl,Z7 as x y h⟩
def jv(w:Nat)(S:List Nat):Prop:=S.Pairwise (· < ·)/\∀x∈S,x<w
theorem Z8:∀(S:List Nat) (lo w:Nat),S.Pairwise (· < ·)->(∀x∈S,lo<=x/\x<w)->S.length<=w-lo
 | [],_,_,_,_=>lK _
 | a::S,lo,w,hp,h=>by
  rw[IY]at hp
  have ih:=Z8 S (a+1) w hp.2 λx hx=>⟨hp.1 x hx,(h x (gq _ hx)).2⟩
  have ha:=h a (iY ..)
  rw[jz]
  omega
theorem jv.len{S:List Nat}{w:Nat}(h:jv w S):S.length<=w:=Z8 S 0 w h.1 λx hx=>⟨lK _,h.2 x hx⟩
theorem jv.take{S:List Nat}{w:Nat}(h:jv w S)(k:Nat):jv w (S.take k):=⟨h.1.sublist (List.take_sublist k S),λx hx=>h.2 x (uh hx)⟩
def jT(w:Nat)(z:Cs × Nat):List Nat:=z.1.1++[w-z.1.2.length+z.2]
structure Lv(m:Bool × Nat)(C:Nat->Nat->Nat)(w k:Nat)(l:List Cs):Prop where
 gs:∀s∈l,Gs m C w s/\s.1.length=k
 all:∀S,jv w S->S.length=k->∃s∈l,s.1=S
 ord:(l.map (·.1)).Pairwise jS
theorem wu{l:List Cs}{z:Cs × Nat}:z∈dY l↔z.1∈l/\z.2<z.1.2.length:=by
 unfold dY
 rw[List.mem_flatMap]
 constructor
 ·rintro⟨s,hs,hz⟩
  obtain⟨i,hi,rfl⟩:=bH.mp hz
  exact⟨hs,da.mp hi⟩
 ·rintro⟨h1,h2⟩
  exact⟨z.1,h1,bH.mpr ⟨z.2,da.mpr h2,rfl⟩⟩
section
variable{m:Bool × Nat}{C:Nat->Nat->Nat}{w:Nat}
theorem LG{k:Nat}:∀{l:List Cs},(∀s∈l,s.1.length=k)->(l.map (·.1)).Pairwise jS->((dY l).map (jT w)).Pairwise jS
 | [],_,_=>Vb
 | s::l,hl,ho=>by
  rw[dv,IY]at ho
  show(((fE s)++dY l).map (jT w)).Pairwise jS
  rw[fv,Dr]
  refine⟨?_,LG (λs hs=>hl s (gq _ hs)) ho.2,λa ha b hb=>?_⟩
  ·unfold fE
   rw[cA]
   refine List.pairwise_map.mpr (dE9.imp λ{a b} hab=>?_)
   exact Z7 s.1 _ _ (show w-s.2.length+a<w-s.2.length+b by omega)
  ·obtain⟨z,hz,rfl⟩:=bH.mp ha
   obtain⟨i,_,rfl⟩:=bH.mp hz
   obtain⟨y,hy,rfl⟩:=bH.mp hb
   obtain⟨h1,_⟩:=wu.mp hy
   exact Z6 _ _ _ _ (by rw[hl s (iY ..),hl _ (gq _ h1)]) (ho.1 _ (bH.mpr ⟨_,h1,rfl⟩))
theorem Lv.meets(L:Lv m C w k l){S:List Nat}(hS:jv w S)(hk:S.length=k+1):∃z∈dY l,jT w z=S:=by
 have e:S=S.take k++[S.getD k 0]:=by
  have h1:S.drop k=[S.getD k 0]:=by
   rw[List.drop_eq_getElem_cons (by omega),List.drop_of_length_le (by omega),aU,aP (by omega)];rfl
  conv=>lhs;rw[<-VE k S,h1]
 obtain⟨s,hs,es⟩:=L.all _ (hS.take k) (by rw[iJ];omega)
 obtain⟨G,_⟩:=L.gs s hs
 have hj:∀p∈s.1,p<S.getD k 0:=λp hp=>by
  rw[es]at hp
  have:=hS.1
  rw[e,Dr]at this
  exact this.2.2 p hp _ (fk.mpr rfl)
 have h1:=G.nx _ hj
 have h2:=hS.2 (S.getD k 0) (fB (by omega) 0)
 have h3:=G.le
 refine⟨(s,S.getD k 0-(w-s.2.length)),wu.mpr ⟨hs,?_⟩,?_⟩
 ·show S.getD k 0-(w-s.2.length)<s.2.length
  omega
 ·show s.1++[w-s.2.length+(S.getD k 0-(w-s.2.length))]=S
  rw[show w-s.2.length+(S.getD k 0-(w-s.2.length))=S.getD k 0 by omega,es]
  exact e.symm
theorem Lv.next(hm:m∈aI)(hC:∀j k,C j k<ae m)(L:Lv m C w k l)(hn:∀z∈dY l,oj z=false):Lv m C w (k+1) ((dY l).map (iU m w)) where
 gs:=λs hs=>by
  obtain⟨z,hz,rfl⟩:=bH.mp hs
  obtain⟨h1,h2⟩:=wu.mp hz
  obtain⟨G,hl⟩:=L.gs _ h1
  refine⟨G.next hm h2 (hn z hz) hC,?_⟩
  show(z.1.1++[_]).length=_
  rw[dN,hl];rfl
 all:=λS hS hk=>by
  obtain⟨z,hz,e⟩:=L.meets hS hk
  exact⟨iU m w z,bH.mpr ⟨z,hz,rfl⟩,e⟩
 ord:=by
  rw[cA]
  exact LG (λs hs=>(L.gs s hs).2) L.ord
theorem Z9(hm:m∈aI)(hC:∀j k,C j k<ae m):∀(f k:Nat) (l:List Cs),Lv m C w k l->w+1<=f+k ->
  match tf m w f l with
  | none=>∀S,jv w S->k<=S.length->wt m C S
  | some F=>jv w F/\k<F.length/\(∃c:Nat->Nat,(∀t,c t<ae m)/\c (F.length-1)=1/\∀j,gG m C F c j=0)/\∀S,jv w S->k<=S.length->S.length<F.length\/(S.length=F.length/\jS S F)->wt m C S
 | 0,k,l,L,hf=>λS hS hk=>absurd hS.len (by omega)
 | f+1,k,l,L,hf=>by
  have here:∀S,jv w S->S.length=k->wt m C S:=λS hS hk=>by
   obtain⟨s,hs,rfl⟩:=L.all S hS hk
   exact(L.gs s hs).1.ind
  rw[tf]
  by_cases l0:l=[]
  ·rw[if_pos l0]
   subst l0
   intro S hS hk
   obtain⟨s,hs,_⟩:=L.all (S.take k) (hS.take k) (by rw[iJ];omega)
   cases hs
  ·rw[if_neg l0]
   cases e:(dY l).find? oj with
   | some z =>
    obtain⟨hz,as,bs,eL,qa⟩:=dF0.mp e
    obtain⟨h1,h2⟩:=wu.mp (Vk e)
    obtain⟨G,hl⟩:=L.gs _ h1
    have hle:=G.le
    have fl:(jT w z).length=k+1:=by show(z.1.1++[_]).length=_;rw[dN,hl];rfl
    refine⟨⟨?_,λx hx=>?_⟩,by show k<(jT w z).length;omega,?_,λS hS hk hc=>?_⟩
    ·refine Dr.mpr ⟨G.inc,VD _ _,λx hx y hy=>?_⟩
     rw[fk.mp hy]
     have:=G.off x hx
     omega
    ·rcases bZ.mp hx with q | q
     ·have:=G.off x q;omega
     ·rw[fk.mp q];omega
    ·obtain⟨c,c1,c2,c3⟩:=(G.bound hm h2 hC).mp hz
     refine⟨c,c1,?_,c3⟩
     show c ((jT w z).length-1)=1
     rw[fl,Nat.add_sub_cancel,<- hl]
     exact c2
    ·by_cases ck:S.length=k
     ·exact here S hS ck
     have cl:S.length=k+1/\jS S (jT w z):=by
      rcases hc with q | ⟨q1,q2⟩
      ·exact absurd (show S.length<(jT w z).length from q) (by omega)
      ·exact⟨(show S.length=(jT w z).length from q1).trans fl,q2⟩
     obtain⟨y,hy,ey⟩:=L.meets hS cl.1
     obtain⟨y1,y2⟩:=wu.mp hy
     obtain⟨Gy,_⟩:=L.gs _ y1
     cases ny:oj y with
     | false =>
      have:=(Gy.next hm y2 ny hC).ind
      rwa [show(iU m w (y.1,y.2)).1=S from ey]at this
     | true =>
      exfalso
      have od:=LG (w:=w) (λs hs=>(L.gs s hs).2) L.ord
      rw[eL]at hy od
      rw[fv,dv,Dr]at od
      have LH:=(IY.mp od.2.1).1
      rcases bZ.mp hy with q | q
      ·have:=qa y q
       rw[ny]at this;simp at this
      ·rcases cz.mp q with q | q
       ·rw[q]at ey
        rw[<-ey]at cl
        exact Z4 _ cl.2
       ·have:=LH _ (bH.mpr ⟨y,q,rfl⟩)
        rw[ey]at this
        exact Z5 _ _ this cl.2
   | none =>
    have hn:∀z∈dY l,oj z=false:=λz hz=>by
     have:=VA.mp e z hz
     simpa using this
    have ih:=Z9 hm hC f (k+1) _ (L.next hm hC hn) (by omega)
    dsimp only
    split
    ·rename_i e2
     rw[e2]at ih
     intro S hS hk
     by_cases ck:S.length=k
     ·exact here S hS ck
     ·exact ih S hS (by omega)
    ·rename_i F e2
     rw[e2]at ih
     obtain⟨i1,i2,i3,i4⟩:=ih
     refine⟨i1,by omega,i3,λS hS hk hc=>?_⟩
     by_cases ck:S.length=k
     ·exact here S hS ck
     ·exact i4 S hS (by omega) hc
end
end L3
namespace L3
open PySem L2 Mf
def jU(T:List (List Nat))(j k:Nat):Nat:=cf (T.getD k []) j
theorem γ{m:Bool × Nat}(hm:m∈aI){w:Nat}{T:List (List Nat)}(hT:RT (ae m) w T)(j k:Nat):jU T j k<ae m:=by
 unfold jU
 by_cases hk:k<T.length
 ·exact fQ hm (hT _ (fB hk [])).2 j
 ·have e:T.getD k []=[]:=by rw[aU,gr (by omega)];rfl
  rw[e]
  have:=lo1 hm
  show 0<_
  omega
theorem Lv.start{m:Bool × Nat}(hm:m∈aI){T:List (List Nat)}(hw:0<av T)(hT:RT (ae m) (av T) T):Lv m (jU T) (av T) 0 [([],eP T)]:=by
 have r:=rg hm
 obtain⟨t1,t2,t3⟩:=ZN (Nat.lt_trans Nat.zero_lt_one (lo1 hm)) hw hT
 refine⟨λs hs=>?_,λS _ h=>⟨_,fk.mpr rfl,(List.length_eq_zero_iff.mp h).symm⟩,VD _ _⟩
 rw[fk.mp hs]
 refine⟨⟨C5 t1,Vb,λp hp=>absurd hp (i6),λj _=>by show av T-(eP T).length<=j;omega,⟨_,t3⟩,λa ha=>?_,λc _ _ t ht=>absurd ht (by show ¬ t<0;omega)⟩,rfl⟩
 have e:∀k,sm (gp m) (eP T).length (λi=>gm m (a i) (cf ((eP T).getD i []) k))=sm (gp m) (eP T).length λi=>gm m (a i) (jU T (av T-(eP T).length+i) k):=λk=>eE λi hi=>by
  rw[ZM (by omega),ZJ,show av T-(eP T).length+i=i by omega];rfl
 have z:∀c k,gG m (jU T) [] c k=0:=λ_ _=>rfl
 constructor
 ·intro h
  refine⟨λ_=>0,λ_=>by have:=lo1 hm;show 0<_;omega,λk=>?_⟩
  rw[z,BA (pW r λ_ _=>dD hm _ _),<- e k]
  exact h k
 ·rintro⟨c,_,h⟩ k
  have:=h k
  rw[z,BA (pW r λ_ _=>dD hm _ _),<- e k]at this
  exact this
def om(m:Bool × Nat)(T:List (List Nat)):Option (List Nat):=tf m (av T) (av T+1) [([],eP T)]
section
variable{m:Bool × Nat}{C:Nat->Nat->Nat}
end
def wz(T:List (List Nat))(F:List Nat):List (List Nat):=T.map λr=>F.map λj=>r.getD j 0
theorem cM4{N w:Nat}{T:List (List Nat)}{F:List Nat}(h0:0<N)(hT:RT N w T):RT N F.length (wz T F)/\(wz T F).length=T.length:=by
 refine⟨λx hx=>?_,by unfold wz;rw[bA]⟩
 obtain⟨r,hr,rfl⟩:=bH.mp hx
 refine⟨by rw[bA],λy hy=>?_⟩
 obtain⟨j,_,rfl⟩:=bH.mp hy
 exact(hT r hr).2.getD h0 j
theorem cP3{T:List (List Nat)}{F:List Nat}{k t:Nat}(hk:k<T.length)(ht:t<F.length):cf ((wz T F).getD k []) t=jU T (F.getD t 0) k:=by
 unfold wz jU cf
 rw[pZ _ hk [] [],pZ _ ht 0 0]
theorem cK9(m:Bool × Nat){T:List (List Nat)}{F:List Nat}{k:Nat}(hk:k<T.length)(x:Nat->Nat):dt m F.length (cf ((wz T F).getD k [])) x=gG m (jU T) F x k:=by
 unfold dt gG
 exact eE λt ht=>by rw[cP3 hk ht,iS]
theorem co2{o:Bool}{G:List (List Nat)}{i:Nat}{d:D}(hd:(ay o G)[i]?=some d):∃hi:i<G.length,d=.lst o (ak G[i]):=by
 unfold ay at hd
 rw[cu]at hd
 by_cases hi:i<G.length
 ·rw[aP hi]at hd
  exact⟨hi,(cV hd).symm⟩
 ·rw[gr (by omega)]at hd;cases hd
end L3
namespace L3
open PySem L2 PySem.Spec PyProof.Rows
section
variable{B:Bs}{F H:Hp}{σ:L2.St}{δ:Dl}{ts:List (D × V)}
end
section
variable{X:Cx}{a:Expr}{ta:aO}{pos p2:Pos}{tk:Nat}
end
end L3
namespace L3
open PySem L2 PySem.Spec PyProof.Rows
section
variable{X:Cx}{a b:Expr}{ta tb:aO}{elts:List Expr}{x1:Nat}{qW p pos:Pos}
end
end L3
namespace L3
open PySem L2 Mf
section
variable{m:Bool × Nat}
theorem cF3(hm:m∈aI){T:List (List Nat)}(hw:0<av T)(hT:RT (ae m) (av T) T)(h:om m T=none):∀S,jv (av T) S->wt m (jU T) S:=by
 have:=Z9 hm (γ hm hT) (av T+1) 0 _ (Lv.start hm hw hT) (by omega)
 unfold om at h
 rw[h]at this
 exact λS hS=>this S hS (lK _)
theorem ci5{n W:Nat}(h:n<=W):jv W (aM n):=⟨dE9,λx hx=>by have:=da.mp hx;omega⟩
theorem b76(hm:m∈aI){W:Nat}{T:List (List Nat)}(hT:RT (ae m) W T){F:List Nat}(hF:T.length<F.length):¬ wt m (jU T) F:=λI=>by
 have fc:=lo1 hm
 obtain⟨p1,p2⟩:=cM4 (F:=F) (by omega) hT
 obtain⟨x,f,hf,hx,x1,hz⟩:=ZQ hm p1 (by omega)
 have:=I x hx (λk=>by
  by_cases hk:k<T.length
  ·rw[<-cK9 m hk];exact hz k (by omega)
  ·refine ju (rg hm) λt _=>?_
   have e:jU T (F.getD t 0) k=0:=by
    unfold jU
    rw[show T.getD k []=[] by rw[aU,gr (by omega)];rfl];rfl
   rw[e,kU m _ (dq m hm)]) f hf
 omega
end
end L3
namespace L2
open PySem PySem.Spec PyProof.Rows
section
variable{X:Cx}
end
end L2
namespace L3
open PySem L2 PySem.Spec PyProof.Rows
section
variable{X:Cx}{o e:Expr}{t tb:aO}{apos cw:Pos}
end
section
variable{X:Cx}{i:Nat}{x:Str}{p pos apos cw eb2 BI:Pos}{a b:List Stmt}{t u:cL}{k:Int}{j}
end
end L3
namespace L3
open PySem L2 Mf
section
variable{N:Nat}{p q:Nat->Nat->Nat}
variable{ng:Nat->Nat}{c:Nat}
end
section
variable{m:Bool × Nat}
end
end L3
namespace L2
open PySem PySem.Spec PyProof.Rows
section
variable{prog:Program}{w:World}{A:Around}{E:Value->Shared->Prop}{s:Shared}
end
section
variable{X:Cx}{e:Expr}{ta:TA}{p p2 pos BI:Pos}
end
end L2
namespace L3
open PySem L2 PySem.Spec PyProof.Rows
section
variable{X:Cx}{e:Expr}{tr:cK}{p p2 pos BI:Pos}
end
end L3
namespace L3
open PySem L2 Mf
section
variable{m:Bool × Nat}
section
variable{b e L o:Nat}{y:List (Option Nat)}{w c:List Nat}{bb:Nat->Nat}
end
end
end L3
namespace L3
open PySem L2 Mf
section
variable{m:Bool × Nat}
end
end L3
namespace L3
open PySem L2 Mf
section
variable{m:Bool × Nat}
end
end L3
namespace L3
open PySem L2 Mf
section
variable{m:Bool × Nat}
end
end L3
namespace L3
open PySem L2 Mf
section
variable{m:Bool × Nat}
end
end L3
namespace L3
open PySem L2 PySem.Spec PyProof.Rows
section
variable{X:Cx}{e:Expr}{t:aO}
def wA(t:aO):aO:=λδ Q=>t δ λd ah=>Q d.sh ah
theorem ε(h:PE X e (lE t)):PE X e (lB (wA t)):=dA h λσ H Q ⟨B,F,δ,ts,Qd,c,q,k⟩=>⟨B,F,δ,ts,_,c,q,λd ah v F' H' hd sf sh c'=>by
 obtain⟨F2,f2,c2⟩:=c'.J7
 exact k d.sh ah v F2 H' hd (sf.trans f2) sh c2.pop c2.top⟩
end
end L3
namespace L3
open PySem L2 Mf
section
variable{m:Bool × Nat}
theorem LJ(hm:m∈aI){T:List (List Nat)}(hT:RT (ae m) (av T) T):RT (ae m) (av T) (iT m (bY m T) (av T))/\(iT m (bY m T) (av T)).length<=av T:=by
 obtain⟨⟨Hd,I⟩,iR,_,_⟩:=mQ hm hT
 refine⟨λr hr=>?_,?_⟩
 ·obtain⟨f,hf,rfl⟩:=bH.mp hr
  obtain⟨k1,k2,_⟩:=EZ hm iR I hf
  exact⟨k1,k2⟩
 ·unfold iT fS
  rw[bA]
  exact fu (dF1 ..) (by rw[cm];exact bK _)
theorem cO3(hm:m∈aI){T:List (List Nat)}(hT:RT (ae m) (av T) T):∀r∈bY m T,∃x∈r,x≠0:=λr bx=>by
 obtain⟨⟨Hd,I⟩,iR,_,_⟩:=mQ hm hT
 obtain⟨j,hj,rfl⟩:=kD bx
 have:=(I.Lx hm iR hj).2
 rw[cK5 hj]at this
 exact this
theorem cG8(hm:m∈aI){T:List (List Nat)}{xs:List Nat}(hT:RT (ae m) (av T) T)(hx:xs.length=(iT m (bY m T) (av T)).length):∀r∈T,gd m r (kq m xs (iT m (bY m T) (av T)) (av T))=0:=λr hr=>by
 have h0:=dq m hm
 obtain⟨⟨Hd,I⟩,iR,_,_⟩:=mQ hm hT
 have s:cN m (bY m T) (cf r):=cN.red hm hT (cN.of hr)
 rw[Ly m ((hT r hr).1.trans (Lz ..).symm),(hT r hr).1]
 rw[eE (g:=λj=>gm m (cf r j) (sm (gp m) (iT m (bY m T) (av T)).length λi=>gm m (cf xs i) (cf ((iT m (bY m T) (av T)).getD i []) j))) λj hj=>by rw[LA m hx hj]]
 have e:=ZO hm (av T) (cf r) (cf xs) (λi=>cf ((iT m (bY m T) (av T)).getD i [])) (iT m (bY m T) (av T)).length
 unfold dt at e
 rw[e]
 refine ju (rg hm) λi hi=>?_
 have z:=fB hi []
 generalize (iT m (bY m T) (av T)).getD i []=K at z
 obtain⟨f,hf,rfl⟩:=bH.mp z
 have:=cN.dt hm (R:=bY m T) (n:=av T) (y:=cf (gQ m (bY m T) (av T) f)) (λi hi=>ZP hm iR I hf hi) s
 unfold dt at this
 rw[this,kU m _ h0]
end
end L3
namespace L3
open PySem L2 Mf
section
variable{m:Bool × Nat}
end
end L3
namespace L2
open PySem PySem.Spec PyProof.Rows
section
variable{X:Cx}{CX:eW}{k:Nat}{f C:Addr}{fd:FuncData}{ps:List Str}{sp:Sp}{E:XK}{x m:Str}{p pos apos:Pos}{e:Expr}{es:List Expr}{t:TA}
def tCM(sp:Sp)(E:XK)(t:TA):TE:=λσ H Q=>t σ H λvs H1=>sp vs H1 Q E
theorem LK{pl:Sem Bool}(M:vW X.K C m f)(F:aN X.prog X.w X.K X.mg X.base CX k f fd ps sp)(hr:cj k X.A)(hb:Binds X.K fd ps [])(hx:j9 CX X E)(hg:Gl X x)(hm:X.mg x=some (.ref C))(ha:PA X (e::es) t)
  (eC:(x==("__debug__":Str))=false:=by decide) (dj:starEach (e::es) X.env=(false,eval e X.env)::starEach es X.env:=by rfl) (bQ:(backTo pos (starEach es X.env)).any (·.1)=false:=by rfl)
  (ht:eval (.Call (.Attribute (.Name x p) m apos) (e::es) [] pos) X.env=(do
   let ov<-eval (.Name x p) X.env
   standAt apos.atName
   let (f,first)<-holding [ov] (getMethod ov m pl)
   callWith pos f first (backTo pos (starEach (e::es) X.env)) (backToKw pos (keywordEach [] X.env))):=by rfl) :
  PE X (.Call (.Attribute (.Name x p) m apos) (e::es) [] pos) (tCM sp E t):=by
 intro pins s σ H Q I h
 exact YC (pl:=pl) I M hg hm ha h (λus s1 vs H1 I1 r q=>uB (fm:=[]) F hr hb .nil hx I1 r (by rw[fV];exact q)) eC dj bQ ht
end
end L2
namespace L3
open PySem L2 PySem.Spec PyProof.Rows
end L3
namespace L3
open PySem L2 PySem.Spec PyProof.Rows
def E4(tl:List Addr)(C:Addr)(jP:List D->List Str->List D->Prop):L2.Sp:=λvs H Q _=>∃F H0 x dx bU ds ns xs,vs=.ref x::bU/\Tb tl H/\af F H0/\H0 x=none/\af H0 H/\H x=some (.ins C dx [])/\R F H0 ds bU []/\jP ds ns xs /\
 ∀H' ws A,bO x H H'->H' x=some (.ins C dx (ns.zip ws))->ns.length=ws.length->R F H' xs ws A->A.Nodup->(∀a∈A,H a=none)->Q .aw H'
def wB(C:Addr)(jP:List D->List Str->List D->Prop)(ta:cK):aO:=λδ Q=>ta δ λds ah=>ds.all D.pl=true/\∃ns xs,jP ds ns xs/\Q (.obj C ns (xs.map D.sh)) ah
theorem aq.ep4{B:Bs}{F H H':Hp}{σ:L2.St}{δ:Dl}{ts:List (D × V)}{C dx x:Addr}{ns:List Str}{xs:List D}{ws:List V}{A:List Addr}(c:aq B F H σ δ ts)(hs:af H H')(hx:H' x=some (.ins C dx (ns.zip ws)))(hl:ns.length=ws.length)
  (r1:R F H' xs ws A) (fr:∀a∈A,H a=none):af F (L3.bz F H' A)/\aq B (L3.bz F H' A) H' σ δ ((.obj C ns (xs.map D.sh),.ref x)::ts):=by
 have c1:=c.grow hs
 have r2:=r1.bz c1.ext A (λ_ h=>h)
 have fs:af F (L3.bz F H' A):=iy c1.ext
 obtain⟨A',C',r',s',nd,mH⟩:=c.own
 have out:∀a,(∃ws,H a=some (.lst ws))/\F a=none->L3.bz F H' A a=none:=λa zz=>by
  obtain⟨⟨ws,h⟩,hf⟩:=zz
  rw[pd (λz=>by rw[fr a z]at h;cases h)];exact hf
 have g1:=r'.grow fs hs λa ha=>out a (r'.lists a ha)
 have g2:=s'.keep fs (fM.same hs) gx.nil (λa ha=>out a (s'.lists a ha)) (by simp)
 refine⟨fs,nK c1.ext,c1.b1,c1.b2.trans fs,λa ws h=>?_,A',C',?_,g2,nd,mH⟩
 ·by_cases z:a∈A
  ·exact .inr (c.b1.free (fr a z))
  ·rw[pd z]at h;exact c.b3 a ws h
 ·exact R.obj hx hl r2 g1
section
variable{X:Cx}{CX:eW}{n:Nat}{f C:Addr}{fd:FuncData}{ps:List Str}{jP:List D->List Str->List D->Prop}{E:XK}{x:Str}{p pos:Pos}{e:Expr}{es:List Expr}{t:cK}{tl:List Addr}
theorem E5(hT:Tb tl X.j4)(M:L2.Mk X.K C f)(F:aN X.prog X.w X.K X.mg X.base CX n f fd ps (E4 tl C jP))(hr:cj (n+1) X.A)(hg:Gl X x)(hm:X.mg x=some (.ref C))(hb:Binds X.K fd ps [])(hx:j9 CX X E)
  (ha:PA X (e::es) (lA t)) (eC:(x==("__debug__":Str))=false:=by decide) (he:starEach (e::es) X.env=(false,eval e X.env)::starEach es X.env:=by rfl) (bQ:(backTo pos (starEach es X.env)).any (·.1)=false:=by rfl) :
  PE X (.Call (.Name x p) (e::es) [] pos) (lE (wB C jP t)):=by
 intro pins s σ H Q I zz
 obtain⟨B,F',δ,ts,Qd,c,q,k⟩:=zz
 have tb:=KW I hT
 refine Wa M F hr hg hm hb .nil hx ha eC he bQ pins s σ H Q I ⟨B,F',δ,ts,_,c,q,λds ao vs F1 H1 q1 f1 h1 c1 s1=>?_⟩
 intro x dx cC dZ mw
 obtain⟨hp,ns,xs,hI,hq⟩:=q1
 have sm:af H1 (upd (upd H1 dx (.own x)) x (.ins C dx [])):=.of λb o e=>by rw[bf (eU e cC),bf (eU e dZ)];exact e
 refine⟨F1,H1,x,dx,vs,ds,ns,xs,by rw[fV],Bo (Bo tb h1) sm,c1.ext,cC,sm,bM,s1.r hp,hI,λH' ws A Bq de hl r nd fr=>⟨rfl,?_⟩⟩
 have s2:af H1 H':=⟨λb o e n=>Bq.get b o (eU e cC) (sm.get b o e n) n,λb ps e=>by
  obtain⟨m1,e1⟩:=sm.tb b ps e
  obtain⟨m2,e2⟩:=Bq.tb b _ e1
  exact⟨m1++m2,by rw[e2,tS]⟩⟩
 obtain⟨fs,c2⟩:=c1.ep4 s2 de hl r λa ha=>sm.free (fr a ha)
 exact k _ ao _ _ H' hq (f1.trans fs) (h1.trans s2) c2
end
section
variable{X:Cx}{e:Expr}{te:aO}{x:Str}{p pos:Pos}{i:Nat}
end
theorem bO.of0{x:Addr}{H0 H H':Hp}(h0:H0 x=none)(s:af H0 H)(sx:bO x H H'):af H0 H' :=
 ⟨λb o e n=>sx.get b o (λz=>by rw[z,h0]at e;cases e) (s.get b o e n) n,λb ps e=>by
  obtain⟨m1,e1⟩:=s.tb b ps e
  obtain⟨m2,e2⟩:=sx.tb b _ e1
  exact⟨m1++m2,by rw[e2,tS]⟩⟩
theorem wC{F H:Hp}{v:V}{A:List Addr}{xs:List D}(r:R F H [.lst true xs] [v] A):∃p,v=.ref p:=by
 cases r
 exact⟨_,rfl⟩
theorem ζ{F H F' H':Hp}:∀{l:List Int} {ws:List V} {A:List Addr},R F H (aJ l) ws A->R F' H' (aJ l) ws A
 | [],_,_,r=>by cases r;exact .nil
 | i::l,_,_,r=>by
  cases r with
  | int r=>exact .int (ζ r)
theorem η{F H H':Hp}:∀{G:List (List Nat)} {ws:List V} {A:List Addr},R F H (ay true G) ws A->(∀a∈A,H' a=H a)->R F H' (ay true G) ws A
 | [],_,_,r,_=>by cases r;exact .nil
 | g::G,_,_,r,h=>by
  cases r with
  | own e f x y=>exact .own (by rw[h _ iY];exact e) f (ζ (l:=g.map λ(n:Nat)=>(n:Int)) x) (η y λa ha=>h a (gq _ (df _ ha)))
theorem θ{F H H':Hp}{G:List (List Nat)}{v:V}{A:List Addr}(r:R F H [.lst true (ay true G)] [v] A)(h:∀a∈A,H' a=H a):R F H' [.lst true (ay true G)] [v] A:=by
 cases r with
 | own e f x y =>
  cases y
  exact .own (by rw[h _ iY];exact e) f (η x λa ha=>h a (gq _ (eZ _ ha))) .nil
abbrev oo:List Str:=["field","length","check_rows","word_rows","message_places","size"]
structure ep5(K:PySem.W.Frag)(C:Addr):Prop where
 cls:cB K C
 field:aG K C "field"
 length:aG K C "length"
 ep6:aG K C "check_rows"
 ep7:aG K C "word_rows"
 ι:aG K C "message_places"
 size:aG K C "size"
end L3
namespace L3
open PySem L2 Mf
section
variable{m:Bool × Nat}
def kr(m:Bool × Nat)(n i:Nat):List Nat:=bo i 0++[1]++bo (n-2-i) 0++[bR m 0 1]
def hW(m:Bool × Nat)(n:Nat):List (List Nat):=(aM (n-1)).map (kr m n)
theorem cO7{n i:Nat}(hi:i<n-1)(j:Nat):cf (kr m n i) j=if j=i then 1 else if j=n-1 then bR m 0 1 else 0:=by
 unfold kr cf
 rw[aU]
 by_cases c1:j<i
 ·rw[if_neg (by omega),if_neg (by omega),dh,dh,qA (by rw[fW];exact c1),tY,if_pos c1];rfl
 ·by_cases c2:j=i
  ·rw[if_pos c2,dh,dh,kB (by rw[fW];omega),fW,c2,zj];rfl
  ·rw[if_neg c2]
   by_cases c3:j<n-1
   ·rw[if_neg (by omega),qA (by simp only[dN,fW,lM];omega),kB (by simp only[dN,fW,lM];omega),tY]
    split<;>rfl
   ·rw[kB (by simp only[dN,fW,lM];omega)]
    simp only[dN,fW,lM]
    by_cases c4:j=n-1
    ·rw[if_pos c4,show j-(i+1+(n-2-i))=0 by omega];rfl
    ·rw[if_neg c4,gr (by rw[lM];omega)];rfl
theorem μ(hm:m∈aI){n:Nat}(h2:2<=n):RT (ae m) n (hW m n)/\(hW m n).length=n-1/\av (hW m n)=n:=by
 have fc:=lo1 hm
 have g:=(mM hm (show 0<ae m by omega) (show 1<ae m by omega)).2.1
 have l:(hW m n).length=n-1:=by unfold hW;rw[bA,cm]
 have r:RT (ae m) n (hW m n):=λx hx=>by
  obtain⟨i,hi,rfl⟩:=bH.mp hx
  have hi:=da.mp hi
  unfold kr
  refine⟨by simp only[dN,fW,lM];omega,λa ha=>?_⟩
  simp only[bZ,Dg,fk]at ha
  rcases ha with ((⟨_,rfl⟩ | rfl) | ⟨_,rfl⟩) | rfl
  ·omega
  ·omega
  ·omega
  ·exact g
 exact⟨r,l,s8 r λz=>by rw[z]at l;exact absurd l (by show ¬ (0=n-1);omega)⟩
end
end L3
namespace L2
open PySem PySem.Spec PyProof.Rows
structure E6(K:PySem.W.Frag)(x qual:Str)(st:Stmt)(f:Addr)(fd:FuncData):Prop where
 ex:∃(oc:Value) (od:Option Addr) (dV kV doc pm:Value) (an:Option Addr) (aD ct:Value) (ik:Array (Option Value)),
  fd=PySem.W.fnOf x qual (aY st) (aQ st) (au st) dV kV doc pm an aD ct/\K.lookup f=some ⟨oc,od,.func fd,ik⟩/\PySem.W.codeIn K aD qual=true
 kp:PySem.W.keepIn K (.ref f)=true
section
variable{P:Program}{w:World}{K:PySem.W.Frag}{mg:Str->Option Value}{base:Heap}
theorem E6.ok{x qual:Str}{st:Stmt}{f:Addr}{fd:FuncData}{N ps:List Str}{k:Nat}{sp:Sp}(F:E6 K x qual st f fd)(S:bj N ps (au st))(len:∀vs H Q E,sp vs H Q E->vs.length=ps.length)
  (g8:∀(aD:Value) (A:Around) (outer:List Env) (s:Shared) (H:Hp) (vs:List V) (Q:VK) (E:XK),cj k (A.deeper (envOfC qual (au st) s.heap.objs.size f aD))->sp vs H Q E ->
   ∃t,PSs (iM aR P w K mg base N qual (au st) f aD A outer s H E).gu (aQ st) t/\t { nx:=λ_ H'=>Q .aw H',rt:=Q } (start N vs) H):aN P w K mg base aR (k+1) f fd ps sp:=by
 obtain⟨oc,od,dV,kV,doc,pm,an,aD,ct,ik,rfl,lk,cJ⟩:=F.ex
 refine DR lk cJ S len λA outer s H vs Q E hr iq=>?_
 obtain⟨t,h,q⟩:=g8 aD A outer s H vs Q E hr iq
 exact⟨t,h.gu,q⟩
theorem cE4{x qual:Str}{st:Stmt}{f:Addr}{oc:Value}{od an:Option Addr}{ik:Array (Option Value)}{dV kV doc pm aD ct:Value}(l:K.lookup f=some ⟨oc,od,.func (PySem.W.fnOf x qual (aY st) (aQ st) (au st) dV kV doc pm an aD ct),ik⟩)
  (c:PySem.W.codeIn K aD qual=true) (k:PySem.W.keepIn K (.ref f)=true):E6 K x qual st f (PySem.W.fnOf x qual (aY st) (aQ st) (au st) dV kV doc pm an aD ct):=⟨⟨oc,od,dV,kV,doc,pm,an,aD,ct,ik,rfl,l,c⟩,k⟩
theorem cS2{fd:FuncData}{ps:List Str}{T:Addr}{o:Obj}{items:Array Value}{n:Nat}(hd:fd.defaults=.ref T)(ho:K.lookup T=some o)(hs:o.data=.seq items n)
  (h:∀us:List Value,us.length=ps.length->∃k,bindArgs fd ⟨us,[]⟩=seqItems? fd.defaults >>= k/\k (some items)=pure (ps.zip us)):Binds K fd ps []:=λs us KX hl=>by
 rw[fV]at hl ⊢
 obtain⟨k,h1,h2⟩:=h us hl
 exact .of_defaults hd (KX _ _ ho) hs h1 h2
end
end L2
namespace L3
open PySem L2 Mf
inductive Kd
 | BJ (b:Nat) | rep | LL (e f:Nat)
structure tu(pre:List (Str × V)):Prop where
 put:∀(n:Str) (v:V) (l:List (Str × V)),n∈oo->bF n v (pre++l)=pre++bF n v l
 look:∀(n:Str) (l:List (Str × V)),n∈oo->(pre++l).lookup n=l.lookup n
 len:pre.length<=2
theorem tu.nil:tu []:=⟨λ_ _ _ _=>rfl,λ_ _ _=>rfl,by decide⟩
theorem tu.two(e f:V):tu [("extra",e),("first",f)]:=by
 have h1:∀n∈oo,("extra":Str)≠n/\("first":Str)≠n:=by decide
 refine⟨λn v l hn=>?_,λn l hn=>?_,bK 2⟩
 ·obtain⟨a,b⟩:=h1 n hn
  show bF n v (("extra",e)::("first",f)::l)=_
  rw[bF,if_neg a,bF,if_neg b];rfl
 ·obtain⟨a,b⟩:=h1 n hn
  show lJ n (("extra",e)::("first",f)::l)=_
  rw[fX,beq_false_of_ne a.symm,fX,beq_false_of_ne b.symm]
theorem tu.lt{pre l:List (Str × V)}(h:tu pre)(hl:l.length<=6):(pre++l).length<1000:=by
 have:=h.len
 rw[dN];omega
section
variable{m:Bool × Nat}{G:List (List Nat)}
def gH(m:Bool × Nat)(G:List (List Nat)):List (List Nat):=iT m (bY m G) (av G)
def bV(m:Bool × Nat)(G:List (List Nat)):List Nat:=fS (bY m G) (av G)
def mR(cb cp:Addr)(o:Bool)(m:Bool × Nat)(G:List (List Nat)):List D:=[fD cb cp m,.int (av G:Nat),.lst o (ay o G),.lst o (ay o (gH m G)),.lst o (ak (bV m G)),.int ((bV m G).length:Nat)]
def uJ(cb cp cc cr cs:Addr)(m:Bool × Nat)(G:List (List Nat)):Kd->D
 | .BJ b=>.obj cc ["field","length","check_rows","word_rows","message_places","size","bound"] (mR cb cp false m G++[.int (b:Nat)])
 | .rep=>.obj cr oo (mR cb cp false m G)
 | .LL e f=>.obj cs ["extra","first","field","length","check_rows","word_rows","message_places","size"] ([.int (e:Nat),.int (f:Nat)]++mR cb cp false m G)
theorem E7(cb cp:Addr)(o:Bool)(m:Bool × Nat)(G:List (List Nat)):(mR cb cp o m G).map D.sh=mR cb cp false m G:=by
 unfold mR
 simp only[dv,jX,EK,dQ,eA,pJ,<- cE,pG]
theorem cS8(cb cp cc cr cs:Addr)(m:Bool × Nat)(G:List (List Nat))(k:Kd):(uJ cb cp cc cr cs m G k).sh=uJ cb cp cc cr cs m G k:=by cases k<;>rfl
theorem cK1(cb cp cc cr cs:Addr)(m:Bool × Nat)(G:List (List Nat))(k:Kd):(uJ cb cp cc cr cs m G k).pl=true:=by cases k<;>rfl
structure ft(m:Bool × Nat)(G:List (List Nat)):Prop where
 hm:m∈aI
 rt:RT (ae m) (av G) G
 len:G.length<=64
 E8:av G<=64
 sz:0<(bV m G).length
theorem ft.red(h:ft m G):(∃H,RR (av G) (bY m G) H)/\RT (ae m) (av G) (bY m G):=⟨(mQ h.hm h.rt).1,(mQ h.hm h.rt).2.1⟩
theorem mS(m:Bool × Nat)(G:List (List Nat)):(gH m G).length=(bV m G).length:=by unfold gH bV iT;rw[bA]
theorem cQ0{j:Nat}(hj:j<(bV m G).length):(gH m G).getD j []=gQ m (bY m G) (av G) ((bV m G).getD j 0):=pZ (gQ m (bY m G) (av G)) hj 0 []
theorem ν{j:Nat}(hj:j<(bV m G).length):(bV m G).getD j 0∈fS (bY m G) (av G):=by
 rw[aU,aP hj];exact dE hj
theorem cL7(m:Bool × Nat)(G:List (List Nat)):(bV m G).Nodup:=dE7 _ List.nodup_range
theorem cO0{j:Nat}(hj:j∈bV m G):j<av G:=da.mp (tR.mp hj).1
theorem ft.rows(h:ft m G):RT (ae m) (av G) (gH m G):=(LJ h.hm h.rt).1
theorem ft.wm(h:ft m G):(bV m G).length<=av G:=by rw[<-mS];exact(LJ h.hm h.rt).2
theorem ft.wide(h:ft m G):av (gH m G)=av G:=s8 h.rows λz=>by
 have:=h.sz
 rw[<-mS,z]at this
 exact absurd this (by decide)
def fg(m:Bool × Nat)(G:List (List Nat))(l:List Nat):List Nat:=kq m l (gH m G) (av G)
theorem ξ(m:Bool × Nat)(G:List (List Nat))(l:List Nat):(fg m G l).length=av G:=Lz ..
theorem ft.wlt(h:ft m G){l:List Nat}(hl:l.length=(bV m G).length):AllLt (ae m) (fg m G l):=cJ5 h.hm _ (by rw[mS];exact hl)
theorem ft.word(h:ft m G){l:List Nat}(hl:l.length=(bV m G).length):∀r∈G,gd m r (fg m G l)=0:=cG8 h.hm h.rt (by rw[hl,<- mS];rfl)
theorem ft.at(h:ft m G){l:List Nat}(hl:l.length=(bV m G).length)(al:AllLt (ae m) l){j:Nat}(hj:j<(bV m G).length):cf (fg m G l) ((bV m G).getD j 0)=cf l j:=by
 have hm:=h.hm
 have g:=rg hm
 obtain⟨⟨H,I⟩,hR⟩:=h.red
 have fr:=λ{k:Nat} (hk:k<(bV m G).length)=>(I.free hm hR _).mp (ν hk)
 unfold fg
 rw[LA m (by rw[mS];exact hl) (fr hj).1,mS]
 have k1:∀i,i<(bV m G).length->cf ((gH m G).getD i []) ((bV m G).getD j 0)=if i=j then 1 else 0:=λi hi=>by
  rw[cQ0 hi]
  obtain⟨_,_,a,_,b⟩:=EZ hm hR I (ν hi)
  by_cases c:i=j
  ·rw[if_pos c,<- c];exact a
  ·rw[if_neg c]
   refine b _ (λz=>c ?_) (fr hj).2
   rw[aU,aU,aP hi,aP hj]at z
   exact((List.getElem_inj (cL7 m G)).mp z).symm
 rw[wk g (f:=λi=>gm m (cf l i) (cf ((gH m G).getD i []) ((bV m G).getD j 0))) (j0:=j) (dD hm _ _) hj λi hi c=>by rw[k1 i hi,if_neg c,iS m _ 0,iF m _ (dq m hm)],k1 j hj,if_pos rfl,sQ (fQ hm al j)]
theorem ft.read(h:ft m G){l:List Nat}(hl:l.length=(bV m G).length)(al:AllLt (ae m) l):((bV m G).map λj=>cf (fg m G l) j)=l:=by
 refine EW (w:=(bV m G).length) (bA ..) hl λk hk=>?_
 rw[show cf ((bV m G).map λj=>cf (fg m G l) j) k=cf (fg m G l) ((bV m G).getD k 0) from pZ (λj=>cf (fg m G l) j) hk 0 0]
 exact h.at hl al hk
end
end L3
namespace L3
open PySem L2 PySem.Spec PyProof.Rows
section
variable{X:Cx}{scope:Scope}{tg iter elt:Expr}{ifs:List Expr}{pos:Pos}{cl:List (Str × Addr)}{ti:jm}{g:iz}{tt:gz}{te:aO}
theorem cm5{i:Nat}{x:Str}{pos' apos:Pos}(hN:X.N.Nodup)(mJ:X.N[i]?=some x)(hx:L2.Loc X.env.scope x)(aE:List (Str × Nat))(bL:List Str)(hc:X.calm=true)(hi:PI X tg iter (lI ti))
  (hg:∀C s H fp,PG (dM X scope (aE.map (·.1)++bL) cl C s H fp) tg (lG aE.length g))
  (ht:∀C s H fp,mn (dM X scope (aE.map (·.1)++bL) cl C s H fp) ifs (lT tt)) (he:∀C s H fp,PE (dM X scope (aE.map (·.1)++bL) cl C s H fp) elt (lE te))
  (kX:closureFor scope X.env=pure cl) (kY:mq X cl) (kZ:∀C:Addr,mr (cellsFrom (C+1) scope.names cl) (relabel scope X.env).names) (lh:∀C:Addr,mm X scope (cellsFrom (C+1) scope.names cl) aE)
  (ir:scope.kind=.function) (lj:∀y∈scope.names,y.2=.local->scope.names.lookup y.1=some .local)
  (sj:swapsWith (.ListComp elt [⟨tg,iter,ifs,0⟩] scope pos) (some (.Name x pos')) apos.line X.env=pure true:=by rfl) (hf:X.fn x=true\/X.env.scope.names.lookup x=some .local:=by first | exact .inl rfl | exact .inr rfl)
  (hs:∀x,foldedSetIterable iter X.env x=pure x:=by intro _;rfl):PS X (.Assign [.Name x pos'] (.ListComp elt [⟨tg,iter,ifs,0⟩] scope pos) apos) (λEn σ H=>lE (pq ti aE bL.length g tt te) σ H λv H'=>En.nx (σ.set i (some v)) H') :=
 jH (Zz hN mJ hx hf aE bL hc hi hg ht he kX kY kZ lh ir lj sj hs) λEn σ H ⟨B,F,δ,ts,Qd,c,q,k⟩=>⟨B,F,δ,ts,_,c,q,λsh xs ao J F1 H1 hq f1 h1 c1 nR rH=>by
  obtain⟨p,f,hx,eK,hlen,hQ⟩:=hq
  exact Kh c1 nR rH p f hx eK hlen hQ λd ah v F' H' hd hf hs c'=>k d ah v F' H' hd (f1.trans hf) (h1.trans hs) c'⟩
end
theorem aq.self{F H:Hp}{σ:L2.St}{δ:Dl}{o:Option V}(e:af F H)(r:RS F H δ σ []):aq ⟨H,F⟩ F H (o::σ) (none::δ) []:=⟨e,af.refl _,af.refl _,λ_ _ q=>.inl q,[],[],.nil,.aw r,by simp,by simp⟩
end L3
namespace HK34
open PySem renaming lookup_relabel_local→lr1
open PySem.W (Frag codeHdIn kitOne nsIn fnOf codeIn keepIn findIn plainGet hasDictIn plainOver makesIn isFn specialIn takesIn mroIn clsIn typeIn subIn mg_of mg_none_of CodeHd)
open PySem L2 L3 Mf
seal L2.PSs L2.PS L2.PE L2.PT L2.PA L2.PI L2.PG L2.PO L2.PW
local macro_rules | `(tactic| nofun) => do
  let l ← (("uV rG uW uX uY dT nM ph pj dC nL rE rC rB rD uU pF vB si vD vE uP uQ uR uS uT rA vy rV rW ii rJ vd rM ve vg vh vj vk vm iI iA vn vo vp vq rP pB vw vx gN vF vA uZ u5 u6 u7 u9 va vG vH pq mC gA jK jn qE t7 zy Ds rF kM ke rZ se nX vL vM vN A6 vQ sD vO jM Bb A8 Ba dv jX nk ub jz Dt bo oN oO jA jB zA exists_eq_left' exists_eq_left D.bl.injEq D.int.injEq D.lst.injEq D.fz.injEq D.str.injEq D.tup.injEq Du and_true true_and dy ui nj lQ As Au Av Aw Az AA fZ kK pG AG AH AI AJ AK dQ mx AB AD AE AF fL rn Dv Dw tU lR Dx Dy zd AN AO AQ AR AS AU AV kS nW sq kj sr AL vK vI su AM jL vJ if_true uf if_false reduceIte AW decide_eq_true_eq eo kT sE Bf nY Be u0 vV sR v9 vP sH sI sJ vX we BH wo s9 eA pX kn BC sX wA wB sL EK Y9 cy3 cy4 mL sT".splitOn " ").toArray.map fun (s : String) => Lean.mkIdent s.toName).mapM fun i => `(Lean.Parser.Tactic.simpLemma| $i:term)
  `(tactic| (try dsimp only [$l,*]) <;> (try simp only [$l,*]))
def top (i:Nat):Stmt:=PySem.Challenge.pw_mendfield_k34_message_written.main.body.getD i (.Pass ⟨0,0,0,0⟩)
abbrev wD:Stmt:=top 89
theorem LM:bj ["_law_cell_here","_law_some","_law_primes"] ["_law_cell_here"] (au wD):=⟨rfl,rfl,rfl,by decide +kernel,rfl,by decide +kernel,by decide +kernel⟩
abbrev wF:Stmt:=top 90
theorem aX3:bj ["_law_told_here"] ["_law_told_here"] (au wF):=⟨rfl,rfl,rfl,by decide +kernel,rfl,by decide +kernel,by decide +kernel⟩
abbrev wH:Stmt:=top 56
theorem E9:bj ["a","product","found","power"] ["a","product"] (au wH):=⟨rfl,rfl,rfl,by decide +kernel,rfl,by decide +kernel,by decide +kernel⟩
abbrev wI:Stmt:=top 57
theorem BK:bj ["many","product","step","found"] ["many","product"] (au wI):=⟨rfl,rfl,rfl,by decide +kernel,rfl,by decide +kernel,by decide +kernel⟩
abbrev wJ:Stmt:=top 58
theorem LN:bj ["powers","logs","n","a"] ["powers"] (au wJ):=⟨rfl,rfl,rfl,by decide +kernel,rfl,by decide +kernel,by decide +kernel⟩
abbrev wK:Stmt:=eD (top 62) 8
theorem aI6:bj ["self","n"] ["self","n"] (au wK):=⟨rfl,rfl,rfl,by decide +kernel,rfl,by decide +kernel,by decide +kernel⟩
abbrev wL:Stmt:=eD (top 62) 0
theorem aV2:bj ["self","many","product"] ["self","many","product"] (au wL):=⟨rfl,rfl,rfl,by decide +kernel,rfl,by decide +kernel,by decide +kernel⟩
abbrev wM:Stmt:=top 61
theorem aH0:bj ["prime"] ["prime"] (au wM):=⟨rfl,rfl,rfl,by decide +kernel,rfl,by decide +kernel,by decide +kernel⟩
abbrev oq:Stmt:=eD (top 64) 0
theorem aJ7:bj ["self","prime"] ["self","prime"] (au oq):=⟨rfl,rfl,rfl,by decide +kernel,rfl,by decide +kernel,by decide +kernel⟩
abbrev wN:Stmt:=top 59
theorem Fc:bj ["powers","logs","many","rows","a"] ["powers","logs"] (au wN):=⟨rfl,rfl,rfl,by decide +kernel,rfl,by decide +kernel,by decide +kernel⟩
abbrev wO:Stmt:=top 53
theorem wQ:bj ["a","b","quotient","rest","shift"] ["a","b"] (au wO):=⟨rfl,rfl,rfl,by decide +kernel,rfl,by decide +kernel,by decide +kernel⟩
abbrev wR:Stmt:=top 54
theorem LO:bj ["a","half","b"] ["a"] (au wR):=⟨rfl,rfl,rfl,by decide +kernel,rfl,by decide +kernel,by decide +kernel⟩
abbrev wU:Stmt:=top 60
theorem aJ8:bj ["bits"] ["bits"] (au wU):=⟨rfl,rfl,rfl,by decide +kernel,rfl,by decide +kernel,by decide +kernel⟩
abbrev wV:Stmt:=top 52
theorem Fd:bj ["a","b","product","k"] ["a","b"] (au wV):=⟨rfl,rfl,rfl,by decide +kernel,rfl,by decide +kernel,by decide +kernel⟩
abbrev ot:Stmt:=eD (top 63) 0
theorem ο:bj ["self","bits","many"] ["self","bits"] (au ot):=⟨rfl,rfl,rfl,by decide +kernel,rfl,by decide +kernel,by decide +kernel⟩
abbrev wW:Stmt:=top 93
theorem aV3:bj ["_law_told_here"] ["_law_told_here"] (au wW):=⟨rfl,rfl,rfl,by decide +kernel,rfl,by decide +kernel,by decide +kernel⟩
abbrev wX:Stmt:=top 87
theorem aX4:bj ["_law_script","_law_k"] ["_law_script","_law_k"] (au wX):=⟨rfl,rfl,rfl,by decide +kernel,rfl,by decide +kernel,by decide +kernel⟩
abbrev wY:Stmt:=top 95
theorem aV4:bj ["_law_cell_here","_law_k"] ["_law_cell_here","_law_k"] (au wY):=⟨rfl,rfl,rfl,by decide +kernel,rfl,by decide +kernel,by decide +kernel⟩
abbrev wZ:Stmt:=top 98
theorem BL:bj ["_law_many_here","_law_length","_law_extra","_law_cell_here","_law_sparse","_law_table","_law_i","_law_row"] ["_law_many_here","_law_length","_law_extra","_law_cell_here","_law_sparse"] (au wZ):=⟨rfl,rfl,rfl,by decide +kernel,rfl,by decide +kernel,by decide +kernel⟩
abbrev w4:Stmt:=top 15
theorem aZ9:bj ["table"] ["table"] (au w4):=⟨rfl,rfl,rfl,by decide +kernel,rfl,by decide +kernel,by decide +kernel⟩
abbrev w5:Stmt:=top 20
theorem π:bj ["rows","place","number","row"] ["rows","place"] (au w5):=⟨rfl,rfl,rfl,by decide +kernel,rfl,by decide +kernel,by decide +kernel⟩
abbrev w9:Stmt:=eD (top 63) 6
theorem ρ:bj ["self","a","row","by_a"] ["self","a","row"] (au w9):=⟨rfl,rfl,rfl,by decide +kernel,rfl,by decide +kernel,by decide +kernel⟩
abbrev xb:Stmt:=eD (top 64) 6
theorem τ:bj ["self","a","row","prime"] ["self","a","row"] (au xb):=⟨rfl,rfl,rfl,by decide +kernel,rfl,by decide +kernel,by decide +kernel⟩
abbrev xf:Stmt:=eD (top 63) 7
theorem υ:bj ["self","row","a","other","by_a"] ["self","row","a","other"] (au xf):=⟨rfl,rfl,rfl,by decide +kernel,rfl,by decide +kernel,by decide +kernel⟩
abbrev xg:Stmt:=eD (top 64) 7
theorem χ:bj ["self","row","a","other","prime"] ["self","row","a","other"] (au xg):=⟨rfl,rfl,rfl,by decide +kernel,rfl,by decide +kernel,by decide +kernel⟩
abbrev xh:Stmt:=top 21
theorem a07:bj ["field","rows","lead_row","place"] ["field","rows","lead_row","place"] (au xh):=⟨rfl,rfl,rfl,by decide +kernel,rfl,by decide +kernel,by decide +kernel⟩
abbrev xi:Stmt:=eD (top 62) 5
theorem aV5:bj ["self","a","b"] ["self","a","b"] (au xi):=⟨rfl,rfl,rfl,by decide +kernel,rfl,by decide +kernel,by decide +kernel⟩
abbrev xj:Stmt:=top 22
theorem qe:bj ["field","table","done","left","place","number","lead_row"] ["field","table"] (au xj):=⟨rfl,rfl,rfl,by decide +kernel,rfl,by decide +kernel,by decide +kernel⟩
abbrev xk:Stmt:=top 28
theorem a75:bj ["table"] ["table"] (au xk):=⟨rfl,rfl,rfl,by decide +kernel,rfl,by decide +kernel,by decide +kernel⟩
abbrev xm:Stmt:=top 23
theorem cm8:bj ["rows"] ["rows"] (au xm):=⟨rfl,rfl,rfl,by decide +kernel,rfl,by decide +kernel,by decide +kernel⟩
abbrev xn:Stmt:=top 25
theorem ω:bj ["rows","width","taken"] ["rows","width"] (au xn):=⟨rfl,rfl,rfl,by decide +kernel,rfl,by decide +kernel,by decide +kernel⟩
abbrev xo:Stmt:=eD (top 63) 2
theorem aN0:bj ["self","a","b"] ["self","a","b"] (au xo):=⟨rfl,rfl,rfl,by decide +kernel,rfl,by decide +kernel,by decide +kernel⟩
abbrev xp:Stmt:=eD (top 64) 2
theorem aI7:bj ["self","a","b"] ["self","a","b"] (au xp):=⟨rfl,rfl,rfl,by decide +kernel,rfl,by decide +kernel,by decide +kernel⟩
abbrev xq:Stmt:=top 26
theorem xt:bj ["field","rows","width","taken","found","free","x","lead","row"] ["field","rows","width"] (au xq):=⟨rfl,rfl,rfl,by decide +kernel,rfl,by decide +kernel,by decide +kernel⟩
abbrev xu:Stmt:=eD (top 32) 0
theorem Γ:bj ["self","field","checks","rows"] ["self","field","checks"] (au xu):=⟨rfl,rfl,rfl,by decide +kernel,rfl,by decide +kernel,by decide +kernel⟩
abbrev xv:Stmt:=eD (top 62) 1
theorem aT0:bj ["self","x"] ["self","x"] (au xv):=⟨rfl,rfl,rfl,by decide +kernel,rfl,by decide +kernel,by decide +kernel⟩
abbrev xw:Stmt:=top 49
theorem Δ:bj ["field","table","width"] ["field","table"] (au xw):=⟨rfl,rfl,rfl,by decide +kernel,rfl,by decide +kernel,by decide +kernel⟩
abbrev xx:Stmt:=top 24
theorem cA6:bj ["field","table"] ["field","table"] (au xx):=⟨rfl,rfl,rfl,by decide +kernel,rfl,by decide +kernel,by decide +kernel⟩
abbrev xy:Stmt:=top 16
theorem a76:bj ["table"] ["table"] (au xy):=⟨rfl,rfl,rfl,by decide +kernel,rfl,by decide +kernel,by decide +kernel⟩
abbrev xB:Stmt:=top 36
theorem aX5:bj ["column"] ["column"] (au xB):=⟨rfl,rfl,rfl,by decide +kernel,rfl,by decide +kernel,by decide +kernel⟩
abbrev xC:Stmt:=eD (top 63) 3
theorem aN1:bj ["self","a","b"] ["self","a","b"] (au xC):=⟨rfl,rfl,rfl,by decide +kernel,rfl,by decide +kernel,by decide +kernel⟩
abbrev xD:Stmt:=eD (top 64) 3
theorem aI8:bj ["self","a","b"] ["self","a","b"] (au xD):=⟨rfl,rfl,rfl,by decide +kernel,rfl,by decide +kernel,by decide +kernel⟩
abbrev xE:Stmt:=top 37
theorem xF:bj ["field","column","others","place","inverse","found","other","left"] ["field","column","others"] (au xE):=⟨rfl,rfl,rfl,by decide +kernel,rfl,by decide +kernel,by decide +kernel⟩
abbrev xG:Stmt:=top 38
theorem qf:bj ["field","table","width","sets","larger","places","behind","number","column","bigger"] ["field","table"] (au xG):=⟨rfl,rfl,rfl,by decide +kernel,rfl,by decide +kernel,by decide +kernel⟩
abbrev xH:Stmt:=eD (top 50) 0
theorem aN2:bj ["self","field","table"] ["self","field","table"] (au xH):=⟨rfl,rfl,rfl,by decide +kernel,rfl,by decide +kernel,by decide +kernel⟩
abbrev xI:Stmt:=top 92
theorem xJ:bj ["_law_told_here","_law_a","_law_b","_law_total"] ["_law_told_here","_law_a","_law_b"] (au xI):=⟨rfl,rfl,rfl,by decide +kernel,rfl,by decide +kernel,by decide +kernel⟩
abbrev xK:Stmt:=top 94
theorem LP:bj ["_law_told_here","_law_a","_law_powers_here"] ["_law_told_here"] (au xK):=⟨rfl,rfl,rfl,by decide +kernel,rfl,by decide +kernel,by decide +kernel⟩
abbrev xM:Stmt:=top 97
theorem Fe:bj ["_law_told_here","_law_length","_law_extra","_law_first","_law_powers_here","_law_table","_law_i"] ["_law_told_here","_law_length","_law_extra","_law_first"] (au xM):=⟨rfl,rfl,rfl,by decide +kernel,rfl,by decide +kernel,by decide +kernel⟩
abbrev xN:Stmt:=top 84
theorem aK0:bj ["many","length","extra","first"] ["many","length","extra","first"] (au xN):=⟨rfl,rfl,rfl,by decide +kernel,rfl,by decide +kernel,by decide +kernel⟩
abbrev ou:Stmt:=eD (top 85) 0
theorem Θ:bj ["self","field","length","extra","first","checks"] ["self","field","length","extra","first"] (au ou):=⟨rfl,rfl,rfl,by decide +kernel,rfl,by decide +kernel,by decide +kernel⟩
abbrev xO:Stmt:=eD (top 50) 1
theorem aG0:bj ["self"] ["self"] (au xO):=⟨rfl,rfl,rfl,by decide +kernel,rfl,by decide +kernel,by decide +kernel⟩
abbrev BM:Stmt:=eD (top 34) 1
abbrev BN:Stmt:=eD (top 85) 2
abbrev xP:Stmt:=top 33
theorem Λ:bj ["field","length","less_one"] ["field","length"] (au xP):=⟨rfl,rfl,rfl,by decide +kernel,rfl,by decide +kernel,by decide +kernel⟩
abbrev xQ:Stmt:=eD (top 34) 0
theorem aK1:bj ["self","field","length"] ["self","field","length"] (au xQ):=⟨rfl,rfl,rfl,by decide +kernel,rfl,by decide +kernel,by decide +kernel⟩
abbrev xR:Stmt:=top 96
theorem Ff:bj ["_law_told_here","_law_length","_law_table","_law_i","_law_row"] ["_law_told_here","_law_length"] (au xR):=⟨rfl,rfl,rfl,by decide +kernel,rfl,by decide +kernel,by decide +kernel⟩
abbrev xS:Stmt:=top 99
theorem jw:bj ["_law_script","_law_told_here","_law_many_here","_law_field_here","_law_kind","_law_length","_law_extra","_law_table","_law_code_here","_law_first"] ["_law_script","_law_told_here"] (au xS):=⟨rfl,rfl,rfl,by decide +kernel,rfl,by decide +kernel,by decide +kernel⟩
abbrev xT:Stmt:=top 101
theorem aR2:bj ["_law_script","_law_at","_law_size","_law_many_here"] ["_law_script","_law_at","_law_size","_law_many_here"] (au xT):=⟨rfl,rfl,rfl,by decide +kernel,rfl,by decide +kernel,by decide +kernel⟩
abbrev xU:Stmt:=top 29
theorem aP3:bj ["signs","length"] ["signs","length"] (au xU):=⟨rfl,rfl,rfl,by decide +kernel,rfl,by decide +kernel,by decide +kernel⟩
abbrev xV:Stmt:=top 30
theorem Ξ:bj ["field","signs","place","sign"] ["field","signs"] (au xV):=⟨rfl,rfl,rfl,by decide +kernel,rfl,by decide +kernel,by decide +kernel⟩
abbrev xW:Stmt:=eD (top 63) 5
theorem BO:bj ["self","xs","ys","products","total","x","y"] ["self","xs","ys"] (au xW):=⟨rfl,rfl,rfl,by decide +kernel,rfl,by decide +kernel,by decide +kernel⟩
abbrev xX:Stmt:=eD (top 64) 5
theorem aN3:bj ["self","xs","ys"] ["self","xs","ys"] (au xX):=⟨rfl,rfl,rfl,by decide +kernel,rfl,by decide +kernel,by decide +kernel⟩
abbrev xY:Stmt:=top 18
theorem a77:bj ["field","row","table"] ["field","row","table"] (au xY):=⟨rfl,rfl,rfl,by decide +kernel,rfl,by decide +kernel,by decide +kernel⟩
abbrev xZ:Stmt:=eD (top 32) 5
theorem aR3:bj ["self","message"] ["self","message"] (au xZ):=⟨rfl,rfl,rfl,by decide +kernel,rfl,by decide +kernel,by decide +kernel⟩
abbrev x6:Stmt:=eD (top 32) 2
theorem aX6:bj ["self"] ["self"] (au x6):=⟨rfl,rfl,rfl,by decide +kernel,rfl,by decide +kernel,by decide +kernel⟩
abbrev x8:Stmt:=eD (top 32) 3
theorem aT1:bj ["self"] ["self"] (au x8):=⟨rfl,rfl,rfl,by decide +kernel,rfl,by decide +kernel,by decide +kernel⟩
abbrev x9:Stmt:=eD (top 32) 1
theorem aT2:bj ["self"] ["self"] (au x9):=⟨rfl,rfl,rfl,by decide +kernel,rfl,by decide +kernel,by decide +kernel⟩
abbrev ya:Stmt:=top 103
theorem BP:bj ["_law_code_here","_law_message_here","_law_word","_law_rows","_law_places","_law_checks"] ["_law_code_here","_law_message_here"] (au ya):=⟨rfl,rfl,rfl,by decide +kernel,rfl,by decide +kernel,by decide +kernel⟩
abbrev yb:Stmt:=top 91
theorem aX7:bj ["_law_told_here","_law_a","_law_b"] ["_law_told_here","_law_a","_law_b"] (au yb):=⟨rfl,rfl,rfl,by decide +kernel,rfl,by decide +kernel,by decide +kernel⟩
abbrev yc:Stmt:=top 102
theorem Fg:bj ["_law_told_here","_law_rows","_law_message_here","_law_length","_law_word","_law_sign","_law_row"] ["_law_told_here","_law_rows","_law_message_here","_law_length"] (au yc):=⟨rfl,rfl,rfl,by decide +kernel,rfl,by decide +kernel,by decide +kernel⟩
abbrev yd:Stmt:=top 100
theorem ye:bj ["_law_told_here","_law_table","_law_word","_law_sums_here","_law_row","_law_total","_law_x","_law_y"] ["_law_told_here","_law_table","_law_word"] (au yd):=⟨rfl,rfl,rfl,by decide +kernel,rfl,by decide +kernel,by decide +kernel⟩
abbrev yf:Stmt:=top 88
theorem aV6:bj ["_law_x"] ["_law_x"] (au yf):=⟨rfl,rfl,rfl,by decide +kernel,rfl,by decide +kernel,by decide +kernel⟩
abbrev ow:Stmt:=top 104
theorem ly:bj ["_law_script","_law_told_here","_law_many_here","_law_made","_law_code_here","_law_message_here","_law_handed","_law_word","_law_places","_law_rows"] ["_law_script"] (au ow):=⟨rfl,rfl,rfl,by decide +kernel,rfl,by decide +kernel,by decide +kernel⟩
set_option genInjectivity false in
set_option genSizeOf false in
structure eX where
 LQ:Addr
 LR:FuncData
 LS:Addr
 LU:FuncData
 LV:Addr
 LW:FuncData
 LX:Addr
 LY:FuncData
 LZ:Addr
 L4:FuncData
 BQ:Addr
 L5:FuncData
 L6:Addr
 L7:FuncData
 L8:Addr
 L9:FuncData
 Ma:Addr
 Fh:FuncData
 Mb:Addr
 Mc:FuncData
 Md:Addr
 Me:FuncData
 Mg:Addr
 Mh:FuncData
 Mi:Addr
 Mj:FuncData
 Ml:Addr
 Mm:FuncData
 Mn:Addr
 Fj:FuncData
 Mo:Addr
 Mp:FuncData
 Mq:Addr
 Mr:FuncData
 Ms:Addr
 Mt:FuncData
 Mu:Addr
 Mv:FuncData
 Mw:Addr
 Mx:FuncData
 Mz:Addr
 MA:FuncData
 MB:Addr
 MC:FuncData
 MD:Addr
 ME:FuncData
 MF:Addr
 MG:FuncData
 MH:Addr
 MI:FuncData
 MJ:Addr
 MK:FuncData
 Fl:Addr
 ML:FuncData
 MM:Addr
 MN:FuncData
 MP:Addr
 MQ:FuncData
 MR:Addr
 MS:FuncData
 MT:Addr
 MU:FuncData
 MV:Addr
 MW:FuncData
 MX:Addr
 MY:FuncData
 MZ:Addr
 M4:FuncData
 M5:Addr
 M6:FuncData
 Fm:Addr
 M7:FuncData
 M8:Addr
 M9:FuncData
 Na:Addr
 Nb:FuncData
 Nc:Addr
 Nd:FuncData
 Nf:Addr
 Ng:FuncData
 Nh:Addr
 Ni:FuncData
 Nj:Addr
 Nk:FuncData
 Nl:Addr
 Nm:FuncData
 Nn:Addr
 Np:FuncData
 Nq:Addr
 Nr:FuncData
 Nt:Addr
 Nu:FuncData
 Nv:Addr
 Nw:FuncData
 Nx:Addr
 Ny:FuncData
 Nz:Addr
 NA:FuncData
 NB:Addr
 NC:FuncData
 ND:Addr
 NF:FuncData
 Φ:Addr
 Ψ:FuncData
 Ω:Addr
 c88:FuncData
 NG:Addr
 NH:FuncData
 NI:Addr
 NJ:FuncData
 NK:Addr
 NL:FuncData
 NM:Addr
 NN:FuncData
 NO:Addr
 NP:FuncData
 NQ:Addr
 NR:FuncData
 NS:Addr
 NT:FuncData
 NU:Addr
 NV:FuncData
 NW:Addr
 NX:FuncData
 NY:Addr
 NZ:FuncData
 BR:Addr
 N0:FuncData
 BS:Addr
 N1:FuncData
 BU:Addr
 N2:FuncData
 BV:Addr
 N3:FuncData
 N4:Addr
 N5:FuncData
 N6:Addr
 N7:FuncData
 N8:Addr
 N9:FuncData
 Oa:Addr
 Ob:FuncData
 Oc:Addr
 Od:FuncData
 Oe:Addr
 Of:FuncData
 aA2:Addr
 iV:Addr
 aD9:Addr
 iW:Addr
 aC:Addr
 iH:Addr
 bt:Addr
 cF:Addr
 ku:Addr
 aF:Addr
 bw:Addr
 bh:Addr
structure Txt(K:Frag)(mg:Str->Option Value)(t:eX):Prop where
 aO7:bg K "_law_told" "_law_told" wD t.LQ t.LR
 a00:mg "_law_told"=some (.ref t.LQ)
 a01:Binds K t.LR ["_law_cell_here"] []
 BW:bg K "_law_many" "_law_many" wF t.LS t.LU
 Fo:mg "_law_many"=some (.ref t.LS)
 Fp:Binds K t.LU ["_law_told_here"] []
 Og:bg K "powers_of" "powers_of" wH t.LV t.LW
 c92:mg "powers_of"=some (.ref t.LV)
 c93:Binds K t.LW ["a","product"] []
 c94:bg K "step_powers" "step_powers" wI t.LX t.LY
 ev1:mg "step_powers"=some (.ref t.LX)
 ev2:Binds K t.LY ["many","product"] []
 c95:bg K "logs_of" "logs_of" wJ t.LZ t.L4
 ev3:mg "logs_of"=some (.ref t.LZ)
 ev4:Binds K t.L4 ["powers"] []
 aK2:bg K "step_power" "Field.step_power" wK t.BQ t.L5
 BX:Binds K t.L5 ["self","n"] []
 aX8:bg K "__init__" "Field.__init__" wL t.L6 t.L7
 aK3:Binds K t.L7 ["self","many","product"] []
 c97:bg K "makes_prime_field" "makes_prime_field" wM t.L8 t.L9
 ev7:mg "makes_prime_field"=some (.ref t.L8)
 ev8:Binds K t.L9 ["prime"] []
 aN4:bg K "__init__" "PrimeField.__init__" oq t.Ma t.Fh
 aN5:Binds K t.Fh ["self","prime"] []
 c98:bg K "product_rows" "product_rows" wN t.Mb t.Mc
 ew1:mg "product_rows"=some (.ref t.Mb)
 ew2:Binds K t.Mc ["powers","logs"] []
 Oh:bg K "bits_divided" "bits_divided" wO t.Md t.Me
 c99:mg "bits_divided"=some (.ref t.Md)
 da0:Binds K t.Me ["a","b"] []
 da1:bg K "stands_alone" "stands_alone" wR t.Mg t.Mh
 ew3:mg "stands_alone"=some (.ref t.Mg)
 ew4:Binds K t.Mh ["a"] []
 da2:bg K "makes_bit_field" "makes_bit_field" wU t.Mi t.Mj
 ew5:mg "makes_bit_field"=some (.ref t.Mi)
 ew6:Binds K t.Mj ["bits"] []
 da3:bg K "bits_times" "bits_times" wV t.Ml t.Mm
 ew7:mg "bits_times"=some (.ref t.Ml)
 ew8:Binds K t.Mm ["a","b"] []
 aR4:bg K "__init__" "BitField.__init__" ot t.Mn t.Fj
 aR5:Binds K t.Fj ["self","bits"] []
 aK4:bg K "_law_field" "_law_field" wW t.Mo t.Mp
 aX9:mg "_law_field"=some (.ref t.Mo)
 aY0:Binds K t.Mp ["_law_told_here"] []
 ky:bg K "_law_cell" "_law_cell" wX t.Mq t.Mr
 lC:mg "_law_cell"=some (.ref t.Mq)
 lD:Binds K t.Mr ["_law_script","_law_k"] []
 Fq:bg K "_law_mixed" "_law_mixed" wY t.Ms t.Mt
 Oi:mg "_law_mixed"=some (.ref t.Ms)
 Oj:Binds K t.Mt ["_law_cell_here","_law_k"] []
 aA3:bg K "_law_free_table" "_law_free_table" wZ t.Mu t.Mv
 aN6:mg "_law_free_table"=some (.ref t.Mu)
 aN7:Binds K t.Mv ["_law_many_here","_law_length","_law_extra","_law_cell_here","_law_sparse"] []
 BY:bg K "width_of" "width_of" w4 t.Mw t.Mx
 Fs:mg "width_of"=some (.ref t.Mw)
 Ft:Binds K t.Mx ["table"] []
 da6:bg K "first_with" "first_with" w5 t.Mz t.MA
 ex5:mg "first_with"=some (.ref t.Mz)
 ex6:Binds K t.MA ["rows","place"] []
 aN8:bg K "scaled" "BitField.scaled" w9 t.MB t.MC
 aN9:Binds K t.MC ["self","a","row"] []
 aI9:bg K "scaled" "PrimeField.scaled" xb t.MD t.ME
 aJ0:Binds K t.ME ["self","a","row"] []
 aJ1:bg K "lessened" "BitField.lessened" xf t.MF t.MG
 aJ2:Binds K t.MG ["self","row","a","other"] []
 aG1:bg K "lessened" "PrimeField.lessened" xg t.MH t.MI
 aG2:Binds K t.MI ["self","row","a","other"] []
 Ol:bg K "cleared" "cleared" xh t.MJ t.MK
 da7:mg "cleared"=some (.ref t.MJ)
 da8:Binds K t.MK ["field","rows","lead_row","place"] []
 aY1:bg K "over" "Field.over" xi t.Fl t.ML
 aK5:Binds K t.ML ["self","a","b"] []
 Om:bg K "reduced" "reduced" xj t.MM t.MN
 db0:mg "reduced"=some (.ref t.MM)
 db1:Binds K t.MN ["field","table"] []
 Fu:bg K "copied" "copied" xk t.MP t.MQ
 Oo:mg "copied"=some (.ref t.MP)
 Oq:Binds K t.MQ ["table"] []
 Ot:bg K "leads" "leads" xm t.MR t.MS
 db2:mg "leads"=some (.ref t.MR)
 db3:Binds K t.MS ["rows"] []
 Ou:bg K "free_places" "free_places" xn t.MT t.MU
 db4:mg "free_places"=some (.ref t.MT)
 db5:Binds K t.MU ["rows","width"] []
 aP4:bg K "minus" "BitField.minus" xo t.MV t.MW
 aP5:Binds K t.MW ["self","a","b"] []
 aK6:bg K "minus" "PrimeField.minus" xp t.MX t.MY
 aK7:Binds K t.MY ["self","a","b"] []
 db6:bg K "kernel_of_reduced" "kernel_of_reduced" xq t.MZ t.M4
 ez0:mg "kernel_of_reduced"=some (.ref t.MZ)
 ez1:Binds K t.M4 ["field","rows","width"] []
 ez2:bg K "__init__" "Code.__init__" xu t.M5 t.M6
 Ov:Binds K t.M6 ["self","field","checks"] []
 aV7:bg K "holds" "Field.holds" xv t.Fm t.M7
 aH9:Binds K t.M7 ["self","x"] []
 db8:bg K "is_small_table" "is_small_table" xw t.M8 t.M9
 ez4:mg "is_small_table"=some (.ref t.M8)
 ez5:Binds K t.M9 ["field","table"] []
 db9:bg K "rank" "rank" xx t.Na t.Nb
 ez6:mg "rank"=some (.ref t.Na)
 ez7:Binds K t.Nb ["field","table"] []
 Ow:bg K "turned" "turned" xy t.Nc t.Nd
 dd0:mg "turned"=some (.ref t.Nc)
 dd1:Binds K t.Nd ["table"] []
 dd2:bg K "is_nought" "is_nought" xB t.Nf t.Ng
 ez8:mg "is_nought"=some (.ref t.Nf)
 ez9:Binds K t.Ng ["column"] []
 aP6:bg K "times" "BitField.times" xC t.Nh t.Ni
 aP7:Binds K t.Ni ["self","a","b"] []
 aK8:bg K "times" "PrimeField.times" xD t.Nj t.Nk
 aK9:Binds K t.Nk ["self","a","b"] []
 dd3:bg K "past" "past" xE t.Nl t.Nm
 eA4:mg "past"=some (.ref t.Nl)
 eA5:Binds K t.Nm ["field","column","others"] []
 dd4:bg K "first_bound" "first_bound" xG t.Nn t.Np
 eA6:mg "first_bound"=some (.ref t.Nn)
 eA7:Binds K t.Np ["field","table"] []
 eA8:bg K "__init__" "CheckCode.__init__" xH t.Nq t.Nr
 dd5:Binds K t.Nr ["self","field","table"] []
 BZ:bg K "_law_times" "_law_times" xI t.Nt t.Nu
 Fv:mg "_law_times"=some (.ref t.Nt)
 Fw:Binds K t.Nu ["_law_told_here","_law_a","_law_b"] []
 aI0:bg K "_law_powers" "_law_powers" xK t.Nv t.Nw
 aV8:mg "_law_powers"=some (.ref t.Nv)
 aV9:Binds K t.Nw ["_law_told_here"] []
 Ox:bg K "_law_root_table" "_law_root_table" xM t.Nx t.Ny
 aA4:mg "_law_root_table"=some (.ref t.Nx)
 aA5:Binds K t.Ny ["_law_told_here","_law_length","_law_extra","_law_first"] []
 dd9:bg K "makes_root_code" "makes_root_code" xN t.Nz t.NA
 eB1:mg "makes_root_code"=some (.ref t.Nz)
 eB2:Binds K t.NA ["many","length","extra","first"] []
 eB3:E6 K "__init__" "RootCode.__init__" ou t.NB t.NC
 eB4:Binds K t.NC ["self","field","length","extra","first"] []
 eB5:bg K "distance" "CheckCode.distance" xO t.ND t.NF
 eB6:Binds K t.NF ["self"] []
 f87:bg K "distance" "RepeatCode.distance" BM t.Φ t.Ψ
 f88:Binds K t.Ψ ["self"] []
 f89:bg K "distance" "RootCode.distance" BN t.Ω t.c88
 f90:Binds K t.c88 ["self"] []
 de0:bg K "repeat_checks" "repeat_checks" xP t.NG t.NH
 eB7:mg "repeat_checks"=some (.ref t.NG)
 eB8:Binds K t.NH ["field","length"] []
 eB9:bg K "__init__" "RepeatCode.__init__" xQ t.NI t.NJ
 eC0:Binds K t.NJ ["self","field","length"] []
 av7:bg K "_law_repeat_table" "_law_repeat_table" xR t.NK t.NL
 aJ3:mg "_law_repeat_table"=some (.ref t.NK)
 aJ4:Binds K t.NL ["_law_told_here","_law_length"] []
 aO8:bg K "_law_code" "_law_code" xS t.NM t.NN
 a02:mg "_law_code"=some (.ref t.NM)
 a03:Binds K t.NN ["_law_script","_law_told_here"] []
 aG3:bg K "_law_message" "_law_message" xT t.NO t.NP
 aT3:mg "_law_message"=some (.ref t.NO)
 aT4:Binds K t.NP ["_law_script","_law_at","_law_size","_law_many_here"] []
 de4:bg K "refuse_length" "refuse_length" xU t.NQ t.NR
 eC7:mg "refuse_length"=some (.ref t.NQ)
 eC8:Binds K t.NR ["signs","length"] []
 de5:bg K "refuse_no_sign" "refuse_no_sign" xV t.NS t.NT
 eC9:mg "refuse_no_sign"=some (.ref t.NS)
 eD0:Binds K t.NT ["field","signs"] []
 aT5:bg K "dot" "BitField.dot" xW t.NU t.NV
 aT6:Binds K t.NV ["self","xs","ys"] []
 aP8:bg K "dot" "PrimeField.dot" xX t.NW t.NX
 aP9:Binds K t.NX ["self","xs","ys"] []
 de6:bg K "row_by" "row_by" xY t.NY t.NZ
 eD5:mg "row_by"=some (.ref t.NY)
 eD6:Binds K t.NZ ["field","row","table"] []
 eD7:bg K "written" "Code.written" xZ t.BR t.N0
 Oy:Binds K t.N0 ["self","message"] []
 eD8:bg K "rows" "Code.rows" x6 t.BS t.N1
 Fx:Binds K t.N1 ["self"] []
 eD9:bg K "places" "Code.places" x8 t.BU t.N2
 Fy:Binds K t.N2 ["self"] []
 eE0:bg K "checks" "Code.checks" x9 t.BV t.N3
 de7:Binds K t.N3 ["self"] []
 aI1:bg K "_law_spoilt" "_law_spoilt" ya t.N4 t.N5
 aW0:mg "_law_spoilt"=some (.ref t.N4)
 aW1:Binds K t.N5 ["_law_code_here","_law_message_here"] []
 Oz:bg K "_law_plus" "_law_plus" yb t.N6 t.N7
 aO9:mg "_law_plus"=some (.ref t.N6)
 aP0:Binds K t.N7 ["_law_told_here","_law_a","_law_b"] []
 aG4:bg K "_law_by_rows" "_law_by_rows" yc t.N8 t.N9
 aT7:mg "_law_by_rows"=some (.ref t.N8)
 aT8:Binds K t.N9 ["_law_told_here","_law_rows","_law_message_here","_law_length"] []
 aP1:bg K "_law_sums" "_law_sums" yd t.Oa t.Ob
 a04:mg "_law_sums"=some (.ref t.Oa)
 a05:Binds K t.Ob ["_law_told_here","_law_table","_law_word"] []
 aL0:bg K "_law_whole" "_law_whole" yf t.Oc t.Od
 aY2:mg "_law_whole"=some (.ref t.Oc)
 aY3:Binds K t.Od ["_law_x"] []
 eE9:bg K "law" "law" ow t.Oe t.Of
 f91:mg "law"=some (.ref t.Oe)
 f92:Binds K t.Of ["_law_script"] []
 aL1:t.Fh.code=.ref t.aA2
 aL2:codeHdIn K t.aA2 t.iV=true
 aQ0:t.Fj.code=.ref t.aD9
 aQ1:codeHdIn K t.aD9 t.iW=true
 fh:cB K t.aC
 B0:Mk K t.aC t.Mn
 a85:sS K t.aC
 a83:kitOne K (.ref t.aC) (.ref t.cF)=some false
 B4:aG K t.aC "bits"
 Fz:aG K t.aC "bound"
 FA:aG K t.aC "check_rows"
 FC:aG K t.aC "extra"
 FD:aG K t.aC "field"
 FE:aG K t.aC "first"
 FF:aG K t.aC "length"
 qg:aG K t.aC "logs"
 oy:aG K t.aC "many"
 FG:aG K t.aC "message_places"
 qh:aG K t.aC "powers"
 FH:aG K t.aC "prime"
 oA:aG K t.aC "products"
 FI:aG K t.aC "size"
 B5:aG K t.aC "step"
 B6:aG K t.aC "wide"
 FJ:aG K t.aC "word_rows"
 B7:Meth K t.aC "dot" t.NU
 B8:Meth K t.aC "holds" t.Fm
 B9:Meth K t.aC "lessened" t.MF
 Ca:Meth K t.aC "minus" t.MV
 Cb:Meth K t.aC "over" t.Fl
 Cc:Meth K t.aC "scaled" t.MB
 tw:Meth K t.aC "step_power" t.BQ
 Cd:Meth K t.aC "times" t.Nh
 yg:cB K t.bt
 yh:Mk K t.bt t.Nq
 eF4:sS K t.bt
 eF5:kitOne K (.ref t.bt) (.ref t.cF)=some true
 FK:aG K t.bt "bits"
 yi:aG K t.bt "bound"
 yj:aG K t.bt "check_rows"
 FL:aG K t.bt "extra"
 yk:aG K t.bt "field"
 FN:aG K t.bt "first"
 yl:aG K t.bt "length"
 FP:aG K t.bt "logs"
 FQ:aG K t.bt "many"
 ym:aG K t.bt "message_places"
 FR:aG K t.bt "powers"
 FT:aG K t.bt "prime"
 FU:aG K t.bt "products"
 yn:aG K t.bt "size"
 FV:aG K t.bt "step"
 FW:aG K t.bt "wide"
 yo:aG K t.bt "word_rows"
 yp:Meth K t.bt "checks" t.BV
 Ce:Meth K t.bt "distance" t.ND
 qi:Meth K t.bt "places" t.BU
 qj:Meth K t.bt "rows" t.BS
 tD:Meth K t.bt "written" t.BR
 fF:cB K t.aF
 Cf:Mk K t.aF t.Ma
 a84:sS K t.aF
 a78:kitOne K (.ref t.aF) (.ref t.cF)=some false
 FX:aG K t.aF "bits"
 FY:aG K t.aF "bound"
 FZ:aG K t.aF "check_rows"
 Ga:aG K t.aF "extra"
 Gb:aG K t.aF "field"
 Gd:aG K t.aF "first"
 Ge:aG K t.aF "length"
 tE:aG K t.aF "logs"
 oB:aG K t.aF "many"
 Gf:aG K t.aF "message_places"
 tF:aG K t.aF "powers"
 mT:aG K t.aF "prime"
 Gg:aG K t.aF "products"
 Gh:aG K t.aF "size"
 Cg:aG K t.aF "step"
 Ci:aG K t.aF "wide"
 Gi:aG K t.aF "word_rows"
 Cj:Meth K t.aF "dot" t.NW
 Ck:Meth K t.aF "holds" t.Fm
 Cm:Meth K t.aF "lessened" t.MH
 Cn:Meth K t.aF "minus" t.MX
 Co:Meth K t.aF "over" t.Fl
 Cp:Meth K t.aF "scaled" t.MD
 tG:Meth K t.aF "step_power" t.BQ
 Cq:Meth K t.aF "times" t.Nj
 OA:cB K t.bw
 Cr:Mk K t.bw t.NI
 eF6:sS K t.bw
 eF7:kitOne K (.ref t.bw) (.ref t.cF)=some true
 Gj:aG K t.bw "bits"
 Gk:aG K t.bw "bound"
 yq:aG K t.bw "check_rows"
 Gm:aG K t.bw "extra"
 yr:aG K t.bw "field"
 Gp:aG K t.bw "first"
 yt:aG K t.bw "length"
 Gq:aG K t.bw "logs"
 Gr:aG K t.bw "many"
 yu:aG K t.bw "message_places"
 Gu:aG K t.bw "powers"
 Gv:aG K t.bw "prime"
 Gw:aG K t.bw "products"
 yv:aG K t.bw "size"
 Gx:aG K t.bw "step"
 Gz:aG K t.bw "wide"
 yw:aG K t.bw "word_rows"
 yx:Meth K t.bw "checks" t.BV
 GA:Meth K t.bw "distance" t.Φ
 qk:Meth K t.bw "places" t.BU
 ql:Meth K t.bw "rows" t.BS
 tH:Meth K t.bw "written" t.BR
 Ct:cB K t.bh
 Cu:Mk K t.bh t.NB
 eF8:sS K t.bh
 eF9:kitOne K (.ref t.bh) (.ref t.cF)=some true
 GB:aG K t.bh "bits"
 GC:aG K t.bh "bound"
 yy:aG K t.bh "check_rows"
 Cv:aG K t.bh "extra"
 yz:aG K t.bh "field"
 Cw:aG K t.bh "first"
 yA:aG K t.bh "length"
 GD:aG K t.bh "logs"
 GF:aG K t.bh "many"
 yB:aG K t.bh "message_places"
 GG:aG K t.bh "powers"
 GH:aG K t.bh "prime"
 GI:aG K t.bh "products"
 yC:aG K t.bh "size"
 GJ:aG K t.bh "step"
 GK:aG K t.bh "wide"
 yD:aG K t.bh "word_rows"
 yE:Meth K t.bh "checks" t.BV
 GL:Meth K t.bh "distance" t.Ω
 qm:Meth K t.bh "places" t.BU
 qo:Meth K t.bh "rows" t.BS
 tI:Meth K t.bh "written" t.BR
 OB:vW K t.cF "__init__" t.M5
 aI2:vW K t.ku "__init__" t.L6
 yF:mg "all"=none
 df5:mg "any"=none
 df6:mg "bool"=none
 tJ:mg "enumerate"=none
 df7:mg "int"=none
 qp:mg "isinstance"=none
 gj:mg "len"=none
 mU:mg "list"=none
 tK:mg "min"=none
 gS:mg "range"=none
 eG0:mg "sum"=none
 qq:mg "zip"=none
 Cy:mg "BitField"=some (.ref t.aC)
 Cz:mg "ByNought"=some (.ref t.iH)
 yG:mg "CheckCode"=some (.ref t.bt)
 qt:mg "Code"=some (.ref t.cF)
 yH:mg "Field"=some (.ref t.ku)
 CA:mg "PrimeField"=some (.ref t.aF)
 CB:mg "RepeatCode"=some (.ref t.bw)
 CC:mg "RootCode"=some (.ref t.bh)
 aR6:KG K mg "ByNought" t.iH
 a86:JU K t.iH
section
variable{P:Program}{w:World}{K:Frag}{mg:Str->Option Value}{base:Heap}{t:eX}
theorem cP1(T:Txt K mg t)(m:Bool × Nat){Q:D->Prop}(q:Q (.int (ae m))):∃C ns xs v,fD t.aC t.aF m=.obj C ns xs/\cB K C/\aG K C "many"/\(ns.zip xs).lookup ("many":Str)=some v/\Q v:=by
 obtain⟨k,n⟩:=m
 cases k with
 | true=>exact⟨_,_,_,_,rfl,T.fh,T.oy,rfl,q⟩
 | false=>exact⟨_,_,_,_,rfl,T.fF,T.oB,rfl,q⟩
abbrev gn(t:eX)(m:Bool × Nat)(G:List (List Nat))(k:Kd):D:=uJ t.aC t.aF t.bt t.bw t.bh m G k
theorem yI(T:Txt K mg t)(m:Bool × Nat)(G:List (List Nat))(k:Kd){a:Str}{v:D}(n1:aG K t.bt a)(n2:aG K t.bw a)(n3:aG K t.bh a)(ha:a∈oo)(h:(oo.zip (mR t.aC t.aF false m G)).lookup a=some v){Q:D->Prop}(q:Q v):∃C ns xs v,gn t m G k=.obj C ns xs/\cB K C/\aG K C a/\(ns.zip xs).lookup a=some v/\Q v:=by
 have ha:a="field"\/a="length"\/a="check_rows"\/a="word_rows"\/a="message_places"\/a="size":=by simpa only[cz,i6,or_false]using ha
 rcases ha with rfl | rfl | rfl | rfl | rfl | rfl<;>cases k
 all_goals first | exact⟨_,_,_,v,rfl,T.yg,n1,h,q⟩ | exact⟨_,_,_,v,rfl,T.OA,n2,h,q⟩ | exact⟨_,_,_,v,rfl,T.Ct,n3,h,q⟩
theorem bV4(T:Txt K mg t)(m:Bool × Nat)(G:List (List Nat))(k:Kd){Q:D->Prop}(q:Q (fD t.aC t.aF m)):∃C ns xs v,gn t m G k=.obj C ns xs/\cB K C/\aG K C "field"/\(ns.zip xs).lookup ("field":Str)=some v/\Q v:=yI T m G k T.yk T.yr T.yz (by decide) rfl q
theorem bP6(T:Txt K mg t)(m:Bool × Nat)(G:List (List Nat))(k:Kd){Q:D->Prop}(q:Q (.int (av G:Nat))):∃C ns xs v,gn t m G k=.obj C ns xs/\cB K C/\aG K C "length"/\(ns.zip xs).lookup ("length":Str)=some v/\Q v:=yI T m G k T.yl T.yt T.yA (by decide) rfl q
theorem ch4(T:Txt K mg t)(m:Bool × Nat)(G:List (List Nat))(k:Kd){Q:D->Prop}(q:Q (.lst false (ay false G))):∃C ns xs v,gn t m G k=.obj C ns xs/\cB K C/\aG K C "check_rows"/\(ns.zip xs).lookup ("check_rows":Str)=some v/\Q v:=yI T m G k T.yj T.yq T.yy (by decide) rfl q
theorem cc4(T:Txt K mg t)(m:Bool × Nat)(G:List (List Nat))(k:Kd){Q:D->Prop}(q:Q (.lst false (ay false (gH m G)))):∃C ns xs v,gn t m G k=.obj C ns xs/\cB K C/\aG K C "word_rows"/\(ns.zip xs).lookup ("word_rows":Str)=some v/\Q v:=yI T m G k T.yo T.yw T.yD (by decide) rfl q
theorem cj8(T:Txt K mg t)(m:Bool × Nat)(G:List (List Nat))(k:Kd){Q:D->Prop}(q:Q (.lst false (ak (bV m G)))):∃C ns xs v,gn t m G k=.obj C ns xs/\cB K C/\aG K C "message_places"/\(ns.zip xs).lookup ("message_places":Str)=some v/\Q v:=yI T m G k T.ym T.yu T.yB (by decide) rfl q
theorem CD(T:Txt K mg t)(m:Bool × Nat)(G:List (List Nat))(k:Kd){Q:D->Prop}(q:Q (.int ((bV m G).length:Nat))):∃C ns xs v,gn t m G k=.obj C ns xs/\cB K C/\aG K C "size"/\(ns.zip xs).lookup ("size":Str)=some v/\Q v:=yI T m G k T.yn T.yv T.yC (by decide) rfl q
theorem jV(T:Txt K mg t){m:Bool × Nat}{G:List (List Nat)}{k:Kd}{me:Str}{n:Nat}{f:Addr}{fd:FuncData}{ps:List Str}{sp:bq}(h1:Meth K t.bt me f)(h2:Meth K t.bw me f)(h3:Meth K t.bh me f)(F:aN P w K mg base aR n f fd ps (br sp))(b:Binds K fd ps [])(nm:me ∉ (["extra","first","field","length","check_rows","word_rows","message_places","size","bound"]:List Str)){ds:List D}{Q:D->Prop}(q:sp (gn t m G k::ds) Q):∃C ns zs sp,gn t m G k=.obj C ns zs/\jO P w K mg base n me C sp/\me ∉ ns/\sp (.obj C ns zs::ds) Q:=by
 simp only[cz,i6,or_false,not_or]at nm
 cases k
 ·exact⟨_,_,_,sp,rfl,⟨T.yg,_,_,_,h1,F,b⟩,by simp[nm],q⟩
 ·exact⟨_,_,_,sp,rfl,⟨T.OA,_,_,_,h2,F,b⟩,by simp[nm],q⟩
 ·exact⟨_,_,_,sp,rfl,⟨T.Ct,_,_,_,h3,F,b⟩,by simp[nm],q⟩
abbrev aY4:bq:=λds Q=>∃c:Int,ds=[.int c]/\Q (dr (pS c))
theorem aY5(T:Txt K mg t):aN P w K mg base aR 1 t.LQ t.LR ["_law_cell_here"] (br (aY4 )):=by
 refine bD T.aO7 LM ?_ ?_
 ·intro ds Q h
  obtain⟨c,rfl,q⟩:=h<;>rfl
 ·intro aD A outer s H E hr
  refine⟨_,(aA (aZ (i:=1) LM.nd rfl (ai rfl) (X5 (ns:=[7,11,13,19,25,31,37,41,47,55,59,61,67,73,87,91,97,103,109,115,117]) (by decide +kernel)))
   (aA (aZ (i:=2) LM.nd rfl (ai rfl) (X5 (ns:=[2,3,5,7,11,13,17,19,23,29,31,37,41,43,47,53,59,61]) (by decide +kernel)))
   (aA (cT (cq (gC (cM hr)) (aa (aB dH (bv 0) (aa aj))) (aa aj) (bP _)) (aH (aX (nN (cy iO (cy (dm (bE (bv 1) (aa (aB dH (aa (aB rL (bv 0) (aa aj))) (aa aj))) (λ_ _=>rfl))) cH))))) cS)
   (aH (aX (nN (cy iO (cy (dm (bE (bv 2) (aa (aB dH (aa (aB rL (bv 0) (aa aj))) (aa aj))) (λ_ _=>rfl))) cH)))))))),λds Q h=>?_⟩
  obtain⟨c,rfl,q⟩:=h
  refine az λU hU=>?_
  nofun
  refine⟨by decide,hU _ ?_⟩
  clear hU U
  refine az λU hU=>?_
  nofun
  refine⟨by decide,hU _ ?_⟩
  clear hU U
  refine az λU hU=>?_
  nofun
  refine⟨by decide,?_⟩
  have n1:=gW (c/2) (show(21:Int)≠0 by decide)
  have n2:=ib (c/2) (show(0:Int)<21 by decide)
  have n3:=gW (c/2) (show(18:Int)≠0 by decide)
  have n4:=ib (c/2) (show(0:Int)<18 by decide)
  split
  ·rename_i hc
   refine⟨rK (by decide) (by decide),by decide,_,mI n1 (by simpa using n2),rfl,by decide,?_⟩
   have e:dr (pS c)=.tup [.bl true,.int (([7,11,13,19,25,31,37,41,47,55,59,61,67,73,87,91,97,103,109,115,117]:List Int).getD (c/2%21).toNat 0)]:=by
    unfold pS dr
    rw[if_pos hc]
    have:∀k:Nat,((gO.getD k 0:Nat):Int)=([7,11,13,19,25,31,37,41,47,55,59,61,67,73,87,91,97,103,109,115,117]:List Int).getD k 0:=λk=>by
     show _=(gO.map (λ(n:Nat)=>(n:Int))).getD k ((0:Nat):Int)
     rw[aU,aU,cu]
     cases gO[k]?<;>rfl
    rw[<-this]
   rw[<-e];exact q
  ·rename_i hc
   refine hU _ ?_
   nofun
   refine⟨rK (by decide) (by decide),by decide,_,mI n3 (by simpa using n4),rfl,by decide,?_⟩
   have e:dr (pS c)=.tup [.bl false,.int (([2,3,5,7,11,13,17,19,23,29,31,37,41,43,47,53,59,61]:List Int).getD (c/2%18).toNat 0)]:=by
    unfold pS dr
    rw[if_neg hc]
    have:∀k:Nat,((n8.getD k 0:Nat):Int)=([2,3,5,7,11,13,17,19,23,29,31,37,41,43,47,53,59,61]:List Int).getD k 0:=λk=>by
     show _=(n8.map (λ(n:Nat)=>(n:Int))).getD k ((0:Nat):Int)
     rw[aU,aU,cu]
     cases n8[k]?<;>rfl
    rw[<-this]
   rw[<-e];exact q
abbrev aY6:bq:=λds Q=>∃m:Bool × Nat,ds=[dr m]/\bl m.2<=1000/\1<=bl m.2/\Q (.int (ae m:Nat))
theorem GN(T:Txt K mg t):aN P w K mg base aR 1 t.LS t.LU ["_law_told_here"] (br (aY6 )):=by
 refine bD T.BW aX3 ?_ ?_
 ·intro ds Q h
  obtain⟨m,rfl,h1,h2,q⟩:=h<;>rfl
 ·intro aD A outer s H E hr
  refine⟨_,(aA (cT (hE (bE (bv 0) (aa aj) (λ_ _=>rfl))) (aH (aX (aB vi (aa aj) (aa (aB dG (aa (nV (bE (bv 0) (aa aj) (λ_ _=>rfl)))) (aa aj)))))) cS)
   (aH (aX (dm (bE (bv 0) (aa aj) (λ_ _=>rfl)))))),λds Q h=>?_⟩
  obtain⟨m,rfl,h1,h2,q⟩:=h
  unfold dr at *
  refine az λU hU=>?_
  nofun
  obtain⟨b,n⟩:=m
  cases b with
  | true =>
   refine⟨_,rfl,true,rfl,?_⟩
   rw[if_pos rfl]
   refine⟨_,rfl,?_⟩
   have o1:bl (1:Int).natAbs=1:=by decide
   have e:(1:Int)*2 ^ (((bl ((n:Int)).natAbs:Nat):Int)-1).toNat=((ae (true,n):Nat):Int):=by
    have jF:1<=bl n:=h2
    rw[i8,show(((bl n:Nat):Int)-1)=((bl n-1:Nat):Int) by omega,show(1:Int)=((1:Nat):Int) from rfl,uG,IZ];rfl
   refine⟨?_,by rw[e];exact q⟩
   rw[i8]
   have ka:bl n<=1000:=h1
   have jF:1<=bl n:=h2
   exact⟨by omega,by omega⟩
  | false =>
   refine⟨_,rfl,false,rfl,?_⟩
   rw[if_neg (by decide)]
   refine hU _ ?_
   nofun
   exact⟨_,rfl,rfl,q⟩
abbrev aY7(L:Obj->Obj->Addr->Addr->vU->Prop):bq:=λds Q=>∃(a:Nat) (of oc:Obj) (c k:Addr) (g:Nat->Nat->Nat) (l:List Int),ds=[.int a,.bI (.lam of oc c k)]/\L of oc c k (Bt g)/\a<64/\K7 g a=some l/\Q (.lst true (aJ l))
theorem aL3(T:Txt K mg t):aN P w K mg base aR 5 t.LV t.LW ["a","product"] (br (aY7 (Bh P w K mg base 4))):=by
 refine bD T.Og E9 ?_ ?_
 ·intro ds Q h
  obtain⟨a,of,oc,c,k,g,l,rfl,hL,ha,hp,q⟩:=h<;>rfl
 ·intro aD A outer s H E hr
  refine⟨_,(aA (aZ (i:=2) E9.nd rfl (ai rfl) (dS (cy aj cH)))
   (aA (aZ (i:=3) E9.nd rfl (ai rfl) (Yu (n:=4) (i:=1) rfl (by first | exact ai rfl | exact aW (ai rfl)) (hr.mono (by decide)) (ag (aa aj) (ag (bv 0) ax))))
   (aA (u3 eR (cq (gM (cM hr)) (bv 3) (aa aj) (bP _))
    (aA (kQ (i:=2) rfl (by first | exact ai rfl | exact aW (ai rfl)) (dm (bv 3)))
    (aH (aZ (i:=3) E9.nd rfl (ai rfl) (Yu (n:=4) (i:=1) rfl (by first | exact ai rfl | exact aW (ai rfl)) (hr.mono (by decide)) (ag (bv 3) (ag (bv 0) ax)))))))
   (aH (aX (em 2)))))),λds Q h=>?_⟩
  obtain⟨a,of,oc,c,k,g,l,rfl,hL,ha,hp,q⟩:=h
  refine az λU hU=>?_
  nofun
  refine⟨by decide,hU _ ?_⟩
  clear hU U
  refine az λU hU=>?_
  nofun
  refine⟨of,oc,c,k,Bt g,rfl,hL,1,a,⟨rfl,rfl⟩,1,a,rfl,rfl,by decide,ha,hU _ ?_⟩
  clear hU U
  refine az λU hU=>?_
  nofun
  refine⟨λm δ=>∃(p:Nat) (acc:List Int),δ=[some (.int a),some (.bI (.lam of oc c k)),some (.lst true (aJ acc)),some (.int p)]/\acc.length+m<=70/\Ez g a m p acc=some l,⟨64,_,[1],rfl,by decide,hp⟩,?_⟩
  rintro m δ ⟨p,acc,rfl,hn,hg⟩
  nofun
  cases m with
  | zero=>cases hg
  | succ m =>
   unfold Ez at hg
   split at hg
   ·rename_i h1
    subst h1
    cases hg
    rw[if_neg (by simp)]
    refine hU _ ?_
    nofun
    exact q
   ·rename_i h1
    rw[if_pos (by simp;omega)]
    split at hg
    ·rename_i h2
     clear hU
     refine az λU hU=>?_
     nofun
     refine⟨⟨_,rfl⟩,by omega,hU _ ?_⟩
     clear hU
     nofun
     exact⟨of,oc,c,k,Bt g,rfl,hL,p,a,⟨rfl,rfl⟩,p,a,rfl,rfl,h2,ha,m,by omega,g p a,acc++[(p:Int)],⟨by rw[<-sr];rfl,rfl⟩,by simp;omega,hg⟩
    ·cases hg
abbrev aT9(L:Obj->Obj->Addr->Addr->vU->Prop):bq:=λds Q=>∃(n:Nat) (of oc:Obj) (c k:Addr) (g:Nat->Nat->Nat) (l:List Int),ds=[.int n,.bI (.lam of oc c k)]/\L of oc c k (Bt g)/\Br g n=some l/\Q (.lst true (aJ l))
theorem aU0(T:Txt K mg t):aN P w K mg base aR 6 t.LX t.LY ["many","product"] (br (aT9 (Bh P w K mg base 4))):=by
 refine bD T.c94 BK ?_ ?_
 ·intro ds Q h
  obtain⟨n,of,oc,c,k,g,l,rfl,hL,hp,q⟩:=h<;>rfl
 ·intro aD A outer s H E hr
  refine⟨_,(aA (aZ (i:=2) BK.nd rfl (ai rfl) aj)
   (aA (aZ (i:=3) BK.nd rfl (ai rfl) (bB ((aL3 T).mono (by decide)) hr rfl T.c92 T.Og.kp T.c93 aV (ag (bv 2) (ag (bv 1) ax))))
   (aA (u3 eR (cq rO (aa (cY (gE) (by rfl) T.gj fY (ag (bv 3) ax))) (aa (aB dG (bv 0) (aa aj))) (bP _))
    (aA (Ai (i:=2) BK.nd rfl (ai rfl) (aa aj) cK6)
    (aH (aZ (i:=3) BK.nd rfl (ai rfl) (bB ((aL3 T).mono (by decide)) hr rfl T.c92 T.Og.kp T.c93 aV (ag (bv 2) (ag (bv 1) ax)))))))
   (aH (aX (em 3)))))),λds Q h=>?_⟩
  obtain⟨n,of,oc,c,k,g,l,rfl,hL,hp,q⟩:=h
  unfold Br at hp
  split at hp
  ·rename_i l0 h0
   refine az λU hU=>?_
   nofun
   refine hU _ ?_
   clear hU U
   refine az λU hU=>?_
   nofun
   refine⟨1,of,oc,c,k,g,l0,rfl,hL,by decide,h0,hU _ ?_⟩
   clear hU U
   refine az λU hU=>?_
   nofun
   refine⟨λm δ=>∃(st:Nat) (l1:List Int),δ=[some (.int n),some (.bI (.lam of oc c k)),some (.int st),some (.lst true (aJ l1))]/\st+m<=63/\EA g n m st l1=some l,⟨62,1,l0,rfl,by decide,hp⟩,?_⟩
   rintro m δ ⟨st,l1,rfl,hn,hg⟩
   nofun
   cases m with
   | zero=>cases hg
   | succ m =>
    unfold EA at hg
    split at hg
    ·rename_i h1
     rw[if_pos (by omega)]
     split at hg
     ·rename_i l2 h2
      clear hU
      refine az λU hU=>?_
      nofun
      refine hU _ ?_
      clear hU
      nofun
      exact⟨st+1,of,oc,c,k,g,l2,rfl,hL,by omega,h2,m,by omega,st+1,l2,⟨rfl,rfl⟩,by omega,hg⟩
     ·cases hg
    ·rename_i h1
     rw[if_neg (by omega)]
     cases hg
     refine hU _ ?_
     nofun
     exact q
  ·cases hp
abbrev a08:bq:=λds Q=>∃(l:List Int),ds=[.lst false (aJ l)]/\l.length<=64/\(∀x∈l,0<=x/\x.toNat<=l.length)/\Q (.lst true (aJ (eO l)))
theorem a09(T:Txt K mg t):aN P w K mg base aR 1 t.LZ t.L4 ["powers"] (br (a08 )):=by
 refine bD T.c95 LN ?_ ?_
 ·intro ds Q h
  obtain⟨l,rfl,hl,hx,q⟩:=h<;>rfl
 ·intro aD A outer s H E hr
  refine⟨_,(aA (aZ (i:=1) LN.nd rfl (ai rfl) (aB fA (aa (dS (cy aj cH))) (aa (aB cU (aa (cY (gE) (by rfl) T.gj fY (ag (bv 0) ax))) (aa aj)))))
   (aA (gg eR rfl (sC rfl T.tJ (ag (bv 0) ax)) (iC (i1:=2) (i2:=3) rfl LN.nd rfl (ai rfl) rfl (ai rfl))
    (aH (sk (i:=1) rfl (by first | exact ai rfl | exact aW (ai rfl)) (dm (bv 2)) (bv 3))))
   (aH (aX (em 1))))),λds Q h=>?_⟩
  obtain⟨l,rfl,hl,hx,q⟩:=h
  refine az λU hU=>?_
  nofun
  refine⟨by decide,⟨by omega,by omega,by omega⟩,hU _ ?_⟩
  clear hU U
  refine az λU hU=>?_
  nofun
  refine gb.mk (λi δ=>∃o1 o2,δ=[some (.lst false (aJ l)),some (.lst true (aJ (og l i))),o1,o2]) ⟨none,none,?_⟩ ?_ ?_
  ·rw[show((l.length:Int)+1).toNat=l.length+1 by omega];rfl
  ·rintro i d δ hd ⟨o1,o2,rfl⟩
   obtain⟨hi,rfl⟩:∃h:i<l.length,d=.tup [.int i,.int l[i]]:=by
    unfold fP aJ at hd
    rw[Dk,cu]at hd
    by_cases hi:i<l.length
    ·rw[aP hi]at hd
     simp at hd
     exact⟨hi,hd.symm⟩
    ·rw[gr (by omega)]at hd;simp at hd
   have cC:=hx l[i] (dE _)
   nofun
   refine⟨_,(l[i]).toNat,rfl,?_,_,_,?_,rfl,rfl⟩
   ·unfold g9
    rw[kS,Bu,if_pos cC.1,if_pos (by omega)]
   ·unfold aJ
    rw[<-zw]
    congr 1
    show _=(og l i).set (l.getD i 0).toNat (i:Int)
    rw[aU,aP hi];rfl
  ·rintro δ ⟨o1,o2,rfl⟩
   refine hU _ ?_
   simp only[uV,rG,uW,uX,uY,dT,nM,ph,pj,dC,nL,rE,rC,rB,rD,uU,pF,vB,si,vD,vE,uP,uQ,uR,uS,uT,rA,vy,rV,rW,ii,rJ,vd,rM,ve,vg,vh,vj,vk,vm,iI,iA,vn,vo,vp,vq,rP,pB,vw,vx,gN,vF,vA,uZ,u5,u6,u7,u9,va,vG,vH,pq,mC,gA,jK,jn,qE,t7,zy,Ds,rF,kM,ke,rZ,se,nX,vL,vM,vN,A6,vQ,sD,vO,jM,Bb,A8,Ba,dv,jX,nk,ub,jz,Dt,bo,oN,oO,jA,jB,zA,exists_eq_left',exists_eq_left,D.bl.injEq,D.int.injEq,D.lst.injEq,D.fz.injEq,D.str.injEq,D.tup.injEq,Du,and_true,true_and,dy,ui,nj,lQ,As,Au,Av,Aw,Az,AA,fZ,kK,pG,AG,AH,AI,AJ,AK,dQ,mx,AB,AD,AE,AF,fL,rn,Dv,Dw,tU,lR,Dx,Dy,zd,AN,AO,AQ,AR,AS,AU,AV,kS,nW,sq,kj,sr,AL,vK,vI,su,AM,jL,vJ,if_true,uf,if_false,reduceIte,AW,decide_eq_true_eq,eo,kT,sE,Bf,nY,Be,u0,vV,sR,v9,vP,sH,sI,sJ,vX,we,BH,wo,s9,eA,pX,kn,BC,sX,wA,wB,sA]
   exact q
abbrev CF(K:Frag):bq:=λds Q=>∃(C:Addr) (ns:List Str) (xs:List D) (n:Int) (many:Nat) (l:List Int) (r:Int),ds=[.obj C ns xs,.int n]/\cB K C/\aG K C "powers"/\aG K C "many"/\(ns.zip xs).lookup ("powers":Str)=some (.lst false (aJ l))/\(ns.zip xs).lookup ("many":Str)=some (.int many)/\2<=many/\l[(n%((many:Int)-1)).toNat]?=some r/\Q (.int r)
theorem CG(T:Txt K mg t):aN P w K mg base aR 1 t.BQ t.L5 ["self","n"] (br (CF K)):=by
 refine bD T.aK2 aI6 ?_ ?_
 ·intro ds Q h
  obtain⟨C,ns,xs,n,many,l,r,rfl,hC,h1,h2,h3,h4,h5,h6,q⟩:=h<;>rfl
 ·intro aD A outer s H E hr
  refine⟨_,(aH (aX (dm (bE (dW (K:=K) (bv 0)) (aa (aB dH (bv 1) (aa (aB dG (dW (K:=K) (bv 0)) (aa aj))))) (λ_ _=>rfl))))),λds Q h=>?_⟩
  obtain⟨C,ns,xs,n,many,l,r,rfl,hC,h1,h2,h3,h4,h5,h6,q⟩:=h
  nofun
  refine⟨C,ns,xs,_,rfl,hC,h1,h3,C,ns,xs,_,rfl,hC,h2,h4,?_⟩
  refine⟨by omega,_,nB (d:=.int r) (gW _ (by omega)) ?_,rfl,q⟩
  unfold aJ
  rw[cu,h6];rfl
theorem bM1(T:Txt K mg t){m:Bool × Nat}(hm:m∈aI){n:Int}{Q:D->Prop}(q:Q (.int (eS m n:Nat))):Za P w K mg base 1 t.aC t.aF m "step_power" [.int n] Q:=by
 have hF:=dn hm
 have hl:=Zi hm n
 obtain⟨k,b⟩:=m
 cases k with
 | true=>exact⟨_,_,_,CF K,rfl,⟨T.fh,_,_,_,T.tw,CG T,T.BX⟩,by decide,_,_,_,_,ae (true,b),fl (true,b),_,rfl,T.fh,T.qh,T.oy,rfl,rfl,hF.lo,hl,q⟩
 | false=>exact⟨_,_,_,CF K,rfl,⟨T.fF,_,_,_,T.tG,CG T,T.BX⟩,by decide,_,_,_,_,ae (false,b),fl (false,b),_,rfl,T.fF,T.tF,T.oB,rfl,rfl,hF.lo,hl,q⟩
abbrev aW2(P:Program)(w:World)(K:Frag)(mg:Str->Option Value)(base:Heap)(fs:Addr):Sp:=λvs H Q _=>∃(x dx f C:Addr) (b:Str) (n0:Int) (many:Nat) (of oc:Obj) (c k:Addr) (g:Nat->Nat->Nat) (l:List Int) (st:Int),
 vs=[.ref x,.int many,.ref f]/\H x=some (.ins C dx [(b,.int n0)])/\(∀n∈(["many","wide","powers","logs","step","step_power"]:List Str),b≠n)/\ef6 K C fs/\kb H f of oc c k/\Bh P w K mg base 4 of oc c k (Bt g)/\YN g many l st /\
 ∀H' p1 p2,bO x H H'->H' x=some (.ins C dx ((iE b).zip (EB n0 many p1 p2 st)))->LI H' p1 l->LI H' p2 (eO l)->p1≠p2->H p1=none->H p2=none->Q .aw H'
theorem aI3(T:Txt K mg t):aN P w K mg base aR 7 t.L6 t.L7 ["self","many","product"] (aW2 P w K mg base t.BQ):=by
 refine T.aX8.ok aV2 (λvs H Q E h=>?_) λaD A outer s H vs Q E hr h=>?_
 ·obtain⟨x,dx,f,C,b,n0,many,of,oc,c,k,g,l,st,rfl,_⟩:=h;rfl
 obtain⟨x,dx,f,C,b,n0,many,of,oc,c,k,g,l,st,rfl,hx,hb,hC,eH4,hL,hF,q⟩:=h
 refine⟨_,eV (gZ (pv 0) (pv 1) rfl) (eV (gZ (pv 0) (zP Jt (JP (pv 1)) oU) rfl)
  (eV (gZ (pv 0) (jg ((aU0 T).mono (by decide)) hr rfl T.ev1 T.c94.kp T.ev2 .nil aV (bX (pv 1) (bX (pv 2) e7))) rfl)
  (eV (gZ (pv 0) (jg ((a09 T).mono (by decide)) hr rfl T.ev3 T.c95.kp T.ev4 .nil aV (bX (qX (pv 0) rfl) e7)) rfl)
  (jc (gZ (pv 0) (cD5 (pv 0) hC.cls hC.sp ((CG T).mono (by decide)) hr T.BX .nil aV (bX oU e7)) rfl))))),?_⟩
 have nb:∀n∈(["many","wide","powers","logs","step","step_power"]:List Str),b≠n:=hb
 refine⟨.int many,rfl,.ref x,rfl,x,C,dx,_,rfl,hx,hC.cls,hC.many,m8 (bK 1) (by decide),?_⟩
 rw[vZ (by simpa using nb "many" (by simp))]
 generalize e1:upd H x (HO.ins C dx ([(b,V.int n0)]++[(("many":Str),V.int many)]))=H1
 have cC:H1 x=some (.ins C dx [(b,V.int n0),(("many":Str),V.int many)]):=by rw[<-e1,bM];rfl
 have s1:bO x H H1:=by rw[<-e1];exact bO.upd (C:=C) (dx:=dx) hx rfl
 have l1:kb H1 f of oc c k:=by rw[<-e1];exact eH4.sM hx
 have n1:∀p,H1 p=none->H p=none:=λp h=>Bv hx (by rw[e1];exact h)
 refine⟨_,rfl,rfl,_,rfl,rfl,_,_,rfl,rfl,.ref x,rfl,x,C,dx,_,rfl,cC,hC.cls,hC.wide,m8 (bK 2) (by decide),?_⟩
 rw[vZ (by simp;exact⟨nb "wide" (by simp),by decide⟩),i8]
 generalize e2:upd H1 x (HO.ins C dx ([(b,V.int n0),(("many":Str),V.int many)]++[(("wide":Str),V.int ((bl many:Nat)-1))]))=H2
 have dZ:H2 x=some (.ins C dx [(b,V.int n0),(("many":Str),V.int many),(("wide":Str),V.int ((bl many:Nat)-1))]):=by rw[<-e2,bM];rfl
 have s2:bO x H H2:=by rw[<-e2];exact s1.trans (bO.upd (C:=C) (dx:=dx) cC rfl)
 have l2:kb H2 f of oc c k:=by rw[<-e2];exact l1.sM cC
 have n2:∀p,H2 p=none->H p=none:=λp h=>n1 p (Bv cC (by rw[e2];exact h))
 refine⟨_,rfl,_,rfl,H2,[.int many,.bI (.lam of oc c k)],λd=>d=.lst true (aJ l),af.refl _,.int (.bI l2 .nil),⟨many,of,oc,c,k,g,l,rfl,hL,hF.step,rfl⟩,λd v F' H3 A' hd hs hf he h3 r nd fr=>?_⟩
 subst hd
 obtain⟨p1,rfl,hp1,CH⟩:=YM r fr
 have fi:=hs.get _ _ dZ
 have s3:=s2.trans (hs.x (x:=x))
 refine⟨.ref x,rfl,x,C,dx,_,rfl,fi,hC.cls,hC.K8,m8 (bK 3) (by decide),?_⟩
 rw[vZ (by simp;exact⟨nb "powers" (by simp),by decide,by decide⟩)]
 generalize e4:upd H3 x (HO.ins C dx ([(b,V.int n0),(("many":Str),V.int many),(("wide":Str),V.int ((bl many:Nat)-1))]++[(("powers":Str),V.ref p1)]))=H4
 have jx:H4 x=some (.ins C dx [(b,V.int n0),(("many":Str),V.int many),(("wide":Str),V.int ((bl many:Nat)-1)),(("powers":Str),V.ref p1)]):=by rw[<-e4,bM];rfl
 have s4:bO x H H4:=by rw[<-e4];exact s3.trans (bO.upd (C:=C) (dx:=dx) fi rfl)
 have p4:LI H4 p1 l:=by rw[<-e4];exact hp1.upd fi (λws z=>by cases z)
 have n4:∀p,H4 p=none->H p=none:=λp h=>n2 p (hs.free (Bv fi (by rw[e4];exact h)))
 refine⟨.ref x,rfl,x,C,dx,_,.ref p1,rfl,jx,hC.cls,hC.K8,by rw[EC (nb "powers" (by simp))];rfl,H4,[.lst false (aJ l)],λd=>d=.lst true (aJ (eO l)),af.refl _,.shr p4 (kR l) .nil,⟨l,rfl,by have:=hF.len;have:=hF.hi;omega,hF.ins,rfl⟩,λd v F' H5 A' hd kz hf he h3 r nd fr=>?_⟩
 subst hd
 obtain⟨p2,rfl,hp2,tL⟩:=YM r fr
 have iX:=kz.get _ _ jx
 have s5:=s4.trans (kz.x (x:=x))
 have eH6:p1≠p2:=λz=>by rw[<-z]at tL;unfold LI at p4;rw[tL]at p4;cases p4
 refine⟨.ref x,rfl,x,C,dx,_,rfl,iX,hC.cls,hC.ef7,m8 (bK 4) (by decide),?_⟩
 rw[vZ (by simp;exact⟨nb "logs" (by simp),by decide,by decide,by decide⟩)]
 generalize e6:upd H5 x (HO.ins C dx ([(b,V.int n0),(("many":Str),V.int many),(("wide":Str),V.int ((bl many:Nat)-1)),(("powers":Str),V.ref p1)]++[(("logs":Str),V.ref p2)]))=H6
 have qu:H6 x=some (.ins C dx (([b,"many","wide","powers","logs"]:List Str).zip [V.int n0,V.int many,V.int ((bl many:Nat)-1),V.ref p1,V.ref p2])):=by rw[<-e6,bM];rfl
 have s6:bO x H H6:=by rw[<-e6];exact s5.trans (bO.upd (C:=C) (dx:=dx) iX rfl)
 have p6:LI H6 p1 l:=by rw[<-e6];exact(p4.same kz).upd iX (λws z=>by cases z)
 have q6:LI H6 p2 (eO l):=by rw[<-e6];exact hp2.upd iX (λws z=>by cases z)
 refine⟨.ref x,rfl,x,dx,_,rfl,qu,by show lJ ("step_power":Str) ((b,V.int n0)::_)=none;rw[EC (nb "step_power" (by simp))];rfl,H6,[.obj C [b,"many","wide","powers","logs"] [.int n0,.int many,.int ((bl many:Nat)-1),.lst false (aJ l),.lst false (aJ (eO l))],.int 1],λd=>d=.int st,af.refl _,
  .obj qu rfl (.int (.int (.int (.shr p6 (kR l) (.shr q6 (kR _) .nil))))) (.int .nil),⟨C,_,_,1,many,l,st,rfl,hC.cls,hC.K8,hC.many,by show lJ ("powers":Str) ((b,D.int n0)::_)=_;rw[EC (nb "powers" (by simp))];rfl,by show lJ ("many":Str) ((b,D.int n0)::_)=_;rw[EC (nb "many" (by simp))];rfl,hF.lo,hF.st,rfl⟩,λd v F' H7 A' hd oE hf he h3 r nd fr=>?_⟩
 subst hd
 cases r
 have mV:=oE.get _ _ qu
 refine⟨.ref x,rfl,x,C,dx,_,rfl,mV,hC.cls,hC.step,m8 (bK 5) (by decide),?_⟩
 rw[vZ (by simp;exact⟨nb "step" (by simp),by decide,by decide,by decide,by decide⟩)]
 refine q _ p1 p2 ((s6.trans (oE.x (x:=x))).trans (bO.upd (C:=C) (dx:=dx) mV rfl)) (by rw[bM];rfl) ((p6.same oE).upd mV (λws z=>by cases z)) ((q6.same oE).upd mV (λws z=>by cases z)) eH6 (n2 p1 CH) (n4 p2 tL)
abbrev aH1:bq:=λds Q=>∃a:Int,ds=[.int a]/\Q (.bl (decide (2<=a)&&decide (a<=61)&&(aM (a.toNat-2)).all λi=>a%(2+(i:Int)) != 0))
theorem aH2(T:Txt K mg t):aN P w K mg base aR 1 t.L8 t.L9 ["prime"] (br (aH1 )):=by
 refine bD T.c97 aH0 ?_ ?_
 ·intro ds Q h
  obtain⟨a,rfl,q⟩:=h<;>rfl
 ·intro aD A outer s H E hr
  refine⟨_,(aH (aX (pk (aa (rS kg kg (aa aj) (bv 0) (aa aj))) (uv (cY (vz rfl) (by rfl) T.yF uI (ag (aa (dX [("prime",0)] ["d"] rfl (Ak rfl T.gS (ag (aa aj) (ag (bv 0) ax))) (λ_ _ _ _=>(cI (i:=1) (show(["prime","d"]:List Str).Nodup by decide +kernel) rfl (ai (lr1 rfl)) (by decide) (aW (lr1 rfl)))) (λ_ _ _ _=>dB) (λ_ _ _ _=>(uO (gM (cM hr)) (aa (aB dH (bv 0) (bv 1))) (aa aj) (bP _))) rfl ⟨rfl,trivial⟩ (λ_=>by repeat' (first | exact trivial | refine⟨.inl rfl,?_⟩ | refine⟨.inr (.inl rfl),?_⟩ | refine⟨.inr (.inr ⟨_,rfl⟩),?_⟩)) (λ_=>⟨⟨rfl,.inl rfl,.inl rfl,_,rfl,rfl⟩,trivial⟩) rfl (by decide +kernel))) ax)))))),λds Q h=>?_⟩
  obtain⟨a,rfl,q⟩:=h
  nofun
  split
  ·rename_i h1
   split
   ·rename_i h2
    refine⟨2,a,⟨rfl,rfl⟩,⟨by decide,by decide,by omega,by omega⟩,?_⟩
    have e0:(a-2).toNat=a.toNat-2:=by omega
    rw[e0]
    refine eN (aM (a.toNat-2)) (λ(k:Nat)=>D.int (2+(k:Int))) (λ(k:Nat)=>D.bl (a%(2+(k:Int)) != 0)) (by rw[Aj]) (λx y h=>by injection h with h;omega) (λk hk=>?_) (.inr λ_ _=>rfl) (by rw[cm,sL];omega) ?_
    ·nofun
     refine⟨by omega,?_⟩
     by_cases z:a%(2+(k:Int))=0<;>simp[z]
    ·refine⟨(aM (a.toNat-2)).map λ(k:Nat)=>a%(2+(k:Int)) != 0,?_,?_⟩
     ·unfold mF;rw[cA];rfl
     ·have e:(decide (2<=a)&&decide (a<=61)&&(aM (a.toNat-2)).all λi=>a%(2+(i:Int)) != 0)=((aM (a.toNat-2)).map λ(k:Nat)=>a%(2+(k:Int)) != 0).all id:=by
       simp[h1,h2,ni]
      rw[<-e];exact q
   ·rename_i h2
    have e:(decide (2<=a)&&decide (a<=61)&&(aM (a.toNat-2)).all λi=>a%(2+(i:Int)) != 0)=false:=by simp[h2]
    rw[e]at q;exact q
  ·rename_i h1
   have e:(decide (2<=a)&&decide (a<=61)&&(aM (a.toNat-2)).all λi=>a%(2+(i:Int)) != 0)=false:=by simp[h1]
   rw[e]at q;exact q
abbrev aU1:List D->List Str->List D->Prop:=λds ns xs=>∃p:Nat,ds=[.int p]/\p∈n8/\ns=iE "prime"/\xs=[.int p,.int p,.int ((bl p:Nat)-1),.lst true (aJ (fl (false,p))),.lst true (aJ (eO (fl (false,p)))),.int (fst (false,p))]
theorem aL4(T:Txt K mg t)(hB:Bm mg base):aN P w K mg base aR 8 t.Ma t.Fh ["self","prime"] (K6 [t.iV,t.iW] t.aF aU1):=by
 refine YK T.aN4 T.aL1 aJ7 (λvs H Q E h=>?_) λA outer s H vs Q E hr h=>?_
 ·obtain⟨x,dx,bU,ds,ns,xs,rfl,_,_,r,⟨p,rfl,_⟩,_⟩:=h
  have:=r.length
  simp at this
  simp[this]
 obtain⟨x,dx,bU,ds,ns,xs,rfl,tb,hx,r,⟨p,rfl,hp,rfl,rfl⟩,q⟩:=h
 obtain rfl:bU=[.int p]:=by
  cases r with
  | int r=>cases r;rfl
 have hm:(false,p)∈aI:=df _ (IS hp)
 have hF:=dn hm
 refine⟨_,eV (qQ (DG (DF (jg ((aH2 T).mono (by decide)) hr rfl T.ev7 T.c97.kp T.ev8 .nil aV (bX (pv 1) e7)))) (jc qR) qO)
  (eV (gZ (pv 0) (pv 1) rfl)
  (jc (qP (YD (E:=E0) (i:=1) T.aI2 ((aI3 T).mono (by decide)) hr T.aK3 rfl T.yH rfl rfl rfl rfl (bX (pv 0) (bX (pv 1) (bX (Yv rfl rfl T.aL2 hB) e7))))))),?_⟩
 refine⟨_,rfl,H,[.int p],λd=>d=.bl true,af.refl _,.int .nil,⟨p,rfl,by rw[cm4 p hp]⟩,λd v F' H1 A1 hd eQ hf he h3 r nd fr=>?_⟩
 subst hd
 cases r
 refine⟨true,rfl,?_⟩
 refine jh ?_
 have cC:=eQ.get _ _ hx
 refine⟨.int p,rfl,.ref x,rfl,x,t.aF,dx,_,rfl,cC,T.fF,T.mT,by decide,?_⟩
 generalize e2:upd H1 x (HO.ins t.aF dx (bF "prime" (.int p) []))=H2
 have dZ:H2 x=some (.ins t.aF dx [(("prime":Str),.int p)]):=by rw[<-e2,bM];rfl
 have s2:bO x H H2:=by rw[<-e2];exact(eQ.x (x:=x)).trans (bO.upd (C:=x) (dx:=dx) cC rfl)
 have n2:∀p,H2 p=none->H p=none:=λp h=>eQ.free (Bv cC (by rw[e2];exact h))
 obtain⟨ps,hP⟩:=tb t.iV (by simp)
 obtain⟨more,OC⟩:=s2.tb _ ps hP
 refine⟨.ref x,rfl,.int p,rfl,⟨_,OC⟩,λf k qn pm js H3 nf CI hk kf ia hl3=>?_⟩
 refine⟨f,_,_,.int p,CI,rfl,rfl,λoc u i9 hu nc pM=>?_⟩
 obtain⟨tm,rfl⟩:∃tm,u=oG p tm:=hu
 have fi:=ia.get _ _ dZ
 refine⟨x,dx,f,t.aF,"prime",p,p,_,oc,_,k,gm (false,p),fl (false,p),fst (false,p),rfl,Bw fi (λz=>by rw[z,nf]at dZ;cases dZ) nc,by decide,⟨T.fF,T.oB,T.Ci,T.tF,T.tE,T.Cg,T.tG⟩,YQ pM nc hk kf,?_,hF,λH' p1 p2 sx de OD DW ne CH tL=>?_⟩
 ·refine YI (n:=3) ⟨rfl,rfl,rfl,by decide,rfl,rfl,by decide,by decide,rfl⟩ i9 (λu1 u2=>rfl) λq f A outer s H E hr=>?_
  refine⟨_,aB dH (aa (aB fA (bv 0) (bv 1))) (bv 2),λi j Qd h=>?_⟩
  obtain⟨a,b,rfl,rfl,ha,hb,hq⟩:=h
  nofun
  have hp0:2<=p:=hF.lo
  refine⟨ig.ok (.inr ⟨by omega,by omega⟩),by omega,?_⟩
  have e:((gm (false,p) a b:Nat):Int)=(a:Int)*b%p:=by
   show((a*b%p:Nat):Int)=_
   rw[oM,um]
  rw[<-e];exact hq
 ·have gf:H' f=some (.ext (jG _ oc _ f)):=sx.get f _ (λz=>by rw[z]at nf;rw[nf]at dZ;cases dZ) (by rw[bf pM.symm,bM]) rfl
  have gc:=sx.get _ _ (eU fi nc).symm bM rfl
  refine⟨gf,gc,?_⟩
  refine q _ (EB p p p1 p2 (fst (false,p))) [p1,p2] (s2.trans (YO ia nf nc sx)) ?_ rfl ?_ (by simp[ne]) (λa ha=>?_)
  ·rw[iD (λz=>by rw[z,gf]at de;cases de) (λz=>by rw[z,gc]at de;cases de)];exact de
  ·exact .int (.int (.int (.own (OD.rem gf gc) rfl (kR _) (.own (DW.rem gf gc) rfl (kR _) (.int .nil)))))
  ·simp at ha
   rcases ha with rfl | rfl
   ·exact n2 _ (ED ia CH)
   ·exact n2 _ (ED ia tL)
abbrev aR7:bq:=λds Q=>∃(l g:List Int),ds=[.lst false (aJ l),.lst false (aJ g)]/\1<=l.length/\l.length<=63/\g.length=l.length+1/\(∀x∈g,0<=x)/\Q (.lst true (pQ l g))
theorem aR8(T:Txt K mg t):aN P w K mg base aR 1 t.Mb t.Mc ["powers","logs"] (br (aR7 )):=by
 refine bD T.c98 Fc ?_ ?_
 ·intro ds Q h
  obtain⟨l,g,rfl,h1,h2,h3,h4,q⟩:=h<;>rfl
 ·intro aD A outer s H E hr
  refine⟨_,(aA (aZ (i:=2) Fc.nd rfl (aW rfl) (aB cU (aa (cY (gE) (by rfl) T.gj fY (ag (bv 0) ax))) (aa aj)))
   (aA (aZ (i:=3) Fc.nd rfl (ai rfl) (dS (cy (aB fA (aa (dS (cy aj cH))) (bv 2)) cH)))
   (aA (gg eR rfl (Ak rfl T.gS (ag (aa aj) (ag (bv 2) ax))) (cI (i:=4) Fc.nd rfl (aW rfl))
    (aH (kQ (i:=3) rfl (by first | exact ai rfl | exact aW (ai rfl)) (aB cU (aa (dS (cy aj cH))) (aa (dX [("powers",0),("many",2),("logs",1),("a",4)] ["b"] rfl (Ak rfl T.gS (ag (aa aj) (ag (bv 2) ax))) (λ_ _ _ _=>(cI (i:=4) (show(["powers","many","logs","a","b"]:List Str).Nodup by decide +kernel) rfl (ai (lr1 rfl)) (by decide) (aW (lr1 rfl)))) (λ_ _ _ _=>dB) (λ_ _ _ _=>(dm (bE (bv 0) (aa (aB dH (aa (aB cU (bE (bv 2) (bv 3) (λ_ _=>rfl)) (bE (bv 2) (bv 4) (λ_ _=>rfl)))) (aa (aB dG (bv 1) (aa aj))))) (λ_ _=>rfl)))) rfl ⟨rfl,⟨rfl,⟨rfl,⟨rfl,trivial⟩⟩⟩⟩ (λ_=>by repeat' (first | exact trivial | refine⟨.inl rfl,?_⟩ | refine⟨.inr (.inl rfl),?_⟩ | refine⟨.inr (.inr ⟨_,rfl⟩),?_⟩)) (λ_=>⟨⟨rfl,.inl rfl,.inl rfl,_,rfl,rfl⟩,⟨⟨rfl,.inl rfl,.inl rfl,_,rfl,rfl⟩,⟨⟨rfl,.inl rfl,.inl rfl,_,rfl,rfl⟩,⟨⟨rfl,.inl rfl,.inl rfl,_,rfl,rfl⟩,trivial⟩⟩⟩⟩) rfl (by decide +kernel)))))))
   (aH (aX (em 3)))))),λds Q h=>?_⟩
  obtain⟨l,g,rfl,h1,h2,h3,h4,q⟩:=h
  refine az λU hU=>?_
  nofun
  refine hU _ ?_
  clear hU U
  refine az λU hU=>?_
  nofun
  refine⟨by decide,⟨by omega,by omega,by omega⟩,by decide,hU _ ?_⟩
  clear hU U
  refine az λU hU=>?_
  nofun
  refine⟨1,(l.length:Int)+1,⟨rfl,rfl⟩,⟨by decide,by decide,by omega,by omega⟩,?_⟩
  have en:((l.length:Int)+1-1).toNat=l.length:=by omega
  rw[en]
  refine gb.mk (λi δ=>∃o,δ=[some (.lst false (aJ l)),some (.lst false (aJ g)),some (.int ((l.length:Int)+1)),some (.lst true (vY l g (i+1))),o]) ⟨none,?_⟩ ?_ ?_
  ·rw[show((l.length:Int)+1).toNat=l.length+1 by omega];rfl
  ·rintro i d δ hd ⟨o,rfl⟩
   obtain⟨hi,rfl⟩:i<l.length/\d=.int (1+(i:Int)):=by
    rw[cu]at hd
    by_cases hi:i<l.length
    ·rw[jZ hi]at hd
     exact⟨hi,(cV hd).symm⟩
    ·rw[gr (by simpa using hi)]at hd;cases hd
   nofun
   refine⟨⟨_,rfl⟩,by decide,1,(l.length:Int)+1,⟨rfl,rfl⟩,⟨by decide,by decide,by omega,by omega⟩,?_⟩
   rw[en]
   refine eN (aM l.length) (λ(k:Nat)=>D.int (1+(k:Int))) (λ(k:Nat)=>D.int (l.getD ((g.getD (i+1) 0+g.getD (k+1) 0)%(l.length:Int)).toNat 0)) (by rw[Aj]) (λx y h=>by injection h with h;omega) (λk hk=>?_) (.inr λ_ _=>rfl) (by rw[cm,sL];omega) ?_
   ·have Zx:=da.mp hk
    nofun
    have e1:(1+(i:Int)).toNat=i+1:=by omega
    have e2:(1+(k:Int)).toNat=k+1:=by omega
    have e3:(l.length:Int)+1-1=l.length:=by omega
    have n0:=gW (g.getD (i+1) 0+g.getD (k+1) 0) (show(l.length:Int)≠0 by omega)
    have n1:=ib (g.getD (i+1) 0+g.getD (k+1) 0) (show(0:Int)<l.length by omega)
    refine⟨_,mI (by omega) (by omega),_,mI (by omega) (by omega),?_⟩
    rw[e1,e2,e3]
    exact⟨by omega,_,mI n0 n1,rfl,rfl⟩
   ·nofun
    refine⟨⟨by simp;omega,by rw[ni,dz];intro x _;rfl⟩,by simp[vY];omega,_,?_,rfl⟩
    unfold vY
    rw[IU (n:=i+1),fv]
    congr 1
    show _=[D.lst true (aJ (pP l g (i+1)))]
    unfold pP
    rw[if_neg (by omega)]
    unfold aJ
    rw[dv,cA];rfl
  ·rintro δ ⟨o,rfl⟩
   refine hU _ ?_
   simp only[uV,rG,uW,uX,uY,dT,nM,ph,pj,dC,nL,rE,rC,rB,rD,uU,pF,vB,si,vD,vE,uP,uQ,uR,uS,uT,rA,vy,rV,rW,ii,rJ,vd,rM,ve,vg,vh,vj,vk,vm,iI,iA,vn,vo,vp,vq,rP,pB,vw,vx,gN,vF,vA,uZ,u5,u6,u7,u9,va,vG,vH,pq,mC,gA,jK,jn,qE,t7,zy,Ds,rF,kM,ke,rZ,se,nX,vL,vM,vN,A6,vQ,sD,vO,jM,Bb,A8,Ba,dv,jX,nk,ub,jz,Dt,bo,oN,oO,jA,jB,zA,exists_eq_left',exists_eq_left,D.bl.injEq,D.int.injEq,D.lst.injEq,D.fz.injEq,D.str.injEq,D.tup.injEq,Du,and_true,true_and,dy,ui,nj,lQ,As,Au,Av,Aw,Az,AA,fZ,kK,pG,AG,AH,AI,AJ,AK,dQ,mx,AB,AD,AE,AF,fL,rn,Dv,Dw,tU,lR,Dx,Dy,zd,AN,AO,AQ,AR,AS,AU,AV,kS,nW,sq,kj,sr,AL,vK,vI,su,AM,jL,vJ,if_true,uf,if_false,reduceIte,AW,decide_eq_true_eq,eo,kT,sE,Bf,nY,Be,u0,vV,sR,v9,vP,sH,sI,sJ,vX,we,BH,wo,s9,eA,pX,kn,BC,sX,wA,wB,bA,cm]
   exact q
abbrev aR9(t:eX):pH:=λds Q Ex=>∃a b:Nat,ds=[.int a,.int b]/\bl a<=1000000/\bl b<=1000000/\(b=0->Ex t.iH)/\(b≠0->∀q r:Nat,a=cl q b ^^^ r->bl r<bl b->Q (.tup [.int q,.int r]))
theorem aE0(T:Txt K mg t):aN P w K mg base (nJ P w) 1 t.Md t.Me ["a","b"] (AY (aR9 t )):=by
 refine X6 T.Oh wQ ?_ ?_
 ·intro ds Q Ex h
  obtain⟨a,b,rfl,ha,hb,qx,q⟩:=h<;>rfl
 ·intro aD A outer s H E hr
  refine⟨_,(aA (cT (cq (gC (cM hr)) (bv 1) (aa aj) (bP _)) (aH (Yb T.aR6 rfl (by rfl) (ag (aa Xm) ax))) cS)
   (aA (aZ (i:=2) wQ.nd rfl (ai rfl) aj)
   (aA (aZ (i:=3) wQ.nd rfl (ai rfl) (em 0))
   (aA (cX2 (u3 eR (cq c76 (aa (nV (bv 3))) (aa (nV (bv 1))) (bP _))
    (aA (aZ (i:=4) wQ.nd rfl (ai rfl) (aB dG (aa (nV (bv 3))) (aa (nV (bv 1)))))
    (aA (Ai (i:=2) wQ.nd rfl (ai rfl) (aa (aB vi (aa aj) (bv 4))) Ee)
    (aH (Ai (i:=3) wQ.nd rfl (ai rfl) (aa (aB vi (bv 1) (bv 4))) Ee))))))
   (aH (aX (nN (cy (em 2) (cy (em 3) cH))))))))),λds Q Ex h=>?_⟩
  obtain⟨a,b,rfl,ha,hb,qx,q⟩:=h
  refine az λU hU=>?_
  nofun
  split
  ·rename_i h0
   exact⟨by decide,qx (by omega)⟩
  ·rename_i h0
   have b0:b≠0:=by omega
   refine hU _ ?_
   clear hU U
   refine az λU hU=>?_
   nofun
   refine hU _ ?_
   clear hU U
   refine az λU hU=>?_
   nofun
   refine hU _ ?_
   clear hU U
   refine az λU hU=>?_
   nofun
   refine⟨λm δ=>∃(x r:Nat) (o sh:Option D),δ=[o,some (.int b),some (.int (x:Nat)),some (.int (r:Nat)),sh]/\a=cl x b ^^^ r/\bl r<=bl a/\m=bl r,
    ⟨bl a,0,a,_,none,rfl,by rw[oX,oJ],bK _,rfl⟩,?_⟩
   rintro m δ ⟨x,r,o,sh,rfl,inv,hra,rfl⟩
   simp only[uV,rG,uW,uX,uY,dT,nM,ph,pj,dC,nL,rE,rC,rB,rD,uU,pF,vB,si,vD,vE,uP,uQ,uR,uS,uT,rA,vy,rV,rW,ii,rJ,vd,rM,ve,vg,vh,vj,vk,vm,iI,iA,vn,vo,vp,vq,rP,pB,vw,vx,gN,vF,vA,uZ,u5,u6,u7,u9,va,vG,vH,pq,mC,gA,jK,jn,qE,t7,zy,Ds,rF,kM,ke,rZ,se,nX,vL,vM,vN,A6,vQ,sD,vO,jM,Bb,A8,Ba,dv,jX,nk,ub,jz,Dt,bo,oN,oO,jA,jB,zA,exists_eq_left',exists_eq_left,D.bl.injEq,D.int.injEq,D.lst.injEq,D.fz.injEq,D.str.injEq,D.tup.injEq,Du,and_true,true_and,dy,ui,nj,lQ,As,Au,Av,Aw,Az,AA,fZ,kK,pG,AG,AH,AI,AJ,AK,dQ,mx,AB,AD,AE,AF,fL,rn,Dv,Dw,tU,lR,Dx,Dy,zd,AN,AO,AQ,AR,AS,AU,AV,kS,nW,sq,kj,sr,AL,vK,vI,su,AM,jL,vJ,if_true,uf,if_false,reduceIte,AW,decide_eq_true_eq,eo,kT,sE,Bf,nY,Be,u0,vV,sR,v9,vP,sH,sI,sJ,vX,we,BH,wo,s9,eA,pX,kn,BC,sX,wA,wB,i8]
   split
   ·rename_i hc
    have hle:bl b<=bl r:=by omega
    have less:=WS b0 hle
    have es:(((bl r:Nat):Int)-((bl b:Nat):Int))=((bl r-bl b:Nat):Int):=by omega
    clear hU
    refine az λU hU=>?_
    nofun
    simp only[i8,es]
    refine hU _ ?_
    clear hU
    refine az λU hU=>?_
    nofun
    have o1:bl (1:Int).natAbs=1:=by decide
    refine⟨⟨by omega,by omega⟩,hU _ ?_⟩
    clear hU
    simp only[uV,rG,uW,uX,uY,dT,nM,ph,pj,dC,nL,rE,rC,rB,rD,uU,pF,vB,si,vD,vE,uP,uQ,uR,uS,uT,rA,vy,rV,rW,ii,rJ,vd,rM,ve,vg,vh,vj,vk,vm,iI,iA,vn,vo,vp,vq,rP,pB,vw,vx,gN,vF,vA,uZ,u5,u6,u7,u9,va,vG,vH,pq,mC,gA,jK,jn,qE,t7,zy,Ds,rF,kM,ke,rZ,se,nX,vL,vM,vN,A6,vQ,sD,vO,jM,Bb,A8,Ba,dv,jX,nk,ub,jz,Dt,bo,oN,oO,jA,jB,zA,exists_eq_left',exists_eq_left,D.bl.injEq,D.int.injEq,D.lst.injEq,D.fz.injEq,D.str.injEq,D.tup.injEq,Du,and_true,true_and,dy,ui,nj,lQ,As,Au,Av,Aw,Az,AA,fZ,kK,pG,AG,AH,AI,AJ,AK,dQ,mx,AB,AD,AE,AF,fL,rn,Dv,Dw,tU,lR,Dx,Dy,zd,AN,AO,AQ,AR,AS,AU,AV,kS,nW,sq,kj,sr,AL,vK,vI,su,AM,jL,vJ,if_true,uf,if_false,reduceIte,AW,decide_eq_true_eq,eo,kT,sE,Bf,nY,Be,u0,vV,sR,v9,vP,sH,sI,sJ,vX,we,BH,wo,s9,eA,pX,kn,BC,sX,wA,wB,i8]
    refine⟨⟨by omega,by rw[i8];omega⟩,_,less,x ^^^ 2 ^ (bl r-bl b),r ^^^ b <<< (bl r-bl b),o,_,⟨rfl,?_,?_,rfl⟩,cm6 inv,by omega,rfl⟩
    ·rw[show(1:Int)=((1:Nat):Int) from rfl,uG,nI,IZ]
    ·rw[uG,nI]
   ·rename_i hc
    refine hU _ ?_
    nofun
    refine⟨by decide,q b0 x r inv (by omega)⟩
abbrev aS0:bq:=λds Q=>∃a:Nat,ds=[.int a]/\bl a<=60/\Q (.bl (al a))
theorem aS1(T:Txt K mg t):aN P w K mg base aR 2 t.Mg t.Mh ["a"] (br (aS0 )):=by
 refine bD T.da1 LO ?_ ?_
 ·intro ds Q h
  obtain⟨a,rfl,ha,q⟩:=h<;>rfl
 ·intro aD A outer s H E hr
  refine⟨_,(aA (cT (cq rO (bv 0) (aa aj) (bP _)) (aH (aX iO)) cS)
   (aA (aZ (i:=1) LO.nd rfl (ai rfl) (aB rL (aa (aB dG (aa (nV (bv 0))) (aa aj))) (aa aj)))
   (aA (gg eR rfl (Ak rfl T.gS (ag (aa aj) (ag (aa (aB vi (aa aj) (aa (aB cU (bv 1) (aa aj))))) ax))) (cI (i:=2) LO.nd rfl (ai rfl))
    (aH (cT (cq (gC (cM hr)) (bE (aa (bB (KJ ((aE0 T).mono (by decide))) hr rfl T.c99 T.Oh.kp T.da0 KI (ag (bv 0) (ag (bv 2) ax)))) (aa aj) (λ_ _=>rfl)) (aa aj) (bP _)) (aH (aX iO)) cS)))
   (aH (aX iO))))),λds Q h=>?_⟩
  obtain⟨a,rfl,ha,q⟩:=h
  refine az λU hU=>?_
  nofun
  split
  ·rename_i h2
   rw[cm7 (by omega)]at q;exact q
  ·rename_i h2
   have h2:2<=a:=by omega
   have hp:=iu (show a≠0 by omega)
   refine hU _ ?_
   clear hU U
   refine az λU hU=>?_
   nofun
   simp only[i8]
   refine⟨rK (by omega) (by omega),hU _ ?_⟩
   clear hU U
   have eh:((((bl a:Nat):Int)-1)/2+1)=(((bl a-1)/2+1:Nat):Int):=by omega
   have e1:(1:Int)*2 ^ ((((bl a:Nat):Int)-1)/2+1).toNat=((2 ^ ((bl a-1)/2+1):Nat):Int):=by
    rw[eh,show(1:Int)=((1:Nat):Int) from rfl,uG,IZ]
   have big:2 ^ ((bl a-1)/2+1)<=2 ^ 40:=zf (by decide) (by omega)
   have o1:bl (1:Int).natAbs=1:=by decide
   refine az λU hU=>?_
   nofun
   rw[e1]
   have ga0:((2 ^ ((bl a-1)/2+1):Nat):Int)<=2 ^ 40:=by exact_mod_cast big
   have nn:(0:Int)<=((2 ^ ((bl a-1)/2+1):Nat):Int):=U8 _
   refine⟨⟨by omega,by omega⟩,_,_,⟨rfl,rfl⟩,⟨by decide,by decide,by omega,by omega⟩,?_⟩
   have en:(((2 ^ ((bl a-1)/2+1):Nat):Int)-2).toNat=2 ^ ((bl a-1)/2+1)-2:=by omega
   rw[en]
   refine gb.mk (λi δ=>(∃o1 o2,δ=[some (.int a),o1,o2])/\∀j,j<i->md a (2+j)≠0) ⟨⟨_,_,rfl⟩,λj hj=>absurd hj (by omega)⟩ ?_ ?_
   ·rintro i d δ hd ⟨⟨o1,o2,rfl⟩,inv⟩
    obtain⟨hi,rfl⟩:i<2 ^ ((bl a-1)/2+1)-2/\d=.int (2+(i:Int)):=by
     rw[cu]at hd
     by_cases hi:i<2 ^ ((bl a-1)/2+1)-2
     ·rw[jZ hi]at hd
      exact⟨hi,(cV hd).symm⟩
     ·rw[gr (by simpa using hi)]at hd;cases hd
    have bi:bl (2+i)<=60:=by
     have:=(cn5 h2 (show 2+i<2 ^ ((bl a-1)/2+1) by omega)).2
     omega
    nofun
    refine⟨a,2+i,by rw[show((2+i:Nat):Int)=2+(i:Int) by omega],by omega,by omega,by omega,λ_ x r e l=>?_⟩
    have em:md a (2+i)=r:=zZ e l
    refine⟨.int r,rfl,rfl,?_⟩
    rw[jL]
    split
    ·rename_i hz
     have r0:r=0:=by have:=of_decide_eq_true hz;omega
     rw[cq8 hi (em.trans r0)]at q
     exact q
    ·rename_i hz
     refine⟨⟨_,_,rfl,rfl⟩,λj hj=>?_⟩
     by_cases ej:j=i
     ·rw[ej,em]
      intro r0
      exact hz (decide_eq_true (by omega))
     ·exact inv j (by omega)
   ·rintro δ ⟨⟨o1,o2,rfl⟩,inv⟩
    rw[bA,cm]at inv
    rw[cy2 h2 inv]at q
    refine hU _ ?_
    nofun
    exact q
abbrev aL5:bq:=λds Q=>∃a:Int,ds=[.int a]/\Q (.bl (decide (4<=a)&&decide (a<=127)&&al a.toNat))
theorem aL6(T:Txt K mg t):aN P w K mg base aR 3 t.Mi t.Mj ["bits"] (br (aL5 )):=by
 refine bD T.da2 aJ8 ?_ ?_
 ·intro ds Q h
  obtain⟨a,rfl,q⟩:=h<;>rfl
 ·intro aD A outer s H E hr
  refine⟨_,(aH (aX (pk (aa (rS kg kg (aa aj) (bv 0) (aa aj))) (uv (bB ((aS1 T).mono (by decide)) hr rfl T.ew3 T.da1.kp T.ew4 aV (ag (bv 0) ax)))))),λds Q h=>?_⟩
  obtain⟨a,rfl,q⟩:=h
  nofun
  split
  ·rename_i h1
   split
   ·rename_i h2
    refine⟨a.toNat,by rw[zu (by omega)],?_,?_⟩
    ·have:bl a.toNat<=bl 127:=JO (by omega)
     exact fu this (by decide)
    ·have e:(decide (4<=a)&&decide (a<=127)&&al a.toNat)=al a.toNat:=by simp[h1,h2]
     rw[e]at q;exact q
   ·rename_i h2
    have e:(decide (4<=a)&&decide (a<=127)&&al a.toNat)=false:=by simp[h2]
    rw[e]at q;exact q
  ·rename_i h1
   have e:(decide (4<=a)&&decide (a<=127)&&al a.toNat)=false:=by simp[h1]
   rw[e]at q;exact q
abbrev aW3:bq:=λds Q=>∃a b:Nat,ds=[.int a,.int b]/\bl a<=1000/\bl b<=1000/\Q (.int (cl a b:Nat))
theorem aW4(T:Txt K mg t):aN P w K mg base aR 1 t.Ml t.Mm ["a","b"] (br (aW3 )):=by
 refine bD T.da3 Fd ?_ ?_
 ·intro ds Q h
  obtain⟨a,b,rfl,ha,hb,q⟩:=h<;>rfl
 ·intro aD A outer s H E hr
  refine⟨_,(aA (aZ (i:=2) Fd.nd rfl (ai rfl) aj)
   (aA (gg eR rfl (jI rfl T.gS (ag (aa (nV (bv 1))) ax)) (cI (i:=3) Fd.nd rfl (ai rfl))
    (aH (cT (cq (gC (cM hr)) (aa (aB XA (aa (aB Xz (bv 1) (bv 3))) (aa aj))) (aa aj) (bP _)) (aH (Ai (i:=2) Fd.nd rfl (ai rfl) (aa (aB vi (bv 0) (bv 3))) Ee)) cS)))
   (aH (aX (em 2))))),λds Q h=>?_⟩
  obtain⟨a,b,rfl,ha,hb,q⟩:=h
  refine az λU hU=>?_
  nofun
  refine hU _ ?_
  clear hU U
  refine az λU hU=>?_
  nofun
  simp only[i8]
  refine⟨⟨by omega,by omega⟩,AX (λi δ=>∃o,δ=[some (.int a),some (.int b),some (.int (Mf.P a b i:Nat)),o]) ⟨none,rfl⟩ ?_ ?_⟩
  ·rintro i δ hi ⟨o,rfl⟩
   nofun
   refine⟨by omega,?_⟩
   have GO:(oH ((b:Int)/2 ^ ((i:Int)).toNat) 1=1)↔b.testBit i=true:=by
    have h:=cA1 b i
    rw[Vr]at h
    rw[<-h,dI]
   split
   ·rename_i hc
    have h:=co5 (a:=a) (GO.mp hc)
    rw[Vr]at h
    exact⟨⟨by omega,by rw[i8];omega⟩,_,h,rfl⟩
   ·rename_i hc
    exact⟨_,by rw[bY4 (λz=>hc (GO.mpr z))],rfl⟩
  ·rintro δ ⟨o,rfl⟩
   refine hU _ ?_
   nofun
   exact q
abbrev aY8:List D->List Str->List D->Prop:=λds ns xs=>∃p:Nat,ds=[.int p]/\p∈gO/\ns=iE "bits"++[("products":Str)]/\xs=[.int p,.int (ae (true,p)),.int ((bl (ae (true,p)):Nat)-1),.lst true (aJ (fl (true,p))),.lst true (aJ (eO (fl (true,p)))),.int (fst (true,p)),.lst true (pQ (fl (true,p)) (eO (fl (true,p))))]
theorem aQ2(T:Txt K mg t)(hB:Bm mg base):aN P w K mg base aR 8 t.Mn t.Fj ["self","bits"] (K6 [t.iV,t.iW] t.aC aY8):=by
 refine YK T.aR4 T.aQ0 ο (λvs H Q E h=>?_) λA outer s H vs Q E hr h=>?_
 ·obtain⟨x,dx,bU,ds,ns,xs,rfl,_,_,r,⟨p,rfl,_⟩,_⟩:=h
  have:=r.length
  simp at this
  simp[this]
 obtain⟨x,dx,bU,ds,ns,xs,rfl,tb,hx,r,⟨p,rfl,hp,rfl,rfl⟩,q⟩:=h
 obtain rfl:bU=[.int p]:=by
  cases r with
  | int r=>cases r;rfl
 have hm:(true,p)∈aI:=eZ _ (IS hp)
 have hF:=dn hm
 refine⟨_,eV (qQ (DG (DF (jg ((aL6 T).mono (by decide)) hr rfl T.ew5 T.da2.kp T.ew6 .nil aV (bX (pv 1) e7)))) (jc qR) qO)
  (eV (gZ (pv 0) (pv 1) rfl)
  (eV (Jk (i:=2) ο.nd rfl (ai rfl) (zP W5 oU (zP Jt (JP (pv 1)) oU)))
  (eV (qP (YD (E:=E0) (i:=1) T.aI2 ((aI3 T).mono (by decide)) hr T.aK3 rfl T.yH rfl rfl rfl rfl (bX (pv 0) (bX (pv 2) (bX (Yv rfl rfl T.aQ1 hB) e7)))))
  (jc (gZ (pv 0) (jg ((aR8 T).mono (by decide)) hr rfl T.ew1 T.c98.kp T.ew2 .nil aV (bX (qX (pv 0) rfl) (bX (qX (pv 0) rfl) e7))) rfl))))),?_⟩
 refine⟨_,rfl,H,[.int p],λd=>d=.bl true,af.refl _,.int .nil,⟨p,rfl,by rw[cB3 p hp]⟩,λd v F' H1 A1 hd eQ hf he h3 r nd fr=>?_⟩
 subst hd
 cases r
 refine⟨true,rfl,?_⟩
 refine jh ?_
 have cC:=eQ.get _ _ hx
 refine⟨.int p,rfl,.ref x,rfl,x,t.aC,dx,_,rfl,cC,T.fh,T.B4,by decide,?_⟩
 generalize e2:upd H1 x (HO.ins t.aC dx (bF "bits" (.int p) []))=H2
 have dZ:H2 x=some (.ins t.aC dx [(("bits":Str),.int p)]):=by rw[<-e2,bM];rfl
 have s2:bO x H H2:=by rw[<-e2];exact(eQ.x (x:=x)).trans (bO.upd (C:=x) (dx:=dx) cC rfl)
 have n2:∀p,H2 p=none->H p=none:=λp h=>eQ.free (Bv cC (by rw[e2];exact h))
 obtain⟨ps,hP⟩:=tb t.iW (by simp)
 obtain⟨more,OC⟩:=s2.tb _ ps hP
 have bp:bl p<=7:=YU p hp
 have GP:1<=bl p:=YV p hp
 refine⟨.int p,rfl,rfl,p,rfl,rfl,_,_,rfl,rfl,_,_,rfl,rfl,?_,?_⟩
 ·have o1:bl (1:Int).natAbs=1:=by decide
  rw[i8]
  exact⟨by omega,by omega⟩
 have em:(1:Int)*2 ^ (((bl ((p:Int)).natAbs:Nat):Int)-1).toNat=((ae (true,p):Nat):Int):=by
  rw[i8,show(((bl p:Nat):Int)-1)=((bl p-1:Nat):Int) by omega,show(1:Int)=((1:Nat):Int) from rfl,uG,IZ];rfl
 show DJ 2 (.int ((1:Int)*2 ^ (((bl ((p:Int)).natAbs:Nat):Int)-1).toNat)) _ _ _
 rw[em]
 refine⟨.ref x,rfl,.int (ae (true,p)),rfl,⟨_,OC⟩,λf k qn pm js H3 nf CI hk kf ia hl3=>?_⟩
 refine⟨f,_,_,.int p,CI,rfl,rfl,λoc u i9 hu nc pM=>?_⟩
 obtain⟨tm,rfl⟩:∃tm,u=oG p tm:=hu
 have fi:=ia.get _ _ dZ
 refine⟨x,dx,f,t.aC,"bits",p,ae (true,p),_,oc,_,k,gm (true,p),fl (true,p),fst (true,p),rfl,Bw fi (λz=>by rw[z,nf]at dZ;cases dZ) nc,by decide,⟨T.fh,T.oy,T.B6,T.qh,T.qg,T.B5,T.tw⟩,YQ pM nc hk kf,?_,hF,λH' p1 p2 sx de OD DW ne CH tL=>?_⟩
 ·refine YI (n:=3) ⟨rfl,rfl,rfl,by decide,rfl,rfl,by decide,by decide,rfl⟩ i9 (λu1 u2=>rfl) λq f A outer s H E hr=>?_
  refine⟨_,dm (bE (aa (bB (KJ ((aE0 T).mono (by decide))) hr rfl T.c99 T.Oh.kp T.da0 KI (ag (aa (bB ((aW4 T).mono (by decide)) hr rfl T.ew7 T.da3.kp T.ew8 aV (ag (bv 0) (ag (bv 1) ax)))) (ag (bv 2) ax)))) (aa aj) (λ_ _=>rfl)),λi j Qd h=>?_⟩
  obtain⟨a,b,rfl,rfl,ha,hb,hq⟩:=h
  nofun
  have b1:bl a<=6:=by
   have:bl a<=bl 63:=JO (by omega)
   exact fu this (by decide)
  have b2:bl b<=6:=by
   have:bl b<=bl 63:=JO (by omega)
   exact fu this (by decide)
  have p0:p≠0:=by
   intro z
   rw[z]at GP
   exact absurd GP (by decide)
  refine⟨a,b,rfl,by omega,by omega,cl a b,p,rfl,fu (cp4 a b) (by omega),by omega,λz=>p0 z,λ_ x r e l=>⟨by simp[D.pl],.int r,rfl,rfl,r,rfl,?_⟩⟩
  have er:gm (true,p) a b=r:=zZ e l
  rw[<-er];exact hq
 ·have gf:H' f=some (.ext (jG _ oc _ f)):=sx.get f _ (λz=>by rw[z]at nf;rw[nf]at dZ;cases dZ) (by rw[bf pM.symm,bM]) rfl
  have gc:=sx.get _ _ (eU fi nc).symm bM rfl
  refine⟨gf,gc,?_⟩
  have s4:=s2.trans (YO ia nf nc sx)
  have f1:=n2 _ (ED ia CH)
  have f2:=n2 _ (ED ia tL)
  have l1:=OD.rem gf gc
  have l2:=DW.rem gf gc
  have jx:rem H' f (s.heap.objs.size+1) x=some (.ins t.aC dx ((iE "bits").zip (EB p (ae (true,p)) p1 p2 (fst (true,p))))):=by
   rw[iD (λz=>by rw[z,gf]at de;cases de) (λz=>by rw[z,gc]at de;cases de)];exact de
  generalize rem H' f (s.heap.objs.size+1)=H4 at s4 l1 l2 jx
  refine⟨.ref x,rfl,x,t.aC,dx,_,.ref p1,rfl,jx,T.fh,T.qh,rfl,.ref x,rfl,x,t.aC,dx,_,.ref p2,rfl,jx,T.fh,T.qg,rfl,H4,[.lst false (aJ (fl (true,p))),.lst false (aJ (eO (fl (true,p))))],λd=>d=.lst true (pQ (fl (true,p)) (eO (fl (true,p)))),af.refl _,.shr l1 (kR _) (.shr l2 (kR _) .nil),
   ⟨_,_,rfl,by have:=hF.len;have:=hF.lo;omega,by have:=hF.len;have:=hF.hi;omega,Bu _ _,YT _ _,rfl⟩,λd v F' H5 A' hd kz hf he h3 r nd fr=>?_⟩
  subst hd
  obtain⟨p3,rfl⟩:∃p3,v=.ref p3:=by cases r;exact⟨_,rfl⟩
  have iX:=kz.get _ _ jx
  have nA:∀{a ws},H4 a=some (.lst ws)->a ∉ A':=λ{a ws} e z=>by rw[fr a z]at e;cases e
  refine⟨.ref x,rfl,x,t.aC,dx,_,rfl,iX,T.fh,T.oA,m8 (bK 6) (by decide),?_⟩
  refine q _ (EB p (ae (true,p)) p1 p2 (fst (true,p))++[.ref p3]) (p1::p2::A') ((s4.trans (kz.x (x:=x))).trans (bO.upd (C:=x) (dx:=dx) iX rfl)) (by rw[bM];rfl) rfl ?_ ?_ ?_
  ·exact .int (.int (.int (.own ((l1.same kz).upd iX (λws z=>by cases z)) rfl (kR _) (.own ((l2.same kz).upd iX (λws z=>by cases z)) rfl (kR _) (.int ((r.rq (by simp[fL,YS]) (af.of λb o e=>by cases e)).sM iX (by simp[fL,YS])))))))
  ·exact jW.mpr ⟨by simp[ne];exact nA l1,jW.mpr ⟨nA l2,nd⟩⟩
  ·intro a ha
   rcases cz.mp ha with rfl | ha
   ·exact f1
   ·rcases cz.mp ha with rfl | ha
    ·exact f2
    ·exact s4.free (by rw[jx];simp) (fr a ha)
abbrev aW5(cb cp:Addr):bq:=λds Q=>∃m:Bool × Nat,ds=[dr m]/\m∈aI/\Q (fD cb cp m)
theorem aW6(T:Txt K mg t)(hB:Bm mg base):aN P w K mg base aR 10 t.Mo t.Mp ["_law_told_here"] (vS [t.iV,t.iW] (br (aW5 t.aC t.aF))):=by
 refine K3 T.aK4 aV3 ?_ ?_
 ·intro ds Q h
  obtain⟨m,rfl,hm,q⟩:=h<;>rfl
 ·intro aD A outer s H E hT hr
  refine⟨_,(aA (cT (hE (bE (bv 0) (aa aj) (λ_ _=>rfl))) (aH (aX (YL hT T.B0 ((aQ2 T hB).mono (by decide)) hr rfl T.Cy T.aR5 aV (ag (bE (bv 0) (aa aj) (λ_ _=>rfl)) ax)))) cS)
   (aH (aX (YL hT T.Cf ((aL4 T hB).mono (by decide)) hr rfl T.CA T.aN5 aV (ag (bE (bv 0) (aa aj) (λ_ _=>rfl)) ax))))),λds Q h=>?_⟩
  obtain⟨m,rfl,hm,q⟩:=h
  unfold dr at *
  refine az λU hU=>?_
  nofun
  obtain⟨b,n⟩:=m
  cases b with
  | true =>
   refine⟨_,rfl,true,rfl,?_⟩
   rw[if_pos rfl]
   refine⟨_,rfl,_,_,⟨n,rfl,v7 hm,rfl,rfl⟩,?_⟩
   rw[cR2];exact q
  | false =>
   refine⟨_,rfl,false,rfl,?_⟩
   rw[if_neg (by decide)]
   refine hU _ ?_
   nofun
   refine⟨_,rfl,_,_,⟨n,rfl,bS6 hm,rfl,rfl⟩,?_⟩
   rw[cn4];exact q
abbrev aY9:bq:=λds Q=>∃(ns:List Int) (k:Int),ds=[.fz (aJ ns),.int k]/\0<=k/\Q (.int (ns.getD k.toNat 0))
theorem lF(T:Txt K mg t):aN P w K mg base aR 1 t.Mq t.Mr ["_law_script","_law_k"] (br (aY9 )):=by
 refine bD T.ky aX4 ?_ ?_
 ·intro ds Q h
  obtain⟨ns,k,rfl,hk,q⟩:=h<;>rfl
 ·intro aD A outer s H E hr
  refine⟨_,(aA (cT (cq rO (bv 1) (aa (cY (gE) (by rfl) T.gj fY (ag (bv 0) ax))) (bP _)) (aH (aX (dm (bE (bv 0) (bv 1) (λ_ _=>rfl))))) cS)
   (aH (aX aj))),λds Q h=>?_⟩
  obtain⟨ns,k,rfl,hk,q⟩:=h
  refine az λU hU=>?_
  nofun
  split
  ·rename_i h
   exact⟨_,mI hk h,rfl,q⟩
  ·rename_i h
   refine hU _ ?_
   nofun
   rw[aU,gr (by omega)]at q
   exact q
def lH(c k:Int):Int:=(c%999983+7*k+1)*(k*k+48271)%1000003
abbrev aW7:bq:=λds Q=>∃(c k:Int),ds=[.int c,.int k]/\0<=k/\k<=100000/\Q (.int (lH c k))
theorem OE(T:Txt K mg t):aN P w K mg base aR 1 t.Ms t.Mt ["_law_cell_here","_law_k"] (br (aW7 )):=by
 refine bD T.Fq aV4 ?_ ?_
 ·intro ds Q h
  obtain⟨c,k,rfl,k0,k1,q⟩:=h<;>rfl
 ·intro aD A outer s H E hr
  refine⟨_,(aH (aX (aB dH (aa (aB fA (aa (aB cU (aa (aB cU (aa (aB dH (bv 0) (aa aj))) (aa (aB fA (aa aj) (bv 1))))) (aa aj))) (aa (aB cU (aa (aB fA (bv 1) (bv 1))) (aa aj))))) (aa aj)))),λds Q h=>?_⟩
  obtain⟨c,k,rfl,k0,k1,q⟩:=h
  nofun
  have c0:=gW c (show(999983:Int)≠0 by decide)
  have c1:=ib c (show(0:Int)<999983 by decide)
  exact⟨by decide,ig.ok (.inl ⟨by decide,by decide⟩),ig.ok (.inl ⟨by omega,by omega⟩),ig.ok (.inl ⟨by omega,by omega⟩),by decide,q⟩
abbrev aL7:bq:=λds Q=>∃(M n e:Nat) (c:Int) (b:Bool),ds=[.int M,.int n,.int e,.int c,.bl b]/\1<=M/\M<=64/\n<=16/\e<=16/\∀T:List (List Nat),T.length=e->RT M n T->Q (.lst true (ay true T))
theorem aL8(T:Txt K mg t):aN P w K mg base aR 2 t.Mu t.Mv ["_law_many_here","_law_length","_law_extra","_law_cell_here","_law_sparse"] (br (aL7 )):=by
 refine bD T.aA3 BL ?_ ?_
 ·intro ds Q h
  obtain⟨M,n,e,c,b,rfl,hM,eJ9,hn,he,q⟩:=h<;>rfl
 ·intro aD A outer s H E hr
  refine⟨_,(aA (aZ (i:=5) BL.nd rfl (ai rfl) (dS cH))
   (aA (gg eR rfl (jI rfl T.gS (ag (bv 2) ax)) (cI (i:=6) BL.nd rfl (aW rfl))
    (aA (ES (i:=7) BL.nd rfl (ai rfl) [("_law_many_here",0),("_law_cell_here",3),("_law_i",6)] ["_law_at"] rfl (jI rfl T.gS (ag (bv 1) ax)) (λ_ _ _ _=>(cI (i:=3) (show(["_law_many_here","_law_cell_here","_law_i","_law_at"]:List Str).Nodup by decide +kernel) rfl (ai (lr1 rfl)) (by decide) (aW (lr1 rfl)))) (λ_ _ _ _=>dB) (λ_ _ _ _=>(aB dH (aa (aB rL (aa (bB ((OE T).mono (by decide)) hr rfl T.Oi T.Fq.kp T.Oj aV (ag (bv 1) (ag (aa (aB cU (aa (aB fA (bv 2) (aa aj))) (bv 3))) ax)))) (aa aj))) (bv 0))) rfl ⟨rfl,⟨rfl,⟨rfl,trivial⟩⟩⟩ (λ_=>by repeat' (first | exact trivial | refine⟨.inl rfl,?_⟩ | refine⟨.inr (.inl rfl),?_⟩ | refine⟨.inr (.inr ⟨_,rfl⟩),?_⟩)) (λ_=>⟨⟨rfl,.inl rfl,.inl rfl,_,rfl,rfl⟩,⟨⟨rfl,.inl rfl,.inl rfl,_,rfl,rfl⟩,⟨⟨rfl,.inl rfl,.inl rfl,_,rfl,rfl⟩,trivial⟩⟩⟩) rfl (by decide +kernel))
    (aA (cT (hE (bv 4)) (aH (ES (i:=7) BL.nd rfl (ai rfl) [("_law_cell_here",3),("_law_i",6)] ["_law_at","_law_x"] rfl (sC rfl T.tJ (ag (bv 7) ax)) (λ_ _ _ _=>(iC (i1:=2) (i2:=3) rfl (show(["_law_cell_here","_law_i","_law_at","_law_x"]:List Str).Nodup by decide +kernel) rfl (ai (lr1 rfl)) rfl (ai (lr1 rfl)) (by decide) (by decide) (aW (lr1 rfl)) (aW (lr1 rfl)))) (λ_ _ _ _=>dB) (λ_ _ _ _=>(aB fA (bv 3) (aa (aB dH (aa (aB rL (aa (bB ((OE T).mono (by decide)) hr rfl T.Oi T.Fq.kp T.Oj aV (ag (aa (aB cU (bv 0) (aa aj))) (ag (aa (aB cU (aa (aB fA (bv 1) (aa aj))) (bv 2))) ax)))) (aa aj))) (aa aj))))) rfl ⟨rfl,⟨rfl,trivial⟩⟩ (λ_=>by repeat' (first | exact trivial | refine⟨.inl rfl,?_⟩ | refine⟨.inr (.inl rfl),?_⟩ | refine⟨.inr (.inr ⟨_,rfl⟩),?_⟩)) (λ_=>⟨⟨rfl,.inl rfl,.inl rfl,_,rfl,rfl⟩,⟨⟨rfl,.inl rfl,.inl rfl,_,rfl,rfl⟩,trivial⟩⟩) rfl (by decide +kernel))) cS)
    (aH (kQ (i:=5) rfl (by first | exact ai rfl | exact aW (ai rfl)) (em 7))))))
   (aH (aX (em 5))))),λds Q h=>?_⟩
  obtain⟨M,n,e,c,b,rfl,hM,eJ9,hn,he,q⟩:=h
  have OF:∀z:Int,z%(M:Int)=(((z%(M:Int)).toNat:Nat):Int):=λz=>by
   have n0:=gW z (show(M:Int)≠0 by omega)
   omega
  have OG:∀z:Int,(z%(M:Int)).toNat<M:=λz=>by
   have n1:=ib z (show(0:Int)<(M:Int) by omega)
   omega
  refine az λU hU=>?_
  nofun
  refine⟨by decide,hU _ ?_⟩
  clear hU U
  refine az λU hU=>?_
  nofun
  refine⟨⟨by omega,by omega⟩,AX (λi δ=>∃(G:List (List Nat)) (o1 o2:Option D),δ=[some (.int M),some (.int n),some (.int e),some (.int c),some (.bl b),some (.lst true (ay true G)),o1,o2]/\G.length=i/\RT M n G) ⟨[],_,_,rfl,rfl,λ_ h=>nomatch h⟩ ?_ ?_⟩
  ·rintro i δ hi ⟨G,o1,o2,rfl,hG,hR⟩
   simp only[gN,jB,jA]
   clear hU
   refine az λU hU=>?_
   nofun
   refine⟨⟨by omega,by omega⟩,eN (aM n) (λ(i:Nat)=>D.int (i:Int)) (λk=>D.int (((lH c ((i:Int)*16+(k:Int))/5%(M:Int)).toNat:Nat):Int)) (pV _ rfl) iQ (λk hk=>?_) (.inr λ_ _=>rfl) (by rw[cm,sL];omega) ?_⟩
   ·have hk:=da.mp hk
    nofun
    exact⟨ig.ok (.inl ⟨by omega,by omega⟩),_,_,rfl,by omega,by omega,rK (by decide) (by decide),by omega,OF _⟩
   obtain⟨row,er,tM,tN⟩:∃wd:List Nat,((aM n).map λ(k:Nat)=>D.int (((lH c ((i:Int)*16+(k:Int))/5%(M:Int)).toNat:Nat):Int))=ak wd/\AllLt M wd/\wd.length=n:=by
    refine⟨(aM n).map λ(k:Nat)=>(lH c ((i:Int)*16+(k:Int))/5%(M:Int)).toNat,by rw[cE,cA];rfl,λa ha=>?_,by simp⟩
    obtain⟨k,_,rfl⟩:=bH.mp ha
    exact OG _
   rw[er]
   refine hU _ ?_
   clear hU
   refine az λU hU=>?_
   nofun
   have fin:∀row:List Nat,AllLt M row->row.length=n->U [some (D.int M),some (D.int n),some (D.int e),some (D.int c),some (D.bl b),some (D.lst true (ay true G)),some (D.int i),some (D.lst true (ak row))]:=by
    clear er tM tN row
    intro row tM tN
    refine hU _ ?_
    nofun
    refine⟨⟨_,rfl⟩,by omega,G++[row],_,_,⟨sY true G [row],rfl,rfl⟩,by rw[dN,hG];rfl,hR.app λx hx=>?_⟩
    rw[fk]at hx
    rw[hx];exact⟨tN,tM⟩
   clear hU
   cases b with
   | false=>exact fin row tM tN
   | true =>
    rw[if_pos rfl]
    have e2:∀z:Int,z%2=0\/z%2=1:=λz=>by omega
    refine Lb (aM row.length) (λ(k:Nat)=>D.tup [.int (k:Int),.int ((row.getD k 0:Nat):Int)]) (λk=>D.int ((row.getD k 0*(lH (c+7) ((i:Int)*16+(k:Int))/3%2).toNat:Nat):Int)) (Lj row) (λa b h=>by injection h with h;simp at h;omega) (λk hk=>?_) Lc (.inr λ_ _=>rfl) (by rw[cm,sL];omega) ?_
    ·have hk:=da.mp hk
     nofun
     refine⟨ig.ok (.inl ⟨by omega,by omega⟩),_,_,rfl,by omega,by omega,rK (by decide) (by decide),by decide,ig.ok (.inr ⟨by omega,by omega⟩),?_⟩
     rw[um,zu (by omega)]
    dsimp only[jB,jA]
    rw[show((aM row.length).map λ(k:Nat)=>D.int ((row.getD k 0*(lH (c+7) ((i:Int)*16+(k:Int))/3%2).toNat:Nat):Int))=ak ((aM row.length).map λk=>row.getD k 0*(lH (c+7) ((i:Int)*16+(k:Int))/3%2).toNat) by rw[cE,cA];rfl]
    refine fin _ (λa ha=>?_) (by rw[bA,cm,tN])
    obtain⟨k,_,rfl⟩:=bH.mp ha
    have h1:=tM.getD (show 0<M by omega) k
    rcases e2 (lH (c+7) ((i:Int)*16+(k:Int))/3)with h | h
    ·rw[h];show row.getD k 0*0<M;omega
    ·rw[h];show row.getD k 0*1<M;omega
  ·rintro δ ⟨G,o1,o2,rfl,hG,hR⟩
   refine hU _ ?_
   nofun
   exact q G hG hR
abbrev a06:bq:=λds Q=>∃T:List (List Nat),ds=[.lst false (ay false T)]/\T.length<=1000/\(∀r∈T,r.length<=1000)/\Q (.int (av T:Nat))
theorem GQ(T:Txt K mg t):aN P w K mg base aR 1 t.Mw t.Mx ["table"] (br (a06 )):=by
 refine bD T.BY aZ9 ?_ ?_
 ·intro ds Q h
  obtain⟨G,rfl,hG,hr,q⟩:=h<;>rfl
 ·intro aD A outer s H E hr
  refine⟨_,(aH (aX (c81 (cq (gM (cM hr)) (bv 0) (aa (dS cH)) (bP _)) (cY (gE) (by rfl) T.gj fY (ag (bE (bv 0) (aa aj) (λ_ _=>rfl)) ax)) aj))),λds Q h=>?_⟩
  obtain⟨G,rfl,hG,hr,q⟩:=h
  nofun
  refine⟨by decide,⟨wj 4 _ _ _,rfl⟩,?_⟩
  rw[show(D.lst true ([]:List D))=D.lst true (ay true []) from rfl,Zp]
  cases G with
  | nil=>rw[if_neg (by simp)];exact q
  | cons r G =>
   rw[if_pos (by simp)]
   refine⟨.lst false (ak r),sZ false (T:=r::G) (i:=0) (oQ _),?_⟩
   show Q (D.int ((ak r).length:Nat))
   rw[eo];exact q
abbrev aW8:bq:=λds Q=>∃(T:List (List Nat)) (j:Nat),ds=[.lst false (ay false T),.int j]/\T.length<=1000/\(∀r∈T,j<r.length)/\Q (match jQ T j with | some i=>.int (i:Nat) | none=>.aw)
theorem aW9(T:Txt K mg t):aN P w K mg base aR 1 t.Mz t.MA ["rows","place"] (br (aW8 )):=by
 refine bD T.da6 π ?_ ?_
 ·intro ds Q h
  obtain⟨G,j,rfl,hG,hr,q⟩:=h<;>rfl
 ·intro aD A outer s H E hr
  refine⟨_,(aA (gg eR rfl (sC rfl T.tJ (ag (bv 0) ax)) (iC (i1:=2) (i2:=3) rfl π.nd rfl (ai rfl) rfl (ai rfl))
    (aH (cT (cq (gM (cM hr)) (bE (bv 3) (bv 1) (λ_ _=>rfl)) (aa aj) (bP _)) (aH (aX (em 2))) cS)))
   (aH (aX Kb))),λds Q h=>?_⟩
  obtain⟨G,j,rfl,hG,hr,q⟩:=h
  refine az λU hU=>?_
  nofun
  refine gb.mk (λi δ=>∃o1 o2,δ=[some (D.lst false (ay false G)),some (D.int j),o1,o2]/\∀k,k<i->(G.getD k []).getD j 0=0) ⟨_,_,rfl,λk hk=>absurd hk (Nat.not_lt_zero k)⟩ ?_ ?_
  ·rintro i d δ hd ⟨o1,o2,rfl,hz⟩
   obtain⟨hi,rfl⟩:=Zq hd
   have hj:=hr _ (dE hi)
   have eg:G.getD i []=G[i]:=by rw[aU,aP hi];rfl
   nofun
   refine⟨.int (G[i].getD j 0:Nat),by rw[oi (by omega) (by omega),gU],rfl,?_⟩
   rw[jL]
   by_cases h0:G[i].getD j 0=0
   ·rw[if_neg (by rw[h0];decide)]
    refine⟨_,_,⟨rfl,rfl⟩,λk hk=>?_⟩
    by_cases e:k=i
    ·rw[e,eg];exact h0
    ·exact hz k (by omega)
   ·rw[if_pos (by rw[decide_eq_false (by omega)];rfl)]
    have ef:jQ G j=some i:=by
     unfold jQ
     rw[dE4]
     refine⟨hi,by simpa using h0,λk hk=>?_⟩
     have:=hz k hk
     rw[aU (l:=G),aP (by omega)]at this
     simpa using this
    rw[ef]at q
    exact q
  ·rintro δ ⟨o1,o2,rfl,hz⟩
   refine hU _ ?_
   nofun
   have ef:jQ G j=none:=by
    unfold jQ
    rw[dE5]
    intro r bx
    obtain⟨i,hi,rfl⟩:=kD bx
    have:=hz i (by rw[sA,kn];exact hi)
    rw[aU (l:=G),aP hi]at this
    simpa using this
   rw[ef]at q
   exact q
abbrev ax6(K:Frag):bq:=λds Q=>∃(C:Addr) (p a:Nat) (xs:List Nat),ds=[sO C p,.int a,.lst false (ak xs)]/\cB K C/\aG K C "products"/\p∈gO/\a<ae (true,p)/\(∀y∈xs,y<ae (true,p))/\xs.length<=1000/\Q (.lst true (ak (xs.map (gm (true,p) a))))
theorem aL9(T:Txt K mg t):aN P w K mg base aR 1 t.MB t.MC ["self","a","row"] (br (ax6 K)):=by
 refine bD T.aN8 ρ ?_ ?_
 ·intro ds Q h
  obtain⟨C,p,a,xs,rfl,hC,hn,hp,ha,hy,hl,q⟩:=h<;>rfl
 ·intro aD A outer s H E hr
  refine⟨_,(aA (aZ (i:=3) ρ.nd rfl (aW rfl) (dm (bE (dW (K:=K) (bv 0)) (bv 1) (λ_ _=>rfl))))
   (aH (aX (dX [("by_a",3)] ["x"] rfl (hJ (bv 2)) (λ_ _ _ _=>(cI (i:=1) (show(["by_a","x"]:List Str).Nodup by decide +kernel) rfl (ai (lr1 rfl)) (by decide) (aW (lr1 rfl)))) (λ_ _ _ _=>dB) (λ_ _ _ _=>(dm (bE (bv 0) (bv 1) (λ_ _=>rfl)))) rfl ⟨rfl,trivial⟩ (λ_=>by repeat' (first | exact trivial | refine⟨.inl rfl,?_⟩ | refine⟨.inr (.inl rfl),?_⟩ | refine⟨.inr (.inr ⟨_,rfl⟩),?_⟩)) (λ_=>⟨⟨rfl,.inl rfl,.inl rfl,_,rfl,rfl⟩,trivial⟩) rfl (by decide +kernel))))),λds Q h=>?_⟩
  obtain⟨C,p,a,xs,rfl,hC,hn,hp,ha,hy,hl,q⟩:=h
  refine az λU hU=>?_
  nofun
  refine⟨C,_,_,_,rfl,hC,hn,rfl,_,EI hp ha,?_⟩
  refine⟨by rw[fZ,nW];rfl,hU _ ?_⟩
  clear hU U
  nofun
  refine eN xs (λ(i:Nat)=>D.int (i:Int)) (λx=>D.int ((gm (true,p) a x:Nat):Int)) (pJ xs) iQ (λx hx=>?_) (.inr λ_ _=>rfl) (by rw[sL];omega) ?_
  ·nofun
   exact⟨_,EH hp ha (hy x hx),rfl,rfl⟩
  ·rw[cE,cA]at q
   exact q
abbrev av1(K:Frag):bq:=λds Q=>∃(C:Addr) (p a:Nat) (xs:List Nat),ds=[sN C p,.int a,.lst false (ak xs)]/\cB K C/\aG K C "prime"/\0<p/\a<64/\(∀y∈xs,y<64)/\xs.length<=1000/\Q (.lst true (ak (xs.map (gm (false,p) a))))
theorem aH3(T:Txt K mg t):aN P w K mg base aR 1 t.MD t.ME ["self","a","row"] (br (av1 K)):=by
 refine bD T.aI9 τ ?_ ?_
 ·intro ds Q h
  obtain⟨C,p,a,xs,rfl,hC,hn,hp,ha,hy,hl,q⟩:=h<;>rfl
 ·intro aD A outer s H E hr
  refine⟨_,(aA (aZ (i:=3) τ.nd rfl (aW rfl) (dm (dW (K:=K) (bv 0))))
   (aH (aX (dX [("prime",3),("a",1)] ["x"] rfl (hJ (bv 2)) (λ_ _ _ _=>(cI (i:=2) (show(["prime","a","x"]:List Str).Nodup by decide +kernel) rfl (ai (lr1 rfl)) (by decide) (aW (lr1 rfl)))) (λ_ _ _ _=>dB) (λ_ _ _ _=>(aB dH (aa (aB fA (bv 1) (bv 2))) (bv 0))) rfl ⟨rfl,⟨rfl,trivial⟩⟩ (λ_=>by repeat' (first | exact trivial | refine⟨.inl rfl,?_⟩ | refine⟨.inr (.inl rfl),?_⟩ | refine⟨.inr (.inr ⟨_,rfl⟩),?_⟩)) (λ_=>⟨⟨rfl,.inl rfl,.inl rfl,_,rfl,rfl⟩,⟨⟨rfl,.inl rfl,.inl rfl,_,rfl,rfl⟩,trivial⟩⟩) rfl (by decide +kernel))))),λds Q h=>?_⟩
  obtain⟨C,p,a,xs,rfl,hC,hn,hp,ha,hy,hl,q⟩:=h
  refine az λU hU=>?_
  nofun
  refine⟨C,_,_,.int p,rfl,hC,hn,rfl,rfl,hU _ ?_⟩
  clear hU U
  nofun
  refine eN xs (λ(i:Nat)=>D.int (i:Int)) (λx=>D.int ((gm (false,p) a x:Nat):Int)) (pJ xs) iQ (λx hx=>?_) (.inr λ_ _=>rfl) (by rw[sL];omega) ?_
  ·have h2:=hy x hx
   nofun
   refine⟨ig.ok (.inr ⟨by omega,by omega⟩),by omega,?_⟩
   show _=((a*x%p:Nat):Int)
   rw[oM,um]
  ·rw[cE,cA]at q
   exact q
theorem cq0(T:Txt K mg t){m:Bool × Nat}(hm:m∈aI):∃C ns zs sp,fD t.aC t.aF m=.obj C ns zs/\jO P w K mg base 1 "scaled" C sp/\("scaled":Str) ∉ ns/\∀(xs:List Nat) (a:Nat) (Q:D->Prop),a<ae m->(∀y∈xs,y<ae m)->xs.length<=1000->Q (.lst true (ak (xs.map (gm m a))))->sp [.obj C ns zs,.int a,.lst false (ak xs)] Q:=by
 have hF:=dn hm
 obtain⟨k,n⟩:=m
 cases k with
 | true=>exact⟨_,_,_,ax6 K,rfl,⟨T.fh,_,_,_,T.Cc,aL9 T,T.aN9⟩,by decide,λxs a Q ha hy hl q=>⟨_,n,a,xs,rfl,T.fh,T.oA,v7 hm,ha,hy,hl,q⟩⟩
 | false =>
  have kA:n<=64:=hF.hi
  have l2:2<=n:=hF.lo
  exact⟨_,_,_,av1 K,rfl,⟨T.fF,_,_,_,T.Cp,aH3 T,T.aJ0⟩,by decide,λxs a Q ha hy hl q=>⟨_,n,a,xs,rfl,T.fF,T.mT,by omega,du (show a<n from ha) kA,λy h=>du (show y<n from hy y h) kA,hl,q⟩⟩
abbrev av2(K:Frag):bq:=λds Q=>∃(C:Addr) (p a:Nat) (xs ys:List Nat),ds=[sO C p,.lst false (ak xs),.int a,.lst false (ak ys)]/\cB K C/\aG K C "products"/\p∈gO/\a<ae (true,p)/\(∀y∈ys,y<ae (true,p))/\xs.length<=1000/\Q (.lst true (ak (cW (λx y=>bR (true,p) x (gm (true,p) a y)) xs ys)))
theorem aH4(T:Txt K mg t):aN P w K mg base aR 1 t.MF t.MG ["self","row","a","other"] (br (av2 K)):=by
 refine bD T.aJ1 υ ?_ ?_
 ·intro ds Q h
  obtain⟨C,p,a,xs,ys,rfl,hC,hn,hp,ha,hy,hl,q⟩:=h<;>rfl
 ·intro aD A outer s H E hr
  refine⟨_,(aA (aZ (i:=4) υ.nd rfl (aW rfl) (dm (bE (dW (K:=K) (bv 0)) (bv 2) (λ_ _=>rfl))))
   (aH (aX (dX [("by_a",4)] ["x","y"] rfl (pI rfl T.qq (ag (bv 1) (ag (bv 3) ax))) (λ_ _ _ _=>(iC (i1:=1) (i2:=2) rfl (show(["by_a","x","y"]:List Str).Nodup by decide +kernel) rfl (ai (lr1 rfl)) rfl (ai (lr1 rfl)) (by decide) (by decide) (aW (lr1 rfl)) (aW (lr1 rfl)))) (λ_ _ _ _=>dB) (λ_ _ _ _=>(aB An (bv 1) (bE (bv 0) (bv 2) (λ_ _=>rfl)))) rfl ⟨rfl,trivial⟩ (λ_=>by repeat' (first | exact trivial | refine⟨.inl rfl,?_⟩ | refine⟨.inr (.inl rfl),?_⟩ | refine⟨.inr (.inr ⟨_,rfl⟩),?_⟩)) (λ_=>⟨⟨rfl,.inl rfl,.inl rfl,_,rfl,rfl⟩,trivial⟩) rfl (by decide +kernel))))),λds Q h=>?_⟩
  obtain⟨C,p,a,xs,ys,rfl,hC,hn,hp,ha,hy,hl,q⟩:=h
  refine az λU hU=>?_
  nofun
  refine⟨C,_,_,_,rfl,hC,hn,rfl,_,EI hp ha,?_⟩
  refine⟨by rw[fZ,nW];rfl,hU _ ?_⟩
  clear hU U
  nofun
  refine⟨_,_,rfl,rfl,Lh (λx y=>bR (true,p) x (gm (true,p) a y)) (λx hx y GR=>?_) (by omega) q⟩
  nofun
  refine⟨_,EH hp ha (hy y GR),?_⟩
  show oI (x:Int) ((gm (true,p) a y:Nat):Int)=_
  rw[nI];rfl
abbrev ar8(K:Frag):bq:=λds Q=>∃(C:Addr) (p a:Nat) (xs ys:List Nat),ds=[sN C p,.lst false (ak xs),.int a,.lst false (ak ys)]/\cB K C/\aG K C "prime"/\0<p/\a<64/\(∀y∈ys,y<64)/\xs.length<=1000/\Q (.lst true (ak (cW (λx y=>bR (false,p) x (gm (false,p) a y)) xs ys)))
theorem aE9(T:Txt K mg t):aN P w K mg base aR 1 t.MH t.MI ["self","row","a","other"] (br (ar8 K)):=by
 refine bD T.aG1 χ ?_ ?_
 ·intro ds Q h
  obtain⟨C,p,a,xs,ys,rfl,hC,hn,hp,ha,hy,hl,q⟩:=h<;>rfl
 ·intro aD A outer s H E hr
  refine⟨_,(aA (aZ (i:=4) χ.nd rfl (aW rfl) (dm (dW (K:=K) (bv 0))))
   (aH (aX (dX [("prime",4),("a",2)] ["x","y"] rfl (pI rfl T.qq (ag (bv 1) (ag (bv 3) ax))) (λ_ _ _ _=>(iC (i1:=2) (i2:=3) rfl (show(["prime","a","x","y"]:List Str).Nodup by decide +kernel) rfl (ai (lr1 rfl)) rfl (ai (lr1 rfl)) (by decide) (by decide) (aW (lr1 rfl)) (aW (lr1 rfl)))) (λ_ _ _ _=>dB) (λ_ _ _ _=>(aB dH (aa (aB dG (bv 2) (aa (aB fA (bv 1) (bv 3))))) (bv 0))) rfl ⟨rfl,⟨rfl,trivial⟩⟩ (λ_=>by repeat' (first | exact trivial | refine⟨.inl rfl,?_⟩ | refine⟨.inr (.inl rfl),?_⟩ | refine⟨.inr (.inr ⟨_,rfl⟩),?_⟩)) (λ_=>⟨⟨rfl,.inl rfl,.inl rfl,_,rfl,rfl⟩,⟨⟨rfl,.inl rfl,.inl rfl,_,rfl,rfl⟩,trivial⟩⟩) rfl (by decide +kernel))))),λds Q h=>?_⟩
  obtain⟨C,p,a,xs,ys,rfl,hC,hn,hp,ha,hy,hl,q⟩:=h
  refine az λU hU=>?_
  nofun
  refine⟨C,_,_,.int p,rfl,hC,hn,rfl,rfl,hU _ ?_⟩
  clear hU U
  nofun
  refine⟨_,_,rfl,rfl,Lh (λx y=>bR (false,p) x (gm (false,p) a y)) (λx hx y GR=>?_) (by omega) q⟩
  have h2:=hy y GR
  nofun
  refine⟨ig.ok (.inr ⟨by omega,by omega⟩),by omega,?_⟩
  have e:((x:Int)-((a*y%p:Nat):Int))%(p:Int)=((x:Int)-(a:Int)*y)%p:=by
   rw[oM,um,Int.sub_emod,Int.emod_emod,<- Int.sub_emod]
  show _=(((((x:Int)-((a*y%p:Nat):Int))%(p:Int)).toNat:Nat):Int)
  rw[e,zu (gW _ (by omega))]
theorem bD9(T:Txt K mg t){m:Bool × Nat}(hm:m∈aI):∃C ns zs sp,fD t.aC t.aF m=.obj C ns zs/\jO P w K mg base 1 "lessened" C sp/\("lessened":Str) ∉ ns/\∀(xs ys:List Nat) (a:Nat) (Q:D->Prop),a<ae m->(∀y∈ys,y<ae m)->xs.length<=1000->Q (.lst true (ak (cW (λx y=>bR m x (gm m a y)) xs ys)))->sp [.obj C ns zs,.lst false (ak xs),.int a,.lst false (ak ys)] Q:=by
 have hF:=dn hm
 obtain⟨k,n⟩:=m
 cases k with
 | true=>exact⟨_,_,_,av2 K,rfl,⟨T.fh,_,_,_,T.B9,aH4 T,T.aJ2⟩,by decide,λxs ys a Q ha hy hl q=>⟨_,n,a,xs,ys,rfl,T.fh,T.oA,v7 hm,ha,hy,hl,q⟩⟩
 | false =>
  have kA:n<=64:=hF.hi
  have l2:2<=n:=hF.lo
  exact⟨_,_,_,ar8 K,rfl,⟨T.fF,_,_,_,T.Cm,aE9 T,T.aG2⟩,by decide,λxs ys a Q ha hy hl q=>⟨_,n,a,xs,ys,rfl,T.fF,T.mT,by omega,du (show a<n from ha) kA,λy h=>du (show y<n from hy y h) kA,hl,q⟩⟩
abbrev a73(cb cp:Addr):bq:=λds Q=>∃(m:Bool × Nat) (T:List (List Nat)) (l:List Nat) (j:Nat),ds=[fD cb cp m,.lst false (ay false T),.lst false (ak l),.int j]/\m∈aI/\T.length<=1000/\AllLt (ae m) l/\(∀r∈T,j<r.length/\r.length<=1000/\AllLt (ae m) r)/\Q (.lst true (ay true (T.map λr=>cW (λx y=>bR m x (gm m (r.getD j 0) y)) r l)))
theorem aS2(T:Txt K mg t):aN P w K mg base aR 2 t.MJ t.MK ["field","rows","lead_row","place"] (br (a73 t.aC t.aF)):=by
 refine bD T.Ol a07 ?_ ?_
 ·intro ds Q h
  obtain⟨m,G,l,j,rfl,hm,hG,hl,hr,q⟩:=h<;>rfl
 ·intro aD A outer s H E hr
  refine⟨_,(aH (aX (dX [("lead_row",2),("field",0),("place",3)] ["row"] rfl (hJ (bv 1)) (λ_ _ _ _=>(cI (i:=3) (show(["lead_row","field","place","row"]:List Str).Nodup by decide +kernel) rfl (ai (lr1 rfl)) (by decide) (aW (lr1 rfl)))) (λ_ _ _ _=>dB) (λ_ _ _ _=>(jt (P:=P) (w:=w) (K:=K) (mg:=mg) (base:=base) (n:=1) (bv 1) (hr.mono (by decide)) (ag (bv 3) (ag (bE (bv 3) (bv 2) (λ_ _=>rfl)) (ag (bv 0) ax))))) rfl ⟨rfl,⟨rfl,⟨rfl,trivial⟩⟩⟩ (λ_=>by repeat' (first | exact trivial | refine⟨.inl rfl,?_⟩ | refine⟨.inr (.inl rfl),?_⟩ | refine⟨.inr (.inr ⟨_,rfl⟩),?_⟩)) (λ_=>⟨⟨rfl,.inl rfl,.inl rfl,_,rfl,rfl⟩,⟨⟨rfl,.inl rfl,.inl rfl,_,rfl,rfl⟩,⟨⟨rfl,.inl rfl,.inl rfl,_,rfl,rfl⟩,trivial⟩⟩⟩) rfl (by decide +kernel)))),λds Q h=>?_⟩
  obtain⟨m,G,l,j,rfl,hm,hG,hl,hr,q⟩:=h
  nofun
  refine eN G (λr=>D.lst false (ak r)) (λr=>D.lst true (ak (cW (λx y=>bR m x (gm m (r.getD j 0) y)) r l))) (by rw[eA];rfl) (λa b h=>mO a b h) (λr bx=>?_) (.inr λr _=>hV _) (by rw[sL];omega) ?_
  ·obtain⟨h1,h2,h3⟩:=hr r bx
   obtain⟨C,ns,zs,sp,e1,e2,e3,e4⟩:=bD9 (P:=P) (w:=w) (base:=base) T hm
   nofun
   refine⟨C,ns,zs,sp,e1,e2,e3,.int (r.getD j 0:Nat),by rw[oi (by omega) (by omega),gU],e4 _ _ _ _ (h3.getD (by have:=(dn hm).lo;omega) j) hl h2 ⟨rfl,rfl⟩⟩
  ·rw[ay,cA]at q
   exact q
abbrev aI4(t:eX)(P:Program)(w:World)(K:Frag)(mg:Str->Option Value)(base:Heap):pH:=λds Q Ex=>∃(m:Bool × Nat) (a b:Nat),ds=[fD t.aC t.aF m,.int a,.int b]/\m∈aI/\a<ae m/\b<ae m/\(b=0->Ex t.iH)/\(b≠0->∀r:Nat,r<ae m->gm m r b=a->Q (.int (r:Nat)))
theorem aI5(T:Txt K mg t):aN P w K mg base (nJ P w) 2 t.Fl t.ML ["self","a","b"] (AY (aI4 t P w K mg base)):=by
 refine X6 T.aY1 aV5 ?_ ?_
 ·intro ds Q Ex h
  obtain⟨m,a,b,rfl,hm,ha,hb,qx,q⟩:=h<;>rfl
 ·intro aD A outer s H E hr
  refine⟨_,(aA (cT (cq (gC (cM hr)) (bv 2) (aa aj) (bP _)) (aH (Yb T.aR6 rfl (by rfl) (ag (aa Xm) ax))) cS)
   (aA (cT (cq (gC (cM hr)) (bv 1) (aa aj) (bP _)) (aH (aX aj)) cS)
   (aH (aX (jt (P:=P) (w:=w) (K:=K) (mg:=mg) (base:=base) (n:=1) (bv 0) (hr.mono (by decide)) (ag (aa (aB dG (bE (dW (K:=K) (bv 0)) (bv 1) (λ_ _=>rfl)) (bE (dW (K:=K) (bv 0)) (bv 2) (λ_ _=>rfl)))) ax)))))),λds Q Ex h=>?_⟩
  obtain⟨m,a,b,rfl,hm,ha,hb,qx,q⟩:=h
  refine az λU hU=>?_
  nofun
  split
  ·rename_i h0
   exact⟨by decide,qx (by omega)⟩
  ·rename_i h0
   have b0:b≠0:=by omega
   refine hU _ ?_
   clear hU U
   refine az λU hU=>?_
   nofun
   split
   ·rename_i h1
    have a0:a=0:=by omega
    subst a0
    exact q b0 0 ha (iF m b (dq m hm))
   ·rename_i h1
    have a0:a≠0:=by omega
    refine hU _ ?_
    clear hU U
    have hF:=dn hm
    obtain⟨r,e,EV,Ky⟩:=Y6 hm (show 1<=a by omega) ha (show 1<=b by omega) hb
    have qr:=q b0 r EV Ky
    obtain⟨k,n⟩:=m
    cases k with
    | true =>
     nofun
     have ll:(eO (fl (true,n))).length=ae (true,n):=(Bu _ _).trans hF.len
     have n0:=gW (lg (true,n) a-lg (true,n) b) (show(ae (true,n):Int)-1≠0 by have:=hF.lo;omega)
     have n1:=ib (lg (true,n) a-lg (true,n) b) (show(0:Int)<(ae (true,n):Int)-1 by have:=hF.lo;omega)
     refine⟨_,_,_,CF K,rfl,⟨T.fh,_,_,_,T.tw,CG T,T.BX⟩,by decide,_,_,_,_,rfl,T.fh,T.qg,rfl,_,mI (by omega) (by rw[ll];omega),_,_,_,_,rfl,T.fh,T.qg,rfl,_,mI (by omega) (by rw[ll];omega),?_⟩
     refine⟨_,_,_,_,ae (true,n),fl (true,n),r,rfl,T.fh,T.qh,T.oy,rfl,rfl,hF.lo,?_,qr⟩
     have hk:((lg (true,n) a-lg (true,n) b)%((ae (true,n):Int)-1)).toNat<(fl (true,n)).length:=by have:=hF.len;omega
     show(fl (true,n))[((lg (true,n) a-lg (true,n) b)%((ae (true,n):Int)-1)).toNat]?=some (r:Int)
     rw[<-e]
     unfold pw
     rw[aU,aP hk];rfl
    | false =>
     nofun
     have ll:(eO (fl (false,n))).length=ae (false,n):=(Bu _ _).trans hF.len
     have n0:=gW (lg (false,n) a-lg (false,n) b) (show(ae (false,n):Int)-1≠0 by have:=hF.lo;omega)
     have n1:=ib (lg (false,n) a-lg (false,n) b) (show(0:Int)<(ae (false,n):Int)-1 by have:=hF.lo;omega)
     refine⟨_,_,_,CF K,rfl,⟨T.fF,_,_,_,T.tG,CG T,T.BX⟩,by decide,_,_,_,_,rfl,T.fF,T.tE,rfl,_,mI (by omega) (by rw[ll];omega),_,_,_,_,rfl,T.fF,T.tE,rfl,_,mI (by omega) (by rw[ll];omega),?_⟩
     refine⟨_,_,_,_,ae (false,n),fl (false,n),r,rfl,T.fF,T.tF,T.oB,rfl,rfl,hF.lo,?_,qr⟩
     have hk:((lg (false,n) a-lg (false,n) b)%((ae (false,n):Int)-1)).toNat<(fl (false,n)).length:=by have:=hF.len;omega
     show(fl (false,n))[((lg (false,n) a-lg (false,n) b)%((ae (false,n):Int)-1)).toNat]?=some (r:Int)
     rw[<-e]
     unfold pw
     rw[aU,aP hk];rfl
theorem bO5(T:Txt K mg t)(m:Bool × Nat):EJ P w K mg base 2 "over" (if m.1 then t.aC else t.aF) (aI4 t P w K mg base):=by
 obtain⟨k,n⟩:=m
 cases k with
 | true=>exact⟨T.fh,_,_,_,T.Cb,aI5 T,T.aK5⟩
 | false=>exact⟨T.fF,_,_,_,T.Co,aI5 T,T.aK5⟩
abbrev a74(t:eX)(P:Program)(w:World)(K:Frag)(mg:Str->Option Value)(base:Heap):bq:=λds Q=>∃(m:Bool × Nat) (G:List (List Nat)),ds=[fD t.aC t.aF m,.lst false (ay false G)]/\m∈aI/\G.length<=900/\RT (ae m) (av G) G/\av G<=900/\Q (.lst true (ay true (bY m G)))
theorem aS3(T:Txt K mg t):aN P w K mg base aR 3 t.MM t.MN ["field","table"] (br (a74 t P w K mg base)):=by
 refine bD T.Om qe ?_ ?_
 ·intro ds Q h
  obtain⟨m,G,rfl,hm,hG,hR,hw,q⟩:=h<;>rfl
 ·intro aD A outer s H E hr
  refine⟨_,(aA (aZ (i:=2) qe.nd rfl (ai rfl) (dS cH))
   (aA (aZ (i:=3) qe.nd rfl (ai rfl) (dm (bv 1)))
   (aA (gg eR rfl (jI rfl T.gS (ag (aa (bB ((GQ T).mono (by decide)) hr rfl T.Fs T.BY.kp T.Ft aV (ag (bv 1) ax))) ax)) (cI (i:=4) qe.nd rfl (ai rfl))
    (Kf 3 (aA (aZ (i:=5) qe.nd rfl (ai rfl) (bB ((aW9 T).mono (by decide)) hr rfl T.ex5 T.da6.kp T.ex6 aV (ag (bv 3) (ag (bv 4) ax))))
    (aH (cT (cq cM8 (bv 5) (aa Kb) (bP _)) (aA (aZ (i:=6) qe.nd rfl (ai rfl) (jt (P:=P) (w:=w) (K:=K) (mg:=mg) (base:=base) (n:=1) (bv 0) (hr.mono (by decide)) (ag (aa (Y7 (P:=P) (w:=w) (K:=K) (mg:=mg) (base:=base) (n:=2) (bv 0) (hr.mono (by decide)) (ag (aa aj) (ag (bE (bE (bv 3) (bv 5) (λ_ _=>rfl)) (bv 4) (λ_ _=>rfl)) ax)))) (ag (bE (bv 3) (bv 5) (λ_ _=>rfl)) ax))))
     (aA (aZ (i:=3) qe.nd rfl (ai rfl) (bB ((aS2 T).mono (by decide)) hr rfl T.da7 T.Ol.kp T.da8 aV (ag (bv 0) (ag (aa (aB cU (aa (Bd (bv 3) Aq (Ar (bv 5)))) (aa (Bd (bv 3) (Ar (aa (aB cU (bv 5) (aa aj)))) Aq)))) (ag (bv 6) (ag (bv 4) ax))))))
     (aH (aZ (i:=2) qe.nd rfl (ai rfl) (cQ9 (bB ((aS2 T).mono (by decide)) hr rfl T.da7 T.Ol.kp T.da8 aV (ag (bv 0) (ag (bv 2) (ag (bv 6) (ag (bv 4) ax))))) (dS (cy (em 6) cH))))))) cS)))))
   (aH (aX (em 2)))))),λds Q h=>?_⟩
  obtain⟨m,G,rfl,hm,hG,hR,hw,q⟩:=h
  have fc:=(dn hm).lo
  refine az λU hU=>?_
  nofun
  refine⟨by decide,hU _ ?_⟩
  clear hU U
  refine az λU hU=>?_
  nofun
  refine hU _ ?_
  clear hU U
  refine az λU hU=>?_
  nofun
  refine⟨G,rfl,by omega,λr bx=>?_,?_⟩
  ·rw[(hR r bx).1];omega
  refine⟨_,rfl,⟨by omega,by omega⟩,?_⟩
  refine AX (λk δ=>∃(o:Bool) (o1 o2 o3:Option D),δ=[some (fD t.aC t.aF m),some (D.lst false (ay false G)),some (D.lst true (ay true (jR m G k).1)),some (D.lst o (ay o (jR m G k).2)),o1,o2,o3]) ⟨false,none,none,none,rfl⟩ ?_ ?_
  ·rintro k δ hk ⟨o,o1,o2,o3,rfl⟩
   have I:=EN hm hR k
   rw[Lk]
   generalize jR m G k=s at I ⊢
   simp only[gN,rF,jB,jA,oO,oN,zA,exists_eq_left',dQ,eA]
   clear hU
   have il:=I.l
   refine az λU hU=>?_
   nofun
   refine⟨s.2,k,rfl,by omega,λr bx=>by rw[(I.b r bx).1];omega,?_⟩
   cases e:jQ s.2 k with
   | none =>
    rw[show iG m s k=s by unfold iG;rw[e]]at hU
    refine hU _ ?_
    nofun
    exact⟨false,_,_,_,⟨rfl,rfl⟩,rfl,rfl,rfl⟩
   | some i =>
    obtain⟨hi,h1,h2⟩:=EM e
    have er:iG m s k=(gP m s.1 (eG m s.2 i k) k++[eG m s.2 i k],gP m (s.2.take i++s.2.drop (i+1)) (eG m s.2 i k) k):=by unfold iG;rw[e]
    rw[er]at hU
    refine hU _ ?_
    clear hU
    nofun
    obtain⟨C,ns,xs,sp,e1,e2,e3,e4⟩:=cq0 (P:=P) (w:=w) (base:=base) T hm
    refine az λU hU=>?_
    nofun
    obtain⟨lw,lr⟩:=I.b _ (dE hi)
    have bk:=lr.getD (show 0<ae m by omega) k
    refine⟨C,ns,xs,sp,e1,e2,e3,_,_,_,_,wb _ _ m,bO5 T m,Y8 m _ (by decide),.lst false (ak s.2[i]),sZ false hi,?_⟩
    dsimp only
    refine⟨.int (s.2[i].getD k 0:Nat),by rw[oi (by omega) (by omega),gU],m,1,s.2[i].getD k 0,by rw[wb];rfl,hm,fc,bk,λz=>absurd z h1,λ_ f hf hfo=>⟨rfl,.lst false (ak s.2[i]),sZ false hi,?_⟩⟩
    have ef:mP m (s.2[i].getD k 0)=f:=EL hm hf hfo
    rw[BB]
    refine e4 _ _ _ hf lr (by omega) ⟨by rw[hV,lR],hU _ ?_⟩
    have el:s.2[i].map (gm m f)=eG m s.2 i k:=by unfold eG;rw[h2,ef]
    rw[el]
    have ll:(eG m s.2 i k).length=av G:=by rw[<-el,bA];exact lw
    have la:AllLt (ae m) (eG m s.2 i k):=λx hx=>by
     rw[<-el]at hx
     obtain⟨y,_,rfl⟩:=bH.mp hx
     exact dD hm _ _
    generalize eG m s.2 i k=ld at ll la ⊢
    clear hU
    refine az λU hU=>?_
    nofun
    have OH:∀r∈s.2.take i++s.2.drop (i+1),r.length=av G/\AllLt (ae m) r:=λr bx=>by
     rcases bZ.mp bx with h | h
     ·exact I.b r (uh h)
     ·exact I.b r (qG h)
    have tfr:∀X:List (List Nat),(D.lst true (ay true X)).fr=true:=λX=>by rw[fL,pY];rfl
    rw[Yi,show((i:Int)+1)=((i+1:Nat):Int) by omega,KP,sY,eA]
    refine⟨by rw[iJ,lL];omega,m,_,ld,k,rfl,hm,by rw[dN,iJ,lL];omega,la,λr bx=>⟨by rw[(OH r bx).1];exact hk,by rw[(OH r bx).1];omega,(OH r bx).2⟩,tfr _,hU _ ?_⟩
    clear hU
    nofun
    refine⟨m,s.1,ld,k,rfl,hm,by omega,la,λr bx=>⟨by rw[(I.a r bx).1];exact hk,by rw[(I.a r bx).1];omega,(I.a r bx).2⟩,tfr _,by decide,_,_,rfl,rfl,?_,true,_,_,_,sY true _ [ld],⟨rfl,rfl⟩,rfl,rfl,rfl⟩
    rw[kn,bA]
    show s.1.length+1<=_
    omega
  ·rintro δ ⟨o,o1,o2,o3,rfl⟩
   refine hU _ ?_
   nofun
   exact q
abbrev a79:bq:=λds Q=>∃T:List (List Nat),ds=[.lst false (ay false T)]/\T.length<=1000/\Q (.lst true (ay true T))
theorem OI(T:Txt K mg t):aN P w K mg base aR 1 t.MP t.MQ ["table"] (br (a79 )):=by
 refine bD T.Fu a75 ?_ ?_
 ·intro ds Q h
  obtain⟨G,rfl,hG,q⟩:=h<;>rfl
 ·intro aD A outer s H E hr
  refine⟨_,(aH (aX (dX [] ["row"] rfl (hJ (bv 0)) (λ_ _ _ _=>(cI (i:=0) (show(["row"]:List Str).Nodup by decide +kernel) rfl (ai (lr1 rfl)) (by decide) (aW (lr1 rfl)))) (λ_ _ _ _=>dB) (λ_ _ _ _=>(rT (rX) (by rfl) T.mU mj (ag (bv 0) ax))) rfl trivial (λ_=>by repeat' (first | exact trivial | refine⟨.inl rfl,?_⟩ | refine⟨.inr (.inl rfl),?_⟩ | refine⟨.inr (.inr ⟨_,rfl⟩),?_⟩)) (λ_=>trivial) rfl (by decide +kernel)))),λds Q h=>?_⟩
  obtain⟨G,rfl,hG,q⟩:=h
  nofun
  refine eN G (λr=>D.lst false (ak r)) (λr=>D.lst true (ak r)) (by rw[eA];rfl) (λa b h=>mO a b h) (λr bx=>?_) (.inr λr _=>hV r) (by rw[sL];omega) q
  nofun
abbrev cq3:bq:=λds Q=>∃T:List (List Nat),ds=[.lst false (ay false T)]/\T.length<=1000/\(∀r∈T,r.length<=1000/\∃x∈r,x≠0)/\Q (.lst true (ak (T.map bc)))
theorem bU1(T:Txt K mg t):aN P w K mg base aR 1 t.MR t.MS ["rows"] (br (cq3 )):=by
 refine bD T.Ot cm8 ?_ ?_
 ·intro ds Q h
  obtain⟨G,rfl,hG,hr,q⟩:=h<;>rfl
 ·intro aD A outer s H E hr
  refine⟨_,(aH (aX (dX [] ["row"] rfl (hJ (bv 0)) (λ_ _ _ _=>(cI (i:=0) (show(["row"]:List Str).Nodup by decide +kernel) rfl (ai (lr1 rfl)) (by decide) (aW (lr1 rfl)))) (λ_ _ _ _=>dB) (by exact λ_ _ _ _=>(dm (bE (aa (dX [] ["place","x"] rfl (sC rfl T.tJ (ag (bv 0) ax)) (λ_ _ _ _=>(iC (i1:=0) (i2:=1) rfl (show(["place","x"]:List Str).Nodup by decide +kernel) rfl (ai (lr1 rfl)) rfl (ai (lr1 rfl)) (by decide) (by decide) (aW (lr1 rfl)) (aW (lr1 rfl)))) (λ_ _ _ _=>(Kl (cq (gM (cM hr)) (bv 1) (aa aj) (bP _)))) (λ_ _ _ _=>(dm (bv 0))) rfl trivial (λ_=>by repeat' (first | exact trivial | refine⟨.inl rfl,?_⟩ | refine⟨.inr (.inl rfl),?_⟩ | refine⟨.inr (.inr ⟨_,rfl⟩),?_⟩)) (λ_=>trivial) rfl (by decide +kernel))) (aa aj) (λ_ _=>rfl)))) rfl trivial (λ_=>by repeat' (first | exact trivial | refine⟨.inl rfl,?_⟩ | refine⟨.inr (.inl rfl),?_⟩ | refine⟨.inr (.inr ⟨_,rfl⟩),?_⟩)) (λ_=>trivial) rfl (by decide +kernel)))),λds Q h=>?_⟩
  obtain⟨G,rfl,hG,hr,q⟩:=h
  nofun
  refine eN G (λr=>D.lst false (ak r)) (λr=>D.int (bc r:Nat)) (by rw[eA];rfl) (λa b h=>mO a b h) (λr bx=>?_) (.inr λr _=>rfl) (by rw[sL];omega) ?_
  ·obtain⟨h1,x,hx,h3⟩:=hr r bx
   nofun
   refine Li (aM r.length) (λ(i:Nat)=>D.tup [.int (i:Int),.int ((r.getD i 0:Nat):Int)]) (λ(i:Nat)=>D.int (i:Int)) (λi=>r.getD i 0 != 0) (Lj r) (λa b h=>by injection h with h;simp at h;omega) (λi hi=>?_) (.inr λ_ _ _=>rfl) (by rw[cm,sL];omega) ?_
   ·nofun
    refine⟨?_,λ_=>trivial⟩
    by_cases h0:r.getD i 0=0
    ·rw[h0];rfl
    ·rw[decide_eq_false (by omega),bne_iff_ne.mpr h0];rfl
   ·refine⟨.int (bc r:Nat),L3.El (k:=0) ?_,rfl,rfl⟩
    rw[cu,Zr ⟨x,hx,h3⟩];rfl
  ·rw[cE,cA]at q
   exact q
abbrev aU2:bq:=λds Q=>∃(T:List (List Nat)) (w:Nat),ds=[.lst false (ay false T),.int w]/\T.length<=1000/\w<=1000/\(∀r∈T,r.length<=1000/\∃x∈r,x≠0)/\Q (.lst true (ak (fS T w)))
theorem aG5(T:Txt K mg t):aN P w K mg base aR 2 t.MT t.MU ["rows","width"] (br (aU2 )):=by
 refine bD T.Ou ω ?_ ?_
 ·intro ds Q h
  obtain⟨G,w,rfl,hG,hw,hr,q⟩:=h<;>rfl
 ·intro aD A outer s H E hr
  refine⟨_,(aA (aZ (i:=2) ω.nd rfl (aW rfl) (bB ((bU1 T).mono (by decide)) hr rfl T.db2 T.Ot.kp T.db3 aV (ag (bv 0) ax)))
   (aH (aX (dX [("taken",2)] ["place"] rfl (jI rfl T.gS (ag (bv 1) ax)) (λ_ _ _ _=>(cI (i:=1) (show(["taken","place"]:List Str).Nodup by decide +kernel) rfl (ai (lr1 rfl)) (by decide) (aW (lr1 rfl)))) (λ_ _ _ _=>(Kl (cq cJ6 (bv 1) (bv 0) (by with_unfolding_all rfl)))) (λ_ _ _ _=>(dm (bv 1))) rfl ⟨rfl,trivial⟩ (λ_=>by repeat' (first | exact trivial | refine⟨.inl rfl,?_⟩ | refine⟨.inr (.inl rfl),?_⟩ | refine⟨.inr (.inr ⟨_,rfl⟩),?_⟩)) (λ_=>⟨⟨rfl,.inl rfl,.inl rfl,_,rfl,rfl⟩,trivial⟩) rfl (by decide +kernel))))),λds Q h=>?_⟩
  obtain⟨G,w,rfl,hG,hw,hr,q⟩:=h
  refine az λU hU=>?_
  nofun
  refine⟨G,rfl,hG,hr,?_⟩
  refine hU _ ?_
  clear hU U
  nofun
  refine⟨⟨by omega,by omega⟩,Li (aM w) (λ(i:Nat)=>D.int (i:Int)) (λ(i:Nat)=>D.int (i:Int)) (λj=>!(G.map bc).contains j) (pV _ rfl) iQ (λj hj=>?_) (.inr λ_ _ _=>rfl) (by rw[cm,sL];omega) ?_⟩
  ·nofun
   exact⟨_,rfl,by rw[cl3],λ_=>trivial⟩
  ·rw[cE]at q
   exact q
abbrev aA6:bq:=λds Q=>∃(d:D) (a b:Nat),ds=[d,.int a,.int b]/\Q (.int (a ^^^ b:Nat))
theorem aO0(T:Txt K mg t):aN P w K mg base aR 1 t.MV t.MW ["self","a","b"] (br (aA6 )):=by
 refine bD T.aP4 aN0 ?_ ?_
 ·intro ds Q h
  obtain⟨d,a,b,rfl,q⟩:=h<;>rfl
 ·intro aD A outer s H E hr
  refine⟨_,(aH (aX (aB An (bv 1) (bv 2)))),λds Q h=>?_⟩
  obtain⟨d,a,b,rfl,q⟩:=h
  nofun
  rw[nI];exact q
abbrev av8(K:Frag):bq:=λds Q=>∃(C:Addr) (p:Nat) (a b:Int),ds=[sN C p,.int a,.int b]/\cB K C/\aG K C "prime"/\0<p/\Q (.int ((a-b)%p))
theorem aJ5(T:Txt K mg t):aN P w K mg base aR 1 t.MX t.MY ["self","a","b"] (br (av8 K)):=by
 refine bD T.aK6 aI7 ?_ ?_
 ·intro ds Q h
  obtain⟨C,p,a,b,rfl,hC,hn,hp,q⟩:=h<;>rfl
 ·intro aD A outer s H E hr
  refine⟨_,(aH (aX (aB dH (aa (aB dG (bv 1) (bv 2))) (dW (K:=K) (bv 0))))),λds Q h=>?_⟩
  obtain⟨C,p,a,b,rfl,hC,hn,hp,q⟩:=h
  nofun
  refine⟨C,_,_,.int p,rfl,hC,hn,rfl,?_⟩
  exact⟨by omega,q⟩
theorem cc1(T:Txt K mg t){m:Bool × Nat}(h0:0<m.2):∃C ns xs sp,fD t.aC t.aF m=.obj C ns xs/\jO P w K mg base 1 "minus" C sp/\("minus":Str) ∉ ns/\∀(a b:Nat) (Q:D->Prop),Q (.int (gl m a b))->sp [.obj C ns xs,.int a,.int b] Q:=by
 obtain⟨k,n⟩:=m
 cases k with
 | true=>exact⟨_,_,_,aA6,rfl,⟨T.fh,_,_,_,T.Ca,aO0 T,T.aP5⟩,by decide,λa b Q q=>⟨_,a,b,rfl,q⟩⟩
 | false=>exact⟨_,_,_,av8 K,rfl,⟨T.fF,_,_,_,T.Cn,aJ5 T,T.aK7⟩,by decide,λa b Q q=>⟨_,n,a,b,rfl,T.fF,T.mT,h0,q⟩⟩
abbrev aH5(cb cp:Addr):bq:=λds Q=>∃(m:Bool × Nat) (T:List (List Nat)) (w:Nat),ds=[fD cb cp m,.lst false (ay false T),.int w]/\m∈aI/\T.length<=1000/\w<=1000/\RT (ae m) w T/\(∀r∈T,∃x∈r,x≠0)/\Q (.lst true (ay true (iT m T w)))
theorem aH6(T:Txt K mg t):aN P w K mg base aR 3 t.MZ t.M4 ["field","rows","width"] (br (aH5 t.aC t.aF)):=by
 refine bD T.db6 xt ?_ ?_
 ·intro ds Q h
  obtain⟨m,G,wi,rfl,hm,hG,hw,hR,hr,q⟩:=h<;>rfl
 ·intro aD A outer s H E hr
  refine⟨_,(aA (aZ (i:=3) xt.nd rfl (ai rfl) (bB ((bU1 T).mono (by decide)) hr rfl T.db2 T.Ot.kp T.db3 aV (ag (bv 1) ax)))
   (aA (aZ (i:=4) xt.nd rfl (ai rfl) (dS cH))
   (Kf 3 (aA (gg eR rfl (D9 (bB ((aG5 T).mono (by decide)) hr rfl T.db4 T.Ou.kp T.db5 aV (ag (bv 1) (ag (bv 2) ax)))) (cI (i:=5) xt.nd rfl (ai rfl))
    (aA (aZ (i:=6) xt.nd rfl (ai rfl) (aB fA (aa (dS (cy aj cH))) (bv 2)))
    (aA (sk (i:=6) rfl (by first | exact ai rfl | exact aW (ai rfl)) aj (bv 5))
    (aA (gg eR rfl (pI rfl T.qq (ag (bv 3) (ag (bv 1) ax))) (iC (i1:=7) (i2:=8) rfl xt.nd rfl (ai rfl) rfl (ai rfl))
     (aH (sk (i:=6) rfl (by first | exact ai rfl | exact aW (ai rfl)) (jt (P:=P) (w:=w) (K:=K) (mg:=mg) (base:=base) (n:=1) (bv 0) (hr.mono (by decide)) (ag (aa aj) (ag (bE (bv 8) (bv 5) (λ_ _=>rfl)) ax))) (bv 7))))
    (aH (kQ (i:=4) rfl (by first | exact ai rfl | exact aW (ai rfl)) (em 6)))))))
   (aH (aX (em 4))))))),λds Q h=>?_⟩
  obtain⟨m,G,wi,rfl,hm,hG,hw,hR,hr,q⟩:=h
  have m0:=dq m hm
  have fc:=(dn hm).lo
  refine az λU hU=>?_
  nofun
  refine⟨G,rfl,hG,λr bx=>⟨by rw[(hR r bx).1];exact hw,hr r bx⟩,hU _ ?_⟩
  clear hU U
  refine az λU hU=>?_
  nofun
  refine⟨by decide,hU _ ?_⟩
  clear hU U
  refine⟨_,rfl,?_⟩
  rw[BB]
  simp only[jB,jA]
  refine az λU hU=>?_
  nofun
  refine⟨G,wi,rfl,hG,hw,λr bx=>⟨by rw[(hR r bx).1];exact hw,hr r bx⟩,?_⟩
  refine⟨_,rfl,?_⟩
  have hfp:∀j∈fS G wi,j<wi:=λj hj=>da.mp (tR.mp hj).1
  have lfp:(fS G wi).length<=wi:=by
   have:=dF1 (λj=>!(G.map bc).contains j) (aM wi)
   rw[cm]at this
   exact this
  rw[sE]
  refine gb.mk (λi δ=>∃o1 o2 o3 o4,δ=[some (fD t.aC t.aF m),some (D.lst false (ay false G)),some (D.int wi),some (D.lst false (ak (G.map bc))),some (D.lst true (ay true (((fS G wi).take i).map (gQ m G wi)))),o1,o2,o3,o4]) ⟨_,_,_,_,rfl⟩ ?_ ?_
  ·rintro i d δ hd ⟨o1,o2,o3,o4,rfl⟩
   rw[cE,cu]at hd
   obtain⟨f,hf,rfl⟩:=Di.mp hd
   have hfw:=hfp f (tZ hf)
   clear hd
   refine az λU hU=>?_
   nofun
   have er:aJ (bo wi 0)=ak (bo wi 0):=by
    rw[cE,qI];unfold aJ;rw[qI];rfl
   rw[gU,er]
   refine⟨by decide,⟨by omega,by omega,by omega⟩,hU _ ?_⟩
   clear hU
   refine az λU hU=>?_
   nofun
   refine⟨_,f,rfl,?_,?_⟩
   ·rw[sU (by omega) (by rw[eo,fW];omega)];rfl
   rw[show(ak (bo wi 0)).set f (D.int 1)=ak ((bo wi 0).set f 1) from Zj _ _ 1]
   refine hU _ ?_
   clear hU
   refine az λU hU=>?_
   nofun
   refine⟨_,_,rfl,rfl,?_⟩
   refine gb.mk (λk δ=>∃o3 o4,δ=[some (fD t.aC t.aF m),some (D.lst false (ay false G)),some (D.int wi),some (D.lst false (ak (G.map bc))),some (D.lst true (ay true (((fS G wi).take i).map (gQ m G wi)))),some (D.int f),some (D.lst true (ak ((((G.map bc).zip G).take k).foldl (λx z=>x.set z.1 (bR m 0 (z.2.getD f 0))) ((bo wi 0).set f 1)))),o3,o4]) ⟨_,_,rfl⟩ ?_ ?_
   ·rintro k d δ hd ⟨o3,o4,rfl⟩
    obtain⟨hk,rfl⟩:=cG1 hd
    clear hd
    obtain⟨lw,la⟩:=hR _ (dE hk)
    have xl:=Zt (λz:Nat × List Nat=>z.1) (λz=>bR m 0 (z.2.getD f 0)) (((G.map bc).zip G).take k) ((bo wi 0).set f 1)
    rw[jY,fW]at xl
    obtain⟨C,ns,xs,sp,e1,e2,e3,e4⟩:=cc1 (P:=P) (w:=w) (base:=base) T m0
    have hld:bc G[k]<wi:=by
     rw[<-lw]
     obtain⟨x,hx,h0⟩:=hr _ (dE hk)
     exact Vz ⟨x,hx,by simpa using h0⟩
    have ga:=mM hm (a:=0) (b:=G[k].getD f 0) (by omega) (la.getD (by omega) f)
    nofun
    refine⟨C,ns,xs,sp,e1,e2,e3,.int (G[k].getD f 0:Nat),by rw[oi (by omega) (by omega),gU],e4 0 (G[k].getD f 0) _ ⟨rfl,_,bc G[k],rfl,?_,_,_,?_,rfl,rfl⟩⟩
    ·rw[sU (by omega) (by rw[eo,xl];omega)];rfl
    ·rw[ga.1,Zj,nh,Dm]
     have ez:((G.map bc).zip G)[k]?=some (bc G[k],G[k]):=by
      rw[List.zip,nq,cu,aP hk];rfl
     rw[ez];rfl
   ·rintro δ ⟨o3,o4,rfl⟩
    refine hU _ ?_
    nofun
    refine⟨⟨_,rfl⟩,by rw[bA,iJ];omega,_,_,_,_,?_,rfl,rfl,rfl,rfl⟩
    rw[show((G.map bc).zip G).take (dJ (ak (G.map bc)) (ay false G)).length=(G.map bc).zip G from zi (by unfold dJ;rw[IT,i7,eo,kn];exact bK _),nh,hf,fv]
    exact sY true _ [gQ m G wi f]
  ·rintro δ ⟨o1,o2,o3,o4,rfl⟩
   refine hU _ ?_
   nofun
   rw[ug]
   exact q
abbrev aZ0(t:eX)(K:Frag):L2.Sp:=λvs H Q _=>∃(F H0:Hp) (x dx C:Addr) (vf vc:V) (m:Bool × Nat) (G:List (List Nat)) (pre:List (Str × V)),vs=[.ref x,vf,vc]/\L3.af F H0/\H0 x=none/\L3.af H0 H/\H x=some (.ins C dx (pre++[]))/\tu pre/\ep5 K C /\
 R F H0 [fD t.aC t.aF m] [vf] []/\R F H0 [.lst false (ay false G)] [vc] []/\m∈aI/\RT (ae m) (av G) G/\G.length<=64/\av G<=64 /\
 ∀H' p1 p2 p3 A1 A2 A3,bO x H H'->H' x=some (.ins C dx (pre++oo.zip [vf,.int (av G:Nat),.ref p1,.ref p2,.ref p3,.int ((fS (bY m G) (av G)).length:Nat)]))->R (λ_=>none) H' [.lst true (ay true G)] [.ref p1] A1->R (λ_=>none) H' [.lst true (ay true (iT m (bY m G) (av G)))] [.ref p2] A2->R (λ_=>none) H' [.lst true (ak (fS (bY m G) (av G)))] [.ref p3] A3->(A1++(A2++A3)).Nodup->(∀a∈A1++(A2++A3),H a=none)->Q .aw H'
theorem OJ(T:Txt K mg t):aN P w K mg base aR 4 t.M5 t.M6 ["self","field","checks"] (aZ0 t K):=by
 refine T.ez2.ok Γ (λvs H Q E h=>?_) λaD A outer s H vs Q E hr h=>?_
 ·obtain⟨F,H0,x,dx,C,vf,vc,m,G,pre,rfl,_⟩:=h;rfl
 obtain⟨F,H0,x,dx,C,vf,vc,m,G,pre,rfl,e0,gB,s0,hx,hp,hC,rf,rc,hm,hG,hGl,hGw,q⟩:=h
 refine⟨_,eV (Jk (i:=3) Γ.nd rfl (ai rfl) (jg ((aS3 T).mono (by decide)) hr rfl T.db0 T.Om.kp T.db1 .nil aV (bX (pv 1) (bX (pv 2) e7))))
  (eV (gZ (pv 0) (pv 1) rfl)
  (eV (gZ (pv 0) (jg ((GQ T).mono (by decide)) hr rfl T.Fs T.BY.kp T.Ft .nil aV (bX (pv 2) e7)) rfl)
  (eV (gZ (pv 0) (jg ((OI T).mono (by decide)) hr rfl T.Oo T.Fu.kp T.Oq .nil aV (bX (pv 2) e7)) rfl)
  (eV (gZ (pv 0) (jg ((aH6 T).mono (by decide)) hr rfl T.ez0 T.db6.kp T.ez1 .nil aV (bX (pv 1) (bX (pv 3) (bX (qX (pv 0) rfl) e7)))) rfl)
  (eV (gZ (pv 0) (jg ((aG5 T).mono (by decide)) hr rfl T.db4 T.Ou.kp T.db5 .nil aV (bX (pv 3) (bX (qX (pv 0) rfl) e7))) rfl)
  (jc (gZ (pv 0) (DS Wr rfl T.gj fY (bX (qX (pv 0) rfl) e7)) rfl))))))),?_⟩
 have hn:=cO3 hm hG
 have hk:=LJ hm hG
 obtain⟨_,iR,iL,_⟩:=mQ hm hG
 have fR:∀X:List (List Nat),[D.lst true (ay true X)].all D.fr=true:=λX=>by rw[dy,fL,pY];rfl
 have fN:∀X:List Nat,[D.lst true (ak X)].all D.fr=true:=λX=>by rw[dy,hV];rfl
 refine⟨_,rfl,_,rfl,F,[fD t.aC t.aF m,.lst false (ay false G)],λd=>d=.lst true (ay true (bY m G)),e0.trans s0,R.cons (A:=[]) (rf.shared (L3.af.refl _) s0) (rc.shared (L3.af.refl _) s0),⟨m,G,rfl,hm,by omega,hG,by omega,rfl⟩,λd v F1 H1 A1 hd eQ CJ OK h31 r1 nd1 OL=>?_⟩
 subst hd
 obtain⟨p0,rfl⟩:=wC r1
 have cC:=eQ.get _ _ hx rfl
 have z1:bO x H H1:=eQ.x
 have r1:=r1.rq (fR _) CJ
 have yJ:∀X:List (List Nat),[D.lst true (ay true X)].map D.sh=[D.lst false (ay false X)]:=λX=>by rw[dv,dQ,eA];rfl
 have aw:∀{F' H':Hp} {d:D} {v:V} {A':List Addr},R F' H' [d] [v] A'->[d].all D.fr=true->R (λ_=>none) H' [d] [v] A':=λr h=>r.rq h (L3.af.of λb o e=>by cases e)
 have mv:∀{F' H' yK:Hp} {ds:List D} {vs:List V} {A':List Addr} {fs fs':List (Str × V)},R F' H' ds vs A'->L3.af H' yK->yK x=some (.ins C dx fs)->ds.all D.fr=true->R F' (upd yK x (.ins C dx fs')) ds vs A':=λr h de hd=>(r.grow (L3.af.refl _) h λa ha=>(r.lists a ha).2).sM de hd
 refine⟨vf,rfl,.ref x,rfl,x,C,dx,_,rfl,cC,hC.cls,hC.field,hp.lt (by decide),?_⟩
 have r2:=mv r1 (L3.af.refl _) cC (fR _) (fs':=bF "field" vf (pre++[]))
 have z2:=z1.trans (bO.upd (C:=x) (dx:=dx) cC rfl (o':=.ins C dx (bF "field" vf (pre++[]))))
 have dZ:upd H1 x (.ins C dx (bF "field" vf (pre++[]))) x=some (.ins C dx (pre++([("field",vf)]:List (Str × V)))):=by rw[bM,hp.put _ _ _ (by decide)];rfl
 generalize upd H1 x (.ins C dx (bF "field" vf (pre++[])))=H2 at r2 z2 dZ ⊢
 have t2:=bO.of0 gB s0 z2
 refine⟨_,rfl,F,[.lst false (ay false G)],λd=>d=.int (av G:Nat),e0.trans t2,rc.shared (L3.af.refl _) t2,⟨G,rfl,by omega,λr bx=>by rw[(hG r bx).1];omega,rfl⟩,λd v F3 H3 A3 hd ia CI he3 h33 r3 nd3 Jo=>?_⟩
 subst hd
 cases r3
 have fi:=ia.get _ _ dZ rfl
 refine⟨.ref x,rfl,x,C,dx,_,rfl,fi,hC.cls,hC.length,hp.lt (by show 1<=6;decide),?_⟩
 have r4:=mv r2 ia fi (fR _) (fs':=bF "length" (.int (av G:Nat)) (pre++([("field",vf)]:List (Str × V))))
 have z4:=(z2.trans (ia.x (x:=x))).trans (bO.upd (C:=x) (dx:=dx) fi rfl (o':=.ins C dx (bF "length" (.int (av G:Nat)) (pre++([("field",vf)]:List (Str × V))))))
 have jx:upd H3 x (.ins C dx (bF "length" (.int (av G:Nat)) (pre++([("field",vf)]:List (Str × V))))) x=some (.ins C dx (pre++([("field",vf),("length",.int (av G:Nat))]:List (Str × V)))):=by rw[bM,hp.put _ _ _ (by decide)];rfl
 generalize upd H3 x (.ins C dx (bF "length" (.int (av G:Nat)) (pre++([("field",vf)]:List (Str × V)))))=H4 at r4 z4 jx ⊢
 have t4:=bO.of0 gB s0 z4
 refine⟨_,rfl,F,[.lst false (ay false G)],λd=>d=.lst true (ay true G),e0.trans t4,rc.shared (L3.af.refl _) t4,⟨G,rfl,by omega,rfl⟩,λd v F5 H5 A5 hd kz hf5 he5 h35 r5 nd5 zN=>?_⟩
 subst hd
 obtain⟨p1,rfl⟩:=wC r5
 have iX:=kz.get _ _ jx rfl
 refine⟨.ref x,rfl,x,C,dx,_,rfl,iX,hC.cls,hC.ep6,hp.lt (by show 2<=6;decide),?_⟩
 have r6:=mv r4 kz iX (fR _) (fs':=bF "check_rows" (.ref p1) (pre++([("field",vf),("length",.int (av G:Nat))]:List (Str × V))))
 have k6:=mv (aw r5 (fR _)) (L3.af.refl _) iX (fR _) (fs':=bF "check_rows" (.ref p1) (pre++([("field",vf),("length",.int (av G:Nat))]:List (Str × V))))
 have z6:=(z4.trans (kz.x (x:=x))).trans (bO.upd (C:=x) (dx:=dx) iX rfl (o':=.ins C dx (bF "check_rows" (.ref p1) (pre++([("field",vf),("length",.int (av G:Nat))]:List (Str × V))))))
 have qu:upd H5 x (.ins C dx (bF "check_rows" (.ref p1) (pre++([("field",vf),("length",.int (av G:Nat))]:List (Str × V))))) x=some (.ins C dx (pre++([("field",vf),("length",.int (av G:Nat)),("check_rows",.ref p1)]:List (Str × V)))):=by rw[bM,hp.put _ _ _ (by decide)];rfl
 generalize upd H5 x (.ins C dx (bF "check_rows" (.ref p1) (pre++([("field",vf),("length",.int (av G:Nat))]:List (Str × V)))))=H6 at r6 k6 z6 qu ⊢
 have n5:∀a∈A5,H a=none:=λa ha=>z4.free (by rw[jx];simp) (zN a ha)
 have t6:=bO.of0 gB s0 z6
 have e6:=e0.trans t6
 refine⟨_,rfl,_,rfl,.ref x,rfl,x,C,dx,_,.int (av G:Nat),rfl,qu,hC.cls,hC.length,(hp.look _ _ (by decide)).trans rfl,L3.bz F H6 A1,[fD t.aC t.aF m,.lst false (ay false (bY m G)),.int (av G:Nat)],λd=>d=.lst true (ay true (iT m (bY m G) (av G))),nK e6,R.cons (A:=[]) (rf.shared (iy e6) t6) (R.cons (A:=[]) (yJ _ ▸ r6.bz e6 A1 λ_ h=>h) (.int .nil)),⟨m,bY m G,av G,rfl,hm,by omega,by omega,iR,hn,rfl⟩,λd v F7 H7 A7 hd oE hf7 he7 h37 r7 nd7 fr7=>?_⟩
 subst hd
 obtain⟨p2,rfl⟩:=wC r7
 have mV:=oE.get _ _ qu rfl
 refine⟨.ref x,rfl,x,C,dx,_,rfl,mV,hC.cls,hC.ep7,hp.lt (by show 3<=6;decide),?_⟩
 have r8:=mv r6 oE mV (fR _) (fs':=bF "word_rows" (.ref p2) (pre++([("field",vf),("length",.int (av G:Nat)),("check_rows",.ref p1)]:List (Str × V))))
 have k8:=mv k6 oE mV (fR _) (fs':=bF "word_rows" (.ref p2) (pre++([("field",vf),("length",.int (av G:Nat)),("check_rows",.ref p1)]:List (Str × V))))
 have w8:=mv (aw r7 (fR _)) (L3.af.refl _) mV (fR _) (fs':=bF "word_rows" (.ref p2) (pre++([("field",vf),("length",.int (av G:Nat)),("check_rows",.ref p1)]:List (Str × V))))
 have z8:=(z6.trans (oE.x (x:=x))).trans (bO.upd (C:=x) (dx:=dx) mV rfl (o':=.ins C dx (bF "word_rows" (.ref p2) (pre++([("field",vf),("length",.int (av G:Nat)),("check_rows",.ref p1)]:List (Str × V))))))
 have GS:upd H7 x (.ins C dx (bF "word_rows" (.ref p2) (pre++([("field",vf),("length",.int (av G:Nat)),("check_rows",.ref p1)]:List (Str × V))))) x=some (.ins C dx (pre++([("field",vf),("length",.int (av G:Nat)),("check_rows",.ref p1),("word_rows",.ref p2)]:List (Str × V)))):=by rw[bM,hp.put _ _ _ (by decide)];rfl
 generalize upd H7 x (.ins C dx (bF "word_rows" (.ref p2) (pre++([("field",vf),("length",.int (av G:Nat)),("check_rows",.ref p1)]:List (Str × V)))))=H8 at r8 k8 w8 z8 GS ⊢
 have n7:∀a∈A7,H a=none:=λa ha=>z6.free (by rw[qu];simp) (fr7 a ha)
 have d57:∀a∈A5,a ∉ A7:=λa ha hb=>by
  obtain⟨⟨ws,e⟩,_⟩:=k6.lists a ha
  rw[fr7 a hb]at e;cases e
 have t8:=bO.of0 gB s0 z8
 have e8:=e0.trans t8
 refine⟨_,rfl,.ref x,rfl,x,C,dx,_,.int (av G:Nat),rfl,GS,hC.cls,hC.length,(hp.look _ _ (by decide)).trans rfl,L3.bz F H8 A1,[.lst false (ay false (bY m G)),.int (av G:Nat)],λd=>d=.lst true (ak (fS (bY m G) (av G))),nK e8,R.cons (A:=[]) (yJ _ ▸ r8.bz e8 A1 λ_ h=>h) (.int .nil),⟨bY m G,av G,rfl,by omega,by omega,λr bx=>⟨by rw[(iR r bx).1];omega,hn r bx⟩,rfl⟩,λd v F9 H9 A9 hd GU hf9 he9 h39 r9 nd9 OM=>?_⟩
 subst hd
 obtain⟨p3,rfl⟩:=wC r9
 have CK:=GU.get _ _ GS rfl
 refine⟨.ref x,rfl,x,C,dx,_,rfl,CK,hC.cls,hC.ι,hp.lt (by show 4<=6;decide),?_⟩
 have yL:=mv k8 GU CK (fR _) (fs':=bF "message_places" (.ref p3) (pre++([("field",vf),("length",.int (av G:Nat)),("check_rows",.ref p1),("word_rows",.ref p2)]:List (Str × V))))
 have w10:=mv w8 GU CK (fR _) (fs':=bF "message_places" (.ref p3) (pre++([("field",vf),("length",.int (av G:Nat)),("check_rows",.ref p1),("word_rows",.ref p2)]:List (Str × V))))
 have ON:=mv (aw r9 (fN _)) (L3.af.refl _) CK (fN _) (fs':=bF "message_places" (.ref p3) (pre++([("field",vf),("length",.int (av G:Nat)),("check_rows",.ref p1),("word_rows",.ref p2)]:List (Str × V))))
 have z10:=(z8.trans (GU.x (x:=x))).trans (bO.upd (C:=x) (dx:=dx) CK rfl (o':=.ins C dx (bF "message_places" (.ref p3) (pre++([("field",vf),("length",.int (av G:Nat)),("check_rows",.ref p1),("word_rows",.ref p2)]:List (Str × V))))))
 have tO:upd H9 x (.ins C dx (bF "message_places" (.ref p3) (pre++([("field",vf),("length",.int (av G:Nat)),("check_rows",.ref p1),("word_rows",.ref p2)]:List (Str × V))))) x=some (.ins C dx (pre++([("field",vf),("length",.int (av G:Nat)),("check_rows",.ref p1),("word_rows",.ref p2),("message_places",.ref p3)]:List (Str × V)))):=by rw[bM,hp.put _ _ _ (by decide)];rfl
 generalize upd H9 x (.ins C dx (bF "message_places" (.ref p3) (pre++([("field",vf),("length",.int (av G:Nat)),("check_rows",.ref p1),("word_rows",.ref p2)]:List (Str × V)))))=H10 at yL w10 ON z10 tO ⊢
 have n9:∀a∈A9,H a=none:=λa ha=>z8.free (by rw[GS];simp) (OM a ha)
 have d59:∀a∈A5,a ∉ A9:=λa ha hb=>by
  obtain⟨⟨ws,e⟩,_⟩:=k8.lists a ha
  rw[OM a hb]at e;cases e
 have d79:∀a∈A7,a ∉ A9:=λa ha hb=>by
  obtain⟨⟨ws,e⟩,_⟩:=w8.lists a ha
  rw[OM a hb]at e;cases e
 obtain⟨ws,lw,ew⟩:∃ws,ws.length=(fS (bY m G) (av G)).length/\H10 p3=some (.lst ws):=by
  cases ON with
  | own h _ r _=>exact⟨_,by rw[<-r.length,eo],h⟩
 refine⟨.ref x,rfl,x,C,dx,_,.ref p3,rfl,tO,hC.cls,hC.ι,(hp.look _ _ (by decide)).trans rfl,p3,ws,rfl,.inl (bN.of ew),.ref x,rfl,x,C,dx,_,rfl,tO,hC.cls,hC.size,hp.lt (by show 5<=6;decide),?_⟩
 rw[lw]
 refine q _ p1 p2 p3 A5 A7 A9 (z10.trans (bO.upd (C:=x) (dx:=dx) tO rfl)) (by rw[bM,hp.put _ _ _ (by decide)];rfl) (mv yL (L3.af.refl _) tO (fR _)) (mv w10 (L3.af.refl _) tO (fR _)) (mv ON (L3.af.refl _) tO (fN _)) ?_ ?_
 ·exact gy.mpr ⟨nd5,gy.mpr ⟨nd7,nd9,d79⟩,λa ha hb=>(bZ.mp hb).elim (d57 a ha) (d59 a ha)⟩
 ·intro a ha
  rcases bZ.mp ha with ha | ha
  ·exact n5 a ha
  ·exact(bZ.mp ha).elim (n7 a) (n9 a)
abbrev OO(K:Frag):bq:=λds Q=>∃(C:Addr) (ns:List Str) (xs:List D) (n:Nat) (x:D),ds=[.obj C ns xs,x]/\cB K C/\aG K C "many"/\(ns.zip xs).lookup ("many":Str)=some (.int n)/\((∃i,x=.int i/\Q (.bl (decide (0<=i)&&decide (i<n))))\/(x=.aw/\Q (.bl false)))
theorem aG6(T:Txt K mg t):aN P w K mg base aR 1 t.Fm t.M7 ["self","x"] (br (OO K)):=by
 refine bD T.aV7 aT0 ?_ ?_
 ·intro ds Q h
  obtain⟨C,ns,xs,n,x,rfl,h1,h2,h3,q⟩:=h<;>rfl
 ·intro aD A outer s H E hr
  refine⟨_,(aH (aX (pk (aa (sg (by rfl) T.qp (by rfl) T.df7 WZ (bv 1))) (pk (aa (Xn (aa (sg (by rfl) T.qp (by rfl) T.df6 W0 (bv 1))))) (uv (rS kg rO (aa aj) (bv 1) (dW (K:=K) (bv 0)))))))),λds Q h=>?_⟩
  obtain⟨C,ns,xs,n,x,rfl,h1,h2,h3,q⟩:=h
  rcases q with⟨i,rfl,q⟩ | ⟨rfl,q⟩
  ·nofun
   split
   ·rename_i h0
    refine⟨C,ns,xs,_,rfl,h1,h2,h3,?_⟩
    dsimp only
    rw[decide_eq_true h0,lQ]at q
    exact q
   ·rename_i h0
    rw[decide_eq_false h0,tU]at q
    exact q
  ·nofun
   exact q
theorem cb1(T:Txt K mg t)(m:Bool × Nat){x:D}{Q:D->Prop}(h:(∃i,x=.int i/\Q (.bl (decide (0<=i)&&decide (i<ae m))))\/(x=.aw/\Q (.bl false))):Za P w K mg base 1 t.aC t.aF m "holds" [x] Q:=by
 obtain⟨k,n⟩:=m
 cases k with
 | true=>exact⟨_,_,_,OO K,rfl,⟨T.fh,_,_,_,T.B8,aG6 T,T.aH9⟩,by decide,_,_,_,ae (true,n),x,rfl,T.fh,T.oy,rfl,h⟩
 | false=>exact⟨_,_,_,OO K,rfl,⟨T.fF,_,_,_,T.Ck,aG6 T,T.aH9⟩,by decide,_,_,_,ae (false,n),x,rfl,T.fF,T.oB,rfl,h⟩
abbrev aO1(t:eX):bq:=λds Q=>∃(m:Bool × Nat) (G:List (List Nat)),ds=[fD t.aC t.aF m,.lst false (ay false G)]/\m∈aI/\RT (ae m) (av G) G/\1<=G.length/\G.length<=12/\2<=av G/\av G<=12/\Q (.bl true)
theorem aO2(T:Txt K mg t):aN P w K mg base aR 2 t.M8 t.M9 ["field","table"] (br (aO1 t)):=by
 refine bD T.db8 Δ ?_ ?_
 ·intro ds Q h
  obtain⟨m,G,rfl,hm,hR,g1,CL,w2,w12,q⟩:=h<;>rfl
 ·intro aD A outer s H E hr
  refine⟨_,(aA (cT (PW.pt (kL (cq rO (aa (cY (gE) (by rfl) T.gj fY (ag (bv 1) ax))) (aa aj) (bP _)) (lY (cq Kn (aa (cY (gE) (by rfl) T.gj fY (ag (bv 1) ax))) (aa aj) (bP _))))) (aH (aX iO)) cS)
   (aA (aZ (i:=2) Δ.nd rfl (aW rfl) (cY (gE) (by rfl) T.gj fY (ag (bE (bv 1) (aa aj) (λ_ _=>rfl)) ax)))
   (aA (cT (PW.pt (kL (cq rO (bv 2) (aa aj) (bP _)) (kL (cq Kn (bv 2) (aa aj) (bP _)) (lY (hE (aa (cY (cX9 rfl) (by rfl) T.df5 WY (ag (aa (dX [("width",2)] ["row"] rfl (hJ (bv 1)) (λ_ _ _ _=>(cI (i:=1) (show(["width","row"]:List Str).Nodup by decide +kernel) rfl (ai (lr1 rfl)) (by decide) (aW (lr1 rfl)))) (λ_ _ _ _=>dB) (λ_ _ _ _=>(uO (gM (cM hr)) (aa (cY (gE) (by rfl) T.gj fY (ag (bv 1) ax))) (bv 0) (bP _))) rfl ⟨rfl,trivial⟩ (λ_=>by repeat' (first | exact trivial | refine⟨.inl rfl,?_⟩ | refine⟨.inr (.inl rfl),?_⟩ | refine⟨.inr (.inr ⟨_,rfl⟩),?_⟩)) (λ_=>⟨⟨rfl,.inl rfl,.inl rfl,_,rfl,rfl⟩,trivial⟩) rfl (by decide +kernel))) ax)))))))) (aH (aX iO)) cS)
   (aH (aX (cY (vz rfl) (by rfl) T.yF uI (ag (aa (dX [("field",0)] ["row"] rfl (hJ (bv 1)) (λ_ _ _ _=>(cI (i:=1) (show(["field","row"]:List Str).Nodup by decide +kernel) rfl (ai (lr1 rfl)) (by decide) (aW (lr1 rfl)))) (λ_ _ _ _=>dB) (by exact λ_ _ _ _=>(cY (vz rfl) (by rfl) T.yF uI (ag (aa (dX [("field",0)] ["x"] rfl (hJ (bv 1)) (λ_ _ _ _=>(cI (i:=1) (show(["field","x"]:List Str).Nodup by decide +kernel) rfl (ai (lr1 rfl)) (by decide) (aW (lr1 rfl)))) (λ_ _ _ _=>dB) (λ_ _ _ _=>(jt (P:=P) (w:=w) (K:=K) (mg:=mg) (base:=base) (n:=1) (bv 0) (hr.mono (by decide)) (ag (bv 1) ax))) rfl ⟨rfl,trivial⟩ (λ_=>by repeat' (first | exact trivial | refine⟨.inl rfl,?_⟩ | refine⟨.inr (.inl rfl),?_⟩ | refine⟨.inr (.inr ⟨_,rfl⟩),?_⟩)) (λ_=>⟨⟨rfl,.inl rfl,.inl rfl,_,rfl,rfl⟩,trivial⟩) rfl (by decide +kernel))) ax))) rfl ⟨rfl,trivial⟩ (λ_=>by repeat' (first | exact trivial | refine⟨.inl rfl,?_⟩ | refine⟨.inr (.inl rfl),?_⟩ | refine⟨.inr (.inr ⟨_,rfl⟩),?_⟩)) (λ_=>⟨⟨rfl,.inl rfl,.inl rfl,_,rfl,rfl⟩,trivial⟩) rfl (by decide +kernel))) ax))))))),λds Q h=>?_⟩
  obtain⟨m,G,rfl,hm,hR,g1,CL,w2,w12,q⟩:=h
  obtain⟨g,G',rfl⟩:∃g G',G=g::G':=by
   cases G with
   | nil=>exact absurd g1 (by decide)
   | cons g G'=>exact⟨g,G',rfl⟩
  refine az λU hU=>?_
  nofun
  rw[if_neg (by omega),if_neg (by rw[jz]at CL;omega)]
  refine hU _ ?_
  clear hU U
  refine az λU hU=>?_
  nofun
  refine⟨.lst false (ak g),sZ false (T:=g::G') (i:=0) (oQ _),?_⟩
  show U [some (fD t.aC t.aF m),some (.lst false (ay false (g::G'))),some (.int ((ak g).length:Nat))]
  have gl:(ak g).length=av (g::G'):=by rw[eo];rfl
  rw[gl]
  generalize g::G'=G at hR g1 CL w2 w12 gl hU ⊢
  refine hU _ ?_
  clear hU U
  refine az λU hU=>?_
  nofun
  rw[if_neg (by omega),if_neg (by omega)]
  refine eN G (λr=>D.lst false (ak r)) (λ_=>D.bl false) (by rw[eA];rfl) (λa b h=>mO a b h) (λr bx=>?_) (.inr λr _=>rfl) (by rw[sL];omega) ?_
  ·have:=(hR r bx).1
   nofun
   rw[decide_eq_true (by omega)];rfl
  refine⟨G.map λ_=>false,by unfold mF;rw[cA];rfl,?_⟩
  rw[if_neg (by simp)]
  refine hU _ ?_
  clear hU U
  nofun
  refine eN G (λr=>D.lst false (ak r)) (λ_=>D.bl true) (by rw[eA];rfl) (λa b h=>mO a b h) (λr bx=>?_) (.inr λr _=>rfl) (by rw[sL];omega) ?_
  ·obtain⟨r1,r2⟩:=hR r bx
   nofun
   refine eN r (λ(i:Nat)=>D.int (i:Int)) (λ_=>D.bl true) (pJ _) iQ (λi hi=>?_) (.inr λ_ _=>rfl) (by rw[sL];omega) ?_
   ·have:=r2 i hi
    nofun
    refine cb1 T m (.inl ⟨_,rfl,?_⟩)
    rw[decide_eq_true (by omega),decide_eq_true (by omega)];rfl
   ·refine⟨r.map λ_=>true,by unfold mF;rw[cA];rfl,?_⟩
    simp
  ·refine⟨G.map λ_=>true,by unfold mF;rw[cA];rfl,?_⟩
   rw[show(G.map λ_=>true).all id=true by simp]
   exact q
abbrev cE5(t:eX)(P:Program)(w:World)(K:Frag)(mg:Str->Option Value)(base:Heap):bq:=λds Q=>∃(m:Bool × Nat) (G:List (List Nat)),ds=[fD t.aC t.aF m,.lst false (ay false G)]/\m∈aI/\G.length<=900/\RT (ae m) (av G) G/\av G<=900/\Q (.int (bY m G).length)
theorem cB6(T:Txt K mg t):aN P w K mg base aR 4 t.Na t.Nb ["field","table"] (br (cE5 t P w K mg base)):=by
 refine bD T.db9 cA6 ?_ ?_
 ·intro ds Q h
  obtain⟨m,G,rfl,hm,hG,hR,hw,q⟩:=h<;>rfl
 ·intro aD A outer s H E hr
  refine⟨_,(aH (aX (cY (gE) (by rfl) T.gj fY (ag (aa (bB ((aS3 T).mono (by decide)) hr rfl T.db0 T.Om.kp T.db1 aV (ag (bv 0) (ag (bv 1) ax)))) ax)))),λds Q h=>?_⟩
  obtain⟨m,G,rfl,hm,hG,hR,hw,q⟩:=h
  nofun
  refine⟨m,G,rfl,hm,hG,hR,hw,?_⟩
  dsimp only
  rw[kn];exact q
abbrev a80:bq:=λds Q=>∃T:List (List Nat),ds=[.lst false (ay false T)]/\T.length<=1000/\(∀r∈T,r.length=av T)/\av T<=1000/\Q (.lst true (ay true (eP T)))
theorem aV1(T:Txt K mg t):aN P w K mg base aR 2 t.Nc t.Nd ["table"] (br (a80 )):=by
 refine bD T.Ow a76 ?_ ?_
 ·intro ds Q h
  obtain⟨G,rfl,hG,hr,hw,q⟩:=h<;>rfl
 ·intro aD A outer s H E hr
  refine⟨_,(aH (aX (dX [("table",0)] ["j"] rfl (jI rfl T.gS (ag (aa (bB ((GQ T).mono (by decide)) hr rfl T.Fs T.BY.kp T.Ft aV (ag (bv 0) ax))) ax)) (λ_ _ _ _=>(cI (i:=1) (show(["table","j"]:List Str).Nodup by decide +kernel) rfl (aW rfl) (by decide) (ai rfl))) (λ_ _ _ _=>dB) (by exact λ_ _ _ _=>(dX [("j",1)] ["row"] rfl (hJ (bv 0)) (λ_ _ _ _=>(cI (i:=1) (show(["j","row"]:List Str).Nodup by decide +kernel) rfl (ai (lr1 rfl)) (by decide) (aW (lr1 rfl)))) (λ_ _ _ _=>dB) (λ_ _ _ _=>(dm (bE (bv 1) (bv 0) (λ_ _=>rfl)))) rfl ⟨rfl,trivial⟩ (λ_=>by repeat' (first | exact trivial | refine⟨.inl rfl,?_⟩ | refine⟨.inr (.inl rfl),?_⟩ | refine⟨.inr (.inr ⟨_,rfl⟩),?_⟩)) (λ_=>⟨⟨rfl,.inl rfl,.inl rfl,_,rfl,rfl⟩,trivial⟩) rfl (by decide +kernel))) rfl ⟨rfl,trivial⟩ (λ_=>by repeat' (first | exact trivial | refine⟨.inl rfl,?_⟩ | refine⟨.inr (.inl rfl),?_⟩ | refine⟨.inr (.inr ⟨_,rfl⟩),?_⟩)) (λ_=>⟨⟨rfl,.inl rfl,.inl rfl,_,rfl,rfl⟩,trivial⟩) rfl (by decide +kernel)))),λds Q h=>?_⟩
  obtain⟨G,rfl,hG,hr,hw,q⟩:=h
  nofun
  refine⟨G,rfl,hG,λr bx=>by rw[hr r bx];exact hw,?_⟩
  dsimp only
  refine⟨_,rfl,⟨by omega,by omega⟩,?_⟩
  refine eN (aM (av G)) (λ(i:Nat)=>D.int (i:Int)) (λj=>D.lst true (ak (G.map λr=>r.getD j 0))) (pV _ rfl) iQ (λj hj=>?_) (.inr λj _=>hV _) (by rw[cm,sL];omega) ?_
  ·have hj:=da.mp hj
   nofun
   refine eN G (λr=>D.lst false (ak r)) (λr=>D.int ((r.getD j 0:Nat):Int)) (by rw[eA];rfl) (λa b h=>mO a b h) (λr bx=>?_) (.inr λr _=>rfl) (by rw[sL];omega) ?_
   ·nofun
    have hl:=hr r bx
    exact⟨.int (r.getD j 0:Nat),by rw[oi (by omega) (by omega),gU],rfl,rfl⟩
   ·rw[cE,cA];rfl
  ·unfold eP ay at q
   rw[cA]at q
   exact q
abbrev aZ1:bq:=λds Q=>∃c:List Nat,ds=[.lst false (ak c)]/\c.length<=1000/\Q (.bl (nul c))
theorem aZ2(T:Txt K mg t):aN P w K mg base aR 1 t.Nf t.Ng ["column"] (br (aZ1 )):=by
 refine bD T.dd2 aX5 ?_ ?_
 ·intro ds Q h
  obtain⟨c,rfl,hc,q⟩:=h<;>rfl
 ·intro aD A outer s H E hr
  refine⟨_,(aH (aX (cY (vz rfl) (by rfl) T.yF uI (ag (aa (dX [] ["x"] rfl (hJ (bv 0)) (λ_ _ _ _=>(cI (i:=0) (show(["x"]:List Str).Nodup by decide +kernel) rfl (ai (lr1 rfl)) (by decide) (aW (lr1 rfl)))) (λ_ _ _ _=>dB) (λ_ _ _ _=>(uO (gC (cM hr)) (bv 0) (aa aj) (bP _))) rfl trivial (λ_=>by repeat' (first | exact trivial | refine⟨.inl rfl,?_⟩ | refine⟨.inr (.inl rfl),?_⟩ | refine⟨.inr (.inr ⟨_,rfl⟩),?_⟩)) (λ_=>trivial) rfl (by decide +kernel))) ax)))),λds Q h=>?_⟩
  obtain⟨c,rfl,hc,q⟩:=h
  nofun
  refine eN c (λ(i:Nat)=>D.int (i:Int)) (λ(x:Nat)=>D.bl (x==0)) (pJ _) iQ (λx hx=>?_) (.inr λ_ _=>rfl) (by rw[sL];omega) ?_
  ·nofun
   congr 1
   exact propext (by omega)
  dsimp only
  refine⟨c.map (·==0),by unfold mF;rw[cA];rfl,?_⟩
  rw[ni]
  exact q
abbrev aA7(K:Frag):bq:=λds Q=>∃(C:Addr) (p a b:Nat),ds=[sO C p,.int a,.int b]/\cB K C/\aG K C "products"/\p∈gO/\a<ae (true,p)/\b<ae (true,p)/\Q (.int (gm (true,p) a b:Nat))
theorem aO3(T:Txt K mg t):aN P w K mg base aR 1 t.Nh t.Ni ["self","a","b"] (br (aA7 K)):=by
 refine bD T.aP6 aN1 ?_ ?_
 ·intro ds Q h
  obtain⟨C,p,a,b,rfl,hC,hn,hp,ha,hb,q⟩:=h<;>rfl
 ·intro aD A outer s H E hr
  refine⟨_,(aH (aX (dm (bE (bE (dW (K:=K) (bv 0)) (bv 1) (λ_ _=>rfl)) (bv 2) (λ_ _=>rfl))))),λds Q h=>?_⟩
  obtain⟨C,p,a,b,rfl,hC,hn,hp,ha,hb,q⟩:=h
  nofun
  refine⟨C,_,_,_,rfl,hC,hn,rfl,?_⟩
  exact⟨_,EI hp ha,_,EH hp ha hb,rfl,q⟩
abbrev av9(K:Frag):bq:=λds Q=>∃(C:Addr) (p:Nat) (a b:Int),ds=[sN C p,.int a,.int b]/\cB K C/\aG K C "prime"/\0<p/\IntMulOk a b/\Q (.int (a*b%p))
theorem aJ6(T:Txt K mg t):aN P w K mg base aR 1 t.Nj t.Nk ["self","a","b"] (br (av9 K)):=by
 refine bD T.aK8 aI8 ?_ ?_
 ·intro ds Q h
  obtain⟨C,p,a,b,rfl,hC,hn,hp,hm,q⟩:=h<;>rfl
 ·intro aD A outer s H E hr
  refine⟨_,(aH (aX (aB dH (aa (aB fA (bv 1) (bv 2))) (dW (K:=K) (bv 0))))),λds Q h=>?_⟩
  obtain⟨C,p,a,b,rfl,hC,hn,hp,hm,q⟩:=h
  nofun
  exact⟨hm,C,_,_,.int p,rfl,hC,hn,rfl,by omega,q⟩
theorem cD8(T:Txt K mg t){m:Bool × Nat}(hm:m∈aI):∃C ns xs sp,fD t.aC t.aF m=.obj C ns xs/\jO P w K mg base 1 "times" C sp/\("times":Str) ∉ ns/\∀(a b:Nat) (Q:D->Prop),a<ae m->b<ae m->Q (.int (gm m a b:Nat))->sp [.obj C ns xs,.int a,.int b] Q:=by
 have hF:=dn hm
 obtain⟨k,n⟩:=m
 cases k with
 | true=>exact⟨_,_,_,aA7 K,rfl,⟨T.fh,_,_,_,T.Cd,aO3 T,T.aP7⟩,by decide,λa b Q ha hb q=>⟨_,n,a,b,rfl,T.fh,T.oA,v7 hm,ha,hb,q⟩⟩
 | false =>
  have kA:n<=64:=hF.hi
  refine⟨_,_,_,av9 K,rfl,⟨T.fF,_,_,_,T.Cq,aJ6 T,T.aK9⟩,by decide,λa b Q ha hb q=>?_⟩
  have Ek:a<n:=ha
  have Bl:b<n:=hb
  refine⟨_,n,a,b,rfl,T.fF,T.mT,by omega,ig.ok (.inr ⟨by omega,by omega⟩),?_⟩
  have e:((gm (false,n) a b:Nat):Int)=(a:Int)*b%n:=by
   show((a*b%n:Nat):Int)=_
   rw[oM,um]
  rw[<-e];exact q
abbrev cC3(t:eX)(P:Program)(w:World)(K:Frag)(mg:Str->Option Value)(base:Heap):bq:=λds Q=>∃(m:Bool × Nat) (c:List Nat) (os:List (List Nat)),ds=[fD t.aC t.aF m,.lst false (ak c),.lst false (ay false os)]/\m∈aI/\nul c=false/\c.length<=64/\AllLt (ae m) c/\RT (ae m) c.length os/\os.length<=1000/\Q (.lst true (ay true (gR m c os)))
theorem cy7(T:Txt K mg t):aN P w K mg base aR 3 t.Nl t.Nm ["field","column","others"] (br (cC3 t P w K mg base)):=by
 refine bD T.dd3 xF ?_ ?_
 ·intro ds Q h
  obtain⟨m,c,os,rfl,hm,hn,hc,OP,lu,hol,q⟩:=h<;>rfl
 ·intro aD A outer s H E hr
  refine⟨_,(aA (aZ (i:=3) xF.nd rfl (ai rfl) (dm (bE (aa (dX [] ["k","x"] rfl (sC rfl T.tJ (ag (bv 1) ax)) (λ_ _ _ _=>(iC (i1:=0) (i2:=1) rfl (show(["k","x"]:List Str).Nodup by decide +kernel) rfl (ai (lr1 rfl)) rfl (ai (lr1 rfl)) (by decide) (by decide) (aW (lr1 rfl)) (aW (lr1 rfl)))) (λ_ _ _ _=>(Kl (cq (gM (cM hr)) (bv 1) (aa aj) (bP _)))) (λ_ _ _ _=>(dm (bv 0))) rfl trivial (λ_=>by repeat' (first | exact trivial | refine⟨.inl rfl,?_⟩ | refine⟨.inr (.inl rfl),?_⟩ | refine⟨.inr (.inr ⟨_,rfl⟩),?_⟩)) (λ_=>trivial) rfl (by decide +kernel))) (aa aj) (λ_ _=>rfl))))
   (aA (aZ (i:=4) xF.nd rfl (ai rfl) (Y7 (P:=P) (w:=w) (K:=K) (mg:=mg) (base:=base) (n:=2) (bv 0) (hr.mono (by decide)) (ag (aa aj) (ag (bE (bv 1) (bv 3) (λ_ _=>rfl)) ax))))
   (aA (aZ (i:=5) xF.nd rfl (ai rfl) (dS cH))
   (aA (gg eR rfl (D9 (dm (bv 2))) (cI (i:=6) xF.nd rfl (ai rfl))
    (aA (aZ (i:=7) xF.nd rfl (ai rfl) (jt (P:=P) (w:=w) (K:=K) (mg:=mg) (base:=base) (n:=1) (bv 0) (hr.mono (by decide)) (ag (bv 6) (ag (aa (jt (P:=P) (w:=w) (K:=K) (mg:=mg) (base:=base) (n:=1) (bv 0) (hr.mono (by decide)) (ag (bE (bv 6) (bv 3) (λ_ _=>rfl)) (ag (bv 4) ax)))) (ag (bv 1) ax)))))
    (aH (kQ (i:=5) rfl (by first | exact ai rfl | exact aW (ai rfl)) (aB cU (aa (Bd (bv 7) Aq (Ar (bv 3)))) (aa (Bd (bv 7) (Ar (aa (aB cU (bv 3) (aa aj)))) Aq)))))))
   (aH (aX (em 5))))))),λds Q h=>?_⟩
  obtain⟨m,c,os,rfl,hm,hn,hc,OP,lu,hol,q⟩:=h
  have fc:=(dn hm).lo
  obtain⟨pl,pn⟩:=LC hn
  have cp:=OP.getD (show 0<ae m by omega) (bc c)
  have cx:∃x∈c,x≠0:=⟨_,fB pl 0,pn⟩
  refine az λU hU=>?_
  nofun
  refine Li (aM c.length) (λ(i:Nat)=>D.tup [.int (i:Int),.int ((c.getD i 0:Nat):Int)]) (λ(i:Nat)=>D.int (i:Int)) (λi=>c.getD i 0 != 0) (Lj c) (λa b h=>by injection h with h;simp at h;omega) (λi hi=>?_) (.inr λ_ _ _=>rfl) (by rw[cm,sL];omega) ?_
  ·nofun
   refine⟨?_,λ_=>trivial⟩
   by_cases h0:c.getD i 0=0
   ·rw[h0];rfl
   ·rw[decide_eq_false (by omega),bne_iff_ne.mpr h0];rfl
  dsimp only
  refine⟨.int (bc c:Nat),L3.El (k:=0) (by rw[cu,Zr cx];rfl),rfl,hU _ ?_⟩
  clear hU U
  refine az λU hU=>?_
  nofun
  refine⟨_,_,_,_,wb _ _ m,bO5 T m,Y8 m _ (by decide),.int (c.getD (bc c) 0:Nat),by rw[oi (by omega) (by omega),gU],m,1,c.getD (bc c) 0,by rw[wb];rfl,hm,fc,cp,λz=>absurd z pn,λ_ iv hiv LD=>?_⟩
  have ei:mP m (c.getD (bc c) 0)=iv:=EL hm hiv LD
  refine⟨rfl,hU _ ?_⟩
  clear hU U
  refine az λU hU=>?_
  nofun
  refine⟨by decide,hU _ ?_⟩
  clear hU U
  refine az λU hU=>?_
  nofun
  refine gb.mk (λi δ=>∃o6 o7,δ=[some (fD t.aC t.aF m),some (D.lst false (ak c)),some (D.lst false (ay false os)),some (D.int (bc c)),some (D.int iv),some (D.lst true (ay true (gR m c (os.take i)))),o6,o7]) ⟨_,_,rfl⟩ ?_ ?_
  ·rintro i d δ hd ⟨o6,o7,rfl⟩
   obtain⟨hi,rfl⟩:=co2 hd
   clear hd hU
   obtain⟨ol,oa⟩:=lu _ (dE hi)
   have op:=oa.getD (show 0<ae m by omega) (bc c)
   obtain⟨C,ns,xs,sp,e1,e2,e3,e4⟩:=bD9 (P:=P) (w:=w) (base:=base) T hm
   refine az λU hU=>?_
   nofun
   obtain⟨C1,n1,x1,sp1,g1,g2,g3,g4⟩:=cD8 (P:=P) (w:=w) (base:=base) T hm
   refine⟨C,ns,xs,sp,e1,e2,e3,C1,n1,x1,sp1,g1,g2,g3,.int (os[i].getD (bc c) 0:Nat),by rw[oi (by omega) (by omega),gU],g4 _ iv _ op hiv ⟨rfl,e4 os[i] c (gm m (os[i].getD (bc c) 0) iv) _ (dD hm _ _) OP (by omega) ⟨rfl,hU _ ?_⟩⟩⟩
   clear hU
   have ep:gR m c (os.take (i+1))=gR m c (os.take i)++[(cW (λx y=>bR m x (gm m (gm m (os[i].getD (bc c) 0) iv) y)) os[i] c).take (bc c)++(cW (λx y=>bR m x (gm m (gm m (os[i].getD (bc c) 0) iv) y)) os[i] c).drop (bc c+1)]:=by
    unfold gR
    rw[nh,aP hi,Vj,fv,dv,jX,ei]
   rw[ep]
   have ll:(cW (λx y=>bR m x (gm m (gm m (os[i].getD (bc c) 0) iv) y)) os[i] c).length<=64:=by rw[i7];omega
   generalize cW (λx y=>bR m x (gm m (gm m (os[i].getD (bc c) 0) iv) y)) os[i] c=lf at ll ⊢
   have pl2:(gR m c (os.take i)).length<=1000:=by rw[Z1,iJ];omega
   nofun
   rw[Yi,show((bc c:Int)+1)=((bc c+1:Nat):Int) by omega,KP]
   exact⟨⟨_,rfl⟩,by rw[iJ,lL];omega,by omega,_,_,sY true _ [lf.take (bc c)++lf.drop (bc c+1)],rfl,rfl⟩
  ·rintro δ ⟨o6,o7,rfl⟩
   refine hU _ ?_
   nofun
   rw[ug]
   exact q
def fG(o:Bool)(l:List Cs):List D:=l.map λs=>.tup [.lst o (ak s.1),.lst o (ay o s.2)]
theorem cg0(o:Bool)(l:List Cs):(fG o l).map D.sh=fG false l:=by
 unfold fG
 rw[cA]
 refine uj λs _=>?_
 show(D.tup [.lst o (ak s.1),.lst o (ay o s.2)]).sh=_
 rw[mx,dv,dv,jX,BB,dQ,eA]
theorem cD9(l:List Cs):(fG false l).all D.pl=true:=by
 rw[dz]
 intro d hd
 obtain⟨s,_,rfl⟩:=bH.mp hd
 show(D.tup [.lst false (ak s.1),.lst false (ay false s.2)]).pl=true
 rw[kK,dy,dy,fZ,fZ,kT,pX];rfl
theorem cq1(o:Bool)(a b:List Cs):fG o a++fG o b=fG o (a++b):=by unfold fG;rw[fv]
theorem cG6{o:Bool}{l:List Cs}{i:Nat}{d:D}(hd:(fG o l)[i]?=some d):∃hi:i<l.length,d=.tup [.lst o (ak l[i].1),.lst o (ay o l[i].2)]:=by
 unfold fG at hd
 rw[cu]at hd
 by_cases hi:i<l.length
 ·rw[aP hi]at hd
  exact⟨hi,(cV hd).symm⟩
 ·rw[gr (by omega)]at hd;cases hd
theorem cr8(o:Bool)(l:List Cs):dU 6 (.lst o (fG o l))=true:=by
 show(fG o l).all (dU 5)=true
 rw[dz]
 intro d hd
 obtain⟨s,_,rfl⟩:=bH.mp hd
 show([D.lst o (ak s.1),.lst o (ay o s.2)]).all (dU 4)=true
 rw[dy,dy,mL 3 o s.1,wj 2 o o s.2];rfl
theorem ce2{m:Bool × Nat}{c:List Nat}{os:List (List Nat)}{N:Nat}(h:∀o∈os,o.length<=N):∀x∈gR m c os,x.length<=N:=λx hx=>by
 obtain⟨o,ho,rfl⟩:=bH.mp hx
 have:=h o ho
 rw[dN,iJ,lL,i7]
 omega
theorem OQ{W:Nat}:∀{l:List Cs},(∀s∈l,s.2.length<=W)->(dY l).length<=l.length*W
 | [],_=>lK _
 | s::l,h=>by
  have ih:=OQ (λs hs=>h s (gq _ hs))
  have h1:=h s (iY ..)
  show(fE s++dY l).length<=_
  rw[dN,show(fE s).length=s.2.length by unfold fE;rw[bA,cm],jz,Nat.succ_mul]
  omega
def c84:Option (List Nat)->D
 | some l=>.lst true (ak l)
 | none=>.aw
abbrev aU3(t:eX)(P:Program)(w:World)(K:Frag)(mg:Str->Option Value)(base:Heap):bq:=λds Q=>∃(m:Bool × Nat) (G:List (List Nat)),ds=[fD t.aC t.aF m,.lst false (ay false G)]/\m∈aI/\G.length<=64/\RT (ae m) (av G) G/\0<av G/\av G<=6/\Q (c84 (om m G))
theorem aU4(T:Txt K mg t):aN P w K mg base aR 4 t.Nn t.Np ["field","table"] (br (aU3 t P w K mg base)):=by
 refine bD T.dd4 qf ?_ ?_
 ·intro ds Q h
  obtain⟨m,G,rfl,hm,hG,hR,OR,hw,q⟩:=h<;>rfl
 ·intro aD A outer s H E hr
  refine⟨_,(aA (aZ (i:=2) qf.nd rfl (ai rfl) (bB ((GQ T).mono (by decide)) hr rfl T.Fs T.BY.kp T.Ft aV (ag (bv 1) ax)))
   (aA (aZ (i:=3) qf.nd rfl (ai rfl) (dS (cy (nN (cy (dS cH) (cy (bB ((aV1 T).mono (by decide)) hr rfl T.dd0 T.Ow.kp T.dd1 aV (ag (bv 1) ax)) cH))) cH)))
   (aA (u3 eR (cq (gM (cM hr)) (bv 3) (aa (dS cH)) (bP _))
    (aA (aZ (i:=4) qf.nd rfl (ai rfl) (dS cH))
    (Kf 3 (aA (gg eR rfl (D9 (dm (bv 3))) (iC (i1:=5) (i2:=6) rfl qf.nd rfl (ai rfl) rfl (ai rfl))
     (aH (gg eR rfl (sC rfl T.tJ (ag (bv 6) ax)) (iC (i1:=7) (i2:=8) rfl qf.nd rfl (ai rfl) rfl (ai rfl))
      (aA (aZ (i:=9) qf.nd rfl (ai rfl) (aB cU (bv 5) (aa (dS (cy (aB cU (aa (aB dG (bv 2) (aa (cY (gE) (by rfl) T.gj fY (ag (bv 6) ax))))) (bv 7)) cH)))))
      (aA (cT (hE (aa (bB ((aZ2 T).mono (by decide)) hr rfl T.ez8 T.dd2.kp T.ez9 aV (ag (bv 8) ax)))) (aH (aX (em 9))) cS)
      (aH (kQ (i:=4) rfl (by first | exact ai rfl | exact aW (ai rfl)) (nN (cy (em 9) (cy (bB ((cy7 T).mono (by decide)) hr rfl T.eA4 T.dd3.kp T.eA5 aV (ag (bv 0) (ag (bv 8) (ag (aa (Bd (bv 6) (Ar (aa (aB cU (bv 7) (aa aj)))) Aq)) ax)))) cH))))))))))
    (aH (aZ (i:=3) qf.nd rfl (ai rfl) (em 4)))))))
   (aH (aX Kb))))),λds Q h=>?_⟩
  obtain⟨m,G,rfl,hm,hG,hR,OR,hw,q⟩:=h
  have fc:=(dn hm).lo
  refine az λU hU=>?_
  nofun
  refine⟨G,rfl,by omega,λr bx=>by rw[(hR r bx).1];omega,hU _ ?_⟩
  clear hU U
  refine az λU hU=>?_
  nofun
  refine⟨by decide,G,rfl,by omega,λr bx=>(hR r bx).1,by omega,by decide,by decide,hU _ ?_⟩
  clear hU U
  have Ls:=Lv.start hm OR hR
  refine az λU hU=>?_
  nofun
  refine⟨λn δ=>∃(l:List Cs) (k:Nat) (o4 o5 o6 o7 o8 o9:Option D),δ=[some (fD t.aC t.aF m),some (D.lst false (ay false G)),some (D.int (av G)),some (D.lst true (fG true l)),o4,o5,o6,o7,o8,o9]/\Lv m (jU G) (av G) k l/\k+n=av G+1/\tf m (av G) n l=om m G/\l.length<=6 ^ k/\∀s∈l,∀r∈s.2,r.length<=64,⟨av G+1,[([],eP G)],0,_,_,_,_,_,_,rfl,Ls,by omega,rfl,bK _,λs hs r bx=>?_⟩,?_⟩
  ·rw[fk.mp hs]at bx
   have:=((ZN (by omega) OR hR).2.2 r bx).1
   omega
  rintro n δ ⟨l,k,o4,o5,o6,o7,o8,o9,rfl,L,hk,OS,OT,mW⟩
  nofun
  refine⟨by decide,⟨cr8 true l,rfl⟩,?_⟩
  by_cases l0:l=[]
  ·subst l0
   rw[show bJ (D.lst true (fG true [])) (D.lst true [])=true from rfl,if_neg (by decide)]
   refine hU _ ?_
   nofun
   have e0:om m G=none:=by
    rw[<-OS]
    cases n with
    | zero=>rfl
    | succ n=>rfl
   rw[e0]at q
   exact q
  have d0:bJ (D.lst true (fG true l)) (D.lst true [])=false:=by
   cases l with
   | nil=>exact absurd rfl l0
   | cons s l=>rfl
  rw[d0,if_pos (by decide)]
  have CM:∀s∈l,jv (av G) s.1/\s.2.length<=6:=λs hs=>by
   have g:=(L.gs s hs).1
   have gl:=g.le
   exact⟨⟨g.inc,λx hx=>by have:=g.off x hx;omega⟩,by omega⟩
  obtain⟨n,rfl⟩:∃n',n=n'+1:=by
   cases n with
   | succ n=>exact⟨n,rfl⟩
   | zero =>
    exfalso
    cases l with
    | nil=>exact l0 rfl
    | cons s l =>
     have h1:=(CM s (iY ..)).1.len
     have h2:=(L.gs s (iY ..)).2
     omega
  clear hU
  have k6:6 ^ k*6<=279936:=by
   have:6 ^ (k+1)<=6 ^ 7:=zf (by decide) (by omega)
   rw[m5]at this
   exact this
  have eP1:∀a,(dY (l.take a)).length<=279936:=λa=>by
   have h1:=OQ (W:=6) (l:=l.take a) λs hs=>(CM s (uh hs)).2
   have h2:(l.take a).length<=6 ^ k:=by rw[iJ];omega
   have:=dF2 6 h2
   omega
  refine az λU hU=>?_
  nofun
  refine⟨by decide,hU _ ?_⟩
  clear hU
  refine⟨_,rfl,?_⟩
  rw[dQ,cg0]
  simp only[jB,jA]
  refine az λU hU=>?_
  nofun
  refine⟨cD9 l,?_⟩
  rw[cg0]
  refine gb.mk (λa δ=>(∀z∈dY (l.take a),oj z=false)/\∃o5 o6 o7 o8 o9,δ=[some (fD t.aC t.aF m),some (D.lst false (ay false G)),some (D.int (av G)),some (D.lst false (fG false l)),some (D.lst true (fG true ((dY (l.take a)).map (iU m (av G))))),o5,o6,o7,o8,o9]) ⟨λz hz=>absurd hz i6,_,_,_,_,_,rfl⟩ ?_ ?_
  ·rintro a d δ hd ⟨qa,o5,o6,o7,o8,o9,rfl⟩
   obtain⟨ha,rfl⟩:=cG6 hd
   clear hd hU
   have hs:=dE ha
   obtain⟨gs,gk⟩:=L.gs _ hs
   obtain⟨hh,OU⟩:=gs.rt
   have g6:=(CM _ hs).2
   have et:dY (l.take (a+1))=dY (l.take a)++fE l[a]:=by
    unfold dY
    rw[nh,aP ha,Vj,dF3,List.flatMap_cons,List.flatMap_nil,fV]
   rw[et]
   have pl1:=eP1 (a+1)
   rw[et,dN]at pl1
   generalize hS:l[a]=s0 at hs gs gk OU g6 et pl1 ⊢
   have l1:(fE s0).length=s0.2.length:=by unfold fE;rw[bA,cm]
   nofun
   refine gb.mk (λi δ=>(∀z∈(fE s0).take i,oj z=false)/\∃o7 o8 o9,δ=[some (fD t.aC t.aF m),some (D.lst false (ay false G)),some (D.int (av G)),some (D.lst false (fG false l)),some (D.lst true (fG true ((dY (l.take a)++(fE s0).take i).map (iU m (av G))))),some (D.lst false (ak s0.1)),some (D.lst false (ay false s0.2)),o7,o8,o9]) ⟨λz hz=>absurd hz i6,_,_,_,by rw[List.take_zero,fV]⟩ ?_ ?_
   ·rintro i d δ hd ⟨CN,o7,o8,o9,rfl⟩
    obtain⟨hi,rfl⟩:=Zq hd
    clear hd
    obtain⟨cl,ca⟩:=OU _ (dE hi)
    have gc:s0.2.getD i []=s0.2[i]:=by rw[aU,aP hi];rfl
    have gle:=gs.le
    have ei:(fE s0).take (i+1)=(fE s0).take i++[(s0,i)]:=by
     rw[nh]
     congr 1
     unfold fE
     rw[cu,jZ hi];rfl
    have hh6:hh<=64:=by have:=mW _ hs _ (dE hi);omega
    have il1:=(CM _ hs).1.len
    simp only[jM,jB,jA]
    refine az λU hU=>?_
    nofun
    have eb:ak s0.1++[D.int ((av G:Int)-(s0.2.length:Int)+(i:Int))]=ak (jT (av G) (s0,i)):=by
     unfold jT
     rw[cE,cE,fv]
     show _=_++[D.int ((av G-s0.2.length+i:Nat):Int)]
     rw[show(av G:Int)-(s0.2.length:Int)+(i:Int)=((av G-s0.2.length+i:Nat):Int) by omega]
    rw[eb]
    refine⟨by decide,by omega,hU _ ?_⟩
    clear hU
    refine az λU hU=>?_
    nofun
    refine⟨s0.2[i],rfl,by omega,nul s0.2[i],rfl,?_⟩
    cases hz:nul s0.2[i]with
    | true =>
     rw[if_pos rfl]
     have ef:om m G=some (jT (av G) (s0,i)):=by
      rw[<-OS,tf,if_neg l0]
      have:(dY l).find? oj=some (s0,i):=by
       refine dF0.mpr ⟨by show nul (s0.2.getD i [])=true;rw[gc];exact hz,dY (l.take a)++(fE s0).take i,(fE s0).drop (i+1)++dY (l.drop (a+1)),?_,λz OV=>?_⟩
       ·have e1:dY l=dY (l.take (a+1))++dY (l.drop (a+1)):=by
         conv=>lhs;rw[<-VE (a+1) l]
         unfold dY
         rw[dF3]
        have e2:fE s0=(fE s0).take i++(s0,i)::(fE s0).drop (i+1):=by
         conv=>lhs;rw[<-VE (i+1) (fE s0),ei,dh]
         rfl
        rw[e1,et]
        conv=>lhs;rw[e2]
        simp only[dh,nk]
       ·have:=(bZ.mp OV).elim (qa z) (CN z)
        rw[this];rfl
      rw[this];rfl
     rw[ef]at q
     exact q
    | false =>
     rw[if_neg (by decide)]
     refine hU _ ?_
     clear hU
     nofun
     rw[show((i:Int)+1)=((i+1:Nat):Int) by omega,KP,ei]
     refine⟨⟨_,rfl⟩,m,s0.2[i],s0.2.drop (i+1),rfl,hm,hz,by omega,ca,λr bx=>by rw[cl];exact OU r (qG bx),by rw[lL];omega,by rw[fL,pY];rfl,by decide,?_,λz OV=>?_,_,_,_,?_,rfl,rfl,rfl⟩
     ·unfold fG
      rw[bA,bA,dN,iJ]
      omega
     ·rcases bZ.mp OV with y | y
      ·exact CN z y
      ·rw[fk.mp y]
       show nul (s0.2.getD i [])=false
       rw[gc];exact hz
     ·rw[<-dh,fv (l₁:=dY (l.take a)++(fE s0).take i),<- cq1]
      congr 1
      show _=[D.tup [.lst true (ak (iU m (av G) (s0,i)).1),.lst true (ay true (iU m (av G) (s0,i)).2)]]
      show _=[D.tup [.lst true (ak (jT (av G) (s0,i))),.lst true (ay true (gR m (s0.2.getD i []) (s0.2.drop (i+1))))]]
      rw[gc]
   ·rintro δ ⟨CN,o7,o8,o9,rfl⟩
    rw[show(fP (ay false s0.2)).length=(fE s0).length by rw[sA,kn,l1],ug]at CN ⊢
    exact⟨λz hz=>(bZ.mp hz).elim (qa z) (CN z),_,_,_,_,_,rfl⟩
  ·rintro δ ⟨qa,o5,o6,o7,o8,o9,rfl⟩
   refine hU _ ?_
   clear hU
   rw[show(fG false l).length=l.length by unfold fG;rw[bA],ug]at qa ⊢
   nofun
   have hf:(dY l).find? oj=none:=VA.mpr λz hz=>by rw[qa z hz];decide
   refine⟨n,by omega,_,k+1,_,_,_,_,_,_,⟨rfl,rfl,rfl,rfl,rfl,rfl,rfl⟩,L.next hm (γ hm hR) qa,by omega,?_,?_,λs hs r bx=>?_⟩
   ·rw[<-OS,tf,if_neg l0,hf]
   ·rw[bA,m5]
    have:=OQ (W:=6) λs hs=>(CM s hs).2
    exact fu this (dF2 6 OT)
   ·obtain⟨z,hz,rfl⟩:=bH.mp hs
    exact ce2 (λo ho=>mW _ (wu.mp hz).1 o (qG ho)) r bx
abbrev bJ3(t:eX):List D->List Str->List D->Prop:=λds ns xs=>∃(m:Bool × Nat) (G:List (List Nat)) (Fb:List Nat),ds=[fD t.aC t.aF m,.lst false (ay false G)]/\ft m G/\1<=G.length/\G.length<=12/\2<=av G/\av G<=6/\om m G=some Fb/\ns=(["field","length","check_rows","word_rows","message_places","size","bound"]:List Str)/\xs=mR t.aC t.aF true m G++[.int (Fb.length:Nat)]
theorem aA8(T:Txt K mg t)(hB:Bm mg base):aN P w K mg base aR 5 t.Nq t.Nr ["self","field","table"] (E4 [t.iV,t.iW] t.bt (bJ3 t)):=by
 refine T.eA8.ok aN2 (λvs H Q E h=>?_) λaD A outer s H vs Q E hr h=>?_
 ·obtain⟨F,H0,x,dx,bU,ds,ns,xs,rfl,_,_,_,_,_,r,⟨m,G,Fb,rfl,_⟩,_⟩:=h
  have:=r.length
  simp at this
  simp[this]
 obtain⟨F,H0,x,dx,bU,ds,ns,xs,rfl,tb,e0,gB,s0,hx,r,⟨m,G,Fb,rfl,hc,g1,CL,w2,w6,hF,rfl,rfl⟩,q⟩:=h
 have hm:=hc.hm
 have hG:=hc.rt
 obtain⟨vf,GV,B1,B2,rfl,OW,rf,r2⟩:=R.cR r
 obtain⟨rfl,rfl⟩:=qF.mp OW.symm
 obtain⟨vc,J4,B1,B2,rfl,eP3,rc,r3⟩:=R.cR r2
 obtain⟨rfl,rfl⟩:=qF.mp eP3.symm
 cases r3
 refine⟨_,eV (qQ (DG (DF (jg ((aO2 T).mono (by decide)) hr rfl T.ez4 T.db8.kp T.ez5 .nil aV (bX (pv 1) (bX (pv 2) e7))))) (jc qR) qO)
  (eV (qQ (cq (gC (cM hr)) (aa (bB ((cB6 T).mono (by decide)) hr rfl T.ez6 T.db9.kp T.ez7 aV (ag (bv 1) (ag (bv 2) ax)))) (aa (cY (gE) (by rfl) T.gj fY (ag (bE (bv 2) (aa aj) (λ_ _=>rfl)) ax))) (bP _)) (jc qR) qO)
  (eV (qP (LK (E:=E0) T.OB ((OJ T).mono (by decide)) hr T.Ov aV rfl T.qt (bX (pv 0) (bX (pv 1) (bX (pv 2) e7)))))
  (jc (gZ (pv 0) (cY (gE) (by rfl) T.gj fY (ag (aa (bB ((aU4 T).mono (by decide)) hr rfl T.eA6 T.dd4.kp T.eA7 aV (ag (bv 1) (ag (bv 2) ax)))) ax)) rfl)))),?_⟩
 refine⟨_,rfl,_,rfl,F,[fD t.aC t.aF m,.lst false (ay false G)],λd=>d=.bl true,e0.trans s0,R.cons (A:=[]) (rf.shared (L3.af.refl _) s0) (rc.shared (L3.af.refl _) s0),⟨m,G,rfl,hm,hG,g1,CL,w2,by omega,rfl⟩,λd v F1 H1 A1 hd eQ CJ OK h31 r1 nd1 OL=>?_⟩
 subst hd
 cases r1
 refine⟨true,rfl,?_⟩
 refine jh ?_
 have s1:=s0.trans eQ
 have cC:=eQ.get _ _ hx rfl
 have nr:(bY m G).length≠av G:=λz=>by
  obtain⟨⟨Hd,I⟩,iR⟩:=hc.red
  have:=I.LB hm iR
  have h0:=hc.sz
  unfold bV at h0
  omega
 refine⟨⟨H1,F⟩,F,[none,some (fD t.aC t.aF m),some (.lst false (ay false G))],[],λb _=>b=false,aq.self (e0.trans s1) (.dR (A:=[]) (C:=[]) (rf.shared (L3.af.refl _) s1) (.dR (A:=[]) (C:=[]) (rc.shared (L3.af.refl _) s1) .nil)),?_,λb ah F2 H2 hb hf2 fw c2=>?_⟩
 ·nofun
  refine⟨m,G,rfl,hm,by omega,hG,by omega,?_⟩
  obtain⟨g,G',rfl⟩:∃g G',G=g::G':=by
   cases G with
   | nil=>exact absurd g1 (by decide)
   | cons g G'=>exact⟨g,G',rfl⟩
  refine⟨.lst false (ak g),sZ false (T:=g::G') (i:=0) (oQ _),su 5 ((bY m (g::G')).length:Nat),?_⟩
  rw[jL,eo]
  exact decide_eq_false λz=>nr (Int.ofNat.inj z)
 subst hb
 refine jh ?_
 have s2:=s1.trans fw
 have dZ:=fw.get _ _ cC rfl
 refine⟨.ref x,rfl,vf,rfl,vc,rfl,F,H0,x,dx,t.bt,vf,vc,m,G,[],rfl,e0,gB,s2,dZ,.nil,⟨T.yg,T.yk,T.yl,T.yj,T.yo,T.ym,T.yn⟩,rf,rc,hm,hG,by omega,by omega,λH' p1 p2 p3 B1 B2 B3 sx de k1 k2 k3 nd fr=>?_⟩
 have so:=bO.of0 gB s2 sx
 refine⟨⟨H',F⟩,F,[none,some (fD t.aC t.aF m),some (.lst false (ay false G))],[],λd _=>d=.int (Fb.length:Nat),aq.self (e0.trans so) (.dR (A:=[]) (C:=[]) (rf.shared (L3.af.refl _) so) (.dR (A:=[]) (C:=[]) (rc.shared (L3.af.refl _) so) .nil)),?_,λd ah v F3 H3 hd CI ia c3=>?_⟩
 ·nofun
  refine⟨m,G,rfl,hm,by omega,hG,by omega,w6,?_⟩
  rw[hF]
  show(((ak Fb).length:Nat):Int)=_
  rw[eo]
 subst hd
 obtain⟨A3,C3,r3,_,nd3,_⟩:=c3.own
 obtain rfl:v=.int (Fb.length:Nat):=by cases r3;rfl
 have fi:=ia.get _ _ de rfl
 refine⟨.ref x,rfl,x,t.bt,dx,_,rfl,fi,T.yg,T.yi,by show 6<1000;decide,?_⟩
 have mv:∀{ds:List D} {vs:List V} {A':List Addr} {fs':List (Str × V)},R (λ_=>none) H' ds vs A'->ds.all D.fr=true->R (λ_=>none) (upd H3 x (.ins t.bt dx fs')) ds vs A':=λr hd=>(r.grow (L3.af.refl _) ia λa ha=>(r.lists a ha).2).sM fi hd
 have fR:∀X:List (List Nat),[D.lst true (ay true X)].all D.fr=true:=λX=>by rw[dy,fL,pY];rfl
 have fN:∀X:List Nat,[D.lst true (ak X)].all D.fr=true:=λX=>by rw[dy,hV];rfl
 have z:=((((eQ.trans fw).x (x:=x)).trans sx).trans (ia.x (x:=x))).trans (bO.upd (C:=x) (dx:=dx) fi rfl (o':=.ins t.bt dx (bF "bound" (.int (Fb.length:Nat)) ([]++oo.zip [vf,.int (av G:Nat),.ref p1,.ref p2,.ref p3,.int ((bV m G).length:Nat)]))))
 refine q _ [vf,.int (av G:Nat),.ref p1,.ref p2,.ref p3,.int ((bV m G).length:Nat),.int (Fb.length:Nat)] (B1++(B2++(B3++[]))) z (by rw[bM];rfl) rfl ?_ ?_ ?_
 ·have e:=e0.trans s0
  have up:∀{yK:Hp} {ds:List D} {vs:List V} {B:List Addr},R (λ_=>none) yK ds vs B->(∀a∈B,H2 a=none)->R F yK ds vs B:=λr h=>r.keep (L3.af.of λb o e=>by cases e) (fM.same (L3.af.refl _)) gx.nil (λa ha=>e.free ((eQ.trans fw).free (h a ha))) (by simp)
  exact R.cons (A:=[]) (rf.shared (L3.af.refl _) (bO.of0 gB s0 z)) (.int (R.cons (up (mv k1 (fR _)) λa ha=>fr a (eZ _ ha)) (R.cons (up (mv k2 (fR _)) λa ha=>fr a (df _ (eZ _ ha))) (R.cons (up (mv k3 (fN _)) λa ha=>fr a (df _ (df _ ha))) (.int (.int .nil))))))
 ·rw[fV];exact nd
 ·rw[fV]
  intro a ha
  exact(eQ.trans fw).free (fr a ha)
abbrev aX0:bq:=λds Q=>∃(m:Bool × Nat) (a b:Nat),ds=[dr m,.int a,.int b]/\m∈aI/\a<ae m/\b<ae m/\Q (.int (gm m a b:Nat))
theorem GW(T:Txt K mg t):aN P w K mg base aR 1 t.Nt t.Nu ["_law_told_here","_law_a","_law_b"] (br (aX0 )):=by
 refine bD T.BZ xJ ?_ ?_
 ·intro ds Q h
  obtain⟨m,a,b,rfl,hm,ha,hb,q⟩:=h<;>rfl
 ·intro aD A outer s H E hr
  refine⟨_,(aA (cT (mB (hE (bE (bv 0) (aa aj) (λ_ _=>rfl)))) (aH (aX (aB dH (aa (aB fA (bv 1) (bv 2))) (bE (bv 0) (aa aj) (λ_ _=>rfl))))) cS)
   (aA (aZ (i:=3) xJ.nd rfl (ai rfl) aj)
   (aA (u3 eR (cq Kn (bv 2) (aa aj) (bP _))
    (aA (cT (cq (gC (cM hr)) (aa (aB XA (bv 2) (aa aj))) (aa aj) (bP _)) (aH (aZ (i:=3) xJ.nd rfl (ai rfl) (aB An (bv 3) (bv 1)))) cS)
    (aA (aZ (i:=1) xJ.nd rfl (ai rfl) (aB vi (bv 1) (aa aj)))
    (aA (cT (cq (gC (cM hr)) (aa (nV (bv 1))) (aa (nV (bE (bv 0) (aa aj) (λ_ _=>rfl)))) (bP _)) (aH (aZ (i:=1) xJ.nd rfl (ai rfl) (aB An (bv 1) (bE (bv 0) (aa aj) (λ_ _=>rfl))))) cS)
    (aH (aZ (i:=2) xJ.nd rfl (ai rfl) (aB Xz (bv 2) (aa aj))))))))
   (aH (aX (em 3)))))),λds Q h=>?_⟩
  obtain⟨m,a,b,rfl,hm,ha,hb,q⟩:=h
  unfold dr at *
  obtain⟨k,n⟩:=m
  refine az λU hU=>?_
  nofun
  have hF:=dn hm
  cases k with
  | false =>
   refine⟨_,rfl,false,rfl,?_⟩
   have kA:n<=64:=hF.hi
   have l2:2<=n:=hF.lo
   have Ek:a<n:=ha
   have Bl:b<n:=hb
   rw[if_pos (by decide)]
   refine⟨ig.ok (.inr ⟨by omega,by omega⟩),_,rfl,by omega,?_⟩
   have e:((gm (false,n) a b:Nat):Int)=(a:Int)*b%n:=by
    show((a*b%n:Nat):Int)=_
    rw[oM,um]
   rw[<-e];exact q
  | true =>
   refine⟨_,rfl,true,rfl,?_⟩
   rw[if_neg (by decide)]
   have hp:=v7 hm
   have bp:=YU n hp
   have GP:=YV n hp
   have p0:n≠0:=λz=>by rw[z,nH]at GP;omega
   have gB:bl a<bl n:=by
    have:=ff.mpr (show a<2 ^ (bl n-1) from ha)
    omega
   have hy0:bl b<bl n:=by
    have:=ff.mpr (show b<2 ^ (bl n-1) from hb)
    omega
   refine hU _ ?_
   clear hU U
   refine az λU hU=>?_
   nofun
   refine hU _ ?_
   clear hU U
   refine az λU hU=>?_
   nofun
   refine⟨λm δ=>∃(x y z:Nat),δ=[some (.tup [.bl true,.int n]),some (.int (x:Nat)),some (.int (y:Nat)),some (.int (z:Nat))]/\z ^^^ md (cl x y) n=gm (true,n) a b/\bl x<bl n/\bl y<bl n/\m=bl y,
    ⟨bl b,a,b,0,rfl,by rw[oJ];rfl,gB,hy0,rfl⟩,?_⟩
   rintro m δ ⟨x,y,z,rfl,inv,hx,hy,rfl⟩
   nofun
   split
   ·rename_i OX
    have hp2:=iu (show y≠0 by omega)
    have GR:bl (y/2)=bl y-1:=cF0 y
    have e1:((x:Int)*2 ^ (1:Int).toNat)=((2*x:Nat):Int):=by
     show(x:Int)*(2:Int) ^ 1=_
     omega
    have e2:((y:Int)/2 ^ (1:Int).toNat)=((y/2:Nat):Int):=by
     show(y:Int)/(2:Int) ^ 1=_
     omega
    have a1:oH (y:Int) 1=((y%2:Nat):Int):=by
     rw[show(1:Int)=((1:Nat):Int) from rfl,WU,Nat.and_one_is_mod]
    have tm:=cB5 (y:=y) p0 hx
    have tb:=cA0 p0 hx
    clear hU
    refine az λU hU=>?_
    nofun
    have fin:∀z':Nat,z'=z ^^^ (if y%2=1 then x else 0)->U [some (.tup [.bl true,.int n]),some (.int x),some (.int y),some (.int z')]:=by
     intro z' hz
     have eP6:z' ^^^ md (cl (if bl (2*x)=bl n then 2*x ^^^ n else 2*x) (y/2)) n=gm (true,n) a b:=by
      rw[hz,qD,<- tm];exact inv
     refine hU _ ?_
     clear hU
     refine az λU hU=>?_
     nofun
     refine⟨⟨by decide,by simp only[i8];omega⟩,hU _ ?_⟩
     clear hU
     rw[e1]
     refine az λU hU=>?_
     nofun
     have last:∀x':Nat,x'=(if bl (2*x)=bl n then 2*x ^^^ n else 2*x)->U [some (.tup [.bl true,.int n]),some (.int (x':Nat)),some (.int y),some (.int z')]:=by
      intro x' de
      refine hU _ ?_
      nofun
      exact⟨by decide,bl (y/2),by omega,x',y/2,z',⟨rfl,e2,rfl⟩,by rw[de];exact eP6,by rw[de];exact tb,by omega,rfl⟩
     refine⟨_,rfl,?_⟩
     show(if(((bl (((2*x:Nat):Int)).natAbs:Nat):Int)=((bl ((n:Int)).natAbs:Nat):Int))then _ else _)
     rw[i8,i8]
     split
     ·rename_i hc
      refine⟨_,rfl,?_⟩
      have g:=last (2*x ^^^ n) (by rw[if_pos (by omega)])
      rw[<-nI]at g
      exact g
     ·rename_i hc
      exact last (2*x) (by rw[if_neg (by omega)])
    rw[a1]
    split
    ·rename_i GO
     have odd:y%2=1:=by omega
     have g:=fin (z ^^^ x) (by rw[if_pos odd])
     rw[<-nI]at g
     exact g
    ·rename_i GO
     exact fin z (by rw[if_neg (by omega),lN])
   ·rename_i OX
    have hy:y=0:=by omega
    subst hy
    rw[cC1,Bz (by rw[nH];exact iu p0),lN]at inv
    subst inv
    refine hU _ ?_
    nofun
    exact q
def oF(g:Nat->Nat->Nat)(a:Nat):Nat->List Int->Nat->Option (List Int)
 | 0,_,_=>none
 | f+1,l,p=>if g p a=1 then some l else oF g a f (l++[((g p a:Nat):Int)]) (g p a)
def lqB(m:Bool × Nat):Bool:=decide (1<=(fst m).toNat)&&decide ((fst m).toNat<ae m)&&((aM ((fst m).toNat-1)).all λi=>match oF (gm m) (i+1) 64 [1] 1 with | none=>false | some l=>decide (l.length≠ae m-1))&&decide (oF (gm m) (fst m).toNat 64 [1] 1=some (fl m))
theorem cP4:aI.all lqB=true:=by decide +kernel
theorem cU8{m:Bool × Nat}(hm:m∈aI):∃s:Nat,1<=s/\s<ae m/\(∀i,i<s-1->∃l,oF (gm m) (i+1) 64 [1] 1=some l/\l.length≠ae m-1)/\oF (gm m) s 64 [1] 1=some (fl m):=by
 have h:=dz.mp cP4 m hm
 simp only[lqB,eH,dz,decide_eq_true_eq,da]at h
 refine⟨_,h.1.1.1,h.1.1.2,λi hi=>?_,h.2⟩
 have h3:=h.1.2 i hi
 cases e:oF (gm m) (i+1) 64 [1] 1 with
 | none=>rw[e]at h3;cases h3
 | some l=>rw[e]at h3;exact⟨l,rfl,of_decide_eq_true h3⟩
abbrev aU5:bq:=λds Q=>∃m:Bool × Nat,ds=[dr m]/\m∈aI/\Q (.lst true (aJ (fl m)))
theorem aU6(T:Txt K mg t):aN P w K mg base aR 2 t.Nv t.Nw ["_law_told_here"] (br (aU5 )):=by
 refine bD T.aI0 LP ?_ ?_
 ·intro ds Q h
  obtain⟨m,rfl,hm,q⟩:=h<;>rfl
 ·intro aD A outer s H E hr
  refine⟨_,(aA (gg eR rfl (Ak rfl T.gS (ag (aa aj) (ag (aa (bB ((GN T).mono (by decide)) hr rfl T.Fo T.BW.kp T.Fp aV (ag (bv 0) ax))) ax))) (cI (i:=1) LP.nd rfl (ai rfl))
    (aA (aZ (i:=2) LP.nd rfl (ai rfl) (dS (cy aj cH)))
    (aA (u3 eR (cq (gM (cM hr)) (aa (bB ((GW T).mono (by decide)) hr rfl T.Fv T.BZ.kp T.Fw aV (ag (bv 0) (ag (bE (bv 2) (aa (XM (aa aj))) (λ_ _=>rfl)) (ag (bv 1) ax))))) (aa aj) (bP _))
     (aH (kQ (i:=2) rfl (by first | exact ai rfl | exact aW (ai rfl)) (bB ((GW T).mono (by decide)) hr rfl T.Fv T.BZ.kp T.Fw aV (ag (bv 0) (ag (bE (bv 2) (aa (XM (aa aj))) (λ_ _=>rfl)) (ag (bv 1) ax)))))))
    (aH (cT (cq (gC (cM hr)) (aa (cY (gE) (by rfl) T.gj fY (ag (bv 2) ax))) (aa (aB dG (aa (bB ((GN T).mono (by decide)) hr rfl T.Fo T.BW.kp T.Fp aV (ag (bv 0) ax))) (aa aj))) (bP _)) (aH (aX (em 2))) cS)))))
   (aH (aX (dS (cy aj cH))))),λds Q h=>?_⟩
  obtain⟨m,rfl,hm,q⟩:=h
  have hF:=dn hm
  have fc:=hF.lo
  have CO:=hF.hi
  have hbl:=Ld m hm
  obtain⟨st,s1,s2,s3,s4⟩:=cU8 hm
  refine az λU hU=>?_
  nofun
  refine⟨m,rfl,by omega,by omega,1,_,⟨rfl,rfl⟩,⟨by decide,by decide,by omega,by omega⟩,?_⟩
  refine gb.mk (λi δ=>i<=st-1/\∃o1 o2,δ=[some (dr m),o1,o2]) ⟨by omega,none,none,rfl⟩ ?_ ?_
  ·rintro i d δ hd ⟨hi,o1,o2,rfl⟩
   obtain⟨Bc,rfl⟩:=cm0 hd
   rw[show(1:Int)+(i:Int)=((i+1:Nat):Int) by omega]
   clear hd
   obtain⟨L,eL,hL⟩:∃L,oF (gm m) (i+1) 64 [1] 1=some L/\((i=st-1/\L=fl m)\/(i<st-1/\L.length≠ae m-1)):=by
    by_cases hi3:i=st-1
    ·exact⟨_,by rw[hi3,show st-1+1=st by omega];exact s4,.inl ⟨hi3,rfl⟩⟩
    ·obtain⟨l,h1,h2⟩:=s3 i (by omega)
     exact⟨l,h1,.inr ⟨by omega,h2⟩⟩
   refine az λU hU=>?_
   nofun
   refine⟨by decide,hU _ ?_⟩
   clear hU
   refine az λU hU=>?_
   nofun
   refine⟨λn δ=>∃(l:List Int) (p:Nat),δ=[some (dr m),some (.int ((i+1:Nat):Int)),some (.lst true (aJ (l++[(p:Int)])))]/\p<ae m/\l.length+n=64/\oF (gm m) (i+1) n (l++[(p:Int)]) p=some L,
    ⟨64,[],1,rfl,by omega,rfl,eL⟩,?_⟩
   rintro n δ ⟨l,p,rfl,hp,hl,he⟩
   nofun
   have ea:eJ (aJ (l++[(p:Int)])) (-1)=some (.int (p:Int)):=by rw[cb3 (by rw[dN];show 0<l.length+1;omega),dN,lM,Nat.add_sub_cancel,aU,kB (bK _),zj];rfl
   cases n with
   | zero=>cases he
   | succ n =>
    rw[oF]at he
    refine⟨_,ea,m,p,i+1,rfl,hm,hp,by omega,rfl,rfl,?_⟩
    rw[jL]
    by_cases c:gm m p (i+1)=1
    ·rw[if_pos c]at he
     cases he
     rw[decide_eq_true (by omega),if_neg (by decide)]
     refine hU _ ?_
     nofun
     refine⟨m,rfl,by omega,by omega,?_⟩
     dsimp only
     rcases hL with⟨h1,h2⟩ | ⟨h1,h2⟩
     ·have:=hF.len
      rw[h2,if_pos (by omega)]
      exact q
     ·rw[if_neg (by omega)]
      exact⟨by omega,_,_,rfl,rfl⟩
    ·rw[if_neg c]at he
     rw[decide_eq_false (by omega),if_pos (by decide)]
     exact⟨⟨_,rfl⟩,_,ea,m,p,i+1,rfl,hm,hp,by omega,rfl,by rw[dN];show l.length+1<_;omega,n,by omega,l++[(p:Int)],gm m p (i+1),by simp only[aJ,fv,dv,jX],dD hm _ _,by rw[dN];show l.length+1+n=64;omega,he⟩
  ·rintro δ ⟨hi,_⟩
   simp at hi
   omega
abbrev aM1:bq:=λds Q=>∃(m:Bool × Nat) (n e f:Nat),ds=[dr m,.int n,.int e,.int f]/\m∈aI/\n<=64/\e<=64/\f<=64/\Q (.lst true (ay true (fo m f (aM n) e)))
theorem ax7(T:Txt K mg t):aN P w K mg base aR 3 t.Nx t.Ny ["_law_told_here","_law_length","_law_extra","_law_first"] (br (aM1 )):=by
 refine bD T.Ox Fe ?_ ?_
 ·intro ds Q h
  obtain⟨m,n,e,f,rfl,hm,hn,he,hf,q⟩:=h<;>rfl
 ·intro aD A outer s H E hr
  refine⟨_,(aA (aZ (i:=4) Fe.nd rfl (aW rfl) (bB ((aU6 T).mono (by decide)) hr rfl T.aV8 T.aI0.kp T.aV9 aV (ag (bv 0) ax)))
   (aA (aZ (i:=5) Fe.nd rfl (ai rfl) (dS cH))
   (aA (gg eR rfl (jI rfl T.gS (ag (bv 2) ax)) (cI (i:=6) Fe.nd rfl (aW rfl))
    (aH (kQ (i:=5) rfl (by first | exact ai rfl | exact aW (ai rfl)) (dX [("_law_powers_here",4),("_law_first",3),("_law_i",6)] ["_law_at"] rfl (jI rfl T.gS (ag (bv 1) ax)) (λ_ _ _ _=>(cI (i:=3) (show(["_law_powers_here","_law_first","_law_i","_law_at"]:List Str).Nodup by decide +kernel) rfl (ai (lr1 rfl)) (by decide) (aW (lr1 rfl)))) (λ_ _ _ _=>dB) (λ_ _ _ _=>(dm (bE (bv 0) (aa (aB dH (aa (aB fA (aa (aB cU (bv 1) (bv 2))) (bv 3))) (aa (cY (gE) (by rfl) T.gj fY (ag (bv 0) ax))))) (λ_ _=>rfl)))) rfl ⟨rfl,⟨rfl,⟨rfl,trivial⟩⟩⟩ (λ_=>by repeat' (first | exact trivial | refine⟨.inl rfl,?_⟩ | refine⟨.inr (.inl rfl),?_⟩ | refine⟨.inr (.inr ⟨_,rfl⟩),?_⟩)) (λ_=>⟨⟨rfl,.inl rfl,.inl rfl,_,rfl,rfl⟩,⟨⟨rfl,.inl rfl,.inl rfl,_,rfl,rfl⟩,⟨⟨rfl,.inl rfl,.inl rfl,_,rfl,rfl⟩,trivial⟩⟩⟩) rfl (by decide +kernel)))))
   (aH (aX (em 5)))))),λds Q h=>?_⟩
  obtain⟨m,n,e,f,rfl,hm,hn,he,hf,q⟩:=h
  have hF:=dn hm
  have fc:=hF.lo
  have CO:=hF.hi
  have hlen:=hF.len
  refine az λU hU=>?_
  nofun
  refine⟨m,rfl,hm,hU _ ?_⟩
  clear hU U
  refine az λU hU=>?_
  nofun
  refine⟨by decide,hU _ ?_⟩
  clear hU U
  refine az λU hU=>?_
  nofun
  refine⟨⟨by omega,by omega⟩,AX (λi δ=>∃(o1:Option D),δ=[some (dr m),some (.int n),some (.int e),some (.int f),some (.lst true (aJ (fl m))),some (.lst true (ay true (fo m f (aM n) i))),o1]) ⟨_,rfl⟩ ?_ ?_⟩
  ·rintro i δ hi ⟨o1,rfl⟩
   simp only[gN,jB,jA]
   clear hU
   nofun
   refine⟨⟨_,rfl⟩,⟨by omega,by omega⟩,eN (aM n) (λ(i:Nat)=>D.int (i:Int)) (λ(p:Nat)=>D.int ((eS m (((f:Int)+(i:Int))*(p:Int)):Nat):Int)) (pV _ rfl) iQ (λp hp=>?_) (.inr λ_ _=>rfl) (by rw[cm,sL];omega) ?_⟩
   ·have hp:=da.mp hp
    have n0:=gW (((f:Int)+(i:Int))*(p:Int)) (show(ae m:Int)-1≠0 by omega)
    have el:(((fl m).length:Nat):Int)=(ae m:Int)-1:=by omega
    nofun
    rw[el]
    refine⟨ig.ok (.inl ⟨by omega,by omega⟩),by omega,_,nB (d:=.int (eS m (((f:Int)+(i:Int))*(p:Int)):Nat)) n0 ?_,rfl,rfl⟩
    unfold aJ;rw[cu,Zi hm];rfl
   ·refine⟨_,rfl,by rw[kn,(E1 hm f (aM n) i).2];omega,some (D.int i),?_⟩
    rw[show fo m f (aM n) (i+1)=fo m f (aM n) i++[(aM n).map λ(p:Nat)=>eS m (((f:Int)+(i:Int))*(p:Int))] by unfold fo;rw[IU,fv];rfl,<- sY,show((aM n).map λ(p:Nat)=>D.int ((eS m (((f:Int)+(i:Int))*(p:Int)):Nat):Int))=ak ((aM n).map λ(p:Nat)=>eS m (((f:Int)+(i:Int))*(p:Int))) by rw[cE,cA];rfl]
    rfl
  ·rintro δ ⟨o1,rfl⟩
   refine hU _ ?_
   nofun
   exact q
abbrev aM2:bq:=λds Q=>∃(M n e f:Nat),ds=[.int M,.int n,.int e,.int f]/\2<=n/\n+1<=M/\1<=e/\e+1<=n/\f+2<=M/\Q (.bl true)
theorem aM3(T:Txt K mg t):aN P w K mg base aR 1 t.Nz t.NA ["many","length","extra","first"] (br (aM2 )):=by
 refine bD T.dd9 aK0 ?_ ?_
 ·intro ds Q h
  obtain⟨M,n,e,f,rfl,h1,h2,h3,h4,h5,q⟩:=h<;>rfl
 ·intro aD A outer s H E hr
  refine⟨_,(aH (aX (pk (aa (rS kg kg (aa aj) (bv 1) (aa (aB dG (bv 0) (aa aj))))) (pk (aa (rS kg kg (aa aj) (bv 2) (aa (aB dG (bv 1) (aa aj))))) (uv (rS kg kg (aa aj) (bv 3) (aa (aB dG (bv 0) (aa aj))))))))),λds Q h=>?_⟩
  obtain⟨M,n,e,f,rfl,h1,h2,h3,h4,h5,q⟩:=h
  nofun
  rw[if_pos (by omega),if_pos (by omega),if_pos (by omega),if_pos (by omega),if_pos (by omega),decide_eq_true (by omega)]
  exact q
abbrev bK1(t:eX):List D->List Str->List D->Prop:=λds ns xs=>∃(m:Bool × Nat) (n e f:Nat),ds=[fD t.aC t.aF m,.int n,.int e,.int f]/\m∈aI/\2<=n/\n+1<=ae m/\1<=e/\e+1<=n/\f+2<=ae m/\ns=(["extra","first","field","length","check_rows","word_rows","message_places","size"]:List Str)/\xs=[.int e,.int f]++mR t.aC t.aF true m (fo m f (aM n) e)
theorem aQ3(T:Txt K mg t)(hB:Bm mg base):aN P w K mg base aR 5 t.NB t.NC ["self","field","length","extra","first"] (E4 [t.iV,t.iW] t.bh (bK1 t)):=by
 refine T.eB3.ok Θ (λvs H Q E h=>?_) λaD A outer s H vs Q E hr h=>?_
 ·obtain⟨F,H0,x,dx,bU,ds,ns,xs,rfl,_,_,_,_,_,r,⟨m,n,e,f,rfl,_⟩,_⟩:=h
  have:=r.length
  simp at this
  simp[this]
 obtain⟨F,H0,x,dx,bU,ds,ns,xs,rfl,tb,e0,gB,s0,hx,r,⟨m,n,e,f,rfl,hm,h1,h2,h3,h4,h5,rfl,rfl⟩,q⟩:=h
 have CO:=(dn hm).hi
 obtain⟨vf,GV,B1,B2,rfl,OW,rf,r2⟩:=R.cR r
 obtain⟨rfl,rfl⟩:=qF.mp OW.symm
 obtain rfl:GV=[.int n,.int e,.int f]:=by
  cases r2 with
  | int r=>cases r with
   | int r=>cases r with
    | int r=>cases r;rfl
 refine⟨_,eV (qQ (mB (hE (aa (bB ((aM3 T).mono (by decide)) hr rfl T.eB1 T.dd9.kp T.eB2 aV (ag (dW (K:=K) (bv 1)) (ag (bv 2) (ag (bv 3) (ag (bv 4) ax)))))))) (jc qR) qO)
  (eV (gZ (pv 0) (pv 3) rfl)
  (eV (gZ (pv 0) (pv 4) rfl)
  (eV (cm5 (i:=5) Θ.nd rfl (ai rfl) [("field",1),("first",4),("length",2)] ["i"] rfl (jI rfl T.gS (ag (bv 3) ax)) (λ_ _ _ _=>(cI (i:=3) (show(["field","first","length","i"]:List Str).Nodup by decide +kernel) rfl (aW rfl) (by decide) (ai rfl))) (λ_ _ _ _=>dB) (by exact λ_ _ _ _=>(dX [("field",0),("first",1),("i",3)] ["j"] rfl (jI rfl T.gS (ag (bv 2) ax)) (λ_ _ _ _=>(cI (i:=3) (show(["field","first","i","j"]:List Str).Nodup by decide +kernel) rfl (ai (lr1 rfl)) (by decide) (aW (lr1 rfl)))) (λ_ _ _ _=>dB) (λ_ _ _ _=>(jt (P:=P) (w:=w) (K:=K) (mg:=mg) (base:=base) (n:=1) (bv 0) (hr.mono (by decide)) (ag (aa (aB fA (aa (aB cU (bv 1) (bv 2))) (bv 3))) ax))) rfl ⟨rfl,⟨rfl,⟨rfl,trivial⟩⟩⟩ (λ_=>by repeat' (first | exact trivial | refine⟨.inl rfl,?_⟩ | refine⟨.inr (.inl rfl),?_⟩ | refine⟨.inr (.inr ⟨_,rfl⟩),?_⟩)) (λ_=>⟨⟨rfl,.inl rfl,.inl rfl,_,rfl,rfl⟩,⟨⟨rfl,.inl rfl,.inl rfl,_,rfl,rfl⟩,⟨⟨rfl,.inl rfl,.inl rfl,_,rfl,rfl⟩,trivial⟩⟩⟩) rfl (by decide +kernel))) rfl ⟨rfl,⟨rfl,⟨rfl,trivial⟩⟩⟩ (λ_=>by repeat' (first | exact trivial | refine⟨.inl rfl,?_⟩ | refine⟨.inr (.inl rfl),?_⟩ | refine⟨.inr (.inr ⟨_,rfl⟩),?_⟩)) (λ_=>⟨⟨rfl,.inl rfl,.inl rfl,_,rfl,rfl⟩,⟨⟨rfl,.inl rfl,.inl rfl,_,rfl,rfl⟩,⟨⟨rfl,.inl rfl,.inl rfl,_,rfl,rfl⟩,trivial⟩⟩⟩) rfl (by decide +kernel))
  (jc (qP (LK (E:=E0) T.OB ((OJ T).mono (by decide)) hr T.Ov aV rfl T.qt (bX (pv 0) (bX (pv 1) (bX (pv 5) e7))))))))),?_⟩
 refine⟨⟨H,F⟩,F,[none,some (fD t.aC t.aF m),some (.int n),some (.int e),some (.int f),none],[],λb _=>b=false,aq.self (e0.trans s0) (.dR (A:=[]) (C:=[]) (rf.shared (L3.af.refl _) s0) (.dR (A:=[]) (C:=[]) (.int .nil) (.dR (A:=[]) (C:=[]) (.int .nil) (.dR (A:=[]) (C:=[]) (.int .nil) (.aw .nil))))),?_,λb ah F1 H1 hb CJ eQ c1=>?_⟩
 ·nofun
  exact cP1 T m ⟨ae m,n,e,f,rfl,h1,h2,h3,h4,h5,rfl,true,rfl,rfl⟩
 subst hb
 refine jh ?_
 have s1:=s0.trans eQ
 have cC:=eQ.get _ _ hx rfl
 refine⟨.int e,rfl,.ref x,rfl,x,t.bh,dx,_,rfl,cC,T.Ct,T.Cv,by decide,?_⟩
 have dZ:upd H1 x (.ins t.bh dx (bF "extra" (.int e) [])) x=some (.ins t.bh dx [("extra",.int e)]):=by rw[bM];rfl
 have z2:=(eQ.x (x:=x)).trans (bO.upd (C:=x) (dx:=dx) cC rfl (o':=.ins t.bh dx (bF "extra" (.int e) [])))
 generalize upd H1 x (.ins t.bh dx (bF "extra" (.int e) []))=H2 at z2 dZ ⊢
 refine⟨.int f,rfl,.ref x,rfl,x,t.bh,dx,_,rfl,dZ,T.Ct,T.Cw,by show 1<1000;decide,?_⟩
 have fi:upd H2 x (.ins t.bh dx (bF "first" (.int f) [("extra",.int e)])) x=some (.ins t.bh dx [("extra",.int e),("first",.int f)]):=by rw[bM];rfl
 have z3:=z2.trans (bO.upd (C:=x) (dx:=dx) dZ rfl (o':=.ins t.bh dx (bF "first" (.int f) [("extra",.int e)])))
 generalize upd H2 x (.ins t.bh dx (bF "first" (.int f) [("extra",.int e)]))=H3 at z3 fi ⊢
 have s3:=bO.of0 gB s0 z3
 obtain⟨g1,g2⟩:=E1 hm f (aM n) e
 rw[cm]at g1
 have g3:av (fo m f (aM n) e)=n:=s8 g1 λz=>by
  rw[z]at g2
  exact absurd g2 (by show ¬ 0=e;omega)
 refine⟨⟨H3,F⟩,F,[none,some (fD t.aC t.aF m),some (.int n),some (.int e),some (.int f),none],[],λd _=>d=.lst true (ay true (fo m f (aM n) e)),aq.self (e0.trans s3) (.dR (A:=[]) (C:=[]) (rf.shared (L3.af.refl _) s3) (.dR (A:=[]) (C:=[]) (.int .nil) (.dR (A:=[]) (C:=[]) (.int .nil) (.dR (A:=[]) (C:=[]) (.int .nil) (.aw .nil))))),?_,λd ah v F4 H4 hd hf4 CP c4=>?_⟩
 ·nofun
  refine⟨⟨by omega,by omega⟩,eN (aM e) (λ(i:Nat)=>D.int (i:Int)) (λ(i:Nat)=>D.lst true (ak ((aM n).map λ(p:Nat)=>eS m (((f:Int)+(i:Int))*(p:Int))))) (pV _ (by omega)) iQ (λi hi=>?_) (.inr λ_ _=>hV _) (by rw[cm,sL];omega) ?_⟩
  ·have hi:=da.mp hi
   nofun
   refine⟨⟨by omega,by omega⟩,eN (aM n) (λ(i:Nat)=>D.int (i:Int)) (λ(p:Nat)=>D.int ((eS m (((f:Int)+(i:Int))*(p:Int)):Nat):Int)) (pV _ (by omega)) iQ (λp Eb=>?_) (.inr λ_ _=>rfl) (by rw[cm,sL];omega) ?_⟩
   ·have:=da.mp Eb
    nofun
    obtain⟨C,ns,xs,sp,e1,e2,e3,e4⟩:=bM1 (P:=P) (w:=w) (base:=base) T hm (n:=((f:Int)+(i:Int))*(p:Int)) (Q:=λr=>r=D.int ((eS m (((f:Int)+(i:Int))*(p:Int)):Nat):Int)) rfl
    exact⟨C,ns,xs,sp,e1,e2,e3,ig.ok (.inl ⟨by omega,by omega⟩),e4⟩
   ·rw[cE,cA];rfl
  ·unfold fo ay
   rw[cA];rfl
 subst hd
 obtain⟨A4,C4,r4,_,nd4,OY⟩:=c4.own
 have r4:R F4 H4 [.lst true (ay true (fo m f (aM n) e))] [v] A4:=r4
 obtain⟨pc,rfl⟩:=wC r4
 have jx:=CP.get _ _ fi rfl
 have fR:∀X:List (List Nat),[D.lst true (ay true X)].all D.fr=true:=λX=>by rw[dy,fL,pY];rfl
 have yJ:∀X:List (List Nat),[D.lst true (ay true X)].map D.sh=[D.lst false (ay false X)]:=λX=>by rw[dv,dQ,eA];rfl
 have r4:=r4.rq (fR _) hf4
 have OY:∀a∈A4,H3 a=none:=λa ha=>OY a (eZ _ ha)
 have nd4:=(gy.mp nd4).1
 have s04:=s3.trans CP
 have xA:x ∉ A4:=λz=>by rw[OY x z]at fi;cases fi
 have s5:L3.af H0 (L3.bz H0 H4 A4):=iy s04
 have e5:=e0.trans s5
 have r5:R F (L3.bz H0 H4 A4) [.lst true (ay true (fo m f (aM n) e))] [.ref pc] A4:=θ r4 λa ha=>by unfold L3.bz;rw[if_pos ha]
 refine⟨.ref x,rfl,vf,rfl,.ref pc,rfl,L3.bz F (L3.bz H0 H4 A4) A4,L3.bz H0 H4 A4,x,dx,t.bh,vf,.ref pc,m,fo m f (aM n) e,[("extra",.int e),("first",.int f)],rfl,nK e5,by rw[pd xA];exact gB,nK s04,jx,.two _ _,⟨T.Ct,T.yz,T.yA,T.yy,T.yD,T.yB,T.yC⟩,rf.shared (iy e5) s5,yJ _ ▸ r5.bz e5 A4 λ_ h=>h,hm,by rw[g3];exact g1,by omega,by omega,λH' p1 p2 p3 B1 B2 B3 sx de k1 k2 k3 nd fr=>?_⟩
 have z:=(z3.trans (CP.x (x:=x))).trans sx
 have so:=bO.of0 gB s0 z
 have ee:=e0.trans s3
 refine q H' [.int e,.int f,vf,.int (av (fo m f (aM n) e):Nat),.ref p1,.ref p2,.ref p3,.int ((bV m (fo m f (aM n) e)).length:Nat)] (B1++(B2++(B3++[]))) z de rfl ?_ ?_ ?_
 ·have up:∀{ds:List D} {vs:List V} {B:List Addr},R (λ_=>none) H' ds vs B->(∀a∈B,H4 a=none)->R F H' ds vs B:=λr h=>r.keep (L3.af.of λb o e=>by cases e) (fM.same (L3.af.refl _)) gx.nil (λa ha=>ee.free (CP.free (h a ha))) (by simp)
  exact .int (.int (R.cons (A:=[]) (rf.shared (L3.af.refl _) so) (.int (R.cons (up k1 λa ha=>fr a (eZ _ ha)) (R.cons (up k2 λa ha=>fr a (df _ (eZ _ ha))) (R.cons (up k3 λa ha=>fr a (df _ (df _ ha))) (.int .nil)))))))
 ·rw[fV];exact nd
 ·rw[fV]
  intro a ha
  exact z3.free (by rw[fi];simp) (CP.free (fr a ha))
abbrev at5(t:eX):bq:=λds Q=>∃(m:Bool × Nat) (G:List (List Nat)) (b:Nat),ds=[gn t m G (.BJ b)]/\Q (.int (b:Nat))
theorem aG7(T:Txt K mg t):aN P w K mg base aR 1 t.ND t.NF ["self"] (br (at5 t)):=by
 refine bD T.eB5 aG0 ?_ ?_
 ·intro ds Q h
  obtain⟨m,G,b,rfl,q⟩:=h<;>rfl
 ·intro aD A outer s H E hr
  refine⟨_,(aH (aX (dm (dW (K:=K) (bv 0))))),λds Q h=>?_⟩
  obtain⟨m,G,b,rfl,q⟩:=h
  nofun
  exact⟨_,_,_,_,rfl,T.yg,T.yi,rfl,rfl,q⟩
abbrev aQ4(t:eX):bq:=λds Q=>∃(m:Bool × Nat) (n:Nat),ds=[fD t.aC t.aF m,.int n]/\m∈aI/\2<=n/\n<=24/\Q (.lst true (ay true (hW m n)))
theorem aQ5(T:Txt K mg t):aN P w K mg base aR 2 t.NG t.NH ["field","length"] (br (aQ4 t)):=by
 refine bD T.de0 Λ ?_ ?_
 ·intro ds Q h
  obtain⟨m,n,rfl,hm,h2,CQ,q⟩:=h<;>rfl
 ·intro aD A outer s H E hr
  refine⟨_,(aA (aZ (i:=2) Λ.nd rfl (aW rfl) (jt (P:=P) (w:=w) (K:=K) (mg:=mg) (base:=base) (n:=1) (bv 0) (hr.mono (by decide)) (ag (aa aj) (ag (aa aj) ax))))
   (aH (aX (dX [("less_one",2),("length",1)] ["i"] rfl (jI rfl T.gS (ag (aa (aB dG (bv 1) (aa aj))) ax)) (λ_ _ _ _=>(cI (i:=2) (show(["less_one","length","i"]:List Str).Nodup by decide +kernel) rfl (ai (lr1 rfl)) (by decide) (aW (lr1 rfl)))) (λ_ _ _ _=>dB) (λ_ _ _ _=>(aB cU (aa (aB cU (aa (aB cU (aa (aB fA (aa (dS (cy aj cH))) (bv 2))) (aa (dS (cy aj cH))))) (aa (aB fA (aa (dS (cy aj cH))) (aa (aB dG (aa (aB dG (bv 1) (aa aj))) (bv 2))))))) (cL8 (ag (bv 0) ax)))) rfl ⟨rfl,⟨rfl,trivial⟩⟩ (λ_=>by repeat' (first | exact trivial | refine⟨.inl rfl,?_⟩ | refine⟨.inr (.inl rfl),?_⟩ | refine⟨.inr (.inr ⟨_,rfl⟩),?_⟩)) (λ_=>⟨⟨rfl,.inl rfl,.inl rfl,_,rfl,rfl⟩,⟨⟨rfl,.inl rfl,.inl rfl,_,rfl,rfl⟩,trivial⟩⟩) rfl (by decide +kernel))))),λds Q h=>?_⟩
  obtain⟨m,n,rfl,hm,h2,CQ,q⟩:=h
  have m0:=dq m hm
  have fc:=(dn hm).lo
  obtain⟨C,ns,zs,sp,e1,e2,e3,e4⟩:=cc1 (P:=P) (w:=w) (base:=base) T m0
  refine az λU hU=>?_
  nofun
  refine⟨C,ns,zs,sp,e1,e2,e3,e4 0 1 _ ?_⟩
  rw[(mM hm (show 0<ae m by omega) (show 1<ae m by omega)).1]
  refine hU _ ?_
  clear hU U e1 e2 e3 e4
  nofun
  refine⟨⟨by omega,by omega⟩,eN (aM (n-1)) (λ(i:Nat)=>D.int (i:Int)) (λi=>D.lst true (ak (kr m n i))) (pV _ (by omega)) iQ (λi hi=>?_) (.inr λ_ _=>hV _) (by rw[cm,sL];omega) ?_⟩
  ·have hi:=da.mp hi
   nofun
   unfold kr
   have zn:∀k:Nat,aJ (bo k (0:Int))=ak (bo k 0):=λk=>by unfold ak;rw[qI];rfl
   rw[gU,show((n:Int)-2-(i:Int)).toNat=n-2-i by omega,zn,zn,show [D.int 1]=ak [1] from rfl,show [D.int ((bR m 0 1:Nat):Int)]=ak [bR m 0 1] from rfl,nY,nY,nY,kT,kT,eo,eo]
   simp only[dN,fW,lM]
   exact⟨by decide,⟨by omega,by omega,by omega⟩,by decide,by omega,by decide,⟨by omega,by omega,by omega⟩,⟨by omega,trivial⟩,by decide,⟨by omega,trivial⟩,trivial⟩
  ·rw[show((aM (n-1)).map λi=>D.lst true (ak (kr m n i)))=ay true (hW m n) by unfold ay hW;rw[cA];rfl]
   exact q
abbrev bt6(t:eX):List D->List Str->List D->Prop:=λds ns xs=>∃(m:Bool × Nat) (n:Nat),ds=[fD t.aC t.aF m,.int n]/\m∈aI/\2<=n/\n<=24/\ns=oo/\xs=mR t.aC t.aF true m (hW m n)
theorem aM4(T:Txt K mg t)(hB:Bm mg base):aN P w K mg base aR 5 t.NI t.NJ ["self","field","length"] (E4 [t.iV,t.iW] t.bw (bt6 t)):=by
 refine T.eB9.ok aK1 (λvs H Q E h=>?_) λaD A outer s H vs Q E hr h=>?_
 ·obtain⟨F,H0,x,dx,bU,ds,ns,xs,rfl,_,_,_,_,_,r,⟨m,n,rfl,_⟩,_⟩:=h
  have:=r.length
  simp at this
  simp[this]
 obtain⟨F,H0,x,dx,bU,ds,ns,xs,rfl,tb,e0,gB,s0,hx,r,⟨m,n,rfl,hm,h2,CQ,rfl,rfl⟩,q⟩:=h
 obtain⟨g1,g2,g3⟩:=μ hm h2
 obtain⟨vf,GV,B1,B2,rfl,hB,rf,r2⟩:=R.cR r
 obtain⟨rfl,rfl⟩:=qF.mp hB.symm
 obtain rfl:GV=[.int n]:=by
  cases r2 with
  | int r=>cases r;rfl
 refine⟨_,eV (qQ (PW.pt (VR (Ju V1 (pv 2) oU (bP _)) (lY (Ju V2 (pv 2) oU (bP _))))) (jc qR) qO)
  (jc (qP (LK (E:=E0) T.OB ((OJ T).mono (by decide)) hr T.Ov aV rfl T.qt (bX (pv 0) (bX (pv 1) (bX (jg ((aQ5 T).mono (by decide)) hr rfl T.eB7 T.de0.kp T.eB8 .nil aV (bX (pv 1) (bX (pv 2) e7))) e7)))))),?_⟩
 refine⟨.int n,rfl,_,_,rfl,rfl,_,rfl,?_⟩
 rw[decide_eq_false (by omega)]
 refine jh ?_
 refine⟨.int n,rfl,_,_,rfl,rfl,_,rfl,?_⟩
 rw[decide_eq_false (by omega)]
 refine jh ?_
 have e:=e0.trans s0
 refine⟨.ref x,rfl,vf,rfl,vf,rfl,.int n,rfl,F,[fD t.aC t.aF m,.int n],λd=>d=.lst true (ay true (hW m n)),e,R.cons (A:=[]) (rf.shared (L3.af.refl _) s0) (.int .nil),⟨m,n,rfl,hm,h2,CQ,rfl⟩,λd v F1 H1 A1 hd eQ CJ OK h31 r1 nd1 OL=>?_⟩
 subst hd
 obtain⟨pc,rfl⟩:=wC r1
 have cC:=eQ.get _ _ hx rfl
 have fR:∀X:List (List Nat),[D.lst true (ay true X)].all D.fr=true:=λX=>by rw[dy,fL,pY];rfl
 have yJ:∀X:List (List Nat),[D.lst true (ay true X)].map D.sh=[D.lst false (ay false X)]:=λX=>by rw[dv,dQ,eA];rfl
 have r1:=r1.rq (fR _) CJ
 have s01:=s0.trans eQ
 have xA:x ∉ A1:=λz=>by rw[OL x z]at hx;cases hx
 have s2:L3.af H0 (L3.bz H0 H1 A1):=iy s01
 have e2:=e0.trans s2
 have r2:R F (L3.bz H0 H1 A1) [.lst true (ay true (hW m n))] [.ref pc] A1:=θ r1 λa ha=>by unfold L3.bz;rw[if_pos ha]
 refine⟨L3.bz F (L3.bz H0 H1 A1) A1,L3.bz H0 H1 A1,x,dx,t.bw,vf,.ref pc,m,hW m n,[],rfl,nK e2,by rw[pd xA];exact gB,nK s01,cC,.nil,⟨T.OA,T.yr,T.yt,T.yq,T.yw,T.yu,T.yv⟩,rf.shared (iy e2) s2,yJ _ ▸ r2.bz e2 A1 λ_ h=>h,hm,by rw[g3];exact g1,by omega,by omega,λH' p1 p2 p3 B1 B2 B3 sx de k1 k2 k3 nd fr=>?_⟩
 have z:=(eQ.x (x:=x)).trans sx
 have so:=bO.of0 gB s0 z
 refine q H' [vf,.int (av (hW m n):Nat),.ref p1,.ref p2,.ref p3,.int ((bV m (hW m n)).length:Nat)] (B1++(B2++(B3++[]))) z de rfl ?_ ?_ ?_
 ·have up:∀{ds:List D} {vs:List V} {B:List Addr},R (λ_=>none) H' ds vs B->(∀a∈B,H1 a=none)->R F H' ds vs B:=λr h=>r.keep (L3.af.of λb o e=>by cases e) (fM.same (L3.af.refl _)) gx.nil (λa ha=>e.free (eQ.free (h a ha))) (by simp)
  exact R.cons (A:=[]) (rf.shared (L3.af.refl _) so) (.int (R.cons (up k1 λa ha=>fr a (eZ _ ha)) (R.cons (up k2 λa ha=>fr a (df _ (eZ _ ha))) (R.cons (up k3 λa ha=>fr a (df _ (df _ ha))) (.int .nil)))))
 ·rw[fV];exact nd
 ·rw[fV]
  intro a ha
  exact eQ.free (fr a ha)
abbrev av3:bq:=λds Q=>∃(m:Bool × Nat) (n:Nat),ds=[dr m,.int n]/\m∈aI/\2<=n/\n<=24/\Q (.lst true (ay true (hW m n)))
theorem aH7(T:Txt K mg t):aN P w K mg base aR 1 t.NK t.NL ["_law_told_here","_law_length"] (br (av3 )):=by
 refine bD T.av7 Ff ?_ ?_
 ·intro ds Q h
  obtain⟨m,n,rfl,hm,h2,CQ,q⟩:=h<;>rfl
 ·intro aD A outer s H E hr
  refine⟨_,(aA (aZ (i:=2) Ff.nd rfl (ai rfl) (dS cH))
   (aA (gg eR rfl (jI rfl T.gS (ag (aa (aB dG (bv 1) (aa aj))) ax)) (cI (i:=3) Ff.nd rfl (ai rfl))
    (aA (aZ (i:=4) Ff.nd rfl (ai rfl) (aB fA (aa (dS (cy aj cH))) (bv 1)))
    (aA (sk (i:=4) rfl (by first | exact ai rfl | exact aW (ai rfl)) aj (bv 3))
    (aA (sk (i:=4) rfl (by first | exact ai rfl | exact aW (ai rfl)) aj (aa (aB dG (bv 1) (aa aj))))
    (aA (cT (mB (hE (bE (bv 0) (aa aj) (λ_ _=>rfl)))) (aH (sk (i:=4) rfl (by first | exact ai rfl | exact aW (ai rfl)) (aB dG (bE (bv 0) (aa aj) (λ_ _=>rfl)) (aa aj)) (aa (aB dG (bv 1) (aa aj))))) cS)
    (aH (kQ (i:=2) rfl (by first | exact ai rfl | exact aW (ai rfl)) (em 4))))))))
   (aH (aX (em 2))))),λds Q h=>?_⟩
  obtain⟨m,n,rfl,hm,h2,CQ,q⟩:=h
  have hF:=dn hm
  have fc:=hF.lo
  have CO:=hF.hi
  refine az λU hU=>?_
  nofun
  refine⟨by decide,hU _ ?_⟩
  clear hU U
  refine az λU hU=>?_
  nofun
  refine⟨⟨by omega,by omega⟩,?_⟩
  rw[show((n:Int)-1)=((n-1:Nat):Int) by omega]
  refine AX (λi δ=>∃(o1 o2:Option D),δ=[some (dr m),some (.int n),some (.lst true (ay true ((aM i).map (kr m n)))),o1,o2]) ⟨_,_,rfl⟩ ?_ ?_
  ·rintro i δ hi ⟨o1,o2,rfl⟩
   simp only[gN,jB,jA]
   clear hU
   have up:∀v:Nat,v=bR m 0 1->((bo n 0).set i 1).set (n-1) v=kr m n i:=λv hv=>by
    have l1:(((bo n 0).set i 1).set (n-1) v).length=n:=by rw[jY,jY,fW]
    refine EW l1 (by unfold kr;simp only[dN,fW,lM];omega) λk hk=>?_
    rw[cO7 hi]
    unfold cf
    rw[aU,List.getElem?_set,List.getElem?_set,jY,fW,tY,if_pos hk]
    by_cases c1:k=i
    ·rw[if_neg (by omega),if_pos c1.symm,if_pos (by omega),if_pos c1];rfl
    ·by_cases c2:k=n-1
     ·rw[if_pos c2.symm,if_pos (by omega),if_neg c1,if_pos c2,hv];rfl
     ·rw[if_neg (λz=>c2 z.symm),if_neg (λz=>c1 z.symm),if_neg c1,if_neg c2];rfl
   refine az λU hU=>?_
   nofun
   refine⟨by decide,⟨by omega,by omega,by omega⟩,hU _ ?_⟩
   clear hU
   rw[gU]
   refine az λU hU=>?_
   nofun
   refine⟨_,i,rfl,sU (by omega) (by rw[kS,fW];omega),hU _ ?_⟩
   clear hU
   refine az λU hU=>?_
   nofun
   have ix:∀v:Nat,g9 (ak (((bo n 0).set i 1).set (n-1) v)).length ((n:Int)-1)=some (n-1):=λv=>by
    rw[show((n:Int)-1)=((n-1:Nat):Int) by omega]
    exact sU (by omega) (by rw[eo,jY,jY,fW];omega)
   rw[show(aJ (bo n 0)).set i (D.int 1)=ak ((bo n 0).set i 1) by
    rw[cE];unfold aJ;rw[zw,qI,qI];rfl]
   refine⟨_,n-1,rfl,by rw[<-ix 0,eo,eo,jY (i:=n-1)],hU _ ?_⟩
   rw[show(ak ((bo n 0).set i 1)).set (n-1) (D.int 1)=ak (((bo n 0).set i 1).set (n-1) 1) by rw[cE,cE,zw (i:=n-1)];rfl]
   clear hU
   rw[show dr m=D.tup [.bl m.1,.int (m.2:Nat)] from rfl]
   refine az λU hU=>?_
   nofun
   have fin:∀v:Nat,v=bR m 0 1->U [some (D.tup [.bl m.1,.int (m.2:Nat)]),some (D.int n),some (D.lst true (ay true ((aM i).map (kr m n)))),some (D.int i),some (D.lst true (ak (((bo n 0).set i 1).set (n-1) v)))]:=λv hv=>by
    rw[up v hv]
    refine hU _ ?_
    nofun
    refine⟨⟨_,rfl⟩,by rw[bA,cm];omega,_,_,?_,rfl,rfl⟩
    rw[IU,fv]
    exact sY true _ [kr m n i]
   refine⟨_,rfl,_,rfl,?_⟩
   cases e:m.1 with
   | true =>
    rw[if_neg (by decide)]
    rw[e]at fin
    exact fin 1 (by unfold bR gl;rw[e];rfl)
   | false =>
    have e2:ae m=m.2:=by unfold ae;rw[e];rfl
    rw[if_pos (by decide)]
    refine⟨_,rfl,?_⟩
    dsimp only
    refine⟨_,n-1,rfl,ix 1,?_⟩
    rw[show(ak (((bo n 0).set i 1).set (n-1) 1)).set (n-1) (D.int ((m.2:Nat)-1:Int))=ak (((bo n 0).set i 1).set (n-1) (m.2-1)) by
     rw[cE,cE,zw (i:=n-1),zw (i:=n-1),Df,show((m.2-1:Nat):Int)=(m.2:Int)-1 by omega]]
    rw[e]at fin
    refine fin (m.2-1) ?_
    unfold bR gl
    rw[e,if_neg (by decide),show(((0:Nat):Int)-((1:Nat):Int))=((m.2:Int)-1)+(m.2:Int)*(-1) by omega,Int.add_mul_emod_self_left,Vv (by omega) (by omega)]
    omega
  ·rintro δ ⟨o1,o2,rfl⟩
   refine hU _ ?_
   nofun
   exact q
theorem GX{m:Bool × Nat}(hm:m∈aI){G:List (List Nat)}(hR:RT (ae m) (av G) G)(h:G.length<av G)(hw:av G<=64):ft m G:=by
 refine⟨hm,hR,by omega,hw,?_⟩
 obtain⟨⟨H,I⟩,iR,_⟩:=mQ hm hR
 have f:=I.LB hm iR
 have r:=cB0 hm hR hR λi hi=>by
  rw[aU,aP hi]
  exact cN.of (dE hi)
 unfold bV
 omega
theorem cL5{m:Bool × Nat}(hm:m∈aI){G:List (List Nat)}(hR:RT (ae m) (av G) G)(h:G.length<av G):∃Fb,om m G=some Fb:=by
 cases e:om m G with
 | some Fb=>exact⟨Fb,rfl⟩
 | none=>exact absurd (cF3 hm (by omega) hR e (aM (av G)) (ci5 (bK _))) (b76 hm hR (by rw[cm];exact h))
abbrev aZ3(t:eX):bq:=λds Q=>∃(m:Bool × Nat) (ns:List Int),ds=[.fz (aJ ns),dr m]/\m∈aI/\∀(G:List (List Nat)) (k:Kd) (dst:Int),ft m G->1<=G.length->2<=av G->av G<=15->Q (.tup [gn t m G k,.lst true (ay true G),.int dst])
theorem aZ4(T:Txt K mg t)(hB:Bm mg base):aN P w K mg base aR 11 t.NM t.NN ["_law_script","_law_told_here"] (vS [t.iV,t.iW] (br (aZ3 t))):=by
 refine K3 T.aO8 jw ?_ ?_
 ·intro ds Q h
  obtain⟨m,ns,rfl,hm,q⟩:=h<;>rfl
 ·intro aD A outer s H E hT hr
  refine⟨_,(aA (aZ (i:=2) jw.nd rfl (ai rfl) (bB ((GN T).mono (by decide)) hr rfl T.Fo T.BW.kp T.Fp aV (ag (bv 1) ax)))
   (aA (aZ (i:=3) jw.nd rfl (ai rfl) (YJ hT ((aW6 T hB).mono (by decide)) hr rfl T.aX9 T.aK4.kp T.aY0 aV (ag (bv 1) ax)))
   (aA (aZ (i:=4) jw.nd rfl (ai rfl) (bB ((lF T).mono (by decide)) hr rfl T.lC T.ky.kp T.lD aV (ag (bv 0) (ag (aa aj) ax))))
   (aA (aZ (i:=5) jw.nd rfl (ai rfl) (aB cU (aa aj) (aa (aB dH (aa (bB ((lF T).mono (by decide)) hr rfl T.lC T.ky.kp T.lD aV (ag (bv 0) (ag (aa aj) ax)))) (aa aj)))))
   (aA (aZ (i:=6) jw.nd rfl (ai rfl) (aB cU (aa aj) (aa (aB dH (aa (bB ((lF T).mono (by decide)) hr rfl T.lC T.ky.kp T.lD aV (ag (bv 0) (ag (aa aj) ax)))) (aa (cY (rY rfl) (by rfl) T.tK q9 (ag (aa aj) (ag (aa (aB dG (bv 5) (aa aj))) ax))))))))
   (aA (cT (cq (gC (cM hr)) (aa (aB dH (bv 4) (aa aj))) (aa aj) (bP _)) (aA (aZ (i:=7) jw.nd rfl (ai rfl) (bB ((aL8 T).mono (by decide)) hr rfl T.aN6 T.aA3.kp T.aN7 aV (ag (bv 2) (ag (bv 5) (ag (bv 6) (ag (aa (bB ((lF T).mono (by decide)) hr rfl T.lC T.ky.kp T.lD aV (ag (bv 0) (ag (aa aj) ax)))) (ag (aa (uO (gC (cM hr)) (aa (aB dH (aa (aB rL (bv 4) (aa aj))) (aa aj))) (aa aj) (bP _))) ax)))))))
    (aA (aZ (i:=8) jw.nd rfl (ai rfl) (E5 hT T.yh ((aA8 T hB).mono (by decide)) hr rfl T.yG T.dd5 aV (ag (bv 3) (ag (ε (dX [] ["_law_row"] rfl (hJ (bv 7)) (λ_ _ _ _=>(cI (i:=0) (show(["_law_row"]:List Str).Nodup by decide +kernel) rfl (ai (lr1 rfl)) (by decide) (aW (lr1 rfl)))) (λ_ _ _ _=>dB) (λ_ _ _ _=>(rT (rX) (by rfl) T.mU mj (ag (bv 0) ax))) rfl trivial (λ_=>by repeat' (first | exact trivial | refine⟨.inl rfl,?_⟩ | refine⟨.inr (.inl rfl),?_⟩ | refine⟨.inr (.inr ⟨_,rfl⟩),?_⟩)) (λ_=>trivial) rfl (by decide +kernel))) ax))))
    (aH (aX (nN (cy (dm (bv 8)) (cy (em 7) (cy (kW (P:=P) (w:=w) (K:=K) (mg:=mg) (base:=base) (n:=1) (bv 8) (hr.mono (by decide))) cH)))))))) cS)
   (aA (cT (PW.pt (kL (cq (gC (cM hr)) (aa (aB dH (bv 4) (aa aj))) (aa aj) (bP _)) (lY (cq (gC (cM hr)) (bv 2) (aa aj) (bP _))))) (aH (aX (nN (cy (E5 hT T.Cr ((aM4 T hB).mono (by decide)) hr rfl T.CB T.eC0 aV (ag (bv 3) (ag (aa (aB cU (bv 5) (aa aj))) ax))) (cy (bB ((aH7 T).mono (by decide)) hr rfl T.aJ3 T.av7.kp T.aJ4 aV (ag (bv 1) (ag (aa (aB cU (bv 5) (aa aj))) ax))) (cy (aB cU (bv 5) (aa aj)) cH)))))) cS)
   (aA (aZ (i:=9) jw.nd rfl (ai rfl) (aB dH (aa (bB ((lF T).mono (by decide)) hr rfl T.lC T.ky.kp T.lD aV (ag (bv 0) (ag (aa aj) ax)))) (aa (aB dG (bv 2) (aa aj)))))
   (aA (cT (cq (gC (cM hr)) (aa (aB dH (bv 4) (aa aj))) (aa aj) (bP _)) (aA (aZ (i:=5) jw.nd rfl (ai rfl) (cY (rY rfl) (by rfl) T.tK q9 (ag (bv 5) (ag (aa (aB dG (bv 2) (aa aj))) ax))))
    (aA (aZ (i:=6) jw.nd rfl (ai rfl) (cY (rY rfl) (by rfl) T.tK q9 (ag (bv 6) (ag (aa (aB dG (bv 5) (aa aj))) ax))))
    (aA (aZ (i:=7) jw.nd rfl (ai rfl) (bB ((ax7 T).mono (by decide)) hr rfl T.aA4 T.Ox.kp T.aA5 aV (ag (bv 1) (ag (bv 5) (ag (bv 6) (ag (bv 9) ax))))))
    (aH (aX (nN (cy (E5 hT T.yh ((aA8 T hB).mono (by decide)) hr rfl T.yG T.dd5 aV (ag (bv 3) (ag (ε (dX [] ["_law_row"] rfl (hJ (bv 7)) (λ_ _ _ _=>(cI (i:=0) (show(["_law_row"]:List Str).Nodup by decide +kernel) rfl (ai (lr1 rfl)) (by decide) (aW (lr1 rfl)))) (λ_ _ _ _=>dB) (λ_ _ _ _=>(rT (rX) (by rfl) T.mU mj (ag (bv 0) ax))) rfl trivial (λ_=>by repeat' (first | exact trivial | refine⟨.inl rfl,?_⟩ | refine⟨.inr (.inl rfl),?_⟩ | refine⟨.inr (.inr ⟨_,rfl⟩),?_⟩)) (λ_=>trivial) rfl (by decide +kernel))) ax))) (cy (em 7) (cy (aB cU (bv 6) (aa aj)) cH))))))))) cS)
   (aA (aZ (i:=5) jw.nd rfl (ai rfl) (aB cU (aa aj) (aa (aB dH (aa (bB ((lF T).mono (by decide)) hr rfl T.lC T.ky.kp T.lD aV (ag (bv 0) (ag (aa aj) ax)))) (aa (cY (rY rfl) (by rfl) T.tK q9 (ag (aa aj) (ag (aa (aB dG (bv 2) (aa aj))) ax))))))))
   (aA (aZ (i:=6) jw.nd rfl (ai rfl) (aB cU (aa aj) (aa (aB dH (aa (bB ((lF T).mono (by decide)) hr rfl T.lC T.ky.kp T.lD aV (ag (bv 0) (ag (aa aj) ax)))) (aa (cY (rY rfl) (by rfl) T.tK q9 (ag (aa aj) (ag (aa (aB dG (bv 5) (aa aj))) ax))))))))
   (aH (aX (nN (cy (E5 hT T.Cu ((aQ3 T hB).mono (by decide)) hr rfl T.CC T.eB4 aV (ag (bv 3) (ag (bv 5) (ag (bv 6) (ag (bv 9) ax))))) (cy (bB ((ax7 T).mono (by decide)) hr rfl T.aA4 T.Ox.kp T.aA5 aV (ag (bv 1) (ag (bv 5) (ag (bv 6) (ag (bv 9) ax))))) (cy (aB cU (bv 6) (aa aj)) cH))))))))))))))))),λds Q h=>?_⟩
  obtain⟨m,ns,rfl,hm,q⟩:=h
  have hF:=dn hm
  have fc:=hF.lo
  have CO:=hF.hi
  have hbl:=Ld m hm
  refine az λU hU=>?_
  nofun
  refine⟨m,rfl,by omega,by omega,hU _ ?_⟩
  clear hU U
  refine az λU hU=>?_
  nofun
  refine⟨m,rfl,hm,hU _ ?_⟩
  clear hU U
  refine az λU hU=>?_
  nofun
  refine⟨ns,1,rfl,by decide,hU _ ?_⟩
  clear hU U
  generalize ns.getD (fJ 1) 0=kd
  refine az λU hU=>?_
  nofun
  refine⟨ns,2,rfl,by decide,by decide,?_⟩
  obtain⟨n,en,uA,hn6⟩:∃k:Nat,2+ns.getD (fJ 2) 0%5=k/\2<=k/\k<=6:=⟨(2+ns.getD (fJ 2) 0%5).toNat,by omega,by omega,by omega⟩
  rw[en]
  refine hU _ ?_
  clear hU U en
  refine az λU hU=>?_
  nofun
  refine⟨ns,3,rfl,by decide,?_⟩
  dsimp only
  obtain⟨M,eM,M0,M1,M3⟩:∃M:Int,(if(n:Int)-1<3 then(n:Int)-1 else 3)=M/\0<M/\M<=(n:Int)-1/\M<=3:=⟨_,rfl,by split<;>omega,by split<;>omega,by split<;>omega⟩
  rw[eM]
  refine⟨M0,?_⟩
  obtain⟨e,ee,OK,hen,he3⟩:∃k:Nat,1+ns.getD (fJ 3) 0%M=k/\1<=k/\k+1<=n/\k<=3:=by
   have n0:=gW (ns.getD (fJ 3) 0) (show M≠0 by omega)
   have n1:=ib (ns.getD (fJ 3) 0) M0
   exact⟨(1+ns.getD (fJ 3) 0%M).toNat,by omega,by omega,by omega,by omega⟩
  rw[ee]
  refine hU _ ?_
  clear hU U ee eM M0 M1 M3 M
  refine az λU hU=>?_
  nofun
  refine⟨by decide,?_⟩
  split
  ·clear hU
   refine az λU hU=>?_
   nofun
   refine⟨ns,4,rfl,by decide,rK (by decide) (by decide),by decide,ae m,n,e,_,_,rfl,by omega,by omega,by omega,by omega,λG lG hG=>⟨rfl,hU _ ?_⟩⟩
   clear hU U
   have wG:av G=n:=s8 hG λz=>by rw[z]at lG;exact absurd lG (by show ¬ 0=e;omega)
   rw[<-wG]at hG uA hn6 hen
   refine az λU hU=>?_
   nofun
   refine eN G (λr=>D.lst false (ak r)) (λr=>D.lst true (ak r)) (by rw[eA];rfl) (λa b h=>mO a b h) (λr bx=>?_) (.inr λr _=>hV r) (by rw[sL];omega) ?_
   ·nofun
   obtain⟨Fb,eF⟩:=cL5 hm hG (by omega)
   rw[show((D.lst true (qH (λr=>D.lst true (ak r)) G)).sh)=D.lst false (ay false G) from by rw[dQ];exact congrArg _ (eA true G)]
   have cG:=GX hm hG (by omega) (by omega)
   refine⟨by rw[fZ,pX];rfl,_,_,⟨m,G,Fb,rfl,cG,by omega,by omega,by omega,by omega,eF,rfl,rfl⟩,?_⟩
   rw[fv,E7]
   show U [some (D.fz (aJ ns)),some (dr m),some (D.int (ae m)),some (fD t.aC t.aF m),some (D.int kd),some (D.int n),some (D.int e),some (D.lst true (ay true G)),some (gn t m G (.BJ Fb.length)),none]
   refine hU _ ?_
   clear hU U
   nofun
   exact⟨rfl,_,_,_,at5 t,rfl,⟨T.yg,_,_,_,T.Ce,aG7 T,T.eB6⟩,by decide,m,G,_,rfl,by decide,q G _ _ cG (by omega) (by omega) (by omega)⟩
  refine hU _ ?_
  clear hU U
  refine az λU hU=>?_
  nofun
  refine⟨by decide,?_⟩
  have rp:∃ns xs,bt6 t [fD t.aC t.aF m,D.int ((n:Int)+1)] ns xs/\av3 [dr m,D.int ((n:Int)+1)] λd=>0+1+1+1<=16777216/\Q (D.tup [D.obj t.bw ns (qH D.sh xs),d,D.int ((n:Int)+1)]):=by
   refine⟨_,_,⟨m,n+1,rfl,hm,by omega,by omega,rfl,rfl⟩,m,n+1,rfl,hm,by omega,by omega,by decide,?_⟩
   obtain⟨r1,r2,r3⟩:=μ hm (show 2<=n+1 by omega)
   rw[E7]
   exact q (hW m (n+1)) .rep _ (GX hm (by rw[r3];exact r1) (by omega) (by omega)) (by omega) (by omega) (by omega)
  split
  ·exact rp
  split
  ·exact rp
  refine hU _ ?_
  clear hU U rp
  rename_i hk2
  have hM3:3<=ae m:=by omega
  refine az λU hU=>?_
  nofun
  refine⟨ns,4,rfl,by decide,?_⟩
  dsimp only
  obtain⟨f,ef,hf⟩:∃f:Nat,ns.getD (fJ 4) 0%((ae m:Int)-1)=f/\f+2<=ae m:=by
   have n0:=gW (ns.getD (fJ 4) 0) (show(ae m:Int)-1≠0 by omega)
   have n1:=ib (ns.getD (fJ 4) 0) (show 0<(ae m:Int)-1 by omega)
   exact⟨(ns.getD (fJ 4) 0%((ae m:Int)-1)).toNat,by omega,by omega⟩
  rw[ef]
  refine⟨by omega,hU _ ?_⟩
  clear hU U ef
  refine az λU hU=>?_
  nofun
  refine⟨by decide,?_⟩
  split
  ·clear hU
   refine az λU hU=>?_
   nofun
   obtain⟨n',en,eR6,hnM⟩:∃k:Nat,(if(ae m:Int)-1<n then(ae m:Int)-1 else n)=k/\2<=k/\k<=6/\k+1<=ae m:=⟨(if(ae m:Int)-1<n then(ae m:Int)-1 else n).toNat,by split<;>omega,by split<;>omega,by split<;>omega,by split<;>omega⟩
   rw[en]
   refine hU _ ?_
   clear hU U en
   refine az λU hU=>?_
   nofun
   obtain⟨e',ee,eR8,eR9⟩:∃k:Nat,(if(n':Int)-1<e then(n':Int)-1 else e)=k/\1<=k/\k+1<=n':=⟨(if(n':Int)-1<e then(n':Int)-1 else e).toNat,by split<;>omega,by split<;>omega,by split<;>omega⟩
   rw[ee]
   refine hU _ ?_
   clear hU U ee
   refine az λU hU=>?_
   nofun
   refine⟨m,n',e',f,rfl,hm,by omega,by omega,by omega,hU _ ?_⟩
   clear hU U
   obtain⟨g1,g2⟩:=E1 hm f (aM n') e'
   rw[cm]at g1
   have g3:av (fo m f (aM n') e')=n':=s8 g1 λz=>by
    rw[z]at g2
    exact absurd g2 (by show ¬ 0=e';omega)
   have g4:RT (ae m) (av (fo m f (aM n') e')) (fo m f (aM n') e'):=by rw[g3];exact g1
   obtain⟨Fb,eF⟩:=cL5 hm g4 (by omega)
   have cG:=GX hm g4 (by omega) (by omega)
   generalize fo m f (aM n') e'=G at *
   nofun
   refine eN G (λr=>D.lst false (ak r)) (λr=>D.lst true (ak r)) (by rw[eA];rfl) (λa b h=>mO a b h) (λr bx=>?_) (.inr λr _=>hV r) (by rw[sL];omega) ?_
   ·nofun
   rw[show((D.lst true (qH (λr=>D.lst true (ak r)) G)).sh)=D.lst false (ay false G) from by rw[dQ];exact congrArg _ (eA true G)]
   refine⟨by rw[fZ,pX];rfl,_,_,⟨m,G,Fb,rfl,cG,by omega,by omega,by omega,by omega,eF,rfl,rfl⟩,?_⟩
   dsimp only[oO,oN]
   rw[fv,E7]
   exact⟨by decide,q G (.BJ Fb.length) _ cG (by omega) (by omega) (by omega)⟩
  refine hU _ ?_
  clear hU U
  refine az λU hU=>?_
  nofun
  refine⟨ns,2,rfl,by decide,?_⟩
  dsimp only
  obtain⟨M,eM,M0,M1,M3⟩:∃M:Int,(if(ae m:Int)-2<14 then(ae m:Int)-2 else 14)=M/\0<M/\M<=(ae m:Int)-2/\M<=14:=⟨_,rfl,by split<;>omega,by split<;>omega,by split<;>omega⟩
  rw[eM]
  refine⟨M0,?_⟩
  obtain⟨n',en,eR6,gc3,hnM⟩:∃k:Nat,2+ns.getD (fJ 2) 0%M=k/\2<=k/\k<=15/\k+1<=ae m:=by
   have n0:=gW (ns.getD (fJ 2) 0) (show M≠0 by omega)
   have n1:=ib (ns.getD (fJ 2) 0) M0
   exact⟨(2+ns.getD (fJ 2) 0%M).toNat,by omega,by omega,by omega,by omega⟩
  rw[en]
  refine hU _ ?_
  clear hU U en eM M0 M1 M3 M
  refine az λU hU=>?_
  nofun
  refine⟨ns,3,rfl,by decide,?_⟩
  dsimp only
  obtain⟨M,eM,M0,M1⟩:∃M:Int,(if(n':Int)-1<6 then(n':Int)-1 else 6)=M/\0<M/\M<=(n':Int)-1:=⟨_,rfl,by split<;>omega,by split<;>omega⟩
  rw[eM]
  refine⟨M0,?_⟩
  obtain⟨e',ee,eR8,eR9⟩:∃k:Nat,1+ns.getD (fJ 3) 0%M=k/\1<=k/\k+1<=n':=by
   have n0:=gW (ns.getD (fJ 3) 0) (show M≠0 by omega)
   have n1:=ib (ns.getD (fJ 3) 0) M0
   exact⟨(1+ns.getD (fJ 3) 0%M).toNat,by omega,by omega,by omega⟩
  rw[ee]
  refine hU _ ?_
  clear hU U ee eM M0 M1 M
  nofun
  refine⟨_,_,⟨m,n',e',f,rfl,hm,by omega,by omega,by omega,by omega,by omega,rfl,rfl⟩,m,n',e',f,rfl,hm,by omega,by omega,by omega,by decide,?_⟩
  rw[fv,E7]
  obtain⟨g1,g2⟩:=E1 hm f (aM n') e'
  rw[cm]at g1
  have g3:av (fo m f (aM n') e')=n':=s8 g1 λz=>by
   rw[z]at g2
   exact absurd g2 (by show ¬ 0=e';omega)
  exact q (fo m f (aM n') e') (.LL e' f) _ (GX hm (by rw[g3];exact g1) (by omega) (by omega)) (by omega) (by omega) (by omega)
abbrev aS4:bq:=λds Q=>∃(ns:List Int) (a s M:Nat),ds=[.fz (aJ ns),.int a,.int s,.int M]/\1<=a/\a<=1000/\s<=64/\1<=M/\∀l:List Nat,l.length=s->AllLt M l->Q (.lst true (ak l))
theorem aS5(T:Txt K mg t):aN P w K mg base aR 2 t.NO t.NP ["_law_script","_law_at","_law_size","_law_many_here"] (br (aS4 )):=by
 refine bD T.aG3 aR2 ?_ ?_
 ·intro ds Q h
  obtain⟨ns,a,s,M,rfl,ha,ha2,hs,hM,q⟩:=h<;>rfl
 ·intro aD A outer s H E hr
  refine⟨_,(aH (aX (dX [("_law_many_here",3),("_law_script",0),("_law_at",1)] ["_law_j"] rfl (jI rfl T.gS (ag (bv 2) ax)) (λ_ _ _ _=>(cI (i:=3) (show(["_law_many_here","_law_script","_law_at","_law_j"]:List Str).Nodup by decide +kernel) rfl (ai (lr1 rfl)) (by decide) (aW (lr1 rfl)))) (λ_ _ _ _=>dB) (λ_ _ _ _=>(aB dH (aa (aB cU (aa (bB ((lF T).mono (by decide)) hr rfl T.lC T.ky.kp T.lD aV (ag (bv 1) (ag (aa (aB cU (bv 2) (bv 3))) ax)))) (aa (bB ((OE T).mono (by decide)) hr rfl T.Oi T.Fq.kp T.Oj aV (ag (aa (bB ((lF T).mono (by decide)) hr rfl T.lC T.ky.kp T.lD aV (ag (bv 1) (ag (aa (aB dG (bv 2) (aa aj))) ax)))) (ag (bv 3) ax)))))) (bv 0))) rfl ⟨rfl,⟨rfl,⟨rfl,trivial⟩⟩⟩ (λ_=>by repeat' (first | exact trivial | refine⟨.inl rfl,?_⟩ | refine⟨.inr (.inl rfl),?_⟩ | refine⟨.inr (.inr ⟨_,rfl⟩),?_⟩)) (λ_=>⟨⟨rfl,.inl rfl,.inl rfl,_,rfl,rfl⟩,⟨⟨rfl,.inl rfl,.inl rfl,_,rfl,rfl⟩,⟨⟨rfl,.inl rfl,.inl rfl,_,rfl,rfl⟩,trivial⟩⟩⟩) rfl (by decide +kernel)))),λds Q h=>?_⟩
  obtain⟨ns,a,s,M,rfl,ha,ha2,hs,hM,q⟩:=h
  have OF:∀z:Int,z%(M:Int)=(((z%(M:Int)).toNat:Nat):Int):=λz=>by
   have n0:=gW z (show(M:Int)≠0 by omega)
   omega
  have OG:∀z:Int,(z%(M:Int)).toNat<M:=λz=>by
   have n1:=ib z (show(0:Int)<(M:Int) by omega)
   omega
  nofun
  refine⟨⟨by omega,by omega⟩,eN (aM s) (λ(i:Nat)=>D.int (i:Int)) (λk=>D.int ((((ns.getD (((a:Int)+(k:Int)).toNat) 0+lH (ns.getD ((a:Int)-1).toNat 0) (k:Int))%(M:Int)).toNat:Nat):Int)) (pV _ rfl) iQ (λk hk=>?_) (.inr λ_ _=>rfl) (by rw[cm,sL];omega) ?_⟩
  ·have hk:=da.mp hk
   nofun
   refine⟨ns,_,rfl,by omega,ns,_,rfl,by omega,_,_,rfl,by omega,by omega,?_⟩
   dsimp only
   exact⟨rfl,by omega,OF _⟩
  ·obtain⟨row,er,tM,tN⟩:∃wd:List Nat,((aM s).map λ(k:Nat)=>D.int ((((ns.getD (((a:Int)+(k:Int)).toNat) 0+lH (ns.getD ((a:Int)-1).toNat 0) (k:Int))%(M:Int)).toNat:Nat):Int))=ak wd/\AllLt M wd/\wd.length=s:=by
    refine⟨(aM s).map λ(k:Nat)=>((ns.getD (((a:Int)+(k:Int)).toNat) 0+lH (ns.getD ((a:Int)-1).toNat 0) (k:Int))%(M:Int)).toNat,by rw[cE,cA];rfl,λa ha=>?_,by simp⟩
    obtain⟨k,_,rfl⟩:=bH.mp ha
    exact OG _
   rw[er]
   exact q _ tN tM
abbrev aQ6:bq:=λds Q=>∃(o:Bool) (xs:List D),ds=[.lst false xs,.int (xs.length:Nat)]/\Q .aw
theorem aQ7(T:Txt K mg t):aN P w K mg base aR 1 t.NQ t.NR ["signs","length"] (br (aQ6 )):=by
 refine bD T.de4 aP3 ?_ ?_
 ·intro ds Q h
  obtain⟨o,xs,rfl,q⟩:=h<;>rfl
 ·intro aD A outer s H E hr
  refine⟨_,(aH (cT (cq (gM (cM hr)) (aa (cY (gE) (by rfl) T.gj fY (ag (bv 0) ax))) (bv 1) (bP _)) (aH Xp) cS)),λds Q h=>?_⟩
  obtain⟨o,xs,rfl,q⟩:=h
  nofun
  rw[if_neg (by decide)]
  exact q
abbrev aO4(t:eX):bq:=λds Q=>∃(m:Bool × Nat) (l:List Nat),ds=[fD t.aC t.aF m,.lst false (ak l)]/\m∈aI/\AllLt (ae m) l/\l.length<=64/\Q .aw
theorem aO5(T:Txt K mg t):aN P w K mg base aR 2 t.NS t.NT ["field","signs"] (br (aO4 t)):=by
 refine bD T.de5 Ξ ?_ ?_
 ·intro ds Q h
  obtain⟨m,l,rfl,hm,hl,OT,q⟩:=h<;>rfl
 ·intro aD A outer s H E hr
  refine⟨_,(aH (gg eR rfl (sC rfl T.tJ (ag (bv 1) ax)) (iC (i1:=2) (i2:=3) rfl Ξ.nd rfl (ai rfl) rfl (ai rfl))
    (aH (cT (mB (hE (aa (jt (P:=P) (w:=w) (K:=K) (mg:=mg) (base:=base) (n:=1) (bv 0) (hr.mono (by decide)) (ag (bv 3) ax))))) (aH Xp) cS)))),λds Q h=>?_⟩
  obtain⟨m,l,rfl,hm,hl,OT,q⟩:=h
  nofun
  refine gb.mk (λj δ=>∃o1 o2,δ=[some (fD t.aC t.aF m),some (D.lst false (ak l)),o1,o2]) ⟨_,_,rfl⟩ ?_ ?_
  ·rintro j d δ hd ⟨o1,o2,rfl⟩
   obtain⟨h1,rfl⟩:=co9 hd
   have:=hl _ (dE h1)
   nofun
   refine cb1 T m (.inl ⟨_,rfl,?_⟩)
   rw[decide_eq_true (by omega),decide_eq_true (by omega)]
   exact⟨true,rfl,by rw[if_neg (by decide)];exact⟨_,_,rfl,rfl⟩⟩
  ·rintro δ ⟨o1,o2,rfl⟩
   exact q
abbrev aE1(K:Frag):bq:=λds Q=>∃(C:Addr) (p:Nat) (xs ys:List Nat),ds=[sO C p,.lst false (ak xs),.lst false (ak ys)]/\cB K C/\aG K C "products"/\p∈gO/\xs.length=ys.length/\xs.length<=64/\(∀x∈xs,x<ae (true,p))/\(∀y∈ys,y<ae (true,p))/\Q (.int ((cW (gm (true,p)) xs ys).foldl (· ^^^ ·) 0:Nat))
theorem aS6(T:Txt K mg t):aN P w K mg base aR 1 t.NU t.NV ["self","xs","ys"] (br (aE1 K)):=by
 refine bD T.aT5 BO ?_ ?_
 ·intro ds Q h
  obtain⟨C,p,xs,ys,rfl,hC,hn,hp,hl,mW,hx,hy,q⟩:=h<;>rfl
 ·intro aD A outer s H E hr
  refine⟨_,(aA (aZ (i:=3) BO.nd rfl (ai rfl) (dm (dW (K:=K) (bv 0))))
   (aA (aZ (i:=4) BO.nd rfl (ai rfl) aj)
   (aA (gg eR rfl (pI rfl T.qq (ag (bv 1) (ag (bv 2) ax))) (iC (i1:=5) (i2:=6) rfl BO.nd rfl (ai rfl) rfl (ai rfl))
    (aH (Ai (i:=4) BO.nd rfl (ai rfl) (bE (bE (bv 3) (bv 5) (λ_ _=>rfl)) (bv 6) (λ_ _=>rfl)) Ee)))
   (aH (aX (em 4)))))),λds Q h=>?_⟩
  obtain⟨C,p,xs,ys,rfl,hC,hn,hp,hl,mW,hx,hy,q⟩:=h
  refine az λU hU=>?_
  nofun
  refine⟨C,_,_,_,rfl,hC,hn,rfl,by rw[fZ,ce5];rfl,hU _ ?_⟩
  clear hU U
  refine az λU hU=>?_
  nofun
  refine hU _ ?_
  clear hU U
  refine az λU hU=>?_
  nofun
  refine⟨_,_,rfl,rfl,?_⟩
  refine gb.mk (λi δ=>∃o1 o2,δ=[some (sO C p),some (.lst false (ak xs)),some (.lst false (ak ys)),some (.lst false (oh (fl (true,p)) (eO (fl (true,p))))),some (.int (((cW (gm (true,p)) xs ys).take i).foldl (· ^^^ ·) 0:Nat)),o1,o2]) ⟨none,none,rfl⟩ ?_ ?_
  ·rintro i d δ hd ⟨o1,o2,rfl⟩
   obtain⟨hi,hj,rfl⟩:∃(hi:i<xs.length) (hj:i<ys.length),d=.tup [.int (xs[i]:Nat),.int (ys[i]:Nat)]:=by
    unfold dJ at hd
    rw[cE,cE,Dj]at hd
    by_cases hi:i<xs.length
    ·have hj:i<ys.length:=by omega
     rw[nq,aP hi,aP hj]at hd
     exact⟨hi,hj,(cV hd).symm⟩
    ·rw[gr (by simp;omega)]at hd;cases hd
   have cC:=hx xs[i] (dE _)
   have OX:=hy ys[i] (dE _)
   nofun
   refine⟨_,EI hp cC,_,EH hp cC OX,_,_,?_,rfl,rfl⟩
   rw[nI,List.take_succ,Dm,nq,aP hi,aP hj];rfl
  ·rintro δ ⟨o1,o2,rfl⟩
   refine hU _ ?_
   nofun
   have e:(dJ (ak xs) (ak ys)).length=xs.length:=by unfold dJ;rw[i7,eo,eo];omega
   rw[e,zi (by rw[i7];omega)]
   exact q
abbrev aA9(K:Frag):bq:=λds Q=>∃(C:Addr) (p:Nat) (xs ys:List Int),ds=[sN C p,.lst false (aJ xs),.lst false (aJ ys)]/\cB K C/\aG K C "prime"/\0<p/\xs.length=ys.length/\xs.length<=64/\(∀x∈xs,0<=x/\x<64)/\(∀y∈ys,0<=y/\y<64)/\Q (.int ((cW (· * ·) xs ys).sum%p))
theorem aO6(T:Txt K mg t):aN P w K mg base aR 1 t.NW t.NX ["self","xs","ys"] (br (aA9 K)):=by
 refine bD T.aP8 aN3 ?_ ?_
 ·intro ds Q h
  obtain⟨C,p,xs,ys,rfl,hC,hn,hp,hl,mW,hx,hy,q⟩:=h<;>rfl
 ·intro aD A outer s H E hr
  refine⟨_,(aH (aX (aB dH (aa (cY (cX6 rfl) (by rfl) T.eG0 cS3 (ag (aa (dX [] ["x","y"] rfl (pI rfl T.qq (ag (bv 1) (ag (bv 2) ax))) (λ_ _ _ _=>(iC (i1:=0) (i2:=1) rfl (show(["x","y"]:List Str).Nodup by decide +kernel) rfl (ai (lr1 rfl)) rfl (ai (lr1 rfl)) (by decide) (by decide) (aW (lr1 rfl)) (aW (lr1 rfl)))) (λ_ _ _ _=>dB) (λ_ _ _ _=>(aB fA (bv 0) (bv 1))) rfl trivial (λ_=>by repeat' (first | exact trivial | refine⟨.inl rfl,?_⟩ | refine⟨.inr (.inl rfl),?_⟩ | refine⟨.inr (.inr ⟨_,rfl⟩),?_⟩)) (λ_=>trivial) rfl (by decide +kernel))) ax))) (dW (K:=K) (bv 0))))),λds Q h=>?_⟩
  obtain⟨C,p,xs,ys,rfl,hC,hn,hp,hl,mW,hx,hy,q⟩:=h
  nofun
  refine⟨_,_,rfl,rfl,?_⟩
  refine Lb (xs.zip ys) (λz=>D.tup [.int z.1,.int z.2]) (λz=>D.int (z.1*z.2)) (Y5 xs ys) (λa b h=>by injection h with h;simp at h;exact Prod.ext h.1 h.2) (λz hz=>?_) Lc (.inr λ_ _=>rfl) (by rw[IT,sL];omega) ?_
  ·have z1:=hx z.1 (tX hz).1
   have z2:=hy z.2 (tX hz).2
   nofun
   exact ig.ok (.inr ⟨by omega,by omega⟩)
  ·refine⟨(xs.zip ys).map λz=>z.1*z.2,?_,?_⟩
   ·unfold aJ;rw[cA];rfl
   ·nofun
    refine⟨C,_,_,.int p,rfl,hC,hn,rfl,?_⟩
    refine⟨by omega,?_⟩
    rw[List.map_zip_eq_zipWith]
    exact q
theorem cY0(T:Txt K mg t){m:Bool × Nat}(hm:m∈aI):∃C ns zs sp,fD t.aC t.aF m=.obj C ns zs/\jO P w K mg base 1 "dot" C sp/\("dot":Str) ∉ ns/\∀(xs ys:List Nat) (Q:D->Prop),xs.length=ys.length->xs.length<=64->(∀x∈xs,x<ae m)->(∀y∈ys,y<ae m)->Q (.int (gd m xs ys:Nat))->sp [.obj C ns zs,.lst false (ak xs),.lst false (ak ys)] Q:=by
 have hF:=dn hm
 obtain⟨k,n⟩:=m
 cases k with
 | true=>exact⟨_,_,_,aE1 K,rfl,⟨T.fh,_,_,_,T.B7,aS6 T,T.aT6⟩,by decide,λxs ys Q hl mW hx hy q=>⟨_,n,xs,ys,rfl,T.fh,T.oA,v7 hm,hl,mW,hx,hy,q⟩⟩
 | false =>
  have kA:n<=64:=hF.hi
  have l2:2<=n:=hF.lo
  have cx:∀l:List Nat,(∀x∈l,x<ae (false,n))->∀z∈l.map (λ(n:Nat)=>(n:Int)),0<=z/\z<64:=λl h z hz=>by
   obtain⟨x,hx,rfl⟩:=bH.mp hz
   have:x<n:=h x hx
   omega
  refine⟨_,_,_,aA9 K,rfl,⟨T.fF,_,_,_,T.Cj,aO6 T,T.aP9⟩,by decide,λxs ys Q hl mW hx hy q=>⟨_,n,xs.map (λ(n:Nat)=>(n:Int)),ys.map (λ(n:Nat)=>(n:Int)),rfl,T.fF,T.mT,by omega,by rw[bA,bA];exact hl,by rw[bA];exact mW,cx xs hx,cx ys hy,?_⟩⟩
  have e:((gd (false,n) xs ys:Nat):Int)=(cW (· * ·) (xs.map λ(n:Nat)=>(n:Int)) (ys.map λ(n:Nat)=>(n:Int))).sum%n:=by
   unfold gd
   rw[Zb (by omega) _ _ (by omega),Vy,Zc,Zd,oM]
  rw[<-e];exact q
abbrev a81(t:eX):bq:=λds Q=>∃(m:Bool × Nat) (xs:List Nat) (G:List (List Nat)),ds=[fD t.aC t.aF m,.lst false (ak xs),.lst false (ay false G)]/\m∈aI/\AllLt (ae m) xs/\G.length=xs.length/\xs.length<=64/\RT (ae m) (av G) G/\av G<=64/\Q (.lst true (ak (kq m xs G (av G))))
theorem a82(T:Txt K mg t):aN P w K mg base aR 3 t.NY t.NZ ["field","row","table"] (br (a81 t)):=by
 refine bD T.de6 a77 ?_ ?_
 ·intro ds Q h
  obtain⟨m,xs,G,rfl,hm,hx,hG,rN,hR,hw,q⟩:=h<;>rfl
 ·intro aD A outer s H E hr
  refine⟨_,(aH (aX (dX [("row",1),("field",0)] ["column"] rfl (hJ (aa (bB ((aV1 T).mono (by decide)) hr rfl T.dd0 T.Ow.kp T.dd1 aV (ag (bv 2) ax)))) (λ_ _ _ _=>(cI (i:=2) (show(["row","field","column"]:List Str).Nodup by decide +kernel) rfl (ai (lr1 rfl)) (by decide) (aW (lr1 rfl)))) (λ_ _ _ _=>dB) (λ_ _ _ _=>(jt (P:=P) (w:=w) (K:=K) (mg:=mg) (base:=base) (n:=1) (bv 1) (hr.mono (by decide)) (ag (bv 0) (ag (bv 2) ax)))) rfl ⟨rfl,⟨rfl,trivial⟩⟩ (λ_=>by repeat' (first | exact trivial | refine⟨.inl rfl,?_⟩ | refine⟨.inr (.inl rfl),?_⟩ | refine⟨.inr (.inr ⟨_,rfl⟩),?_⟩)) (λ_=>⟨⟨rfl,.inl rfl,.inl rfl,_,rfl,rfl⟩,⟨⟨rfl,.inl rfl,.inl rfl,_,rfl,rfl⟩,trivial⟩⟩) rfl (by decide +kernel)))),λds Q h=>?_⟩
  obtain⟨m,xs,G,rfl,hm,hx,hG,rN,hR,hw,q⟩:=h
  have fc:=(dn hm).lo
  obtain⟨C,ns,zs,sp,e1,e2,e3,e4⟩:=cY0 (P:=P) (w:=w) (base:=base) T hm
  nofun
  refine⟨G,rfl,by omega,λr bx=>(hR r bx).1,by omega,?_⟩
  dsimp only
  refine⟨_,rfl,?_⟩
  refine eN (eP G) (λr=>D.lst false (ak r)) (λr=>D.int ((gd m xs r:Nat):Int)) (eA true _) (λa b h=>mO a b h) (λr bx=>?_) (.inr λr _=>rfl) (by unfold eP;rw[bA,cm,sL];omega) ?_
  ·nofun
   unfold eP at bx
   obtain⟨j,hj,rfl⟩:=bH.mp bx
   exact⟨C,ns,zs,sp,e1,e2,e3,e4 _ _ _ (by rw[bA,hG]) rN hx (λy hy=>by
    obtain⟨r,bx,rfl⟩:=bH.mp hy
    exact(hR r bx).2.getD (by omega) j) rfl⟩
  ·unfold kq at q
   rw[cE,cA]at q
   unfold eP
   rw[cA]
   exact q
abbrev aS7(t:eX):bq:=λds Q=>∃(m:Bool × Nat) (G:List (List Nat)) (k:Kd) (l:List Nat),ds=[gn t m G k,.lst false (ak l)]/\ft m G/\l.length=(bV m G).length/\AllLt (ae m) l/\Q (.lst true (ak (fg m G l)))
theorem OZ(T:Txt K mg t):aN P w K mg base aR 4 t.BR t.N0 ["self","message"] (br (aS7 t)):=by
 refine bD T.eD7 aR3 ?_ ?_
 ·intro ds Q h
  obtain⟨m,G,k,l,rfl,hc,hl,al,q⟩:=h<;>rfl
 ·intro aD A outer s H E hr
  refine⟨_,(aA (Kg (aa (bB ((aQ7 T).mono (by decide)) hr rfl T.eC7 T.de4.kp T.eC8 aV (ag (bv 1) (ag (dW (K:=K) (bv 0)) ax)))))
   (aA (Kg (aa (bB ((aO5 T).mono (by decide)) hr rfl T.eC9 T.de5.kp T.eD0 aV (ag (dW (K:=K) (bv 0)) (ag (bv 1) ax)))))
   (aH (aX (bB ((a82 T).mono (by decide)) hr rfl T.eD5 T.de6.kp T.eD6 aV (ag (dW (K:=K) (bv 0)) (ag (bv 1) (ag (dW (K:=K) (bv 0)) ax)))))))),λds Q h=>?_⟩
  obtain⟨m,G,k,l,rfl,hc,hl,al,q⟩:=h
  have hw:=hc.E8
  have hf:=hc.wm
  refine az λU hU=>?_
  nofun
  refine CD T m G k ⟨true,ak l,by rw[eo,hl];rfl,rfl,hU _ ?_⟩
  clear hU U
  refine az λU hU=>?_
  nofun
  refine bV4 T m G k ⟨m,l,by rw[EK],hc.hm,al,by omega,by rw[Y9];rfl,hU _ ?_⟩
  clear hU U
  nofun
  refine bV4 T m G k (cc4 T m G k ⟨m,l,gH m G,by rw[EK,dQ,eA],hc.hm,al,by rw[mS];exact hl.symm,by omega,by rw[hc.wide];exact hc.rows,by rw[hc.wide];omega,by rw[hV,lR],?_⟩)
  rw[hc.wide]
  exact q
abbrev aZ5(t:eX):bq:=λds Q=>∃(m:Bool × Nat) (G:List (List Nat)) (k:Kd),ds=[gn t m G k]/\ft m G/\Q (.lst true (ay true (gH m G)))
theorem GY(T:Txt K mg t):aN P w K mg base aR 2 t.BS t.N1 ["self"] (br (aZ5 t)):=by
 refine bD T.eD8 aX6 ?_ ?_
 ·intro ds Q h
  obtain⟨m,G,k,rfl,hc,q⟩:=h<;>rfl
 ·intro aD A outer s H E hr
  refine⟨_,(aH (aX (bB ((OI T).mono (by decide)) hr rfl T.Oo T.Fu.kp T.Oq aV (ag (dW (K:=K) (bv 0)) ax)))),λds Q h=>?_⟩
  obtain⟨m,G,k,rfl,hc,q⟩:=h
  have hw:=hc.E8
  have hf:=hc.wm
  nofun
  refine cc4 T m G k ⟨_,by rw[dQ,eA],by rw[mS];omega,by rw[fL,pY,lQ,lR],q⟩
abbrev aU7(t:eX):bq:=λds Q=>∃(m:Bool × Nat) (G:List (List Nat)) (k:Kd),ds=[gn t m G k]/\Q (.lst true (ak (bV m G)))
theorem GZ(T:Txt K mg t):aN P w K mg base aR 1 t.BU t.N2 ["self"] (br (aU7 t)):=by
 refine bD T.eD9 aT1 ?_ ?_
 ·intro ds Q h
  obtain⟨m,G,k,rfl,q⟩:=h<;>rfl
 ·intro aD A outer s H E hr
  refine⟨_,(aH (aX (rT (rX) (by rfl) T.mU mj (ag (dW (K:=K) (bv 0)) ax)))),λds Q h=>?_⟩
  obtain⟨m,G,k,rfl,q⟩:=h
  nofun
  exact cj8 T m G k ⟨kT _,q⟩
abbrev aU8(t:eX):bq:=λds Q=>∃(m:Bool × Nat) (G:List (List Nat)) (k:Kd),ds=[gn t m G k]/\ft m G/\Q (.lst true (ay true G))
theorem aG8(T:Txt K mg t):aN P w K mg base aR 2 t.BV t.N3 ["self"] (br (aU8 t)):=by
 refine bD T.eE0 aT2 ?_ ?_
 ·intro ds Q h
  obtain⟨m,G,k,rfl,hc,q⟩:=h<;>rfl
 ·intro aD A outer s H E hr
  refine⟨_,(aH (aX (bB ((OI T).mono (by decide)) hr rfl T.Oo T.Fu.kp T.Oq aV (ag (dW (K:=K) (bv 0)) ax)))),λds Q h=>?_⟩
  obtain⟨m,G,k,rfl,hc,q⟩:=h
  have hl:=hc.len
  nofun
  exact ch4 T m G k ⟨_,by rw[dQ,eA],by omega,by rw[fL,pY,lQ,lR],q⟩
theorem O0(x:Nat)(r:List Nat):eJ (ak (x::r)) 0=some (D.int (x:Nat)):=oi (Int.le_refl 0) (oQ _)
theorem bN8{M w:Nat}{T:List (List Nat)}(hR:RT M w T)(hw:0<w)(hl:0<T.length):∃x r R,T=(x::r)::R:=by
 cases T with
 | nil=>exact absurd hl (by decide)
 | cons a R =>
  cases a with
  | nil=>have:=(hR _ (iY ..)).1;simp at this;omega
  | cons x r=>exact⟨x,r,R,rfl⟩
abbrev aU9(t:eX)(P:Program)(w:World)(K:Frag)(mg:Str->Option Value)(base:Heap):bq:=λds Q=>∃(m:Bool × Nat) (G:List (List Nat)) (k:Kd) (l:List Nat),ds=[gn t m G k,.lst false (ak l)]/\ft m G/\1<=G.length/\1<=av G/\l.length=(bV m G).length/\AllLt (ae m) l/\Q .aw
theorem aV0(T:Txt K mg t):aN P w K mg base aR 5 t.N4 t.N5 ["_law_code_here","_law_message_here"] (br (aU9 t P w K mg base)):=by
 refine bD T.aI1 BP ?_ ?_
 ·intro ds Q h
  obtain⟨m,G,k,l,rfl,hc,g1,w1,hl,al,q⟩:=h<;>rfl
 ·intro aD A outer s H E hr
  refine⟨_,(aA (aZ (i:=2) BP.nd rfl (ai rfl) (jt (P:=P) (w:=w) (K:=K) (mg:=mg) (base:=base) (n:=4) (bv 0) (hr.mono (by decide)) (ag (bv 1) ax)))
   (aA (kQ (i:=2) rfl (by first | exact ai rfl | exact aW (ai rfl)) aj)
   (aA (aZ (i:=3) BP.nd rfl (ai rfl) (kW (P:=P) (w:=w) (K:=K) (mg:=mg) (base:=base) (n:=2) (bv 0) (hr.mono (by decide))))
   (aA (ZR (i:=3) rfl (by first | exact ai rfl | exact aW (ai rfl)) (aB dG (aa aj) (aa (cY (rY rfl) (by rfl) T.tK q9 (ag (aa aj) (ag (bE (bE (bv 3) (aa aj) (λ_ _=>rfl)) (aa aj) (λ_ _=>rfl)) ax))))) (aa aj))
   (aA (aZ (i:=4) BP.nd rfl (ai rfl) (kW (P:=P) (w:=w) (K:=K) (mg:=mg) (base:=base) (n:=1) (bv 0) (hr.mono (by decide))))
   (aA (sk (i:=4) rfl (by first | exact ai rfl | exact aW (ai rfl)) (aB cU (bE (bv 4) (aa aj) (λ_ _=>rfl)) (aa aj)) (aa aj))
   (aA (aZ (i:=5) BP.nd rfl (ai rfl) (kW (P:=P) (w:=w) (K:=K) (mg:=mg) (base:=base) (n:=2) (bv 0) (hr.mono (by decide))))
   (aH (ZR (i:=5) rfl (by first | exact ai rfl | exact aW (ai rfl)) (aB dG (aa aj) (aa (cY (rY rfl) (by rfl) T.tK q9 (ag (aa aj) (ag (bE (bE (bv 5) (aa aj) (λ_ _=>rfl)) (aa aj) (λ_ _=>rfl)) ax))))) (aa aj)))))))))),λds Q h=>?_⟩
  obtain⟨m,G,k,l,rfl,hc,g1,w1,hl,al,q⟩:=h
  have hw:=hc.E8
  have hf:=hc.wm
  have hz:=hc.sz
  refine az λU hU=>?_
  nofun
  refine jV T T.tD T.tH T.tI (OZ T) T.Oy (by decide) ⟨m,G,k,l,rfl,hc,hl,al,hU _ ?_⟩
  clear hU U
  refine az λU hU=>?_
  nofun
  refine⟨⟨_,rfl⟩,by rw[ξ];omega,hU _ ?_⟩
  clear hU U
  refine az λU hU=>?_
  nofun
  refine jV T T.qj T.ql T.qo (GY T) T.Fx (by decide) ⟨m,G,k,rfl,hc,hU _ ?_⟩
  clear hU U
  refine az λU hU=>?_
  nofun
  obtain⟨x,r,R,eT⟩:=bN8 hc.rows w1 (show 0<(gH m G).length by rw[mS];exact hz)
  rw[eT]
  refine⟨D.lst true (ak (x::r)),sZ true (T:=(x::r)::R) (i:=0) (oQ _),D.int x,O0 ..,[],ak (x::r),ay true R,rfl,rfl,0,rfl,sU (by omega) (by rw[eo];exact oQ _),hU _ ?_⟩
  clear hU U
  refine az λU hU=>?_
  nofun
  refine jV T T.qi T.qk T.qm (GZ T) T.Fy (by decide) ⟨m,G,k,rfl,hU _ ?_⟩
  clear hU U
  refine az λU hU=>?_
  nofun
  obtain⟨p,ps,ep⟩:∃p ps,bV m G=p::ps:=List.exists_cons_of_length_pos hz
  rw[ep]
  refine⟨D.int p,O0 ..,?_⟩
  dsimp only
  refine⟨_,0,rfl,sU (by omega) (by rw[eo];exact oQ _),hU _ ?_⟩
  clear hU U
  refine az λU hU=>?_
  nofun
  refine jV T T.yp T.yx T.yE (aG8 T) T.de7 (by decide) ⟨m,G,k,rfl,hc,hU _ ?_⟩
  clear hU U
  nofun
  obtain⟨x,r,R,eT⟩:=bN8 hc.rt w1 g1
  rw[eT]
  exact⟨D.lst true (ak (x::r)),sZ true (T:=(x::r)::R) (i:=0) (oQ _),D.int x,O0 ..,[],ak (x::r),ay true R,rfl,rfl,0,rfl,sU (by omega) (by rw[eo];exact oQ _),q⟩
abbrev aZ6:bq:=λds Q=>∃(m:Bool × Nat) (a b:Nat),ds=[dr m,.int a,.int b]/\0<m.2/\Q (.int (gp m a b:Nat))
theorem aM5(T:Txt K mg t):aN P w K mg base aR 1 t.N6 t.N7 ["_law_told_here","_law_a","_law_b"] (br (aZ6 )):=by
 refine bD T.Oz aX7 ?_ ?_
 ·intro ds Q h
  obtain⟨m,a,b,rfl,h0,q⟩:=h<;>rfl
 ·intro aD A outer s H E hr
  refine⟨_,(aA (cT (hE (bE (bv 0) (aa aj) (λ_ _=>rfl))) (aH (aX (aB An (bv 1) (bv 2)))) cS)
   (aH (aX (aB dH (aa (aB cU (bv 1) (bv 2))) (bE (bv 0) (aa aj) (λ_ _=>rfl)))))),λds Q h=>?_⟩
  obtain⟨m,a,b,rfl,h0,q⟩:=h
  unfold dr at *
  obtain⟨k,n⟩:=m
  refine az λU hU=>?_
  nofun
  cases k with
  | true =>
   refine⟨_,rfl,true,rfl,?_⟩
   rw[if_pos rfl,nI]
   exact q
  | false =>
   refine⟨_,rfl,false,rfl,?_⟩
   rw[if_neg (by decide)]
   refine hU _ ?_
   nofun
   refine⟨_,rfl,?_⟩
   refine⟨by omega,?_⟩
   have e:((gp (false,n) a b:Nat):Int)=((a:Int)+b)%n:=by
    show(((a+b)%n:Nat):Int)=_
    rw[oM,IQ]
   rw[<-e];exact q
def jy(m:Bool × Nat)(xs:List Nat)(T:List (List Nat))(w i:Nat):List Nat:=(aM w).map λk=>sm (gp m) i λj=>gm m (cf xs j) (cf (T.getD j []) k)
theorem cp9{m:Bool × Nat}{xs:List Nat}{T:List (List Nat)}{w i:Nat}(h:(T.getD i []).length=w):cW (λx y=>gp m x (gm m (cf xs i) y)) (jy m xs T w i) (T.getD i [])=jy m xs T w (i+1):=by
 refine EW (w:=w) (by unfold jy;rw[i7,bA,cm,h];omega) (by unfold jy;rw[bA,cm]) λk hk=>?_
 unfold jy
 rw[EX _ hk]
 unfold cf
 rw[aU,nq,cu,jZ hk,aP (by omega)]
 show gp m _ (gm m _ _)=gp m _ (gm m _ ((T.getD i []).getD k 0))
 rw[aU (l:=T.getD i []),aP (by omega)];rfl
theorem cr9{xs:List Nat}{G:List (List Nat)}{i:Nat}{d:D}(h:(dJ (ak xs) (ay false G))[i]?=some d):∃(hi:i<xs.length) (hj:i<G.length),d=.tup [.int ((cf xs i:Nat):Int),.lst false (ak (G.getD i []))]:=by
 unfold dJ ay at h
 rw[cE,Dj,nq]at h
 by_cases hi:i<xs.length
 ·by_cases hj:i<G.length
  ·rw[aP hi,aP hj]at h
   refine⟨hi,hj,(cV h).symm.trans ?_⟩
   unfold cf
   rw[aU,aP hi,aU,aP hj];rfl
  ·rw[aP hi,gr (by omega)]at h;cases h
 ·rw[gr (by omega)]at h;cases h
abbrev aS8:bq:=λds Q=>∃(m:Bool × Nat) (xs:List Nat) (T:List (List Nat)) (w:Nat),ds=[dr m,.lst false (ay false T),.lst false (ak xs),.int w]/\m∈aI/\AllLt (ae m) xs/\xs.length<=64/\T.length=xs.length/\w<=64/\RT (ae m) w T/\Q (.lst true (ak (kq m xs T w)))
theorem aS9(T:Txt K mg t):aN P w K mg base aR 2 t.N8 t.N9 ["_law_told_here","_law_rows","_law_message_here","_law_length"] (br (aS8 )):=by
 refine bD T.aG4 Fg ?_ ?_
 ·intro ds Q h
  obtain⟨m,xs,G,wi,rfl,hm,hx,rN,hG,hw,hR,q⟩:=h<;>rfl
 ·intro aD A outer s H E hr
  refine⟨_,(aA (aZ (i:=4) Fg.nd rfl (ai rfl) (aB fA (aa (dS (cy aj cH))) (bv 3)))
   (aA (gg eR rfl (pI rfl T.qq (ag (bv 2) (ag (bv 1) ax))) (iC (i1:=5) (i2:=6) rfl Fg.nd rfl (aW rfl) rfl (ai rfl))
    (aH (ES (i:=4) Fg.nd rfl (ai rfl) [("_law_told_here",0),("_law_sign",5)] ["_law_x","_law_y"] rfl (pI rfl T.qq (ag (bv 4) (ag (bv 6) ax))) (λ_ _ _ _=>(iC (i1:=2) (i2:=3) rfl (show(["_law_told_here","_law_sign","_law_x","_law_y"]:List Str).Nodup by decide +kernel) rfl (ai (lr1 rfl)) rfl (ai (lr1 rfl)) (by decide) (by decide) (aW (lr1 rfl)) (aW (lr1 rfl)))) (λ_ _ _ _=>dB) (λ_ _ _ _=>(bB ((aM5 T).mono (by decide)) hr rfl T.aO9 T.Oz.kp T.aP0 aV (ag (bv 0) (ag (bv 2) (ag (aa (bB ((GW T).mono (by decide)) hr rfl T.Fv T.BZ.kp T.Fw aV (ag (bv 0) (ag (bv 1) (ag (bv 3) ax))))) ax))))) rfl ⟨rfl,⟨rfl,trivial⟩⟩ (λ_=>by repeat' (first | exact trivial | refine⟨.inl rfl,?_⟩ | refine⟨.inr (.inl rfl),?_⟩ | refine⟨.inr (.inr ⟨_,rfl⟩),?_⟩)) (λ_=>⟨⟨rfl,.inl rfl,.inl rfl,_,rfl,rfl⟩,⟨⟨rfl,.inl rfl,.inl rfl,_,rfl,rfl⟩,trivial⟩⟩) rfl (by decide +kernel))))
   (aH (aX (em 4))))),λds Q h=>?_⟩
  obtain⟨m,xs,G,wi,rfl,hm,hx,rN,hG,hw,hR,q⟩:=h
  have m0:=dq m hm
  have g:=rg hm
  refine az λU hU=>?_
  nofun
  refine⟨by decide,⟨by omega,by omega,by omega⟩,hU _ ?_⟩
  clear hU U
  rw[gU,show aJ (bo wi (0:Int))=ak (jy m xs G wi 0) by
   rw[show jy m xs G wi 0=bo wi 0 from List.eq_replicate_iff.mpr ⟨by unfold jy;rw[bA,cm],λb hb=>by
    obtain⟨_,_,rfl⟩:=bH.mp hb
    rfl⟩]
   rw[cE]
   unfold aJ
   rw[qI,qI];rfl]
  refine az λU hU=>?_
  nofun
  refine⟨_,_,rfl,rfl,?_⟩
  refine gb.mk (λi δ=>∃o1 o2,δ=[some (dr m),some (D.lst false (ay false G)),some (D.lst false (ak xs)),some (D.int wi),some (D.lst true (ak (jy m xs G wi i))),o1,o2]) ⟨_,_,rfl⟩ ?_ ?_
  ·rintro i d δ hd ⟨o1,o2,rfl⟩
   obtain⟨hi,hj,rfl⟩:=cr9 hd
   clear hd
   have ri:(G.getD i []).length=wi/\AllLt (ae m) (G.getD i []):=by
    rw[aU,aP hj]
    exact hR _ (dE hj)
   have il:(jy m xs G wi i).length=wi:=by unfold jy;rw[bA,cm]
   nofun
   refine⟨_,_,rfl,rfl,Lh (λx y=>gp m x (gm m (cf xs i) y)) (λx de y hy=>?_) (by omega) ?_⟩
   ·nofun
    exact⟨m,_,_,rfl,hm,fQ hm hx i,ri.2 y hy,m,_,_,rfl,m0,rfl,rfl⟩
   rw[cp9 ri.1]
   exact⟨_,_,rfl⟩
  ·rintro δ ⟨o1,o2,rfl⟩
   refine hU _ ?_
   nofun
   rw[show(dJ (ak xs) (ay false G)).length=G.length by unfold dJ;rw[i7,eo,kn];omega]
   rw[<-cR9 hG.symm (show(jy m xs G wi G.length).length=wi by unfold jy;rw[bA,cm]) λk hk=>by unfold jy;rw[EX _ hk]]
   exact q
abbrev aZ7:bq:=λds Q=>∃(m:Bool × Nat) (G:List (List Nat)) (c:List Nat),ds=[dr m,.lst false (ay false G),.lst false (ak c)]/\m∈aI/\RT (ae m) c.length G/\AllLt (ae m) c/\c.length<=64/\G.length<=64/\Q (.lst true (ak (G.map λr=>gd m r c)))
theorem aZ8(T:Txt K mg t):aN P w K mg base aR 2 t.Oa t.Ob ["_law_told_here","_law_table","_law_word"] (br (aZ7 )):=by
 refine bD T.aP1 ye ?_ ?_
 ·intro ds Q h
  obtain⟨m,G,c,rfl,hm,hR,hc,gF,hG,q⟩:=h<;>rfl
 ·intro aD A outer s H E hr
  refine⟨_,(aA (aZ (i:=3) ye.nd rfl (ai rfl) (dS cH))
   (aA (gg eR rfl (D9 (dm (bv 1))) (cI (i:=4) ye.nd rfl (ai rfl))
    (aA (aZ (i:=5) ye.nd rfl (ai rfl) aj)
    (aA (gg eR rfl (pI rfl T.qq (ag (bv 4) (ag (bv 2) ax))) (iC (i1:=6) (i2:=7) rfl ye.nd rfl (ai rfl) rfl (ai rfl))
     (aH (aZ (i:=5) ye.nd rfl (ai rfl) (bB ((aM5 T).mono (by decide)) hr rfl T.aO9 T.Oz.kp T.aP0 aV (ag (bv 0) (ag (bv 5) (ag (aa (bB ((GW T).mono (by decide)) hr rfl T.Fv T.BZ.kp T.Fw aV (ag (bv 0) (ag (bv 6) (ag (bv 7) ax))))) ax)))))))
    (aH (kQ (i:=3) rfl (by first | exact ai rfl | exact aW (ai rfl)) (em 5))))))
   (aH (aX (em 3))))),λds Q h=>?_⟩
  obtain⟨m,G,c,rfl,hm,hR,hc,gF,hG,q⟩:=h
  have m0:=dq m hm
  refine az λU hU=>?_
  nofun
  refine⟨by decide,hU _ ?_⟩
  clear hU U
  refine az λU hU=>?_
  nofun
  refine gb.mk (λi δ=>∃o1 o2 o3 o4,δ=[some (dr m),some (D.lst false (ay false G)),some (D.lst false (ak c)),some (D.lst true (ak ((G.take i).map λr=>gd m r c))),o1,o2,o3,o4]) ⟨_,_,_,_,rfl⟩ ?_ ?_
  ·rintro i d δ hd ⟨o1,o2,o3,o4,rfl⟩
   obtain⟨hi,rfl⟩:∃hi:i<G.length,d=.lst false (ak G[i]):=by
    unfold ay at hd
    rw[cu]at hd
    by_cases hi:i<G.length
    ·rw[aP hi]at hd;exact⟨hi,(cV hd).symm⟩
    ·rw[gr (by omega)]at hd;cases hd
   have ri:=hR _ (dE hi)
   clear hd hU
   refine az λU hU=>?_
   nofun
   refine hU _ ?_
   clear hU
   refine az λU hU=>?_
   nofun
   refine⟨_,_,rfl,rfl,?_⟩
   refine gb.mk (λj δ=>∃o3 o4,δ=[some (dr m),some (D.lst false (ay false G)),some (D.lst false (ak c)),some (D.lst true (ak ((G.take i).map λr=>gd m r c))),some (D.lst false (ak G[i])),some (D.int ((((cW (gm m) G[i] c).take j).foldl (gp m) 0:Nat):Int)),o3,o4]) ⟨_,_,rfl⟩ ?_ ?_
   ·rintro j d δ hd ⟨o3,o4,rfl⟩
    obtain⟨h1,h2,rfl⟩:=cy9 hd
    clear hd
    nofun
    refine⟨m,_,_,rfl,hm,ri.2 _ (dE _),hc _ (dE _),m,_,_,rfl,m0,rfl,_,_,?_,rfl,rfl⟩
    rw[nh,Dm,nq,aP h2,aP h1];rfl
   ·rintro δ ⟨o3,o4,rfl⟩
    refine hU _ ?_
    clear hU
    nofun
    rw[cn8,zi (l:=cW (gm m) G[i] c) (by rw[i7];omega)]
    refine⟨⟨_,rfl⟩,by rw[bA,iJ];omega,_,_,_,_,?_,rfl,rfl,rfl,rfl⟩
    rw[nh,aP hi,fv]
    exact nY _ [gd m G[i] c]
  ·rintro δ ⟨o1,o2,o3,o4,rfl⟩
   refine hU _ ?_
   nofun
   rw[zi (l:=G) (bK _)]
   exact q
abbrev aX1:bq:=λds Q=>∃i:Int,ds=[.int i]/\Q (.bl true)
theorem aX2(T:Txt K mg t):aN P w K mg base aR 1 t.Oc t.Od ["_law_x"] (br (aX1 )):=by
 refine bD T.aL0 aV6 ?_ ?_
 ·intro ds Q h
  obtain⟨i,rfl,q⟩:=h<;>rfl
 ·intro aD A outer s H E hr
  refine⟨_,(aH (aX (pk (aa (sg (by rfl) T.qp (by rfl) T.df7 WZ (bv 0))) (uv (Xn (aa (sg (by rfl) T.qp (by rfl) T.df6 W0 (bv 0)))))))),λds Q h=>?_⟩
  obtain⟨i,rfl,q⟩:=h
  nofun
  exact q
theorem cM6(T:Txt K mg t)(m:Bool × Nat)(G:List (List Nat))(k:Kd){Q:Bool->Prop}(q:Q true):∃C ns xs r,gn t m G k=.obj C ns xs/\sS K C/\kitOne K (.ref C) (.ref t.cF)=some r/\Q r:=by
 cases k with
 | BJ b=>exact⟨_,_,_,true,rfl,T.eF4,T.eF5,q⟩
 | rep=>exact⟨_,_,_,true,rfl,T.eF6,T.eF7,q⟩
 | LL e f=>exact⟨_,_,_,true,rfl,T.eF8,T.eF9,q⟩
theorem cQ3(T:Txt K mg t)(hB:Bm mg base):aN P w K mg base aR 12 t.Oe t.Of ["_law_script"] (vS [t.iV,t.iW] (br (XR ))):=by
 refine K3 T.eE9 ly ?_ ?_
 ·intro ds Q h
  obtain⟨ns,rfl,hl,q⟩:=h<;>rfl
 ·intro aD A outer s H E hT hr
  refine⟨_,(aA (aZ (i:=1) ly.nd rfl (ai rfl) (bB ((aY5 T).mono (by decide)) hr rfl T.a00 T.aO7.kp T.a01 aV (ag (aa (bB ((lF T).mono (by decide)) hr rfl T.lC T.ky.kp T.lD aV (ag (bv 0) (ag (aa aj) ax)))) ax)))
   (aA (aZ (i:=2) ly.nd rfl (aW rfl) (bB ((GN T).mono (by decide)) hr rfl T.Fo T.BW.kp T.Fp aV (ag (bv 1) ax)))
   (aA (aZ (i:=3) ly.nd rfl (ai rfl) (YJ hT ((aZ4 T hB).mono (by decide)) hr rfl T.a02 T.aO8.kp T.a03 aV (ag (bv 0) (ag (bv 1) ax))))
   (aA (aZ (i:=4) ly.nd rfl (ai rfl) (dm (bE (bv 3) (aa aj) (λ_ _=>rfl))))
   (aA (cT (mB (hE (aa (cR6 (by rfl) T.qp (by rfl) T.qt (bv 4))))) (aH (aX iO)) cS)
   (aA (aZ (i:=5) ly.nd rfl (ai rfl) (bB ((aS5 T).mono (by decide)) hr rfl T.aT3 T.aG3.kp T.aT4 aV (ag (bv 0) (ag (aa aj) (ag (dW (K:=K) (bv 4)) (ag (bv 2) ax))))))
   (aA (cT (cq (gC (cM hr)) (aa (aB dH (aa (aB rL (aa (bB ((lF T).mono (by decide)) hr rfl T.lC T.ky.kp T.lD aV (ag (bv 0) (ag (aa aj) ax)))) (aa aj))) (aa aj))) (aa aj) (bP _)) (aH (aZ (i:=5) ly.nd rfl (ai rfl) (aB fA (aa (dS (cy aj cH))) (dW (K:=K) (bv 4))))) cS)
   (aA (aZ (i:=6) ly.nd rfl (ai rfl) (rT (rX) (by rfl) T.mU mj (ag (bv 5) ax)))
   (aA (aZ (i:=7) ly.nd rfl (aW rfl) (jt (P:=P) (w:=w) (K:=K) (mg:=mg) (base:=base) (n:=4) (bv 4) (hr.mono (by decide)) (ag (bv 6) ax)))
   (aA (cT (PW.pt (kL (mB (hE (aa (sg (by rfl) T.qp (by rfl) T.mU mj (bv 7))))) (kL (cq (gM (cM hr)) (aa (cY (gE) (by rfl) T.gj fY (ag (bv 7) ax))) (dW (K:=K) (bv 4)) (bP _)) (lY (mB (hE (aa (cY (vz rfl) (by rfl) T.yF uI (ag (aa (dX [] ["_law_x"] rfl (hJ (bv 7)) (λ_ _ _ _=>(cI (i:=0) (show(["_law_x"]:List Str).Nodup by decide +kernel) rfl (ai (lr1 rfl)) (by decide) (aW (lr1 rfl)))) (λ_ _ _ _=>dB) (λ_ _ _ _=>(bB ((aX2 T).mono (by decide)) hr rfl T.aY2 T.aL0.kp T.aY3 aV (ag (bv 0) ax))) rfl trivial (λ_=>by repeat' (first | exact trivial | refine⟨.inl rfl,?_⟩ | refine⟨.inr (.inl rfl),?_⟩ | refine⟨.inr (.inr ⟨_,rfl⟩),?_⟩)) (λ_=>trivial) rfl (by decide +kernel))) ax))))))))) (aH (aX iO)) cS)
   (aA (cT (PW.pt (kL (mB (hE (aa (cY (vz rfl) (by rfl) T.yF uI (ag (aa (dX [("_law_many_here",2)] ["_law_x"] rfl (hJ (bv 7)) (λ_ _ _ _=>(cI (i:=1) (show(["_law_many_here","_law_x"]:List Str).Nodup by decide +kernel) rfl (ai (lr1 rfl)) (by decide) (aW (lr1 rfl)))) (λ_ _ _ _=>dB) (λ_ _ _ _=>(rS kg rO (aa aj) (bv 1) (bv 0))) rfl ⟨rfl,trivial⟩ (λ_=>by repeat' (first | exact trivial | refine⟨.inl rfl,?_⟩ | refine⟨.inr (.inl rfl),?_⟩ | refine⟨.inr (.inr ⟨_,rfl⟩),?_⟩)) (λ_=>⟨⟨rfl,.inl rfl,.inl rfl,_,rfl,rfl⟩,trivial⟩) rfl (by decide +kernel))) ax))))) (lY (hE (aa (cY (cK3 rfl) (by rfl) T.df5 WY (ag (aa (bB ((aZ8 T).mono (by decide)) hr rfl T.a04 T.aP1.kp T.a05 aV (ag (bv 1) (ag (bE (bv 3) (aa aj) (λ_ _=>rfl)) (ag (bv 7) ax))))) ax))))))) (aH (aX iO)) cS)
   (aA (aZ (i:=8) ly.nd rfl (ai rfl) (rT (rX) (by rfl) T.mU mj (ag (aa (kW (P:=P) (w:=w) (K:=K) (mg:=mg) (base:=base) (n:=1) (bv 4) (hr.mono (by decide)))) ax)))
   (aA (cT (PW.pt (kL (mB (hE (aa (sg (by rfl) T.qp (by rfl) T.mU mj (aa (kW (P:=P) (w:=w) (K:=K) (mg:=mg) (base:=base) (n:=1) (bv 4) (hr.mono (by decide)))))))) (lY (cq (gM (cM hr)) (aa (cY (gE) (by rfl) T.gj fY (ag (bv 8) ax))) (dW (K:=K) (bv 4)) (bP _))))) (aH (aX iO)) cS)
   (aA (cT (PW.pt (kL (cq (gM (cM hr)) (aa (dX [("_law_word",7)] ["_law_at"] rfl (hJ (bv 8)) (λ_ _ _ _=>(cI (i:=1) (show(["_law_word","_law_at"]:List Str).Nodup by decide +kernel) rfl (ai (lr1 rfl)) (by decide) (aW (lr1 rfl)))) (λ_ _ _ _=>dB) (λ_ _ _ _=>(dm (bE (bv 0) (bv 1) (λ_ _=>rfl)))) rfl ⟨rfl,trivial⟩ (λ_=>by repeat' (first | exact trivial | refine⟨.inl rfl,?_⟩ | refine⟨.inr (.inl rfl),?_⟩ | refine⟨.inr (.inr ⟨_,rfl⟩),?_⟩)) (λ_=>⟨⟨rfl,.inl rfl,.inl rfl,_,rfl,rfl⟩,trivial⟩) rfl (by decide +kernel))) (bv 5) (bP _)) (lY (cq (gM (cM hr)) (bv 6) (bv 5) (bP _))))) (aH (aX iO)) cS)
   (aA (ES (i:=9) ly.nd rfl (ai rfl) [] ["_law_row"] rfl (hJ (aa (kW (P:=P) (w:=w) (K:=K) (mg:=mg) (base:=base) (n:=2) (bv 4) (hr.mono (by decide))))) (λ_ _ _ _=>(cI (i:=0) (show(["_law_row"]:List Str).Nodup by decide +kernel) rfl (ai (lr1 rfl)) (by decide) (aW (lr1 rfl)))) (λ_ _ _ _=>dB) (λ_ _ _ _=>(rT (rX) (by rfl) T.mU mj (ag (bv 0) ax))) rfl trivial (λ_=>by repeat' (first | exact trivial | refine⟨.inl rfl,?_⟩ | refine⟨.inr (.inl rfl),?_⟩ | refine⟨.inr (.inr ⟨_,rfl⟩),?_⟩)) (λ_=>trivial) rfl (by decide +kernel))
   (aA (cT (PW.pt (kL (mB (hE (aa (sg (by rfl) T.qp (by rfl) T.mU mj (aa (kW (P:=P) (w:=w) (K:=K) (mg:=mg) (base:=base) (n:=2) (bv 4) (hr.mono (by decide)))))))) (lY (cq (gM (cM hr)) (aa (cY (gE) (by rfl) T.gj fY (ag (bv 9) ax))) (dW (K:=K) (bv 4)) (bP _))))) (aH (aX iO)) cS)
   (aA (cT (cq (gM (cM hr)) (aa (bB ((aS9 T).mono (by decide)) hr rfl T.aT7 T.aG4.kp T.aT8 aV (ag (bv 1) (ag (bv 9) (ag (bv 5) (ag (dW (K:=K) (bv 4)) ax)))))) (bv 7) (bP _)) (aH (aX iO)) cS)
   (aA (Kg (aa (bB ((aV0 T).mono (by decide)) hr rfl T.aW0 T.aI1.kp T.aW1 aV (ag (bv 4) (ag (bv 5) ax)))))
   (aA (cT (PW.pt (kL (cq (gM (cM hr)) (aa (jt (P:=P) (w:=w) (K:=K) (mg:=mg) (base:=base) (n:=4) (bv 4) (hr.mono (by decide)) (ag (bv 5) ax))) (bv 7) (bP _)) (lY (cq (gM (cM hr)) (aa (kW (P:=P) (w:=w) (K:=K) (mg:=mg) (base:=base) (n:=2) (bv 4) (hr.mono (by decide)))) (bv 9) (bP _))))) (aH (aX iO)) cS)
   (aH (aX (pk (aa (uO (gC (cM hr)) (aa (kW (P:=P) (w:=w) (K:=K) (mg:=mg) (base:=base) (n:=1) (bv 4) (hr.mono (by decide)))) (bv 8) (bP _))) (uv (uO (gC (cM hr)) (aa (kW (P:=P) (w:=w) (K:=K) (mg:=mg) (base:=base) (n:=2) (bv 4) (hr.mono (by decide)))) (bE (bv 3) (aa aj) (λ_ _=>rfl)) (bP _))))))))))))))))))))))))),λds Q h=>?_⟩
  obtain⟨ns,rfl,hl,q⟩:=h
  refine az λU hU=>?_
  nofun
  refine⟨ns,0,rfl,by decide,_,rfl,rfl,hU _ ?_⟩
  clear hU U
  generalize hmm:pS (ns.getD (fJ 0) 0)=m
  have hm:m∈aI:=by rw[<-hmm];exact co3 _
  have hF:=dn hm
  have fc:=hF.lo
  have CO:=hF.hi
  have hbl:=Ld m hm
  refine az λU hU=>?_
  nofun
  refine⟨m,rfl,by omega,by omega,hU _ ?_⟩
  clear hU U
  refine az λU hU=>?_
  nofun
  refine⟨m,ns,rfl,hm,λG k dst hc g1 w2 w15=>hU _ ?_⟩
  clear hU U
  have hw:=hc.E8
  have hf:=hc.wm
  have hz:=hc.sz
  refine az λU hU=>?_
  nofun
  refine⟨_,rfl,cK1 ..,hU _ ?_⟩
  clear hU U
  refine az λU hU=>?_
  nofun
  refine cM6 T m G k ?_
  rw[if_neg (by decide)]
  refine hU _ ?_
  clear hU U
  refine az λU hU=>?_
  nofun
  refine CD T m G k ⟨ns,6,(bV m G).length,ae m,rfl,by decide,by decide,by omega,by omega,λl ll al=>⟨rfl,hU _ ?_⟩⟩
  clear hU U
  refine az λU hU=>?_
  nofun
  refine⟨ns,1,rfl,by decide,rK (by decide) (by decide),by decide,?_⟩
  have fin:∀l:List Nat,l.length=(bV m G).length->AllLt (ae m) l->U [some (D.fz (aJ ns)),some (dr m),some (D.int (ae m)),some (D.tup [gn t m G k,D.lst true (ay true G),D.int dst]),some (gn t m G k),some (D.lst true (ak l)),none,none,none,none]:=by
   clear al ll l
   intro l ll al
   refine hU _ ?_
   clear hU U
   have wl:=ξ m G l
   have wa:=hc.wlt ll
   have ww:=hc.word ll
   refine az λU hU=>?_
   nofun
   refine hU _ ?_
   clear hU U
   refine az λU hU=>?_
   nofun
   refine jV T T.tD T.tH T.tI (OZ T) T.Oy (by decide) ⟨m,G,k,l,rfl,hc,ll,al,hV _,hU _ ?_⟩
   clear hU U
   refine az λU hU=>?_
   nofun
   refine bP6 T m G k ?_
   rw[wl,jL,decide_eq_true rfl,if_neg (by decide)]
   refine⟨rfl,eN (fg m G l) (λ(i:Nat)=>D.int (i:Int)) (λ_=>D.bl true) (pJ _) iQ (λi hi=>?_) (.inr λ_ _=>rfl) (by rw[sL];omega) ?_⟩
   ·nofun
    exact⟨_,rfl,rfl⟩
   refine⟨(fg m G l).map λ_=>true,by unfold mF;rw[cA];rfl,?_⟩
   rw[show((fg m G l).map λ_=>true).all id=true by simp,if_neg (by decide)]
   refine hU _ ?_
   clear hU U
   refine az λU hU=>?_
   nofun
   refine eN (fg m G l) (λ(i:Nat)=>D.int (i:Int)) (λ_=>D.bl true) (pJ _) iQ (λi hi=>?_) (.inr λ_ _=>rfl) (by rw[sL];omega) ?_
   ·have:=wa i hi
    nofun
    rw[if_pos (by omega)];omega
   refine⟨(fg m G l).map λ_=>true,by unfold mF;rw[cA];rfl,?_⟩
   rw[show((fg m G l).map λ_=>true).all id=true by simp,if_neg (by decide)]
   dsimp only[oO,oN]
   refine⟨_,rfl,m,G,fg m G l,by rw[dQ,eA,BB];rfl,hm,by rw[wl];exact hc.rt,wa,by omega,hc.len,by rw[hV,lR],G.map λr=>((gd m r (fg m G l):Nat):Int),by rw[cE,cA];unfold aJ;rw[cA];rfl,?_⟩
   rw[show(G.map λr=>((gd m r (fg m G l):Nat):Int)).any (λx=>x != 0)=false by
    rw[List.any_eq_false]
    intro x hx
    obtain⟨r,bx,rfl⟩:=bH.mp hx
    rw[ww r bx];decide,if_neg (by decide)]
   refine hU _ ?_
   clear hU U
   refine az λU hU=>?_
   nofun
   refine jV T T.qi T.qk T.qm (GZ T) T.Fy (by decide) ⟨m,G,k,rfl,?_⟩
   refine⟨kT _,hU _ ?_⟩
   clear hU U
   refine az λU hU=>?_
   nofun
   refine jV T T.qi T.qk T.qm (GZ T) T.Fy (by decide) ⟨m,G,k,rfl,true,rfl,?_⟩
   rw[if_neg (by decide)]
   refine CD T m G k ⟨rfl,?_⟩
   rw[jL,decide_eq_true rfl,if_neg (by decide)]
   refine hU _ ?_
   clear hU U
   refine az λU hU=>?_
   nofun
   refine eN (bV m G) (λ(i:Nat)=>D.int (i:Int)) (λp=>D.int ((cf (fg m G l) p:Nat):Int)) (pJ _) iQ (λi hi=>?_) (.inr λ_ _=>rfl) (by rw[sL];omega) ?_
   ·have:=cO0 hi
    nofun
    exact⟨_,oi (by omega) (by rw[gU];omega),rfl,rfl⟩
   rw[show((bV m G).map λ(p:Nat)=>D.int ((cf (fg m G l) p:Nat):Int))=ak l by rw[<-hc.read ll al,cE,cA];rw[hc.read ll al];rfl]
   dsimp only[oO,oN]
   have dl:bJ (D.lst true (ak l)) (D.lst true (ak l))=true:=(sT true true l l).trans (decide_eq_true rfl)
   refine⟨⟨mL 5 true l,mL 5 true l⟩,?_⟩
   rw[dl,if_neg (by decide)]
   refine⟨⟨mL 5 true l,mL 5 true l⟩,?_⟩
   rw[if_neg (by decide)]
   refine hU _ ?_
   clear hU U
   have rl:(gH m G).length=(bV m G).length:=mS m G
   refine az λU hU=>?_
   nofun
   refine jV T T.qj T.ql T.qo (GY T) T.Fx (by decide) ⟨m,G,k,rfl,hc,_,rfl,?_⟩
   refine eN (gH m G) (λr=>D.lst false (ak r)) (λr=>D.lst true (ak r)) (by rw[eA true];rfl) (λa b h=>mO a b h) (λr bx=>?_) (.inr λr _=>hV r) (by rw[sL];omega) ?_
   ·nofun
   dsimp only[jB,jA]
   rw[show(qH (λr=>D.lst true (ak r)) (gH m G))=ay true (gH m G) from rfl]
   refine hU _ ?_
   clear hU U
   refine az λU hU=>?_
   nofun
   refine jV T T.qj T.ql T.qo (GY T) T.Fx (by decide) ⟨m,G,k,rfl,hc,true,rfl,?_⟩
   rw[if_neg (by decide)]
   refine CD T m G k ⟨rfl,?_⟩
   rw[rl,jL,decide_eq_true rfl,if_neg (by decide)]
   refine hU _ ?_
   clear hU U
   refine az λU hU=>?_
   nofun
   refine bP6 T m G k ⟨m,l,gH m G,av G,rfl,hm,al,by omega,by omega,by omega,hc.rows,hV _,mL 5 true _,?_⟩
   have dw:bJ (D.lst true (ak (fg m G l))) (D.lst true (ak (fg m G l)))=true:=(sT true true _ _).trans (decide_eq_true rfl)
   rw[show kq m l (gH m G) (av G)=fg m G l from rfl,dw,if_neg (by decide)]
   refine hU _ ?_
   clear hU U
   refine az λU hU=>?_
   nofun
   refine⟨m,G,k,l,by rw[cS8],hc,g1,by omega,ll,al,by rw[show D.aw.fr=true from rfl,lR],hU _ ?_⟩
   clear hU U
   refine az λU hU=>?_
   nofun
   refine jV T T.tD T.tH T.tI (OZ T) T.Oy (by decide) ⟨m,G,k,l,rfl,hc,ll,al,hV _,mL 5 true _,?_⟩
   have dt:∀X:List (List Nat),bJ (D.lst true (ay true X)) (D.lst true (ay true X))=true:=λX=>(Zp true true true true X X).trans (decide_eq_true rfl)
   rw[dw,if_neg (by decide)]
   refine jV T T.qj T.ql T.qo (GY T) T.Fx (by decide) ⟨m,G,k,rfl,hc,⟨wj 4 ..,wj 4 ..⟩,?_⟩
   rw[dt,if_neg (by decide)]
   refine hU _ ?_
   clear hU U
   nofun
   refine jV T T.qi T.qk T.qm (GZ T) T.Fy (by decide) ⟨m,G,k,rfl,mL 5 true _,?_⟩
   rw[(sT true true (bV m G) _).trans (decide_eq_true rfl),if_pos rfl]
   refine jV T T.yp T.yx T.yE (aG8 T) T.de7 (by decide) ⟨m,G,k,rfl,hc,_,rfl,⟨wj 4 ..,wj 4 ..⟩,?_⟩
   rw[dt]
   exact q
  clear hU
  split
  ·refine⟨by decide,CD T m G k ?_⟩
   dsimp only
   refine⟨⟨by omega,by omega,by show 1*_<=_;omega,rfl⟩,?_⟩
   rw[show(bo (((bV m G).length:Nat):Int).toNat [D.int 0]).flatten=ak (bo (bV m G).length 0) by
    rw[vI,gU,cE,qI];rfl]
   exact fin _ (fW ..) λa ha=>by rw[(Dg.mp ha).2];omega
  ·exact fin l ll al
end
set_option maxHeartbeats 0 in
theorem all_mk{l:PySem.W.OpenLaw}{w:World}{K:Frag}{h:Heap}{mg:Str->Option Value}{fa:Addr}{ts:List Addr}(X:K.In h)(G:h.Ns mainGlobals mg)(hfa:mg "law"=some (.ref fa))
  {od0 an0:Option Addr} {sl0:Array (Option Value)} {oc0 kV0 dc0 pm0 cd0 ct0:Value} {f0:Addr}
  {od1 an1:Option Addr} {sl1:Array (Option Value)} {oc1 kV1 dc1 pm1 cd1 ct1:Value} {f1:Addr}
  {LH an2:Option Addr} {sl2:Array (Option Value)} {oc2 kV2 dc2 pm2 cd2 ct2:Value} {f2:Addr}
  {od3 an3:Option Addr} {sl3:Array (Option Value)} {oc3 kV3 dc3 pm3 cd3 ct3:Value} {f3:Addr}
  {od4 an4:Option Addr} {sl4:Array (Option Value)} {oc4 kV4 dc4 pm4 cd4 ct4:Value} {f4:Addr}
  {od5 an5:Option Addr} {sl5:Array (Option Value)} {oc5 kV5 dc5 pm5 cd5 ct5:Value} {f5:Addr}
  {od6 an6:Option Addr} {sl6:Array (Option Value)} {oc6 kV6 dc6 pm6 cd6 ct6:Value} {f6:Addr}
  {od7 an7:Option Addr} {sl7:Array (Option Value)} {oc7 kV7 dc7 pm7 cd7 ct7:Value} {f7:Addr}
  {od8 an8:Option Addr} {sl8:Array (Option Value)} {oc8 kV8 dc8 pm8 ct8:Value} {f8:Addr}
  {CS iV:Addr} {aM6:Option Addr} {aM7:Array (Option Value)} {ax8:Array Value} {aM8:Value}
  {od9 an9:Option Addr} {sl9:Array (Option Value)} {oc9 kV9 dc9 pm9 cd9 ct9:Value} {f9:Addr}
  {e33 e34:Option Addr} {e35:Array (Option Value)} {e36 e37 e38 e39 dm3 e40:Value} {G0:Addr}
  {e41 e42:Option Addr} {e43:Array (Option Value)} {e44 e45 e46 e47 dm4 e48:Value} {G1:Addr}
  {e49 e50:Option Addr} {e51:Array (Option Value)} {e52 e53 e54 e55 dm5 e56:Value} {mD:Addr}
  {e57 e58:Option Addr} {e59:Array (Option Value)} {e60 e61 e62 e63 dm6 e64:Value} {G2:Addr}
  {e65 e66:Option Addr} {e67:Array (Option Value)} {e68 e69 e70 e71 e72:Value} {yM:Addr}
  {CT iW:Addr} {aQ8:Option Addr} {aQ9:Array (Option Value)} {aC9:Array Value} {aR0:Value}
  {e76 e77:Option Addr} {e78:Array (Option Value)} {e79 e80 e81 e82 dm8 e83:Value} {G3:Addr}
  {e84 e85:Option Addr} {e86:Array (Option Value)} {e87 e88 e89 e90 dm9 e91:Value} {G4:Addr}
  {e92 e93:Option Addr} {e94:Array (Option Value)} {e95 e96 e97 e98 dn0 e99:Value} {G5:Addr}
  {fa0 fa1:Option Addr} {fa2:Array (Option Value)} {fa3 fa4 fa5 fa6 dn1 fa7:Value} {G6:Addr}
  {fa8 fa9:Option Addr} {fb0:Array (Option Value)} {fb1 fb2 fb3 fb4 dn2 fb5:Value} {G7:Addr}
  {fb6 fb7:Option Addr} {fb8:Array (Option Value)} {fb9 fc0 fc1 fc2 dn3 fc3:Value} {G8:Addr}
  {fc4 fc5:Option Addr} {fc6:Array (Option Value)} {fc7 fc8 fc9 fd0 dn4 fd1:Value} {yN:Addr}
  {fd2 fd3:Option Addr} {fd4:Array (Option Value)} {fd5 fd6 fd7 fd8 dn5 fd9:Value} {yO:Addr}
  {fe0 fe1:Option Addr} {fe2:Array (Option Value)} {fe3 fe4 fe5 fe6 dn6 fe7:Value} {yP:Addr}
  {fe8 fe9:Option Addr} {ff0:Array (Option Value)} {ff1 ff2 ff3 ff4 dn7 ff5:Value} {pz:Addr}
  {ff6 ff7:Option Addr} {ff8:Array (Option Value)} {ff9 fg0 fg1 fg2 dn8 fg3:Value} {G9:Addr}
  {fg4 fg5:Option Addr} {fg6:Array (Option Value)} {fg7 fg8 fg9 fh0 dn9 fh1:Value} {qv:Addr}
  {fh2 fh3:Option Addr} {fh4:Array (Option Value)} {fh5 fh6 fh7 fh8 do0 fh9:Value} {Ha:Addr}
  {fi0 fi1:Option Addr} {fi2:Array (Option Value)} {fi3 fi4 fi5 fi6 do1 fi7:Value} {Hb:Addr}
  {fi8 fi9:Option Addr} {fj0:Array (Option Value)} {fj1 fj2 fj3 fj4 do2 fj5:Value} {Hc:Addr}
  {fj6 fj7:Option Addr} {fj8:Array (Option Value)} {fj9 fk0 fk1 fk2 do3 fk3:Value} {He:Addr}
  {fk4 fk5:Option Addr} {fk6:Array (Option Value)} {fk7 fk8 fk9 fl0 do4 fl1:Value} {yQ:Addr}
  {fl2 fl3:Option Addr} {fl4:Array (Option Value)} {fl5 fl6 fl7 fl8 do5 fl9:Value} {yR:Addr}
  {fm0 fm1:Option Addr} {fm2:Array (Option Value)} {fm3 fm4 fm5 fm6 do6 fm7:Value} {Hf:Addr}
  {fm8 fm9:Option Addr} {fn0:Array (Option Value)} {fn1 fn2 fn3 fn4 do7 fn5:Value} {CU:Addr}
  {fn6 fn7:Option Addr} {fn8:Array (Option Value)} {fn9 fo0 fo1 fo2 do8 fo3:Value} {qw:Addr}
  {fo4 fo5:Option Addr} {fo6:Array (Option Value)} {fo7 fo8 fo9 fp0 do9 fp1:Value} {Hg:Addr}
  {fp2 fp3:Option Addr} {fp4:Array (Option Value)} {fp5 fp6 fp7 fp8 dp0 fp9:Value} {Hh:Addr}
  {fq0 fq1:Option Addr} {fq2:Array (Option Value)} {fq3 fq4 fq5 fq6 dp1 fq7:Value} {Hi:Addr}
  {fq8 fq9:Option Addr} {fr2:Array (Option Value)} {fr6 fr8 fs0 fs1 dp2 fs2:Value} {Hj:Addr}
  {fs3 fs4:Option Addr} {fs5:Array (Option Value)} {fs6 fs7 fs8 fs9 dp3 ft0:Value} {yS:Addr}
  {ft1 ft2:Option Addr} {ft3:Array (Option Value)} {ft4 ft5 ft6 ft7 dp4 ft8:Value} {yT:Addr}
  {ft9 fu0:Option Addr} {fu1:Array (Option Value)} {fu2 fu3 fu4 fu5 dp5 fu6:Value} {Hk:Addr}
  {fu7 fu8:Option Addr} {fu9:Array (Option Value)} {fv0 fv1 fv2 fv3 dp6 fv4:Value} {Hl:Addr}
  {fv5 fv6:Option Addr} {fv7:Array (Option Value)} {fv8 fv9 fw0 fw1 dp7 fw2:Value} {yU:Addr}
  {fw3 fw4:Option Addr} {fw5:Array (Option Value)} {fw6 fw7 fw8 fw9 dp8 fx0:Value} {Hm:Addr}
  {fx1 fx2:Option Addr} {fx3:Array (Option Value)} {fx4 fx5 fx6 fx7 dp9 fx8:Value} {Ho:Addr}
  {fx9 fy0:Option Addr} {fy1:Array (Option Value)} {fy2 fy3 fy4 fy5 dq0 fy6:Value} {Hq:Addr}
  {fy7 fy8:Option Addr} {fy9:Array (Option Value)} {fz0 fz1 fz2 fz3 dq1 fz4:Value} {Hr:Addr}
  {fz5 dq2:Option Addr} {fz6:Array (Option Value)} {fz7 dq3 dq4 dq5 O1 dq6:Value} {yV:Addr}
  {O2:Addr} {fz8 fz9:Value} {fA0:Option Addr} {fA1:Array (Option Value)} {fA2:Nat}
  {fA3 fA4:Option Addr} {fA5:Array (Option Value)} {fA6 fA7 fA8 fA9 dq7 fB0:Value} {yW:Addr}
  {fB1 fB2:Option Addr} {fB3:Array (Option Value)} {fB4 fB5 fB6 fB7 dq8 fB8:Value} {yX:Addr}
  {fB9 fC0:Option Addr} {fC1:Array (Option Value)} {fC2 fC3 fC4 fC5 dq9 fC6:Value} {yY:Addr}
  {fC7 fC8:Option Addr} {fC9:Array (Option Value)} {fD0 fD1 fD2 fD3 dr0 fD4:Value} {Hs:Addr}
  {fD5 fD6:Option Addr} {fD7:Array (Option Value)} {fD8 fD9 fE0 fE1 dr1 fE2:Value} {yZ:Addr}
  {fE3 fE4:Option Addr} {fE5:Array (Option Value)} {fE6 fE7 fE8 fE9 dr2 fF0:Value} {Ht:Addr}
  {fF1 fF2:Option Addr} {fF3:Array (Option Value)} {fF4 fF5 fF6 fF7 dr3 fF8:Value} {Hu:Addr}
  {fF9 fG0:Option Addr} {fG1:Array (Option Value)} {fG2 fG3 fG4 fG5 dr4 fG6:Value} {Hv:Addr}
  {fG7 fG8:Option Addr} {fG9:Array (Option Value)} {fH0 fH1 fH2 fH3 dr5 fH4:Value} {Hw:Addr}
  {fH5 fH6:Option Addr} {fH7:Array (Option Value)} {fH8 fH9 fI0 fI1 dr6 fI2:Value} {Hx:Addr}
  {fI3 fI4:Option Addr} {fI5:Array (Option Value)} {fI6 fI7 fI8 fI9 dr7 fJ0:Value} {y0:Addr}
  {fJ1 fJ2:Option Addr} {fJ3:Array (Option Value)} {fJ4 fJ5 fJ6 fJ7 dr8 fJ8:Value} {y6:Addr}
  {fJ9 fK0:Option Addr} {fK1:Array (Option Value)} {fK2 fK3 fK4 fK5 dr9 fK6:Value} {Hy:Addr}
  {fK7 fK8:Option Addr} {fK9:Array (Option Value)} {fL0 fL1 fL2 fL3 ds0 fL4:Value} {mX:Addr}
  {fL5 fL6:Option Addr} {fL7:Array (Option Value)} {fL8 fL9 fM0 fM1 ds1 fM2:Value} {mY:Addr}
  {fM3 fM4:Option Addr} {fM5:Array (Option Value)} {fM6 fM7 fM8 fM9 ds2 fN0:Value} {mZ:Addr}
  {fN1 fN2:Option Addr} {fN3:Array (Option Value)} {fN4 fN5 fN6 fN7 ds3 fN8:Value} {m3:Addr}
  {fN9 fO0:Option Addr} {fO1:Array (Option Value)} {fO2 fO3 fO4 fO5 ds4 fO6:Value} {Hz:Addr}
  {fO7 fO8:Option Addr} {fO9:Array (Option Value)} {fP0 fP1 fP2 fP3 ds5 fP4:Value} {HA:Addr}
  {fP5 fP6:Option Addr} {fP7:Array (Option Value)} {fP8 fP9 fQ0 fQ1 ds6 fQ2:Value} {HB:Addr}
  {fQ3 fQ4:Option Addr} {fQ5:Array (Option Value)} {fQ6 fQ7 fQ8 fQ9 ds7 fR0:Value} {HC:Addr}
  {fR1 fR2:Option Addr} {fR3:Array (Option Value)} {fR4 fR5 fR6 fR7 ds8 fR8:Value} {HD:Addr}
  {fR9 ds9:Option Addr} {fS0:Array (Option Value)} {fS1 dt0 dt1 dt2 O3 dt3:Value} {O4:Addr}
  {aC iH bt cF ku aF bw bh:Addr}
  (Cy:nsIn K mainGlobals "BitField"=some (some (.ref aC)))
  (Cz:nsIn K mainGlobals "ByNought"=some (some (.ref iH)))
  (yG:nsIn K mainGlobals "CheckCode"=some (some (.ref bt)))
  (qt:nsIn K mainGlobals "Code"=some (some (.ref cF)))
  (yH:nsIn K mainGlobals "Field"=some (some (.ref ku)))
  (CA:nsIn K mainGlobals "PrimeField"=some (some (.ref aF)))
  (CB:nsIn K mainGlobals "RepeatCode"=some (some (.ref bw)))
  (CC:nsIn K mainGlobals "RootCode"=some (some (.ref bh)))
  (a0:nsIn K mainGlobals "_law_told"=some (some (.ref f0)))
  (l0:K.lookup f0=some ⟨oc0,od0,.func (fnOf "_law_told" "_law_told" (aY wD) (aQ wD) (au wD) .none kV0 dc0 pm0 an0 cd0 ct0),sl0⟩)
  (c0:codeIn K cd0 "_law_told"=true)
  (k0:keepIn K (.ref f0)=true)
  (a1:nsIn K mainGlobals "_law_many"=some (some (.ref f1)))
  (l1:K.lookup f1=some ⟨oc1,od1,.func (fnOf "_law_many" "_law_many" (aY wF) (aQ wF) (au wF) .none kV1 dc1 pm1 an1 cd1 ct1),sl1⟩)
  (c1:codeIn K cd1 "_law_many"=true)
  (k1:keepIn K (.ref f1)=true)
  (a2:nsIn K mainGlobals "powers_of"=some (some (.ref f2)))
  (l2:K.lookup f2=some ⟨oc2,LH,.func (fnOf "powers_of" "powers_of" (aY wH) (aQ wH) (au wH) .none kV2 dc2 pm2 an2 cd2 ct2),sl2⟩)
  (c2:codeIn K cd2 "powers_of"=true)
  (k2:keepIn K (.ref f2)=true)
  (a3:nsIn K mainGlobals "step_powers"=some (some (.ref f3)))
  (l3:K.lookup f3=some ⟨oc3,od3,.func (fnOf "step_powers" "step_powers" (aY wI) (aQ wI) (au wI) .none kV3 dc3 pm3 an3 cd3 ct3),sl3⟩)
  (c3:codeIn K cd3 "step_powers"=true)
  (k3:keepIn K (.ref f3)=true)
  (a4:nsIn K mainGlobals "logs_of"=some (some (.ref f4)))
  (l4:K.lookup f4=some ⟨oc4,od4,.func (fnOf "logs_of" "logs_of" (aY wJ) (aQ wJ) (au wJ) .none kV4 dc4 pm4 an4 cd4 ct4),sl4⟩)
  (c4:codeIn K cd4 "logs_of"=true)
  (k4:keepIn K (.ref f4)=true)
  (a5:findIn K (.ref ku) "step_power"=some (some (.ref f5)))
  (l5:K.lookup f5=some ⟨oc5,od5,.func (fnOf "step_power" "Field.step_power" (aY wK) (aQ wK) (au wK) .none kV5 dc5 pm5 an5 cd5 ct5),sl5⟩)
  (c5:codeIn K cd5 "Field.step_power"=true)
  (k5:keepIn K (.ref f5)=true)
  (a6:findIn K (.ref ku) "__init__"=some (some (.ref f6)))
  (l6:K.lookup f6=some ⟨oc6,od6,.func (fnOf "__init__" "Field.__init__" (aY wL) (aQ wL) (au wL) .none kV6 dc6 pm6 an6 cd6 ct6),sl6⟩)
  (c6:codeIn K cd6 "Field.__init__"=true)
  (k6:keepIn K (.ref f6)=true)
  (a7:nsIn K mainGlobals "makes_prime_field"=some (some (.ref f7)))
  (l7:K.lookup f7=some ⟨oc7,od7,.func (fnOf "makes_prime_field" "makes_prime_field" (aY wM) (aQ wM) (au wM) .none kV7 dc7 pm7 an7 cd7 ct7),sl7⟩)
  (c7:codeIn K cd7 "makes_prime_field"=true)
  (k7:keepIn K (.ref f7)=true)
  (a8:findIn K (.ref aF) "__init__"=some (some (.ref f8)))
  (l8:K.lookup f8=some ⟨oc8,od8,.func (fnOf "__init__" "PrimeField.__init__" (aY oq) (aQ oq) (au oq) .none kV8 dc8 pm8 an8 (.ref CS) ct8),sl8⟩)
  (c8:codeIn K (.ref CS) "PrimeField.__init__"=true)
  (k8:keepIn K (.ref f8)=true)
  (ax9:K.lookup CS=some ⟨aM8,aM6,.fields ax8,aM7⟩)
  (ay0:ax8[11]?=some (.ref iV))
  (O5:codeHdIn K CS iV=true)
  (a9:nsIn K mainGlobals "product_rows"=some (some (.ref f9)))
  (l9:K.lookup f9=some ⟨oc9,od9,.func (fnOf "product_rows" "product_rows" (aY wN) (aQ wN) (au wN) .none kV9 dc9 pm9 an9 cd9 ct9),sl9⟩)
  (c9:codeIn K cd9 "product_rows"=true)
  (k9:keepIn K (.ref f9)=true)
  (O6:nsIn K mainGlobals "bits_divided"=some (some (.ref G0)))
  (O7:K.lookup G0=some ⟨e36,e33,.func (fnOf "bits_divided" "bits_divided" (aY wO) (aQ wO) (au wO) .none e37 e38 e39 e34 dm3 e40),e35⟩)
  (O8:codeIn K dm3 "bits_divided"=true)
  (yL:keepIn K (.ref G0)=true)
  (O9:nsIn K mainGlobals "stands_alone"=some (some (.ref G1)))
  (Pa:K.lookup G1=some ⟨e44,e41,.func (fnOf "stands_alone" "stands_alone" (aY wR) (aQ wR) (au wR) .none e45 e46 e47 e42 dm4 e48),e43⟩)
  (Pb:codeIn K dm4 "stands_alone"=true)
  (Pc:keepIn K (.ref G1)=true)
  (Pd:nsIn K mainGlobals "makes_bit_field"=some (some (.ref mD)))
  (Pe:K.lookup mD=some ⟨e52,e49,.func (fnOf "makes_bit_field" "makes_bit_field" (aY wU) (aQ wU) (au wU) .none e53 e54 e55 e50 dm5 e56),e51⟩)
  (Pf:codeIn K dm5 "makes_bit_field"=true)
  (Pg:keepIn K (.ref mD)=true)
  (Ph:nsIn K mainGlobals "bits_times"=some (some (.ref G2)))
  (Pj:K.lookup G2=some ⟨e60,e57,.func (fnOf "bits_times" "bits_times" (aY wV) (aQ wV) (au wV) .none e61 e62 e63 e58 dm6 e64),e59⟩)
  (Pk:codeIn K dm6 "bits_times"=true)
  (Pl:keepIn K (.ref G2)=true)
  (a14:findIn K (.ref aC) "__init__"=some (some (.ref yM)))
  (Pm:K.lookup yM=some ⟨e68,e65,.func (fnOf "__init__" "BitField.__init__" (aY ot) (aQ ot) (au ot) .none e69 e70 e71 e66 (.ref CT) e72),e67⟩)
  (Pn:codeIn K (.ref CT) "BitField.__init__"=true)
  (Po:keepIn K (.ref yM)=true)
  (aD0:K.lookup CT=some ⟨aR0,aQ8,.fields aC9,aQ9⟩)
  (aD1:aC9[11]?=some (.ref iW))
  (Pp:codeHdIn K CT iW=true)
  (Pq:nsIn K mainGlobals "_law_field"=some (some (.ref G3)))
  (Pr:K.lookup G3=some ⟨e79,e76,.func (fnOf "_law_field" "_law_field" (aY wW) (aQ wW) (au wW) .none e80 e81 e82 e77 dm8 e83),e78⟩)
  (Pt:codeIn K dm8 "_law_field"=true)
  (Pu:keepIn K (.ref G3)=true)
  (Pw:nsIn K mainGlobals "_law_cell"=some (some (.ref G4)))
  (Px:K.lookup G4=some ⟨e87,e84,.func (fnOf "_law_cell" "_law_cell" (aY wX) (aQ wX) (au wX) .none e88 e89 e90 e85 dm9 e91),e86⟩)
  (Py:codeIn K dm9 "_law_cell"=true)
  (Pz:keepIn K (.ref G4)=true)
  (PB:nsIn K mainGlobals "_law_mixed"=some (some (.ref G5)))
  (PC:K.lookup G5=some ⟨e95,e92,.func (fnOf "_law_mixed" "_law_mixed" (aY wY) (aQ wY) (au wY) .none e96 e97 e98 e93 dn0 e99),e94⟩)
  (PD:codeIn K dn0 "_law_mixed"=true)
  (PF:keepIn K (.ref G5)=true)
  (PH:nsIn K mainGlobals "_law_free_table"=some (some (.ref G6)))
  (PJ:K.lookup G6=some ⟨fa3,fa0,.func (fnOf "_law_free_table" "_law_free_table" (aY wZ) (aQ wZ) (au wZ) .none fa4 fa5 fa6 fa1 dn1 fa7),fa2⟩)
  (PK:codeIn K dn1 "_law_free_table"=true)
  (PL:keepIn K (.ref G6)=true)
  (PM:nsIn K mainGlobals "width_of"=some (some (.ref G7)))
  (PN:K.lookup G7=some ⟨fb1,fa8,.func (fnOf "width_of" "width_of" (aY w4) (aQ w4) (au w4) .none fb2 fb3 fb4 fa9 dn2 fb5),fb0⟩)
  (PQ:codeIn K dn2 "width_of"=true)
  (PR:keepIn K (.ref G7)=true)
  (PU:nsIn K mainGlobals "first_with"=some (some (.ref G8)))
  (PV:K.lookup G8=some ⟨fb9,fb6,.func (fnOf "first_with" "first_with" (aY w5) (aQ w5) (au w5) .none fc0 fc1 fc2 fb7 dn3 fc3),fb8⟩)
  (PX:codeIn K dn3 "first_with"=true)
  (PY:keepIn K (.ref G8)=true)
  (a21:findIn K (.ref aC) "scaled"=some (some (.ref yN)))
  (PZ:K.lookup yN=some ⟨fc7,fc4,.func (fnOf "scaled" "BitField.scaled" (aY w9) (aQ w9) (au w9) .none fc8 fc9 fd0 fc5 dn4 fd1),fc6⟩)
  (P0:codeIn K dn4 "BitField.scaled"=true)
  (HE:keepIn K (.ref yN)=true)
  (a22:findIn K (.ref aF) "scaled"=some (some (.ref yO)))
  (P1:K.lookup yO=some ⟨fd5,fd2,.func (fnOf "scaled" "PrimeField.scaled" (aY xb) (aQ xb) (au xb) .none fd6 fd7 fd8 fd3 dn5 fd9),fd4⟩)
  (P2:codeIn K dn5 "PrimeField.scaled"=true)
  (HF:keepIn K (.ref yO)=true)
  (a23:findIn K (.ref aC) "lessened"=some (some (.ref yP)))
  (P4:K.lookup yP=some ⟨fe3,fe0,.func (fnOf "lessened" "BitField.lessened" (aY xf) (aQ xf) (au xf) .none fe4 fe5 fe6 fe1 dn6 fe7),fe2⟩)
  (P5:codeIn K dn6 "BitField.lessened"=true)
  (HG:keepIn K (.ref yP)=true)
  (a24:findIn K (.ref aF) "lessened"=some (some (.ref pz)))
  (P6:K.lookup pz=some ⟨ff1,fe8,.func (fnOf "lessened" "PrimeField.lessened" (aY xg) (aQ xg) (au xg) .none ff2 ff3 ff4 fe9 dn7 ff5),ff0⟩)
  (P7:codeIn K dn7 "PrimeField.lessened"=true)
  (HH:keepIn K (.ref pz)=true)
  (P8:nsIn K mainGlobals "cleared"=some (some (.ref G9)))
  (P9:K.lookup G9=some ⟨ff9,ff6,.func (fnOf "cleared" "cleared" (aY xh) (aQ xh) (au xh) .none fg0 fg1 fg2 ff7 dn8 fg3),ff8⟩)
  (Qa:codeIn K dn8 "cleared"=true)
  (Qb:keepIn K (.ref G9)=true)
  (a26:findIn K (.ref ku) "over"=some (some (.ref qv)))
  (Qc:K.lookup qv=some ⟨fg7,fg4,.func (fnOf "over" "Field.over" (aY xi) (aQ xi) (au xi) .none fg8 fg9 fh0 fg5 dn9 fh1),fg6⟩)
  (Qe:codeIn K dn9 "Field.over"=true)
  (CV:keepIn K (.ref qv)=true)
  (Qf:nsIn K mainGlobals "reduced"=some (some (.ref Ha)))
  (Qg:K.lookup Ha=some ⟨fh5,fh2,.func (fnOf "reduced" "reduced" (aY xj) (aQ xj) (au xj) .none fh6 fh7 fh8 fh3 do0 fh9),fh4⟩)
  (Qh:codeIn K do0 "reduced"=true)
  (Qi:keepIn K (.ref Ha)=true)
  (Qj:nsIn K mainGlobals "copied"=some (some (.ref Hb)))
  (Qk:K.lookup Hb=some ⟨fi3,fi0,.func (fnOf "copied" "copied" (aY xk) (aQ xk) (au xk) .none fi4 fi5 fi6 fi1 do1 fi7),fi2⟩)
  (Ql:codeIn K do1 "copied"=true)
  (Qm:keepIn K (.ref Hb)=true)
  (Qn:nsIn K mainGlobals "leads"=some (some (.ref Hc)))
  (Qo:K.lookup Hc=some ⟨fj1,fi8,.func (fnOf "leads" "leads" (aY xm) (aQ xm) (au xm) .none fj2 fj3 fj4 fi9 do2 fj5),fj0⟩)
  (Qp:codeIn K do2 "leads"=true)
  (Qq:keepIn K (.ref Hc)=true)
  (Qr:nsIn K mainGlobals "free_places"=some (some (.ref He)))
  (Qs:K.lookup He=some ⟨fj9,fj6,.func (fnOf "free_places" "free_places" (aY xn) (aQ xn) (au xn) .none fk0 fk1 fk2 fj7 do3 fk3),fj8⟩)
  (Qt:codeIn K do3 "free_places"=true)
  (Qu:keepIn K (.ref He)=true)
  (a31:findIn K (.ref aC) "minus"=some (some (.ref yQ)))
  (Qv:K.lookup yQ=some ⟨fk7,fk4,.func (fnOf "minus" "BitField.minus" (aY xo) (aQ xo) (au xo) .none fk8 fk9 fl0 fk5 do4 fl1),fk6⟩)
  (Qw:codeIn K do4 "BitField.minus"=true)
  (HI:keepIn K (.ref yQ)=true)
  (a32:findIn K (.ref aF) "minus"=some (some (.ref yR)))
  (Qx:K.lookup yR=some ⟨fl5,fl2,.func (fnOf "minus" "PrimeField.minus" (aY xp) (aQ xp) (au xp) .none fl6 fl7 fl8 fl3 do5 fl9),fl4⟩)
  (Qy:codeIn K do5 "PrimeField.minus"=true)
  (HJ:keepIn K (.ref yR)=true)
  (Qz:nsIn K mainGlobals "kernel_of_reduced"=some (some (.ref Hf)))
  (QB:K.lookup Hf=some ⟨fm3,fm0,.func (fnOf "kernel_of_reduced" "kernel_of_reduced" (aY xq) (aQ xq) (au xq) .none fm4 fm5 fm6 fm1 do6 fm7),fm2⟩)
  (QC:codeIn K do6 "kernel_of_reduced"=true)
  (QD:keepIn K (.ref Hf)=true)
  (a34:findIn K (.ref cF) "__init__"=some (some (.ref CU)))
  (QE:K.lookup CU=some ⟨fn1,fm8,.func (fnOf "__init__" "Code.__init__" (aY xu) (aQ xu) (au xu) .none fn2 fn3 fn4 fm9 do7 fn5),fn0⟩)
  (QF:codeIn K do7 "Code.__init__"=true)
  (HK:keepIn K (.ref CU)=true)
  (a35:findIn K (.ref ku) "holds"=some (some (.ref qw)))
  (QG:K.lookup qw=some ⟨fn9,fn6,.func (fnOf "holds" "Field.holds" (aY xv) (aQ xv) (au xv) .none fo0 fo1 fo2 fn7 do8 fo3),fn8⟩)
  (QH:codeIn K do8 "Field.holds"=true)
  (CW:keepIn K (.ref qw)=true)
  (QI:nsIn K mainGlobals "is_small_table"=some (some (.ref Hg)))
  (QJ:K.lookup Hg=some ⟨fo7,fo4,.func (fnOf "is_small_table" "is_small_table" (aY xw) (aQ xw) (au xw) .none fo8 fo9 fp0 fo5 do9 fp1),fo6⟩)
  (QK:codeIn K do9 "is_small_table"=true)
  (QL:keepIn K (.ref Hg)=true)
  (QM:nsIn K mainGlobals "rank"=some (some (.ref Hh)))
  (QN:K.lookup Hh=some ⟨fp5,fp2,.func (fnOf "rank" "rank" (aY xx) (aQ xx) (au xx) .none fp6 fp7 fp8 fp3 dp0 fp9),fp4⟩)
  (QO:codeIn K dp0 "rank"=true)
  (QP:keepIn K (.ref Hh)=true)
  (QQ:nsIn K mainGlobals "turned"=some (some (.ref Hi)))
  (QR:K.lookup Hi=some ⟨fq3,fq0,.func (fnOf "turned" "turned" (aY xy) (aQ xy) (au xy) .none fq4 fq5 fq6 fq1 dp1 fq7),fq2⟩)
  (QS:codeIn K dp1 "turned"=true)
  (QT:keepIn K (.ref Hi)=true)
  (QU:nsIn K mainGlobals "is_nought"=some (some (.ref Hj)))
  (QV:K.lookup Hj=some ⟨fr6,fq8,.func (fnOf "is_nought" "is_nought" (aY xB) (aQ xB) (au xB) .none fr8 fs0 fs1 fq9 dp2 fs2),fr2⟩)
  (QW:codeIn K dp2 "is_nought"=true)
  (QX:keepIn K (.ref Hj)=true)
  (a40:findIn K (.ref aC) "times"=some (some (.ref yS)))
  (QY:K.lookup yS=some ⟨fs6,fs3,.func (fnOf "times" "BitField.times" (aY xC) (aQ xC) (au xC) .none fs7 fs8 fs9 fs4 dp3 ft0),fs5⟩)
  (QZ:codeIn K dp3 "BitField.times"=true)
  (HL:keepIn K (.ref yS)=true)
  (a41:findIn K (.ref aF) "times"=some (some (.ref yT)))
  (Q0:K.lookup yT=some ⟨ft4,ft1,.func (fnOf "times" "PrimeField.times" (aY xD) (aQ xD) (au xD) .none ft5 ft6 ft7 ft2 dp4 ft8),ft3⟩)
  (Q1:codeIn K dp4 "PrimeField.times"=true)
  (HM:keepIn K (.ref yT)=true)
  (Q2:nsIn K mainGlobals "past"=some (some (.ref Hk)))
  (Q3:K.lookup Hk=some ⟨fu2,ft9,.func (fnOf "past" "past" (aY xE) (aQ xE) (au xE) .none fu3 fu4 fu5 fu0 dp5 fu6),fu1⟩)
  (Q4:codeIn K dp5 "past"=true)
  (Q5:keepIn K (.ref Hk)=true)
  (Q6:nsIn K mainGlobals "first_bound"=some (some (.ref Hl)))
  (Q7:K.lookup Hl=some ⟨fv0,fu7,.func (fnOf "first_bound" "first_bound" (aY xG) (aQ xG) (au xG) .none fv1 fv2 fv3 fu8 dp6 fv4),fu9⟩)
  (Q8:codeIn K dp6 "first_bound"=true)
  (Q9:keepIn K (.ref Hl)=true)
  (a44:findIn K (.ref bt) "__init__"=some (some (.ref yU)))
  (Ra:K.lookup yU=some ⟨fv8,fv5,.func (fnOf "__init__" "CheckCode.__init__" (aY xH) (aQ xH) (au xH) .none fv9 fw0 fw1 fv6 dp7 fw2),fv7⟩)
  (Rb:codeIn K dp7 "CheckCode.__init__"=true)
  (Rc:keepIn K (.ref yU)=true)
  (Rh:nsIn K mainGlobals "_law_times"=some (some (.ref Hm)))
  (Ri:K.lookup Hm=some ⟨fw6,fw3,.func (fnOf "_law_times" "_law_times" (aY xI) (aQ xI) (au xI) .none fw7 fw8 fw9 fw4 dp8 fx0),fw5⟩)
  (Rj:codeIn K dp8 "_law_times"=true)
  (Rk:keepIn K (.ref Hm)=true)
  (Rl:nsIn K mainGlobals "_law_powers"=some (some (.ref Ho)))
  (Rm:K.lookup Ho=some ⟨fx4,fx1,.func (fnOf "_law_powers" "_law_powers" (aY xK) (aQ xK) (au xK) .none fx5 fx6 fx7 fx2 dp9 fx8),fx3⟩)
  (Rn:codeIn K dp9 "_law_powers"=true)
  (Ro:keepIn K (.ref Ho)=true)
  (Rp:nsIn K mainGlobals "_law_root_table"=some (some (.ref Hq)))
  (Rq:K.lookup Hq=some ⟨fy2,fx9,.func (fnOf "_law_root_table" "_law_root_table" (aY xM) (aQ xM) (au xM) .none fy3 fy4 fy5 fy0 dq0 fy6),fy1⟩)
  (Rt:codeIn K dq0 "_law_root_table"=true)
  (Ru:keepIn K (.ref Hq)=true)
  (Rv:nsIn K mainGlobals "makes_root_code"=some (some (.ref Hr)))
  (Rw:K.lookup Hr=some ⟨fz0,fy7,.func (fnOf "makes_root_code" "makes_root_code" (aY xN) (aQ xN) (au xN) .none fz1 fz2 fz3 fy8 dq1 fz4),fy9⟩)
  (Rx:codeIn K dq1 "makes_root_code"=true)
  (Ry:keepIn K (.ref Hr)=true)
  (a49:findIn K (.ref bh) "__init__"=some (some (.ref yV)))
  (Rz:K.lookup yV=some ⟨fz7,fz5,.func (fnOf "__init__" "RootCode.__init__" (aY ou) (aQ ou) (au ou) (.ref O2) dq3 dq4 dq5 dq2 O1 dq6),fz6⟩)
  (RA:K.lookup O2=some ⟨fz8,fA0,.seq #[fz9] fA2,fA1⟩)
  (RB:codeIn K O1 "RootCode.__init__"=true)
  (RC:keepIn K (.ref yV)=true)
  (a50:findIn K (.ref bt) "distance"=some (some (.ref yW)))
  (RD:K.lookup yW=some ⟨fA6,fA3,.func (fnOf "distance" "CheckCode.distance" (aY xO) (aQ xO) (au xO) .none fA7 fA8 fA9 fA4 dq7 fB0),fA5⟩)
  (RE:codeIn K dq7 "CheckCode.distance"=true)
  (HN:keepIn K (.ref yW)=true)
  (a51:findIn K (.ref bw) "distance"=some (some (.ref yX)))
  (RF:K.lookup yX=some ⟨fB4,fB1,.func (fnOf "distance" "RepeatCode.distance" (aY BM) (aQ BM) (au BM) .none fB5 fB6 fB7 fB2 dq8 fB8),fB3⟩)
  (RG:codeIn K dq8 "RepeatCode.distance"=true)
  (HP:keepIn K (.ref yX)=true)
  (a52:findIn K (.ref bh) "distance"=some (some (.ref yY)))
  (RH:K.lookup yY=some ⟨fC2,fB9,.func (fnOf "distance" "RootCode.distance" (aY BN) (aQ BN) (au BN) .none fC3 fC4 fC5 fC0 dq9 fC6),fC1⟩)
  (RI:codeIn K dq9 "RootCode.distance"=true)
  (HQ:keepIn K (.ref yY)=true)
  (RJ:nsIn K mainGlobals "repeat_checks"=some (some (.ref Hs)))
  (RK:K.lookup Hs=some ⟨fD0,fC7,.func (fnOf "repeat_checks" "repeat_checks" (aY xP) (aQ xP) (au xP) .none fD1 fD2 fD3 fC8 dr0 fD4),fC9⟩)
  (RL:codeIn K dr0 "repeat_checks"=true)
  (RM:keepIn K (.ref Hs)=true)
  (a54:findIn K (.ref bw) "__init__"=some (some (.ref yZ)))
  (RN:K.lookup yZ=some ⟨fD8,fD5,.func (fnOf "__init__" "RepeatCode.__init__" (aY xQ) (aQ xQ) (au xQ) .none fD9 fE0 fE1 fD6 dr1 fE2),fD7⟩)
  (RO:codeIn K dr1 "RepeatCode.__init__"=true)
  (RP:keepIn K (.ref yZ)=true)
  (RQ:nsIn K mainGlobals "_law_repeat_table"=some (some (.ref Ht)))
  (RU:K.lookup Ht=some ⟨fE6,fE3,.func (fnOf "_law_repeat_table" "_law_repeat_table" (aY xR) (aQ xR) (au xR) .none fE7 fE8 fE9 fE4 dr2 fF0),fE5⟩)
  (RV:codeIn K dr2 "_law_repeat_table"=true)
  (RW:keepIn K (.ref Ht)=true)
  (RX:nsIn K mainGlobals "_law_code"=some (some (.ref Hu)))
  (RY:K.lookup Hu=some ⟨fF4,fF1,.func (fnOf "_law_code" "_law_code" (aY xS) (aQ xS) (au xS) .none fF5 fF6 fF7 fF2 dr3 fF8),fF3⟩)
  (RZ:codeIn K dr3 "_law_code"=true)
  (R0:keepIn K (.ref Hu)=true)
  (R1:nsIn K mainGlobals "_law_message"=some (some (.ref Hv)))
  (R3:K.lookup Hv=some ⟨fG2,fF9,.func (fnOf "_law_message" "_law_message" (aY xT) (aQ xT) (au xT) .none fG3 fG4 fG5 fG0 dr4 fG6),fG1⟩)
  (R4:codeIn K dr4 "_law_message"=true)
  (R5:keepIn K (.ref Hv)=true)
  (R6:nsIn K mainGlobals "refuse_length"=some (some (.ref Hw)))
  (R7:K.lookup Hw=some ⟨fH0,fG7,.func (fnOf "refuse_length" "refuse_length" (aY xU) (aQ xU) (au xU) .none fH1 fH2 fH3 fG8 dr5 fH4),fG9⟩)
  (R8:codeIn K dr5 "refuse_length"=true)
  (R9:keepIn K (.ref Hw)=true)
  (Sa:nsIn K mainGlobals "refuse_no_sign"=some (some (.ref Hx)))
  (Sb:K.lookup Hx=some ⟨fH8,fH5,.func (fnOf "refuse_no_sign" "refuse_no_sign" (aY xV) (aQ xV) (au xV) .none fH9 fI0 fI1 fH6 dr6 fI2),fH7⟩)
  (Sd:codeIn K dr6 "refuse_no_sign"=true)
  (Se:keepIn K (.ref Hx)=true)
  (a60:findIn K (.ref aC) "dot"=some (some (.ref y0)))
  (Sf:K.lookup y0=some ⟨fI6,fI3,.func (fnOf "dot" "BitField.dot" (aY xW) (aQ xW) (au xW) .none fI7 fI8 fI9 fI4 dr7 fJ0),fI5⟩)
  (Sg:codeIn K dr7 "BitField.dot"=true)
  (HR:keepIn K (.ref y0)=true)
  (a61:findIn K (.ref aF) "dot"=some (some (.ref y6)))
  (Sh:K.lookup y6=some ⟨fJ4,fJ1,.func (fnOf "dot" "PrimeField.dot" (aY xX) (aQ xX) (au xX) .none fJ5 fJ6 fJ7 fJ2 dr8 fJ8),fJ3⟩)
  (Si:codeIn K dr8 "PrimeField.dot"=true)
  (HS:keepIn K (.ref y6)=true)
  (Sj:nsIn K mainGlobals "row_by"=some (some (.ref Hy)))
  (Sk:K.lookup Hy=some ⟨fK2,fJ9,.func (fnOf "row_by" "row_by" (aY xY) (aQ xY) (au xY) .none fK3 fK4 fK5 fK0 dr9 fK6),fK1⟩)
  (Sl:codeIn K dr9 "row_by"=true)
  (Sm:keepIn K (.ref Hy)=true)
  (a63:findIn K (.ref cF) "written"=some (some (.ref mX)))
  (Sn:K.lookup mX=some ⟨fL0,fK7,.func (fnOf "written" "Code.written" (aY xZ) (aQ xZ) (au xZ) .none fL1 fL2 fL3 fK8 ds0 fL4),fK9⟩)
  (So:codeIn K ds0 "Code.written"=true)
  (y7:keepIn K (.ref mX)=true)
  (a64:findIn K (.ref cF) "rows"=some (some (.ref mY)))
  (kA:K.lookup mY=some ⟨fL8,fL5,.func (fnOf "rows" "Code.rows" (aY x6) (aQ x6) (au x6) .none fL9 fM0 fM1 fL6 ds1 fM2),fL7⟩)
  (Sq:codeIn K ds1 "Code.rows"=true)
  (y8:keepIn K (.ref mY)=true)
  (a65:findIn K (.ref cF) "places"=some (some (.ref mZ)))
  (Sr:K.lookup mZ=some ⟨fM6,fM3,.func (fnOf "places" "Code.places" (aY x8) (aQ x8) (au x8) .none fM7 fM8 fM9 fM4 ds2 fN0),fM5⟩)
  (Ss:codeIn K ds2 "Code.places"=true)
  (y9:keepIn K (.ref mZ)=true)
  (a66:findIn K (.ref cF) "checks"=some (some (.ref m3)))
  (Su:K.lookup m3=some ⟨fN4,fN1,.func (fnOf "checks" "Code.checks" (aY x9) (aQ x9) (au x9) .none fN5 fN6 fN7 fN2 ds3 fN8),fN3⟩)
  (Sv:codeIn K ds3 "Code.checks"=true)
  (za:keepIn K (.ref m3)=true)
  (Sw:nsIn K mainGlobals "_law_spoilt"=some (some (.ref Hz)))
  (Sx:K.lookup Hz=some ⟨fO2,fN9,.func (fnOf "_law_spoilt" "_law_spoilt" (aY ya) (aQ ya) (au ya) .none fO3 fO4 fO5 fO0 ds4 fO6),fO1⟩)
  (Sy:codeIn K ds4 "_law_spoilt"=true)
  (Sz:keepIn K (.ref Hz)=true)
  (SA:nsIn K mainGlobals "_law_plus"=some (some (.ref HA)))
  (SD:K.lookup HA=some ⟨fP0,fO7,.func (fnOf "_law_plus" "_law_plus" (aY yb) (aQ yb) (au yb) .none fP1 fP2 fP3 fO8 ds5 fP4),fO9⟩)
  (SE:codeIn K ds5 "_law_plus"=true)
  (SF:keepIn K (.ref HA)=true)
  (SG:nsIn K mainGlobals "_law_by_rows"=some (some (.ref HB)))
  (SH:K.lookup HB=some ⟨fP8,fP5,.func (fnOf "_law_by_rows" "_law_by_rows" (aY yc) (aQ yc) (au yc) .none fP9 fQ0 fQ1 fP6 ds6 fQ2),fP7⟩)
  (SI:codeIn K ds6 "_law_by_rows"=true)
  (SJ:keepIn K (.ref HB)=true)
  (SK:nsIn K mainGlobals "_law_sums"=some (some (.ref HC)))
  (SM:K.lookup HC=some ⟨fQ6,fQ3,.func (fnOf "_law_sums" "_law_sums" (aY yd) (aQ yd) (au yd) .none fQ7 fQ8 fQ9 fQ4 ds7 fR0),fQ5⟩)
  (SN:codeIn K ds7 "_law_sums"=true)
  (SO:keepIn K (.ref HC)=true)
  (SQ:nsIn K mainGlobals "_law_whole"=some (some (.ref HD)))
  (SR:K.lookup HD=some ⟨fR4,fR1,.func (fnOf "_law_whole" "_law_whole" (aY yf) (aQ yf) (au yf) .none fR5 fR6 fR7 fR2 ds8 fR8),fR3⟩)
  (SS:codeIn K ds8 "_law_whole"=true)
  (SU:keepIn K (.ref HD)=true)
  (HU:nsIn K mainGlobals "law"=some (some (.ref O4)))
  (SV:K.lookup O4=some ⟨fS1,fR9,.func (fnOf "law" "law" (aY ow) (aQ ow) (au ow) .none dt0 dt1 dt2 ds9 O3 dt3),fS0⟩)
  (SW:codeIn K O3 "law"=true)
  (SX:keepIn K (.ref O4)=true)
  (HV:plainGet K aC zc=true)
  (HW:hasDictIn K aC=true)
  (HX:plainOver K aC=true)
  (HY:findIn K (.ref aC) "__setattr__"=some (some (.builtin "object.__setattr__")))
  (B0:makesIn K aC=true)
  (SY:findIn K (.ref aC) "__init__"=some (some (.ref yM)))
  (S0:isFn K (.ref yM)=true)
  (S1:keepIn K (.ref aC)=true)
  (S2:findIn K (.ref aC) "__class__"=some (some (.builtin "object.__class__")))
  (S3:specialIn K (.builtin "object.__class__") "__get__"=some (some (.builtin "getset_descriptor.__get__")))
  (S4:takesIn K (.builtin "object.__class__")=some true)
  (S5:mroIn K aC (.type "object")=some true)
  (S6:(cZ aC==cZ cF)=false)
  (S7:(clsIn K cF).isSome=true)
  (at2:typeIn K (.ref cF)=some (.type "type"))
  (S8:subIn K (.ref aC) (.ref cF)=some false)
  (B4:findIn K (.ref aC) "bits"=some none)
  (Fz:findIn K (.ref aC) "bound"=some none)
  (FA:findIn K (.ref aC) "check_rows"=some none)
  (FC:findIn K (.ref aC) "extra"=some none)
  (FD:findIn K (.ref aC) "field"=some none)
  (FE:findIn K (.ref aC) "first"=some none)
  (FF:findIn K (.ref aC) "length"=some none)
  (qg:findIn K (.ref aC) "logs"=some none)
  (oy:findIn K (.ref aC) "many"=some none)
  (FG:findIn K (.ref aC) "message_places"=some none)
  (qh:findIn K (.ref aC) "powers"=some none)
  (FH:findIn K (.ref aC) "prime"=some none)
  (oA:findIn K (.ref aC) "products"=some none)
  (FI:findIn K (.ref aC) "size"=some none)
  (B5:findIn K (.ref aC) "step"=some none)
  (B6:findIn K (.ref aC) "wide"=some none)
  (FJ:findIn K (.ref aC) "word_rows"=some none)
  (B7:findIn K (.ref aC) "dot"=some (some (.ref y0)))
  (S9:isFn K (.ref y0)=true)
  (B8:findIn K (.ref aC) "holds"=some (some (.ref qw)))
  (Ta:isFn K (.ref qw)=true)
  (B9:findIn K (.ref aC) "lessened"=some (some (.ref yP)))
  (Tc:isFn K (.ref yP)=true)
  (Ca:findIn K (.ref aC) "minus"=some (some (.ref yQ)))
  (Td:isFn K (.ref yQ)=true)
  (Cb:findIn K (.ref aC) "over"=some (some (.ref qv)))
  (Te:isFn K (.ref qv)=true)
  (Cc:findIn K (.ref aC) "scaled"=some (some (.ref yN)))
  (Tf:isFn K (.ref yN)=true)
  (tw:findIn K (.ref aC) "step_power"=some (some (.ref f5)))
  (Tg:isFn K (.ref f5)=true)
  (Cd:findIn K (.ref aC) "times"=some (some (.ref yS)))
  (Th:isFn K (.ref yS)=true)
  (HZ:plainGet K bt zc=true)
  (Ia:hasDictIn K bt=true)
  (Ib:plainOver K bt=true)
  (Ic:findIn K (.ref bt) "__setattr__"=some (some (.builtin "object.__setattr__")))
  (yh:makesIn K bt=true)
  (Ti:findIn K (.ref bt) "__init__"=some (some (.ref yU)))
  (Tj:isFn K (.ref yU)=true)
  (Tn:keepIn K (.ref bt)=true)
  (To:findIn K (.ref bt) "__class__"=some (some (.builtin "object.__class__")))
  (Tp:specialIn K (.builtin "object.__class__") "__get__"=some (some (.builtin "getset_descriptor.__get__")))
  (Tq:takesIn K (.builtin "object.__class__")=some true)
  (Tr:mroIn K bt (.type "object")=some true)
  (Ts:(cZ bt==cZ cF)=false)
  (Tt:(clsIn K cF).isSome=true)
  (Tu:typeIn K (.ref cF)=some (.type "type"))
  (Tv:subIn K (.ref bt) (.ref cF)=some true)
  (FK:findIn K (.ref bt) "bits"=some none)
  (yi:findIn K (.ref bt) "bound"=some none)
  (yj:findIn K (.ref bt) "check_rows"=some none)
  (FL:findIn K (.ref bt) "extra"=some none)
  (yk:findIn K (.ref bt) "field"=some none)
  (FN:findIn K (.ref bt) "first"=some none)
  (yl:findIn K (.ref bt) "length"=some none)
  (FP:findIn K (.ref bt) "logs"=some none)
  (FQ:findIn K (.ref bt) "many"=some none)
  (ym:findIn K (.ref bt) "message_places"=some none)
  (FR:findIn K (.ref bt) "powers"=some none)
  (FT:findIn K (.ref bt) "prime"=some none)
  (FU:findIn K (.ref bt) "products"=some none)
  (yn:findIn K (.ref bt) "size"=some none)
  (FV:findIn K (.ref bt) "step"=some none)
  (FW:findIn K (.ref bt) "wide"=some none)
  (yo:findIn K (.ref bt) "word_rows"=some none)
  (yp:findIn K (.ref bt) "checks"=some (some (.ref m3)))
  (Tw:isFn K (.ref m3)=true)
  (Ce:findIn K (.ref bt) "distance"=some (some (.ref yW)))
  (Tx:isFn K (.ref yW)=true)
  (qi:findIn K (.ref bt) "places"=some (some (.ref mZ)))
  (Tz:isFn K (.ref mZ)=true)
  (qj:findIn K (.ref bt) "rows"=some (some (.ref mY)))
  (TB:isFn K (.ref mY)=true)
  (tD:findIn K (.ref bt) "written"=some (some (.ref mX)))
  (TC:isFn K (.ref mX)=true)
  (Ie:plainGet K aF zc=true)
  (Ig:hasDictIn K aF=true)
  (Ih:plainOver K aF=true)
  (Ii:findIn K (.ref aF) "__setattr__"=some (some (.builtin "object.__setattr__")))
  (Cf:makesIn K aF=true)
  (TF:findIn K (.ref aF) "__init__"=some (some (.ref f8)))
  (TH:isFn K (.ref f8)=true)
  (TJ:keepIn K (.ref aF)=true)
  (TK:findIn K (.ref aF) "__class__"=some (some (.builtin "object.__class__")))
  (TL:specialIn K (.builtin "object.__class__") "__get__"=some (some (.builtin "getset_descriptor.__get__")))
  (TM:takesIn K (.builtin "object.__class__")=some true)
  (TN:mroIn K aF (.type "object")=some true)
  (TQ:(cZ aF==cZ cF)=false)
  (TR:(clsIn K cF).isSome=true)
  (TU:typeIn K (.ref cF)=some (.type "type"))
  (TV:subIn K (.ref aF) (.ref cF)=some false)
  (FX:findIn K (.ref aF) "bits"=some none)
  (FY:findIn K (.ref aF) "bound"=some none)
  (FZ:findIn K (.ref aF) "check_rows"=some none)
  (Ga:findIn K (.ref aF) "extra"=some none)
  (Gb:findIn K (.ref aF) "field"=some none)
  (Gd:findIn K (.ref aF) "first"=some none)
  (Ge:findIn K (.ref aF) "length"=some none)
  (tE:findIn K (.ref aF) "logs"=some none)
  (oB:findIn K (.ref aF) "many"=some none)
  (Gf:findIn K (.ref aF) "message_places"=some none)
  (tF:findIn K (.ref aF) "powers"=some none)
  (mT:findIn K (.ref aF) "prime"=some none)
  (Gg:findIn K (.ref aF) "products"=some none)
  (Gh:findIn K (.ref aF) "size"=some none)
  (Cg:findIn K (.ref aF) "step"=some none)
  (Ci:findIn K (.ref aF) "wide"=some none)
  (Gi:findIn K (.ref aF) "word_rows"=some none)
  (Cj:findIn K (.ref aF) "dot"=some (some (.ref y6)))
  (TX:isFn K (.ref y6)=true)
  (Ck:findIn K (.ref aF) "holds"=some (some (.ref qw)))
  (TY:isFn K (.ref qw)=true)
  (Cm:findIn K (.ref aF) "lessened"=some (some (.ref pz)))
  (TZ:isFn K (.ref pz)=true)
  (Cn:findIn K (.ref aF) "minus"=some (some (.ref yR)))
  (T1:isFn K (.ref yR)=true)
  (Co:findIn K (.ref aF) "over"=some (some (.ref qv)))
  (T2:isFn K (.ref qv)=true)
  (Cp:findIn K (.ref aF) "scaled"=some (some (.ref yO)))
  (T3:isFn K (.ref yO)=true)
  (tG:findIn K (.ref aF) "step_power"=some (some (.ref f5)))
  (T4:isFn K (.ref f5)=true)
  (Cq:findIn K (.ref aF) "times"=some (some (.ref yT)))
  (T5:isFn K (.ref yT)=true)
  (Ij:plainGet K bw zc=true)
  (Ik:hasDictIn K bw=true)
  (Il:plainOver K bw=true)
  (Im:findIn K (.ref bw) "__setattr__"=some (some (.builtin "object.__setattr__")))
  (Cr:makesIn K bw=true)
  (T6:findIn K (.ref bw) "__init__"=some (some (.ref yZ)))
  (T7:isFn K (.ref yZ)=true)
  (T8:keepIn K (.ref bw)=true)
  (T9:findIn K (.ref bw) "__class__"=some (some (.builtin "object.__class__")))
  (Ua:specialIn K (.builtin "object.__class__") "__get__"=some (some (.builtin "getset_descriptor.__get__")))
  (Ub:takesIn K (.builtin "object.__class__")=some true)
  (Uc:mroIn K bw (.type "object")=some true)
  (Ud:(cZ bw==cZ cF)=false)
  (Ue:(clsIn K cF).isSome=true)
  (Ug:typeIn K (.ref cF)=some (.type "type"))
  (Uh:subIn K (.ref bw) (.ref cF)=some true)
  (Gj:findIn K (.ref bw) "bits"=some none)
  (Gk:findIn K (.ref bw) "bound"=some none)
  (yq:findIn K (.ref bw) "check_rows"=some none)
  (Gm:findIn K (.ref bw) "extra"=some none)
  (yr:findIn K (.ref bw) "field"=some none)
  (Gp:findIn K (.ref bw) "first"=some none)
  (yt:findIn K (.ref bw) "length"=some none)
  (Gq:findIn K (.ref bw) "logs"=some none)
  (Gr:findIn K (.ref bw) "many"=some none)
  (yu:findIn K (.ref bw) "message_places"=some none)
  (Gu:findIn K (.ref bw) "powers"=some none)
  (Gv:findIn K (.ref bw) "prime"=some none)
  (Gw:findIn K (.ref bw) "products"=some none)
  (yv:findIn K (.ref bw) "size"=some none)
  (Gx:findIn K (.ref bw) "step"=some none)
  (Gz:findIn K (.ref bw) "wide"=some none)
  (yw:findIn K (.ref bw) "word_rows"=some none)
  (yx:findIn K (.ref bw) "checks"=some (some (.ref m3)))
  (Ui:isFn K (.ref m3)=true)
  (GA:findIn K (.ref bw) "distance"=some (some (.ref yX)))
  (Uj:isFn K (.ref yX)=true)
  (qk:findIn K (.ref bw) "places"=some (some (.ref mZ)))
  (Uk:isFn K (.ref mZ)=true)
  (ql:findIn K (.ref bw) "rows"=some (some (.ref mY)))
  (Ul:isFn K (.ref mY)=true)
  (tH:findIn K (.ref bw) "written"=some (some (.ref mX)))
  (Um:isFn K (.ref mX)=true)
  (Io:plainGet K bh zc=true)
  (Ip:hasDictIn K bh=true)
  (Iq:plainOver K bh=true)
  (Ir:findIn K (.ref bh) "__setattr__"=some (some (.builtin "object.__setattr__")))
  (Cu:makesIn K bh=true)
  (Uo:findIn K (.ref bh) "__init__"=some (some (.ref yV)))
  (Up:isFn K (.ref yV)=true)
  (Uq:keepIn K (.ref bh)=true)
  (Ur:findIn K (.ref bh) "__class__"=some (some (.builtin "object.__class__")))
  (Us:specialIn K (.builtin "object.__class__") "__get__"=some (some (.builtin "getset_descriptor.__get__")))
  (Ut:takesIn K (.builtin "object.__class__")=some true)
  (Uu:mroIn K bh (.type "object")=some true)
  (Uv:(cZ bh==cZ cF)=false)
  (Uw:(clsIn K cF).isSome=true)
  (Ux:typeIn K (.ref cF)=some (.type "type"))
  (Uy:subIn K (.ref bh) (.ref cF)=some true)
  (GB:findIn K (.ref bh) "bits"=some none)
  (GC:findIn K (.ref bh) "bound"=some none)
  (yy:findIn K (.ref bh) "check_rows"=some none)
  (Cv:findIn K (.ref bh) "extra"=some none)
  (yz:findIn K (.ref bh) "field"=some none)
  (Cw:findIn K (.ref bh) "first"=some none)
  (yA:findIn K (.ref bh) "length"=some none)
  (GD:findIn K (.ref bh) "logs"=some none)
  (GF:findIn K (.ref bh) "many"=some none)
  (yB:findIn K (.ref bh) "message_places"=some none)
  (GG:findIn K (.ref bh) "powers"=some none)
  (GH:findIn K (.ref bh) "prime"=some none)
  (GI:findIn K (.ref bh) "products"=some none)
  (yC:findIn K (.ref bh) "size"=some none)
  (GJ:findIn K (.ref bh) "step"=some none)
  (GK:findIn K (.ref bh) "wide"=some none)
  (yD:findIn K (.ref bh) "word_rows"=some none)
  (yE:findIn K (.ref bh) "checks"=some (some (.ref m3)))
  (Uz:isFn K (.ref m3)=true)
  (GL:findIn K (.ref bh) "distance"=some (some (.ref yY)))
  (UA:isFn K (.ref yY)=true)
  (qm:findIn K (.ref bh) "places"=some (some (.ref mZ)))
  (UB:isFn K (.ref mZ)=true)
  (qo:findIn K (.ref bh) "rows"=some (some (.ref mY)))
  (UC:isFn K (.ref mY)=true)
  (tI:findIn K (.ref bh) "written"=some (some (.ref mX)))
  (UD:isFn K (.ref mX)=true)
  (UE:specialIn K (.ref cF) "__getattribute__"=some (some (.builtin "type.__getattribute__")))
  (UG:PySem.W.readsIn K cF (.type "type")=true)
  (UH:PySem.W.findCls K (.ref cF) (.type "type") "__init__"=some (.val (.ref CU)))
  (UI:specialIn K (.ref ku) "__getattribute__"=some (some (.builtin "type.__getattribute__")))
  (UJ:PySem.W.readsIn K ku (.type "type")=true)
  (UK:PySem.W.findCls K (.ref ku) (.type "type") "__init__"=some (.val (.ref f6)))
  (UL:nsIn K mainGlobals "all"=some none)
  (UM:nsIn K mainGlobals "any"=some none)
  (UN:nsIn K mainGlobals "bool"=some none)
  (UO:nsIn K mainGlobals "enumerate"=some none)
  (UP:nsIn K mainGlobals "int"=some none)
  (UQ:nsIn K mainGlobals "isinstance"=some none)
  (UR:nsIn K mainGlobals "len"=some none)
  (US:nsIn K mainGlobals "list"=some none)
  (UT:nsIn K mainGlobals "min"=some none)
  (UU:nsIn K mainGlobals "range"=some none)
  (UW:nsIn K mainGlobals "sum"=some none)
  (UX:nsIn K mainGlobals "zip"=some none)
  (UY:(clsIn K iH).isSome=true)
  (aP2:typeIn K (.ref iH)=some (.type "type"))
  (UZ:PySem.W.excIn K iH [.type "ValueError",.type "Exception",.type "BaseException",.type "object"] "ValueError.__new__"=true)
  (U0:findIn K (.ref iH) "__getattribute__"=some (some (.builtin "BaseException.__getattribute__")))
  (U1:findIn K (.ref iH) "__getattr__"=some none)
  (U2:findIn K (.ref iH) "__class__"=some (some (.builtin "object.__class__")))
  (U3:specialIn K (.builtin "object.__class__") "__get__"=some (some (.builtin "getset_descriptor.__get__")))
  (U4:takesIn K (.builtin "object.__class__")=some true)
  (U5:mroIn K iH (.type "object")=some true)
  (U6:mroIn K iH (.type "BaseException")=some true)
  (nl:K.all (λp=>Kw p.2)=true)
  (sub:∀P∈[iV,iW],P∈ts) :
  ∃fd:FuncData,(∀(s:Shared) (v:Value),BindsTo s fd ⟨[v],[]⟩ [("_law_script",v)])/\∀base:Heap,K.In base->base.Ns mainGlobals mg->Bm mg base->aN l.prog w K mg base aR 12 fa fd ["_law_script"] (Ep ts K):=by
 have e:=hfa.symm.trans (mg_of X G HU)
 cases e
 have F0:=bu (st:=wD) l0 c0 k0
 have b0:=F0.binds (ps:=["_law_cell_here"]) λ_ _ _ _ _ _=>fC (λ_=>rfl)
 have F1:=bu (st:=wF) l1 c1 k1
 have b1:=F1.binds (ps:=["_law_told_here"]) λ_ _ _ _ _ _=>fC (λ_=>rfl)
 have F2:=bu (st:=wH) l2 c2 k2
 have b2:=F2.binds (ps:=["a","product"]) λ_ _ _ _ _ _=>eY (λ_ _=>rfl)
 have F3:=bu (st:=wI) l3 c3 k3
 have b3:=F3.binds (ps:=["many","product"]) λ_ _ _ _ _ _=>eY (λ_ _=>rfl)
 have F4:=bu (st:=wJ) l4 c4 k4
 have b4:=F4.binds (ps:=["powers"]) λ_ _ _ _ _ _=>fC (λ_=>rfl)
 have F5:=bu (st:=wK) l5 c5 k5
 have b5:=F5.binds (ps:=["self","n"]) λ_ _ _ _ _ _=>eY (λ_ _=>rfl)
 have F6:=bu (st:=wL) l6 c6 k6
 have b6:=F6.binds (ps:=["self","many","product"]) λ_ _ _ _ _ _=>gi (λ_ _ _=>rfl)
 have F7:=bu (st:=wM) l7 c7 k7
 have b7:=F7.binds (ps:=["prime"]) λ_ _ _ _ _ _=>fC (λ_=>rfl)
 have F8:=bu (st:=oq) l8 c8 k8
 have b8:=F8.binds (ps:=["self","prime"]) λ_ _ _ _ _ _=>eY (λ_ _=>rfl)
 have F9:=bu (st:=wN) l9 c9 k9
 have b9:=F9.binds (ps:=["powers","logs"]) λ_ _ _ _ _ _=>eY (λ_ _=>rfl)
 have F10:=bu (st:=wO) O7 O8 yL
 have b10:=F10.binds (ps:=["a","b"]) λ_ _ _ _ _ _=>eY (λ_ _=>rfl)
 have F11:=bu (st:=wR) Pa Pb Pc
 have b11:=F11.binds (ps:=["a"]) λ_ _ _ _ _ _=>fC (λ_=>rfl)
 have F12:=bu (st:=wU) Pe Pf Pg
 have b12:=F12.binds (ps:=["bits"]) λ_ _ _ _ _ _=>fC (λ_=>rfl)
 have F13:=bu (st:=wV) Pj Pk Pl
 have b13:=F13.binds (ps:=["a","b"]) λ_ _ _ _ _ _=>eY (λ_ _=>rfl)
 have F14:=bu (st:=ot) Pm Pn Po
 have b14:=F14.binds (ps:=["self","bits"]) λ_ _ _ _ _ _=>eY (λ_ _=>rfl)
 have F15:=bu (st:=wW) Pr Pt Pu
 have b15:=F15.binds (ps:=["_law_told_here"]) λ_ _ _ _ _ _=>fC (λ_=>rfl)
 have F16:=bu (st:=wX) Px Py Pz
 have b16:=F16.binds (ps:=["_law_script","_law_k"]) λ_ _ _ _ _ _=>eY (λ_ _=>rfl)
 have F17:=bu (st:=wY) PC PD PF
 have b17:=F17.binds (ps:=["_law_cell_here","_law_k"]) λ_ _ _ _ _ _=>eY (λ_ _=>rfl)
 have F18:=bu (st:=wZ) PJ PK PL
 have b18:=F18.binds (ps:=["_law_many_here","_law_length","_law_extra","_law_cell_here","_law_sparse"]) λ_ _ _ _ _ _=>ZT (λ_ _ _ _ _=>rfl)
 have F19:=bu (st:=w4) PN PQ PR
 have b19:=F19.binds (ps:=["table"]) λ_ _ _ _ _ _=>fC (λ_=>rfl)
 have F20:=bu (st:=w5) PV PX PY
 have b20:=F20.binds (ps:=["rows","place"]) λ_ _ _ _ _ _=>eY (λ_ _=>rfl)
 have F21:=bu (st:=w9) PZ P0 HE
 have b21:=F21.binds (ps:=["self","a","row"]) λ_ _ _ _ _ _=>gi (λ_ _ _=>rfl)
 have F22:=bu (st:=xb) P1 P2 HF
 have b22:=F22.binds (ps:=["self","a","row"]) λ_ _ _ _ _ _=>gi (λ_ _ _=>rfl)
 have F23:=bu (st:=xf) P4 P5 HG
 have b23:=F23.binds (ps:=["self","row","a","other"]) λ_ _ _ _ _ _=>p8 (λ_ _ _ _=>rfl)
 have F24:=bu (st:=xg) P6 P7 HH
 have b24:=F24.binds (ps:=["self","row","a","other"]) λ_ _ _ _ _ _=>p8 (λ_ _ _ _=>rfl)
 have F25:=bu (st:=xh) P9 Qa Qb
 have b25:=F25.binds (ps:=["field","rows","lead_row","place"]) λ_ _ _ _ _ _=>p8 (λ_ _ _ _=>rfl)
 have F26:=bu (st:=xi) Qc Qe CV
 have b26:=F26.binds (ps:=["self","a","b"]) λ_ _ _ _ _ _=>gi (λ_ _ _=>rfl)
 have F27:=bu (st:=xj) Qg Qh Qi
 have b27:=F27.binds (ps:=["field","table"]) λ_ _ _ _ _ _=>eY (λ_ _=>rfl)
 have F28:=bu (st:=xk) Qk Ql Qm
 have b28:=F28.binds (ps:=["table"]) λ_ _ _ _ _ _=>fC (λ_=>rfl)
 have F29:=bu (st:=xm) Qo Qp Qq
 have b29:=F29.binds (ps:=["rows"]) λ_ _ _ _ _ _=>fC (λ_=>rfl)
 have F30:=bu (st:=xn) Qs Qt Qu
 have b30:=F30.binds (ps:=["rows","width"]) λ_ _ _ _ _ _=>eY (λ_ _=>rfl)
 have F31:=bu (st:=xo) Qv Qw HI
 have b31:=F31.binds (ps:=["self","a","b"]) λ_ _ _ _ _ _=>gi (λ_ _ _=>rfl)
 have F32:=bu (st:=xp) Qx Qy HJ
 have b32:=F32.binds (ps:=["self","a","b"]) λ_ _ _ _ _ _=>gi (λ_ _ _=>rfl)
 have F33:=bu (st:=xq) QB QC QD
 have b33:=F33.binds (ps:=["field","rows","width"]) λ_ _ _ _ _ _=>gi (λ_ _ _=>rfl)
 have F34:=bu (st:=xu) QE QF HK
 have b34:=F34.binds (ps:=["self","field","checks"]) λ_ _ _ _ _ _=>gi (λ_ _ _=>rfl)
 have F35:=bu (st:=xv) QG QH CW
 have b35:=F35.binds (ps:=["self","x"]) λ_ _ _ _ _ _=>eY (λ_ _=>rfl)
 have F36:=bu (st:=xw) QJ QK QL
 have b36:=F36.binds (ps:=["field","table"]) λ_ _ _ _ _ _=>eY (λ_ _=>rfl)
 have F37:=bu (st:=xx) QN QO QP
 have b37:=F37.binds (ps:=["field","table"]) λ_ _ _ _ _ _=>eY (λ_ _=>rfl)
 have F38:=bu (st:=xy) QR QS QT
 have b38:=F38.binds (ps:=["table"]) λ_ _ _ _ _ _=>fC (λ_=>rfl)
 have F39:=bu (st:=xB) QV QW QX
 have b39:=F39.binds (ps:=["column"]) λ_ _ _ _ _ _=>fC (λ_=>rfl)
 have F40:=bu (st:=xC) QY QZ HL
 have b40:=F40.binds (ps:=["self","a","b"]) λ_ _ _ _ _ _=>gi (λ_ _ _=>rfl)
 have F41:=bu (st:=xD) Q0 Q1 HM
 have b41:=F41.binds (ps:=["self","a","b"]) λ_ _ _ _ _ _=>gi (λ_ _ _=>rfl)
 have F42:=bu (st:=xE) Q3 Q4 Q5
 have b42:=F42.binds (ps:=["field","column","others"]) λ_ _ _ _ _ _=>gi (λ_ _ _=>rfl)
 have F43:=bu (st:=xG) Q7 Q8 Q9
 have b43:=F43.binds (ps:=["field","table"]) λ_ _ _ _ _ _=>eY (λ_ _=>rfl)
 have F44:=bu (st:=xH) Ra Rb Rc
 have b44:=F44.binds (ps:=["self","field","table"]) λ_ _ _ _ _ _=>gi (λ_ _ _=>rfl)
 have F45:=bu (st:=xI) Ri Rj Rk
 have b45:=F45.binds (ps:=["_law_told_here","_law_a","_law_b"]) λ_ _ _ _ _ _=>gi (λ_ _ _=>rfl)
 have F46:=bu (st:=xK) Rm Rn Ro
 have b46:=F46.binds (ps:=["_law_told_here"]) λ_ _ _ _ _ _=>fC (λ_=>rfl)
 have F47:=bu (st:=xM) Rq Rt Ru
 have b47:=F47.binds (ps:=["_law_told_here","_law_length","_law_extra","_law_first"]) λ_ _ _ _ _ _=>p8 (λ_ _ _ _=>rfl)
 have F48:=bu (st:=xN) Rw Rx Ry
 have b48:=F48.binds (ps:=["many","length","extra","first"]) λ_ _ _ _ _ _=>p8 (λ_ _ _ _=>rfl)
 have F49:=cE4 (st:=ou) Rz RB RC
 have b49:=cS2 (ps:=["self","field","length","extra","first"]) (fd:=fnOf "__init__" "RootCode.__init__" (aY ou) (aQ ou) (au ou) (.ref O2) dq3 dq4 dq5 dq2 O1 dq6) rfl RA rfl (ZT (λ_ _ _ _ _=>⟨_,rfl,rfl⟩))
 have F50:=bu (st:=xO) RD RE HN
 have b50:=F50.binds (ps:=["self"]) λ_ _ _ _ _ _=>fC (λ_=>rfl)
 have F51:=bu (st:=BM) RF RG HP
 have b51:=F51.binds (ps:=["self"]) λ_ _ _ _ _ _=>fC (λ_=>rfl)
 have F52:=bu (st:=BN) RH RI HQ
 have b52:=F52.binds (ps:=["self"]) λ_ _ _ _ _ _=>fC (λ_=>rfl)
 have F53:=bu (st:=xP) RK RL RM
 have b53:=F53.binds (ps:=["field","length"]) λ_ _ _ _ _ _=>eY (λ_ _=>rfl)
 have F54:=bu (st:=xQ) RN RO RP
 have b54:=F54.binds (ps:=["self","field","length"]) λ_ _ _ _ _ _=>gi (λ_ _ _=>rfl)
 have F55:=bu (st:=xR) RU RV RW
 have b55:=F55.binds (ps:=["_law_told_here","_law_length"]) λ_ _ _ _ _ _=>eY (λ_ _=>rfl)
 have F56:=bu (st:=xS) RY RZ R0
 have b56:=F56.binds (ps:=["_law_script","_law_told_here"]) λ_ _ _ _ _ _=>eY (λ_ _=>rfl)
 have F57:=bu (st:=xT) R3 R4 R5
 have b57:=F57.binds (ps:=["_law_script","_law_at","_law_size","_law_many_here"]) λ_ _ _ _ _ _=>p8 (λ_ _ _ _=>rfl)
 have F58:=bu (st:=xU) R7 R8 R9
 have b58:=F58.binds (ps:=["signs","length"]) λ_ _ _ _ _ _=>eY (λ_ _=>rfl)
 have F59:=bu (st:=xV) Sb Sd Se
 have b59:=F59.binds (ps:=["field","signs"]) λ_ _ _ _ _ _=>eY (λ_ _=>rfl)
 have F60:=bu (st:=xW) Sf Sg HR
 have b60:=F60.binds (ps:=["self","xs","ys"]) λ_ _ _ _ _ _=>gi (λ_ _ _=>rfl)
 have F61:=bu (st:=xX) Sh Si HS
 have b61:=F61.binds (ps:=["self","xs","ys"]) λ_ _ _ _ _ _=>gi (λ_ _ _=>rfl)
 have F62:=bu (st:=xY) Sk Sl Sm
 have b62:=F62.binds (ps:=["field","row","table"]) λ_ _ _ _ _ _=>gi (λ_ _ _=>rfl)
 have F63:=bu (st:=xZ) Sn So y7
 have b63:=F63.binds (ps:=["self","message"]) λ_ _ _ _ _ _=>eY (λ_ _=>rfl)
 have F64:=bu (st:=x6) kA Sq y8
 have b64:=F64.binds (ps:=["self"]) λ_ _ _ _ _ _=>fC (λ_=>rfl)
 have F65:=bu (st:=x8) Sr Ss y9
 have b65:=F65.binds (ps:=["self"]) λ_ _ _ _ _ _=>fC (λ_=>rfl)
 have F66:=bu (st:=x9) Su Sv za
 have b66:=F66.binds (ps:=["self"]) λ_ _ _ _ _ _=>fC (λ_=>rfl)
 have F67:=bu (st:=ya) Sx Sy Sz
 have b67:=F67.binds (ps:=["_law_code_here","_law_message_here"]) λ_ _ _ _ _ _=>eY (λ_ _=>rfl)
 have F68:=bu (st:=yb) SD SE SF
 have b68:=F68.binds (ps:=["_law_told_here","_law_a","_law_b"]) λ_ _ _ _ _ _=>gi (λ_ _ _=>rfl)
 have F69:=bu (st:=yc) SH SI SJ
 have b69:=F69.binds (ps:=["_law_told_here","_law_rows","_law_message_here","_law_length"]) λ_ _ _ _ _ _=>p8 (λ_ _ _ _=>rfl)
 have F70:=bu (st:=yd) SM SN SO
 have b70:=F70.binds (ps:=["_law_told_here","_law_table","_law_word"]) λ_ _ _ _ _ _=>gi (λ_ _ _=>rfl)
 have F71:=bu (st:=yf) SR SS SU
 have b71:=F71.binds (ps:=["_law_x"]) λ_ _ _ _ _ _=>fC (λ_=>rfl)
 have F72:=bu (st:=ow) SV SW SX
 have b72:=F72.binds (ps:=["_law_script"]) λ_ _ _ _ _ _=>fC (λ_=>rfl)
 have T:Txt K mg ⟨f0,_,f1,_,f2,_,f3,_,f4,_,f5,_,f6,_,f7,_,f8,_,f9,_,G0,_,G1,_,mD,_,G2,_,yM,_,G3,_,G4,_,G5,_,G6,_,G7,_,G8,_,yN,_,yO,_,yP,_,pz,_,G9,_,qv,_,Ha,_,Hb,_,Hc,_,He,_,yQ,_,yR,_,Hf,_,CU,_,qw,_,Hg,_,Hh,_,Hi,_,Hj,_,yS,_,yT,_,Hk,_,Hl,_,yU,_,Hm,_,Ho,_,Hq,_,Hr,_,yV,_,yW,_,yX,_,yY,_,Hs,_,yZ,_,Ht,_,Hu,_,Hv,_,Hw,_,Hx,_,y0,_,y6,_,Hy,_,mX,_,mY,_,mZ,_,m3,_,Hz,_,HA,_,HB,_,HC,_,HD,_,fa,_,CS,iV,CT,iW,aC,iH,bt,cF,ku,aF,bw,bh⟩:=⟨F0,mg_of X G a0,b0,F1,mg_of X G a1,b1,F2,mg_of X G a2,b2,F3,mg_of X G a3,b3,F4,mg_of X G a4,b4,F5,b5,F6,b6,F7,mg_of X G a7,b7,F8,b8,F9,mg_of X G a9,b9,F10,mg_of X G O6,b10,F11,mg_of X G O9,b11,F12,mg_of X G Pd,b12,F13,mg_of X G Ph,b13,F14,b14,F15,mg_of X G Pq,b15,F16,mg_of X G Pw,b16,F17,mg_of X G PB,b17,F18,mg_of X G PH,b18,F19,mg_of X G PM,b19,F20,mg_of X G PU,b20,F21,b21,F22,b22,F23,b23,F24,b24,F25,mg_of X G P8,b25,F26,b26,F27,mg_of X G Qf,b27,F28,mg_of X G Qj,b28,F29,mg_of X G Qn,b29,F30,mg_of X G Qr,b30,F31,b31,F32,b32,F33,mg_of X G Qz,b33,F34,b34,F35,b35,F36,mg_of X G QI,b36,F37,mg_of X G QM,b37,F38,mg_of X G QQ,b38,F39,mg_of X G QU,b39,F40,b40,F41,b41,F42,mg_of X G Q2,b42,F43,mg_of X G Q6,b43,F44,b44,F45,mg_of X G Rh,b45,F46,mg_of X G Rl,b46,F47,mg_of X G Rp,b47,F48,mg_of X G Rv,b48,F49,b49,F50,b50,F51,b51,F52,b52,F53,mg_of X G RJ,b53,F54,b54,F55,mg_of X G RQ,b55,F56,mg_of X G RX,b56,F57,mg_of X G R1,b57,F58,mg_of X G R6,b58,F59,mg_of X G Sa,b59,F60,b60,F61,b61,F62,mg_of X G Sj,b62,F63,b63,F64,b64,F65,b65,F66,b66,F67,mg_of X G Sw,b67,F68,mg_of X G SA,b68,F69,mg_of X G SG,b69,F70,mg_of X G SK,b70,F71,mg_of X G SQ,b71,F72,mg_of X G HU,b72,rfl,O5,rfl,Pp,⟨HV,HW,HX,HY⟩,⟨B0,SY,S0,S1⟩,⟨⟨HV,HW,HX,HY⟩,S2,S3,S4,S5⟩,AZ S6 S7 at2 S8,B4,Fz,FA,FC,FD,FE,FF,qg,oy,FG,qh,FH,oA,FI,B5,B6,FJ,⟨B7,S9,HR⟩,⟨B8,Ta,CW⟩,⟨B9,Tc,HG⟩,⟨Ca,Td,HI⟩,⟨Cb,Te,CV⟩,⟨Cc,Tf,HE⟩,⟨tw,Tg,k5⟩,⟨Cd,Th,HL⟩,⟨HZ,Ia,Ib,Ic⟩,⟨yh,Ti,Tj,Tn⟩,⟨⟨HZ,Ia,Ib,Ic⟩,To,Tp,Tq,Tr⟩,AZ Ts Tt Tu Tv,FK,yi,yj,FL,yk,FN,yl,FP,FQ,ym,FR,FT,FU,yn,FV,FW,yo,⟨yp,Tw,za⟩,⟨Ce,Tx,HN⟩,⟨qi,Tz,y9⟩,⟨qj,TB,y8⟩,⟨tD,TC,y7⟩,⟨Ie,Ig,Ih,Ii⟩,⟨Cf,TF,TH,TJ⟩,⟨⟨Ie,Ig,Ih,Ii⟩,TK,TL,TM,TN⟩,AZ TQ TR TU TV,FX,FY,FZ,Ga,Gb,Gd,Ge,tE,oB,Gf,tF,mT,Gg,Gh,Cg,Ci,Gi,⟨Cj,TX,HS⟩,⟨Ck,TY,CW⟩,⟨Cm,TZ,HH⟩,⟨Cn,T1,HJ⟩,⟨Co,T2,CV⟩,⟨Cp,T3,HF⟩,⟨tG,T4,k5⟩,⟨Cq,T5,HM⟩,⟨Ij,Ik,Il,Im⟩,⟨Cr,T6,T7,T8⟩,⟨⟨Ij,Ik,Il,Im⟩,T9,Ua,Ub,Uc⟩,AZ Ud Ue Ug Uh,Gj,Gk,yq,Gm,yr,Gp,yt,Gq,Gr,yu,Gu,Gv,Gw,yv,Gx,Gz,yw,⟨yx,Ui,za⟩,⟨GA,Uj,HP⟩,⟨qk,Uk,y9⟩,⟨ql,Ul,y8⟩,⟨tH,Um,y7⟩,⟨Io,Ip,Iq,Ir⟩,⟨Cu,Uo,Up,Uq⟩,⟨⟨Io,Ip,Iq,Ir⟩,Ur,Us,Ut,Uu⟩,AZ Uv Uw Ux Uy,GB,GC,yy,Cv,yz,Cw,yA,GD,GF,yB,GG,GH,GI,yC,GJ,GK,yD,⟨yE,Uz,za⟩,⟨GL,UA,HQ⟩,⟨qm,UB,y9⟩,⟨qo,UC,y8⟩,⟨tI,UD,y7⟩,⟨UE,UG,UH,HK⟩,⟨UI,UJ,UK,k6⟩,mg_none_of X G UL,mg_none_of X G UM,mg_none_of X G UN,mg_none_of X G UO,mg_none_of X G UP,mg_none_of X G UQ,mg_none_of X G UR,mg_none_of X G US,mg_none_of X G UT,mg_none_of X G UU,mg_none_of X G UW,mg_none_of X G UX,mg_of X G Cy,mg_of X G Cz,mg_of X G yG,mg_of X G qt,mg_of X G yH,mg_of X G CA,mg_of X G CB,mg_of X G CC,cM7 (mg_of X G Cz) UZ,⟨UY,U0,U1,U2,U3,U4,U5,U6⟩⟩
 exact⟨fnOf "law" "law" (aY ow) (aQ ow) (au ow) .none dt0 dt1 dt2 ds9 O3 dt3,λs v=>.of_eq rfl,λbase _ _ hB=>(cQ3 T hB).imp λvs H Q E h=>let z:=cr3 nl h;⟨λP hP=>z.1 P (sub P hP),z.2⟩⟩
theorem aM9{K:Frag}{h:Heap}{c f k P:Addr}{od an:Option Addr}{sl:Array (Option Value)}{oc kV dc pm ct kt:Value}{ko:Option Addr}{ks:Array (Option Value)}{kf:Array Value}(X:K.In h)(a:nsIn K mainGlobals "PrimeField"=some (some (.ref c)))(b:findIn K (.ref c) "__init__"=some (some (.ref f)))
  (l:K.lookup f=some ⟨oc,od,.func (fnOf "__init__" "PrimeField.__init__" (aY oq) (aQ oq) (au oq) .none kV dc pm an (.ref k) ct),sl⟩) (lk:K.lookup k=some ⟨kt,ko,.fields kf,ks⟩) (lp:kf[11]?=some (.ref P)) (n:K.lookup P=none) (e:codeHdIn K k P=true):K.lookup P=none/\∃c,CodeHd h c P:=⟨n,k,PySem.W.codeHd_of_K X e⟩
theorem aR1{K:Frag}{h:Heap}{c f k P:Addr}{od an:Option Addr}{sl:Array (Option Value)}{oc kV dc pm ct kt:Value}{ko:Option Addr}{ks:Array (Option Value)}{kf:Array Value}(X:K.In h)(a:nsIn K mainGlobals "BitField"=some (some (.ref c)))(b:findIn K (.ref c) "__init__"=some (some (.ref f)))
  (l:K.lookup f=some ⟨oc,od,.func (fnOf "__init__" "BitField.__init__" (aY ot) (aQ ot) (au ot) .none kV dc pm an (.ref k) ct),sl⟩) (lk:K.lookup k=some ⟨kt,ko,.fields kf,ks⟩) (lp:kf[11]?=some (.ref P)) (n:K.lookup P=none) (e:codeHdIn K k P=true):K.lookup P=none/\∃c,CodeHd h c P:=⟨n,k,PySem.W.codeHd_of_K X e⟩
theorem walk{l:PySem.W.OpenLaw}{q:Program}{loose:List Str}{XP:(Str->Option Value)->Heap->Prop}{YP:World->Heap->Prop}{d:DefRec}{K:Params->Frag}{ts:List Addr}(hn:l.most=some 63)(zU:d.params.defaults=[])
  (hY:∀(w:World) (h:Heap),YP w h->(K w.params).In h/\∀P∈ts,h.get? P=some (PySem.W.tabObj #[]))
  (hC:∀(w:World) (h:Heap),(K w.params).In h->∀P∈ts,(K w.params).lookup P=none/\∃c,CodeHd h c P)
  (F:∀(w:World) (mg:Str->Option Value) (fa:Addr) (h:Heap),(K w.params).In h->h.Ns mainGlobals mg->mg d.name=some (.ref fa) ->
   ∃fd:FuncData,(∀(s:Shared) (u:Value),BindsTo s fd ⟨[u],[]⟩ [("_law_script",u)])/\∀base:Heap,(K w.params).In base->base.Ns mainGlobals mg->Bm mg base->aN l.prog w (K w.params) mg base aR 12 fa fd ["_law_script"] (Ep ts (K w.params))) :
  PySem.W.WalkO q loose XP YP l.row.toRowW d [] (λf vs=>PySem.call f vs) :=
 L2.ec3 (n:=63) (k:=12) (x:="_law_script") (CX:=λ_=>aR) (sp:=λw=>Ep ts (K w.params)) hn (by decide) zU ⟨rfl,by decide,by decide⟩ hY hC F (λ_ _ a ns hl hO hS=>⟨a,ns,rfl,hO,hS,hl,λ_=>rfl⟩) λ_ _ _ _ _ z=>z
end HK34
set_option genInjectivity false in
set_option genSizeOf false in
structure PySem.W.Fast:Prop where
 (tw7512489735263721472 tw8636046892459729920 tw14783205134108175360 tw5936156229057537056 tw4446137537756570688 tw2231642665271252096 tw3602618162302592192 tw17153618100827961536 tw479572783308187872 tw12346109524544310496 tw17267734704375092448 tw5116415567880910112 tw6262557416322152768 tw10075385343412439392 tw5346957455292935520 tw12053744449570262368 tw15843831734028652896 tw7404670186148965760 tw15629062561298254272 tw641788672222378432 tw2583829099311094208 tw10250290843373888960 tw7251706787390434784 tw15774294620332325440 tw18129715123166760544 tw17230917613445145216 tw1141896031780245152 tw8709825629951271584 tw15142776652732281504 tw14539989381857340096 tw14565974054013234912 tw6055934350616620832 tw15065042352222125888 tw15366488645478913888 tw3942717605584908128 tw1436640694973196128 tw12551800226729883552 tw11655788982091792320 tw7102656914888520640 tw8997611466259303360:True)
 (tw6135804072391576544 tw3750326972442956768 tw2630677221332837344 tw8174963410984732673 tw12478398315541736481 tw14061674232931920929 tw18085347638563977249 tw7372255978170672161 tw16639524675659622433 tw6372561254527916097 tw5592159705804893249 tw5066264415902990465 tw8404695138339154049 tw1379411523391160481 tw10622140305649160353 tw8930941790405287073 tw16625998506321239201 tw16405509336988971169 tw4662591609110721 tw14775310094294749473 tw14629319679013950753 tw5439637459178112289 tw11319504708777081121 tw16101074465720408385 tw7010084586732952897 tw16996403816106814785 tw3050087084266556769 tw11716514186320355713 tw6832204120150843777 tw8563639798843164033 tw11924410213545597313 tw151013147809451425 tw17950329915639993793 tw6061867065879121345 tw13067186001885060545 tw2802655431049766369 tw13097920077844452865 tw417874082275044865 tw10970117416954180129 tw7949970778198445665:True)
 (tw1113752846015601249 tw15450521450207659617 tw6961918658481551969 tw9877990969542468225 tw4475659338004370081 tw9989016895203834529 tw13214013418130358977 tw7520299452722504385 tw16567687161045117665 tw16694698880336657121 tw11107847074200514305 tw11288814123604967169 tw8005714049027493665 tw113435226013586209 tw9968748776295796545 tw1757290976282421057 tw14035556027614347073 tw4497342553783534433 tw1172314141567556481 tw12840873499239046017 tw13693894744122089345 tw17792631093265150881 tw16511884712999638945 tw8533576941940919233 tw13723988704668085250 tw1213683424954777634 tw5204963575096119330 tw16741651163595949090 tw4010691218900437058 tw4883306837334754402 tw9927303103977285762 tw3145718618194412706 tw2915882900169997474 tw6629584410727215298 tw499494939053539554 tw7631826073138517218 tw15195298128242761986 tw10482493840220762434 tw8052004177438783810 tw3716957311907785026:True)
 (tw13728812424001474914 tw4573197758502888834 tw2286579457772335554 tw3229976433428485570 tw7096452307684731362 tw10044783530496789026 tw16821876489338379810 tw16099377355203130946 tw2146435053211343522 tw10915460320621104834 tw8474598708790955746 tw16951670597232773858 tw17501492610718805794 tw10291229696640746306 tw16246913523446645570 tw11738828745150794562 tw5126623494197861218 tw12571598449978402658 tw7315248649188233154 tw2632974583647200226 tw13153242076826031107 tw10699464490279419971 tw13549716565090213987 tw10151789336928462947 tw16588296988097529955 tw15896085409739249827 tw10483766834478488739 tw3398219202563449059 tw18408762457800527107 tw10026464317317772547 tw2195642906644773123 tw5629546469412422947 tw4866174116807967043 tw2821829076859091299 tw10154965140592487907 tw1276064264967857667 tw10304829208725853731 tw13375206693655367235 tw15889514076305284675 tw1285300079402972739:True)
 (tw10669068968080567907 tw11858324073365587587 tw13614829885995310723 tw1471669456766038659 tw12365616177707642563 tw14072802023404134115 tw17766763107152783107 tw10023472172850819875 tw12530380558034964355 tw16909157555364387715 tw15438613335846053763 tw9815502923470538659 tw4393480374083065763 tw9951278767929709475 tw1386408916250055587 tw8778708380563283907 tw11638503886332187619 tw989022011451462660 tw11292351884376107012 tw15909430638569621540 tw2385446250403159076 tw16110965080908530756 tw15558747269644587076 tw3119756963454557316 tw14486838189741227140 tw11111420278837904612 tw11994361155753137412 tw13859437764632337668 tw14640422484638820612 tw12362784439202405732 tw5681691301864624548 tw8623474787801789860 tw17988607883152045540 tw753235126744989156 tw7944128519629439492 tw8568123347877109252 tw3441371398324612644 tw5619586599789325892 tw16760041227405939332 tw17779987863365016196:True)
 (tw2135170903174360772 tw5870032649685826308 tw131108278276497188 tw4650535053498342180 tw364095791416471332 tw7170507906869472100 tw10764677140407032708 tw4119394422417006468 tw6784351656009846692 tw15601129614443818980 tw21397453979584517 tw7610909973732827173 tw13817170114063761477 tw17666661638687249477 tw13700445022818243685 tw5883422540352850085 tw14845178611540466853 tw8241227528398121125 tw15227710139977887909 tw8290609451280294117 tw1718141675712516389 tw7461258072744015141 tw11099973501082137893 tw18321670465006445893 tw9399681430620182917 tw14941496118108490149 tw13333575822257798565 tw11636985011894709669 tw5426241237306440133 tw10125929976249985573 tw16078504904728589893 tw5727135545516128837 tw9817192102265364069 tw9906226390665029221 tw7913670187622545029 tw3341443985239131845 tw2289000815717371589 tw8920374918988161765 tw6367913854294873029 tw3108642137807968229:True)
 (tw8499658065984696390 tw10083604454003365958 tw2502913533844972646 tw11165200221408489574 tw16503322811805274246 tw4067134984037747846 tw10426404136901500038 tw11516073529153053830 tw9196253688988592294 tw16962160326594245830 tw14200726065381724358 tw3608809346889717030 tw8990862618464821574 tw4224128401128969606 tw6967228479140719014 tw11388691652501338534 tw8086354181604009414 tw9346037798544732614 tw7197095683186590214 tw10470501477228908038 tw4596536004913242630 tw4323110811064441382 tw7048338880667308582 tw12547267285032852006 tw1444773110352772646 tw8146667926586137158 tw17075078464921236038 tw3676347847732729446 tw5577388013862280806 tw13680537588774593158 tw6824945461068627590 tw18233905738953015974 tw7626919530275760870 tw17765222285591830278 tw7484762365263274758 tw2243065815994412838 tw16412728820621067046 tw4144143319515712294 tw6233344863365132070 tw2417130677176344422:True)
 (tw17576616863702860646 tw12926519210341728166 tw14951529421611831270 tw17611552719332423654 tw13394673411529489382 tw11292946755975801830 tw3614895934892218375 tw13473444413584702503 tw8364630142340139079 tw9981376500142912615 tw9594431617807668327 tw3034067814638968999 tw1875325295634830503 tw11656653506348951751 tw6089545934294957287 tw17304070060350669063 tw15673550533588720903 tw12053456075008888071 tw5515873174579422503 tw17293455052043328935 tw17252590321817363879 tw6259242770902237607 tw11792437881864885703 tw1064292967112123847 tw11208496737070937543 tw3206176034362201575 tw536966224733261351 tw6665048187050088039 tw8992134902640633447 tw5221501721750122119 tw8958678189948554887 tw9861983363471397511 tw15429123775279147687 tw6854840958426234535 tw9995418769317871271 tw17484379368462504647 tw12079305203351831271 tw13002822198970377959 tw10373815720047694599 tw15849769460178073447:True)
 (tw4637023634041289607 tw14231472689250400135 tw5994771213120543687 tw11994213871640348647 tw11912891330471500775 tw13572287295823569895 tw13398778658733458440 tw7753275504313549832 tw2577233899480082472 tw14495868587383026760 tw313799536200705128 tw16535656935048310952 tw6781936870519390408 tw9352139897883116744 tw5563171383435168040 tw9528990414396985640 tw5185393284837781800 tw6370118074628559144 tw16496933935261303144 tw3880500839092385128 tw6784196207345581448 tw13658813839142839688 tw7960618000885889480 tw3534371694026518984 tw17457189166216691176 tw5071665715174268392 tw8763493925705479656 tw15916628432410689032 tw5134823871967588872 tw11023681954559364648 tw723020881663710760 tw18159856548139988552 tw15111040307664284264 tw998020167686836904 tw12447928655592776360 tw3876485004932128456 tw12539509675984217800 tw3721492991066752744 tw10767291195419381480 tw12818207685775587048:True)
 (tw17665799142914491144 tw8300727665911222024 tw6239238837578013480 tw7131945101102934856 tw16885960370043582312 tw13564580688976807848 tw7190894780111601576 tw5088351478830619592 tw13914454989962483688 tw14096849587948411880 tw5115626687128231977 tw16093480786424839241 tw3488976577396865097 tw12532988404694796393 tw9615500326556181641 tw435650276551840905 tw14294671528628035753 tw15065132373626945737 tw8311999781867655369 tw1159031114382604489 tw608523929177201897 tw1879794264627696873 tw2858943683608671465 tw8825320107265538313 tw303013055876178217 tw13689638689925519657 tw15671545094419657065 tw61362067116906857 tw2927867042384301513 tw1495098658196207081 tw11850829287316567529 tw11552972393091564073 tw15008969390409757225 tw6715179065675618889 tw1453616048511341129 tw4625203979063341673 tw13076563973279752841 tw4353635424099962537 tw11723189392531771049 tw10232972241947299529:True)
 (tw17497700225037468425 tw7147983057884617481 tw4199082888374698761 tw7021124785746130729 tw17238684157675673513 tw6647934785917622185 tw1131803208346345482 tw6740913524908243978 tw566140859034005546 tw9190805364229506122 tw17505812172935336010 tw16523375533125477450 tw2510710003791964266 tw6896523863389326442 tw2809203377046703210 tw18225195385541658762 tw3784349220049478858 tw921376068106523882 tw1146544151506918666 tw9829890040996527370 tw15814120837513339178 tw18088673468881901866 tw14988852022328447274 tw9275008124584766794 tw11246102697873265066 tw6285395081040556490 tw16081308993443673610 tw4293695265764589066 tw2876037849630467658 tw3295727177107852906 tw7011141966669730410 tw15554589066667030122 tw9131622478792677002 tw12193789148337284778 tw16840081499873359594 tw692328964927113962 tw2722147169063499498 tw1504751027512463114 tw9580132496874029866 tw14570754340226627402:True)
 (tw9961832894401589098 tw8738184927636892522 tw13251316524063905642 tw13389419602344510346 tw3970913904624239594 tw3691695514668784618 tw13964338330282599435 tw6110282266205156363 tw9682472177899113547 tw5554484822683628619 tw4500886359043701835 tw16787563027579707499 tw17810624447667651691 tw17960852749148934251 tw1778673160387698827 tw17167704793702090891 tw16170742551228132587 tw18015834068579307755 tw5670653486403137803 tw3357025357703657739 tw15946323828212046123 tw648872218462332235 tw4786143650710024523 tw13181779300595572075 tw9338665421791564203 tw12006436273487275435 tw12121170775706882475 tw16231172060800715243 tw14148819690285064683 tw6656677889202224651 tw8546272194957149739 tw14166997044665855531 tw16947779654926747179 tw10292582003595762219 tw7436962875365092907 tw17985910645016956491 tw16422595750835891819 tw17152704105873601131 tw15302876931729164971 tw10402607785254525643:True)
 (tw12761098962469254859 tw4492712561649221387 tw6670423407555020587 tw12068938717596212011 tw4704438860190394219 tw12094415911002335083 tw14812319963118444427 tw1080803337658442731 tw15094182009448130539 tw6869052799584469004 tw8176406151049488396 tw3001316923529088012 tw15611618768000855084 tw11209954402458518572 tw5990435153484795948 tw3887660071210898508 tw16233456696617530476 tw13389516156708098188 tw15902390599512542348 tw1490001089777922188 tw4460769553862531276 tw8021765294497445068 tw12480545273557959884 tw17614093369527206156 tw10055567153328005420 tw4369305163982566700 tw6112717013177089356 tw17551964353558466892 tw17747850067152133484 tw16146580498135909804 tw9047035583091348908 tw15244477514497759660 tw16339958814649529772 tw8659231744129324492 tw7885676366203549132 tw2990398218709468652 tw6233903092746061292 tw15442818433751195116 tw10350861654740484588 tw12920082086012616172:True)
 (tw8797260658479663628 tw13788081425961979436 tw5959493005769470508 tw3873990438963155532 tw14804854230391750252 tw15581614860917976716 tw4380741719447126668 tw16784261308776694412 tw17078464595176899340 tw13197670637871682316 tw8875835948470489868 tw1912986029520580364 tw10515129209943061260 tw4278123740284790572 tw5495972758409653068 tw5240632383420401516 tw6421954601829199724 tw2663536083211027372 tw10635041126809845676 tw14342624009778182092 tw3716524917789591532 tw3128010121125418988 tw10973524422425940013 tw2076905683361262637 tw5177524680889838669 tw15188222016176148557 tw17269872903640256621 tw9080180303182827693 tw996351882118920397 tw12756138989511084333 tw9490472302566909229 tw7006494849152366893 tw387834425647291757 tw11467253283383927149 tw2722966967604529549 tw1163994454142839181 tw13057922520442091949 tw12402697115791672749 tw1027485727512153517 tw12817393879946907053:True)
 (tw1836815003892467149 tw7891860367728740877 tw9251720579367636493 tw3057553887672013325 tw13840287011928323597 tw4528089391293086221 tw17248988691061795341 tw6881274269092283981 tw18065112586824041037 tw14998357886565715597 tw1521597247842849421 tw13272891565594758797 tw13829578500900531885 tw9642462075341057709 tw14091506429444928205 tw14252374441370122957 tw16217683442864955149 tw7162684666638380813 tw3775656129865287469 tw16605726576528665389 tw994656323389723501 tw3127867928106334061 tw17256104634801485677 tw11873429291998378861 tw2876666823786302349 tw300879182936840077 tw2598881234440009613 tw2519267590276365197 tw5976368775163366285 tw5413646896105771917 tw18406112108641802189 tw7017838690555316205 tw15063631375833297901 tw17193067738359767086 tw8246428911408696366 tw11413328284772745294 tw1588574390338528366 tw15623867014845476974 tw1431726757962703982 tw206520602355138766:True)
 (tw15101119270771366094 tw6846330865456424142 tw15268152223541020878 tw17021494914702435534 tw3423316423328737550 tw7122732763315498254 tw16078026370769018158 tw9577161979452571054 tw2383432377277881838 tw4383681395125166574 tw6488225208774306286 tw3150329272068929006 tw5086025752083009038 tw12610492849689325102 tw5867446400179729006 tw12391467704330583662 tw12426341209378003630 tw5245746788360696526 tw11775726260046804686 tw6754888491515885262 tw4570408272767467214 tw12960558926136985326 tw2169782029074024174 tw11399249962615113486 tw2877570566424180494 tw445842354744315662 tw14730839941740666670 tw1645970592247491406 tw4898240792996464462 tw18310225049063881550 tw10273272926765793134 tw13659366265461818222 tw2593781504209770350 tw15072932456620323694 tw5877964851937525710 tw17988119389496076238 tw10571784935829981166 tw544659172855930862 tw6720786507945006127 tw15252416326564965423:True)
 (tw13489308783430496303 tw3844780211857060911 tw10437042504573323343 tw6288578358405675087 tw749611755647967343 tw5498360042970597487 tw17651392330405152911 tw13768623408060855439 tw17698567714295157935 tw10893675551567257775 tw13108763303971747023 tw17086726445162431759 tw750044044084177199 tw2924980232983292239 tw7437639504017982831 tw4215282615012980079 tw10370982098420580815 tw4303321649122932239 tw16155873089493960239 tw2068727600866921007 tw3394767123023536719 tw3886779286181542479 tw975101164304595535 tw14342629269822617199 tw16488908735613102703 tw7255245127714796143 tw10768186140316135087 tw11600994490533413583 tw1603204325184138959 tw1682563436819598095 tw1820976061888883471 tw11281570184188985103 tw2467164037436562223 tw16961558767526409007 tw7396870463548306319 tw1619424286456101839 tw7590038818497382383 tw3927705925534453776 tw2615236034430118928 tw4882748846560369680:True)
 (tw4369382313947739184 tw4292984195455960112 tw16913799143948437552 tw11304476636753350736 tw4304466498592599152 tw4770625295901502608 tw11655505318261058736 tw5257304118592340176 tw12532460500608480496 tw34304857661865232 tw16342190407601204528 tw11871649460379473264 tw16380227477679503792 tw9352035082791909808 tw17999940622837811664 tw17378913294491472336 tw1005473964530770416 tw3047118560095918576 tw6054042145270977040 tw11617469887723167248 tw4532457190338195984 tw16282764129928167984 tw6609929948724231824 tw14921070014622416528 tw6281340434451880624 tw17846207478437946032 tw16588136512737747664 tw7231913363222247120 tw17455159518419484400 tw964304613135618832 tw305653611029821232 tw15038337296637153104 tw16869102231891350416 tw1508438074623545232 tw3694455027199665040 tw15577626843280462768 tw14596737263858320336 tw3300852999314737104 tw1251985123274948560 tw6471370827713834001:True)
 (tw9491189471824370705 tw17713897802681779313 tw9716357419073471601 tw12171184624801712241 tw16230149261284004017 tw7523885098833850577 tw7480304414835488977 tw18059145411017529617 tw15196648639047363857 tw18415149909575932241 tw3994344797771714897 tw14146005823592137073 tw250760271173064049 tw4687705910575850865 tw4301177047781393809 tw7254061842636138897 tw16945153235943551377 tw14881617701247321553 tw13239479845848304145 tw7490567616109959697 tw15353901204234113585 tw11643279778194149937 tw710046790301189713 tw1977770533798251121 tw10656427125358290545 tw87421440631368401 tw6319739316013931249 tw3133011656867879665 tw2579033123877711601 tw1892532339165606673 tw6575924643540457233 tw14242013320526423825 tw2706682556454521681 tw10211106265510537041 tw8374268445349875633 tw1047867340805576625 tw4776630725306427313 tw11607206423144622001 tw5868503925863080913 tw4408233417630142514:True)
 (tw4783592958759174226 tw18374659356971093074 tw16391808593557249106 tw11138776336495244402 tw5282555296247082130 tw17054280919853418674 tw10728963650864278738 tw10073762256785738994 tw9533401373109329138 tw12912760552998326514 tw15524882618568505586 tw9825260155454640498 tw2656481787529648498 tw9173579492151278994 tw16134133330285071794 tw9501077020524223954 tw1200371180630233554 tw14501474168831654386 tw14051040682807343602 tw7998968424357875186 tw3517945190814114290 tw16117452171960707570 tw2108470615554083378 tw7037326757890614834 tw5484794095250013746 tw4718556354413329970 tw14112619449110229586 tw14911036697316304594 tw3026296548206762706 tw6629091117239311090 tw2707157930377722610 tw613513510984004370 tw13930373455209261874 tw6113794012994308946 tw16931075728590038866 tw4066492906728633234 tw6171514781852037010 tw14056238830286480306 tw13329169368709212114 tw16340371160781436882:True)
 (tw10959723754186366930 tw16864543668874213362 tw9054764273563115539 tw2214499625526894611 tw3527910917297159187 tw6267395950858589203 tw12888497354194916403 tw16087103187671194675 tw17110697597121371219 tw4518363104954998867 tw15826573624410218611 tw6808482924914680947 tw111912158016172179 tw16434896271972541587 tw3463184880898459827 tw8541193228519560371 tw6428662668572660947 tw3512005977416745235 tw21000656822235411 tw1325028411256177011 tw14658453358239077747 tw734992829494335891 tw5900091076019452307 tw14040901747929056691 tw10421827778804634035 tw13913990294965437939 tw6284999796800676371 tw14775139463001681459 tw5723713389027385907 tw17132485546607705651 tw10609460917484015187 tw16176377285490097811 tw2122312951106568883 tw8180848915479401171 tw11717046664226492147 tw16419868094519996179 tw15160215464612745011 tw6210388303239657299 tw6898807773781517203 tw14259453520935880627:True)
 (tw9975778946800024531 tw12687623532392722419 tw4676795827597512724 tw12331640226926324756 tw2304956698963579924 tw9185589185213838388 tw14750514984351134804 tw10994560934703676532 tw1077783973944730772 tw12829188928016966868 tw18412083003334117620 tw849130233056552212 tw5022746437527737652 tw8142016168949573940 tw16776876566043233620 tw17969055116730347956 tw7381164466007043508 tw11604612366730137044 tw7273434550396613076 tw11762085068020183508 tw5384659694086399476 tw4358738455842589204 tw3979821647331321364 tw15605599818612213428 tw9720693708247438004 tw15000738341834300084 tw13383180665007563444 tw17175847627434232532 tw8835467433483587316 tw6488934068324334324 tw15991653239673835284 tw2268539839485762324 tw6973656248642295636 tw11730097511400092564 tw16884077105931690964 tw661382837899600884 tw5545113170593070133 tw17546135867515256885 tw16968820379713769557 tw3422581705915274325:True)
 (tw5844390941398676565 tw12178580853852748885 tw11239756794154701909 tw11364311289355171925 tw12686861267237821557 tw15761674620504087733 tw8320852962945342645 tw2225582389977823413 tw4423854292191131925 tw13318442992232099157 tw359421960908177781 tw13326012405851622773 tw10402447211711236501 tw2238082659438853557 tw9511292068246882773 tw16671886679082741205 tw15199135618355022293 tw16745630509115955669 tw9163313335753119221 tw6233725406061947413 tw18398664383591122581 tw4022863054764575381 tw17929581678178711189 tw2217037349037752981 tw8747030308657350357 tw15650997186496023285 tw13881303955580836597 tw15954736787327153909 tw8124198743752187669 tw13572209441048276757 tw14641767007333119765 tw2152675996087503669 tw8050180042837390165 tw15115770035989645173 tw14181465828064516981 tw12835256592958858133 tw10845140619046818741 tw10167947616056580021 tw17104022940700597237 tw3302236682230771734:True)
 (tw1188632108727517302 tw4761834561204932726 tw12158990213700026582 tw16586235482566056150 tw18018936126778334422 tw17126433785303106902 tw3705418807742313814 tw435596916982995286 tw374044041179021686 tw8647938445506441622 tw14245109165018060278 tw9038553920898945526 tw4848349803649490550 tw16630214384570729110 tw9174092537977556630 tw16211763183723492022 tw16074803519973586646 tw12920086155504149206 tw2425168439534612182 tw7131223584916593398 tw16927487412163904406 tw14347745419296083862 tw12647948118419423126 tw1329373840391708598 tw2266047516078811062 tw9733505638286366678 tw11898022257774195670 tw12569695298015761398 tw4064772488754903030 tw14873584138226126838 tw4687888501766721559 tw11798182297619300439 tw7642431725984573527 tw6590206711275649111 tw17719413896216581239 tw5010635867717278839 tw11480191607469522039 tw2596483561514976375 tw2420253480249747575 tw640167755718561943:True)
 (tw15805957970546268343 tw17263492918098061495 tw17093553497997876439 tw8377696605817197783 tw11696314612149259543 tw13213806571212564759 tw11974488434672337239 tw11076046319952316759 tw17446141673062135127 tw17801874397489868151 tw7424946228304522615 tw11219506733441500567 tw14700960603569235383 tw7726788769624197623 tw4003297313777095159 tw880790525222460919 tw3048014232726909431 tw5781695646932593143 tw9967846577463687671 tw16095508443267732023 tw18303282361474927159 tw9902957460768214583 tw4148180245746863671 tw10055945632101723735 tw2302878512620904055 tw380350554311486071 tw3670921831756757623 tw6330039569180038807 tw5559427763443249815 tw881475013731767991 tw11928956897554699991 tw4774802073512921847 tw4263170938889895703 tw3594245230264485687 tw9733707991297919799 tw11996600733222153015 tw15726874086158205847 tw2664215985057176471 tw15074587306105084823 tw2783610555619531671:True)
 (tw1562717730243726327 tw7880136747882450968 tw16282509373561804824 tw1284326879607109688 tw15955003387888778296 tw18086537541098429528 tw10884925031628917880 tw16782078566527040632 tw9332672916942725272 tw16773713163063319704 tw5635008510163610808 tw15806502417800329400 tw4300245216807247128 tw15387527181588294936 tw17817055002079075640 tw5999299651199157592 tw9408807051321172344 tw3600428859314763160 tw2477793712702153144 tw14547239149730960888 tw10386692515932618264 tw12237046893288702488 tw16409399092520108568 tw8488638527068660248 tw13789061979408360984 tw7412515306162743832 tw7294191136365891128 tw8081758627541571224 tw366085731468522168 tw11735436261489107640 tw17067612031642617560 tw11440897198018854648 tw16406176531491919640 tw11002866282048807736 tw4651942596849109848 tw16429158317775528792 tw12474240037427146584 tw11889669392615939960 tw2901916386167340920 tw12977887473693527992:True)
 (tw14589495230644697016 tw7839218283532841912 tw6105804199947421656 tw10910159444799083480 tw2138221085353203704 tw16501659677540396057 tw13240791938357262361 tw16904899573308035129 tw8730585882007640153 tw11182106610667577465 tw6827785592084792505 tw10588333968835253497 tw4862610768398000441 tw4790999909130582329 tw17430674661080676697 tw15896542806941624665 tw15203038355535457625 tw11705297666064990617 tw1460427055778802105 tw15420824759147992537 tw12346259042256511449 tw10216832601789531641 tw7608813191693610489 tw8852628364020396537 tw2379573575619003929 tw14101409425908074073 tw12802417172633263737 tw18182547372033847929 tw13603983949566354073 tw11879484767898726073 tw11594136602113475289 tw13998904167838652121 tw2792689214324825849 tw18408706469306364665 tw11484773597886031641 tw2458680861708483353 tw14127700835179989817 tw2716091216097122105 tw5800523894850412345 tw6087208482945057625:True)
 (tw3542811079611099001 tw10195645282423030681 tw2337281306857496473 tw14619914709968760761 tw7016985093685960633 tw261823750806523865 tw7150647884910621689 tw7361901014991138906 tw8907037472126894266 tw14796391510161165498 tw13125829268869964090 tw11234912841365483898 tw9349277070400114074 tw11292111835756139930 tw7029988191969000890 tw3452497253303213498 tw4680599912075355578 tw1342903159114556858 tw3309654899477481946 tw10561283709121707482 tw10916811295073268186 tw5611280339054832154 tw12110217846622737978 tw5311389902491065978 tw1391479619058462330 tw2989069078952807098 tw8170967786520672954 tw14226118385163372250 tw8847658054598630138 tw4174865101493226234 tw7134553417903452954 tw14757295274329933626 tw9861970460292259738 tw4341289141245893530 tw6169496473259526074 tw6965904074611382202 tw12027806534441596858 tw17409093277903757339 tw12949577413174590491 tw16196011923342032955:True)
 (tw11262352191254040635 tw16796695305715132507 tw10416330786630079643 tw11507554042038234331 tw7199618287293356283 tw14779829354759088411 tw5781431677067917595 tw17655824447963831643 tw14459372268515044795 tw5969181348220605915 tw288468351066714587 tw1416158661262817755 tw11580703963660534235 tw14181832006098380283 tw5055773089569698363 tw15984024620007187035 tw8639440033059437211 tw11283619153466385115 tw9742924892795410171 tw8825333676808970011 tw1891590794045571931 tw6265722345689088891 tw6485751708021808059 tw10231934823236817883 tw7262939351022159867 tw17593622842983440379 tw11990406192189775900 tw3176406239367284764 tw3096662056786199612 tw15307549611671367740 tw1977719774003658844 tw1087674774912633948 tw13265090703298933852 tw5643803748043733084 tw15776378793447254108 tw9695505693969880252 tw12708183738978414780 tw17994330005929046204 tw14891478013872857276 tw2071037322411766972:True)
 (tw16288388912791190716 tw14800403935197742300 tw3524314673125489884 tw17641495177403669756 tw16094319301237969180 tw4225264134521093404 tw2110123717108114748 tw572922156333738300 tw5533622332180910428 tw3101075788110697852 tw9853150091927331260 tw9943573418749195708 tw12288497119275634140 tw15460745575221059100 tw12627053412033287740 tw2801565791852234332 tw14384147314580386396 tw10621286707546545852 tw8048789433940939484 tw4401427531515867900 tw1149575544334406396 tw712857525722846044 tw12124821535771337564 tw17183952576225240924 tw14360188537495618428 tw16565821156343935900 tw6840223111785247644 tw14057707895568365468 tw1501487935748700060 tw13429133151348857788 tw12948151761643567068 tw17454471644018967548 tw8506541085611827196 tw16450356535998966813 tw575213508399139965 tw10600352092835976317 tw10644878431789851805 tw14920822707181849853 tw10890597208501874941 tw8578146050878911901:True)
 (tw13829873070663479773 tw12707567357936930301 tw6601191178011737629 tw7077453557547556413 tw13981746238957467229 tw8020233958954273405 tw13489636439929883261 tw11706416344903923325 tw16418065256795900605 tw12471091960613351101 tw7247845230732811005 tw6736349158938205981 tw11496814386264305437 tw15468725028419010429 tw2099853935938865085 tw16170562720622418877 tw13324325612091682846 tw12898694932095010878 tw8995320305866838174 tw5724192777869703326 tw12718198013897461950 tw551001442838323454 tw9638426060353355006 tw8374239486210055454 tw16951609710350658878 tw16365171591705227582 tw16603333022027416926 tw1940699931612520798 tw1282326338391484766 tw13927551246014048606 tw13477995546370758014 tw9281574476211621278 tw17807980798722621854 tw13183794039308460510 tw16744662174416039422 tw6971654536273699390 tw722653082982033982 tw12426596977744974430 tw5043326142220034654 tw14052459531221435006:True)
 (tw9113613145351919230 tw12557943715203443326 tw14504620841521784478 tw2541834298407210654 tw4252942750930795230 tw4414130617121889022 tw5433486918592379710 tw12897791813369598814 tw12066066141805517662 tw6500505319920117598 tw17919954706403533694 tw14436474565168211838 tw4107364889935993726 tw9318285696508786558 tw8453503198832889758 tw3822889262467888030 tw6301906887470764958 tw1426517142168860574 tw12864130196423137214 tw5128445958988095422 tw17534680336551744478 tw17080003571040452639 tw8036784522130239519 tw18434221817046238271 tw10759781494599367743 tw7451095874746724447 tw8040551073733529695 tw11854092844421526719 tw7870502908141288703 tw2913667612802084095 tw1240970371991505183 tw16101103501177137471 tw9920719085490228543 tw9657953860331809151 tw5950347501609595263 tw9189490824760370591 tw8367022858993467839 tw11743690925949142463 tw6776506919046741439 tw11647333609094715871:True)
 (tw192853050243371487 tw15995733957486744095 tw11598075794075915807 tw18217086642922167871 tw8306707453320174175 tw18402318209782680191 tw6117434585692972703 tw7145649969462533791 tw11904754444782551743 tw9317156495212522207 tw17016095560335009535 tw12044852296646387455 tw12368828436318976767 tw4279134489867659039 tw3182516361156662079 tw1109332948049780543 tw4935026987844725599 tw6865074751003333503 tw16440501171782957951 tw6003397909938170751 tw1382149123437866943 tw8245015037909457855 tw13891257930805572543 tw10756122043906340537:True)
open PySem PySem.W PyProof.Rows
end
set_option maxRecDepth 100000 in
set_option maxHeartbeats 0 in
theorem PySem.Challenge.cw_mendfield_k34_message_written_holds : PySem.Challenge.rw_mendfield_k34_message_written.Holds := by
 w_on;o_law;k_head;(case hw=>w_witness2)
 k_fill
 refine HK34.walk (l:=PySem.Challenge.rw_mendfield_k34_message_written) rfl rfl (λw h Y=>⟨PySem.W.km_in_of Y,PySem.W.km_tabs_of Y⟩) ?C ?F
 case C =>
  intro w h hX
  repeat' (first | exact List.forall_mem_nil _ | refine List.forall_mem_cons.mpr ⟨?_,?_⟩)
  all_goals first | (refine' HK34.aM9 hX ?a ?b ?l ?lk ?lp ?n ?e;(case a=>k_is);(case b=>k_is);(case l=>k_is);(case lk=>k_is);(case lp=>first | rfl | with_unfolding_all rfl);(case n=>kernel_rfl);(case e=>kernel_rfl)) | (refine' HK34.aR1 hX ?a ?b ?l ?lk ?lp ?n ?e;(case a=>k_is);(case b=>k_is);(case l=>k_is);(case lk=>k_is);(case lp=>first | rfl | with_unfolding_all rfl);(case n=>kernel_rfl);(case e=>kernel_rfl))
 case F =>
  intro w mg fa h KX G zV
  refine' HK34.all_mk KX G zV ?Cy ?Cz ?yG ?qt ?yH ?CA ?CB ?CC ?a0 ?l0 ?c0 ?k0 ?a1 ?l1 ?c1 ?k1 ?a2 ?l2 ?c2 ?k2 ?a3 ?l3 ?c3 ?k3 ?a4 ?l4 ?c4 ?k4 ?a5 ?l5 ?c5 ?k5 ?a6 ?l6 ?c6 ?k6 ?a7 ?l7 ?c7 ?k7 ?a8 ?l8 ?c8 ?k8 ?ax9 ?ay0 ?O5 ?a9 ?l9 ?c9 ?k9 ?O6 ?O7 ?O8 ?yL ?O9 ?Pa ?Pb ?Pc ?Pd ?Pe ?Pf ?Pg ?Ph ?Pj ?Pk ?Pl ?a14 ?Pm ?Pn ?Po ?aD0 ?aD1 ?Pp ?Pq ?Pr ?Pt ?Pu ?Pw ?Px ?Py ?Pz ?PB ?PC ?PD ?PF ?PH ?PJ ?PK ?PL ?PM ?PN ?PQ ?PR ?PU ?PV ?PX ?PY ?a21 ?PZ ?P0 ?HE ?a22 ?P1 ?P2 ?HF ?a23 ?P4 ?P5 ?HG ?a24 ?P6 ?P7 ?HH ?P8 ?P9 ?Qa ?Qb ?a26 ?Qc ?Qe ?CV ?Qf ?Qg ?Qh ?Qi ?Qj ?Qk ?Ql ?Qm ?Qn ?Qo ?Qp ?Qq ?Qr ?Qs ?Qt ?Qu ?a31 ?Qv ?Qw ?HI ?a32 ?Qx ?Qy ?HJ ?Qz ?QB ?QC ?QD ?a34 ?QE ?QF ?HK ?a35 ?QG ?QH ?CW ?QI ?QJ ?QK ?QL ?QM ?QN ?QO ?QP ?QQ ?QR ?QS ?QT ?QU ?QV ?QW ?QX ?a40 ?QY ?QZ ?HL ?a41 ?Q0 ?Q1 ?HM ?Q2 ?Q3 ?Q4 ?Q5 ?Q6 ?Q7 ?Q8 ?Q9 ?a44 ?Ra ?Rb ?Rc ?Rh ?Ri ?Rj ?Rk ?Rl ?Rm ?Rn ?Ro ?Rp ?Rq ?Rt ?Ru ?Rv ?Rw ?Rx ?Ry ?a49 ?Rz ?RA ?RB ?RC ?a50 ?RD ?RE ?HN ?a51 ?RF ?RG ?HP ?a52 ?RH ?RI ?HQ ?RJ ?RK ?RL ?RM ?a54 ?RN ?RO ?RP ?RQ ?RU ?RV ?RW ?RX ?RY ?RZ ?R0 ?R1 ?R3 ?R4 ?R5 ?R6 ?R7 ?R8 ?R9 ?Sa ?Sb ?Sd ?Se ?a60 ?Sf ?Sg ?HR ?a61 ?Sh ?Si ?HS ?Sj ?Sk ?Sl ?Sm ?a63 ?Sn ?So ?y7 ?a64 ?kA ?Sq ?y8 ?a65 ?Sr ?Ss ?y9 ?a66 ?Su ?Sv ?za ?Sw ?Sx ?Sy ?Sz ?SA ?SD ?SE ?SF ?SG ?SH ?SI ?SJ ?SK ?SM ?SN ?SO ?SQ ?SR ?SS ?SU ?HU ?SV ?SW ?SX ?HV ?HW ?HX ?HY ?B0 ?SY ?S0 ?S1 ?S2 ?S3 ?S4 ?S5 ?S6 ?S7 ?at2 ?S8 ?B4 ?Fz ?FA ?FC ?FD ?FE ?FF ?qg ?oy ?FG ?qh ?FH ?oA ?FI ?B5 ?B6 ?FJ ?B7 ?S9 ?B8 ?Ta ?B9 ?Tc ?Ca ?Td ?Cb ?Te ?Cc ?Tf ?tw ?Tg ?Cd ?Th ?HZ ?Ia ?Ib ?Ic ?yh ?Ti ?Tj ?Tn ?To ?Tp ?Tq ?Tr ?Ts ?Tt ?Tu ?Tv ?FK ?yi ?yj ?FL ?yk ?FN ?yl ?FP ?FQ ?ym ?FR ?FT ?FU ?yn ?FV ?FW ?yo ?yp ?Tw ?Ce ?Tx ?qi ?Tz ?qj ?TB ?tD ?TC ?Ie ?Ig ?Ih ?Ii ?Cf ?TF ?TH ?TJ ?TK ?TL ?TM ?TN ?TQ ?TR ?TU ?TV ?FX ?FY ?FZ ?Ga ?Gb ?Gd ?Ge ?tE ?oB ?Gf ?tF ?mT ?Gg ?Gh ?Cg ?Ci ?Gi ?Cj ?TX ?Ck ?TY ?Cm ?TZ ?Cn ?T1 ?Co ?T2 ?Cp ?T3 ?tG ?T4 ?Cq ?T5 ?Ij ?Ik ?Il ?Im ?Cr ?T6 ?T7 ?T8 ?T9 ?Ua ?Ub ?Uc ?Ud ?Ue ?Ug ?Uh ?Gj ?Gk ?yq ?Gm ?yr ?Gp ?yt ?Gq ?Gr ?yu ?Gu ?Gv ?Gw ?yv ?Gx ?Gz ?yw ?yx ?Ui ?GA ?Uj ?qk ?Uk ?ql ?Ul ?tH ?Um ?Io ?Ip ?Iq ?Ir ?Cu ?Uo ?Up ?Uq ?Ur ?Us ?Ut ?Uu ?Uv ?Uw ?Ux ?Uy ?GB ?GC ?yy ?Cv ?yz ?Cw ?yA ?GD ?GF ?yB ?GG ?GH ?GI ?yC ?GJ ?GK ?yD ?yE ?Uz ?GL ?UA ?qm ?UB ?qo ?UC ?tI ?UD ?UE ?UG ?UH ?UI ?UJ ?UK ?UL ?UM ?UN ?UO ?UP ?UQ ?UR ?US ?UT ?UU ?UW ?UX ?UY ?aP2 ?UZ ?U0 ?U1 ?U2 ?U3 ?U4 ?U5 ?U6 ?nl ?sub
  (case Cy=>k_is)
  (case Cz=>k_is)
  (case yG=>k_is)
  (case qt=>k_is)
  (case yH=>k_is)
  (case CA=>k_is)
  (case CB=>k_is)
  (case CC=>k_is)
  (case a0=>k_is)
  (case l0=>k_is)
  (case c0=>k_is)
  (case k0=>k_is)
  (case a1=>k_is)
  (case l1=>k_is)
  (case c1=>k_is)
  (case k1=>k_is)
  (case a2=>k_is)
  (case l2=>k_is)
  (case c2=>k_is)
  (case k2=>k_is)
  (case a3=>k_is)
  (case l3=>k_is)
  (case c3=>k_is)
  (case k3=>k_is)
  (case a4=>k_is)
  (case l4=>k_is)
  (case c4=>k_is)
  (case k4=>k_is)
  (case a5=>k_is)
  (case l5=>k_is)
  (case c5=>k_is)
  (case k5=>k_is)
  (case a6=>k_is)
  (case l6=>k_is)
  (case c6=>k_is)
  (case k6=>k_is)
  (case a7=>k_is)
  (case l7=>k_is)
  (case c7=>k_is)
  (case k7=>k_is)
  (case a8=>k_is)
  (case l8=>k_is)
  (case c8=>k_is)
  (case k8=>k_is)
  (case ax9=>k_is)
  (case ay0=>first | rfl | with_unfolding_all rfl)
  (case O5=>kernel_rfl)
  (case a9=>k_is)
  (case l9=>k_is)
  (case c9=>k_is)
  (case k9=>k_is)
  (case O6=>k_is)
  (case O7=>k_is)
  (case O8=>k_is)
  (case yL=>k_is)
  (case O9=>k_is)
  (case Pa=>k_is)
  (case Pb=>k_is)
  (case Pc=>k_is)
  (case Pd=>k_is)
  (case Pe=>k_is)
  (case Pf=>k_is)
  (case Pg=>k_is)
  (case Ph=>k_is)
  (case Pj=>k_is)
  (case Pk=>k_is)
  (case Pl=>k_is)
  (case a14=>k_is)
  (case Pm=>k_is)
  (case Pn=>k_is)
  (case Po=>k_is)
  (case aD0=>k_is)
  (case aD1=>first | rfl | with_unfolding_all rfl)
  (case Pp=>kernel_rfl)
  (case Pq=>k_is)
  (case Pr=>k_is)
  (case Pt=>k_is)
  (case Pu=>k_is)
  (case Pw=>k_is)
  (case Px=>k_is)
  (case Py=>k_is)
  (case Pz=>k_is)
  (case PB=>k_is)
  (case PC=>k_is)
  (case PD=>k_is)
  (case PF=>k_is)
  (case PH=>k_is)
  (case PJ=>k_is)
  (case PK=>k_is)
  (case PL=>k_is)
  (case PM=>k_is)
  (case PN=>k_is)
  (case PQ=>k_is)
  (case PR=>k_is)
  (case PU=>k_is)
  (case PV=>k_is)
  (case PX=>k_is)
  (case PY=>k_is)
  (case a21=>k_is)
  (case PZ=>k_is)
  (case P0=>k_is)
  (case HE=>k_is)
  (case a22=>k_is)
  (case P1=>k_is)
  (case P2=>k_is)
  (case HF=>k_is)
  (case a23=>k_is)
  (case P4=>k_is)
  (case P5=>k_is)
  (case HG=>k_is)
  (case a24=>k_is)
  (case P6=>k_is)
  (case P7=>k_is)
  (case HH=>k_is)
  (case P8=>k_is)
  (case P9=>k_is)
  (case Qa=>k_is)
  (case Qb=>k_is)
  (case a26=>k_is)
  (case Qc=>k_is)
  (case Qe=>k_is)
  (case CV=>k_is)
  (case Qf=>k_is)
  (case Qg=>k_is)
  (case Qh=>k_is)
  (case Qi=>k_is)
  (case Qj=>k_is)
  (case Qk=>k_is)
  (case Ql=>k_is)
  (case Qm=>k_is)
  (case Qn=>k_is)
  (case Qo=>k_is)
  (case Qp=>k_is)
  (case Qq=>k_is)
  (case Qr=>k_is)
  (case Qs=>k_is)
  (case Qt=>k_is)
  (case Qu=>k_is)
  (case a31=>k_is)
  (case Qv=>k_is)
  (case Qw=>k_is)
  (case HI=>k_is)
  (case a32=>k_is)
  (case Qx=>k_is)
  (case Qy=>k_is)
  (case HJ=>k_is)
  (case Qz=>k_is)
  (case QB=>k_is)
  (case QC=>k_is)
  (case QD=>k_is)
  (case a34=>k_is)
  (case QE=>k_is)
  (case QF=>k_is)
  (case HK=>k_is)
  (case a35=>k_is)
  (case QG=>k_is)
  (case QH=>k_is)
  (case CW=>k_is)
  (case QI=>k_is)
  (case QJ=>k_is)
  (case QK=>k_is)
  (case QL=>k_is)
  (case QM=>k_is)
  (case QN=>k_is)
  (case QO=>k_is)
  (case QP=>k_is)
  (case QQ=>k_is)
  (case QR=>k_is)
  (case QS=>k_is)
  (case QT=>k_is)
  (case QU=>k_is)
  (case QV=>k_is)
  (case QW=>k_is)
  (case QX=>k_is)
  (case a40=>k_is)
  (case QY=>k_is)
  (case QZ=>k_is)
  (case HL=>k_is)
  (case a41=>k_is)
  (case Q0=>k_is)
  (case Q1=>k_is)
  (case HM=>k_is)
  (case Q2=>k_is)
  (case Q3=>k_is)
  (case Q4=>k_is)
  (case Q5=>k_is)
  (case Q6=>k_is)
  (case Q7=>k_is)
  (case Q8=>k_is)
  (case Q9=>k_is)
  (case a44=>k_is)
  (case Ra=>k_is)
  (case Rb=>k_is)
  (case Rc=>k_is)
  (case Rh=>k_is)
  (case Ri=>k_is)
  (case Rj=>k_is)
  (case Rk=>k_is)
  (case Rl=>k_is)
  (case Rm=>k_is)
  (case Rn=>k_is)
  (case Ro=>k_is)
  (case Rp=>k_is)
  (case Rq=>k_is)
  (case Rt=>k_is)
  (case Ru=>k_is)
  (case Rv=>k_is)
  (case Rw=>k_is)
  (case Rx=>k_is)
  (case Ry=>k_is)
  (case a49=>k_is)
  (case Rz=>k_is)
  (case RA=>k_is)
  (case RB=>k_is)
  (case RC=>k_is)
  (case a50=>k_is)
  (case RD=>k_is)
  (case RE=>k_is)
  (case HN=>k_is)
  (case a51=>k_is)
  (case RF=>k_is)
  (case RG=>k_is)
  (case HP=>k_is)
  (case a52=>k_is)
  (case RH=>k_is)
  (case RI=>k_is)
  (case HQ=>k_is)
  (case RJ=>k_is)
  (case RK=>k_is)
  (case RL=>k_is)
  (case RM=>k_is)
  (case a54=>k_is)
  (case RN=>k_is)
  (case RO=>k_is)
  (case RP=>k_is)
  (case RQ=>k_is)
  (case RU=>k_is)
  (case RV=>k_is)
  (case RW=>k_is)
  (case RX=>k_is)
  (case RY=>k_is)
  (case RZ=>k_is)
  (case R0=>k_is)
  (case R1=>k_is)
  (case R3=>k_is)
  (case R4=>k_is)
  (case R5=>k_is)
  (case R6=>k_is)
  (case R7=>k_is)
  (case R8=>k_is)
  (case R9=>k_is)
  (case Sa=>k_is)
  (case Sb=>k_is)
  (case Sd=>k_is)
  (case Se=>k_is)
  (case a60=>k_is)
  (case Sf=>k_is)
  (case Sg=>k_is)
  (case HR=>k_is)
  (case a61=>k_is)
  (case Sh=>k_is)
  (case Si=>k_is)
  (case HS=>k_is)
  (case Sj=>k_is)
  (case Sk=>k_is)
  (case Sl=>k_is)
  (case Sm=>k_is)
  (case a63=>k_is)
  (case Sn=>k_is)
  (case So=>k_is)
  (case y7=>k_is)
  (case a64=>k_is)
  (case kA=>k_is)
  (case Sq=>k_is)
  (case y8=>k_is)
  (case a65=>k_is)
  (case Sr=>k_is)
  (case Ss=>k_is)
  (case y9=>k_is)
  (case a66=>k_is)
  (case Su=>k_is)
  (case Sv=>k_is)
  (case za=>k_is)
  (case Sw=>k_is)
  (case Sx=>k_is)
  (case Sy=>k_is)
  (case Sz=>k_is)
  (case SA=>k_is)
  (case SD=>k_is)
  (case SE=>k_is)
  (case SF=>k_is)
  (case SG=>k_is)
  (case SH=>k_is)
  (case SI=>k_is)
  (case SJ=>k_is)
  (case SK=>k_is)
  (case SM=>k_is)
  (case SN=>k_is)
  (case SO=>k_is)
  (case SQ=>k_is)
  (case SR=>k_is)
  (case SS=>k_is)
  (case SU=>k_is)
  (case HU=>k_is)
  (case SV=>k_is)
  (case SW=>k_is)
  (case SX=>k_is)
  (case HV=>k_is)
  (case HW=>k_is)
  (case HX=>k_is)
  (case HY=>k_is)
  (case B0=>k_is)
  (case SY=>k_is)
  (case S0=>k_is)
  (case S1=>k_is)
  (case S2=>k_is)
  (case S3=>k_is)
  (case S4=>k_is)
  (case S5=>k_is)
  (case S6=>first | k_is | rfl | decide)
  (case S7=>first | k_is | rfl | decide)
  (case at2=>k_is)
  (case S8=>k_is)
  (case B4=>k_is)
  (case Fz=>k_is)
  (case FA=>k_is)
  (case FC=>k_is)
  (case FD=>k_is)
  (case FE=>k_is)
  (case FF=>k_is)
  (case qg=>k_is)
  (case oy=>k_is)
  (case FG=>k_is)
  (case qh=>k_is)
  (case FH=>k_is)
  (case oA=>k_is)
  (case FI=>k_is)
  (case B5=>k_is)
  (case B6=>k_is)
  (case FJ=>k_is)
  (case B7=>k_is)
  (case S9=>k_is)
  (case B8=>k_is)
  (case Ta=>k_is)
  (case B9=>k_is)
  (case Tc=>k_is)
  (case Ca=>k_is)
  (case Td=>k_is)
  (case Cb=>k_is)
  (case Te=>k_is)
  (case Cc=>k_is)
  (case Tf=>k_is)
  (case tw=>k_is)
  (case Tg=>k_is)
  (case Cd=>k_is)
  (case Th=>k_is)
  (case HZ=>k_is)
  (case Ia=>k_is)
  (case Ib=>k_is)
  (case Ic=>k_is)
  (case yh=>k_is)
  (case Ti=>k_is)
  (case Tj=>k_is)
  (case Tn=>k_is)
  (case To=>k_is)
  (case Tp=>k_is)
  (case Tq=>k_is)
  (case Tr=>k_is)
  (case Ts=>first | k_is | rfl | decide)
  (case Tt=>first | k_is | rfl | decide)
  (case Tu=>k_is)
  (case Tv=>k_is)
  (case FK=>k_is)
  (case yi=>k_is)
  (case yj=>k_is)
  (case FL=>k_is)
  (case yk=>k_is)
  (case FN=>k_is)
  (case yl=>k_is)
  (case FP=>k_is)
  (case FQ=>k_is)
  (case ym=>k_is)
  (case FR=>k_is)
  (case FT=>k_is)
  (case FU=>k_is)
  (case yn=>k_is)
  (case FV=>k_is)
  (case FW=>k_is)
  (case yo=>k_is)
  (case yp=>k_is)
  (case Tw=>k_is)
  (case Ce=>k_is)
  (case Tx=>k_is)
  (case qi=>k_is)
  (case Tz=>k_is)
  (case qj=>k_is)
  (case TB=>k_is)
  (case tD=>k_is)
  (case TC=>k_is)
  (case Ie=>k_is)
  (case Ig=>k_is)
  (case Ih=>k_is)
  (case Ii=>k_is)
  (case Cf=>k_is)
  (case TF=>k_is)
  (case TH=>k_is)
  (case TJ=>k_is)
  (case TK=>k_is)
  (case TL=>k_is)
  (case TM=>k_is)
  (case TN=>k_is)
  (case TQ=>first | k_is | rfl | decide)
  (case TR=>first | k_is | rfl | decide)
  (case TU=>k_is)
  (case TV=>k_is)
  (case FX=>k_is)
  (case FY=>k_is)
  (case FZ=>k_is)
  (case Ga=>k_is)
  (case Gb=>k_is)
  (case Gd=>k_is)
  (case Ge=>k_is)
  (case tE=>k_is)
  (case oB=>k_is)
  (case Gf=>k_is)
  (case tF=>k_is)
  (case mT=>k_is)
  (case Gg=>k_is)
  (case Gh=>k_is)
  (case Cg=>k_is)
  (case Ci=>k_is)
  (case Gi=>k_is)
  (case Cj=>k_is)
  (case TX=>k_is)
  (case Ck=>k_is)
  (case TY=>k_is)
  (case Cm=>k_is)
  (case TZ=>k_is)
  (case Cn=>k_is)
  (case T1=>k_is)
  (case Co=>k_is)
  (case T2=>k_is)
  (case Cp=>k_is)
  (case T3=>k_is)
  (case tG=>k_is)
  (case T4=>k_is)
  (case Cq=>k_is)
  (case T5=>k_is)
  (case Ij=>k_is)
  (case Ik=>k_is)
  (case Il=>k_is)
  (case Im=>k_is)
  (case Cr=>k_is)
  (case T6=>k_is)
  (case T7=>k_is)
  (case T8=>k_is)
  (case T9=>k_is)
  (case Ua=>k_is)
  (case Ub=>k_is)
  (case Uc=>k_is)
  (case Ud=>first | k_is | rfl | decide)
  (case Ue=>first | k_is | rfl | decide)
  (case Ug=>k_is)
  (case Uh=>k_is)
  (case Gj=>k_is)
  (case Gk=>k_is)
  (case yq=>k_is)
  (case Gm=>k_is)
  (case yr=>k_is)
  (case Gp=>k_is)
  (case yt=>k_is)
  (case Gq=>k_is)
  (case Gr=>k_is)
  (case yu=>k_is)
  (case Gu=>k_is)
  (case Gv=>k_is)
  (case Gw=>k_is)
  (case yv=>k_is)
  (case Gx=>k_is)
  (case Gz=>k_is)
  (case yw=>k_is)
  (case yx=>k_is)
  (case Ui=>k_is)
  (case GA=>k_is)
  (case Uj=>k_is)
  (case qk=>k_is)
  (case Uk=>k_is)
  (case ql=>k_is)
  (case Ul=>k_is)
  (case tH=>k_is)
  (case Um=>k_is)
  (case Io=>k_is)
  (case Ip=>k_is)
  (case Iq=>k_is)
  (case Ir=>k_is)
  (case Cu=>k_is)
  (case Uo=>k_is)
  (case Up=>k_is)
  (case Uq=>k_is)
  (case Ur=>k_is)
  (case Us=>k_is)
  (case Ut=>k_is)
  (case Uu=>k_is)
  (case Uv=>first | k_is | rfl | decide)
  (case Uw=>first | k_is | rfl | decide)
  (case Ux=>k_is)
  (case Uy=>k_is)
  (case GB=>k_is)
  (case GC=>k_is)
  (case yy=>k_is)
  (case Cv=>k_is)
  (case yz=>k_is)
  (case Cw=>k_is)
  (case yA=>k_is)
  (case GD=>k_is)
  (case GF=>k_is)
  (case yB=>k_is)
  (case GG=>k_is)
  (case GH=>k_is)
  (case GI=>k_is)
  (case yC=>k_is)
  (case GJ=>k_is)
  (case GK=>k_is)
  (case yD=>k_is)
  (case yE=>k_is)
  (case Uz=>k_is)
  (case GL=>k_is)
  (case UA=>k_is)
  (case qm=>k_is)
  (case UB=>k_is)
  (case qo=>k_is)
  (case UC=>k_is)
  (case tI=>k_is)
  (case UD=>k_is)
  (case UE=>k_is)
  (case UG=>k_is)
  (case UH=>k_is)
  (case UI=>k_is)
  (case UJ=>k_is)
  (case UK=>k_is)
  (case UL=>k_is)
  (case UM=>k_is)
  (case UN=>k_is)
  (case UO=>k_is)
  (case UP=>k_is)
  (case UQ=>k_is)
  (case UR=>k_is)
  (case US=>k_is)
  (case UT=>k_is)
  (case UU=>k_is)
  (case UW=>k_is)
  (case UX=>k_is)
  (case UY=>first | k_is | rfl | decide)
  (case aP2=>k_is)
  (case UZ=>k_exc)
  (case U0=>k_is)
  (case U1=>k_is)
  (case U2=>k_is)
  (case U3=>k_is)
  (case U4=>k_is)
  (case U5=>k_is)
  (case U6=>k_is)
  (case nl=>first | k_is | rfl | decide)
  (case sub=>decide)
