import PyProof.Rows.All
import Wide.All
import OpenK.AllK
import Wide.FinOn
import Lean
import PyProof.EqAt
import PyProof.EqKinds
import PyProof.TupleCall
import PyProof.NeKinds
import PyProof.Rows.Range3
import PyProof.FitsBits
import PyProof.StationsW
import PyProof.NsDelKeeps
import PyProof.Rows.CatchOwn
import KE.KTryMore
import PyProof.ExcArgsOwn
import PyProof.ExcAttrAll.ValueError
import OpenK.KOwn
import PyProof.ZipIter
import PyProof.WalksEnum
import PyProof.EnumMake
import KE.KIntText
import PyProof.Conv_int
import PyProof.StrWalks
import PyProof.StrLawsFirst
import KE.KLam
import KE.KNestM
import KE.KRevIter
import PyProof.ListRange
import PyProof.Rows.SortWalk
import PyProof.Rows.SetFrom
import PyProof.FactsAll.set
import PyProof.Rows.SeqMore
import PyProof.FString
import PySem.Challenge.RW_mendfield_k38_words_far_apart
open Array renaming append_assoc→sZ,length_toList→wD,toList_append→Yg
open Bool renaming and_eq_true→fg,false_ne_true→iP,true_and→mX,and_true→m5,or_true→m6,eq_iff_iff→qu,false_eq_true→qv,false_and→s9,or_false→wH,not_false→AH,not_true→AI,true_or→AJ,false_or→AK
open Classical renaming byContradiction→Am
open Decidable renaming byContradiction→Yt
open False renaming elim→gF
open ForInStep renaming yield→Eo
open Int renaming toNat→fi,toNat_natCast→fV,emod_nonneg→gT,emod_lt_of_pos→hV,natAbs_natCast→jk,natCast_emod→lZ,natCast_mul→qA,natCast_add→tO,toNat_of_nonneg→tP,emod_eq_of_lt→Ar,natCast_nonneg→MD,zero_add→MU,fdiv_eq_ediv_of_nonneg→X3
open List renaming range→aD,getD_eq_getElem?_getD→aL,getElem?_eq_getElem→aO,replicate→aQ,length_map→bw,mem_map→bB,length_range→bL,mem_range→bY,map_map→cj,mem_cons→cA,mem_append→cE,getElem?_map→cI,zipWith→cO,all_eq_true→c9,mem_append_right→df,map_cons→dw,all_cons→dy,getElem_mem→dz,length_append→dF,length_replicate→dG,size_toArray→eB,append_assoc→eC,map_append→fh,mem_append_left→fE,length_cons→fF,mem_singleton→fW,append_nil→gn,lookup_cons→gq,mem_cons_of_mem→gE,not_mem_nil→gR,length_take→hE,getElem?_eq_none→hJ,mem_cons_self→iO,getElem_of_mem→iQ,length_drop→ji,length_set→jj,getElem?_eq_some_iff→jI,nodup_cons→jJ,set_cons_zero→jK,set_cons_succ→jL,map_nil→j7,getElem?_range→j8,length_zipWith→j9,getElem?_replicate→kF,take_add_one→kH,lookup→lU,getElem?_append_right→lV,length_singleton→lW,all_map→lY,take_length→mY,cons.inj→mZ,perm_append_comm→m3,mem_replicate→m4,getElem?_append_left→oR,mem_of_mem_drop→oV,map_replicate→oW,mem_filter→qo,replicate_succ→qp,nil_append→qq,append_eq_nil_iff→qw,map_congr_left→qy,getElem?_cons_zero→qB,getElem?_cons_succ→qC,getElem?_set_ne→s8,of_mem_zip→tw,mem_of_getElem?→tD,flatten_cons→tF,foldl_cons→tG,mem_of_mem_take→tJ,map→tK,all_nil→tL,cons_append→tM,mem_map_of_mem→tQ,map_set→tR,getElem?_zipWith→tS,getElem_map→wR,getElem?_mapIdx→Ap,mem_or_eq_of_mem_set→Aq,take_append_drop→Au,range_succ→Av,pairwise_cons→Az,pairwise_append→AB,length_nil→AF,cons.injEq→AG,getElem?_set_self→Eh,length→Ei,append_inj→Et,set_set→Eu,take_of_length_le→Ew,getElem?_take→Ey,map_zipWith→Ez,ext_getElem→EA,length_zip→EB,foldl_append→EC,contains_iff_mem→ED,pairwise_iff_getElem→EG,nodup_range→EH,filterMap_cons→MC,Pairwise.nil→MG,any_eq_true→MJ,Sublist.refl→MK,mem_of_find?_eq_some→MM,map_drop→MN,map_take→MP,ext_getElem?→MQ,getElem?_drop→MR,drop_eq_nil_of_le→MS,zipWith_map→MV,sum_cons→MX,zipWith_cons_cons→MY,drop_eq_getElem_cons→MZ,getElem?_set→M4,findIdx_lt_length_of_exists→M5,find?_eq_none→M6,getElem_range→M7,pairwise_singleton→M8,pairwise_lt_range→M9,mem_filterMap→X2,getElem?_take_of_lt→X4,set_eq_of_length_le→Yb,eq_nil_iff_forall_not_mem→Yc,filter_eq_self→Yd,range_succ_eq_map→Ye,getElem_zipWith→Yf,zip_cons_cons→Yh,reverse_append→Yi,sublist_cons_self→Yj,findIdx_getElem→Yk,findIdx?_eq_some_iff_getElem→Yl,findIdx?_eq_none_iff→Ym,Pairwise.filter→Yn,countP_eq_length_filter→Yo,find?_eq_some_iff_append→Yp,length_eq_zero_iff→Yq,range_eq_range'→Yr,length_filter_le→Ys,flatMap_append→Yu
open Nat renaming le_refl→bK,lt_of_lt_of_le→dv,ne_of_lt→fS,le_trans→fU,lt_irrefl→g9,zero_le→jh,shiftLeft_eq→kG,xor_zero→lX,mul_comm→mU,testBit_xor→mV,lt_of_le_of_lt→mW,pow_succ→oS,zero_xor→oU,xor_assoc→qt,mul_assoc→tH,mod_lt→tN,add_comm→wI,two_pow_pos→wJ,pow_le_pow_right→wK,min_self→wL,not_lt→wM,mul_mod→wN,mod_eq_of_lt→wO,mod_add_mod→wQ,sub_self→wU,le_of_lt→Ad,le_of_eq→Af,lt_succ_self→Ag,eq_of_testBit_eq→Aj,testBit_zero→Ak,xor_self→Al,min_eq_left→Ao,zero_add→As,le_of_succ_le→Aw,succ.inj→AA,testBit_lt_two_pow→Ek,testBit_succ→El,strongRecOn→Em,add_assoc→Ex,lt_or_ge→EF,one_shiftLeft→EI,le_of_not_lt→MF,xor_comm→MH,testBit_and→MI,lt_succ_of_lt→MT,mod_mod→MW,succ_pos→Na,testBit_eq_decide_div_mod_eq→X5,shiftLeft_xor_distrib→X6,mul_lt_mul_right→X7,testBit_shiftLeft→X8,shiftRight_eq_div_pow→X9
open Ne renaming symm→iw
open Option renaming some.inj→de,getD_none→tE,getD_some→tI,some.injEq→wV,isSome_iff_exists→Ah,map_eq_some_iff→An,map_some→AD,map_none→AE,toList_some→ML,bind_some→Ya
open Or renaming inl→ay,inr→bW
open PyProof renaming Rows.callWith_type1→Ae
open PySem renaming Heap.lt_size→cy,Value.ref→eA,PassesOwn.never→eW,Heap.get?_push_of_some→gQ,Heap.get?_push_size→iy,Builtin.bitAnd→oO,Builtin.bitXor→oQ,Value.int→qm,Heap.size_push→tu,Str.empty→wF,Obj.mapSeq→Ai,Value.none→Ef,Value.bool→Eg,SeqAt.EqAt→Ej,Value.builtin→Ep,Value.type.inj→Er,Builtin.Str.strSliceIndices→Es,NameKind.cell→EE,Builtin.List.listTooLong→ME,Calls.Name_function_global→X1
open Sum renaming inl→sX,inr→sY
open True renaming intro→tf
set_option Elab.async false
set_option linter.all false
set_option maxRecDepth 100000
local macro_rules | `(tactic| omega)=>`(tactic| lia)
namespace L2
open PySem PySem.Spec PyProof.Rows
noncomputable abbrev Key:=Sum Int Str
noncomputable def Nb:Key->Value->Bool
 | .inl k,v=>Value.isInt k v
 | .inr x,v=>Value.isStrOf x v
noncomputable def Yv(w:World):Key->Int
 | .inl k=>hashInt k
 | .inr x=>hashStr w x
theorem m8:∀{k:Key} {v:Value},Nb k v=true->(∃i t,k=sX i/\v=qm i t)\/(∃x t,k=sY x/\v=Value.str x t)
 | .inl i,v,h=>by
  obtain⟨t,e⟩:=Value.isInt_shape (k:=i) (v:=v) h
  exact .inl ⟨i,t,rfl,e⟩
 | .inr x,v,h=>by
  obtain⟨t,e⟩:=Value.isStrOf_shape (x:=x) (v:=v) h
  exact .inr ⟨x,t,rfl,e⟩
theorem Yw(a b:Int):decide ((sX a:Key)=sX b)=(a==b):=by
 by_cases e:a=b
 ·subst e;simp
 ·have h:¬ (sX a:Key)=sX b:=λq=>e (Sum.inl.inj q)
  rw[decide_eq_false h]
  exact(beq_eq_false_iff_ne.mpr e).symm
theorem Yx(a b:Str):decide ((sY a:Key)=sY b)=decide (a=b):=by
 by_cases e:a=b
 ·subst e;simp
 ·have h:¬ (sY a:Key)=sY b:=λq=>e (Sum.inr.inj q)
  rw[decide_eq_false h,decide_eq_false e]
theorem Yy(a:Int)(b:Str):decide ((sX a:Key)=sY b)=false:=decide_eq_false (λq=>nomatch q)
theorem Yz(a:Str)(b:Int):decide ((sY a:Key)=sX b)=false:=decide_eq_false (λq=>nomatch q)
noncomputable def Nc(prog:Program)(w:World):PySem.KeyKind prog w Key where
 is:=Nb
 hash:=Yv w
 inj:=λv a b ha hb=>by
  rcases m8 ha with⟨i,t,rfl,rfl⟩ | ⟨x,t,rfl,rfl⟩
  ·rcases m8 hb with⟨j,u,rfl,e⟩ | ⟨y,u,rfl,e⟩
   ·injection e with e1 _;rw[e1]
   ·exact nomatch e
  ·rcases m8 hb with⟨j,u,rfl,e⟩ | ⟨y,u,rfl,e⟩
   ·exact nomatch e
   ·injection e with e1 _;rw[e1]
 byValue:=λk v h=>by
  rcases m8 h with⟨i,t,rfl,rfl⟩ | ⟨x,t,rfl,rfl⟩<;>rfl
 pyHash:=λhv h=>by
  rcases m8 hv with⟨i,t,rfl,rfl⟩ | ⟨x,t,rfl,rfl⟩
  ·exact wpAny_pyHash_int h
  ·exact wpAny_pyHash_str h
 eqBool:=λhu hv h=>by
  rcases m8 hu with⟨i,t,rfl,rfl⟩ | ⟨x,t,rfl,rfl⟩
  ·rcases m8 hv with⟨j,u,rfl,rfl⟩ | ⟨y,u,rfl,rfl⟩
   ·rw[Yw]at h;exact wpAny_eqBool_int h
   ·rw[Yy]at h;exact SeqAt.EqAt.int_str i t y u _ _ _ _ h
  ·rcases m8 hv with⟨j,u,rfl,rfl⟩ | ⟨y,u,rfl,rfl⟩
   ·rw[Yz]at h;exact SeqAt.EqAt.str_int x t j u _ _ _ _ h
   ·rw[Yx]at h;exact wpAny_eqBool_str h
 «strs»:=λk x t v h=>by
  rcases m8 h with⟨i,u,rfl,e⟩ | ⟨y,u,rfl,e⟩
  ·exact nomatch e
  ·injection e with e1 _
   subst e1
   cases v<;>rfl
end L2
namespace L2
open PySem PySem.Spec PyProof.Rows
inductive V where
 | ax | bl (b:Bool) | int (i:Int) | str (x:Str) | AL (b:Array UInt8) | qD (b:UInt64) | ref (a:Addr) | ty (n:String)
 deriving DecidableEq
noncomputable def RelV:V->Value->Prop
 | .ax,u=>u=Ef
 | .bl b,u=>u=Eg b
 | .int i,u=>∃t,u=qm i t
 | .str x,u=>∃t,u=Value.str x t
 | .AL b,u=>∃t,u=Value.bytes b t
 | .qD b,u=>∃t,u=Value.float b t
 | .ref a,u=>u=eA a
 | .ty n,u=>u=Value.type n
noncomputable abbrev Vals:List V->List Value->Prop:=Paired RelV
theorem Vals.length{xs:List V}{us:List Value}(r:Vals xs us):xs.length=us.length:=Paired.length r
theorem Vals.get:∀{xs:List V} {us:List Value} {i:Nat} {x:V},Vals xs us->xs[i]?=some x->∃u,us[i]?=some u/\RelV x u
 | _,_,_,_,.nil,e=>by simp at e
 | _,_,0,_,.cons r _,e=>by simp at e;subst e;exact⟨_,rfl,r⟩
 | _,_,i+1,x,.cons _ t,e=>by
  obtain⟨u,h1,h2⟩:=Vals.get (i:=i) (x:=x) t (by simpa using e)
  exact⟨u,by simpa using h1,h2⟩
theorem Vals.set{x:V}{u:Value}(r:RelV x u):∀{xs:List V} {us:List Value} (i:Nat),Vals xs us->Vals (xs.set i x) (us.set i u)
 | _,_,_,.nil=>.nil
 | _,_,0,.cons _ t=>.cons r t
 | _,_,i+1,.cons q t=>.cons q (Vals.set r i t)
theorem Vals.append:∀{xs ys:List V} {us ws:List Value},Vals xs us->Vals ys ws->Vals (xs++ys) (us++ws)
 | _,_,_,_,.nil,s=>s
 | _,_,_,_,.cons r t,s=>.cons r (Vals.append t s)
theorem Vals.take:∀{xs:List V} {us:List Value} (n:Nat),Vals xs us->Vals (xs.take n) (us.take n)
 | _,_,0,_=>.nil
 | _,_,_+1,.nil=>.nil
 | _,_,n+1,.cons r t=>.cons r (Vals.take n t)
theorem Vals.drop:∀{xs:List V} {us:List Value} (n:Nat),Vals xs us->Vals (xs.drop n) (us.drop n)
 | _,_,0,r=>r
 | _,_,_+1,.nil=>.nil
 | _,_,n+1,.cons _ t=>Vals.drop n t
noncomputable def l6:Option V->Option Value->Prop
 | some v,some u=>RelV v u
 | none,none=>True
 | _,_=>False
noncomputable def KV{κ:Type}:List (κ × V)->List (κ × Value)->Prop:=Paired λ(p:κ × V) (q:κ × Value)=>p.1=q.1/\RelV p.2 q.2
noncomputable def kV:Key->V
 | .inl i=>.int i
 | .inr x=>.str x
inductive HO where
 | lst (xs:List V)
 | tup (xs:List V)
 | dK (eG:List (Key × V)) | dT (eG:List (List Key × V))
 | set (S:Int->Bool) (n:Nat)
 | ins (C dx:Addr) (fs:List (Str × V))
 | own (x:Addr)
 | xd (fs:List (Str × V))
 | met (f x:Addr)
 | AM (lo hi:Int)
 | bx (o:Obj) (u:HO)
 | dU (ps:Array Value)
 | ext (φ:Heap->Prop)
noncomputable abbrev Hp:=Addr->Option HO
noncomputable def upd(H:Hp)(a:Addr)(o:HO):Hp:=λb=>if b=a then some o else H b
theorem bQ{H:Hp}{a:Addr}{o:HO}:upd H a o a=some o:=by unfold upd;rw[if_pos rfl]
theorem bo{H:Hp}{a b:Addr}{o:HO}(h:b≠a):upd H a o b=H b:=by unfold upd;rw[if_neg h]
theorem fj{H:Hp}{a b:Addr}{o:HO}(h:H a=some o)(h':H b=none):a≠b:=by
 intro e;subst e;rw[h]at h';cases h'
section
variable(P:Program)(w:World)
noncomputable def fk(H:Hp)(h:Heap)(a:Addr):HO->Prop
 | .lst xs=>xs.length<=sizeLine/\∃(its:List Value) (n:Nat),Vals xs its/\h.get? a=some { cls:=.type "list",data:=.seq its.toArray n }
 | .tup xs=>xs.length<=sizeLine/\∃its:List Value,Vals xs its/\IsTup h a its.toArray
 | .dK eG=>eG.length<=sizeLine/\(a==sysModules)=false/\∃vs,KV eG vs/\h.DictOf (Nc P w) a vs
 | .dT eG=>eG.length<=sizeLine/\(a==sysModules)=false/\∃xs:List (List Key × Addr × Value),
   Paired (λ(p:List Key × V) (q:List Key × Addr × Value)=>p.1=q.1/\H q.2.1=some (.tup (p.1.map kV))/\RelV p.2 q.2.2) eG xs /\
   ∃o es ep,h.get? a=some o/\o.ExactDict/\o.data=.dict es ep/\es.toList=xs.map (entryOfKey (tupleKind (Nc P w)))/\(xs.map (·.1)).Nodup
 | .set S n=>h.SetOf (intKind P w) a S n
 | .ins C dx fs=>H dx=some (.own a)/\fs.length<=1000/\dx≠a/\h.get? a=some (PySem.W.instObj C dx) /\
   ∃mA,h.Ns1 dx mA/\(∀f,l6 (fs.lookup f) (mA f))/\PySem.Within mA (fs.map (·.1))
 | .own _=>∃o,h.get? a=some o
 | .xd fs=>∃mA,h.Ns1 a mA/\∀f,l6 (fs.lookup f) (mA f)
 | .AM lo hi=>∃t u v,h.get? a=some { cls:=.type "range",data:=.fields #[.int lo t,.int hi u,.int 1 v] }
 | .bx o u=>h.get? a=some o/\fk H h a u
 | .dU ps=>h.get? a=some { cls:=.none,data:=.fields ps }/\TriplesOk ps.toList/\∀pos cv,codeAmong pos ps.toList=some cv->∃c φ,cv=.ref c/\H c=some (.ext φ)/\∀h',φ h'->∃q,h'.CodeRec (.ref c) q
 | .met f x=>h.get? a=some (PySem.W.methodObj (.ref f) (.ref x))
 | .ext φ=>φ h/\(∃o,h.get? a=some o)/\∀h1 h2:Heap,φ h1->(∀b o,(b=a\/H b=some (.own a))->h1.get? b=some o->h2.get? b=some o)->φ h2
noncomputable def dH(H:Hp)(h:Heap):Prop:=∀a o,H a=some o->fk P w H h a o
end
section
variable{P:Program}{w:World}{H H':Hp}{h h':Heap}{a:Addr}{o:HO}
theorem fk.lt(x:fk P w H h a o):a<h.objs.size:=by
 cases o with
 | lst xs=>obtain⟨_,_,_,_,e⟩:=x;exact cy e
 | tup xs=>obtain⟨_,_,_,p⟩:=x;exact p.lt
 | dK eG=>obtain⟨_,_,_,_,o,_,_,e,_⟩:=x;exact cy e
 | dT eG=>obtain⟨_,_,_,_,o,_,_,e,_⟩:=x;exact cy e
 | set S n=>obtain⟨o,_,_,_,e,_⟩:=x;exact cy e
 | ins C dx fs=>obtain⟨_,_,_,e,_⟩:=x;exact cy e
 | own y=>obtain⟨_,e⟩:=x;exact cy e
 | xd fs=>obtain⟨_,⟨_,_,_,e,_⟩,_⟩:=x;exact cy e
 | AM lo hi=>obtain⟨_,_,_,e⟩:=x;exact cy e
 | bx ob u=>obtain⟨e,_⟩:=x;exact cy e
 | dU ps=>exact cy (show h.get? a=some _ from x.1)
 | met f y=>exact cy (show h.get? a=some _ from x)
 | ext φ=>obtain⟨_,⟨_,e⟩,_⟩:=x;exact cy e
theorem Paired.EJ{α β:Type}{F G:α->β->Prop}:∀{l₁:List α} {l₂:List β},Paired F l₁ l₂->(∀a b,F a b->G a b)->Paired G l₁ l₂
 | _,_,.nil,_=>.nil
 | _,_,.cons r t,f=>.cons (f _ _ r) (Paired.EJ t f)
theorem fk.l7(x:fk P w H h a o)(k:∀b u,(b=a\/H b=some (.own a))->h.get? b=some u->h'.get? b=some u)
  (ho:∀b,H b=some (.own a)->H' b=some (.own a)) (ht:∀b xs,H b=some (.tup xs)->H' b=some (.tup xs)) (hx:∀b φ,H b=some (.ext φ)->H' b=some (.ext φ)):fk P w H' h' a o:=by
 induction o with
 | lst xs=>obtain⟨z,its,n,r,e⟩:=x;exact⟨z,its,n,r,k _ _ (.inl rfl) e⟩
 | tup xs=>obtain⟨z,its,r,ob,e,c⟩:=x;exact⟨z,its,r,ob,k _ _ (.inl rfl) e,c⟩
 | dK eG=>obtain⟨z,y,vs,r,ob,es,ep,e,c⟩:=x;exact⟨z,y,vs,r,ob,es,ep,k _ _ (.inl rfl) e,c⟩
 | dT eG =>
  obtain⟨z,y,xs,r,ob,es,ep,e,c⟩:=x
  exact⟨z,y,xs,Paired.EJ r λp q z=>⟨z.1,ht _ _ z.2.1,z.2.2⟩,ob,es,ep,k _ _ (.inl rfl) e,c⟩
 | set S n=>obtain⟨ob,es,ep,t,e,c⟩:=x;exact⟨ob,es,ep,t,k _ _ (.inl rfl) e,c⟩
 | ins C dx fs =>
  obtain⟨d,z,ne,e,mA,⟨od,es,ep,e2,c⟩,r⟩:=x
  exact⟨ho _ d,z,ne,k _ _ (.inl rfl) e,mA,⟨od,es,ep,k _ _ (.inr d) e2,c⟩,r⟩
 | own y=>obtain⟨ob,e⟩:=x;exact⟨ob,k _ _ (.inl rfl) e⟩
 | xd fs=>obtain⟨mA,⟨od,es,ep,e,c⟩,r⟩:=x;exact⟨mA,⟨od,es,ep,k _ _ (.inl rfl) e,c⟩,r⟩
 | AM lo hi=>obtain⟨t,u,v,e⟩:=x;exact⟨t,u,v,k _ _ (.inl rfl) e⟩
 | bx ob u ih=>obtain⟨e,q⟩:=x;exact⟨k _ _ (.inl rfl) e,ih q⟩
 | dU ps =>
  obtain⟨e,t,c⟩:=x
  refine⟨k a _ (.inl rfl) e,t,λpos cv q=>?_⟩
  obtain⟨d,φ,e1,e2,e3⟩:=c pos cv q
  exact⟨d,φ,e1,hx _ _ e2,e3⟩
 | met f y =>
  have e:h.get? a=some (PySem.W.methodObj (.ref f) (.ref y)):=x
  show h'.get? a=some (PySem.W.methodObj (.ref f) (.ref y))
  exact k a _ (.inl rfl) e
 | ext φ=>obtain⟨p,⟨o,e⟩,st⟩:=x;exact⟨st _ _ p λb o hb q=>k _ _ hb q,⟨o,k _ _ (.inl rfl) e⟩,λh1 h2 p1 kk=>st h1 h2 p1 λb o hb q=>kk b o (hb.imp id (ho b)) q⟩
theorem dH.lt(x:dH P w H h)(e:H a=some o):a<h.objs.size:=(x a o e).lt
theorem dH.fresh(x:dH P w H h)(e:h.objs.size<=a):H a=none:=by
 cases q:H a with
 | none=>rfl
 | some u=>exact absurd (dv (x.lt q) e) (g9 _)
theorem dH.kept(x:dH P w H h)(k:∀b u,h.get? b=some u->h'.get? b=some u):dH P w H h':=λa o e =>
 (x a o e).l7 (λb u _ q=>k b u q) (λ_ q=>q) (λ_ _ q=>q) λ_ _ q=>q
theorem dH.laid(x:dH P w H h)(k:∀b u,h.get? b=some u->h'.get? b=some u)(hp:h.objs.size<=a)(new:fk P w (upd H a o) h' a o):dH P w (upd H a o) h':=λb u e=>by
 have hn:=x.fresh hp
 by_cases hb:b=a
 ·subst hb;rw[bQ]at e;cases e;exact new
 ·rw[bo hb]at e
  exact(x b u e).l7 (λc v _ q=>k c v q) (λc q=>by rw[bo (fj q hn)];exact q) (λc xs q=>by rw[bo (fj q hn)];exact q) λc xs q=>by rw[bo (fj q hn)];exact q
end
noncomputable def Rd(H:Hp)(a:Addr)(u:HO):Prop:=H a=some u\/∃o,H a=some (.bx o u)
theorem Rd.ok{P:Program}{w:World}{H:Hp}{h:Heap}{a:Addr}{u:HO}(r:Rd H a u)(x:dH P w H h):fk P w H h a u:=by
 rcases r with r | ⟨o,r⟩
 ·exact x a u r
 ·obtain⟨_,q⟩:=x a _ r
  exact q
noncomputable def AN:Option HO->Prop
 | some (.lst _)=>True
 | some (.dK _)=>True
 | some (.dT _)=>True
 | some (.set _ _)=>True
 | some (.ins _ _ _)=>True
 | _=>False
section
variable{P:Program}{w:World}{H:Hp}{h h':Heap}{x e:Addr}{o':HO}
theorem dH.write(ok:dH P w H h)(mu:AN (H x))(he:e=x\/H e=some (.own x))(k:∀b u,b≠e->h.get? b=some u->h'.get? b=some u)(tT:∃u,h'.get? e=some u)
  (new:fk P w (upd H x o') h' x o'):dH P w (upd H x o') h':=λb u q=>by
 have Nd:∀c y,H c=some (.own y)->c≠x:=λc y r z=>by subst z;rw[r]at mu;exact mu
 have YA:∀c xs,H c=some (.tup xs)->c≠x:=λc xs r z=>by subst z;rw[r]at mu;exact mu
 by_cases hb:b=x
 ·subst hb;rw[bQ]at q;cases q;exact new
 ·rw[bo hb]at q
  by_cases qE:b=e
  ·have q':H b=some (.own x):=by
    rcases he with z | z
    ·exact absurd (qE.trans z) hb
    ·rw[qE];exact z
   rw[q]at q';cases q'
   obtain⟨v,hv⟩:=tT
   exact⟨v,by rw[qE];exact hv⟩
  ·refine(ok b u q).l7 (λc v hc r=>k c v ?_ r) (λc r=>by rw[bo (Nd c b r)];exact r) (λc xs r=>by rw[bo (YA c xs r)];exact r) λc φ r=>by rw[bo (λz=>by rw[z]at r;rw[r]at mu;exact mu)];exact r
   rcases hc with rfl | hc
   ·exact qE
   ·rintro rfl
    rcases he with z | z
    ·exact Nd c b hc z
    ·rw[hc]at z;cases z;exact hb rfl
end
structure Un(fs ex:List Addr)(H H':Hp)(h h':Heap):Prop where
 keep:∀b o,h.get? b=some o->H b=none->b ∉ fs->b ∉ ex->h'.get? b=some o
 slot:∀b o,h.get? b=some o->H b=none->b∈fs->b ∉ ex->∃sl,h'.get? b=some { o with slots:=sl }
 free:∀b o,h.get? b=some o->H b=none->b ∉ ex->H' b=none
 there:∀b o,h.get? b=some o->b ∉ ex->∃o',h'.get? b=some o'
 kI:∀b xs,H b=some (.tup xs)->H' b=some (.tup xs)
 ka:∀b o u,H b=some (.bx o u)->H' b=some (.bx o u)
 jl:∀b ps,H b=some (.dU ps)->∃more,H' b=some (.dU (ps++more))
section
variable{fs fs' ex ex':List Addr}{H H1 H2:Hp}{h h1 h2 h':Heap}{a x e:Addr}{o:HO}
theorem Un.any(u:Un fs ex H H1 h h1){b:Addr}{ob:Obj}(q:h.get? b=some ob)(n:H b=none)(hx:b ∉ ex):∃sl,h1.get? b=some { ob with slots:=sl }:=by
 by_cases hb:b∈fs
 ·exact u.slot b ob q n hb hx
 ·exact⟨ob.slots,u.keep b ob q n hb hx⟩
theorem Un.kept(k:∀b u,h.get? b=some u->h'.get? b=some u):Un fs ex H H h h' :=
 ⟨λb ob q _ _ _=>k b ob q,λb ob q _ _ _=>⟨ob.slots,k b ob q⟩,λ_ _ _ n _=>n,λb ob q _=>⟨ob,k b ob q⟩,λ_ _ q=>q,λ_ _ _ q=>q,λ_ ps q=>⟨#[],by rw[q];simp⟩⟩
theorem Un.refl:Un fs ex H H h h:=Un.kept λ_ _ q=>q
theorem Un.laid(k:∀b u,h.get? b=some u->h'.get? b=some u)(hp:h.objs.size<=a)(hn:H a=none):Un fs ex H (upd H a o) h h' where
 keep:=λb u q _ _ _=>k b u q
 slot:=λb u q _ _ _=>⟨u.slots,k b u q⟩
 free:=λb u q n _=>by rw[bo (fS (dv (cy q) hp))];exact n
 there:=λb u q _=>⟨u,k b u q⟩
 kI:=λb xs q=>by rw[bo (fj q hn)];exact q
 ka:=λb u xs q=>by rw[bo (fj q hn)];exact q
 jl:=λb ps q=>⟨#[],by rw[bo (fj q hn),q];simp⟩
theorem Un.write(mu:AN (H x))(he:e=x\/H e=some (.own x))(k:∀b u,b≠e->h.get? b=some u->h'.get? b=some u)(tT:∃u,h'.get? e=some u):Un fs ex H (upd H x o) h h':=by
 have hx:∀b,H b=none->b≠x:=λb n z=>by subst z;rw[n]at mu;exact mu
 have hb:∀b,H b=none->b≠e:=λb n z=>by
  subst z
  rcases he with r | r
  ·exact hx b n r
  ·rw[n]at r;cases r
 have hm:∀b u,H b=some u->¬ AN (some u)->b≠x:=λb u q nm z=>by subst z;rw[q]at mu;exact nm mu
 refine⟨λb u q n _ _=>k b u (hb b n) q,λb u q n _ _=>⟨u.slots,k b u (hb b n) q⟩,λb u q n _=>by rw[bo (hx b n)];exact n,λb u q _=>?_,
  λb xs q=>by rw[bo (hm b _ q λz=>z)];exact q,λb u xs q=>by rw[bo (hm b _ q λz=>z)];exact q,λb ps q=>⟨#[],by rw[bo (hm b _ q λz=>z),q];simp⟩⟩
 by_cases qE:b=e
 ·subst qE;exact tT
 ·exact⟨u,k b u qE q⟩
end
noncomputable def AO(h:Heap)(H:Hp):List Addr:=(aD h.objs.size).filter λa=>(H a).isSome
noncomputable def l9(h:Heap)(H:Hp):Heap:=PySem.W.hideAll h (AO h H)
theorem YB(h:Heap)(H:Hp):(l9 h H).objs.size=h.objs.size:=PySem.W.hideAll_size _ _
theorem YC{h:Heap}{H:Hp}{b:Addr}{o:Obj}(e:h.get? b=some o)(n:H b=none):(l9 h H).get? b=some o :=
 PySem.W.hideAll_get _ e λhm=>by
  have q:(H b).isSome=true:=(qo.mp hm).2
  rw[n]at q;simp at q
theorem YD{h:Heap}{H:Hp}{b:Addr}{o:Obj}(e:(l9 h H).get? b=some o):h.get? b=some o/\H b=none:=by
 have e':h.get? b=some o:=PySem.W.of_hideAll (AO h H) e
 refine⟨e',?_⟩
 cases q:H b with
 | none=>rfl
 | some x =>
  have hm:b∈AO h H:=qo.mpr ⟨bY.mpr (cy e'),by simp[q]⟩
  have z:(l9 h H).get? b=none:=PySem.W.hideAll_none (AO h H) hm
  rw[z]at e;cases e
end L2
namespace L2
open PySem PySem.Spec PyProof.Rows
structure Mod(K:PySem.W.Frag)(mg:Str->Option Value)(base:Heap):Prop where
 qF:K.In base
 glob:base.Ns mainGlobals mg
 blt:∃mb,base.Ns builtinsNs mb/\∀x:Str,x≠"__name__"->mb x=bootBuiltins x
 nolimit:base.NoLimit
structure Cx where
 prog:Program
 w:World
 K:PySem.W.Frag
 mg:Str->Option Value
 base:Heap
 A:Around
 N:List Str
 eX:Shared
 mf:Hp
 env:Env
 outer:List Env
 stack:List Env
 ex:List Addr
 fn:Str->Bool
 calm:Bool
 pn:List (Addr × Obj)
 xe:Value->Shared->Prop
noncomputable def jm(l:List Env):List Addr:=l.filterMap (·.frame)
noncomputable abbrev Cx.fs(X:Cx):List Addr:=jm X.outer
noncomputable def m9(sc:Scope)(x:Str):Prop:=sc.names.lookup x=some .local\/sc.names.lookup x=some .cell\/sc.names.lookup x=some .free
noncomputable def Loc(sc:Scope)(x:Str):Prop:=sc.names.lookup x=some .local\/sc.names.lookup x=some .cell
noncomputable def YE(env:Env)(h:Heap)(m:Str->Option Value)(x:Str)(u:Value):Prop :=
 (env.kindOf x=some .local/\m x=some u)\/((env.kindOf x=some .cell\/env.kindOf x=some .free)/\∃c,env.cells.lookup x=some c/\h.IsCell c (some u))
structure Cx.Ok(X:Cx):Prop where
 mod:Mod X.K X.mg X.base
 kind:X.env.scope.kind=.function
 glob:X.env.globals=mainGlobals
 blt:X.env.builtins=builtinsNs
 above:X.eX.heap.objs.size<=X.env.locals
 inj:∀x y c,X.env.cells.lookup x=some c->X.env.cells.lookup y=some c->x=y
 has:∀x,(X.env.kindOf x=some .cell\/X.env.kindOf x=some .free)->∃c,X.env.cells.lookup x=some c
 qG:∀x c,X.fn x=true->X.env.cells.lookup x=some c->X.eX.heap.objs.size<=c
 hd:X.calm=true->X.A.handled=none
 frames:X.A.frames=some X.stack
 wW:X.stack=X.outer\/(X.stack=X.env::X.outer/\X.env.frame=some X.env.locals)
 wX:∀b∈X.ex,b≠X.env.locals/\∀x c,X.env.cells.lookup x=some c->c≠b
 bs:∀b o,X.base.get? b=some o->X.eX.heap.get? b=some o/\X.mf b=none
 kb:X.base.objs.size<=X.eX.heap.objs.size
 tU:∀b o,X.base.get? b=some o->b ∉ X.ex
 tV:∀b∈X.ex,b ∉ X.fs
 hZ:X.eX.heap.FunFrames X.base X.outer
 ke:∀b∈X.fs,X.mf b=none
structure Inv(X:Cx)(pins:List (Addr × Obj))(σ:List (Option V))(H:Hp)(s:Shared):Prop where
 ok:X.Ok
 os:s.os=X.eX.os
 bare:AllBare s.gens
 base:Un X.fs X.ex X.mf H X.eX.heap s.heap
 loc:∃m,s.heap.Ns X.env.locals m/\∀(i:Nat) (x:Str) (v:V),X.N[i]?=some x->σ[i]?=some (some v)->m9 X.env.scope x->∃u,RelV v u/\YE X.env s.heap m x u
 cell:∀x c,X.env.cells.lookup x=some c->∃v,s.heap.IsCell c v
 free:H X.env.locals=none
 jM:∀x c,X.env.cells.lookup x=some c->H c=none
 pin:∀p∈X.pn++pins,s.heap.get? p.1=some p.2/\H p.1=none/\p.1≠X.env.locals/\p.1 ∉ X.fs/\∀v,p.2.data≠.cell v
 aU:dH X.prog X.w H s.heap
 len:σ.length=X.N.length
section
variable{X:Cx}{pins:List (Addr × Obj)}{σ:List (Option V)}{H H':Hp}{s:Shared}{h':Heap}
theorem Cx.Ok.YF(ok:X.Ok){b:Addr}{o:Obj}(e:X.base.get? b=some o):b ∉ X.fs:=λhb=>by
 have:=(ok.hZ.mem hb).1
 rw[e]at this;cases this
theorem Inv.bs(I:Inv X pins σ H s):∀b o,X.base.get? b=some o->s.heap.get? b=some o/\H b=none:=λb o e =>
 ⟨I.base.keep b o (I.ok.bs b o e).1 (I.ok.bs b o e).2 (I.ok.YF e) (I.ok.tU b o e),I.base.free b o (I.ok.bs b o e).1 (I.ok.bs b o e).2 (I.ok.tU b o e)⟩
theorem Inv.bk(I:Inv X pins σ H s):∀b o,X.base.get? b=some o->s.heap.get? b=some o:=λb o e=>(I.bs b o e).1
theorem Inv.mod(I:Inv X pins σ H s):Mod X.K X.mg X.base:=I.ok.mod
theorem Inv.dA(I:Inv X pins σ H s):X.K.In s.heap:=I.ok.mod.qF.keeps I.bk
theorem Inv.lt(I:Inv X pins σ H s):X.env.locals<s.heap.objs.size:=let⟨_,hn,_⟩:=I.loc;hn.lt
theorem Inv.sz(I:Inv X pins σ H s):X.eX.heap.objs.size<=s.heap.objs.size:=fU I.ok.above (Ad I.lt)
theorem Inv.Nf(I:Inv X pins σ H s){a:Addr}(h:s.heap.objs.size<=a):a ∉ X.fs:=λhb=>by
 obtain⟨_,o,ho,_⟩:=I.ok.hZ.mem hb
 exact absurd (dv (cy ho) (fU I.sz h)) (g9 _)
theorem Inv.oX(I:Inv X pins σ H s):∀x c,X.env.cells.lookup x=some c->c≠X.env.locals:=λx c e z=>by
 obtain⟨v,o,ho,hd⟩:=I.cell x c e
 obtain⟨m,⟨o',es,ep,kJ,wY,_⟩,_⟩:=I.loc
 rw[z,kJ]at ho;cases ho;rw[wY]at hd;cases hd
theorem Inv.hZ(I:Inv X pins σ H s):s.heap.FunFrames X.base X.outer:=by
 have all:∀(l:List Env),(∀b∈jm l,b∈X.fs)->X.eX.heap.FunFrames X.base l->s.heap.FunFrames X.base l:=by
  intro l
  induction l with
  | nil=>intro _ _;trivial
  | cons env r ih =>
   intro hs hl
   obtain⟨hk,⟨L,o,hf,hn,ho,hd⟩,hr⟩:=hl
   have hL:L∈X.fs:=hs L (by unfold jm;rw[MC,hf];exact iO)
   obtain⟨sl,e⟩:=I.base.slot L o ho (I.ok.ke L hL) hL λz=>I.ok.tV L z hL
   exact⟨hk,⟨L,_,hf,hn,e,hd⟩,ih (λb hb=>hs b (by unfold jm;rw[MC,hf];exact gE _ hb)) hr⟩
 exact all X.outer (λ_ hb=>hb) I.ok.hZ
theorem Inv.stack(I:Inv X pins σ H s):s.heap.FunFrames X.base X.stack:=by
 rcases I.ok.wW with e | ⟨e,hf⟩
 ·rw[e];exact I.hZ
 ·rw[e]
  obtain⟨m,hn,_⟩:=I.loc
  refine .cons (by rw[I.ok.kind];decide) hf hn ?_ I.hZ
  exact Heap.get?_none_of_le (fU I.ok.kb I.ok.above)
theorem Inv.AQ(I:Inv X pins σ H s):∀b∈jm X.stack,b∈X.env.locals::X.fs:=λb hb=>by
 rcases I.ok.wW with e | ⟨e,hf⟩
 ·rw[e]at hb;exact gE _ hb
 ·rw[e]at hb
  unfold jm at hb
  rw[MC,hf]at hb
  exact hb
theorem Inv.Ng(I:Inv X pins σ H s):∀b∈jm X.stack,H b=none:=λb hb=>by
 rcases cA.mp (I.AQ b hb)with e | hb
 ·rw[e];exact I.free
 ·obtain⟨_,o,ho,_⟩:=I.ok.hZ.mem hb
  exact I.base.free b o ho (I.ok.ke b hb) λz=>I.ok.tV b z hb
theorem Inv.step{g':Array GenState}{t':Nat}{d':Drawn}{ch:List Addr}(I:Inv X pins σ H s)
  (mh:∀b∈ch,(b∈X.ex\/X.eX.heap.objs.size<=b)/\b≠X.env.locals/\(∀x c,X.env.cells.lookup x=some c->c≠b)/\∀p∈X.pn++pins,p.1≠b)
  (keep:∀b o,b≠X.env.locals->b ∉ X.fs->b ∉ ch->s.heap.get? b=some o->H b=none->h'.get? b=some o)
  (slot:∀b o,b≠X.env.locals->b∈X.fs->b ∉ ch->s.heap.get? b=some o->H b=none->∃sl,h'.get? b=some { o with slots:=sl }) (free:∀b o,b ∉ ch->s.heap.get? b=some o->H b=none->H' b=none)
  (there:∀b o,b ∉ ch->s.heap.get? b=some o->∃o',h'.get? b=some o')
  (kI:∀b xs,H b=some (.tup xs)->H' b=some (.tup xs)) (ka:∀b o u,H b=some (.bx o u)->H' b=some (.bx o u)) (jl:∀b ps,H b=some (.dU ps)->∃more,H' b=some (.dU (ps++more)))
  (ns:∀m,s.heap.Ns X.env.locals m->h'.Ns X.env.locals m) (aU:dH X.prog X.w H' h') (hg:AllBare g') :
  Inv X pins σ H' { s with heap:=h',gens:=g',drawn:=d',toks:=t' }:=by
 have Nh:∀b o,X.eX.heap.get? b=some o->b≠X.env.locals:=λb o e=>fS (dv (cy e) I.ok.above)
 have tW:∀b o,X.eX.heap.get? b=some o->b ∉ X.ex->b ∉ ch:=λb o e hx hb=>by
  rcases(mh b hb).1 with z | z
  ·exact hx z
  ·exact absurd (dv (cy e) z) (g9 _)
 have cellK:∀x c,X.env.cells.lookup x=some c->∀v,s.heap.IsCell c v->h'.IsCell c v:=λx c e v ⟨o,ho,hd⟩=>by
  have wZ:c ∉ ch:=λz=>(mh c z).2.2.1 x c e rfl
  by_cases hc:c∈X.fs
  ·obtain⟨sl,q⟩:=slot c o (I.oX x c e) hc wZ ho (I.jM x c e)
   exact⟨_,q,hd⟩
  ·exact⟨o,keep c o (I.oX x c e) hc wZ ho (I.jM x c e),hd⟩
 refine⟨I.ok,I.os,hg,⟨λb o e n hb hx=>?_,λb o e n hb hx=>?_,λb o e n hx=>?_,λb o e hx=>?_,λb xs e=>kI b xs (I.base.kI b xs e),λb o xs e=>ka b o xs (I.base.ka b o xs e),λb ps e=>?_⟩,?_,λx c e=>?_,?_,λx c e=>?_,λp hp=>?_,aU,I.len⟩
 ·exact keep b o (Nh b o e) hb (tW b o e hx) (I.base.keep b o e n hb hx) (I.base.free b o e n hx)
 ·obtain⟨sl,e1⟩:=I.base.slot b o e n hb hx
  obtain⟨EK,e2⟩:=slot b _ (Nh b o e) hb (tW b o e hx) e1 (I.base.free b o e n hx)
  exact⟨EK,e2⟩
 ·obtain⟨o',e1⟩:=I.base.there b o e hx
  exact free b o' (tW b o e hx) e1 (I.base.free b o e n hx)
 ·obtain⟨o',e1⟩:=I.base.there b o e hx
  exact there b o' (tW b o e hx) e1
 ·obtain⟨m1,e1⟩:=I.base.jl b ps e
  obtain⟨m2,e2⟩:=jl b _ e1
  exact⟨m1++m2,by rw[e2,sZ]⟩
 ·obtain⟨m,hn,hl⟩:=I.loc
  refine⟨m,ns m hn,λi x v e1 e2 e3=>?_⟩
  obtain⟨u,r,l⟩:=hl i x v e1 e2 e3
  refine⟨u,r,?_⟩
  rcases l with l | ⟨k,c,e,z⟩
  ·exact .inl l
  ·exact .inr ⟨k,c,e,cellK x c e _ z⟩
 ·obtain⟨v,z⟩:=I.cell x c e
  exact⟨v,cellK x c e v z⟩
 ·obtain⟨m,⟨o,_,_,ho,_⟩,_⟩:=I.loc
  exact free _ o (λz=>(mh _ z).2.1 rfl) ho I.free
 ·obtain⟨v,o,ho,hd⟩:=I.cell x c e
  exact free c o (λz=>(mh c z).2.2.1 x c e rfl) ho (I.jM x c e)
 ·obtain⟨e,n,ne,nf,d⟩:=I.pin p hp
  have wZ:p.1 ∉ ch:=λz=>(mh p.1 z).2.2.2 p hp rfl
  exact⟨keep p.1 p.2 ne nf wZ e n,free p.1 p.2 wZ e n,ne,nf,d⟩
theorem Inv.un{t':Nat}(I:Inv X pins σ H s)(u:Un X.fs [] H H' s.heap h')(aU:dH X.prog X.w H' h'):Inv X pins σ H' { s with heap:=h',toks:=t' }:=by
 obtain⟨m,⟨o,es,ep,ho,r⟩,_⟩:=id I.loc
 obtain⟨sl,hL⟩:=u.any ho I.free (by simp)
 exact I.step (g':=s.gens) (d':=s.drawn) (ch:=[]) (λ_ z=>nomatch z) (λb o _ hb _ e n=>u.keep b o e n hb (by simp)) (λb o _ hb _ e n=>u.slot b o e n hb (by simp)) (λb o _ e n=>u.free b o e n (by simp)) (λb o _ e=>u.there b o e (by simp)) u.kI u.ka u.jl (λm' hm=>by
  obtain⟨o',EL,EM,kJ,r'⟩:=hm
  rw[ho]at kJ;cases kJ
  exact⟨_,EL,EM,hL,r'⟩) aU I.bare
theorem Inv.call{g':Array GenState}{t':Nat}{d':Drawn}{ch:List Addr}(I:Inv X pins σ H s)(u:Un (jm X.stack) ch H H' s.heap h')(aU:dH X.prog X.w H' h')(hg:AllBare g')
  (mh:∀b∈ch,(b∈X.ex\/X.eX.heap.objs.size<=b)/\b≠X.env.locals/\(∀x c,X.env.cells.lookup x=some c->c≠b)/\∀p∈X.pn++pins,p.1≠b) :
  Inv X pins σ H' { s with heap:=h',gens:=g',drawn:=d',toks:=t' }:=by
 obtain⟨m,⟨o,es,ep,ho,r⟩,_⟩:=id I.loc
 obtain⟨sl,hL⟩:=u.any ho I.free λz=>(mh _ z).2.1 rfl
 exact I.step (ch:=ch) mh (λb o hL hb hc e n=>u.keep b o e n (λz=>(cA.mp (I.AQ b z)).elim hL hb) hc) (λb o _ _ hc e n=>u.any e n hc) (λb o hc e n=>u.free b o e n hc) (λb o hc e=>u.there b o e hc) u.kI u.ka u.jl (λm' hm=>by
  obtain⟨o',EL,EM,kJ,r'⟩:=hm
  rw[ho]at kJ;cases kJ
  exact⟨_,EL,EM,hL,r'⟩) aU hg
theorem Inv.turned{t':Nat}{it:Addr}(I:Inv X pins σ H s)(k:∀b o,b≠it->s.heap.get? b=some o->h'.get? b=some o)(hn:H it=none)(hL:it≠X.env.locals)
  (h1:it∈X.ex\/X.eX.heap.objs.size<=it) (h2:∀x c,X.env.cells.lookup x=some c->c≠it) (h3:∀p∈X.pn++pins,p.1≠it):Inv X pins σ H { s with heap:=h',toks:=t' }:=by
 have oY:∀b u,H b=some u->b≠it:=λb u e z=>by rw[z,hn]at e;cases e
 refine I.step (g':=s.gens) (d':=s.drawn) (ch:=[it]) (λb hb=>?_) (λb o _ _ hc e _=>k b o (λz=>hc (by simp[z])) e) (λb o _ _ hc e _=>⟨o.slots,k b o (λz=>hc (by simp[z])) e⟩) (λ_ _ _ _ n=>n)
  (λb o hc e=>⟨o,k b o (λz=>hc (by simp[z])) e⟩) (λ_ _ e=>e) (λ_ _ _ e=>e) (λb ps e=>⟨#[],by rw[e];simp⟩) (λm hm=>?_) (λb u e=>?_) I.bare
 ·have e:b=it:=by simpa using hb
  subst e
  exact⟨h1,hL,h2,h3⟩
 ·obtain⟨o,es,ep,ho,r⟩:=hm
  exact⟨o,es,ep,k _ o (iw hL) ho,r⟩
 ·refine(I.aU b u e).l7 (λc v hc q=>k c v ?_ q) (λ_ q=>q) (λ_ _ q=>q) λ_ _ q=>q
  rcases hc with z | z
  ·rw[z];exact oY b u e
  ·exact oY c _ z
theorem Inv.tok(I:Inv X pins σ H s)(t:Nat):Inv X pins σ H { s with toks:=t }:=I.un (h':=s.heap) (t':=t) Un.refl I.aU
theorem Inv.kept{t':Nat}(I:Inv X pins σ H s)(k:∀b u,s.heap.get? b=some u->h'.get? b=some u):Inv X pins σ H { s with heap:=h',toks:=t' }:=I.un (Un.kept k) (I.aU.kept k)
theorem Inv.laid{a:Addr}{o:HO}{t':Nat}(I:Inv X pins σ H s)(k:∀b u,s.heap.get? b=some u->h'.get? b=some u)(hp:s.heap.objs.size<=a)(new:fk X.prog X.w (upd H a o) h' a o) :
  Inv X pins σ (upd H a o) { s with heap:=h',toks:=t' }:=I.un (Un.laid k hp (I.aU.fresh hp)) (I.aU.laid k hp new)
theorem Inv.write{x e:Addr}{o:HO}{t':Nat}(I:Inv X pins σ H s)(mu:AN (H x))(he:e=x\/H e=some (.own x))(k:∀b u,b≠e->s.heap.get? b=some u->h'.get? b=some u)(tT:∃u,h'.get? e=some u)
  (new:fk X.prog X.w (upd H x o) h' x o):Inv X pins σ (upd H x o) { s with heap:=h',toks:=t' }:=I.un (Un.write mu he k tT) (I.aU.write mu he k tT new)
theorem Inv.weak{aR:List (Option V)}(I:Inv X pins σ H s)(hl:aR.length=σ.length)(w:∀(i:Nat) v,aR[i]?=some (some v)->σ[i]?=some (some v)):Inv X pins aR H s :=
 ⟨I.ok,I.os,I.bare,I.base,let⟨m,hn,oZ⟩:=I.loc;⟨m,hn,λi x v e1 e2 e3=>oZ i x v e1 (w i v e2) e3⟩,I.cell,I.free,I.jM,I.pin,I.aU,hl.trans I.len⟩
theorem Inv.Ni{EN:List (Addr × Obj)}(I:Inv X pins σ H s)(h:∀p∈EN,s.heap.get? p.1=some p.2/\H p.1=none/\p.1≠X.env.locals/\p.1 ∉ X.fs/\∀v,p.2.data≠.cell v):Inv X EN σ H s :=
 ⟨I.ok,I.os,I.bare,I.base,I.loc,I.cell,I.free,I.jM,λp hp=>(cE.mp hp).elim (λz=>I.pin p (fE _ z)) (h p),I.aU,I.len⟩
theorem Nj{N:List Str}(hN:N.Nodup){i j:Nat}{x:Str}(a:N[i]?=some x)(b:N[j]?=some x):i=j:=by
 obtain⟨h1,e1⟩:=jI.mp a
 obtain⟨h2,e2⟩:=jI.mp b
 exact(List.getElem_inj hN).mp (e1.trans e2.symm)
theorem YG{M:Model}{A:Around}{E:Value->Shared->Prop}{i:Nat}{x:Str}{v:V}{u:Value}{Q:Unit->Shared->Prop}(I:Inv X pins σ H s)(hN:X.N.Nodup)(hi:X.N[i]?=some x)(hx:Loc X.env.scope x)(r:RelV v u)
  (h:∀s',Inv X pins (σ.set i (some v)) H s'->(∃a,Heap.SameBut a s.heap s'.heap/\(a=X.env.locals\/X.env.cells.lookup x=some a))->Q () s') (hf:X.fn x=true\/X.env.scope.names.lookup x=some .local:=by first | exact .inl rfl | exact .inr rfl | assumption):wpAny M A (storeName X.env x u) Q E s:=by
 obtain⟨m,hn,hl⟩:=id I.loc
 have YH:(X.env.scope.kind==.class||(X.env.scope.kind==.module&&X.env.locals != X.env.globals))=false:=by rw[I.ok.kind];rfl
 have Nk:i<σ.length:=by rw[I.len];exact(jI.mp hi).1
 have oX:=I.oX
 have tracked:∀{a:Addr} {h':Heap},(∃o,s.heap.get? a=some o/\H a=none)->Heap.SameBut a s.heap h'->dH X.prog X.w H h':=λ{a h'} ha hs b ob e=>by
  obtain⟨_,_,Nl⟩:=ha
  refine(I.aU b ob e).l7 (λc w' hc q=>(hs.2 c ?_).trans q) (λ_ q=>q) (λ_ _ q=>q) λ_ _ q=>q
  rintro rfl
  rcases hc with rfl | hc
  ·rw[Nl]at e;cases e
  ·rw[Nl]at hc;cases hc
 rcases hx with hk | hk
 ·refine wpAny_storeName_local hk hn (λh' w4 hs=>?_) YH
  obtain⟨oL,_,_,YI,_⟩:=id hn
  refine h _ ⟨I.ok,I.os,I.bare,⟨λb o e n hb hx=>?_,λb o e n hb hx=>?_,I.base.free,λb o e hx=>?_,I.base.kI,I.base.ka,I.base.jl⟩,⟨_,w4,λj y v' e1 e2 e3=>?_⟩,λy c e=>?_,I.free,I.jM,λp hp=>?_,tracked ⟨oL,YI,I.free⟩ hs,by simpa using I.len⟩ ⟨_,hs,.inl rfl⟩
  ·exact(hs.2 b (fS (dv (cy e) I.ok.above))).trans (I.base.keep b o e n hb hx)
  ·obtain⟨sl,e1⟩:=I.base.slot b o e n hb hx
   exact⟨sl,(hs.2 b (fS (dv (cy e) I.ok.above))).trans e1⟩
  ·obtain⟨o',e1⟩:=I.base.there b o e hx
   exact⟨o',(hs.2 b (fS (dv (cy e) I.ok.above))).trans e1⟩
  ·by_cases hj:j=i
   ·subst hj
    rw[hi]at e1;cases e1
    rw[Eh Nk]at e2
    cases e2
    exact⟨u,r,.inl ⟨hk,by simp⟩⟩
   ·rw[s8 (iw hj)]at e2
    obtain⟨u',r',q⟩:=hl j y v' e1 e2 e3
    refine⟨u',r',?_⟩
    rcases q with⟨k,e⟩ | ⟨k,c,e,z⟩
    ·refine .inl ⟨k,?_⟩
     have:y≠x:=λe=>hj (Nj hN e1 (e ▸ hi))
     simp[this,e]
    ·exact .inr ⟨k,c,e,z.sameBut hs (oX y c e)⟩
  ·obtain⟨w',z⟩:=I.cell y c e
   exact⟨w',z.sameBut hs (oX y c e)⟩
  ·obtain⟨e,n,ne,nf,d⟩:=I.pin p hp
   exact⟨(hs.2 p.1 ne).trans e,n,ne,nf,d⟩
 ·have w5:X.fn x=true:=by
   rcases hf with z | z
   ·exact z
   ·rw[z]at hk;cases hk
  obtain⟨c,hc⟩:=I.ok.has x (.inl hk)
  obtain⟨w',z⟩:=I.cell x c hc
  refine wpAny_storeName_cell I.ok.kind hk hc z (λh' w9 hs=>?_)
  obtain⟨oc,jn,YJ⟩:=id z
  refine h { s with heap:=h' } ⟨I.ok,I.os,I.bare,⟨λb o e n hb hx=>?_,λb o e n hb hx=>?_,I.base.free,λb o e hx=>?_,I.base.kI,I.base.ka,I.base.jl⟩,⟨m,hn.sameBut hs (iw (oX x c hc)),λj y v' e1 e2 e3=>?_⟩,λy c' e=>?_,I.free,I.jM,λp hp=>?_,tracked ⟨oc,jn,I.jM x c hc⟩ hs,by simpa using I.len⟩ ⟨c,hs,.inr hc⟩
  ·exact(hs.2 b (fS (dv (cy e) (I.ok.qG x c w5 hc)))).trans (I.base.keep b o e n hb hx)
  ·obtain⟨sl,e1⟩:=I.base.slot b o e n hb hx
   exact⟨sl,(hs.2 b (fS (dv (cy e) (I.ok.qG x c w5 hc)))).trans e1⟩
  ·obtain⟨o',e1⟩:=I.base.there b o e hx
   exact⟨o',(hs.2 b (fS (dv (cy e) (I.ok.qG x c w5 hc)))).trans e1⟩
  ·by_cases hj:j=i
   ·subst hj
    rw[hi]at e1;cases e1
    rw[Eh Nk]at e2
    cases e2
    exact⟨u,r,.inr ⟨.inl hk,c,hc,w9⟩⟩
   ·rw[s8 (iw hj)]at e2
    obtain⟨u',r',q⟩:=hl j y v' e1 e2 e3
    refine⟨u',r',?_⟩
    rcases q with q | ⟨k,c',e,z'⟩
    ·exact .inl q
    ·refine .inr ⟨k,c',e,z'.sameBut hs ?_⟩
     rintro rfl
     exact hj (Nj hN e1 (I.ok.inj _ _ _ e hc ▸ hi))
  ·by_cases Nm:c'=c
   ·subst Nm;exact⟨_,w9⟩
   ·obtain⟨w2,z2⟩:=I.cell y c' e
    exact⟨w2,z2.sameBut hs Nm⟩
  ·obtain⟨e,n,ne,nf,d⟩:=I.pin p hp
   refine⟨(hs.2 p.1 ?_).trans e,n,ne,nf,d⟩
   intro q
   rw[q,jn]at e
   have q':oc=p.2:=de e
   exact d w' (by rw[<-q'];exact YJ)
theorem EO{M:Model}{A:Around}{E:Value->Shared->Prop}{i:Nat}{x:Str}{v:V}{u:Value}{Q:Unit->Shared->Prop}(I:Inv X pins σ H s)(hN:X.N.Nodup)(hi:X.N[i]?=some x)(hx:Loc X.env.scope x)(r:RelV v u)
  (h:∀s',Inv X pins (σ.set i (some v)) H s'->Q () s') (hf:X.fn x=true\/X.env.scope.names.lookup x=some .local:=by first | exact .inl rfl | exact .inr rfl | assumption):wpAny M A (storeName X.env x u) Q E s :=
 YG I hN hi hx r (λs' I' _=>h s' I') hf
theorem Inv.YK{s':Shared}{ch:List Addr}(I:Inv X pins σ H s)(ho:s'.os=s.os)(u:Un (jm X.stack) ch H H' s.heap s'.heap)(aU:dH X.prog X.w H' s'.heap)(hg:AllBare s'.gens)
  (mh:∀b∈ch,(b∈X.ex\/X.eX.heap.objs.size<=b)/\b≠X.env.locals/\(∀x c,X.env.cells.lookup x=some c->c≠b)/\∀p∈X.pn++pins,p.1≠b):Inv X pins σ H' s':=by
 obtain⟨h',g',d',t',o'⟩:=s'
 have e:o'=s.os:=ho
 subst e
 exact I.call (g':=g') (t':=t') (d':=d') u aU hg mh
end
noncomputable abbrev XK:=Value->Option Addr->Hp->Prop
noncomputable abbrev St:=List (Option V)
noncomputable abbrev VK:=V->Hp->Prop
noncomputable abbrev TE:=St->Hp->VK->Prop
noncomputable abbrev TT:=St->Hp->(Bool->Hp->Prop)->Prop
noncomputable abbrev TA:=St->Hp->(List V->Hp->Prop)->Prop
structure Ends where
 nx:St->Hp->Prop
 rt:VK
 bk:St->Hp->Prop:=λ_ _=>False
 ct:St->Hp->Prop:=λ_ _=>False
noncomputable abbrev TS:=Ends->St->Hp->Prop
noncomputable def EP(X:Cx)(pins:List (Addr × Obj))(σ:St)(Q:VK)(u:Value)(s':Shared):Prop:=∃v H',Inv X pins σ H' s'/\RelV v u/\Q v H'
noncomputable def TP(X:Cx)(pins:List (Addr × Obj))(σ:St)(Q:Bool->Hp->Prop)(b:Bool)(s':Shared):Prop:=∃H',Inv X pins σ H' s'/\Q b H'
noncomputable def AP(X:Cx)(pins:List (Addr × Obj))(σ:St)(Q:List V->Hp->Prop)(us:List Value)(s':Shared):Prop:=∃vs H',Inv X pins σ H' s'/\Vals vs us/\Q vs H'
noncomputable def SP(X:Cx)(pins:List (Addr × Obj))(D:Ends)(f:Flow)(s':Shared):Prop :=
 match f with
 | .next=>∃aR H',Inv X pins aR H' s'/\D.nx aR H'
 | .brk=>∃aR H',Inv X pins aR H' s'/\D.bk aR H'
 | .cont=>∃aR H',Inv X pins aR H' s'/\D.ct aR H'
 | .ret u=>∃v aR H',Inv X pins aR H' s'/\RelV v u/\D.rt v H'
noncomputable def PE(X:Cx)(e:Expr)(t:TE):Prop :=
 ∀(pins:List (Addr × Obj)) (s:Shared) (σ:St) (H:Hp) (Q:VK),Inv X pins σ H s->t σ H Q->wpAny (model X.prog X.w) X.A (eval e X.env) (EP X pins σ Q) X.xe s
noncomputable def PT(X:Cx)(e:Expr)(t:TT):Prop :=
 ∀(pins:List (Addr × Obj)) (s:Shared) (σ:St) (H:Hp) (Q:Bool->Hp->Prop),Inv X pins σ H s->t σ H Q->wpAny (model X.prog X.w) X.A (isTrue e X.env (eval e X.env)) (TP X pins σ Q) X.xe s
noncomputable def PW(X:Cx)(e:Expr)(t:TT):Prop :=
 ∀(whole:Sem Value) (pins:List (Addr × Obj)) (s:Shared) (σ:St) (H:Hp) (Q:Bool->Hp->Prop),Inv X pins σ H s->t σ H Q->wpAny (model X.prog X.w) X.A (isTrue e X.env whole) (TP X pins σ Q) X.xe s
theorem PW.pt{X:Cx}{e:Expr}{t:TT}(h:PW X e t):PT X e t:=h _
noncomputable def PA(X:Cx)(es:List Expr)(t:TA):Prop :=
 ∀(pos:Pos) (pins:List (Addr × Obj)) (s:Shared) (σ:St) (H:Hp) (Q:List V->Hp->Prop),Inv X pins σ H s->t σ H Q->wpAny (model X.prog X.w) X.A (spliced (backTo pos (starEach es X.env))) (AP X pins σ Q) X.xe s
noncomputable def PS(X:Cx)(st:Stmt)(t:TS):Prop :=
 ∀(pins:List (Addr × Obj)) (s:Shared) (σ:St) (H:Hp) (D:Ends),Inv X pins σ H s->t D σ H->wpAny (model X.prog X.w) X.A (exec st X.env) (SP X pins D) X.xe s
noncomputable def PSs(X:Cx)(st:List Stmt)(t:TS):Prop :=
 ∀(pins:List (Addr × Obj)) (s:Shared) (σ:St) (H:Hp) (D:Ends),Inv X pins σ H s->t D σ H->wpAny (model X.prog X.w) X.A (execs st X.env) (SP X pins D) X.xe s
theorem aV{α:Type}{t:Sem α}{Q Q':α->Shared->Prop}{M:Model}{A:Around}{E:Value->Shared->Prop}{s:Shared}(h:wpAny M A t Q E s)(hQ:∀a s,Q a s->Q' a s):wpAny M A t Q' E s:=wpAny_mono h hQ λ_ _ x=>x
end L2
namespace L2
open PySem PySem.Spec PyProof.Rows
section
variable{X:Cx}
noncomputable def Nn(i:Nat):TE:=λσ H Q=>∃v,σ[i]?=some (some v)/\Q v H
noncomputable def tC(v:V):TE:=λ_ H Q=>Q v H
theorem tX{i:Nat}{x:Str}{pos:Pos}(hN:X.N[i]?=some x)(hv:m9 X.env.scope x)(hd:(x==("__debug__":Str))=false:=by decide)(dh:(x==("__classdict__":Str))=false:=by decide):PE X (.Name x pos) (Nn i):=by
 intro pins s σ H Q I h
 obtain⟨v,e,h⟩:=h
 obtain⟨m,hn,hl⟩:=I.loc
 obtain⟨u,r,l⟩:=hl i x v hN e hv
 have fin:EP X pins σ Q u s:=⟨v,H,I,r,h⟩
 rcases l with⟨hk,hm⟩ | ⟨hk,c,hc,AR⟩
 ·exact wpAny_Name (wpAny_loadName_local I.ok.kind hk hn hm fin) hd
 ·rcases hk with hk | hk
  ·exact wpAny_Name (wpAny_loadName_cell I.ok.kind hk hc AR fin) hd
  ·exact wpAny_Name (wpAny_loadName_free I.ok.kind hk hc AR fin dh) hd
theorem qH{i j pos}:PE X (.Constant (.int i) j pos) (tC (.int i)):=λ_ _ _ H _ I h=>wpAny_Constant_int ⟨.int i,H,I.tok _,⟨_,rfl⟩,h⟩
theorem YL{b j pos}:PE X (.Constant (.bool b) j pos) (tC (.bl b)):=λ_ _ _ H _ I h=>Constant_bool ⟨.bl b,H,I,rfl,h⟩
theorem YM{j pos}:PE X (.Constant .none j pos) (tC .ax):=λ_ _ _ H _ I h=>Constant_none ⟨.ax,H,I,rfl,h⟩
noncomputable def Gl(X:Cx)(x:Str):Prop:=X.env.kindOf x=some .globalImplicit
theorem AS{E:Value->Shared->Prop}{pins:List (Addr × Obj)}{s:Shared}{σ:St}{H:Hp}{x:Str}{u:Value}{pos:Pos}{Q:Value->Shared->Prop}(I:Inv X pins σ H s)(hg:Gl X x)(hm:X.mg x=some u)(h:Q u s)
  (hd:(x==("__debug__":Str))=false:=by decide):wpAny (model X.prog X.w) X.A (eval (.Name x pos) X.env) Q E s :=
 X1 I.ok.kind hg (Calls.loadGlobal_global (by rw[I.ok.glob];exact I.mod.glob.keeps I.bk) hm h) hd
theorem qI{E:Value->Shared->Prop}{pins:List (Addr × Obj)}{s:Shared}{σ:St}{H:Hp}{x:Str}{u:Value}{pos:Pos}{Q:Value->Shared->Prop}(I:Inv X pins σ H s)(hg:Gl X x)(hm:X.mg x=none)(hv:bootBuiltins x=some u)(h:Q u s)
  (hn:x≠"__name__":=by decide) (hd:(x==("__debug__":Str))=false:=by decide):wpAny (model X.prog X.w) X.A (eval (.Name x pos) X.env) Q E s:=by
 obtain⟨mb,h1,h2⟩:=I.mod.blt
 exact X1 I.ok.kind hg (Calls.loadGlobal_builtin (by rw[I.ok.glob];exact I.mod.glob.keeps I.bk) hm (by rw[I.ok.blt];exact h1.keeps I.bk) ((h2 x hn).trans hv) h) hd
theorem YN{x:Str}{v:V}{u:Value}{pos:Pos}(hg:Gl X x)(hm:X.mg x=some u)(r:RelV v u)(hd:(x==("__debug__":Str))=false:=by decide):PE X (.Name x pos) (tC v) :=
 λ_ _ _ H _ I h=>AS I hg hm ⟨v,H,I,r,h⟩ hd
theorem YO{x:Str}{v:V}{u:Value}{pos:Pos}(hg:Gl X x)(hm:X.mg x=none)(hv:bootBuiltins x=some u)(r:RelV v u)(hn:x≠"__name__":=by decide)(hd:(x==("__debug__":Str))=false:=by decide):PE X (.Name x pos) (tC v) :=
 λ_ _ _ H _ I h=>qI I hg hm hv ⟨v,H,I,r,h⟩ hn hd
variable{a b:Expr}{ta tb:TE}{pos:Pos}
noncomputable def tB(t:TE):TT:=λσ H Q=>t σ H λx H1=>∃c,x=.bl c/\Q c H1
theorem AU{e:Expr}{t:TE}(h:PE X e t)(he:∀whole,isTrue e X.env whole=(do let v<-whole;standAt e.pos;holding [v] (truthy v)):=by intro _;rfl):PT X e (tB t):=by
 intro pins s σ H Q I hw
 refine isTrue_plain (aV (h pins s σ H _ I hw) λv s1 ⟨x,H1,I1,r1,q1⟩=>?_) (he _)
 obtain⟨d,rfl,q⟩:=q1
 cases r1
 exact wpAny_truthy_bool ⟨H1,I1,q⟩
variable{tA AV:TT}{rest:List Expr}
noncomputable def YQ(t u:TT):TT:=λσ H Q=>t σ H λc H1=>if c=true then u σ H1 Q else Q false H1
noncomputable def YR(t u:TT):TT:=λσ H Q=>t σ H λc H1=>if c=true then Q true H1 else u σ H1 Q
noncomputable def YS(t:TT):TT:=λσ H Q=>t σ H λc H1=>Q (!c) H1
theorem Np(ha:PT X a tA):PW X (.BoolOp .And [a] pos) tA:=by
 intro wh pins s σ H Q I h
 refine isTrue_and (aV (ha pins s σ H Q I h) λc s1 e=>?_)
 cases c with
 | true=>exact isTrue_and_nil e
 | false=>exact e
theorem qJ(ha:PT X a tA):PW X (.BoolOp .Or [a] pos) tA:=by
 intro wh pins s σ H Q I h
 refine isTrue_or (aV (ha pins s σ H Q I h) λc s1 e=>?_)
 cases c with
 | false=>exact isTrue_or_nil e
 | true=>exact e
theorem YT(ha:PT X a tA)(hb:PW X (.BoolOp .And (b::rest) pos) AV):PW X (.BoolOp .And (a::b::rest) pos) (YQ tA AV):=by
 intro wh pins s σ H Q I h
 refine isTrue_and (aV (ha pins s σ H _ I h) λc s1 ⟨H1,I1,q1⟩=>?_)
 cases c with
 | true=>exact hb wh pins s1 σ H1 Q I1 q1
 | false=>exact⟨H1,I1,q1⟩
theorem Nq(ha:PT X a tA)(hb:PW X (.BoolOp .Or (b::rest) pos) AV):PW X (.BoolOp .Or (a::b::rest) pos) (YR tA AV):=by
 intro wh pins s σ H Q I h
 refine isTrue_or (aV (ha pins s σ H _ I h) λc s1 ⟨H1,I1,q1⟩=>?_)
 cases c with
 | true=>exact⟨H1,I1,q1⟩
 | false=>exact hb wh pins s1 σ H1 Q I1 q1
theorem AW(ha:PT X a tA):PT X (.UnaryOp .Not a pos) (YS tA):=by
 intro pins s σ H Q I h
 exact isTrue_not (ha pins s σ H (λc H1=>Q (!c) H1) I h)
noncomputable def YU(ta tb:TE):TE:=λσ H Q=>ta σ H λx H1=>∃c,x=.bl c/\if c=true then tb σ H1 Q else Q (.bl false) H1
noncomputable def YV(ta:TE):TE:=λσ H Q=>ta σ H λx H1=>∃c,x=.bl c/\Q (.bl (!c)) H1
theorem tY{op}{t:TE}(h:PE X a t):PE X (.BoolOp op [a] pos) t:=λpins s σ H Q I hw=>BoolOp_one (h pins s σ H Q I hw)
theorem YW(ha:PE X a ta)(hb:PE X (.BoolOp .And (b::rest) pos) tb):PE X (.BoolOp .And (a::b::rest) pos) (YU ta tb):=by
 intro pins s σ H Q I h
 refine BoolOp_and (aV (ha pins s σ H _ I h) λv s1 ⟨x,H1,I1,r1,q1⟩=>?_)
 obtain⟨c,rfl,q1⟩:=q1
 cases r1
 refine wpAny_truthy_bool ?_
 cases c with
 | true=>exact hb pins s1 σ H1 Q I1 q1
 | false=>exact⟨.bl false,H1,I1,rfl,q1⟩
theorem YX(ha:PE X a ta):PE X (.UnaryOp .Not a pos) (YV ta):=by
 intro pins s σ H Q I h
 refine UnaryOp_ (aV (ha pins s σ H _ I h) λv s1 ⟨x,H1,I1,r1,q1⟩=>?_)
 obtain⟨c,rfl,q1⟩:=q1
 cases r1
 exact not_of (wpAny_truthy_bool ⟨.bl (!c),H1,I1,rfl,q1⟩)
noncomputable def YY(t:TT)(ta tb:TE):TE:=λσ H Q=>t σ H λc H1=>if c=true then ta σ H1 Q else tb σ H1 Q
theorem YZ{c:Expr}(hc:PT X c tA)(ha:PE X a ta)(hb:PE X b tb):PE X (.IfExp c a b pos) (YY tA ta tb):=by
 intro pins s σ H Q I h
 refine wpAny_IfExp (aV (hc pins s σ H _ I h) λd s1 ⟨H1,I1,q1⟩=>?_)
 cases d with
 | true=>exact ha pins s1 σ H1 Q I1 q1
 | false=>exact hb pins s1 σ H1 Q I1 q1
end
end L2
namespace L2
open PySem PySem.Spec PyProof.Rows
noncomputable def bS(K:PySem.W.Frag)(H:Hp)(a:Addr)(xs:List V):Prop :=
 Rd H a (.lst xs) \/
  ∃(o:Obj) (its:Array Value) (n:Nat),K.lookup a=some o/\o.cls=.type "list"/\o.dict=none/\o.data=.seq its n/\its.size<=sizeLine/\Vals xs its.toList
noncomputable def iz(K:PySem.W.Frag)(H:Hp)(a:Addr)(xs:List V):Prop :=
 Rd H a (.tup xs) \/
  ∃(o:Obj) (its:Array Value) (n:Nat),K.lookup a=some o/\o.cls=.type "tuple"/\o.data=.seq its n/\its.size<=sizeLine/\Vals xs its.toList
noncomputable def Y0:Value->Option V
 | .none=>some .ax
 | .bool b=>some (.bl b)
 | .int i _=>some (.int i)
 | .str x _=>some (.str x)
 | .bytes b _=>some (.AL b)
 | .float b _=>some (.qD b)
 | .ref a=>some (.ref a)
 | .type n=>some (.ty n)
 | _=>none
theorem RelV.abs{x:V}{u:Value}(r:RelV x u):Y0 u=some x:=by
 cases x with
 | ax=>cases r;rfl
 | bl _=>cases r;rfl
 | int _=>obtain⟨t,rfl⟩:=r;rfl
 | str _=>obtain⟨t,rfl⟩:=r;rfl
 | AL _=>obtain⟨t,rfl⟩:=r;rfl
 | qD _=>obtain⟨t,rfl⟩:=r;rfl
 | ref _=>cases r;rfl
 | ty _=>cases r;rfl
theorem RelV.inj{x y:V}{u:Value}(r:RelV x u)(q:RelV y u):x=y:=de (r.abs.symm.trans q.abs)
theorem Vals.inj:∀{xs ys:List V} {us:List Value},Vals xs us->Vals ys us->xs=ys
 | _,_,_,.nil,.nil=>rfl
 | _,_,_,.cons r t,.cons r' t'=>by rw[r.inj r',Vals.inj t t']
section
variable{X:Cx}{pins:List (Addr × Obj)}{σ:St}{H:Hp}{s:Shared}{a:Addr}{xs ys:List V}
theorem bS.of{K:PySem.W.Frag}(h:H a=some (.lst xs)):bS K H a xs:=.inl (.inl h)
theorem iz.of{K:PySem.W.Frag}(h:H a=some (.tup xs)):iz K H a xs:=.inl (.inl h)
theorem Inv.list(I:Inv X pins σ H s)(h:bS X.K H a xs):∃its:List Value,Vals xs its/\PlainL s.heap a its.toArray/\xs.length<=sizeLine:=by
 rcases h with h | ⟨o,its,n,hk,hc,hd,hs,hz,r⟩
 ·obtain⟨z,its,n,r,e⟩:=h.ok I.aU
  exact⟨its,r,⟨_,n,e,rfl,rfl,rfl⟩,z⟩
 ·refine⟨its.toList,r,⟨o,n,I.dA a o hk,hc,hd,by simpa using hs⟩,?_⟩
  have e:=r.length
  simp only[wD]at e
  omega
theorem Inv.tuple(I:Inv X pins σ H s)(h:iz X.K H a xs):∃its:List Value,Vals xs its/\IsTup s.heap a its.toArray/\xs.length<=sizeLine:=by
 rcases h with h | ⟨o,its,n,hk,hc,hs,hz,r⟩
 ·obtain⟨z,its,r,p⟩:=h.ok I.aU
  exact⟨its,r,p,z⟩
 ·refine⟨its.toList,r,⟨o,I.dA a o hk,hc,n,by simpa using hs⟩,?_⟩
  have e:=r.length
  simp only[wD]at e
  omega
theorem Inv.AX(I:Inv X pins σ H s)(h:bS X.K H a xs)(h':bS X.K H a ys):xs=ys:=by
 obtain⟨its,r,⟨o,n,e,_,_,d⟩,_⟩:=I.list h
 obtain⟨its',r',⟨o',n',e',_,_,d'⟩,_⟩:=I.list h'
 rw[e]at e';cases e'
 rw[d]at d'
 injection d' with d1 _
 have:its=its':=by simpa using congrArg Array.toList d1
 subst this
 exact r.inj r'
end
noncomputable abbrev Cx.kK(X:Cx)(E:Value->Shared->Prop):Cx:={ X with xe:=E }
noncomputable abbrev Cx.h7(X:Cx):Cx:=X.kK λ_ _=>False
theorem Cx.Ok.kK{X:Cx}(ok:X.Ok)(E:Value->Shared->Prop):(X.kK E).Ok :=
 ⟨ok.mod,ok.kind,ok.glob,ok.blt,ok.above,ok.inj,ok.has,ok.qG,ok.hd,ok.frames,ok.wW,ok.wX,ok.bs,ok.kb,ok.tU,ok.tV,ok.hZ,ok.ke⟩
theorem Cx.Ok.nh{X:Cx}{E:Value->Shared->Prop}(ok:(X.kK E).Ok):X.Ok :=
 ⟨ok.mod,ok.kind,ok.glob,ok.blt,ok.above,ok.inj,ok.has,ok.qG,ok.hd,ok.frames,ok.wW,ok.wX,ok.bs,ok.kb,ok.tU,ok.tV,ok.hZ,ok.ke⟩
section
variable{X:Cx}{pins:List (Addr × Obj)}{σ:St}{H:Hp}{s:Shared}{E:Value->Shared->Prop}
theorem Inv.kK(I:Inv X pins σ H s)(E:Value->Shared->Prop):Inv (X.kK E) pins σ H s:=⟨I.ok.kK E,I.os,I.bare,I.base,I.loc,I.cell,I.free,I.jM,I.pin,I.aU,I.len⟩
theorem Inv.nh(I:Inv (X.kK E) pins σ H s):Inv X pins σ H s:=⟨I.ok.nh,I.os,I.bare,I.base,I.loc,I.cell,I.free,I.jM,I.pin,I.aU,I.len⟩
theorem SP.nh{D:Ends}{f:Flow}{s':Shared}(h:SP (X.kK E) pins D f s'):SP X pins D f s':=by
 cases f with
 | next=>obtain⟨aR,H',I,q⟩:=h;exact⟨aR,H',I.nh,q⟩
 | brk=>obtain⟨aR,H',I,q⟩:=h;exact⟨aR,H',I.nh,q⟩
 | cont=>obtain⟨aR,H',I,q⟩:=h;exact⟨aR,H',I.nh,q⟩
 | ret u=>obtain⟨v,aR,H',I,r,q⟩:=h;exact⟨v,aR,H',I.nh,r,q⟩
theorem PE.h7{e:Expr}{t:TE}(h:PE X.h7 e t):PE X e t:=λpins s σ H Q I hw =>
 wpAny_mono (h pins s σ H Q (I.kK _) hw) (λ_ _ ⟨v,H',I',r,q⟩=>⟨v,H',I'.nh,r,q⟩) λ_ _ z=>gF z
theorem PSs.h7{st:List Stmt}{t:TS}(h:PSs X.h7 st t):PSs X st t:=λpins s σ H D I hw =>
 wpAny_mono (h pins s σ H D (I.kK _) hw) (λ_ _ q=>q.nh) λ_ _ z=>gF z
end
section
variable{X:Cx}{st:Stmt}{rest:List Stmt}{t u:TS}{e:Expr}{te:TE}{pos:Pos}
noncomputable def Y1:TS:=λD σ H=>D.nx σ H
noncomputable def Y2(t u:TS):TS:=λD σ H=>t { D with nx:=u D } σ H
theorem qK:PSs X [] Y1:=λ_ _ σ H _ I h=>wpAny_execs_nil ⟨σ,H,I,h⟩
theorem fm(h1:PS X st t)(h2:PSs X rest u):PSs X (st::rest) (Y2 t u):=by
 intro pins s σ H D I h
 refine wpAny_execs_cons (aV (h1 pins s σ H { D with nx:=u D } I h) λf s1 q=>?_)
 cases f with
 | next =>
  obtain⟨aR,H',I',q⟩:=q
  exact h2 pins s1 aR H' D I' q
 | ret v=>exact q
 | brk=>exact q
 | cont=>exact q
theorem jo(h1:PS X st t):PSs X [st] t:=by
 intro pins s σ H D I h
 refine wpAny_execs_cons (aV (h1 pins s σ H D I h) λf s1 q=>?_)
 cases f with
 | next=>exact wpAny_execs_nil q
 | ret v=>exact q
 | brk=>exact q
 | cont=>exact q
theorem Inv.quiet{pins:List (Addr × Obj)}{σ:St}{H:Hp}{s:Shared}(I:Inv X pins σ H s):interactive X.env=false:=by simp[interactive,I.ok.kind]
noncomputable def Y3(te:TE):TS:=λD σ H=>te σ H λ_ H1=>D.nx σ H1
theorem qL(he:PE X e te)(hs:swapsWith e none pos.line X.env=pure false:=by rfl):PS X (.Expr e pos) (Y3 te):=by
 intro pins s σ H D I h
 exact wpAny_Expr_any (aV (he pins s σ H _ I h) λv s1 ⟨x,H1,I1,r1,q1⟩=>⟨σ,H1,I1,q1⟩) I.quiet hs
noncomputable def Y4(te:TE):TS:=λD σ H=>te σ H D.rt
theorem Y5(he:PE X e te):PS X (.Return (some e) pos) (Y4 te):=by
 intro pins s σ H D I h
 exact wpAny_Return_some (aV (he pins s σ H _ I h) λv s1 ⟨x,H1,I1,r1,q1⟩=>⟨x,σ,H1,I1,r1,q1⟩)
noncomputable def Y6(c:TT)(t u:TS):TS:=λD σ H=>c σ H λb H1=>if b=true then t D σ H1 else u D σ H1
theorem qM{c:Expr}{a b:List Stmt}{tc:TT}(hc:PT X c tc)(ha:PSs X a t)(hb:PSs X b u):PS X (.If c a b pos) (Y6 tc t u):=by
 intro pins s σ H D I h
 refine wpAny_If (aV (hc pins s σ H _ I h) λd s1 ⟨H1,I1,q1⟩=>?_)
 cases d with
 | true=>exact ha pins s1 σ H1 D I1 q1
 | false=>exact hb pins s1 σ H1 D I1 q1
noncomputable def Y7:TS:=λ_ _ _=>False
theorem qN:PS X st Y7:=λ_ _ _ _ _ _ h=>h.elim
end
noncomputable abbrev TG:=V->St->Hp->(St->Hp->Prop)->Prop
noncomputable abbrev qO:=List V->St->Hp->(St->Hp->Prop)->Prop
noncomputable def PG(X:Cx)(target:Expr)(t:TG):Prop :=
 ∀(pins:List (Addr × Obj)) (s:Shared) (σ:St) (H:Hp) (v:V) (u:Value) (Q:St->Hp->Prop),Inv X pins σ H s->RelV v u->t v σ H Q ->
  wpAny (model X.prog X.w) X.A (assign target X.env u) (λ_ s'=>∃aR H',Inv X pins aR H' s'/\Q aR H') X.xe s
noncomputable def AY(X:Cx)(ts:List Expr)(t:qO):Prop :=
 ∀(pins:List (Addr × Obj)) (s:Shared) (σ:St) (H:Hp) (vs:List V) (us:List Value) (Q:St->Hp->Prop),Inv X pins σ H s->Vals vs us->t vs σ H Q ->
  wpAny (model X.prog X.w) X.A (assignInOrder ((assignEach ts X.env).map (·.2)) us) (λ_ s'=>∃aR H',Inv X pins aR H' s'/\Q aR H') X.xe s
noncomputable abbrev ER:=V->V->V->Hp->(Hp->Prop)->Prop
noncomputable def Nr(X:Cx)(t:ER):Prop :=
 ∀(pins:List (Addr × Obj)) (s:Shared) (σ:St) (H:Hp) (o i v:V) (ov iv u:Value) (Q:Hp->Prop),Inv X pins σ H s->RelV o ov->RelV i iv->RelV v u->t o i v H Q ->
  wpAny (model X.prog X.w) X.A (setItem ov iv u) (λ_ s'=>∃H',Inv X pins σ H' s'/\Q H') X.xe s
noncomputable abbrev ES:=V->V->Hp->VK->Prop
noncomputable def Y8(X:Cx)(op:Operator)(t:ES):Prop :=
 ∀(pins:List (Addr × Obj)) (s:Shared) (σ:St) (H:Hp) (x y:V) (v u:Value) (Q:VK),Inv X pins σ H s->RelV x v->RelV y u->t x y H Q ->
  wpAny (model X.prog X.w) X.A (inplaceOp op v u) (EP X pins σ Q) X.xe s
section
variable{X:Cx}{pos:Pos}
noncomputable def AZ(i:Nat):TG:=λv σ H Q=>Q (σ.set i (some v)) H
theorem A6{i:Nat}{x:Str}(hN:X.N.Nodup)(hi:X.N[i]?=some x)(hx:Loc X.env.scope x)(hf:X.fn x=true\/X.env.scope.names.lookup x=some .local:=by first | exact .inl rfl | exact .inr rfl | assumption):PG X (.Name x pos) (AZ i):=by
 intro pins s σ H v u Q I r h
 exact wpAny_assign_Name (EO I hN hi hx r (λs' I'=>⟨_,H,I',h⟩) hf)
noncomputable def Y9:qO:=λvs σ H Q=>vs=[]/\Q σ H
noncomputable def Za(t:TG)(u:qO):qO:=λvs σ H Q=>∃v r,vs=v::r/\t v σ H λaR H'=>u r aR H' Q
theorem Zb:AY X [] Y9:=by
 intro pins s σ H vs us Q I r h
 obtain⟨e,h⟩:=h
 subst e
 cases r
 exact assignInOrder_nil ⟨σ,H,I,h⟩
theorem Nt{e:Expr}{es:List Expr}{t:TG}{u:qO}(h1:PG X e t)(h2:AY X es u)
  (hs:(assignEach (e::es) X.env).map (·.2)=assign e X.env::(assignEach es X.env).map (·.2):=by rfl):AY X (e::es) (Za t u):=by
 intro pins s σ H vs us Q I r h
 obtain⟨v,vr,e1,h⟩:=h
 subst e1
 cases r with
 | cons r rr =>
  rw[hs]
  refine assignInOrder_cons (aV (h1 pins s σ H _ _ _ I r h) λ_ s1 ⟨h8,H1,I1,q1⟩=>?_)
  exact h2 pins s1 h8 H1 _ _ Q I1 rr q1
noncomputable def Zc(K:PySem.W.Frag)(n:Nat)(t:qO):TG:=λv σ H Q=>∃a xs,v=.ref a/\iz K H a xs/\xs.length=n/\t xs σ H Q
theorem Zd{es:List Expr}{k:Nat}{t:qO}{n:Nat}(hc:X.calm=true)(h:AY X es t)
  (hn:(assignEach es X.env).length=n:=by rfl) (h9:(assignEach es X.env).findIdx? (·.1)=none:=by rfl):PG X (.Tuple es k pos) (Zc X.K n t):=by
 intro pins s σ H v u Q I r hw
 obtain⟨a,xs,e1,hq,hl,hw⟩:=hw
 subst e1
 cases r
 obtain⟨its,rv,ht,hz⟩:=I.tuple hq
 refine assign_Tuple_tuple (I.ok.hd hc) ht (by simp[hn,<- hl,rv.length]) h9 λh' hx=>?_
 have I1:Inv X pins σ H { s with heap:=h' }:=I.kept (t':=s.toks) λb o e=>hx b o (fS (cy e)) e
 exact h pins _ σ H xs _ Q I1 (by simpa using rv) hw
noncomputable def Ze(to ti:TE)(t:ER):TG:=λv σ H Q=>to σ H λo H1=>ti σ H1 λi H2=>t o i v H2 λH3=>Q σ H3
theorem Zf{o i:Expr}{to ti:TE}{t:ER}(ho:PE X o to)(hi:PE X i ti)(hs:Nr X t)
  (ha:∀v,assign (.Subscript o i pos) X.env v=(do
   let ov<-holding [v] (eval o X.env)
   let iv<-holding [v,ov] (eval i X.env)
   standAt pos
   holding [v,ov,iv] (setItem ov iv v)
   release [v,ov,iv] []):=by intro _;rfl):PG X (.Subscript o i pos) (Ze to ti t):=by
 intro pins s σ H v u Q I r h
 rw[ha]
 refine wpAny_bind (wpAny_holding (aV (ho pins s σ H _ I h) λov s1 ⟨x,H1,I1,r1,q1⟩=>?_))
 refine wpAny_bind (wpAny_holding (aV (hi pins s1 σ H1 _ I1 q1) λiv s2 ⟨y,H2,I2,r2,q2⟩=>?_))
 refine wpAny_bind (wpAny_standAt (wpAny_bind (wpAny_holding (aV (hs pins s2 σ H2 x y v ov iv u _ I2 r1 r2 r q2) λ_ s3 ⟨H3,I3,q3⟩=>?_))))
 exact wpAny_release ⟨σ,H3,I3,q3⟩
noncomputable def ET(te:TE)(g:TG):TS:=λD σ H=>te σ H λx H1=>g x σ H1 D.nx
theorem Zg{tg e:Expr}{te:TE}{g:TG}(he:PE X e te)(hg:PG X tg g)(hs:swapsWithSole [tg] e pos.line X.env=pure false:=by rfl)(hw:swappedStores [tg] e X.env=pure none:=by rfl)
  (h1:(assignEach [tg] X.env).map (·.2)=[assign tg X.env]:=by rfl):PS X (.Assign [tg] e pos) (ET te g):=by
 intro pins s σ H D I h
 refine wpAny_Assign_stores (aV (he pins s σ H _ I h) λv s1 ⟨x,H1,I1,r1,q1⟩=>?_) hs hw
 rw[h1]
 exact aV (hg pins s1 σ H1 x v _ I1 r1 q1) λ_ s2 q=>q
theorem EU{i:Nat}{x:Str}{e:Expr}{te:TE}{pos':Pos}(hN:X.N.Nodup)(hi:X.N[i]?=some x)(hx:Loc X.env.scope x)(he:PE X e te)(hs:swapsWith e (some (.Name x pos')) pos.line X.env=pure false:=by rfl)(hf:X.fn x=true\/X.env.scope.names.lookup x=some .local:=by first | exact .inl rfl | exact .inr rfl | assumption) :
  PS X (.Assign [.Name x pos'] e pos) (ET te (AZ i)):=by
 intro pins s σ H D I h
 refine wpAny_Assign_Name (aV (he pins s σ H _ I h) λv s1 ⟨y,H1,I1,r1,q1⟩=>?_) hs
 exact EO I1 hN hi hx r1 (λs2 I2=>⟨_,H1,I2,q1⟩) hf
noncomputable def Zh(i:Nat)(te:TE)(ti:ES):TS:=λD σ H=>∃x,σ[i]?=some (some x)/\te σ H λy H1=>ti x y H1 λz H2=>D.nx (σ.set i (some z)) H2
theorem Zi{i:Nat}{x:Str}{e:Expr}{te:TE}{op:Operator}{ti:ES}{pos':Pos}(hN:X.N.Nodup)(hi:X.N[i]?=some x)(hx:Loc X.env.scope x)(he:PE X e te)(ho:Y8 X op ti)(hf:X.fn x=true\/X.env.scope.names.lookup x=some .local:=by first | exact .inl rfl | exact .inr rfl | assumption) :
  PS X (.AugAssign (.Name x pos') op e pos) (Zh i te ti):=by
 intro pins s σ H D I h
 obtain⟨v,e1,h⟩:=h
 obtain⟨m,hn,hl⟩:=I.loc
 have Zj:m9 X.env.scope x:=by rcases hx with k | k;exact .inl k;exact .inr (.inl k)
 obtain⟨u,r,l⟩:=hl i x v hi e1 Zj
 refine wpAny_AugAssign_Name ?_
 have go:wpAny (model X.prog X.w) X.A (eval e X.env) (λw qP=>wpAny (model X.prog X.w) X.A (inplaceOp op u w) (λr Zk=>wpAny (model X.prog X.w) X.A (storeName X.env x r) (λ_=>SP X pins D .next) X.xe Zk) X.xe qP) X.xe s:=by
  refine aV (he pins s σ H _ I h) λw s1 ⟨y,H1,I1,r1,q1⟩=>?_
  refine aV (ho pins s1 σ H1 v y u w _ I1 r r1 q1) λz s2 ⟨zv,H2,I2,r2,q2⟩=>?_
  exact EO I2 hN hi hx r2 (λs3 I3=>⟨_,H2,I3,q2⟩) hf
 rcases l with⟨hk,hm⟩ | ⟨hk,c,hc,AR⟩
 ·exact wpAny_loadName_local I.ok.kind hk hn hm go
 ·rcases hk with hk | hk
  ·exact wpAny_loadName_cell I.ok.kind hk hc AR go
  ·rcases hx with k | k
   ·have:X.env.scope.names.lookup x=some .free:=hk
    rw[k]at this;cases this
   ·have:X.env.scope.names.lookup x=some .free:=hk
    rw[k]at this;cases this
end
section
variable{X:Cx}{pos:Pos}
noncomputable def Zl(c:TT)(tb:TS):TS:=λD σ H=>∃W:Nat->St->Hp->Prop,(∃m,W m σ H)/\∀m σ H,W m σ H ->
 c σ H λb H1=>if b=true then ∃N:St->Hp->Prop,(∀aR H',N aR H'->∃m',m'<m/\W m' aR H')/\tb { D with nx:=N,ct:=N,bk:=D.nx } σ H1 else D.nx σ H1
theorem Zm{c:Expr}{body:List Stmt}{tc:TT}{tb:TS}(hp:PassesOwn (model X.prog X.w) X.A X.env X.xe)(hc:PT X c tc)(hb:PSs X body tb):PS X (.While c body [] pos) (Zl tc tb):=by
 intro pins s σ H D I h
 obtain⟨W,⟨m0,w0⟩,turn⟩:=h
 refine wpAny_While (codeAny_whileLoop (λn s'=>∃aR H',Inv X pins aR H' s'/\W n aR H') ?_ m0 ⟨σ,H,I,w0⟩)
 rintro n s1 ⟨h8,H1,I1,w1⟩
 refine wpAny_passesOwn hp (aV (hc pins s1 h8 H1 _ I1 (turn n h8 H1 w1)) λb s2 ⟨H2,I2,q2⟩=>?_)
 cases b with
 | true =>
  obtain⟨N,hN,q2⟩:=q2
  rw[if_pos rfl]
  refine wpAny_passesOwn hp (aV (hb pins s2 h8 H2 _ I2 q2) λf s3 q3=>?_)
  cases f with
  | next =>
   obtain⟨kL,H3,I3,n3⟩:=q3
   obtain⟨m',hm,w3⟩:=hN kL H3 n3
   exact⟨m',hm,kL,H3,I3,w3⟩
  | cont =>
   obtain⟨kL,H3,I3,n3⟩:=q3
   obtain⟨m',hm,w3⟩:=hN kL H3 n3
   exact⟨m',hm,kL,H3,I3,w3⟩
  | brk=>exact q3
  | ret v=>exact q3
 | false =>
  rw[if_neg iP]
  exact wpAny_execs_nil ⟨h8,H2,I2,q2⟩
end
structure It where
 go:Nat->Hp->Prop
 kg:Nat->Hp->V->Hp->Prop
 stop:Nat->Hp->Prop
noncomputable def jq(X:Cx)(pins:List (Addr × Obj))(H:Hp)(b:Addr):Prop :=
 H b=none/\b≠X.env.locals/\b ∉ X.fs/\(b∈X.ex\/X.eX.heap.objs.size<=b)/\(∀x c,X.env.cells.lookup x=some c->c≠b)/\∀p∈X.pn++pins,p.1≠b
theorem Inv.A8{X:Cx}{pins:List (Addr × Obj)}{σ:St}{H H':Hp}{s:Shared}{b:Addr}(I:Inv X pins σ H s)(hb:s.heap.objs.size<=b)(hn:H' b=none):jq X pins H' b:=by
 refine⟨hn,Nat.ne_of_gt (dv I.lt hb),I.Nf hb,.inr (fU I.sz hb),λx c e z=>?_,λp hp z=>?_⟩
 ·obtain⟨v,q⟩:=I.cell x c e
  exact absurd (dv q.lt (by rw[z];exact hb)) (g9 _)
 ·exact absurd (dv (cy (I.pin p hp).1) (by rw[z];exact hb)) (g9 _)
structure Turn(P:Program)(w:World)(K:PySem.W.Frag)(tg:Expr)(J:It)(fp:List Addr)(it:Addr)(tn:Nat->Heap->Prop):Prop where
 mem:it∈fp
 obj:∀i h,tn i h->∀b∈fp,∃o,h.get? b=some o/\∀v,o.data≠.cell v
 keep:∀i h h',tn i h->(∀b∈fp,∀o,h.get? b=some o->h'.get? b=some o)->tn i h'
 item:∀(X:Cx),X.prog=P->X.w=w->X.K=K->X.calm=true->∀(i:Nat) (pins:List (Addr × Obj)) (s:Shared) (σ:St) (H:Hp) (E:Value->Shared->Prop),Inv X pins σ H s->(∀b∈fp,jq X pins H b)->tn i s.heap->J.go i H ->
  wpAny (model P w) X.A (pyNext (.ref it)) (λr s1=>∃u,r=some u /\
   wpAny (model P w) X.A (letOwnedTupleGo tg (.ref it) u) (λ_ s2=>∃x H',Inv X pins σ H' s2/\RelV x u/\J.kg i H x H'/\tn (i+1) s2.heap/\∀b∈fp,H' b=none) E s1) E s
 done:∀(X:Cx),X.prog=P->X.w=w->X.K=K->X.calm=true->∀(i:Nat) (pins:List (Addr × Obj)) (s:Shared) (σ:St) (H:Hp) (E:Value->Shared->Prop),Inv X pins σ H s->(∀b∈fp,jq X pins H b)->tn i s.heap->J.stop i H ->
  wpAny (model P w) X.A (pyNext (.ref it)) (λr s1=>r=none/\Inv X pins σ H s1) E s
 self:∀(A:Around) (i:Nat) (s:Shared) (Q:Value->Shared->Prop) (E:Value->Shared->Prop),tn i s.heap->Q (.ref it) s->wpAny (model P w) A (pyIter (.ref it)) Q E s
noncomputable abbrev TI:=St->Hp->(It->Hp->Prop)->Prop
noncomputable def Nu(X:Cx)(pins:List (Addr × Obj))(σ:St)(tg:Expr)(R:It->Hp->Prop)(EV:Value)(s2:Shared):Prop :=
 ∃(it:Addr) (fp:List Addr) (tn:Nat->Heap->Prop) (J:It) (H':Hp),EV=.ref it/\Inv X pins σ H' s2/\Turn X.prog X.w X.K tg J fp it tn/\tn 0 s2.heap/\(∀b∈fp,jq X pins H' b)/\R J H'
noncomputable def PI(X:Cx)(tg iter:Expr)(wi:TI):Prop :=
 ∀(pins:List (Addr × Obj)) (s:Shared) (σ:St) (H:Hp) (R:It->Hp->Prop),Inv X pins σ H s->wi σ H R ->
  wpAny (model X.prog X.w) X.A (eval iter X.env) (λv s1=>wpAny (model X.prog X.w) X.A (pyIter v) (Nu X pins σ tg R) X.xe s1) X.xe s
theorem Nv{M:Model}{A:Around}{E:Value->Shared->Prop}{s:Shared}{tg:Expr}{it:Addr}{u:Value}{o:Obj}{n:String}{vs:Array Value}{Q:Unit->Shared->Prop}(ho:s.heap.get? it=some o)(hc:o.cls=.type n)(hd:o.data=.fields vs)
  (hn:["enumerate","zip","dict_itemiterator","dict_reverseitemiterator","odict_iterator","itertools.zip_longest","itertools.pairwise"].contains n=false) (hQ:Q () s):wpAny M A (letOwnedTupleGo tg (.ref it) u) Q E s:=by
 unfold letOwnedTupleGo
 cases tg<;>first
  | exact wpAny_pure hQ
  | (cases u<;>first
    | exact wpAny_pure hQ
    | (refine wpAny_bind (wpAny_load ho ?_)
       rw[hc,hd]
       show wpAny M A (if(["enumerate","zip","dict_itemiterator","dict_reverseitemiterator","odict_iterator","itertools.zip_longest","itertools.pairwise"].contains n&&vs[0]?==some (rawInt _))=true then _ else _) Q E s
       rw[if_neg (by intro h;rw[hn,s9]at h;cases h)]
       exact wpAny_pure hQ))
noncomputable def EW(K:PySem.W.Frag)(a:Addr):It :=
 ⟨λi H=>∃xs x,bS K H a xs/\xs[i]?=some x,λi H x H'=>H'=H/\∀xs,bS K H a xs->xs[i]?=some x,λi H=>∃xs,bS K H a xs/\xs.length<=i⟩
noncomputable def xb(lo:Int)(n:Nat):It:=⟨λi _=>i<n,λi H x H'=>H'=H/\x=.int (lo+i),λi _=>n<=i⟩
theorem Zn{P:Program}{w:World}{K:PySem.W.Frag}{tg:Expr}(a it:Addr):Turn P w K tg (EW K a) [it] it (λi h=>h.IsListIter it a i) where
 mem:=by simp
 obj:=λi h st b hb=>by
  have e:b=it:=by simpa using hb
  subst e
  obtain⟨o,e,c,d⟩:=st
  exact⟨o,e,λv z=>by rw[d]at z;cases z⟩
 keep:=λi h h' st k=>st.at λo e=>k it (by simp) o e
 item:=by
  intro X hP hw hK hc i pins s σ H E I hf st hg
  subst hP hw hK
  obtain⟨xs,x,hq,hx⟩:=hg
  obtain⟨its,rv,p,hz⟩:=I.list hq
  obtain⟨u,hu,ru⟩:=rv.get hx
  obtain⟨f0,f1,f2,f3,f4,f5⟩:=hf it (by simp)
  refine wpAny_pyNext_list_item st p.isList (x:=u) (by simpa using hu) λh' pd sb=>?_
  have I1:Inv X pins σ H { s with heap:=h' }:=I.turned (t':=s.toks) (λb o hb e=>(sb.2 b hb).trans e) f0 f1 f3 f4 f5
  obtain⟨o,e,c,d⟩:=id pd
  exact⟨u,rfl,Nv (s:={ s with heap:=h' }) e c d (by decide) ⟨x,H,I1,ru,⟨rfl,λys hy=>by rw[I.AX hy hq];exact hx⟩,pd,λb hb=>(hf b hb).1⟩⟩
 done:=by
  intro X hP hw hK hc i pins s σ H E I hf st hg
  subst hP hw hK
  obtain⟨xs,hq,hx⟩:=hg
  obtain⟨its,rv,p,hz⟩:=I.list hq
  obtain⟨f0,f1,f2,f3,f4,f5⟩:=hf it (by simp)
  have hl:=rv.length
  exact wpAny_pyNext_list_end (I.ok.hd hc) st p.isList (by simp;omega) λh' eb=>⟨rfl,I.turned (t':=s.toks) (λb o hb e=>eb b o hb e) f0 f1 f3 f4 f5⟩
 self:=λ_ _ _ _ _ st h=>wpAny_pyIter_listiter st h
theorem Zo{P:Program}{w:World}{K:PySem.W.Frag}{tg:Expr}(it:Addr)(lo:Int)(n:Nat):Turn P w K tg (xb lo n) [it] it (λi h=>IsRangeIter h it (lo+(i:Nat)*1) ((n:Int)-(i:Nat)) 1) where
 mem:=by simp
 obj:=λi h st b hb=>by
  have e:b=it:=by simpa using hb
  subst e
  exact⟨_,st,λv z=>by
   have z':Data.fields _=Data.cell v:=z
   cases z'⟩
 keep:=λi h h' st k=>k it (by simp) _ st
 item:=by
  intro X hP hw hK hc i pins s σ H E I hf st hg
  subst hP hw hK
  obtain⟨f0,f1,f2,f3,f4,f5⟩:=hf it (by simp)
  have W:=Walks.range (prog:=X.prog) (w:=X.w) (I.ok.hd hc) it lo 1 n
  refine W.item i s _ _ hg st λv h' tk hv pd kk=>?_
  obtain⟨t,rfl⟩:=hv
  have I1:Inv X pins σ H { s with heap:=h',toks:=tk }:=I.turned (λb o hb e=>kk b o (by simpa using hb) e) f0 f1 f3 f4 f5
  refine⟨_,rfl,Nv (s:={ s with heap:=h',toks:=tk }) (n:="range_iterator") pd rfl rfl (by decide) ⟨.int (lo+i),H,I1,⟨t,?_⟩,⟨rfl,rfl⟩,pd,λb hb=>(hf b hb).1⟩⟩
  rw[Int.mul_one]
 done:=by
  intro X hP hw hK hc i pins s σ H E I hf st hg
  subst hP hw hK
  obtain⟨f0,f1,f2,f3,f4,f5⟩:=hf it (by simp)
  exact wpAny_pyNext_range_end (I.ok.hd hc) st (by have:n<=i:=hg;omega) λh' eb=>⟨rfl,I.turned (t':=s.toks) (λb o hb e=>eb b o hb e) f0 f1 f3 f4 f5⟩
 self:=λ_ _ _ _ _ st h=>wpAny_pyIter_rangeiter st h
end L2
namespace L2
open PySem PySem.Spec PyProof.Rows
section
variable{X:Cx}{tg:Expr}
noncomputable def Zp(K:PySem.W.Frag)(tl:TE):TI:=λσ H R=>tl σ H λx H1=>∃a,x=.ref a/\(∃xs,bS K H1 a xs)/\R (EW K a) H1
theorem Nw{l:Expr}{tl:TE}(hl:PE X l tl):PI X tg l (Zp X.K tl):=by
 intro pins s σ H R I h
 refine aV (hl pins s σ H _ I h) λv s1 ⟨x,H1,I1,r1,q1⟩=>?_
 obtain⟨a,e,⟨xs,hq⟩,q⟩:=q1
 subst e
 cases r1
 obtain⟨its,rv,p,hz⟩:=I1.list hq
 refine wpAny_pyIter_list p.isList ?_
 refine⟨s1.heap.objs.size,[s1.heap.objs.size],_,_,H1,rfl,I1.kept (t':=s1.toks) λb o e=>gQ _ e,Zn a _,⟨_,iy _ rfl,rfl,rfl⟩,λb hb=>?_,q⟩
 have e:b=s1.heap.objs.size:=by simpa using hb
 subst e
 exact I1.A8 (bK _) (I1.aU.fresh (bK _))
theorem Nx{pins:List (Addr × Obj)}{σ:St}{H:Hp}{s:Shared}{R:It->Hp->Prop}{E:Value->Shared->Prop}{lo hi:Int}{t u v:Tok}{tk:Nat}(I:Inv X pins σ H s)(h1:-(2 ^ 62)<=lo)(h2:lo<2 ^ 62)(h3:-(2 ^ 62)<=hi)(h4:hi<2 ^ 62)
  (q:R (xb lo (hi-lo).toNat) H):wpAny (model X.prog X.w) X.A (pyIter (.ref s.heap.objs.size)) (Nu X pins σ tg R) E { s with heap:=s.heap.push { cls:=.type "range",data:=.fields #[.int lo t,.int hi u,.int 1 v] },toks:=tk }:=by
 refine wpAny_pyIter_range (IsRange.new ..) (small_one h1 h2 h3 h4) ?_
 have I1:Inv X pins σ H { s with heap:=s.heap.push { cls:=.type "range",data:=.fields #[.int lo t,.int hi u,.int 1 v] },toks:=tk }:=I.kept λb o e=>gQ _ e
 refine⟨(s.heap.push { cls:=.type "range",data:=.fields #[.int lo t,.int hi u,.int 1 v] }).objs.size,[(s.heap.push { cls:=.type "range",data:=.fields #[.int lo t,.int hi u,.int 1 v] }).objs.size],_,_,H,rfl,
  I1.kept (t':=tk) λb o e=>gQ _ e,Zo _ lo (hi-lo).toNat,?_,λb hb=>?_,q⟩
 ·have e1:lo+((0:Nat):Int)*1=lo:=by simp
  have e2:(((hi-lo).toNat:Nat):Int)-((0:Nat):Int)=Builtin.Range.rangeSize lo hi 1:=by rw[rangeSize_one];split<;>omega
  show IsRangeIter _ _ (lo+((0:Nat):Int)*1) ((((hi-lo).toNat:Nat):Int)-((0:Nat):Int)) 1
  rw[e1,e2]
  exact iy _ rfl
 ·have e:b=(s.heap.push { cls:=.type "range",data:=.fields #[.int lo t,.int hi u,.int 1 v] }).objs.size:=by simpa using hb
  subst e
  exact I1.A8 (bK _) (I1.aU.fresh (bK _))
noncomputable def Zq(ta:TA):TI:=λσ H R=>ta σ H λvs H1=>∃j:Int,vs=[.int j]/\-(2 ^ 62)<=j/\j<2 ^ 62/\R (xb 0 j.toNat) H1
noncomputable def Zr(ta:TA):TI:=λσ H R=>ta σ H λvs H1=>∃i j:Int,vs=[.int i,.int j]/\(-(2 ^ 62)<=i/\i<2 ^ 62/\-(2 ^ 62)<=j/\j<2 ^ 62)/\R (xb i (j-i).toNat) H1
theorem Zs{a:Expr}{ta:TA}{p pos:Pos}(hg:Gl X "range")(hm:X.mg "range"=none)(ha:PA X [a] ta)(hs:starEach [a] X.env=[(false,eval a X.env)]:=by rfl):PI X tg (.Call (.Name "range" p) [a] [] pos) (Zq ta):=by
 intro pins s σ H R I h
 refine Call_ (qI I hg hm boot_range (Ae (aV (ha pos pins s σ H _ I h) λus s1 ⟨vs,H1,I1,r1,q1⟩=>?_) hs rfl))
 obtain⟨j,e,q1,q2,q⟩:=q1
 subst e
 cases r1 with
 | cons r rr =>
  cases rr
  obtain⟨t,rfl⟩:=r
  exact call_range_1 (Nx I1 (by omega) (by omega) q1 q2 (by simpa using q))
theorem Zt{a b:Expr}{ta:TA}{p pos:Pos}(hg:Gl X "range")(hm:X.mg "range"=none)(ha:PA X [a,b] ta)(hs:starEach [a,b] X.env=[(false,eval a X.env),(false,eval b X.env)]:=by rfl)(fJ:starEach [b] X.env=[(false,eval b X.env)]:=by rfl) :
  PI X tg (.Call (.Name "range" p) [a,b] [] pos) (Zr ta):=by
 intro pins s σ H R I h
 refine Call_ (qI I hg hm boot_range (Ae (aV (ha pos pins s σ H _ I h) λus s1 ⟨vs,H1,I1,r1,q1⟩=>?_) (by rw[hs,fJ]) (by rw[fJ];rfl)))
 obtain⟨i,j,e,⟨q1,q2,q3,q4⟩,q⟩:=q1
 subst e
 cases r1 with
 | cons r rr =>
  cases rr with
  | cons r' rr =>
   cases rr
   obtain⟨t,rfl⟩:=r
   obtain⟨t',rfl⟩:=r'
   exact call_range_2 (Nx I1 q1 q2 q3 q4 q)
noncomputable def Zu(wi:TI)(g:TG)(tb:TS):TS:=λD σ H=>wi σ H λJ H1=>∃W:Nat->Nat->St->Hp->Prop,(∃m,W 0 m σ H1)/\∀i m σ H,W i m σ H ->
 (J.stop i H/\D.nx σ H)\/(J.go i H/\∃N:St->Hp->Prop,(∀aR H',N aR H'->∃m',m'<m/\W (i+1) m' aR H')/\∀x H',J.kg i H x H'->g x σ H' λmi H2=>tb { D with nx:=N,ct:=N,bk:=D.nx } mi H2)
noncomputable def xf(fp:List Addr)(h:Heap):List (Addr × Obj):=fp.filterMap λb=>(h.get? b).map λo=>(b,o)
theorem Ba{fp:List Addr}{h:Heap}{b:Addr}{o:Obj}(hb:b∈fp)(e:h.get? b=some o):(b,o)∈xf fp h:=X2.mpr ⟨b,hb,by rw[e];rfl⟩
theorem Zv{fp:List Addr}{h:Heap}{p:Addr × Obj}(hp:p∈xf fp h):p.1∈fp/\h.get? p.1=some p.2:=by
 obtain⟨b,hb,e⟩:=X2.mp hp
 cases q:h.get? b with
 | none=>rw[q]at e;cases e
 | some o =>
  rw[q]at e
  have e':(b,o)=p:=de e
  subst e'
  exact⟨hb,q⟩
theorem Inv.pinned{pins:List (Addr × Obj)}{σ:St}{H:Hp}{s:Shared}{fp:List Addr}(I:Inv X pins σ H s)(hf:∀b∈fp,jq X pins H b)(ho:∀b∈fp,∃o,s.heap.get? b=some o/\∀v,o.data≠.cell v):Inv X (pins++xf fp s.heap) σ H s :=
 I.Ni λp hp=>(cE.mp hp).elim (λz=>I.pin p (df _ z)) λz=>by
  obtain⟨hb,e⟩:=Zv z
  obtain⟨f0,f1,f2,_⟩:=hf p.1 hb
  obtain⟨o,e',d⟩:=ho p.1 hb
  rw[e]at e';cases e'
  exact⟨e,f0,f1,f2,d⟩
theorem Inv.xg{pins pl:List (Addr × Obj)}{σ:St}{H:Hp}{s:Shared}(I:Inv X (pins++pl) σ H s):Inv X pins σ H s:=I.Ni λp hp=>I.pin p (df _ (fE _ hp))
theorem Zw{iter:Expr}{body:List Stmt}{wi:TI}{g:TG}{tb:TS}{pos:Pos}(hp:PassesOwn (model X.prog X.w) X.A X.env X.xe)(hc:X.calm=true)(hi:PI X tg iter wi)(hg:PG X tg g)(hb:PSs X body tb)
  (hs:∀x,foldedSetIterable iter X.env x=pure x:=by intro _;rfl):PS X (.For tg iter body [] pos) (Zu wi g tb):=by
 intro pins s σ H D I h
 refine wpAny_For (aV (hi pins s σ H _ I h) λv s1 h1=>aV h1 λEV s2 h2=>?_) hs
 obtain⟨it,fp,tn,J,H2,e,I2,T,xh,f2,W,⟨m0,w0⟩,turn⟩:=h2
 subst e
 have EX:∀{H':Hp},(∀b∈fp,H' b=none)->∀b∈fp,jq X pins H' b:=λhn b hb=>⟨hn b hb,(f2 b hb).2⟩
 refine codeAny_forLoop_any (λn s'=>∃i aR H',Inv X pins aR H' s'/\tn i s'.heap/\(∀b∈fp,H' b=none)/\W i n aR H') ?_ m0 ⟨0,σ,H2,I2,xh,λb hb=>(f2 b hb).1,w0⟩
 rintro n s3 ⟨i,kL,H3,I3,Ny,EY,w3⟩
 rcases turn i n kL H3 w3 with⟨stop,qn⟩ | ⟨go,N,hN,step⟩
 ·refine wpAny_passesOwn hp (aV (T.done X rfl rfl rfl hc i pins s3 kL H3 X.xe I3 (EX EY) Ny stop) λr s4 ⟨hr,I4⟩=>?_)
  subst hr
  exact wpAny_execs_nil ⟨kL,H3,I4,qn⟩
 ·refine wpAny_passesOwn hp (aV (T.item X rfl rfl rfl hc i pins s3 kL H3 X.xe I3 (EX EY) Ny go) λr s4 ⟨u,hr,h4⟩=>?_)
  subst hr
  refine wpAny_passesOwn hp (aV h4 λ_ s5 ⟨x,H5,I5,r5,y5,qQ,xi⟩=>?_)
  have EZ:=I5.pinned (EX xi) (T.obj _ _ qQ)
  refine wpAny_passesOwn hp (aV (hg _ s5 kL H5 x u _ EZ r5 (step x H5 y5)) λ_ s6 ⟨E1,H6,I6,q6⟩=>?_)
  refine wpAny_passesOwn hp (aV (hb _ s6 E1 H6 _ I6 q6) λf s7 q7=>?_)
  have again:∀{kM:St} {H7:Hp},Inv X (pins++xf fp s5.heap) kM H7 s7->N kM H7->∃m,m<n/\∃i aR H',Inv X pins aR H' s7/\tn i s7.heap/\(∀b∈fp,H' b=none)/\W i m aR H':=λ{kM H7} I7 n7=>by
   obtain⟨m',hm,w7⟩:=hN kM H7 n7
   refine⟨m',hm,i+1,kM,H7,I7.xg,T.keep _ _ _ qQ λb hb o e=>(I7.pin (b,o) (df _ (df _ (Ba hb e)))).1,λb hb=>?_,w7⟩
   obtain⟨o,e,d⟩:=T.obj _ _ qQ b hb
   exact(I7.pin (b,o) (df _ (df _ (Ba hb e)))).2.1
  cases f with
  | next=>obtain⟨kM,H7,I7,n7⟩:=q7;exact again I7 n7
  | cont=>obtain⟨kM,H7,I7,n7⟩:=q7;exact again I7 n7
  | brk=>obtain⟨kM,H7,I7,q7⟩:=q7;exact⟨kM,H7,I7.xg,q7⟩
  | ret v=>obtain⟨x7,kM,H7,I7,r7,q7⟩:=q7;exact⟨x7,kM,H7,I7.xg,r7,q7⟩
end
end L2
namespace L2
open PySem PySem.Spec PyProof.Rows
noncomputable abbrev R2:=V->V->Hp->VK->Prop
noncomputable def cP(X:Cx)(f:Value->Value->Sem Value)(r:R2):Prop :=
 ∀(pins:List (Addr × Obj)) (s:Shared) (σ:St) (H:Hp) (x y:V) (v u:Value) (Q:VK),Inv X pins σ H s->RelV x v->RelV y u->r x y H Q ->
  wpAny (model X.prog X.w) X.A (f v u) (EP X pins σ Q) X.xe s
noncomputable def E2(X:Cx)(f:Value->Sem Value)(r:V->Hp->VK->Prop):Prop :=
 ∀(pins:List (Addr × Obj)) (s:Shared) (σ:St) (H:Hp) (x:V) (v:Value) (Q:VK),Inv X pins σ H s->RelV x v->r x H Q ->
  wpAny (model X.prog X.w) X.A (f v) (EP X pins σ Q) X.xe s
noncomputable def gU(X:Cx)(f:Value)(r:List V->Hp->VK->Prop):Prop :=
 ∀(pins:List (Addr × Obj)) (s:Shared) (σ:St) (H:Hp) (xs:List V) (us:List Value) (Q:VK),Inv X pins σ H s->Vals xs us->r xs H Q ->
  wpAny (model X.prog X.w) X.A (call f us) (EP X pins σ Q) X.xe s
noncomputable def xj(r:R2)(ta tb:TE):TE:=λσ H Q=>ta σ H λx H1=>tb σ H1 λy H2=>r x y H2 Q
noncomputable def Zx(r:V->Hp->VK->Prop)(ta:TE):TE:=λσ H Q=>ta σ H λx H1=>r x H1 Q
noncomputable def rI(C:Int->Int->Prop)(g:Int->Int->V):R2:=λx y H Q=>∃i j,x=.int i/\y=.int j/\C i j/\Q (g i j) H
noncomputable def jr(g:Int->Int->V):R2:=λx y H Q=>∃i j,x=.int i/\y=.int j/\Q (g i j) H
noncomputable def rU(g:Int->V):V->Hp->VK->Prop:=λx H Q=>∃i,x=.int i/\Q (g i) H
section
variable{X:Cx}{a b c:Expr}{ta tb tc:TE}{pos:Pos}
theorem E3(ha:PE X a ta)(hb:PE X b tb){pins:List (Addr × Obj)}{s:Shared}{σ:St}{H:Hp}{R:V->V->Hp->Prop}(I:Inv X pins σ H s)
  (h:ta σ H λx H1=>tb σ H1 λy H2=>R x y H2) {Q:Value->Shared->Prop} {f:Value->Value->Sem Value}
  (hf:∀v u s2 x y H2,Inv X pins σ H2 s2->RelV x v->RelV y u->R x y H2->wpAny (model X.prog X.w) X.A (f v u) Q X.xe s2) :
  wpAny (model X.prog X.w) X.A (eval a X.env) (λv bG=>wpAny (model X.prog X.w) X.A (eval b X.env) (λu qP=>wpAny (model X.prog X.w) X.A (f v u) Q X.xe qP) X.xe bG) X.xe s:=by
 refine aV (ha pins s σ H _ I h) λv s1 ⟨x,H1,I1,r1,q1⟩=>?_
 refine aV (hb pins s1 σ H1 _ I1 q1) λu s2 ⟨y,H2,I2,r2,q2⟩=>?_
 exact hf v u s2 x y H2 I2 r1 r2 q2
theorem xk{op:Operator}{r:R2}(ho:cP X (binaryOp op) r)(ha:PE X a ta)(hb:PE X b tb):PE X (.BinOp a op b pos) (xj r ta tb):=by
 intro pins s σ H Q I h
 exact wpAny_BinOp (E3 ha hb I h λv u s2 x y H2 I2 rx ry q=>ho pins s2 σ H2 x y v u Q I2 rx ry q)
theorem Zy{op:UnaryOp}{r:V->Hp->VK->Prop}(ho:E2 X (unaryOp op) r)(ha:PE X a ta):PE X (.UnaryOp op a pos) (Zx r ta):=by
 intro pins s σ H Q I h
 exact UnaryOp_ (aV (ha pins s σ H _ I h) λv s1 ⟨x,H1,I1,r1,q1⟩=>ho pins s1 σ H1 x v Q I1 r1 q1)
theorem xm{f:Value->Value->Sem Value}{C:Int->Int->Prop}{g:Int->Int->Int}
  (rule:∀(i j:Int) (t u:Tok) (s:Shared) (Q:Value->Shared->Prop) (E:Value->Shared->Prop),C i j->Q (.int (g i j) s.toks) { s with toks:=s.toks+1 }->wpAny (model X.prog X.w) X.A (f (.int i t) (.int j u)) Q E s) :
  cP X f (rI C λi j=>.int (g i j)):=by
 intro pins s σ H x y v u Q I rx ry h
 obtain⟨i,j,rfl,rfl,hc,q⟩:=h
 obtain⟨t,rfl⟩:=rx
 obtain⟨t',rfl⟩:=ry
 exact rule i j t t' s _ _ hc ⟨.int (g i j),H,I.tok _,⟨_,rfl⟩,q⟩
theorem qR{f:Value->Value->Sem Value}{g:Int->Int->Int}
  (rule:∀(i j:Int) (t u:Tok) (s:Shared) (Q:Value->Shared->Prop) (E:Value->Shared->Prop),Q (.int (g i j) s.toks) { s with toks:=s.toks+1 }->wpAny (model X.prog X.w) X.A (f (.int i t) (.int j u)) Q E s) :
  cP X f (jr λi j=>.int (g i j)):=by
 intro pins s σ H x y v u Q I rx ry h
 obtain⟨i,j,rfl,rfl,q⟩:=h
 obtain⟨t,rfl⟩:=rx
 obtain⟨t',rfl⟩:=ry
 exact rule i j t t' s _ _ ⟨.int (g i j),H,I.tok _,⟨_,rfl⟩,q⟩
theorem Bb{f:Value->Value->Sem Value}{g:Int->Int->Bool}
  (rule:∀(i j:Int) (t u:Tok) (s:Shared) (Q:Value->Shared->Prop) (E:Value->Shared->Prop),Q (.bool (g i j)) s->wpAny (model X.prog X.w) X.A (f (.int i t) (.int j u)) Q E s) :
  cP X f (jr λi j=>.bl (g i j)):=by
 intro pins s σ H x y v u Q I rx ry h
 obtain⟨i,j,rfl,rfl,q⟩:=h
 obtain⟨t,rfl⟩:=rx
 obtain⟨t',rfl⟩:=ry
 exact rule i j t t' s _ _ ⟨.bl (g i j),H,I,rfl,q⟩
noncomputable def ia(i j:Int):Prop:=(-(2 ^ 64)<i/\i<2 ^ 64)\/(-(2 ^ 64)<j/\j<2 ^ 64)
theorem ia.ok{i j:Int}(h:ia i j):IntMulOk i j:=by
 rcases h with⟨h1,h2⟩ | ⟨h1,h2⟩
 ·exact .of_left (intBits_le_64 h1 h2)
 ·exact .of_right (intBits_le_64 h1 h2)
theorem Zz(k:Nat):(0:Int)<=2 ^ k:=by
 rw[two_pow_cast]
 exact MD _
theorem ZA:cP X (binaryOp .Add) (jr λi j=>.int (i+j)):=qR λ_ _ _ _ _ _ _ q=>add_int q
theorem E4:cP X (binaryOp .Sub) (jr λi j=>.int (i-j)):=qR λ_ _ _ _ _ _ _ q=>sub_int q
theorem ZC:cP X (binaryOp .Mod) (rI (λ_ j=>0<j) λi j=>.int (i%j)):=xm λi j _ _ _ _ _ hc q=>by
 have h1:(0:Int)<j:=hc
 exact mod_int' (by omega) (by rw[Int.fmod_eq_emod_of_nonneg i (by omega)];exact q)
theorem ZD:cP X (binaryOp .RShift) (rI (λ_ j=>0<=j) λi j=>.int (i/2 ^ j.toNat)):=xm λi j _ _ _ _ _ hc q =>
 rshift_int hc (by rw[X3 i (Zz _)];exact q)
theorem ZE:cP X (binaryOp .BitAnd) (jr λi j=>.int (oO i j)):=qR λ_ _ _ _ _ _ _ q=>and_int q
theorem ZF:cP X (binaryOp .BitXor) (jr λi j=>.int (oQ i j)):=qR λ_ _ _ _ _ _ _ q=>xor_int q
theorem ZG:cP X (inplaceOp .Add) (jr λi j=>.int (i+j)):=qR λ_ _ _ _ _ _ _ q=>iadd_int q
theorem ZH:cP X (inplaceOp .Sub) (jr λi j=>.int (i-j)):=qR λ_ _ _ _ _ _ _ q=>isub_int q
theorem ZI:cP X (inplaceOp .BitXor) (jr λi j=>.int (oQ i j)):=qR λ_ _ _ _ _ _ _ q=>ixor_int q
theorem ZJ{f:Value->Sem Value}{g:Int->Int}
  (rule:∀(i:Int) (t:Tok) (s:Shared) (Q:Value->Shared->Prop) (E:Value->Shared->Prop),Q (.int (g i) s.toks) { s with toks:=s.toks+1 }->wpAny (model X.prog X.w) X.A (f (.int i t)) Q E s) :
  E2 X f (rU λi=>.int (g i)):=by
 intro pins s σ H x v Q I rx h
 obtain⟨i,rfl,q⟩:=h
 obtain⟨t,rfl⟩:=rx
 exact rule i t s _ _ ⟨.int (g i),H,I.tok _,⟨_,rfl⟩,q⟩
theorem ZK:E2 X (unaryOp .USub) (rU λi=>.int (-i)):=ZJ λ_ _ _ _ _ q=>neg_int q
end
section
variable{X:Cx}{a b c:Expr}{ta tb tc:TE}{pos:Pos}
theorem Nz{pins:List (Addr × Obj)}{σ:St}{H:Hp}{s:Shared}{Q:VK}{k k':Bool}(I:Inv X pins σ H s)(q:Q (.bl k) H)(e:k=k'):EP X pins σ Q (.bool k') s:=by
 subst e
 exact⟨.bl k,H,I,rfl,q⟩
theorem NA:cP X (compareOp .Lt) (jr λi j=>.bl (decide (i<j))):=Bb λ_ _ _ _ _ _ _ q=>lt_int q
theorem ZL:cP X (compareOp .LtE) (jr λi j=>.bl (decide (i<=j))):=Bb λ_ _ _ _ _ _ _ q=>le_int q
theorem NB:cP X (compareOp .Gt) (jr λi j=>.bl (decide (j<i))):=Bb λ_ _ _ _ _ _ _ q=>gt_int q
theorem ZM:cP X (compareOp .GtE) (jr λi j=>.bl (decide (j<=i))):=Bb λ_ _ _ _ _ _ _ q=>ge_int q
theorem ZN:cP X (compareOp .IsNot) (λx y H Q=>y=.ax/\Q (.bl (!decide (x=.ax))) H):=by
 intro pins s σ H x y v u Q I rx ry h
 obtain⟨rfl,q⟩:=h
 cases ry
 refine isnot_none_gen (Nz I q ?_)
 cases x<;>first
  | (cases rx;rfl)
  | (obtain⟨t,rfl⟩:=rx;rfl)
theorem cP.or{f:Value->Value->Sem Value}{r r':R2}(h:cP X f r)(h':cP X f r'):cP X f (λx y H Q=>r x y H Q\/r' x y H Q):=by
 intro pins s σ H x y v u Q I rx ry q
 rcases q with q | q
 ·exact h pins s σ H x y v u Q I rx ry q
 ·exact h' pins s σ H x y v u Q I rx ry q
theorem bH(b:Expr){op:CmpOp}(h:op≠.In:=by decide)(h2:op≠.NotIn:=by decide):behindInMarks op b=false:=by
 have e1:(op==CmpOp.In)=false:=by cases op<;>first | rfl | exact absurd rfl h
 have e2:(op==CmpOp.NotIn)=false:=by cases op<;>first | rfl | exact absurd rfl h2
 cases b<;>simp[behindInMarks,e1,e2]
theorem ZO{op:CmpOp}{r:R2}(ho:cP X (compareOp op) r)(ha:PE X a ta)(hb:PE X b tb)(hm:behindInMarks op b=false):PE X (.Compare a [op] [b] pos) (xj r ta tb):=by
 intro pins s σ H Q I h
 exact wpAny_Compare1 (E3 ha hb I h λv u s2 x y H2 I2 rx ry q=>ho pins s2 σ H2 x y v u Q I2 rx ry q) hm
noncomputable def NC(t:TE):TT:=λσ H Q=>t σ H λx H'=>∃k,x=.bl k/\Q k H'
theorem E5{op:CmpOp}{r:R2}(ho:cP X (compareOp op) r)(ha:PE X a ta)(hb:PE X b tb)(hm:behindInMarks op b=false):PT X (.Compare a [op] [b] pos) (NC (xj r ta tb)):=by
 intro pins s σ H Q I h
 refine wpAny_isTrue_Compare1 (aV (ha pins s σ H _ I h) λv s1 ⟨x,H1,I1,r1,q1⟩=>aV (hb pins s1 σ H1 _ I1 q1) λu s2 ⟨y,H2,I2,r2,q2⟩ =>
  aV (ho pins s2 σ H2 x y v u _ I2 r1 r2 q2) λc s3 ⟨z,H3,I3,r3,k,e,q3⟩=>?_) hm
 subst e
 cases r3
 exact wpAny_truthy_bool ⟨H3,I3,q3⟩
noncomputable def ND(r r':R2)(ta tb tc:TE):TE:=λσ H Q=>ta σ H λx H1=>tb σ H1 λy H2=>r x y H2 λz H3=>∃k,z=.bl k /\
 (if k=true then tc σ H3 λw' H4=>r' y w' H4 Q else Q (.bl false) H3)
theorem ZP{op qS:CmpOp}{r r':R2}(ho:cP X (compareOp op) r)(kJ:cP X (compareOp qS) r')(ha:PE X a ta)(hb:PE X b tb)(hc:PE X c tc)
  (hm:lastMarks [op,qS] [b,c]=false:=by with_unfolding_all rfl):PE X (.Compare a [op,qS] [b,c] pos) (ND r r' ta tb tc):=by
 intro pins s σ H Q I h
 refine Compare_chain (aV (ha pins s σ H _ I h) λv s1 ⟨x,H1,I1,r1,q1⟩=>chain_link (aV (hb pins s1 σ H1 _ I1 q1) λu s2 ⟨y,H2,I2,r2,q2⟩ =>
  aV (ho pins s2 σ H2 x y v u _ I2 r1 r2 q2) λd s3 ⟨z,H3,I3,r3,k,e,q3⟩=>?_)) hm
 subst e
 cases r3
 refine wpAny_truthy_bool ?_
 cases k with
 | false=>exact ite_ff ⟨.bl false,H3,I3,rfl,q3⟩
 | true=>exact ite_tt (chain_last (aV (hc pins s3 σ H3 _ I3 q3) λw' s4 ⟨z',H4,I4,r4,q4⟩=>kJ pins s4 σ H4 y z' u w' Q I4 r2 r4 q4))
theorem tZ:(sizeLine:Nat)<2 ^ 63:=by rw[sizeLine_eq];decide
theorem ZQ:cP X (binaryOp .Add) (λx y H Q=>∃i j,x=.str i/\y=.str j/\i.length+j.length<=sizeLine/\Q (.str (i++j)) H):=by
 intro pins s σ H x y v u Q I rx ry h
 obtain⟨i,j,rfl,rfl,hz,q⟩:=h
 obtain⟨t,rfl⟩:=rx
 obtain⟨t',rfl⟩:=ry
 exact add_str (λt' tk=>⟨.str (i++j),H,I.tok _,⟨_,rfl⟩,q⟩) hz
theorem E6{x:V}{us:List Value}(r:Vals [x] us):∃u,us=[u]/\RelV x u:=by
 cases r with
 | cons r1 r2=>cases r2;exact⟨_,rfl,r1⟩
theorem ZR{x y:V}{us:List Value}(r:Vals [x,y] us):∃u w',us=[u,w']/\RelV x u/\RelV y w':=by
 cases r with
 | cons r1 r2 =>
  cases r2 with
  | cons r3 r4=>cases r4;exact⟨_,_,rfl,r1,r3⟩
theorem ZS(hc:X.calm=true):gU X (.builtin "min") (λxs H Q=>∃i j,xs=[.int i,.int j]/\Q (.int (if j<i then j else i)) H):=by
 intro pins s σ H xs us Q I r h
 obtain⟨i,j,rfl,q⟩:=h
 obtain⟨u,w',rfl,⟨t,rfl⟩,⟨t',rfl⟩⟩:=ZR r
 refine min_two_ints (I.ok.hd hc) λh' tk k=>⟨_,H,I.kept k,?_,q⟩
 by_cases hj:j<i
 ·rw[if_pos hj,if_pos hj];exact⟨_,rfl⟩
 ·rw[if_neg hj,if_neg hj];exact⟨_,rfl⟩
end
end L2
namespace L2
open PySem PySem.Spec PyProof.Rows
structure qT(h:Heap)(x dx C:Addr)(mA:Str->Option Value):Prop where
 obj:h.get? x=some (PySem.W.instObj C dx)
 ns:h.Ns1 dx mA
 ne:dx≠x
theorem ZT{h:Heap}{dx:Addr}{mA:Str->Option Value}(n:h.Ns1 dx mA):∃od,h.get? dx=some od/\∀name,PySem.W.lookIn name od=some (mA name):=by
 obtain⟨o,es,ep,ho,hd,hk,_,hm⟩:=n
 refine⟨o,ho,λname=>?_⟩
 have e:=hm name
 unfold nsFind findBy at e
 rw[<-Array.find?_toList]at e
 unfold PySem.W.lookIn
 rw[hd]
 dsimp only
 split
 ·rename_i y q
  rw[q]at e
  exact congrArg some e
 ·rename_i q
  rw[q]at e
  have a:es.toList.any (·.refKey)=false:=by
   rw[List.any_eq_false]
   intro y hy
   obtain⟨z,t,ZU⟩:=hk y (Array.mem_toList_iff.mp hy)
   simp[DictEntry.refKey,ZU]
  have a':¬ es.toList.any (·.refKey)=true:=by rw[a];exact iP
  rw[if_neg a']
  exact congrArg some e
theorem qT.look{h:Heap}{x dx C:Addr}{mA:Str->Option Value}(I:qT h x dx C mA):∃od,PySem.W.InstAt h x (PySem.W.instObj C dx) C (some od)/\∀name,PySem.W.lookIn name od=some (mA name) :=
 let⟨od,ho,hl⟩:=ZT I.ns
 ⟨od,⟨I.obj,rfl,rfl,ho⟩,hl⟩
section
variable{prog:Program}{w:World}{A:Around}{E:Value->Shared->Prop}{s:Shared}{K:PySem.W.Frag}{x dx C f:Addr}{mA:Str->Option Value}{name:Str}{v:Value}
theorem ZV{expr:Bool}{Q:Value->Shared->Prop}(X:K.In s.heap)(I:qT s.heap x dx C mA)(hg:PySem.W.plainGet K C name=true)(hh:PySem.W.hasDictIn K C=true)
  (ha:PySem.W.findIn K (.ref C) name=some none) (hv:mA name=some v) (ZW:PySem.W.handedIn v=true) (h:Q v { s with toks:=s.toks+1 }) :
  wpAny (model prog w) A (getAttr (.ref x) name expr) Q E s:=by
 obtain⟨od,J,hl⟩:=I.look
 exact PySem.W.get_value X J (PySem.W.plainGet_of hg).1 (PySem.W.findObj_own hh ha rfl (by rw[hl,hv])) ZW h
theorem ZX{pl:Sem Bool}{Q:Value × List Value->Shared->Prop}(X:K.In s.heap)(I:qT s.heap x dx C mA)(hg:PySem.W.plainGet K C name=true)
  (hf:PySem.W.findIn K (.ref C) name=some (some (.ref f))) (ht:PySem.W.isFn K (.ref f)=true) (hv:mA name=none) (h:Q (.ref f,[.ref x]) s) :
  wpAny (model prog w) A (getMethod (.ref x) name pl) Q E s:=by
 obtain⟨od,J,hl⟩:=I.look
 exact PySem.W.method_fn X J (PySem.W.plainGet_of hg).1 (PySem.W.plainGet_of hg).2 hf (beq_iff_eq.mp ht) (by show(PySem.W.lookIn name od).map (·.isSome)=some false;rw[hl,hv];rfl) h
theorem ZY{ns:List Str}{Q:Unit->Shared->Prop}(X:K.In s.heap)(I:qT s.heap x dx C mA)
  (hs:PySem.W.findIn K (.ref C) "__setattr__"=some (some (.builtin "object.__setattr__"))) (hp:PySem.W.plainOver K C=true) (ht:PySem.W.takerIn K C name=some none) (hh:PySem.W.hasDictIn K C=true)
  (hw:PySem.Within mA ns) (t7:ns.length<=sizeLine)
  (h:∀h',qT h' x dx C (λy=>if y=name then some v else mA y)->Heap.SameBut dx s.heap h'->Q () { s with heap:=h',toks:=s.toks+2 }) :
  wpAny (model prog w) A (setAttr (.ref x) name v) Q E s:=by
 obtain⟨od,J,hl⟩:=I.look
 refine PySem.W.set_plain X J hs (PySem.W.osa_open (s:={ s with toks:=s.toks+1 }) (r:=none) X J hp ht λb=>?_)
 obtain⟨cd,hc,wY⟩:=PySem.W.any_some hh
 have hx:s.heap.get? x=some ⟨.ref C,some dx,.plain,#[]⟩:=I.obj
 refine wpAny_bind (wpAny_pure (wpAny_bind (wpAny_bind (wpAny_loadPart hx (wpAny_bind (PySem.W.Looks.here (s:={ s with toks:=s.toks+1 }) (PySem.W.looks_clsIn X hc) ?_))))))
 rw[wY]
 refine wpAny_pure (a:=some dx) (wpAny_bind (wpAny_pure (wpAny_bind ?_)))
 refine wpAny_nsSet1 (s:={ s with toks:=s.toks+1 }) I.ns λh' t9 fJ=>?_
 obtain⟨oD,esD,epD,ZZ,Z0,nj⟩:=t9.count (PySem.Within.cons name v hw)
 refine wpAny_bind (wpAny_lookBehind ZZ (by rw[Z0];exact pastItsLine_dict (fU nj (by rw[fF];omega))) ?_)
 exact wpAny_pure (h _ ⟨(fJ.2 _ (iw I.ne)).trans I.obj,t9,I.ne⟩ fJ)
theorem Z1{R:Result->Shared->Prop}{vs:List Value}{kw:List (Str × Value)}(X:K.In s.heap)(hm:PySem.W.makesIn K C=true)
  (hi:PySem.W.findIn K (.ref C) "__init__"=some (some (.ref f))) (hf:PySem.W.typeIn K (.ref f)=some (.type "function"))
  (h:codeAny (model prog w) (A.under (.builtin "type.__call__" ⟨.ref C::vs,kw⟩)) (.call (.ref f) ⟨.ref (s.heap.objs.size+1)::vs,kw⟩) (PySem.W.InitBack (s.heap.objs.size+1) R)
   { s with heap:=(s.heap.push PySem.W.emptyDict).push (PySem.W.instObj C s.heap.objs.size) }) :
  codeAny (model prog w) A (.call (.ref C) ⟨vs,kw⟩) R s:=by
 obtain⟨hh,g,d,t,os⟩:=s
 exact PySem.W.make_core (PySem.W.makes_of X hm) (PySem.W.looks_findIn X hi) (λself=>PySem.W.bind_fn X self hf) (.inl rfl) h
end
noncomputable def bE(f:Str)(v:V):List (Str × V)->List (Str × V)
 | []=>[(f,v)]
 | (g,x)::r=>if g=f then(g,v)::r else(g,x)::bE f v r
theorem NF(f g:Str)(v:V):∀fs:List (Str × V),(bE f v fs).lookup g=if g=f then some v else fs.lookup g
 | []=>by
  show lU g [(f,v)]=_
  by_cases h:g=f
  ·have hb:(g==f)=true:=beq_iff_eq.mpr h
   simp only[lU,hb,if_pos h]
  ·have hb:(g==f)=false:=beq_eq_false_iff_ne.mpr h
   simp only[lU,hb,if_neg h]
 | (k,x)::r=>by
  have ih:=NF f g v r
  rw[show bE f v ((k,x)::r)=(if k=f then(k,v)::r else(k,x)::bE f v r) from rfl]
  by_cases hk:k=f
  ·rw[if_pos hk]
   by_cases h:g=k
   ·have hb:(g==k)=true:=beq_iff_eq.mpr h
    simp only[lU,hb,if_pos (h.trans hk)]
   ·have hb:(g==k)=false:=beq_eq_false_iff_ne.mpr h
    simp only[lU,hb,if_neg (λe:g=f=>h (e.trans hk.symm))]
  ·rw[if_neg hk]
   by_cases h:g=k
   ·have hb:(g==k)=true:=beq_iff_eq.mpr h
    simp only[lU,hb,if_neg (λe:g=f=>hk (h.symm.trans e))]
   ·have hb:(g==k)=false:=beq_eq_false_iff_ne.mpr h
    simp only[lU,hb]
    exact ih
theorem E7(f:Str)(v:V):∀fs:List (Str × V),f∈(bE f v fs).map (·.1)/\∀g,g∈fs.map (·.1)->g∈(bE f v fs).map (·.1)
 | []=>⟨by simp[bE],λg h=>by simp at h⟩
 | (k,x)::r=>by
  obtain⟨i1,i2⟩:=E7 f v r
  rw[show bE f v ((k,x)::r)=(if k=f then(k,v)::r else(k,x)::bE f v r) from rfl]
  by_cases hk:k=f
  ·rw[if_pos hk]
   subst hk
   exact⟨by simp,λg h=>by simpa using h⟩
  ·rw[if_neg hk]
   refine⟨?_,λg h=>?_⟩
   ·rw[dw]
    exact gE _ i1
   ·rw[dw]at h ⊢
    rcases cA.mp h with e | e
    ·exact cA.mpr (.inl e)
    ·exact gE _ (i2 g e)
theorem NG(f:Str)(v:V):∀fs:List (Str × V),(bE f v fs).length<=fs.length+1
 | []=>by simp[bE]
 | (k,x)::r=>by
  have ih:=NG f v r
  rw[show bE f v ((k,x)::r)=(if k=f then(k,v)::r else(k,x)::bE f v r) from rfl]
  by_cases hk:k=f
  ·rw[if_pos hk,fF,fF];omega
  ·rw[if_neg hk,fF,fF];omega
theorem l6.some_of{v:V}{o:Option Value}(r:l6 (some v) o):∃u,o=some u/\RelV v u:=by
 cases o with
 | none=>exact(show False from r).elim
 | some u=>exact⟨u,rfl,r⟩
theorem l6.none_of{o:Option Value}(r:l6 none o):o=none:=by
 cases o with
 | none=>rfl
 | some u=>exact(show False from r).elim
theorem Z2{v:V}{u:Value}(r:RelV v u):PySem.W.handedIn u=true:=by
 cases v with
 | ax=>cases(show u=Ef from r);rfl
 | bl b=>cases(show u=Eg b from r);rfl
 | int i=>obtain⟨t,e⟩:=(show ∃t,u=qm i t from r);cases e;rfl
 | str x=>obtain⟨t,e⟩:=(show ∃t,u=Value.str x t from r);cases e;rfl
 | AL b=>obtain⟨t,e⟩:=(show ∃t,u=Value.bytes b t from r);cases e;rfl
 | qD b=>obtain⟨t,e⟩:=(show ∃t,u=Value.float b t from r);cases e;rfl
 | ref a=>cases(show u=eA a from r);rfl
 | ty n=>cases(show u=Value.type n from r);rfl
section
variable{P:Program}{w:World}{H H':Hp}{h h':Heap}{a C dx:Addr}{fs fs':List (Str × V)}
theorem Bc(aU:dH P w H h)(e:H a=some (.ins C dx fs)):∃mA,qT h a dx C mA/\(∀f,l6 (fs.lookup f) (mA f))/\PySem.Within mA (fs.map (·.1))/\fs.length<=1000/\H dx=some (.own a):=by
 obtain⟨d,z,ne,ob,mA,n,r,q⟩:=(show fk P w H h a (.ins C dx fs) from aU a _ e)
 exact⟨mA,⟨ob,n,ne⟩,r,q,z,d⟩
end
structure cQ(K:PySem.W.Frag)(C:Addr):Prop where
 pg:PySem.W.plainGet K C wF=true
 hd:PySem.W.hasDictIn K C=true
 po:PySem.W.plainOver K C=true
 sa:PySem.W.findIn K (.ref C) "__setattr__"=some (some (.builtin "object.__setattr__"))
theorem cQ.get{K:PySem.W.Frag}{C:Addr}(c:cQ K C)(f:Str):PySem.W.plainGet K C f=true:=c.pg
noncomputable def bq(K:PySem.W.Frag)(C:Addr)(f:Str):Prop:=PySem.W.findIn K (.ref C) f=some none
theorem bq.Z3{K:PySem.W.Frag}{C:Addr}{f:Str}(n:bq K C f):PySem.W.takerIn K C f=some none:=by
 unfold PySem.W.takerIn
 rw[show PySem.W.findIn K (.ref C) f=some none from n]
 rfl
structure Meth(K:PySem.W.Frag)(C:Addr)(m:Str)(f:Addr):Prop where
 at_:PySem.W.findIn K (.ref C) m=some (some (.ref f))
 fn:PySem.W.isFn K (.ref f)=true
 kp:PySem.W.keepIn K (.ref f)=true
section
variable{X:Cx}{pins:List (Addr × Obj)}{σ:St}{H:Hp}{s:Shared}{a C dx:Addr}{fs:List (Str × V)}{f:Str}{v:V}{A:Around}{E:Value->Shared->Prop}
theorem Z4{b:Bool}{Q:Value->Shared->Prop}(I:Inv X pins σ H s)(e:H a=some (.ins C dx fs))(c:cQ X.K C)(n:bq X.K C f)(l:fs.lookup f=some v)
  (h:∀u s',Inv X pins σ H s'->RelV v u->Q u s'):wpAny (model X.prog X.w) A (getAttr (.ref a) f b) Q E s:=by
 obtain⟨mA,O,r,_,_,_⟩:=Bc I.aU e
 obtain⟨u,hu,ru⟩:=l6.some_of (v:=v) (o:=mA f) (by rw[<-l];exact r f)
 exact ZV I.dA O (c.get f) c.hd n hu (Z2 ru) (h u _ (I.tok _) ru)
theorem E8{m:Str}{g:Addr}{pl:Sem Bool}{Q:Value × List Value->Shared->Prop}(I:Inv X pins σ H s)(e:H a=some (.ins C dx fs))(c:cQ X.K C)(k:Meth X.K C m g)(l:fs.lookup m=none)
  (h:Q (.ref g,[.ref a]) s):wpAny (model X.prog X.w) A (getMethod (.ref a) m pl) Q E s:=by
 obtain⟨mA,O,r,_,_,_⟩:=Bc I.aU e
 have hn:mA m=none:=l6.none_of (by rw[<-l];exact r m)
 exact ZX I.dA O (c.get m) k.at_ k.fn hn h
theorem Z5{y:V}{u:Value}{Q:Unit->Shared->Prop}(I:Inv X pins σ H s)(e:H a=some (.ins C dx fs))(c:cQ X.K C)(n:bq X.K C f)(hl:fs.length<1000)(ry:RelV y u)
  (h:∀s',Inv X pins σ (upd H a (.ins C dx (bE f y fs))) s'->Q () s'):wpAny (model X.prog X.w) A (setAttr (.ref a) f u) Q E s:=by
 obtain⟨mA,O,r,wi,_,ho⟩:=Bc I.aU e
 have hz:(fs.map (·.1)).length<=sizeLine:=by rw[bw,sizeLine_eq];omega
 refine ZY I.dA O c.sa c.po n.Z3 c.hd wi hz λh' O' sb=>h _ ?_
 have hd:∃o,h'.get? dx=some o:=let⟨o,_,_,e',_⟩:=O'.ns;⟨o,e'⟩
 refine I.write (x:=a) (e:=dx) (by rw[e];exact tf) (.inr ho) (λb q hb z=>(sb.2 b hb).trans z) hd ?_
 refine⟨by rw[bo O.ne];exact ho,?_,O.ne,O'.obj,_,O'.ns,λg=>?_,λg hg=>?_⟩
 ·have:=NG f y fs;omega
 ·show l6 ((bE f y fs).lookup g) (if g=f then some u else mA g)
  rw[NF]
  by_cases q:g=f
  ·rw[if_pos q,if_pos q];exact ry
  ·rw[if_neg q,if_neg q];exact r g
 ·by_cases q:g=f
  ·rw[q];exact(E7 f y fs).1
  ·refine(E7 f y fs).2 g (wi g λz=>hg ?_)
   show(if g=f then some u else mA g)=none
   rw[if_neg q];exact z
theorem Inv.made(I:Inv X pins σ H s):Inv X pins σ (upd (upd H s.heap.objs.size (.own (s.heap.objs.size+1))) (s.heap.objs.size+1) (.ins C s.heap.objs.size []))
  { s with heap:=(s.heap.push PySem.W.emptyDict).push (PySem.W.instObj C s.heap.objs.size) }:=by
 have e1:(s.heap.push PySem.W.emptyDict).get? s.heap.objs.size=some PySem.W.emptyDict:=iy s.heap rfl
 have e2:((s.heap.push PySem.W.emptyDict).push (PySem.W.instObj C s.heap.objs.size)).get? (s.heap.objs.size+1)=some (PySem.W.instObj C s.heap.objs.size):=by
  have:=iy (s.heap.push PySem.W.emptyDict) (o:=PySem.W.instObj C s.heap.objs.size) rfl
  rwa [tu]at this
 have e3:(s.heap.push PySem.W.emptyDict).Ns s.heap.objs.size (λ_=>none):=⟨PySem.W.emptyDict,#[],_,e1,rfl,(λe he=>absurd he (by simp)),λ_=>rfl⟩
 have I1:=I.laid (a:=s.heap.objs.size) (o:=.own (s.heap.objs.size+1)) (h':=s.heap.push PySem.W.emptyDict) (t':=s.toks) (λb u q=>gQ _ q) (bK _) ⟨_,e1⟩
 refine I1.laid (a:=s.heap.objs.size+1) (o:=.ins C s.heap.objs.size []) (t':=s.toks) (λb u q=>gQ _ q) (Af (tu _ _)) ?_
 have ne:s.heap.objs.size≠s.heap.objs.size+1:=fS (Ag _)
 refine⟨by rw[bo ne,bQ],jh _,ne,e2,λ_=>none,(Heap.Ns1.of_empty e3).at λo q=>gQ _ q,λ_=>tf,λy hy=>absurd rfl hy⟩
theorem Z6{prog:Program}{w:World}{env:Env}{e:Expr}{f:Str}{pos:Pos}{s:Shared}{Q:Value->Shared->Prop}(hb:attributeBase e f env (eval e env)=eval e env)
  (h:wpAny (model prog w) A (eval e env) (λo bG=>wpAny (model prog w) A (getAttr o f true) Q E bG) E s):wpAny (model prog w) A (eval (.Attribute e f pos) env) Q E s :=
 Attribute_any_ h (by rw[arm_eval_Attribute,hb])
end
noncomputable def Z7(K:PySem.W.Frag)(ta:TE)(f:Str):TE:=λσ H Q=>ta σ H λx H1=>∃a C dx fs v,x=.ref a/\H1 a=some (.ins C dx fs)/\cQ K C/\bq K C f/\fs.lookup f=some v/\Q v H1
noncomputable def Z8(K:PySem.W.Frag)(ta tv:TE)(f:Str):TS:=λD σ H=>tv σ H λy H1=>ta σ H1 λx H2=>∃a C dx fs,x=.ref a/\H2 a=some (.ins C dx fs)/\cQ K C/\bq K C f/\fs.length<1000 /\
 D.nx σ (upd H2 a (.ins C dx (bE f y fs)))
section
variable{X:Cx}{o e value:Expr}{f:Str}{pos pos' qU:Pos}{ta tv:TE}
theorem qV(he:PE X e ta)(hb:attributeBase e f X.env (eval e X.env)=eval e X.env):PE X (.Attribute e f pos) (Z7 X.K ta f):=by
 intro pins s σ H Q I h
 refine Z6 hb (aV (he pins s σ H _ I h) λu s1 ⟨x,H1,I1,rx,a,C,dx,fs,v,ex,ea,c,n,l,q⟩=>?_)
 subst ex
 obtain rfl:u=eA a:=rx
 exact Z4 I1 ea c n l λu' s2 I2 ru=>⟨v,H1,I2,ru,q⟩
theorem ib(ha:PE X o ta)(hv:PE X value tv)(hs:swapsWith value (some (.Attribute o f pos')) pos.line X.env=pure false):PS X (.Assign [.Attribute o f pos'] value pos) (Z8 X.K ta tv f):=by
 intro pins s σ H D I h
 refine plainObj_wpAny_Assign_Attribute (aV (hv pins s σ H _ I h) λu s1 ⟨y,H1,I1,ry,q⟩=>aV (ha pins s1 σ H1 _ I1 q) λov s2 ⟨x,H2,I2,rx,a,C,dx,fs,ex,ea,c,n,l,q2⟩=>?_) hs
 subst ex
 obtain rfl:ov=eA a:=rx
 exact Z5 I2 ea c n l ry λs3 I3=>⟨σ,_,I3,q2⟩
end
section
variable{X:Cx}{pins:List (Addr × Obj)}{σ:St}{H:Hp}{s:Shared}{A:Around}{E:Value->Shared->Prop}{Q:Value->Shared->Prop}{c:Value}{b:Bool}
inductive iA(K:PySem.W.Frag)(H:Hp):V->Value->Prop where
 | ax:iA K H .ax (.type "NoneType")
 | bl (x:Bool):iA K H (.bl x) (.type "bool")
 | int (i:Int):iA K H (.int i) (.type "int")
 | str (x:Str):iA K H (.str x) (.type "str")
 | qD (x:UInt64):iA K H (.qD x) (.type "float")
 | lst {a:Addr} {xs:List V} (e:H a=some (.lst xs)):iA K H (.ref a) (.type "list")
 | bx {a:Addr} {o:Obj} {xs:List V} (e:H a=some (.bx o (.lst xs))):iA K H (.ref a) (.type "list")
 | tup {a:Addr} {xs:List V} (e:H a=some (.tup xs)):iA K H (.ref a) (.type "tuple")
 | dK {a:Addr} {eG:List (Key × V)} (e:H a=some (.dK eG)):iA K H (.ref a) (.type "dict")
 | dT {a:Addr} {eG:List (List Key × V)} (e:H a=some (.dT eG)):iA K H (.ref a) (.type "dict")
 | ins {a C dx:Addr} {fs:List (Str × V)} (e:H a=some (.ins C dx fs)) (cl:cQ K C) (ha:PySem.W.findIn K (.ref C) "__class__"=some (some (.builtin "object.__class__")))
   (hn:PySem.W.specialIn K (.builtin "object.__class__") "__get__"=some (some (.builtin "getset_descriptor.__get__"))) (Bd:PySem.W.takesIn K (.builtin "object.__class__")=some true)
   (hm:PySem.W.mroIn K C (.type "object")=some true):iA K H (.ref a) (.ref C)
theorem NH{x:V}{u t:Value}(I:Inv X pins σ H s)(rx:RelV x u)(ty:iA X.K H x t)(e:PySem.W.kitOne X.K t c=some b)(h:∀tk,Q (.bool b) { s with toks:=tk }) :
  wpAny (model X.prog X.w) A (call (.builtin "isinstance") [u,c]) Q E s:=by
 cases ty with
 | ax=>cases(show u=Ef from rx);exact PySem.W.kia_one PySem.W.kitx_none I.dA tf e (λz=>nomatch z) h
 | bl y=>cases(show u=Eg y from rx);exact PySem.W.kia_one PySem.W.kitx_bool I.dA tf e (λz=>nomatch z) h
 | int i=>obtain⟨t,q⟩:=(show ∃t,u=qm i t from rx);cases q;exact PySem.W.kia_one PySem.W.kitx_int I.dA tf e (λz=>nomatch z) h
 | str y=>obtain⟨t,q⟩:=(show ∃t,u=Value.str y t from rx);cases q;exact PySem.W.kia_one PySem.W.kitx_str I.dA tf e (λz=>nomatch z) h
 | qD y=>obtain⟨t,q⟩:=(show ∃t,u=Value.float y t from rx);cases q;exact PySem.W.kia_one PySem.W.kitx_float I.dA tf e (λz=>nomatch z) h
 | @lst a xs ea =>
  cases(show u=eA a from rx)
  obtain⟨_,_,n,_,h1⟩:=(show fk X.prog X.w H s.heap a (.lst xs) from I.aU a _ ea)
  exact PySem.W.kia_one PySem.W.kitx_list I.dA ⟨_,h1,rfl⟩ e (λz=>nomatch z) h
 | @bx a ob xs ea =>
  cases(show u=eA a from rx)
  obtain⟨_,_,_,n,_,h1⟩:=(show fk X.prog X.w H s.heap a (.bx ob (.lst xs)) from I.aU a _ ea)
  exact PySem.W.kia_one PySem.W.kitx_list I.dA ⟨_,h1,rfl⟩ e (λz=>nomatch z) h
 | @tup a xs ea =>
  cases(show u=eA a from rx)
  obtain⟨_,_,_,p⟩:=(show fk X.prog X.w H s.heap a (.tup xs) from I.aU a _ ea)
  obtain⟨o,h1,h2,_⟩:=p
  exact PySem.W.kia_one PySem.W.kitx_tuple I.dA ⟨o,h1,h2⟩ e (λz=>nomatch z) h
 | @dK a eG ea =>
  cases(show u=eA a from rx)
  obtain⟨_,_,vs,_,p⟩:=(show fk X.prog X.w H s.heap a (.dK eG) from I.aU a _ ea)
  obtain⟨o,es,ep,h1,h2,_⟩:=p
  exact PySem.W.kia_one PySem.W.kitx_dict I.dA ⟨o,h1,h2.1⟩ e (λz=>nomatch z) h
 | @dT a eG ea =>
  cases(show u=eA a from rx)
  obtain⟨_,_,xs,_,o,es,ep,h1,h2,_⟩:=(show fk X.prog X.w H s.heap a (.dT eG) from I.aU a _ ea)
  exact PySem.W.kia_one PySem.W.kitx_dict I.dA ⟨o,h1,h2.1⟩ e (λz=>nomatch z) h
 | @ins a C dx fs ea cl ha hn Bd hm =>
  cases(show u=eA a from rx)
  obtain⟨mA,O,_⟩:=Bc I.aU ea
  obtain⟨od,J,_⟩:=O.look
  exact PySem.W.kia_one (PySem.W.kitx_own (cl.get _) cl.hd ha hn Bd hm) I.dA J e (λz=>nomatch z) h
end
end L2
namespace L2
open PySem PySem.Spec PyProof.Rows
structure cF(k:Nat)(A:Around):Prop where
 hd:A.handled=none
 dp:A.depth+3*k+5<recursionLimit
 un:A.units+16*k+200<cLine
theorem cF.mono{j k:Nat}{A:Around}(r:cF k A)(h:j<=k):cF j A:=⟨r.hd,by have:=r.dp;omega,by have:=r.un;omega⟩
theorem cF.deeper{k:Nat}{A:Around}(r:cF (k+1) A)(env:Env):cF k (A.deeper env) :=
 ⟨r.hd,by have:=r.dp;show A.depth+1+3*k+5<_;omega,by have:=r.un;show A.units+3+16*k+200<_;omega⟩
theorem Z9{A:Around}{C:Addr}{us:List Value}{kw:List (Str × Value)}:(A.under (.builtin "type.__call__" ⟨.ref C::us,kw⟩)).depth=A.depth+1:=by
 first | rfl | simp[Around.under,Code.weight,Code.isCreation,Code.isGuard,Code.isCaller,Code.frames,Code.isFrame,guardIds]
theorem γ{A:Around}{C:Addr}{us:List Value}{kw:List (Str × Value)}:(A.under (.builtin "type.__call__" ⟨.ref C::us,kw⟩)).units=A.units+1:=by
 first | rfl | simp[Around.under,Code.cUnits,Code.frames,Code.isFrame]
theorem cF.make{k:Nat}{A:Around}(r:cF (k+1) A)(C:Addr)(us:List Value)(kw:List (Str × Value)):cF k (A.under (.builtin "type.__call__" ⟨.ref C::us,kw⟩)) :=
 ⟨r.hd,by have:=r.dp;rw[Z9];omega,by have:=r.un;rw[γ];omega⟩
theorem cF.depth{k:Nat}{A:Around}(r:cF k A):A.depth<recursionLimit:=by have:=r.dp;omega
noncomputable def ε:TA:=λ_ H Q=>Q [] H
noncomputable def ζ(ta:TE)(tr:TA):TA:=λσ H Q=>ta σ H λx H1=>tr σ H1 λxs H2=>Q (x::xs) H2
section
variable{X:Cx}{e:Expr}{es:List Expr}{te:TE}{t:TA}{pos:Pos}
theorem fw:PA X [] ε:=λ_ _ _ _ H Q I h=>Calls.spliced_nil ⟨[],H,I,.nil,h⟩
theorem cm(ha:PE X e te)(hr:PA X es t)(hs:starEach (e::es) X.env=(false,eval e X.env)::starEach es X.env:=by rfl):PA X (e::es) (ζ te t):=by
 intro pos pins s σ H Q I h
 rw[hs]
 show wpAny _ _ (spliced ((false,eval e X.env)::backTo pos (starEach es X.env))) _ _ s
 refine Calls.spliced_cons (aV (ha pins s σ H _ I h) λu s1 ⟨x,H1,I1,r1,q1⟩=>?_)
 exact aV (hr pos pins s1 σ H1 _ I1 q1) λus s2 ⟨xs,H2,I2,r2,q2⟩=>⟨x::xs,H2,I2,.cons r1 r2,q2⟩
noncomputable def η(t:TA):TE:=λσ H Q=>t σ H λxs H1=>xs.length<=sizeLine/\∀p,H1 p=none->Q (.ref p) (upd H1 p (.tup xs))
noncomputable def θ(t:TA):TE:=λσ H Q=>t σ H λxs H1=>xs.length<=sizeLine/\∀p,H1 p=none->Q (.ref p) (upd H1 p (.lst xs))
theorem ι{x1}(h:PA X es t):PE X (.Tuple es x1 pos) (η t):=by
 intro pins s σ H Q I hq
 refine wpAny_Tuple_spliced (aV (h pos pins s σ H _ I hq) λus s1 ⟨xs,H1,I1,r,z,q⟩=>⟨by rw[<-r.length];exact z,?_⟩)
 have hf:H1 s1.heap.objs.size=none:=I1.aU.fresh (bK _)
 refine⟨.ref s1.heap.objs.size,upd H1 s1.heap.objs.size (.tup xs),I1.laid (t':=s1.toks) (λb u e=>gQ _ e) (bK _) ?_,rfl,q _ hf⟩
 exact⟨z,us,r,⟨_,iy _ rfl,rfl,_,rfl⟩⟩
theorem NI(h:PA X es t):PE X (.List es pos) (θ t):=by
 intro pins s σ H Q I hq
 refine wpAny_List_spliced (aV (h pos pins s σ H _ I hq) λus s1 ⟨xs,H1,I1,r,z,q⟩=>⟨by rw[<-r.length];exact z,?_⟩)
 have hf:H1 s1.heap.objs.size=none:=I1.aU.fresh (bK _)
 refine⟨.ref s1.heap.objs.size,upd H1 s1.heap.objs.size (.lst xs),I1.laid (t':=s1.toks) (λb u e=>gQ _ e) (bK _) ?_,rfl,q _ hf⟩
 exact⟨z,us,0,r,iy _ rfl⟩
end
noncomputable abbrev Sp:=List V->Hp->VK->XK->Prop
noncomputable abbrev fA:=List Env->Hp->Shared->XK->Value->Shared->Prop
structure js(P:Program)(w:World)(K:PySem.W.Frag)(mg:Str->Option Value)(base:Heap)(A:Around)(outer:List Env)(s:Shared)(H:Hp):Prop where
 frames:A.frames=some outer
 mod:Mod K mg base
 bs:∀b o,base.get? b=some o->s.heap.get? b=some o/\H b=none
 kb:base.objs.size<=s.heap.objs.size
 hZ:s.heap.FunFrames base outer
 ke:∀b∈jm outer,H b=none
 aU:dH P w H s.heap
 bare:AllBare s.gens
noncomputable def CE(outer:List Env)(P:Program)(w:World)(H:Hp)(s:Shared)(Q:VK)(u:Value)(s':Shared):Prop :=
 ∃v H',s'.os=s.os/\AllBare s'.gens/\Un (jm outer) [] H H' s.heap s'.heap/\dH P w H' s'.heap/\RelV v u/\Q v H'
noncomputable def CR(CX:fA)(outer:List Env)(P:Program)(w:World)(H:Hp)(s:Shared)(Q:VK)(E:XK)(r:Result)(s':Shared):Prop :=
 match r with
 | .ok (.ret u)=>CE outer P w H s Q u s'
 | .ok _=>False
 | .error e=>CX outer H s E e s'
structure aN(P:Program)(w:World)(K:PySem.W.Frag)(mg:Str->Option Value)(base:Heap)(CX:fA)(k:Nat)(f:Addr)(fd:FuncData)(ps:List Str)(sp:Sp):Prop where
 len:∀vs H Q E,sp vs H Q E->vs.length=ps.length
 run:∀(A:Around) (outer:List Env) (s:Shared) (H:Hp) (args:Args) (us:List Value) (vs:List V) (Q:VK) (E:XK),cF k A->js P w K mg base A outer s H->BindsTo s fd args (ps.zip us)->Vals vs us->sp vs H Q E ->
  codeAny (model P w) A (.call (.ref f) args) (CR CX outer P w H s Q E) s
theorem aN.mono{P:Program}{w:World}{K:PySem.W.Frag}{mg:Str->Option Value}{base:Heap}{CX:fA}{j k:Nat}{f:Addr}{fd:FuncData}{ps:List Str}{sp:Sp}(F:aN P w K mg base CX j f fd ps sp)(h:j<=k) :
  aN P w K mg base CX k f fd ps sp:=⟨F.len,λA outer s H args us vs Q E hr=>F.run A outer s H args us vs Q E (hr.mono h)⟩
theorem aN.imp{P:Program}{w:World}{K:PySem.W.Frag}{mg:Str->Option Value}{base:Heap}{CX:fA}{k:Nat}{f:Addr}{fd:FuncData}{ps:List Str}{sp pf:Sp}(F:aN P w K mg base CX k f fd ps sp)
  (h:∀vs H Q E,pf vs H Q E->sp vs H Q E):aN P w K mg base CX k f fd ps pf :=
 ⟨λvs H Q E q=>F.len vs H Q E (h _ _ _ _ q),λA outer s H args us vs Q E hr he hb hv hs=>F.run A outer s H args us vs Q E hr he hb hv (h _ _ _ _ hs)⟩
theorem js.make{P:Program}{w:World}{K:PySem.W.Frag}{mg:Str->Option Value}{base:Heap}{A:Around}{outer:List Env}{s:Shared}{H:Hp}(e:js P w K mg base A outer s H)(C:Addr)(us:List Value)(kw:List (Str × Value)) :
  js P w K mg base (A.under (.builtin "type.__call__" ⟨.ref C::us,kw⟩)) outer s H:=⟨by first | exact e.frames | (simpa[Around.under,Code.envs,Code.isFrame,pushEnvs]using e.frames),e.mod,e.bs,e.kb,e.hZ,e.ke,e.aU,e.bare⟩
section
variable{X:Cx}{pins:List (Addr × Obj)}{σ:St}{H:Hp}{s s':Shared}
theorem Inv.xn(I:Inv X pins σ H s):js X.prog X.w X.K X.mg X.base X.A X.stack s H :=
 ⟨I.ok.frames,I.ok.mod,I.bs,fU I.ok.kb I.sz,I.stack,I.Ng,I.aU,I.bare⟩
theorem Inv.after{Q:VK}{u:Value}(I:Inv X pins σ H s)(h:CE X.stack X.prog X.w H s Q u s'):EP X pins σ Q u s':=by
 obtain⟨v,H',os,bare,un,aU,r,q⟩:=h
 obtain⟨hh,g,d,t,μ⟩:=s'
 obtain rfl:μ=s.os:=os
 exact⟨v,H',I.call (h':=hh) (g':=g) (d':=d) (t':=t) (ch:=[]) un aU bare (λb z=>absurd z (by simp)),r,q⟩
end
noncomputable def ν(sp:Sp)(fK:List V)(E:XK)(t:TA):TE:=λσ H Q=>t σ H λvs H1=>sp (vs++fK) H1 Q E
noncomputable def ξ(C:Addr)(m:Str)(sp:Sp)(fK:List V)(E:XK)(ta:TE)(t:TA):TE:=λσ H Q=>ta σ H λx H1=>∃a dx fs,x=.ref a/\H1 a=some (.ins C dx fs)/\fs.lookup m=none /\
 t σ H1 λvs H2=>sp (x::(vs++fK)) H2 Q E
noncomputable def ο(C:Addr)(sp:Sp)(fK:List V)(E:XK)(t:TA):TE:=λσ H Q=>t σ H λvs H1=>∀x dx,H1 x=none->H1 dx=none->dx≠x ->
 sp (.ref x::(vs++fK)) (upd (upd H1 dx (.own x)) x (.ins C dx [])) (λv H2=>v=.ax/\Q (.ref x) H2) E
noncomputable def Binds(K:PySem.W.Frag)(fd:FuncData)(ps:List Str)(ds:List Value):Prop :=
 ∀(s:Shared) (us:List Value),K.In s.heap->(us++ds).length=ps.length->BindsTo s fd ⟨us,[]⟩ (ps.zip (us++ds))
theorem Binds.all{K:PySem.W.Frag}{fd:FuncData}{ps:List Str}(h:∀us:List Value,us.length=ps.length->bindArgs fd ⟨us,[]⟩=pure (ps.zip us)):Binds K fd ps []:=λs us _ hl=>by
 rw[gn]at hl ⊢
 exact .of_eq (h us hl)
noncomputable def kN(CX:fA)(X:Cx)(E:XK):Prop:=∀(pins:List (Addr × Obj)) (σ:St) (H:Hp) (s:Shared) (e:Value) (s':Shared),Inv X pins σ H s->CX X.stack H s E e s'->X.xe e s'
section
variable{X:Cx}{CX:fA}{k:Nat}{f C:Addr}{fd:FuncData}{ps:List Str}{sp:Sp}{fK:List V}{ds:List Value}{E:XK}{x m:Str}{p pos apos:Pos}{e o:Expr}{es:List Expr}{ta:TE}{t:TA}
theorem xo{pins:List (Addr × Obj)}{σ:St}{H:Hp}{s:Shared}{Q:VK}{us:List Value}{vs:List V}(F:aN X.prog X.w X.K X.mg X.base CX k f fd ps sp)(hr:cF k X.A)(hb:Binds X.K fd ps ds)(hd:Vals fK ds)(hx:kN CX X E)
  (I:Inv X pins σ H s) (r:Vals vs us) (h:sp (vs++fK) H Q E):wpAny (model X.prog X.w) X.A (call (.ref f) us) (EP X pins σ Q) X.xe s:=by
 have r2:Vals (vs++fK) (us++ds):=r.append hd
 have hl:(us++ds).length=ps.length:=by rw[<-r2.length];exact F.len _ _ _ _ h
 refine wpAny_call (codeAny_mono (F.run X.A X.stack s H ⟨us,[]⟩ (us++ds) (vs++fK) Q E hr I.xn (hb s us I.dA hl) r2 h) λr s' hq=>?_)
 cases r with
 | error e=>exact hx pins σ H s e s' I hq
 | ok fl =>
  cases fl with
  | ret u=>exact I.after hq
  | next=>exact gF hq
  | brk=>exact gF hq
  | cont=>exact gF hq
theorem jt(F:aN X.prog X.w X.K X.mg X.base CX k f fd ps sp)(hr:cF k X.A)(hg:Gl X x)(hm:X.mg x=some (.ref f))(hk:PySem.W.keepIn X.K (.ref f)=true)(hb:Binds X.K fd ps ds)(hd:Vals fK ds)(hx:kN CX X E)
  (ha:PA X (e::es) t) (eH:(x==("__debug__":Str))=false:=by decide) (he:starEach (e::es) X.env=(false,eval e X.env)::starEach es X.env:=by rfl) (bZ:(backTo pos (starEach es X.env)).any (·.1)=false:=by rfl) :
  PE X (.Call (.Name x p) (e::es) [] pos) (ν sp fK E t):=by
 intro pins s σ H Q I h
 refine wpAny_Call_Name_kw (AS I hg hm ?_ eH)
 refine PySem.W.callWith_K (h₀:=X.base) I.ok.mod.qF hk (aV (ha pos pins s σ H _ I h) λus s1 ⟨vs,H1,I1,r,q⟩=>⟨I1.dA,?_⟩) he bZ
 exact xo F hr hb hd hx I1 r q
theorem π{pl:Sem Bool}(he:PE X o ta)(c:cQ X.K C)(hm:Meth X.K C m f)(F:aN X.prog X.w X.K X.mg X.base CX k f fd ps sp)(hr:cF k X.A)(hb:Binds X.K fd ps ds)(hd:Vals fK ds)(hx:kN CX X E)(ha:PA X (e::es) t)
  (h9:starEach (e::es) X.env=(false,eval e X.env)::starEach es X.env:=by rfl) (bZ:(backTo pos (starEach es X.env)).any (·.1)=false:=by rfl)
  (ht:eval (.Call (.Attribute o m apos) (e::es) [] pos) X.env=(do
   let ov<-eval o X.env
   standAt apos.atName
   let (f,first)<-holding [ov] (getMethod ov m pl)
   callWith pos f first (backTo pos (starEach (e::es) X.env)) (backToKw pos (keywordEach [] X.env))):=by rfl) :
  PE X (.Call (.Attribute o m apos) (e::es) [] pos) (ξ C m sp fK E ta t):=by
 intro pins s σ H Q I h
 refine PySem.W.methodCall_KW (pl:=pl) (aV (he pins s σ H _ I h) λu s1 ⟨x,H1,I1,rx,a,dx,fs,ex,ea,l,q⟩=>?_) ht
 subst ex
 obtain rfl:u=eA a:=rx
 refine E8 I1 ea c hm l ?_
 refine PySem.W.callWith_K (first:=[.ref a]) (h₀:=X.base) I.ok.mod.qF hm.kp (aV (ha pos pins s1 σ H1 _ I1 q) λus s2 ⟨vs,H2,I2,r,q2⟩=>⟨I2.dA,?_⟩) h9 bZ
 exact xo (us:=.ref a::us) (vs:=.ref a::vs) F hr hb hd hx I2 (.cons rfl r) q2
structure Mk(K:PySem.W.Frag)(C f:Addr):Prop where
 makes:PySem.W.makesIn K C=true
 init:PySem.W.findIn K (.ref C) "__init__"=some (some (.ref f))
 fn:PySem.W.isFn K (.ref f)=true
 kp:PySem.W.keepIn K (.ref C)=true
theorem ρ{pins:List (Addr × Obj)}{σ:St}{H:Hp}{s:Shared}{Q:VK}{us:List Value}{vs:List V}(M:Mk X.K C f)(F:aN X.prog X.w X.K X.mg X.base CX k f fd ps sp)(hr:cF (k+1) X.A)(hb:Binds X.K fd ps ds)(hd:Vals fK ds)
  (hx:kN CX X E) (I:Inv X pins σ H s) (r:Vals vs us)
  (h:∀x dx,H x=none->H dx=none->dx≠x->sp (.ref x::(vs++fK)) (upd (upd H dx (.own x)) x (.ins C dx [])) (λv H2=>v=.ax/\Q (.ref x) H2) E) :
  wpAny (model X.prog X.w) X.A (call (.ref C) us) (EP X pins σ Q) X.xe s:=by
 have hq:=h (s.heap.objs.size+1) s.heap.objs.size (I.aU.fresh (Nat.le_succ _)) (I.aU.fresh (bK _)) (fS (Ag _))
 have I2:=Inv.made (C:=C) I
 have r2:Vals (V.ref (s.heap.objs.size+1)::(vs++fK)) (eA (s.heap.objs.size+1)::(us++ds)):=.cons rfl (r.append hd)
 have hl:(eA (s.heap.objs.size+1)::us++ds).length=ps.length:=by
  have e:=r2.length
  rw[F.len _ _ _ _ hq]at e
  exact e.symm
 refine wpAny_call (Z1 (f:=f) I.dA M.makes M.init (beq_iff_eq.mp M.fn) (codeAny_mono (F.run _ X.stack _ _ ⟨eA (s.heap.objs.size+1)::us,[]⟩ (eA (s.heap.objs.size+1)::(us++ds)) _ _ E (hr.make C us [])
  (I2.xn.make C us []) (hb _ (eA (s.heap.objs.size+1)::us) I2.dA hl) r2 hq) λr s' nk=>?_))
 cases r with
 | error e=>exact hx pins σ _ _ e s' I2 nk
 | ok fl =>
  cases fl with
  | ret u =>
   obtain⟨v,H',I3,rv,ev,q3⟩:=I2.after nk
   subst ev
   exact⟨rv,⟨V.ref (s.heap.objs.size+1),H',I3,rfl,q3⟩⟩
  | next=>exact gF nk
  | brk=>exact gF nk
  | cont=>exact gF nk
theorem NJ(M:Mk X.K C f)(F:aN X.prog X.w X.K X.mg X.base CX k f fd ps sp)(hr:cF (k+1) X.A)(hg:Gl X x)(hm:X.mg x=some (.ref C))(hb:Binds X.K fd ps ds)(hd:Vals fK ds)(hx:kN CX X E)
  (ha:PA X (e::es) t) (eH:(x==("__debug__":Str))=false:=by decide) (he:starEach (e::es) X.env=(false,eval e X.env)::starEach es X.env:=by rfl) (bZ:(backTo pos (starEach es X.env)).any (·.1)=false:=by rfl) :
  PE X (.Call (.Name x p) (e::es) [] pos) (ο C sp fK E t):=by
 intro pins s σ H Q I h
 refine wpAny_Call_Name_kw (AS I hg hm ?_ eH)
 refine PySem.W.callWith_K (h₀:=X.base) I.ok.mod.qF M.kp (aV (ha pos pins s σ H _ I h) λus s1 ⟨vs,H1,I1,r,q⟩=>⟨I1.dA,?_⟩) he bZ
 exact ρ M F hr hb hd hx I1 r q
end
section
variable{X:Cx}{CX:fA}{k:Nat}{f C:Addr}{fd:FuncData}{ps ks:List Str}{sp:Sp}{E:XK}{x m:Str}{p pos apos eg5:Pos}{e o:Expr}{es:List Expr}{kws:List Keyword}{te ta:TE}{t tk:TA}{nm:Option Str}
variable{g:List Value->List Value->List Value}{gV:List V->List V->List V}
end
structure aW(N P:List Str)(sc:Scope):Prop where
 kind:sc.kind=.function
 co:sc.isCoroutine=false
 gen:sc.isGenerator=false
 nd:N.Nodup
 pre:N.take P.length=P
 par:∀x∈P,sc.names.lookup x=some .local\/sc.names.lookup x=some .cell
 τ:∀y∈sc.names,y.2≠.free
theorem NK{kindOf:Str->Option NameKind}{x:Str}:∀{binds:List (Str × Value)} {m:Str->Option Value},(∀v,(x,v) ∉ binds)->bindL kindOf binds m x=m x
 | [],_,_=>rfl
 | (n,v)::r,m,h=>by
  unfold bindL
  rw[NK λw hw=>h w (gE _ hw)]
  split
  ·have:x≠n:=by rintro rfl;exact h v iO
   simp[this]
  ·rfl
theorem NL{kindOf:Str->Option NameKind}{x:Str}:∀{binds:List (Str × Value)} {m:Str->Option Value},(∀v,(x,v) ∉ binds)->bindC kindOf binds m x=m x
 | [],_,_=>rfl
 | (n,v)::r,m,h=>by
  unfold bindC
  rw[NL λw hw=>h w (gE _ hw)]
  split
  ·rfl
  ·have:x≠n:=by rintro rfl;exact h v iO
   simp[this]
theorem NM{kindOf:Str->Option NameKind}{x:Str}{v:Value}:∀{P:List Str} {vs:List Value} {i:Nat} {m:Str->Option Value},P.Nodup->P[i]?=some x->vs[i]?=some v->kindOf x=some .local ->
  bindL kindOf (P.zip vs) m x=some v
 | [],_,_,_,_,h,_,_=>by simp at h
 | _::_,[],_,_,_,_,h,_=>by simp at h
 | p::P,w::vs,0,m,nd,h1,h2,hk=>by
  simp at h1 h2;subst h1;subst h2
  show bindL kindOf ((p,w)::P.zip vs) m p=_
  unfold bindL
  rw[NK λv hv=>(jJ.mp nd).1 (tw hv).1,if_pos hk]
  simp
 | p::P,w::vs,i+1,m,nd,h1,h2,hk=>by
  show bindL kindOf ((p,w)::P.zip vs) m x=_
  unfold bindL
  exact NM (i:=i) (jJ.mp nd).2 (by simpa using h1) (by simpa using h2) hk
theorem NN{kindOf:Str->Option NameKind}{x:Str}{v:Value}:∀{P:List Str} {vs:List Value} {i:Nat} {m:Str->Option Value},P.Nodup->P[i]?=some x->vs[i]?=some v->kindOf x≠some .local ->
  bindC kindOf (P.zip vs) m x=some v
 | [],_,_,_,_,h,_,_=>by simp at h
 | _::_,[],_,_,_,_,h,_=>by simp at h
 | p::P,w::vs,0,m,nd,h1,h2,hk=>by
  simp at h1 h2;subst h1;subst h2
  show bindC kindOf ((p,w)::P.zip vs) m p=_
  unfold bindC
  rw[NL λv hv=>(jJ.mp nd).1 (tw hv).1,if_neg hk]
  simp
 | p::P,w::vs,i+1,m,nd,h1,h2,hk=>by
  show bindC kindOf ((p,w)::P.zip vs) m x=_
  unfold bindC
  exact NN (i:=i) (jJ.mp nd).2 (by simpa using h1) (by simpa using h2) hk
noncomputable def start(N:List Str)(vs:List V):St:=vs.map some++aQ (N.length-vs.length) none
noncomputable def jN(CX:fA)(P:Program)(w:World)(K:PySem.W.Frag)(mg:Str->Option Value)(base:Heap)(N:List Str)(qual:Str)(scope:Scope)(f:Addr)(cd:Value)(A:Around)(outer:List Env)(s:Shared)(H:Hp)(E:XK):Cx where
 prog:=P
 w:=w
 K:=K
 mg:=mg
 base:=base
 A:=A.deeper (envOfC qual scope s.heap.objs.size f cd)
 N:=N
 eX:=s
 mf:=H
 env:=envOfC qual scope s.heap.objs.size f cd
 outer:=outer
 stack:=envOfC qual scope s.heap.objs.size f cd::outer
 ex:=[]
 calm:=true
 fn:=λ_=>true
 pn:=[]
 xe:=λe s'=>wpAny (model P w) (A.deeper (envOfC qual scope s.heap.objs.size f cd)) (leaving (envOfC qual scope s.heap.objs.size f cd) e) (λ_ qW=>CX outer H s E e qW) (λe' qW=>CX outer H s E e' qW) s'
theorem NO{sc:Scope}{n:Nat}{x:Str}(h:sc.names.lookup x=some .cell):∃c,(cellsFrom n sc.names []).lookup x=some c:=by
 have q:=PySem.W.cellsFrom_some sc.names n [] (.inl h)
 exact Ah.mp q
theorem υ{CX:fA}{P:Program}{w:World}{K:PySem.W.Frag}{mg:Str->Option Value}{base:Heap}{N ps:List Str}{qual:Str}{scope:Scope}{f:Addr}{cd:Value}{A:Around}{outer:List Env}{s s1:Shared}{H:Hp}{E:XK}{us:List Value}{vs:List V}
  (S:aW N ps scope) (hd:A.handled=none) (e0:js P w K mg base A outer s H) (hl:vs.length=ps.length) (r:Vals vs us)
  (x:InCallC s s.heap.objs.size (bindL (envOfC qual scope s.heap.objs.size f cd).kindOf (ps.zip us) λ_=>none) (cellsFrom (s.heap.objs.size+1) scope.names []) (bindC (envOfC qual scope s.heap.objs.size f cd).kindOf (ps.zip us) λ_=>none) s1) :
  Inv (jN CX P w K mg base N qual scope f cd A outer s H E) [] (start N vs) H s1:=by
 have bZ:ps.length<=N.length:=by have:=congrArg Ei S.pre;rw[hE]at this;omega
 obtain⟨h1,tk,rfl,hk⟩:=x.done
 have xp:∀b:Addr,b ∉ (jN CX P w K mg base N qual scope f cd A outer s H E).ex:=λb z=>absurd (show b∈([]:List Addr) from z) (by simp)
 refine⟨⟨e0.mod,S.kind,rfl,rfl,bK _,λy z c h1 h2=>?_,λy hy=>?_,λy c _ h=>?_,λ_=>hd,Around.frames_deeper e0.frames,.inr ⟨rfl,rfl⟩,λb z=>absurd z (xp b),e0.bs,e0.kb,λb _ _=>xp b,λb z=>absurd z (xp b),e0.hZ,e0.ke⟩,
  rfl,e0.bare,Un.kept hk,⟨_,x.toInCall.ns,λi y v h1 h2 h3=>?_⟩,λy c h=>⟨_,x.cell y c h⟩,e0.aU.fresh (bK _),λy c h=>?_,λp hp=>absurd (show p∈([]:List (Addr × Obj)) from hp) (by simp),e0.aU.kept hk,?_⟩
 ·exact name_of_addr x.apart (PySem.mem_of_lookup h1) (PySem.mem_of_lookup h2)
 ·have hy:scope.names.lookup y=some .cell\/scope.names.lookup y=some .free:=hy
  rcases hy with hy | hy
  ·exact NO hy
  ·exact absurd rfl (S.τ _ (PySem.mem_of_lookup hy))
 ·exact Ad (x.above y c (PySem.mem_of_lookup h))
 ·have hi:i<vs.length:=by
   unfold start at h2
   by_cases hi:i<vs.length
   ·exact hi
   ·rw[lV (by simpa using hi)]at h2
    rw[kF]at h2
    split at h2<;>cases h2
  have ha:vs[i]?=some v:=by
   unfold start at h2
   rw[oR (by simpa using hi),cI]at h2
   cases e:vs[i]? with
   | none=>rw[e]at h2;cases h2
   | some a=>rw[e]at h2;cases h2;rfl
  obtain⟨u,hu,rv⟩:=r.get ha
  have hp:ps[i]?=some y:=by
   rw[<-S.pre,X4 (by omega)];exact h1
  have NP:ps.Nodup:=by rw[<-S.pre];exact S.nd.sublist (List.take_sublist _ _)
  refine⟨u,rv,?_⟩
  rcases S.par y (tD hp)with k | k
  ·exact .inl ⟨k,NM NP hp hu k⟩
  ·obtain⟨c,e⟩:=NO (n:=s.heap.objs.size+1) k
   refine .inr ⟨.inl k,c,e,?_⟩
   have q:=x.cell y c e
   rw[NN NP hp hu (by show scope.names.lookup y≠_;rw[k];decide)]at q
   exact q
 ·exact e0.aU.fresh (Ad (x.above y c (PySem.mem_of_lookup h)))
 ·unfold start
  show _=N.length
  rw[dF,bw,dG]
  omega
theorem E9{CX:fA}{P:Program}{w:World}{K:PySem.W.Frag}{mg:Str->Option Value}{base:Heap}{k:Nat}{f:Addr}{name qual:Str}{params:Arguments}{body:List Stmt}{scope:Scope}{dV kV doc pm aE ct oc:Value}{an od:Option Addr}
  {iS:Array (Option Value)} {N ps:List Str} {sp:Sp} (lk:K.lookup f=some ⟨oc,od,.func (PySem.W.fnOf name qual params body scope dV kV doc pm an aE ct),iS⟩) (dh:PySem.W.codeIn K aE qual=true) (S:aW N ps scope)
  (len:∀vs H Q E,sp vs H Q E->vs.length=ps.length)
  (iT:∀(A:Around) (outer:List Env) (s:Shared) (H:Hp) (vs:List V) (Q:VK) (E:XK),cF k (A.deeper (envOfC qual scope s.heap.objs.size f aE))->sp vs H Q E ->
   ∃t,PSs (jN CX P w K mg base N qual scope f aE A outer s H E) body t/\t { nx:=λ_ H'=>Q .ax H',rt:=Q } (start N vs) H) :
  aN P w K mg base CX (k+1) f (PySem.W.fnOf name qual params body scope dV kV doc pm an aE ct) ps sp:=by
 refine⟨len,λA outer s H args us vs Q E hr e0 hb r ju=>?_⟩
 have hl:=len _ _ _ _ ju
 have KX:K.In s.heap:=e0.mod.qF.keeps λb o e=>(e0.bs b o e).1
 have lim:s.heap.NoLimit:=e0.mod.nolimit.keeps λb o e=>(e0.bs b o e).1
 have iB:∀y∈ps.zip us,scope.names.lookup y.1=some .local\/(scope.names.lookup y.1=some .cell/\((cellsFrom (s.heap.objs.size+1) scope.names []).lookup y.1).isSome=true):=λ⟨n,v⟩ hy=>by
  rcases S.par n (tw hy).1 with q | q
  ·exact .inl q
  ·exact .inr ⟨q,PySem.W.cellsFrom_some _ _ _ (.inl q)⟩
 refine codeAny_call_function hr.depth (KX _ _ lk) rfl S.co S.gen rfl (PySem.W.codeRec_of KX dh) (hb _ _ _ _ ?_)
 refine wpAny_newFunctionEnv_cells S.kind iB λenv he s1 x=>?_
 subst he
 refine⟨lim.keeps x.toInCall.keep,codeAny_func ?_⟩
 obtain⟨t,ht,hq⟩:=iT A outer s H vs Q E (hr.deeper _) ju
 have I:Inv (jN CX P w K mg base N qual scope f aE A outer s H E) [] (start N vs) H s1:=υ S hr.hd e0 hl r x
 refine wpAny_mono (ht [] s1 (start N vs) H _ I hq) (λfl s' hs=>?_) λe s' hs=>hs
 have fin:∀{aR:St} {H':Hp} {v:V} {u:Value},Inv (jN CX P w K mg base N qual scope f aE A outer s H E) [] aR H' s'->RelV v u->Q v H'->CE outer P w H s Q u s' :=
  λ{aR H' v u} J rv q=>⟨v,H',J.os,J.bare,J.base,J.aU,rv,q⟩
 cases fl with
 | ret u =>
  obtain⟨v,aR,H',J,rv,q⟩:=hs
  exact fin J rv q
 | next =>
  obtain⟨aR,H',J,q⟩:=hs
  exact fin (v:=V.ax) (u:=Ef) J rfl q
 | brk =>
  obtain⟨_,_,_,q⟩:=hs
  exact gF q
 | cont =>
  obtain⟨_,_,_,q⟩:=hs
  exact gF q
end L2
namespace L2
open PySem PySem.Spec PyProof.Rows
section
variable{X:Cx}{x:Str}{p pos:Pos}{e:Expr}{es:List Expr}{t:TA}{id T:String}{r:List V->Hp->VK->Prop}
noncomputable def Fc(r:List V->Hp->VK->Prop)(t:TA):TE:=λσ H Q=>t σ H λvs H1=>r vs H1 Q
theorem Be(hc:gU X (.builtin id) r)(hg:Gl X x)(hm:X.mg x=none)(hv:bootBuiltins x=some (.builtin id))(ha:PA X (e::es) t)(hn:x≠"__name__":=by decide)(eH:(x==("__debug__":Str))=false:=by decide)
  (he:starEach (e::es) X.env=(false,eval e X.env)::starEach es X.env:=by rfl) (bZ:(backTo pos (starEach es X.env)).any (·.1)=false:=by rfl):PE X (.Call (.Name x p) (e::es) [] pos) (Fc r t):=by
 intro pins s σ H Q I h
 refine wpAny_Call_Name_kw (qI I hg hm hv ?_ hn eH)
 exact PyProof.Rows.callWith_builtin1 (aV (ha pos pins s σ H _ I h) λus s1 ⟨vs,H1,I1,r1,q1⟩=>hc pins s1 σ H1 vs us Q I1 r1 q1) he bZ
theorem χ(hc:gU X (.type T) r)(hg:Gl X x)(hm:X.mg x=none)(hv:bootBuiltins x=some (.type T))(ha:PA X (e::es) t)(hn:x≠"__name__":=by decide)(eH:(x==("__debug__":Str))=false:=by decide)
  (he:starEach (e::es) X.env=(false,eval e X.env)::starEach es X.env:=by rfl) (bZ:(backTo pos (starEach es X.env)).any (·.1)=false:=by rfl):PE X (.Call (.Name x p) (e::es) [] pos) (Fc r t):=by
 intro pins s σ H Q I h
 refine wpAny_Call_Name_kw (qI I hg hm hv ?_ hn eH)
 exact Ae (aV (ha pos pins s σ H _ I h) λus s1 ⟨vs,H1,I1,r1,q1⟩=>hc pins s1 σ H1 vs us Q I1 r1 q1) he bZ
end
end L2
namespace HT
open PySem PyProof.Rows
section
open PySem.SeqAt
open PySem.AutoSeq1 (wpAny_loadPart')
open PySem.MeetsSeq PySem.MeetsSeq2 PySem.MeetsSeq3
end
section
variable{prog:Program}{w:World}{A:Around}{E:Value->Shared->Prop}{s:Shared}
noncomputable def di(n d:Nat):Option Int->Nat
 | none=>d
 | some v=>if v<0 then(v+(n:Int)).toNat else min v.toNat n
theorem Fd(n d k:Nat):di n d (some (k:Int))=min k n:=by
 show(if(k:Int)<0 then((k:Int)+(n:Int)).toNat else min (k:Int).toNat n)=min k n
 rw[if_neg (by omega),fV]
end
end HT
namespace L2
open PySem PySem.Spec PyProof.Rows
noncomputable abbrev TO:=St->Hp->(Option Int->Hp->Prop)->Prop
noncomputable def PO(X:Cx)(e:Option Expr)(t:TO):Prop :=
 ∀(pins:List (Addr × Obj)) (s:Shared) (σ:St) (H:Hp) (Q:Option Int->Hp->Prop),Inv X pins σ H s->t σ H Q ->
  wpAny (model X.prog X.w) X.A (evalPart e X.env) (λu s'=>∃o H',Inv X pins σ H' s'/\IsPart u o/\Q o H') X.xe s
noncomputable def ω:TO:=λ_ H Q=>Q none H
noncomputable def Γ(t:TE):TO:=λσ H Q=>t σ H λx H1=>∃i,x=.int i/\Q (some i) H1
theorem Δ{ns:List Int}:∀{us:List Value},Vals (ns.map V.int) us->IntsAre us ns:=by
 induction ns with
 | nil=>intro us r;rw[j7]at r;cases r;exact .nil
 | cons n ns ih =>
  intro us r
  rw[dw]at r
  cases r with
  | cons r1 r2 =>
   obtain⟨t,e⟩:=r1
   subst e
   exact .cons n t (ih r2)
section
variable{X:Cx}{e:Expr}{te:TE}{lo hi:Option Expr}{tl th:TO}{pos p2:Pos}
theorem Θ:PO X none ω:=by
 intro pins s σ H Q I h
 rw[evalPart_none]
 exact wpAny_pure ⟨none,H,I,.none,h⟩
theorem Λ(h:PE X e te):PO X (some e) (Γ te):=by
 intro pins s σ H Q I hw
 rw[evalPart_some]
 refine aV (h pins s σ H _ I hw) λu s1 ⟨x,H1,I1,r1,q1⟩=>?_
 obtain⟨i,rfl,q⟩:=q1
 obtain⟨t,rfl⟩:=r1
 exact⟨some i,H1,I1,.int i t,q⟩
noncomputable def qX(X:Cx)(r:V->Option Int->Option Int->Hp->VK->Prop):Prop :=
 ∀(pins:List (Addr × Obj)) (s:Shared) (σ:St) (H:Hp) (x:V) (v vl vu:Value) (lo hi:Option Int) (sl:Addr) (Q:VK),Inv X pins σ H s->RelV x v->s.heap.IsSliceOf sl vl vu .none->IsPart vl lo->IsPart vu hi->r x lo hi H Q ->
  ∃T id,typeLookup (.type T) "__getitem__"=pure (some (.builtin id))/\s.TypeIs v T/\wpAny (model X.prog X.w) X.A (getItem v (.ref sl)) (EP X pins σ Q) X.xe s
theorem qX.or{r r':V->Option Int->Option Int->Hp->VK->Prop}(h:qX X r)(h':qX X r'):qX X (λx lo hi H Q=>r x lo hi H Q\/r' x lo hi H Q):=by
 intro pins s σ H x v vl vu lo hi sl Q I rx hs pl pu q
 rcases q with q | q
 ·exact h pins s σ H x v vl vu lo hi sl Q I rx hs pl pu q
 ·exact h' pins s σ H x v vl vu lo hi sl Q I rx hs pl pu q
noncomputable def Ξ(r:V->Option Int->Option Int->Hp->VK->Prop)(te:TE)(tl th:TO):TE:=λσ H Q=>te σ H λx H1=>tl σ H1 λl H2=>th σ H2 λu H3=>r x l u H3 Q
theorem Φ{r:V->Option Int->Option Int->Hp->VK->Prop}(hr:qX X r)(he:PE X e te)(hl:PO X lo tl)(hu:PO X hi th):PE X (.Subscript e (.Slice lo hi none p2) pos) (Ξ r te tl th):=by
 intro pins s σ H Q I h
 refine Subscript_ (aV (he pins s σ H _ I h) λv s1 ⟨x,H1,I1,r1,q1⟩=>?_)
 refine wpAny_Slice (aV (hl pins s1 σ H1 _ I1 q1) λvl s2 ⟨l,H2,I2,pl,q2⟩=>aV (hu pins s2 σ H2 _ I2 q2) λvu s3 ⟨u,H3,I3,pu,q3⟩=>?_)
 rw[evalPart_none]
 refine wpAny_pure ?_
 have I4:Inv X pins σ H3 { s3 with heap:=s3.heap.push { cls:=.type "slice",data:=.fields #[vl,vu,.none] } }:=I3.kept (t':=s3.toks) λb ob q=>gQ _ q
 obtain⟨T,id,hT,ht,hg⟩:=hr pins { s3 with heap:=s3.heap.push { cls:=.type "slice",data:=.fields #[vl,vu,.none] } } σ H3 x v vl vu l u s3.heap.objs.size Q I4 r1 (Heap.IsSliceOf.new ..) pl pu q3
 show wpAny (model X.prog X.w) X.A (subscriptTail e (.Slice lo hi none p2) v (.ref s3.heap.objs.size)) (EP X pins σ Q) X.xe { s3 with heap:=s3.heap.push { cls:=.type "slice",data:=.fields #[vl,vu,.none] } }
 exact tail_any (ops:=[.ref s3.heap.objs.size,v]) ht hT hg (by with_unfolding_all rfl)
noncomputable def ua(xs:List V)(lo hi:Option Int):List V:=(xs.drop (HT.di xs.length 0 lo)).take (HT.di xs.length xs.length hi-HT.di xs.length 0 lo)
theorem Ψ(xs:List V)(lo hi:Option Int):(ua xs lo hi).length<=xs.length:=by
 unfold ua
 rw[hE,ji]
 omega
end
end L2
namespace L2
open PySem PySem.Spec PyProof.Rows
noncomputable def iU(n:Nat)(i:Int):Option Nat:=if 0<=i then(if i<n then some i.toNat else none)else if -(n:Int)<=i then some (i+n).toNat else none
noncomputable def fo{α:Type}(xs:List α)(i:Int):Option α:=(iU xs.length i).bind λj=>xs[j]?
theorem NQ{n:Nat}{i:Int}{j:Nat}(h:iU n i=some j):seqIndex? i n=some j/\j<n/\-(n:Int)<=i/\i<n:=by
 unfold iU at h
 by_cases h0:0<=i
 ·rw[if_pos h0]at h
  by_cases h1:i<n
  ·rw[if_pos h1]at h
   have e:i.toNat=j:=de h
   exact⟨by rw[seqIndex_of h0 h1,e],by omega,by omega,h1⟩
  ·rw[if_neg h1]at h;cases h
 ·rw[if_neg h0]at h
  by_cases h1:-(n:Int)<=i
  ·rw[if_pos h1]at h
   have e:(i+n).toNat=j:=de h
   exact⟨by rw[seqIndex_neg (by omega) h1,e],by omega,h1,by omega⟩
  ·rw[if_neg h1]at h;cases h
theorem nq{α:Type}{xs:List α}{i:Int}{v:α}(h:fo xs i=some v):∃j,seqIndex? i xs.length=some j/\xs[j]?=some v/\j<xs.length/\-(xs.length:Int)<=i/\i<xs.length:=by
 unfold fo at h
 cases e:iU xs.length i with
 | none=>rw[e]at h;cases h
 | some j =>
  rw[e]at h
  obtain⟨h1,h2,h3,h4⟩:=NQ e
  exact⟨j,h1,h,h2,h3,h4⟩
noncomputable def NR(b:Expr):Prop:=∀o i,subscripted b false o i=operate [o,i] (getItem o i)
noncomputable def nt(X:Cx)(r:R2):Prop :=
 ∀(value slice:Expr) (pins:List (Addr × Obj)) (s:Shared) (σ:St) (H:Hp) (x y:V) (v u:Value) (Q:VK),Inv X pins σ H s->RelV x v->RelV y u->r x y H Q ->
  subscripted slice false v u=operate [v,u] (getItem v u)->wpAny (model X.prog X.w) X.A (subscriptTail value slice v u) (EP X pins σ Q) X.xe s
noncomputable def Bf(X:Cx)(id:String)(r:V->List V->Hp->VK->Prop):Prop :=
 ∀(pins:List (Addr × Obj)) (s:Shared) (σ:St) (H:Hp) (x:V) (xs:List V) (v:Value) (us:List Value) (Q:VK),Inv X pins σ H s->RelV x v->Vals xs us->r x xs H Q ->
  wpAny (model X.prog X.w) X.A (call (.builtin id) (v::us)) (EP X pins σ Q) X.xe s
section
variable{X:Cx}{a b:Expr}{ta tb:TE}{pos:Pos}
theorem nt.or{r r':R2}(h:nt X r)(h':nt X r'):nt X (λx y H Q=>r x y H Q\/r' x y H Q):=by
 intro value slice pins s σ H x y v u Q I rx ry q hs
 rcases q with q | q
 ·exact h value slice pins s σ H x y v u Q I rx ry q hs
 ·exact h' value slice pins s σ H x y v u Q I rx ry q hs
theorem Ω{r:R2}(hr:nt X r)(ha:PE X a ta)(hb:PE X b tb)(hs:NR b):PE X (.Subscript a b pos) (xj r ta tb):=by
 intro pins s σ H Q I h
 exact Subscript_ (E3 ha hb I h λv u s2 x y H2 I2 rx ry q=>hr a b pins s2 σ H2 x y v u Q I2 rx ry q (hs _ _))
noncomputable def NS(K:PySem.W.Frag):R2:=λx y H Q=>∃p xs i v,x=.ref p/\y=.int i/\bS K H p xs/\fo xs i=some v/\Q v H
noncomputable def NT(K:PySem.W.Frag):R2:=λx y H Q=>∃p xs i v,x=.ref p/\y=.int i/\iz K H p xs/\fo xs i=some v/\Q v H
noncomputable def NU:R2:=λx y H Q=>∃z i c,x=.str z/\y=.int i/\z.length<=sizeLine/\fo z.cps.toList i=some c/\Q (.str ⟨#[c]⟩) H
theorem cU1:nt X (NS X.K):=by
 intro value slice pins s σ H x y v u Q I rx ry h hs
 obtain⟨p,xs,i,z,rfl,rfl,hq,he,q⟩:=h
 cases rx
 obtain⟨t,rfl⟩:=ry
 obtain⟨its,r,pl,hz⟩:=I.list hq
 obtain⟨j,h1,h2,h3,h4,h5⟩:=nq he
 obtain⟨w,ew,gG⟩:=r.get h2
 have hl:=r.length
 have hn:=tZ
 have fin:EP X pins σ Q w s:=⟨z,H,I,gG,q⟩
 by_cases h0:0<=i
 ·have hj:i.toNat=j:=by
   rw[seqIndex_of h0 h5]at h1
   exact de h1
  exact item_listR pl.isList h0 (by omega) (by rw[hj];simpa using ew) fin hs
 ·have hj:(i+(its.toArray.size:Int)).toNat=j:=by
   rw[seqIndex_neg (by omega) h4]at h1
   rw[eB,<- hl]
   exact de h1
  exact subscriptTail_builtinR (x:=w) pl.isList.typeIs slot_list_getitem.lookup
   (wpAny_getItem_list_neg (Q:=λr s'=>r=w/\EP X pins σ Q r s') pl.isList (by omega) (by rw[eB]<;>omega) (by omega) (by rw[hj];simpa using ew) ⟨rfl,fin⟩) hs
theorem cU2:nt X (NT X.K):=by
 intro value slice pins s σ H x y v u Q I rx ry h hs
 obtain⟨p,xs,i,z,rfl,rfl,hq,he,q⟩:=h
 cases rx
 obtain⟨t,rfl⟩:=ry
 obtain⟨its,r,pl,hz⟩:=I.tuple hq
 obtain⟨j,h1,h2,h3,h4,h5⟩:=nq he
 obtain⟨w,ew,gG⟩:=r.get h2
 have hl:=r.length
 have hn:=tZ
 have fin:EP X pins σ Q w s:=⟨z,H,I,gG,q⟩
 exact subscriptTail_builtinR (x:=w) pl.typeIs slot_tuple_getitem.lookup
  (getItem_tuple (j:=j) (Q:=λr s'=>r=w/\EP X pins σ Q r s') pl (by omega) (by omega) (by rw[eB,<- hl];exact h1) (by simpa using ew) ⟨rfl,fin⟩) hs
theorem cL0:nt X NU:=by
 intro value slice pins s σ H x y v u Q I rx ry h hs
 obtain⟨z,i,c,rfl,rfl,hz,he,q⟩:=h
 obtain⟨t,rfl⟩:=rx
 obtain⟨t',rfl⟩:=ry
 obtain⟨j,h1,h2,h3,h4,h5⟩:=nq he
 have hl:z.cps.toList.length=z.length:=by simp[Str.length]
 rw[hl]at h1 h4 h5
 have hn:=tZ
 exact tail_any (typeIs_str s z t) slot_str_getitem.lookup (getItem_str (c:=c) (by
  have e1:decide (i < -(2 ^ 63:Int))=false:=decide_eq_false (by omega)
  have e2:decide (i ≥ 2 ^ 63)=false:=decide_eq_false (by omega)
  rw[e1,e2,wH]) (by rw[h1];simpa using h2) ⟨.str ⟨#[c]⟩,H,I.tok _,⟨_,rfl⟩,q⟩) hs
noncomputable def rIx(K:PySem.W.Frag):R2:=λx y H Q=>NS K x y H Q\/NT K x y H Q\/NU x y H Q
theorem cC1:nt X (rIx X.K):=cU1.or (cU2.or cL0)
theorem bT4(its:List Value)(n j:Nat)(u:Value):Ai (·.setIfInBounds j u) { cls:=.type "list",data:=.seq its.toArray n }={ cls:=.type "list",data:=.seq (its.set j u).toArray n }:=by
 simp[Ai]
theorem Inv.lst{pins:List (Addr × Obj)}{σ:St}{H:Hp}{s:Shared}{p:Addr}{xs:List V}(I:Inv X pins σ H s)(h:H p=some (.lst xs)) :
  ∃(its:List Value) (n:Nat),Vals xs its/\s.heap.get? p=some { cls:=.type "list",data:=.seq its.toArray n }/\xs.length<=sizeLine:=by
 obtain⟨z,its,n,r,e⟩:=I.aU p _ h
 exact⟨its,n,r,e,z⟩
theorem Inv.cU7{pins:List (Addr × Obj)}{σ:St}{H:Hp}{s:Shared}{p:Addr}{xs ys:List V}{its its':List Value}{n n':Nat}{f:Obj->Obj}(I:Inv X pins σ H s)(h:H p=some (.lst xs))
  (ho:s.heap.get? p=some { cls:=.type "list",data:=.seq its.toArray n }) (hf:f { cls:=.type "list",data:=.seq its.toArray n }={ cls:=.type "list",data:=.seq its'.toArray n' }) (r:Vals ys its') (hz:ys.length<=sizeLine) (t:Nat) :
  Inv X pins σ (upd H p (.lst ys)) { s with heap:=s.heap.update p f,toks:=t }:=by
 have e:(s.heap.update p f).get? p=some { cls:=.type "list",data:=.seq its'.toArray n' }:=by
  rw[Heap.get?_update_self f ho (by rw[hf]<;>rfl),hf]
 refine I.write (x:=p) (e:=p) (by rw[h];trivial) (.inl rfl) (λb u hb q=>(Heap.get?_update_other _ _ (iw hb)).trans q) ⟨_,e⟩ ?_
 exact⟨hz,its',n',r,e⟩
noncomputable def cM3:V->V->V->Hp->(Hp->Prop)->Prop:=λo i v H Q=>∃p xs k j,o=.ref p/\i=.int k/\H p=some (.lst xs)/\iU xs.length k=some j/\Q (upd H p (.lst (xs.set j v)))
theorem cf1:Nr X cM3:=by
 intro pins s σ H o i v ov iv u Q I ro ri rv h
 obtain⟨p,xs,k,j,rfl,rfl,hp,hj,q⟩:=h
 cases ro
 obtain⟨t,rfl⟩:=ri
 obtain⟨its,n,r,ho,hz⟩:=I.lst hp
 obtain⟨h1,h2,h3,h4⟩:=NQ hj
 have hl:=r.length
 have hn:=tZ
 have I':Inv X pins σ (upd H p (.lst (xs.set j v))) { s with heap:=s.heap.update p (Ai (·.setIfInBounds j u)) } :=
  I.cU7 hp ho (bT4 its n j u) (r.set rv j) (by rw[jj];exact hz) s.toks
 by_cases h0:0<=k
 ·have hk:k.toNat=j:=by
   rw[seqIndex_of h0 h4]at h1
   exact de h1
  exact PySem.W.ki_setAt ho h0 (by omega) (by rw[eB,<- hl];exact h4) (by rw[hk];exact⟨_,I',q⟩)
 ·have hk:(k+(its.toArray.size:Int)).toNat=j:=by
   rw[seqIndex_neg (by omega) h3]at h1
   rw[eB,<- hl]
   exact de h1
  exact PySem.W.ki_setBack ho (by omega) (by rw[eB,<- hl];exact h3) (by omega) (by rw[hk];exact⟨_,I',q⟩)
theorem Fe(lo hi:Option Int)(n:Nat):(sliceBounds lo hi none n).1=((HT.di n 0 lo:Nat):Int)/\(sliceBounds lo hi none n).2.1=((HT.di n n hi:Nat):Int)/\(sliceBounds lo hi none n).2.2=1:=by
 refine⟨?_,?_,rfl⟩
 ·cases lo with
  | none=>simp[sliceBounds,HT.di]
  | some i =>
   simp only[sliceBounds,HT.di,tE,show(1:Int)>0 by decide,if_true]
   by_cases h:i<0
   ·simp only[h,if_true]<;>omega
   ·simp only[h,if_false]<;>omega
 ·cases hi with
  | none=>simp[sliceBounds,HT.di]
  | some i =>
   simp only[sliceBounds,HT.di,tE,show(1:Int)>0 by decide,if_true]
   by_cases h:i<0
   ·simp only[h,if_true]<;>omega
   ·simp only[h,if_false]<;>omega
theorem bA8(its:List Value)(lo hi:Option Int):slicePick its.toArray lo hi none=((its.drop (HT.di its.length 0 lo)).take (HT.di its.length its.length hi-HT.di its.length 0 lo)).toArray:=by
 obtain⟨h1,h2,h3⟩:=Fe lo hi its.toArray.size
 unfold slicePick
 rw[h1,h2,h3]
 simp only[sliceRange_one,pick_run,eB]<;>rfl
noncomputable def cS4(K:PySem.W.Frag):V->Option Int->Option Int->Hp->VK->Prop:=λx lo hi H Q=>∃a xs,x=.ref a/\bS K H a xs/\∀p,H p=none->Q (.ref p) (upd H p (.lst (ua xs lo hi)))
theorem cV2:qX X (cS4 X.K):=by
 intro pins s σ H x v vl vu lo hi sl Q I rx hs pl pu h
 obtain⟨a,xs,rfl,hx,q⟩:=h
 cases rx
 obtain⟨its,r,ht,hz⟩:=I.list hx
 have hlen:=r.length
 refine⟨"list",_,slot_list_getitem.lookup,ht.isList.typeIs,?_⟩
 refine wpAny_getItem_list_slice ht.isList hs pl pu .none (by simp) ?_ (by rw[eB]<;>omega)
 rw[bA8,<- hlen]
 refine⟨.ref s.heap.objs.size,_,I.laid (t':=s.toks) (o:=.lst (ua xs lo hi)) (λb ob q=>gQ _ q) (bK _) ?_,rfl,q _ (I.aU.fresh (bK _))⟩
 exact⟨fU (Ψ xs lo hi) hz,_,0,(r.drop (HT.di xs.length 0 lo)).take (HT.di xs.length xs.length hi-HT.di xs.length 0 lo),iy _ rfl⟩
noncomputable def nu:V->Bool
 | .ax=>true
 | .bl _=>true
 | .int _=>true
 | .str _=>true
 | _=>false
noncomputable def mj:V->V->Bool
 | .ax,.ax=>true
 | .bl a,.bl b=>a==b
 | .bl a,.int b=>(if a then 1 else 0)==b
 | .int a,.bl b=>a==(if b then 1 else 0)
 | .int a,.int b=>a==b
 | .str a,.str b=>a==b
 | _,_=>false
theorem cF4{A:Around}{s:Shared}{y x:V}{u v:Value}(ry:RelV y u)(rx:RelV x v)(fy:nu y=true)(fx:nu x=true):Ej A s u v (mj y x):=by
 cases y with
 | ax =>
  cases ry
  cases x with
  | ax=>cases rx;exact SeqAt.EqAt.same _
  | bl b=>cases rx;exact SeqAt.EqAt.none_bool b
  | int b=>obtain⟨t,rfl⟩:=rx;exact SeqAt.EqAt.none_int b t
  | str b=>obtain⟨t,rfl⟩:=rx;exact SeqAt.EqAt.none_str b t
  | _=>exact absurd (show false=true from fx) iP
 | bl a =>
  cases ry
  cases x with
  | ax=>cases rx;exact SeqAt.EqAt.bool_none a
  | bl b=>cases rx;exact SeqAt.EqAt.bool_bool a b
  | int b=>obtain⟨t,rfl⟩:=rx;exact SeqAt.EqAt.bool_int a b t
  | str b=>obtain⟨t,rfl⟩:=rx;exact SeqAt.EqAt.bool_str a b t
  | _=>exact absurd (show false=true from fx) iP
 | int a =>
  obtain⟨t',rfl⟩:=ry
  cases x with
  | ax=>cases rx;exact SeqAt.EqAt.int_none a t'
  | bl b=>cases rx;exact SeqAt.EqAt.int_bool a t' b
  | int b=>obtain⟨t,rfl⟩:=rx;exact SeqAt.EqAt.int_int a t' b t
  | str b=>obtain⟨t,rfl⟩:=rx;exact SeqAt.EqAt.int_str a t' b t
  | _=>exact absurd (show false=true from fx) iP
 | str a =>
  obtain⟨t',rfl⟩:=ry
  cases x with
  | ax=>cases rx;exact SeqAt.EqAt.str_none a t'
  | bl b=>cases rx;exact SeqAt.EqAt.str_bool a t' b
  | int b=>obtain⟨t,rfl⟩:=rx;exact SeqAt.EqAt.str_int a t' b t
  | str b=>obtain⟨t,rfl⟩:=rx;exact SeqAt.EqAt.str_str a t' b t
  | _=>exact absurd (show false=true from fx) iP
 | _=>exact absurd (show false=true from fy) iP
noncomputable def nv(x:V)(u:Value):Bool:=match u with
 | .none=>mj .ax x
 | .bool b=>mj (.bl b) x
 | .int i _=>mj (.int i) x
 | .str z _=>mj (.str z) x
 | _=>false
theorem NV{x y:V}{u:Value}(r:RelV y u)(f:nu y=true):nv x u=mj y x:=by
 cases y with
 | ax=>cases r;rfl
 | bl b=>cases r;rfl
 | int i=>obtain⟨t,rfl⟩:=r;rfl
 | str z=>obtain⟨t,rfl⟩:=r;rfl
 | _=>exact absurd (show false=true from f) iP
theorem Ff{x:V}:∀{xs:List V} {us:List Value},Vals xs us->xs.all nu=true->us.any (nv x)=xs.any λy=>mj y x
 | _,_,.nil,_=>rfl
 | y::xs,u::us,.cons r t,f=>by
  rw[dy,fg]at f
  rw[List.any_cons,List.any_cons,NV r f.1,Ff t f.2]
theorem Fg{A:Around}{s:Shared}{x:V}{v:Value}(rx:RelV x v)(fx:nu x=true):∀{xs:List V} {us:List Value},Vals xs us->xs.all nu=true->∀u∈us,Ej A s u v (nv x u)
 | _,_,.nil,_=>λu hu=>by cases hu
 | y::xs,u::us,.cons r t,f=>λu' hu=>by
  rw[dy,fg]at f
  rcases cA.mp hu with rfl | hu
  ·rw[NV r f.1];exact cF4 r rx f.1 fx
  ·exact Fg rx fx t f.2 u' hu
noncomputable def Bg(x:V)(xs:List V):Bool:=xs.any λy=>mj y x
noncomputable def rIn(K:PySem.W.Frag)(neg:Bool):R2:=λx y H Q=>∃p xs,y=.ref p/\(bS K H p xs\/iz K H p xs)/\nu x=true/\xs.all nu=true/\Q (.bl (if neg then !Bg x xs else Bg x xs)) H
theorem bE6:cP X (compareOp .NotIn) (rIn X.K true):=by
 intro pins s σ H x y v u Q I rx ry h
 obtain⟨p,xs,rfl,hq,fx,fs,q⟩:=h
 cases ry
 rcases hq with hq | hq
 ·obtain⟨its,r,pl,hz⟩:=I.list hq
  refine SeqAt.notIn_listAt (nv x) pl.isList (λw hw=>Fg rx fx r fs w (by simpa using hw)) ⟨.bl _,H,I,rfl,?_⟩
  rw[show its.toArray.any (nv x)=its.any (nv x) by simp,Ff r fs]
  exact q
 ·obtain⟨its,r,pl,hz⟩:=I.tuple hq
  refine SeqAt.notIn_tupleAt (nv x) pl (λw hw=>Fg rx fx r fs w (by simpa using hw)) ⟨.bl _,H,I,rfl,?_⟩
  rw[show its.toArray.any (nv x)=its.any (nv x) by simp,Ff r fs]
  exact q
theorem NW:gU X (.builtin "len") (λxs H Q=>∃p ys,xs=[.ref p]/\(bS X.K H p ys\/iz X.K H p ys)/\Q (.int ys.length) H):=by
 intro pins s σ H xs us Q I r h
 obtain⟨p,ys,rfl,hq,q⟩:=h
 obtain⟨u,rfl,rx⟩:=E6 r
 cases rx
 have hn:=tZ
 rcases hq with hq | hq
 ·obtain⟨its,r',pl,hz⟩:=I.list hq
  have hlen:=r'.length
  exact Calls.call_len_list pl.isList (by simp only[eB]<;>omega) ⟨.int ys.length,H,I.tok _,⟨s.toks+1,by rw[eB,hlen]⟩,q⟩
 ·obtain⟨its,r',pl,hz⟩:=I.tuple hq
  have hlen:=r'.length
  exact len_tuple pl (by simp only[eB]<;>omega) ⟨.int ys.length,H,I.tok _,⟨s.toks+1,by rw[eB,hlen]⟩,q⟩
theorem bI5:gU X (.builtin "len") (λxs H Q=>∃z,xs=[.str z]/\z.length<=sizeLine/\Q (.int z.length) H):=by
 intro pins s σ H xs us Q I r h
 obtain⟨z,rfl,hz,q⟩:=h
 obtain⟨u,rfl,t,rfl⟩:=E6 r
 have hn:=tZ
 exact len_str (by omega) ⟨.int z.length,H,I.tok _,⟨_,rfl⟩,q⟩
theorem gU.or{f:Value}{r r':List V->Hp->VK->Prop}(h:gU X f r)(h':gU X f r'):gU X f (λxs H Q=>r xs H Q\/r' xs H Q):=by
 intro pins s σ H xs us Q I rs q
 rcases q with q | q
 ·exact h pins s σ H xs us Q I rs q
 ·exact h' pins s σ H xs us Q I rs q
theorem bI4:gU X (.type "list") (λxs H Q=>∃p ys,xs=[.ref p]/\(bS X.K H p ys\/iz X.K H p ys)/\∀l,H l=none->Q (.ref l) (upd H l (.lst ys))):=by
 intro pins s σ H xs us Q I r h
 obtain⟨p,ys,rfl,hq,q⟩:=h
 obtain⟨u,rfl,rx⟩:=E6 r
 cases rx
 have fin:∀(its:List Value),Vals ys its->ys.length<=sizeLine->∀(h':Heap) (c':Nat),(∀b o',s.heap.get? b=some o'->h'.get? b=some o') ->
   h'.get? s.heap.objs.size=some { cls:=.type "list",dict:=none,data:=.seq its.toArray c',slots:=#[] }->EP X pins σ Q (.ref s.heap.objs.size) { s with heap:=h' }:=λits r' hz h' c' kp e =>
  ⟨.ref s.heap.objs.size,_,I.laid (t':=s.toks) kp (bK _) (show fk X.prog X.w _ h' _ (.lst ys) from⟨hz,its,c',r',e⟩),rfl,q _ (I.aU.fresh (bK _))⟩
 rcases hq with hq | hq
 ·obtain⟨its,r',pl,hz⟩:=I.list hq
  have hlen:=r'.length
  obtain⟨o,ho,hc,n,hd⟩:=pl.isList
  exact call_list_seq p (.inl rfl) ho hc hd (λh' c' kp e=>fin its r' hz h' c' kp e) (by simp only[eB]<;>omega)
 ·obtain⟨its,r',pl,hz⟩:=I.tuple hq
  have hlen:=r'.length
  obtain⟨o,ho,hc,n,hd⟩:=pl
  exact call_list_seq p (.inr rfl) ho hc hd (λh' c' kp e=>fin its r' hz h' c' kp e) (by simp only[eB]<;>omega)
noncomputable def Fh(K:PySem.W.Frag)(T:String)(x:V)(H:Hp):Prop:=match x with
 | .str _=>T="str"
 | .int _=>T="int"
 | .ref p=>(T="list"/\∃xs,bS K H p xs)\/(T="tuple"/\∃o,K.lookup p=some o/\o.cls=.type "tuple"/\o.dict=none) \/
   (T="dict"/\((∃eG,H p=some (.dK eG))\/∃eG,H p=some (.dT eG)))\/(T="set"/\∃S n,H p=some (.set S n))
 | _=>False
theorem NX{pins:List (Addr × Obj)}{σ:St}{H:Hp}{s:Shared}{T:String}{x:V}{v:Value}(I:Inv X pins σ H s)(r:RelV x v)(ty:Fh X.K T x H) :
  s.TypeIs v T/\∀a,v=.ref a->∃ob,s.heap.get? a=some ob/\ob.dict=none:=by
 cases x with
 | str z =>
  obtain⟨t,rfl⟩:=r
  cases(show T="str" from ty)
  exact⟨typeIs_str s z t,λ_ e=>nomatch e⟩
 | int i =>
  obtain⟨t,rfl⟩:=r
  cases(show T="int" from ty)
  exact⟨typeIs_int s i t,λ_ e=>nomatch e⟩
 | ref p =>
  cases r
  rcases ty with⟨rfl,xs,hq⟩ | ⟨rfl,o,hk,hc,hd⟩ | ⟨rfl,hk⟩ | ⟨rfl,S,n,hk⟩
  ·obtain⟨its,_,pl,_⟩:=I.list hq
   refine⟨pl.isList.typeIs,λa e=>?_⟩
   cases e
   obtain⟨o,n,e,c,hd,_⟩:=pl
   exact⟨o,e,hd⟩
  ·refine⟨⟨o,I.dA p o hk,hc⟩,λa e=>?_⟩
   cases e
   exact⟨o,I.dA _ o hk,hd⟩
  ·have z:∃o,s.heap.get? p=some o/\o.ExactDict:=by
    rcases hk with⟨eG,hk⟩ | ⟨eG,hk⟩
    ·obtain⟨_,_,_,_,o,_,_,e,ex,_⟩:=I.aU p _ hk
     exact⟨o,e,ex⟩
    ·obtain⟨_,_,_,_,o,_,_,e,ex,_⟩:=I.aU p _ hk
     exact⟨o,e,ex⟩
   obtain⟨o,e,ex⟩:=z
   refine⟨⟨o,e,ex.1⟩,λa e2=>?_⟩
   cases e2
   exact⟨o,e,ex.2.1⟩
  ·obtain⟨o,_,_,_,e,ex,_⟩:=I.aU p _ hk
   refine⟨⟨o,e,ex.1⟩,λa e2=>?_⟩
   cases e2
   exact⟨o,e,ex.2.1⟩
 | _=>exact gF ty
noncomputable def NY(K:PySem.W.Frag)(T:String)(r:V->List V->Hp->VK->Prop)(to:TE):TE:=λσ H Q=>to σ H λx H1=>Fh K T x H1/\r x [] H1 Q
noncomputable def tBM(K:PySem.W.Frag)(T:String)(r:V->List V->Hp->VK->Prop)(to:TE)(t:TA):TE:=λσ H Q=>to σ H λx H1=>Fh K T x H1/\t σ H1 λxs H2=>r x xs H2 Q
variable{o e:Expr}{es:List Expr}{to:TE}{t:TA}{name:Str}{apos cX:Pos}{T id:String}{r:V->List V->Hp->VK->Prop}
theorem cE3(pa:PlainAttrs T)(slot:Slot T name id)(Fj:typeOf (.builtin id)=pure (.type "method_descriptor"))(hm:Bf X id r)(ho:PE X o to)
  (nB:attributeBase o name X.env (eval o X.env)=eval o X.env:=by rfl) (nC:(apos.endLine==cX.line)=true:=by rfl):PE X (.Call (.Attribute o name apos) [] [] cX) (NY X.K T r to):=by
 intro pins s σ H Q I h
 refine wpAny_Call_method0_late nB nC (aV (ho pins s σ H _ I h) λv s1 ⟨x,H1,I1,r1,ty,q1⟩=>?_)
 obtain⟨h1,h2⟩:=NX I1 r1 ty
 exact⟨T,id,pa,slot,Fj,h1,h2,Calls.callWith_builtin rfl (PySem.evalArgs_none (hm pins s1 σ H1 x [] v [] Q I1 r1 .nil q1))⟩
theorem cL6(pa:PlainAttrs T)(slot:Slot T name id)(Fj:typeOf (.builtin id)=pure (.type "method_descriptor"))(hm:Bf X id r)(ho:PE X o to)(ha:PA X (e::es) t)
  (nB:attributeBase o name X.env (eval o X.env)=eval o X.env:=by rfl)
  (Fl:((backTo cX (starEach (e::es) X.env)).all (λx=>!x.1)&&(backToKw cX (keywordEach [] X.env)).all (λx=>x.1.isSome)
   && decide ((e::es).length+([]:List Keyword).length+(if([]:List Keyword).isEmpty then 0 else 1)<30))=true:=by rfl)
  (nC:(apos.endLine==cX.line)=true:=by rfl) (hs:starEach (e::es) X.env=(false,eval e X.env)::starEach es X.env:=by rfl) (Fn:(backTo cX (starEach es X.env)).any (·.1)=false:=by rfl) :
  PE X (.Call (.Attribute o name apos) (e::es) [] cX) (tBM X.K T r to t):=by
 intro pins s σ H Q I h
 refine wpAny_Call_method_late nB Fl nC rfl (aV (ho pins s σ H _ I h) λv s1 ⟨x,H1,I1,r1,ty,q1⟩=>?_)
 obtain⟨h1,h2⟩:=NX I1 r1 ty
 refine⟨T,id,pa,slot,Fj,h1,h2,?_⟩
 have hA:=ha cX pins s1 σ H1 _ I1 q1
 rw[hs]at hA ⊢
 refine Calls.callWith_builtin (by show(false||(backTo cX (starEach es X.env)).any (·.1))=false;rw[Fn]<;>rfl) (Calls.evalArgs_plain ?_)
 exact aV hA λus s2 ⟨vs,H2,I2,r2,q2⟩=>hm pins s2 σ H2 x vs v us Q I2 r1 r2 q2
/- xs.append(e),list.index on a eg7 tuple .. are Bf facts of 06m -/
end
end L2
namespace L2
open PySem PySem.Spec PyProof.Rows
noncomputable def MtM(X:Cx)(id:String)(r:V->List V->Hp->VK->Prop):Prop :=
 ∀(pins:List (Addr × Obj)) (s:Shared) (σ:St) (H:Hp) (x:V) (xs:List V) (v:Value) (us:List Value) (Q:VK),Inv X pins σ H s->RelV x v->Vals xs us->r x xs H Q ->
  wpAny (model X.prog X.w) X.A (call (.builtin id) (v::us)) (EP X pins σ Q) X.xe s
theorem Vals.one:∀{x:V} {us:List Value},Vals [x] us->∃u,us=[u]/\RelV x u
 | _,_,h=>by cases h with | cons r h=>cases h;exact⟨_,rfl,r⟩
theorem Vals.two:∀{x y:V} {us:List Value},Vals [x,y] us->∃u v,us=[u,v]/\RelV x u/\RelV y v
 | _,_,_,h=>by cases h with | cons r h=>cases h with | cons q h=>cases h;exact⟨_,_,rfl,r,q⟩
theorem Vals.rep{xs:List V}{us:List Value}(h:Vals xs us):∀k:Nat,Vals (aQ k xs).flatten (aQ k us).flatten
 | 0=>.nil
 | k+1=>by
  rw[qp,qp,tF,tF]
  exact Vals.append h (Vals.rep h k)
theorem NZ(its:List Value):∀(k:Nat) (acc:List Value),
  List.foldl (λx1 x2=>x1++x2) acc.toArray (aQ k its.toArray)=(acc++(aQ k its).flatten).toArray
 | 0,acc=>by simp
 | k+1,acc=>by
  have e:acc.toArray++its.toArray=(acc++its).toArray:=by simp
  have e2:(acc++its)++(aQ k its).flatten=acc++(aQ (k+1) its).flatten:=by
   rw[qp,tF,eC]
  rw[<-e2,<- NZ its k (acc++its),<- e,qp,tG]
section
variable{X:Cx}{pins:List (Addr × Obj)}{σ:St}{H:Hp}{s:Shared}{l b:Addr}{xs ys zs:List V}
theorem Inv.cW2{its its':List Value}{n:Nat}{f:Array Value->Array Value}{t':Nat}(I:Inv X pins σ H s)(hH:H l=some (.lst xs))
  (e:s.heap.get? l=some { cls:=.type "list",data:=.seq its.toArray n }) (hf:f its.toArray=its'.toArray) (hv:Vals ys its') (hz:ys.length<=sizeLine) :
  Inv X pins σ (upd H l (.lst ys)) { s with heap:=s.heap.update l (Ai f),toks:=t' }:=by
 have q:=PySem.IsL.update e f
 rw[hf]at q
 refine I.write (x:=l) (e:=l) (by rw[hH];exact trivial) (.inl rfl) (λb' u hb hu=>(Heap.get?_update_other s.heap (Ai f) (iw hb)).trans hu) ⟨_,q⟩ ?_
 exact⟨hz,its',_,hv,q⟩
theorem Inv.N0{its:List Value}{t':Nat}(I:Inv X pins σ H s)(hv:Vals ys its)(hz:ys.length<=sizeLine) :
  Inv X pins σ (upd H s.heap.objs.size (.lst ys)) { s with heap:=s.heap.push { cls:=.type "list",data:=.seq its.toArray },toks:=t' } :=
 I.laid (λ_ _ q=>gQ _ q) (bK _) ⟨hz,its,0,hv,iy _ rfl⟩
theorem Inv.fresh(I:Inv X pins σ H s):H s.heap.objs.size=none:=I.aU.fresh (bK _)
theorem Inv.Bh(I:Inv X pins σ H s)(hH:H l=some (.lst xs)):xs.length<=sizeLine/\∃(its:List Value) (n:Nat),Vals xs its/\xs.length=its.length/\s.heap.get? l=some { cls:=.type "list",data:=.seq its.toArray n }:=by
 obtain⟨z,its,n,r,e⟩:=I.aU l _ hH
 exact⟨z,its,n,r,r.length,e⟩
theorem ci6{n:Nat}(h:n<=sizeLine):ME n=false:=by
 unfold ME
 exact decide_eq_false (by omega)
end
section
variable{X:Cx}
noncomputable def cp4:V->List V->Hp->VK->Prop:=λx vs H Q=>∃l xs y,x=.ref l/\vs=[y]/\H l=some (.lst xs)/\xs.length<sizeLine/\Q .ax (upd H l (.lst (xs++[y])))
theorem N1:MtM X "list.append" cp4:=by
 intro pins s σ H x vs v us Q I rx rv h
 obtain⟨l,xs,y,rfl,rfl,hH,hz,q⟩:=h
 cases rx
 obtain⟨u,rfl,ru⟩:=rv.one
 obtain⟨z,its,n,r,hl,e⟩:=I.Bh hH
 refine call_meets F.slot_list_append ⟨_,e,rfl⟩ F.entry_list_append (F.args_list_append_2 _ _) (PySem.list_append l its.toArray n u (by rw[eB];omega)) ⟨e,?_⟩
 refine⟨.ax,_,I.cW2 (its':=its++[u]) hH e (by simp) (r.append (.cons ru .nil)) ?_,rfl,q⟩
 rw[dF,lW]
 omega
noncomputable def cS3:R2:=λx y H Q=>∃l b xs zs,x=.ref l/\y=.ref b/\H l=some (.lst xs)/\H b=some (.lst zs)/\xs.length+zs.length<=sizeLine/\∀p,H p=none->Q (.ref p) (upd H p (.lst (xs++zs)))
theorem N2:cP X (binaryOp .Add) cS3:=by
 intro pins s σ H x y v u Q I rx ry h
 obtain⟨l,b,xs,zs,rfl,rfl,hH,hB,hz,q⟩:=h
 cases rx
 cases ry
 obtain⟨z,its,n,r,hl,e⟩:=I.Bh hH
 obtain⟨z2,N3,n2,r2,Bi,e2⟩:=I.Bh hB
 refine PySem.P.add_list e e2 ?_ (by rw[eB,eB];omega)
 have ea:its.toArray++N3.toArray=(its++N3).toArray:=by simp
 rw[ea]
 exact⟨.ref _,_,I.N0 (t':=s.toks) (r.append r2) (by rw[dF];omega),rfl,q _ I.fresh⟩
noncomputable def cU0:R2:=λx y H Q=>∃l k xs,x=.ref l/\y=.int k/\H l=some (.lst xs)/\-(2 ^ 63)<=k/\k<2 ^ 63/\xs.length*k.toNat<=sizeLine /\
 ∀p,H p=none->Q (.ref p) (upd H p (.lst (aQ k.toNat xs).flatten))
theorem cq2{α:Type}(xs:List α)(k:Nat):(aQ k xs).flatten.length=k*xs.length:=by
 induction k with
 | zero=>simp
 | succ k ih=>rw[qp,tF,dF,ih,Nat.succ_mul,wI]
theorem cH5:cP X (binaryOp .Mult) cU0:=by
 intro pins s σ H x y v u Q I rx ry h
 obtain⟨l,k,xs,rfl,rfl,hH,h1,h2,hz,q⟩:=h
 cases rx
 obtain⟨t,rfl⟩:=ry
 obtain⟨z,its,n,r,hl,e⟩:=I.Bh hH
 have hlen:its.toArray.size*k.toNat<=sizeLine:=by rw[eB,<- hl];exact hz
 have cW9:¬ its.toArray.size*k.toNat>(2 ^ 63-1)/8:=by
  have:(sizeLine:Nat)<=(2 ^ 63-1)/8:=by decide
  omega
 have cX0:¬ (!Builtin.List.listFitsIndex k)=true:=by
  rw[fitsIndex_both h1 h2]
  exact iP
 have cX1:¬ ME (its.toArray.size*k.toNat)=true:=by
  rw[ci6 hlen]
  exact iP
 have cX2:List.foldl (λx1 x2=>x1++x2) #[] (aQ (if its.toArray.isEmpty=true then 0 else k.toNat) its.toArray)=(aQ k.toNat its).flatten.toArray:=by
  have f0:∀m:Nat,List.foldl (λx1 x2=>x1++x2) #[] (aQ m its.toArray)=(aQ m its).flatten.toArray:=λm=>by
   have:=NZ its m []
   rw[qq]at this
   exact this
  rw[f0]
  cases its with
  | nil=>simp
  | cons a r'=>rw[if_neg (by simp)]
 refine wpAny_binaryOp_repeat_ref (T:="list") (U:="int") (by decide) ⟨_,e,rfl⟩ (λs'=>typeIs_int s' k t) noFill_list_mul F.fills_int_mul F.slot_int_rmul repeat_list F.slot_int_index.lookup
  (call_meets F.slot_int_rmul (typeIs_int s k t) F.entry_int_rmul (F.args_int_rmul_2 _ _) (int___rmul___int_list k t l its.toArray n)
   ⟨e,rfl,⟨_,e,rfl⟩,call_meets F.slot_list_mul ⟨_,e,rfl⟩ F.entry_list_mul (F.args_list_mul_2 _ _) (AutoListH.list___mul___list_int_3 l its.toArray n k t cX0 cW9 cX1) ⟨e,?_⟩⟩)
 rw[cX2]
 exact⟨.ref _,_,I.N0 (t':=s.toks) (r.rep k.toNat) (by rw[cq2,mU];exact hz),rfl,q _ I.fresh⟩
end
section
variable{prog:Program}{w:World}{A:Around}{E:Value->Shared->Prop}{s:Shared}
end
section
variable{X:Cx}
end
end L2
namespace Att
open PySem PySem.W PySem.Calls PyProof.Rows
theorem br1{P:Params}{h:Heap}:∀(ns:List Int) (vs:List Value),WellAll P h vs (ns.map WData.int)->IntsAre vs ns:=by
 intro ns
 induction ns with
 | nil =>
  intro vs w
  rw[j7]at w
  cases w
  exact .nil
 | cons n ns ih =>
  intro vs w
  rw[dw]at w
  cases w with
  | cons a b =>
   cases a
   exact .cons _ _ (ih _ b)
theorem b19{l:OpenLaw}{n:Nat}(hn:l.most=some n){P:Params}{h:Heap}{args:List WData}{vals:List Value}
  (Bj:l.row.toRowW.claim.pre args=true) (Fo:WellAll P h vals args) :
  ∃a vs ns,vals=[eA a]/\args=[WData.list (ns.map WData.int)]/\h.get? a=some { cls:=.type "list",data:=.seq vs.toArray }/\IntsAre vs ns/\ns.length<=n:=by
 have xq:WShape.hasAll [] args [.list .int]=true:=(pre_splitW Bj).1
 have hc:l.pre.holds [] { args:=args }=true:=(pre_splitW Bj).2
 obtain⟨d,r,rfl,h1,h2⟩:=hasAllW_cons xq
 obtain rfl:=hasAllW_nil h2
 obtain⟨xs,rfl,h3⟩:=hasW_list h1
 obtain⟨ns,rfl⟩:=items_int h3
 have hlen:ns.length<=n:=by
  unfold OpenLaw.pre at hc
  have h4:(WTm.not (.lt (.lit (.int (n:Int))) (.len (.arg 0)))).holds [] { args:=[.list (ns.map .int)] }=true:=by
   have h4:=(holds_andW hc).1
   rw[hn]at h4
   exact h4
  have h5:=condW_of h4 (w_not (w_lt w_lit (w_len_list (w_arg rfl))))
  rw[bw]at h5
  refine MF λq=>?_
  have q':(n:Int)<((ns.length:Nat):Int):=by omega
  first
   | (rw[decide_eq_true q']at h5;exact absurd h5 (by decide))
   | (simp at h5;omega)
 cases Fo with
 | cons w1 w2 =>
  cases w2
  cases w1 with
  | list ho cX5=>exact⟨_,_,ns,rfl,rfl,ho,br1 ns _ cX5,hlen⟩
theorem b47(l:OpenLaw)(args:List WData):l.row.toRowW.claim.post args (.bool true) args=true :=
 postW_of (r:=l.row.toRowW) (X:=(true==true))
  (show WShape.has [] (.bool true) .bool=true by first | rfl | decide | simp[WShape.has,WShape.arms,WShape.armsAll])
  (show(WTm.eq .res (.lit (.bool true))).value [] { args:=args,res:=some (.bool true),after:=args }=some (.bool (true==true)) from w_eq_bool (w_res rfl) w_lit) rfl
theorem cX7{l:OpenLaw}{n:Nat}{q:Program}{loose:List Str}{XP:(Str->Option Value)->Heap->Prop}{YP:World->Heap->Prop}{d:DefRec}
  (hn:l.most=some n) (xt:d.params.defaults=[])
  (call:∀(w:World) (eX bG:Shared) (mg mb:Str->Option Value) (fa:Addr) (o:Obj) (pm cd doc:Value) (a:Addr) (vs:List Value) (ns:List Int),
   Ground q loose [] XP w eX mg mb bG.heap->YP w bG.heap ->
   bG.heap.get? fa=some o->o.data=.func (docDef d.name d.params d.body d.scope pm cd doc)->bG.heap.CodeRec cd d.name->mg d.name=some (.ref fa) ->
   bG.heap.get? a=some { cls:=.type "list",data:=.seq vs.toArray }->IntsAre vs ns->ns.length<=n->bG.gens=#[] ->
   codeAny (model l.prog w) callerA (.call (.ref fa) ⟨[.ref a],[]⟩) (λr s'=>r=.ok (.ret (.bool true))/\OldK bG.heap s'.heap/\s'.os=bG.os/\AllBare s'.gens) bG) :
  WalkO q loose XP YP l.row.toRowW d [] (λf vs=>PySem.call f vs):=by
 intro w eX bG mg mb G Y fa o pm cd doc dV kV ho hd dh hD xu hg args vals as Bj eg8 hrd Fo cJ
 obtain rfl:dV=.none:=Dflts.none hD xt
 obtain rfl:kV=.none:=Dflts.noKw hD
 obtain⟨a,vs,ns,rfl,rfl,Fp,hints,hlen⟩:=b19 hn Bj Fo
 refine enter_call (codeAny_mono (call w eX bG mg mb fa o pm cd doc a vs ns G Y ho (fd_plain hd) dh xu Fp hints hlen hg) λr s' hq=>?_)
 obtain⟨rfl,h2,h3,h4⟩:=hq
 exact⟨.inl ⟨.bool true,.bool true,[],rfl,λ_=>rfl,.bool true,b47 l _,λ_=>⟨MG,λ_ hm=>(nomatch hm)⟩⟩,h2,h3,h4⟩
section
variable{prog:Program}{w:World}{A:Around}{E:Value->Shared->Prop}{s:Shared}{K:Frag}
end
end Att
namespace L2
open PySem PySem.Spec PyProof.Rows
theorem N4:∀{vs:List Value} {ns:List Int},IntsAre vs ns->Vals (ns.map V.int) vs
 | _,_,.nil=>.nil
 | _,_,.cons n t h=>.cons ⟨t,rfl⟩ (N4 h)
end L2
namespace L2
open PySem PySem.Spec PyProof.Rows
end L2
/- THE eh1 eh2 (shape;LID,My.* are eh4):
   My.eI: a structure of N5 addresses eh5 eh6 eh7 names (classes,eh8);My.Txt K t: a structure (Prop) of N5 equations over K;
   My.eh9:{K} {implicit addresses ..} (e1:nsIn K mainGlobals "law"=some (some (.ref f))) (e2:K.lookup f=some ⟨oc,od,.func (fnOf "law" "law" params body scope dV kV doc pm an aE ct),sl⟩) (e3:codeIn K aE "law"=true) ..:∃t,My.Txt K t
(N5 tactic k_is has no namespace: write k_is) -/
namespace L2
open PySem PySem.Spec PyProof.Rows
noncomputable def eD(s:Stmt)(j:Nat):Stmt:=match s with
 | .ClassDef _ _ _ body _ _ _ _ _ _ _=>body.getD j (.Pass ⟨0,0,0,0⟩)
 | _=>.Pass ⟨0,0,0,0⟩
noncomputable def iV(s:Stmt):Arguments:=match s with
 | .FunctionDef _ a _ _ _ _ _ _ _ _=>a
 | _=>{ posonlyargs:=[],args:=[],vararg:=none,kwonlyargs:=[],kw_defaults:=[],kwarg:=none,defaults:=[] }
noncomputable def gr(s:Stmt):List Stmt:=match s with
 | .FunctionDef _ _ b _ _ _ _ _ _ _=>b
 | _=>[]
noncomputable def aM(s:Stmt):Scope:=match s with
 | .FunctionDef _ _ _ _ _ _ sc _ _ _=>sc
 | _=>{ kind:=.function,names:=[],isGenerator:=false,isCoroutine:=false }
noncomputable abbrev aP:fA:=λ_ _ _ _ _ _=>False
noncomputable abbrev E0:XK:=λ_ _ _=>False
theorem dB{X:Cx}:kN aP X E0:=λ_ _ _ _ _ _ _ h=>h.elim
structure aY(K:PySem.W.Frag)(x qual:Str)(st:Stmt)(f:Addr)(fd:FuncData):Prop where
 ex:∃(oc:Value) (od:Option Addr) (kV doc pm:Value) (an:Option Addr) (aE ct:Value) (iS:Array (Option Value)),
  fd=PySem.W.fnOf x qual (iV st) (gr st) (aM st) .none kV doc pm an aE ct/\K.lookup f=some ⟨oc,od,.func fd,iS⟩/\PySem.W.codeIn K aE qual=true
 kp:PySem.W.keepIn K (.ref f)=true
section
variable{P:Program}{w:World}{K:PySem.W.Frag}{mg:Str->Option Value}{base:Heap}
theorem aY.ok{x qual:Str}{st:Stmt}{f:Addr}{fd:FuncData}{N ps:List Str}{k:Nat}{sp:Sp}(F:aY K x qual st f fd)(S:aW N ps (aM st))(len:∀vs H Q E,sp vs H Q E->vs.length=ps.length)
  (iT:∀(aE:Value) (A:Around) (outer:List Env) (s:Shared) (H:Hp) (vs:List V) (Q:VK) (E:XK),cF k (A.deeper (envOfC qual (aM st) s.heap.objs.size f aE))->sp vs H Q E ->
   ∃t,PSs (jN aP P w K mg base N qual (aM st) f aE A outer s H E).h7 (gr st) t/\t { nx:=λ_ H'=>Q .ax H',rt:=Q } (start N vs) H):aN P w K mg base aP (k+1) f fd ps sp:=by
 obtain⟨oc,od,kV,doc,pm,an,aE,ct,iS,rfl,lk,dh⟩:=F.ex
 refine E9 lk dh S len λA outer s H vs Q E hr ju=>?_
 obtain⟨t,h,q⟩:=iT aE A outer s H vs Q E hr ju
 exact⟨t,h.h7,q⟩
theorem aY.binds{x qual:Str}{st:Stmt}{f:Addr}{fd:FuncData}{ps:List Str}(F:aY K x qual st f fd)
  (h:∀(kV doc pm:Value) (an:Option Addr) (aE ct:Value) (us:List Value),us.length=ps.length->bindArgs (PySem.W.fnOf x qual (iV st) (gr st) (aM st) .none kV doc pm an aE ct) ⟨us,[]⟩=pure (ps.zip us)):Binds K fd ps []:=by
 obtain⟨oc,od,kV,doc,pm,an,aE,ct,iS,rfl,lk,dh⟩:=F.ex
 exact .all (h kV doc pm an aE ct)
theorem Bk{x qual:Str}{st:Stmt}{f:Addr}{oc:Value}{od an:Option Addr}{iS:Array (Option Value)}{kV doc pm aE ct:Value}(l:K.lookup f=some ⟨oc,od,.func (PySem.W.fnOf x qual (iV st) (gr st) (aM st) .none kV doc pm an aE ct),iS⟩)
  (c:PySem.W.codeIn K aE qual=true) (k:PySem.W.keepIn K (.ref f)=true):aY K x qual st f (PySem.W.fnOf x qual (iV st) (gr st) (aM st) .none kV doc pm an aE ct):=⟨⟨oc,od,kV,doc,pm,an,aE,ct,iS,rfl,l,c⟩,k⟩
end
section
variable{X:Cx}
theorem pv(i:Nat){x:Str}{pos:Pos}(hN:X.N[i]?=some x:=by rfl)(hv:m9 X.env.scope x:=by first | exact ay rfl | exact bW (ay rfl) | exact bW (bW rfl))(hd:(x==("__debug__":Str))=false:=by decide)
  (dh:(x==("__classdict__":Str))=false:=by decide):PE X (.Name x pos) (Nn i):=tX hN hv hd dh
end
theorem iW{A B:Prop}(h:B):if false=true then A else B:=by
 rw[if_neg iP]
 exact h
theorem ph{A B:Prop}(h:A):if true=true then A else B:=by
 rw[if_pos rfl]
 exact h
end L2
namespace Mf
noncomputable def bl(n:Nat):Nat:=if n=0 then 0 else n.log2+1
theorem fB{n m:Nat}:bl n<=m↔n<2 ^ m:=by
 unfold bl
 by_cases h:n=0
 ·simp[h,wJ]
 ·rw[if_neg h]
  rw[<-Nat.log2_lt h]
  omega
theorem Fq{n m:Nat}:m<bl n↔2 ^ m<=n:=by
 have:=@fB n m
 omega
theorem jv(n:Nat):n<2 ^ bl n:=fB.mp (bK _)
theorem N6{n:Nat}(h:n≠0):2 ^ (bl n-1)<=n:=by
 have:0<bl n:=by unfold bl;rw[if_neg h];omega
 exact Fq.mp (by omega)
theorem iC{n:Nat}(h:n≠0):0<bl n:=by
 unfold bl;rw[if_neg h];omega
theorem nD:bl 0=0:=rfl
theorem ub{n:Nat}(h:n≠0):n.testBit (bl n-1)=true:=by
 have h1:=N6 h
 have h2:=jv n
 have hp:=iC h
 have e:bl n=(bl n-1)+1:=by omega
 rw[e,oS]at h2
 rw[X5]
 have:n/2 ^ (bl n-1)=1:=by
  apply Nat.div_eq_of_lt_le
  ·omega
  ·omega
 rw[this];rfl
theorem bT7{x n:Nat}(h:∀i,n<=i->x.testBit i=false):x<2 ^ n:=by
 apply Nat.lt_pow_two_of_testBit
 intro i hi
 exact h i hi
theorem N7{x y n:Nat}(hx:x<2 ^ (n+1))(hy:y<2 ^ (n+1))(tx:x.testBit n=true)(ty:y.testBit n=true):x ^^^ y<2 ^ n:=by
 apply bT7
 intro i hi
 rw[mV]
 by_cases e:i=n
 ·rw[e,tx,ty];rfl
 ·have gW:n+1<=i:=by omega
  have p:2 ^ (n+1)<=2 ^ i:=wK (by decide) gW
  rw[Ek (dv hx p),Ek (dv hy p)]
  rfl
theorem N8(x y z:Nat):(x ^^^ y) ^^^ (z ^^^ y)=x ^^^ z:=by
 apply Aj;intro i;simp only[mV]
 cases x.testBit i<;>cases y.testBit i<;>cases z.testBit i<;>rfl
theorem N9(x y z t:Nat):(x ^^^ y) ^^^ (z ^^^ t)=(x ^^^ z) ^^^ (y ^^^ t):=by
 apply Aj;intro i;simp only[mV]
 cases x.testBit i<;>cases y.testBit i<;>cases z.testBit i<;>cases t.testBit i<;>rfl
noncomputable def P(a b:Nat):Nat->Nat
 | 0=>0
 | k+1=>P a b k ^^^ (if b.testBit k then a <<< k else 0)
noncomputable def cl(a b:Nat):Nat:=P a b (bl b)
theorem Oa{a b k:Nat}(h:b<2 ^ k):∀j,P a b (k+j)=P a b k
 | 0=>rfl
 | j+1=>by
  show P a b (k+j) ^^^ (if b.testBit (k+j)then a <<< (k+j)else 0)=_
  rw[Oa h j]
  have p:2 ^ k<=2 ^ (k+j):=wK (by decide) (by omega)
  rw[Ek (dv h p)]
  simp
theorem ud{a b k:Nat}(h:b<2 ^ k):P a b k=cl a b:=by
 have h1:=fB.mpr h
 have e:k=bl b+(k-bl b):=by omega
 rw[e,Oa (jv b)]
 rfl
theorem by4(a a' b:Nat):∀k,P (a ^^^ a') b k=P a b k ^^^ P a' b k
 | 0=>(lX 0).symm
 | k+1=>by
  show P (a ^^^ a') b k ^^^ _=(P a b k ^^^ _) ^^^ (P a' b k ^^^ _)
  rw[by4 a a' b k]
  by_cases t:b.testBit k=true
  ·rw[if_pos t,if_pos t,if_pos t,X6]
   ac_rfl
  ·rw[if_neg t,if_neg t,if_neg t]
   simp
theorem Ob(a b b':Nat):∀k,P a (b ^^^ b') k=P a b k ^^^ P a b' k
 | 0=>(lX 0).symm
 | k+1=>by
  show P a (b ^^^ b') k ^^^ _=(P a b k ^^^ _) ^^^ (P a b' k ^^^ _)
  rw[Ob a b b' k,mV]
  cases b.testBit k<;>cases b'.testBit k<;>simp
  ·ac_rfl
  ·ac_rfl
  ·exact(N8 _ _ _).symm
theorem pj(a a' b:Nat):cl (a ^^^ a') b=cl a b ^^^ cl a' b:=by4 a a' b _
theorem ue{x y n:Nat}(hx:x<2 ^ n)(hy:y<2 ^ n):x ^^^ y<2 ^ n:=Nat.xor_lt_two_pow hx hy
theorem bG2(a b b':Nat):cl a (b ^^^ b')=cl a b ^^^ cl a b':=by
 let k:=bl b+bl b'
 have h1:b<2 ^ k:=fB.mp (by omega)
 have h2:b'<2 ^ k:=fB.mp (by omega)
 rw[<-ud (ue h1 h2),<- ud h1,<- ud h2,Ob]
theorem cx1(a:Nat):cl a 0=0:=rfl
theorem Oc(b:Nat):∀k,P 0 b k=0
 | 0=>rfl
 | k+1=>by
  show P 0 b k ^^^ _=0
  rw[Oc b k];simp
theorem pk(b:Nat):cl 0 b=0:=Oc b _
theorem bG0(b k:Nat):(b/2).testBit k=b.testBit (k+1):=by
 rw[El]
theorem Od(a b:Nat):∀k,P a b (k+1)=(if b%2=1 then a else 0) ^^^ P (2*a) (b/2) k
 | 0=>by
  show 0 ^^^ _=_ ^^^ 0
  rw[oU,lX,Ak]
  simp
 | k+1=>by
  show P a b (k+1) ^^^ _=_ ^^^ (P (2*a) (b/2) k ^^^ _)
  rw[Od a b k,bG0,qt]
  have e:a <<< (k+1)=(2*a) <<< k:=by
   rw[kG,kG,oS]
   rw[mU 2 a,tH,mU 2]
  rw[e]
theorem Oe{b k:Nat}(h:b<2 ^ (k+1)):b/2<2 ^ k:=by
 rw[oS]at h;omega
theorem Of(a b:Nat):cl a b=(if b%2=1 then a else 0) ^^^ cl (2*a) (b/2):=by
 have h:b<2 ^ (bl b+1):=Nat.lt_trans (jv b) (by rw[oS];have:=wJ (bl b);omega)
 rw[<-ud h,Od,ud (Oe h)]
theorem Og(a b:Nat):∀k,P (2*a) b k=2*P a b k
 | 0=>rfl
 | k+1=>by
  show P (2*a) b k ^^^ _=2*(P a b k ^^^ _)
  rw[Og a b k]
  have d:∀x y:Nat,2*(x ^^^ y)=2*x ^^^ 2*y:=by
   intro x y
   have h:=@X6 1 x y
   rw[kG,kG,kG,Nat.pow_one]at h
   rw[mU 2 (x ^^^ y),mU 2 x,mU 2 y]
   exact h
  rw[d]
  by_cases t:b.testBit k=true
  ·rw[if_pos t,if_pos t,kG,kG,tH]
  ·rw[if_neg t,if_neg t]
theorem Fs(a b:Nat):cl (2*a) b=2*cl a b:=Og a b _
theorem xv(a c t:Nat)(ht:t<2):cl a (2*c+t)=2*cl a c ^^^ (if t=1 then a else 0):=by
 rw[Of,Fs,MH]
 have e1:(2*c+t)/2=c:=by omega
 have e2:(2*c+t)%2=t:=by omega
 rw[e1,e2]
theorem cB7(a c:Nat):cl a (2*c)=2*cl a c:=by
 have h:=xv a c 0 (by decide)
 simpa using h
theorem Oh(c t:Nat)(ht:t<2):2*c ^^^ t=2*c+t:=by
 apply Aj
 intro i
 cases i with
 | zero =>
  rw[mV,Ak,Ak,Ak]
  have:t=0\/t=1:=by omega
  rcases this with h | h<;>subst h<;>simp<;>omega
 | succ i =>
  rw[mV,El,El,El]
  have e1:2*c/2=c:=by omega
  have e2:t/2=0:=by omega
  have e3:(2*c+t)/2=c:=by omega
  rw[e1,e2,e3];simp
theorem Ft:∀b:Nat,cl 1 b=b:=by
 intro b
 induction b using Em with
 | ind b ih =>
  by_cases h:b=0
  ·subst h;rfl
  ·have e:b=2*(b/2)+b%2:=by omega
   rw[e,xv 1 (b/2) (b%2) (by omega),ih (b/2) (by omega)]
   have:b%2=0\/b%2=1:=by omega
   rcases this with h | h
   ·rw[h];simp
   ·rw[h];rw[if_pos rfl];exact Oh _ _ (by decide)
theorem xw:∀b a:Nat,cl a b=cl b a:=by
 intro b
 induction b using Em with
 | ind b ih =>
  intro a
  by_cases h:b=0
  ·subst h;rw[pk];rfl
  ·have e:b=2*(b/2)+b%2:=by omega
   have lt:b%2<2:=by omega
   have e':cl b a=cl (2*(b/2) ^^^ b%2) a:=by rw[Oh _ _ lt,<- e]
   rw[e',pj,Fs,<- ih (b/2) (by omega) a]
   have e'':cl a b=cl a (2*(b/2)+b%2):=by rw[<-e]
   rw[e'',xv _ _ _ lt]
   have:b%2=0\/b%2=1:=by omega
   rcases this with h | h
   ·rw[h,pk];rfl
   ·rw[h,Ft];rfl
theorem Fu{a m:Nat}(h:a<2 ^ m)(b:Nat):∀k,P a b (k+1)<2 ^ (m+k)
 | 0=>by
  show 0 ^^^ _<_
  rw[oU,Nat.add_zero]
  by_cases t:b.testBit 0=true
  ·rw[if_pos t];simpa using h
  ·rw[if_neg t];exact wJ m
 | k+1=>by
  show P a b (k+1) ^^^ _<_
  have i:=Fu h b k
  have p:2 ^ (m+k)<=2 ^ (m+(k+1)):=wK (by decide) (by omega)
  apply ue (dv i p)
  by_cases t:b.testBit (k+1)=true
  ·rw[if_pos t,kG,Nat.pow_add 2 m]
   exact(X7 (wJ _)).mpr h
  ·rw[if_neg t];exact wJ _
theorem cL5{a b m n:Nat}(h:a<2 ^ m)(h':b<2 ^ (n+1)):cl a b<2 ^ (m+n):=by
 rw[<-ud h'];exact Fu h b n
theorem cN6{a b:Nat}(ha:a≠0)(hb:b≠0):2 ^ (bl a-1+(bl b-1))<=cl a b:=by
 have e:bl b=(bl b-1)+1:=by have:=iC hb;omega
 have ta:=ub ha
 have tb:=ub hb
 apply Nat.ge_two_pow_of_testBit
 unfold cl
 rw[e]
 show(P a b (bl b-1) ^^^ _).testBit _=true
 have e2:bl b-1+1-1=bl b-1:=by omega
 rw[e2,mV,if_pos tb]
 have f:(P a b (bl b-1)).testBit (bl a-1+(bl b-1))=false:=by
  cases q:bl b-1 with
  | zero=>show Nat.testBit 0 _=false;exact Nat.zero_testBit _
  | succ k =>
   apply Ek
   have l:=Fu (jv a) b k
   have p:=iC ha
   have e3:bl a-1+(k+1)=bl a+k:=by omega
   rw[e3];exact l
 rw[f,X8]
 have e4:bl a-1+(bl b-1)-(bl b-1)=bl a-1:=by omega
 rw[e4,ta]
 simp
theorem Oi{a b:Nat}(ha:a≠0)(hb:b≠0):bl (cl a b)=bl a+bl b-1:=by
 have p1:=iC ha
 have p2:=iC hb
 have h1:bl (cl a b)<=bl a+(bl b-1):=fB.mpr (cL5 (jv a) (by
  have e:bl b-1+1=bl b:=by omega
  rw[e];exact jv b))
 have h2:=Fq.mpr (cN6 ha hb)
 omega
theorem Oj(s b:Nat):cl (2 ^ s) b=b <<< s:=by
 induction s with
 | zero=>rw[Nat.pow_zero,Ft];rfl
 | succ s ih =>
  rw[oS,mU,Fs,ih,kG,kG,oS]
  rw[<-tH,mU 2,tH,mU 2,<- tH,tH]
theorem b98{a q b r s:Nat}(h:a=cl q b ^^^ r):a=cl (q ^^^ 2 ^ s) b ^^^ (r ^^^ b <<< s):=by
 rw[pj,Oj,h,N8]
theorem Ol{b r:Nat}(hb:b≠0)(h:bl b<=bl r):bl (r ^^^ b <<< (bl r-bl b))<bl r:=by
 have p:=iC hb
 have hr:r≠0:=by
  intro z;rw[z,nD]at h;omega
 have:r ^^^ b <<< (bl r-bl b)<2 ^ (bl r-1):=by
  apply N7
  ·have e:bl r-1+1=bl r:=by omega
   rw[e];exact jv r
  ·have e:bl r-1+1=bl b+(bl r-bl b):=by omega
   rw[e,kG,Nat.pow_add]
   exact(X7 (wJ _)).mpr (jv b)
  ·exact ub hr
  ·rw[X8]
   have e:bl r-1-(bl r-bl b)=bl b-1:=by omega
   rw[e,ub hb]
   simp;omega
 have:=fB.mpr this
 omega
theorem bT3{x y z:Nat}(h:x ^^^ y=z):x=z ^^^ y:=by
 rw[<-h,qt,Al,lX]
theorem Fv{x y:Nat}(h:x ^^^ y=0):x=y:=by
 have:=bT3 h
 rwa [oU]at this
theorem bU6{b q r q' r':Nat}(h:cl q b ^^^ r=cl q' b ^^^ r')(hr:bl r<bl b)(bj:bl r'<bl b):q=q'/\r=r':=by
 have hb:b≠0:=by intro z;rw[z,nD]at hr;omega
 have e:cl (q ^^^ q') b=r ^^^ r':=by
  rw[pj]
  have z:(cl q b ^^^ r) ^^^ (cl q' b ^^^ r')=0:=by rw[h,Al]
  rw[N9]at z
  exact Fv z
 have lt:bl (r ^^^ r')<bl b:=by
  have h1:r<2 ^ (bl b-1):=fB.mp (by omega)
  have h2:r'<2 ^ (bl b-1):=fB.mp (by omega)
  have:=fB.mpr (ue h1 h2)
  have:=iC hb
  omega
 have z:q ^^^ q'=0:=by
  apply Am
  intro hq
  have h1:=Oi hq hb
  have h2:=iC hq
  rw[e]at h1
  omega
 have zq:=Fv z
 subst zq
 rw[z,pk]at e
 exact⟨rfl,Fv e.symm⟩
end Mf
namespace Mf
open PySem PySem.Builtin.Int
theorem cr7(x y:Nat):(x ^^^ y)+2*(x &&& y)=x+y:=by
 induction x using Em generalizing y with
 | ind x ih =>
  by_cases h:x=0
  ·subst h;simp
  ·have h1:=ih (x/2) (by omega) (y/2)
   have e1:(x ^^^ y)/2=x/2 ^^^ y/2:=Nat.xor_div_two
   have e2:(x &&& y)/2=x/2 &&& y/2:=Nat.and_div_two
   have t:∀n:Nat,n%2=if n.testBit 0=true then 1 else 0:=by
    intro n
    rw[Ak]
    by_cases h:n%2=1
    ·simp[h]
    ·simp[h];omega
   have m1:(x ^^^ y)%2=(x%2+y%2)%2:=by
    rw[t (x ^^^ y),t x,t y,mV]
    cases x.testBit 0<;>cases y.testBit 0<;>rfl
   have m2:(x &&& y)%2=x%2*(y%2):=by
    rw[t (x &&& y),t x,t y,MI]
    cases x.testBit 0<;>cases y.testBit 0<;>rfl
   have d1:=Nat.div_add_mod (x ^^^ y) 2
   have d2:=Nat.div_add_mod (x &&& y) 2
   rw[e1]at d1
   rw[e2]at d2
   have hx:x%2=0\/x%2=1:=by omega
   have hy:y%2=0\/y%2=1:=by omega
   rcases hx with hx | hx<;>rcases hy with hy | hy<;>rw[hx,hy]at m1 m2<;>omega
theorem Om{x y:Int}(hx:0<=x)(hy:0<=y):oO x y=((x.toNat &&& y.toNat:Nat):Int):=by
 unfold oO
 rw[decide_eq_true hx,decide_eq_true hy]
theorem cg1{x y:Int}(hx:0<=x)(hy:0<=y):Builtin.bitOr x y=((x.toNat ||| y.toNat:Nat):Int):=by
 unfold Builtin.bitOr oO Builtin.bitNot
 rw[decide_eq_false (by omega),decide_eq_false (by omega)]
 show-(-((((- (-x-1)-1).toNat ||| (-(-y-1)-1).toNat:Nat):Int))-1)-1=_
 have e1:(- (-x-1)-1).toNat=x.toNat:=by omega
 have e2:(- (-y-1)-1).toNat=y.toNat:=by omega
 rw[e1,e2]
 omega
theorem cE4(x y:Nat):(x ||| y)=(x ^^^ y)+(x &&& y):=by
 have d:(x ^^^ y) &&& (x &&& y)=0:=by
  apply Aj;intro i
  simp only[mV,MI,Nat.zero_testBit]
  cases x.testBit i<;>cases y.testBit i<;>rfl
 have e:(x ||| y)=(x ^^^ y) ^^^ (x &&& y):=by
  apply Aj;intro i
  simp only[mV,MI,Nat.testBit_or]
  cases x.testBit i<;>cases y.testBit i<;>rfl
 have h:=cr7 (x ^^^ y) (x &&& y)
 rw[d]at h
 rw[e];omega
theorem b55{x y:Int}(hx:0<=x)(hy:0<=y):oQ x y=((x.toNat ^^^ y.toNat:Nat):Int):=by
 unfold oQ
 rw[cg1 hx hy,Om hx hy,cE4]
 omega
theorem mm(x y:Nat):oQ (x:Int) (y:Int)=((x ^^^ y:Nat):Int):=by
 rw[b55 (by omega) (by omega)];rfl
theorem Oo(x y:Nat):oO (x:Int) (y:Int)=((x &&& y:Nat):Int):=by
 rw[Om (by omega) (by omega)];rfl
theorem uf(x k:Nat):(x:Int)*2 ^ ((k:Int)).toNat=((x <<< k:Nat):Int):=by
 rw[kG]
 simp
theorem ct7(x k:Nat):(x:Int)/2 ^ ((k:Int)).toNat=((x >>> k:Nat):Int):=by
 rw[X9]
 simp
theorem cu9(x k:Nat):((x >>> k) &&& 1=1)↔x.testBit k=true:=by
 rw[X5,X9]
 have:(x/2 ^ k) &&& 1=(x/2 ^ k)%2:=Nat.and_two_pow_sub_one_eq_mod _ 1
 rw[this]
 simp
end Mf
namespace Mf
end Mf
namespace Mf
theorem Oq(a b:Nat):∀c,cl (cl a b) c=cl a (cl b c):=by
 intro c
 induction c using Em with
 | ind c ih =>
  by_cases h:c=0
  ·subst h;rfl
  ·have e:c=2*(c/2)+c%2:=by omega
   have lt:c%2<2:=by omega
   have i:=ih (c/2) (by omega)
   rw[e,xv _ _ _ lt,xv _ _ _ lt,i,bG2,cB7]
   have:c%2=0\/c%2=1:=by omega
   rcases this with h | h
   ·rw[h];rfl
   ·rw[h];rfl
noncomputable def ug:Nat->Nat->Nat->Nat
 | 0,a,_=>a
 | n+1,a,b=>if bl a<bl b then a else ug n (a ^^^ b <<< (bl a-bl b)) b
noncomputable def md(a b:Nat):Nat:=ug (bl a+1) a b
theorem Ot{b:Nat}(hb:b≠0):∀n a,bl a<n->(∃q,a=cl q b ^^^ ug n a b)/\bl (ug n a b)<bl b
 | 0,_,h=>absurd h (by omega)
 | n+1,a,h=>by
  unfold ug
  by_cases l:bl a<bl b
  ·rw[if_pos l]
   exact⟨⟨0,by rw[pk,oU]⟩,l⟩
  ·rw[if_neg l]
   have less:=Ol hb (show bl b<=bl a by omega)
   obtain⟨⟨q,e⟩,l2⟩:=Ot hb n (a ^^^ b <<< (bl a-bl b)) (by omega)
   refine⟨⟨q ^^^ 2 ^ (bl a-bl b),?_⟩,l2⟩
   rw[pj,Oj]
   have e2:a=(a ^^^ b <<< (bl a-bl b)) ^^^ b <<< (bl a-bl b):=by rw[qt,Al,lX]
   rw[e]at e2
   refine e2.trans ?_
   generalize ug n _ b=r
   rw[qt,MH r,<- qt]
theorem xx{b:Nat}(hb:b≠0)(a:Nat):(∃q,a=cl q b ^^^ md a b)/\bl (md a b)<bl b:=Ot hb _ a (by omega)
theorem xy{a b q r:Nat}(h:a=cl q b ^^^ r)(hr:bl r<bl b):md a b=r:=by
 have hb:b≠0:=by intro z;rw[z,nD]at hr;omega
 obtain⟨⟨q',e⟩,l⟩:=xx hb a
 exact(bU6 (e.symm.trans h) l hr).2
theorem cO6(q:Nat){b:Nat}(hb:b≠0):md (cl q b) b=0 :=
 xy (q:=q) (by rw[lX]) (by rw[nD];exact iC hb)
end Mf
namespace Mf
theorem cy0(y:Nat):bl (y/2)=bl y-1:=by
 by_cases h:y=0
 ·subst h;rfl
 ·have p:=iC h
  have h1:bl (y/2)<=bl y-1:=fB.mpr (Oe (by
   have e:bl y-1+1=bl y:=by omega
   rw[e];exact jv y))
  have h2:bl y<=bl (y/2)+1:=fB.mpr (by
   have:=jv (y/2)
   rw[oS];omega)
  omega
theorem cH8(x:Nat):bl (2*x)<=bl x+1:=fB.mpr (by
 have:=jv x
 rw[oS];omega)
theorem Fw{x y:Nat}(h:x<=y):bl x<=bl y:=fB.mpr (mW h (jv y))
end Mf
namespace Mf
noncomputable def al(a:Nat):Bool:=decide (2<=a)&&(aD (2 ^ ((bl a-1)/2+1)-2)).all λi=>md a (2+i) != 0
theorem ce0{a:Nat}(h:a<2):al a=false:=by
 unfold al;rw[decide_eq_false (by omega)];rfl
theorem cp3{a:Nat}(h:2<=a)(k:∀i,i<2 ^ ((bl a-1)/2+1)-2->md a (2+i)≠0):al a=true:=by
 unfold al
 rw[decide_eq_true h,mX,c9]
 intro i hi
 have:=k i (bY.mp hi)
 simpa using this
theorem cf5{a i:Nat}(k:i<2 ^ ((bl a-1)/2+1)-2)(z:md a (2+i)=0):al a=false:=by
 unfold al
 rw[Bool.and_eq_false_iff]
 right
 rw[List.all_eq_false]
 exact⟨i,bY.mpr k,by simp[z]⟩
theorem cg8{a:Nat}(h:2<=a){b:Nat}(hb:b<2 ^ ((bl a-1)/2+1)):b<a/\2*bl b<=bl a+1:=by
 have h2:2<=bl a:=by
  have:=Fq.mpr (show 2 ^ 1<=a by omega)
  omega
 have l:=fB.mpr hb
 refine⟨dv hb (fU (wK (by decide) ?_) (N6 (by omega))),by omega⟩
 omega
end Mf
namespace L2
open PySem PySem.Spec PyProof.Rows Mf
theorem eJ:bootBuiltins "len"=some (.builtin "len"):=by decide +kernel
theorem Ou:bootBuiltins "isinstance"=some (.builtin "isinstance"):=by decide +kernel
theorem xB:bootBuiltins "min"=some (.builtin "min"):=by decide +kernel
theorem qY:bootBuiltins "all"=some (.builtin "all"):=by decide +kernel
theorem cB1:bootBuiltins "any"=some (.builtin "any"):=by decide +kernel
theorem cG9:bootBuiltins "sum"=some (.builtin "sum"):=by decide +kernel
theorem Ov:bootBuiltins "int"=some (.type "int"):=by decide +kernel
theorem Ow:bootBuiltins "bool"=some (.type "bool"):=by decide +kernel
theorem xC:bootBuiltins "list"=some (.type "list"):=by decide +kernel
section
variable{X:Cx}{a b o:Expr}{ta tb to:TE}{pos apos cX:Pos}
theorem Ox(i:Int):Builtin.Int.intBits i=bl i.natAbs:=by
 unfold Builtin.Int.intBits bl
 by_cases h:i=0
 ·subst h;rfl
 ·have h':¬ i.natAbs=0:=by omega
  rw[if_neg h',if_neg (by simpa using h)]
noncomputable def Oy:V->List V->Hp->VK->Prop:=λx vs H Q=>∃i,x=.int i/\vs=[]/\Q (.int (bl i.natAbs:Nat)) H
theorem bY2:Bf X "int.bit_length" Oy:=by
 intro pins s σ H x xs v us Q I rx rs h
 obtain⟨i,rfl,rfl,q⟩:=h
 obtain⟨t,rfl⟩:=rx
 cases rs
 refine call_int_bit_length ?_
 rw[Ox]
 exact⟨.int _,H,I.tok _,⟨_,rfl⟩,q⟩
theorem Fx(ho:PE X o to)(nB:attributeBase o "bit_length" X.env (eval o X.env)=eval o X.env:=by rfl)(nC:(apos.endLine==cX.line)=true:=by rfl) :
  PE X (.Call (.Attribute o "bit_length" apos) [] [] cX) (NY X.K "int" Oy to) :=
 cE3 PySem.F.plainAttrs_int PySem.F.slot_int_bit_length PySem.F.type_int_bit_length bY2 ho nB nC
noncomputable def Oz(i j:Int):Prop:=0<=j/\((bl i.natAbs:Nat):Int)+j<=134217728
theorem OA:cP X (binaryOp .LShift) (rI Oz λi j=>.int (i*2 ^ j.toNat)):=xm λi j _ _ _ _ _ hc q =>
 lshift_int hc.1 (by rw[Ox];exact Int.le_trans hc.2 (by decide)) q
theorem cO5{x:Str}{n:String}(hg:Gl X x)(hm:X.mg x=none)(hv:bootBuiltins x=some (.type n))(hn:x≠"__name__":=by decide)(hd:(x==("__debug__":Str))=false:=by decide):PE X (.Name x pos) (tC (.ty n)) :=
 YO hg hm hv rfl hn hd
noncomputable def cR2(K:PySem.W.Frag):List V->Hp->VK->Prop:=λxs H Q=>∃x n t b,xs=[x,.ty n]/\iA K H x t/\PySem.W.kitOne K t (.type n)=some b/\Q (.bl b) H
theorem bt5:gU X (.builtin "isinstance") (cR2 X.K):=by
 intro pins s σ H xs us Q I r h
 obtain⟨x,n,t,b,rfl,ty,e,q⟩:=h
 obtain⟨u,v,rfl,ru,rv⟩:=r.two
 cases(show v=Value.type n from rv)
 exact NH I ru ty e λtk=>⟨.bl b,H,I.tok _,rfl,q⟩
end
theorem cw6(b i:Nat):decide (V.int (oO ((b:Int)/2 ^ ((0:Int)+(i:Int)).toNat) 1)=V.int 1)=b.testBit i:=by
 have e:((0:Int)+(i:Int)).toNat=((i:Int)).toNat:=by omega
 rw[e,ct7,show(1:Int)=((1:Nat):Int) from rfl,Oo,qu,decide_eq_true_iff,<- cu9]
 constructor
 ·intro h;injection h with h;omega
 ·intro h;rw[h]
theorem ce6{a b i:Nat}(h:b.testBit i=true):oQ ((P a b i:Nat):Int) ((a:Int)*2 ^ ((0:Int)+(i:Int)).toNat)=((P a b (i+1):Nat):Int):=by
 have e:((0:Int)+(i:Int)).toNat=((i:Int)).toNat:=by omega
 rw[e,uf,mm]
 show _=((P a b i ^^^ (if b.testBit i then a <<< i else 0):Nat):Int)
 rw[if_pos h]
theorem bU0{a b i:Nat}(h:¬ b.testBit i=true):P a b (i+1)=P a b i:=by
 show P a b i ^^^ (if b.testBit i then a <<< i else 0)=_
 rw[if_neg h,lX]
theorem dI{i j:Int}:decide (V.int i=V.int j)=true↔i=j:=by
 rw[decide_eq_true_iff]
 exact⟨λh=>by injection h,λh=>by rw[h]⟩
end L2
namespace L2
open PySem PySem.Spec PyProof.Rows
section
variable{X:Cx}
end
end L2
namespace L2
open PySem PySem.Spec PyProof.Rows
noncomputable def Bl(X:Cx)(scope:Scope)(N:List Str)(cl:List (Str × Addr))(C:Addr)(s:Shared)(H:Hp)(fp:List Addr):Cx where
 prog:=X.prog
 w:=X.w
 K:=X.K
 mg:=X.mg
 base:=X.base
 A:=X.A
 N:=N
 eX:=s
 mf:=H
 env:=compEnvC scope cl C X.env
 outer:=X.stack
 stack:=X.stack
 ex:=fp
 fn:=λ_=>false
 calm:=X.calm
 pn:=[]
 xe:=λ_ _=>False
noncomputable def mn(X:Cx)(scope:Scope)(cl:List (Str × Addr)):List (Str × Nat)->Prop
 | []=>True
 | (y,i)::r=>(X.N[i]?=some y/\(X.env.scope.names.lookup y=some .cell\/X.env.scope.names.lookup y=some .free)/\((relabel scope X.env).names.lookup y=some .cell\/(relabel scope X.env).names.lookup y=some .free)/\∃c,cl.lookup y=some c/\X.env.cells.lookup y=some c)/\mn X scope cl r
theorem mn.at{X:Cx}{scope:Scope}{cl:List (Str × Addr)}:∀{aH:List (Str × Nat)},mn X scope cl aH->∀p∈aH,X.N[p.2]?=some p.1/\(X.env.scope.names.lookup p.1=some .cell\/X.env.scope.names.lookup p.1=some .free)/\((relabel scope X.env).names.lookup p.1=some .cell\/(relabel scope X.env).names.lookup p.1=some .free)/\∃c,cl.lookup p.1=some c/\X.env.cells.lookup p.1=some c
 | [],_,p,hp=>absurd hp (by simp)
 | (y,i)::r,h,p,hp=>by
  rcases cA.mp hp with e | e
  ·subst e;exact h.1
  ·exact mn.at h.2 p e
noncomputable def mq(Y:Cx)(ifs:List Expr)(t:TT):Prop :=
 ∀(pins:List (Addr × Obj)) (s:Shared) (σ:St) (H:Hp) (Q:Bool->Hp->Prop),Inv Y pins σ H s->t σ H Q ->
  wpAny (model Y.prog Y.w) Y.A (forIn ifs true λc r=>if r=true then do let ok<-isTrue c Y.env (eval c Y.env);pure (Eo ok)else pure (Eo r)) (TP Y pins σ Q) Y.xe s
noncomputable def cR1:TT:=λ_ H Q=>Q true H
theorem cs1{Y:Cx}:mq Y [] cR1:=λ_ _ _ H _ I h=>wpAny_tests_nil ⟨H,I,h⟩
theorem cv0{Y:Cx}{c:Expr}{t:TT}(h:PT Y c t):mq Y [c] t:=λpins s σ H Q I q=>wpAny_tests_one (h pins s σ H Q I q)
section
variable{X:Cx}{elt iter:Expr}{x:Str}{px pos:Pos}{ifs:List Expr}{scope:Scope}{cl:List (Str × Addr)}{aH:List (Str × Nat)}{wi:TI}{tt:TT}{te:TE}
end
section
variable{prog:Program}{w:World}{A:Around}{R:Result->Shared->Prop}{s:Shared}
theorem bG1{elt target iter:Expr}{ifs:List Expr}{scope:Scope}{pos:Pos}{it acc:Value}{env:Env}(Iv:Nat->Shared->Prop)
  (turn:∀n s,Iv n s->wpAny (model prog w) A (pyNext it) (λr s1=>match r with
   | none=>R (.ok .next) s1
   | some v=>wpAny (model prog w) A (letOwnedTupleGo target it v) (λ_ t1=>wpAny (model prog w) A (assign target env v) (λ_ s2 =>
     wpAny (model prog w) A (forIn ifs true λc r=>if r=true then do let ok<-isTrue c env (eval c env);pure (Eo ok)else pure (Eo r)) (λok s3 =>
      if ok=true then wpAny (model prog w) A (eval elt env) (λy s4=>wpAny (model prog w) A (call (.builtin "list.append") [acc,y]) (λ_ s5=>∃m,m<n/\Iv m s5) (λ_ _=>False) s4) (λ_ _=>False) s3
      else ∃m,m<n/\Iv m s3) (λ_ _=>False) s2) (λ_ _=>False) t1) (λ_ _=>False) s1) (λ_ _=>False) s)
  (n:Nat) (h:Iv n s):codeAny (model prog w) A (.compLoop (.ListComp elt [⟨target,iter,ifs,0⟩] scope pos) 0 it acc env) R s:=by
 refine codeAny_loop rfl Iv (λn s hI=>?_) n h
 change wpAny _ A (Sem.onRaise (compTurn (.ListComp elt [⟨target,iter,ifs,0⟩] scope pos) 0 it acc env) λx=>do noteFrame x env;theTreesLotGoes x) _ _ s
 refine wpAny_noted (wpAny_mono (E:=λ_ _=>False) ?_ (λ_ _ q=>q) λ_ _ z=>z.elim)
 rw[compTurn_list]
 refine wpAny_bind (wpAny_standAt (wpAny_bind (aV (turn n s hI) λr s1 h1=>?_)))
 cases r with
 | none=>exact wpAny_pure h1
 | some v =>
  refine wpAny_bind (aV h1 λ_ t1 k1=>wpAny_bind (aV k1 λ_ s2 h2=>wpAny_bind (aV h2 λok s3 h3=>?_)))
  cases ok with
  | false=>exact wpAny_pure ⟨rfl,h3⟩
  | true=>exact wpAny_bind (wpAny_bind (aV h3 λy s4 h4=>wpAny_bind (aV h4 λ_ s5 h5=>wpAny_pure (wpAny_pure ⟨rfl,h5⟩))))
end
section
variable{X:Cx}{elt iter:Expr}{x:Str}{px pos:Pos}{ifs:List Expr}{scope:Scope}{cl:List (Str × Addr)}{aH:List (Str × Nat)}{wi:TI}{tt:TT}{te:TE}
end
end L2
namespace L2
open PySem PySem.Spec PyProof.Rows
section
variable{X:Cx}
theorem OB{bs:List Bool}{us:List Value}(r:Vals (bs.map V.bl) us):bs.length=us.length/\∀(i:Nat) (v:Value),us[i]?=some v->∃b,bs[i]?=some b/\v=.bool b:=by
 have l:=r.length
 rw[bw]at l
 refine⟨l,λi v e=>?_⟩
 have hi:i<us.length:=(jI.mp e).1
 have hb:i<bs.length:=by omega
 obtain⟨u,e2,q⟩:=r.get (i:=i) (x:=V.bl bs[i]) (by rw[cI,aO hb];rfl)
 rw[e]at e2
 cases e2
 exact⟨bs[i],aO hb,q⟩
theorem Fy{s:Shared}{h':Heap}{o:Obj}(hk:∀b x,b ∉ [s.heap.objs.size]->(s.heap.push o).get? b=some x->h'.get? b=some x)(b:Addr)(x:Obj)(e:s.heap.get? b=some x):h'.get? b=some x :=
 hk b x (λhm=>g9 _ (by have:=cy e;rw[fW.mp hm]at this;exact this)) (gQ _ e)
theorem cd6(bs:List Bool):((aD bs.length).all λi=>(bs[i]?).getD true)=bs.all id:=by
 rw[qu,c9,c9]
 constructor
 ·intro h b hb
  obtain⟨i,hi,rfl⟩:=iQ hb
  have:=h i (bY.mpr hi)
  rwa [aO hi]at this
 ·intro h i hi
  have gW:=bY.mp hi
  rw[aO gW]
  exact h _ (dz gW)
theorem cg4(bs:List Bool):((aD bs.length).any λi=>(bs[i]?).getD false)=bs.any id:=by
 rw[qu,MJ,MJ]
 constructor
 ·rintro⟨i,hi,h⟩
  have gW:=bY.mp hi
  rw[aO gW]at h
  exact⟨_,dz gW,h⟩
 ·rintro⟨b,hb,h⟩
  obtain⟨i,hi,rfl⟩:=iQ hb
  exact⟨i,bY.mpr hi,by rw[aO hi];exact h⟩
theorem cf7(hc:X.calm=true):gU X (.builtin "all") (λxs H Q=>∃(p:Addr) (bs:List Bool),xs=[.ref p]/\bS X.K H p (bs.map V.bl)/\Q (.bl (bs.all id)) H):=by
 intro pins s σ H xs us Q I r h
 obtain⟨p,bs,rfl,hS,q⟩:=h
 obtain⟨u,rfl,ru⟩:=r.one
 cases ru
 obtain⟨its,rv,pl,hz⟩:=I.list hS
 obtain⟨hlen,Fz⟩:=OB rv
 have hl:=pl.isList
 have fL:p<s.heap.objs.size:=by obtain⟨_,e,_⟩:=hl;exact cy e
 refine call_all_walk (wpAny_pyIter_list hl ?_)
 refine⟨s.heap.objs.size,[s.heap.objs.size,p],[s.heap.objs.size],its.toArray.size,_,_,λi=>(bs[i]?).getD true,rfl,Walks.list (A:=X.A.in1) (I.ok.hd hc) _ p (fS fL) its.toArray,
  ⟨⟨_,iy _ rfl,rfl,rfl⟩,hl.push _⟩,λi v s' Q' E' hP hQ=>?_,λh' tk hk=>?_⟩
 ·obtain⟨b,e,rfl⟩:=Fz i v (by simpa using hP)
  simp only[e,tI]at hQ
  exact wpAny_truthy_bool hQ
 ·have e:((aD its.toArray.size).all λi=>(bs[i]?).getD true)=bs.all id:=by
   rw[eB,<- hlen];exact cd6 bs
  rw[e]
  exact⟨.bl _,H,I.kept (h':=h') (t':=tk) (Fy hk),rfl,q⟩
theorem cb5(hc:X.calm=true):gU X (.builtin "any") (λxs H Q=>∃(p:Addr) (bs:List Bool),xs=[.ref p]/\bS X.K H p (bs.map V.bl)/\Q (.bl (bs.any id)) H):=by
 intro pins s σ H xs us Q I r h
 obtain⟨p,bs,rfl,hS,q⟩:=h
 obtain⟨u,rfl,ru⟩:=r.one
 cases ru
 obtain⟨its,rv,pl,hz⟩:=I.list hS
 obtain⟨hlen,Fz⟩:=OB rv
 have hl:=pl.isList
 have fL:p<s.heap.objs.size:=by obtain⟨_,e,_⟩:=hl;exact cy e
 refine call_any_walk (wpAny_pyIter_list hl ?_)
 refine⟨s.heap.objs.size,[s.heap.objs.size,p],[s.heap.objs.size],its.toArray.size,_,_,λi=>(bs[i]?).getD false,rfl,Walks.list (A:=X.A.in1) (I.ok.hd hc) _ p (fS fL) its.toArray,
  ⟨⟨_,iy _ rfl,rfl,rfl⟩,hl.push _⟩,λi v s' Q' E' hP hQ=>?_,λh' tk hk=>?_⟩
 ·obtain⟨b,e,rfl⟩:=Fz i v (by simpa using hP)
  simp only[e,tI]at hQ
  exact wpAny_truthy_bool hQ
 ·have e:((aD its.toArray.size).any λi=>(bs[i]?).getD false)=bs.any id:=by
   rw[eB,<- hlen];exact cg4 bs
  rw[e]
  exact⟨.bl _,H,I.kept (h':=h') (t':=tk) (Fy hk),rfl,q⟩
end
noncomputable def mr(X:Cx):List (Str × Addr)->Prop
 | []=>True
 | (y,c)::r=>X.env.cells.lookup y=some c/\mr X r
theorem mr.all{X:Cx}:∀{cl:List (Str × Addr)},mr X cl->∀y c,cl.lookup y=some c->X.env.cells.lookup y=some c
 | [],_,y,c,h=>by simp at h
 | (z,d)::r,h,y,c,e=>by
  rw[gq]at e
  cases q:y==z with
  | true =>
   rw[q]at e
   cases e
   rw[eq_of_beq q]
   exact h.1
  | false =>
   rw[q]at e
   exact mr.all h.2 y c e
noncomputable def mw(cl:List (Str × Addr)):List (Str × NameKind)->Prop
 | []=>True
 | (y,k)::r=>(k=.local\/k=.globalImplicit\/∃c,cl.lookup y=some c)/\mw cl r
theorem mw.all{cl:List (Str × Addr)}:∀{ns:List (Str × NameKind)},mw cl ns->∀y,(ns.lookup y=some .cell\/ns.lookup y=some .free)->∃c,cl.lookup y=some c
 | [],_,y,h=>by simp at h
 | (z,k)::r,h,y,e=>by
  rw[gq]at e
  cases q:y==z with
  | true =>
   rw[q]at e
   rw[eq_of_beq q]
   rcases h.1 with g | g | g
   ·rw[g]at e;rcases e with e | e<;>cases e
   ·rw[g]at e;rcases e with e | e<;>cases e
   ·exact g
  | false =>
   rw[q]at e
   exact mw.all h.2 y e
section
variable{X:Cx}{elt iter:Expr}{x:Str}{px pos:Pos}{ifs:List Expr}{scope:Scope}{cl:List (Str × Addr)}{wi:TI}{tt:TT}{te:TE}
end
end L2
namespace L2
open PySem PySem.Spec PyProof.Rows Mf
end L2
namespace L2
end L2
namespace L2
open PySem PySem.Spec PyProof.Rows
noncomputable def iD(aH:List (Str × Nat))(n:Nat)(σ:L2.St):St:=(aH.map λp=>(σ[p.2]?).getD none)++aQ n none
noncomputable def OC(J:It)(aH:List (Str × Nat))(n:Nat)(g:TG)(tt:TT)(te:TE)(σ:L2.St)(H1:Hp)(Q:VK):Prop:=∀D,H1 D=none->∃W:Nat->Nat->List V->Hp->Prop,(∃m,W 0 m [] (upd H1 D (.lst []))) /\
 ∀i m acc H2,W i m acc H2->H2 D=some (.lst acc)/\((J.stop i H2/\Q (.ref D) H2)\/(J.go i H2/\∀x H3,J.kg i H2 x H3->H3 D=some (.lst acc)/\g x (iD aH n σ) H3 λh8 H4 =>
  (h8.length=(iD aH n σ).length/\∀j,j<aH.length->h8[j]?=(iD aH n σ)[j]?)/\tt h8 H4 λb H5=>H5 D=some (.lst acc) /\
  if b=true then te h8 H5 λy H6=>H6 D=some (.lst acc)/\acc.length<sizeLine/\∃m',m'<m/\W (i+1) m' (acc++[y]) (upd H6 D (.lst (acc++[y])))else ∃m',m'<m/\W (i+1) m' acc H5))
noncomputable def Bn(wi:TI)(aH:List (Str × Nat))(n:Nat)(g:TG)(tt:TT)(te:TE):TE:=λσ H Q=>wi σ H λJ H1=>OC J aH n g tt te σ H1 Q
section
variable{X:Cx}{elt iter tg:Expr}{pos:Pos}{ifs:List Expr}{scope:Scope}{cl:List (Str × Addr)}{wi:TI}{tt:TT}{te:TE}{g:TG}
end
end L2
namespace L2
open PySem PySem.Spec PyProof.Rows
section
variable{X:Cx}{tg:Expr}
end
end L2
namespace L2
open PySem PySem.Spec PyProof.Rows
noncomputable def Trf(h:Heap)(a T:Addr)(cls fl:Value):Prop :=
 ∃oe vs oT ts,h.get? a=some oe/\oe.cls=cls/\oe.dict=none/\oe.data=.fields vs/\vs[1]?=some (.ref T)/\T≠a/\h.get? T=some oT/\oT.data=.fields ts/\ts[3]?=some fl
noncomputable abbrev Trc(h:Heap)(a T:Addr)(cls:Value):Prop:=Trf h a T cls .none
section
variable{M:Model}{A:Around}{E:Value->Shared->Prop}{s:Shared}{base:Heap}{env:Env}{outer:List Env}{L a T:Addr}{cls:Value}{oe:Obj}{vs:Array Value}{Q:Unit->Shared->Prop}
end
end L2
namespace L2
open PySem PySem.Spec PyProof.Rows
structure Apart(X:Cx)(pins:List (Addr × Obj))(H:Hp)(b:Addr):Prop where
 old:X.eX.heap.get? b=none
 free:H b=none
 loc:b≠X.env.locals
 cell:∀x c,X.env.cells.lookup x=some c->c≠b
 pin:∀p∈X.pn++pins,p.1≠b
 fr:b ∉ jm X.stack
section
variable{X:Cx}{pins:List (Addr × Obj)}{σ:St}{H H':Hp}{s:Shared}{a T b:Addr}{cls:Value}{M:Model}{Q:Unit->Shared->Prop}{E:Value->Shared->Prop}{h':Heap}
end
section
variable{X:Cx}{pins:List (Addr × Obj)}{σ:St}{H H':Hp}{s:Shared}{a T b:Addr}{cls:Value}{M:Model}{Q:Unit->Shared->Prop}{E:Value->Shared->Prop}{h':Heap}
end
end L2
namespace L2
open PySem PySem.W PySem.Spec PySem.Calls PyProof.Rows
section
variable{prog:Program}{w:World}{A:Around}{E:Value->Shared->Prop}{s:Shared}{K:Frag}{x D:Addr}{ox:Obj}{pq:Option Obj}
theorem bW8{tk:Tok}{Q:Fin->Shared->Prop}(X:K.In s.heap)(I:PySem.W.InstAt s.heap x ox D pq)(hf:findObj K D pq "__class__"=some (.bind (.builtin "getset_descriptor.__get__") (.builtin "object.__class__")))(hm:mroIn K D (.type "object")=some true)
  (hq:Q (.done (.ret (.ref D))) s):wpAny (model prog w) A (Builtin.«object.__getattribute__» ⟨[.ref x,.str "__class__" tk],[]⟩) Q E s:=by
 have cg:=λ(R:Result->Shared->Prop) (hR:R (.ok (.ret (.ref D))) s) (A:Around)=>PySem.W.class_get (prog:=prog) (w:=w) (A:=A) (R:=R) (tp:=.ref D) X I hm hR
 obtain⟨hh,g,d,t,os⟩:=s
 have L0:=I.type (M:=model prog w)
 have L1:=looks_find (M:=model prog w) X I hf
 unfold Builtin.«object.__getattribute__»
 repeat (any_goals (first | assumption | refine wpAny_bind (L0.at ?_) | refine wpAny_bind (L1.at ?_) | wp_step))
 exact cg _ (wpAny_pure hq) _
theorem bZ6{M:Model}{OD:Value}{Q:Unit->Shared->Prop}(X:K.In s.heap)(I:PySem.W.InstAt s.heap x ox D pq)(hb:mroIn K D (.type "BaseException")=some true)(hq:Q () s) :
  wpAny M A (checkBuiltinCall "BaseException.__getattribute__" ⟨[.ref x,OD],[]⟩) Q E s:=by
 obtain⟨hh,g,d,t,os⟩:=s
 have L0:=I.type (M:=M)
 have L1:=looks_mroIn (M:=M) X hb
 have hk:builtinKind "BaseException.__getattribute__"=some .slot:=by decide +kernel
 have c24:splitId "BaseException.__getattribute__"=some ("BaseException","__getattribute__"):=by decide +kernel
 have ha:=F.args_bexc_ga (.ref x) OD
 simp only[checkBuiltinCall,hk,c24]
 refine wpAny_bind ?_
 ·unfold isInstance
  repeat (first | refine wpAny_bind (L0.at ?_) | refine wpAny_bind (L1.at ?_) | refine L1.at ?_ | wp_step)
  exact hq
theorem cf0{tk:Tok}{R:Result->Shared->Prop}(X:K.In s.heap)(I:PySem.W.InstAt s.heap x ox D pq)(hf:findObj K D pq "__class__"=some (.bind (.builtin "getset_descriptor.__get__") (.builtin "object.__class__")))(hm:mroIn K D (.type "object")=some true)(hb:mroIn K D (.type "BaseException")=some true)
  (hq:R (.ok (.ret (.ref D))) s):codeAny (model prog w) A (.call (.builtin "BaseException.__getattribute__") ⟨[.ref x,.str "__class__" tk],[]⟩) R s :=
 codeAny_call_builtin (by decide +kernel) F.entry_bexc_ga (bZ6 X I hb (bW8 X I hf hm hq))
end
end L2
namespace L2
open PySem PySem.W PySem.Spec PySem.Calls PyProof.Rows
section
variable{prog:Program}{w:World}{A:Around}{E:Value->Shared->Prop}{s:Shared}{K:Frag}{x D:Addr}{ox:Obj}{pq:Option Obj}
theorem bY7{Q:Option Value->Shared->Prop}(X:K.In s.heap)(I:PySem.W.InstAt s.heap x ox D pq)(hga:findIn K (.ref D) "__getattribute__"=some (some (.builtin "BaseException.__getattribute__")))(hgt:findIn K (.ref D) "__getattr__"=some none)
  (hf:findObj K D pq "__class__"=some (.bind (.builtin "getset_descriptor.__get__") (.builtin "object.__class__"))) (hm:mroIn K D (.type "object")=some true) (hb:mroIn K D (.type "BaseException")=some true)
  (h:Q (some (.ref D)) { s with toks:=s.toks+1 }):wpAny (model prog w) A (getAttr? (.ref x) "__class__") Q E s:=by
 have xc:=λ(R:Result->Shared->Prop) (tk:Tok) (hR:R (.ok (.ret (.ref D))) { s with toks:=s.toks+1 }) (A:Around)=>cf0 (prog:=prog) (w:=w) (A:=A) (R:=R) (tk:=tk) (s:={ s with toks:=s.toks+1 }) X I hf hm hb hR
 obtain⟨hh,g,d,t,os⟩:=s
 have L0:=I.type (M:=model prog w)
 have L1:=looks_findIn (M:=model prog w) X hga
 have L2:=looks_findIn (M:=model prog w) X hgt
 have f3:=(F.excAttr_ValueError).ga.bind (.ref x)
 have eE:(Ep "BaseException.__getattribute__"==Ep "object.__getattribute__")=false:=by decide +kernel
 have cM:(onTheHeap (eA D)&&Ep "BaseException.__getattribute__"==Ep "object.__getattribute__")=false:=by rw[eE];rfl
 unfold getAttr? getAttrBy? getAttrBy
 refine wpAny_bind (wpAny_mkText (wpAny_bind (wpAny_attempt (wpAny_holding (wpAny_bind (L0.at (wpAny_bind (L1.at ?_))))))))
 dsimp only
 rw[cM]
 simp only[qv,if_false]
 unfold getAttrByItsOwn
 repeat (any_goals (first | assumption | refine wpAny_bind (L0.at ?_) | refine wpAny_bind (L2.at ?_) | wp_step))
 refine xc _ t ?_ _
 show wpAny _ _ (handedOut (.ref D)) _ _ _
 exact handed_on rfl (wpAny_pure h)
structure OE(K:Frag)(C:Addr):Prop where
 cls:(clsIn K C).isSome=true
 ga:findIn K (.ref C) "__getattribute__"=some (some (.builtin "BaseException.__getattribute__"))
 gt:findIn K (.ref C) "__getattr__"=some none
 ca:findIn K (.ref C) "__class__"=some (some (.builtin "object.__class__"))
 hn:specialIn K (.builtin "object.__class__") "__get__"=some (some (.builtin "getset_descriptor.__get__"))
 tk:takesIn K (.builtin "object.__class__")=some true
 mo:mroIn K C (.type "object")=some true
 mb:mroIn K C (.type "BaseException")=some true
noncomputable def Bo(a C:Addr)(h:Heap):Prop:=∃o,h.get? a=some o/\o.cls=.ref C/\notCls o=true/\o.dict=none
theorem bF5{K:Frag}{C:Addr}{name:Str}{a g:Value}(hc:(clsIn K C).isSome=true)(ha:findIn K (.ref C) name=some (some a))(hg:specialIn K a "__get__"=some (some g))(ht:takesIn K a=some true):findObj K C none name=some (.bind g a):=by
 obtain⟨cd,hc⟩:=Ah.mp hc
 unfold findObj
 rw[hc,Ya,ha,Ya]
 simp[hg,ht]
theorem OF{a C:Addr}{h:Heap}(p:Bo a C h):∃ox,PySem.W.InstAt h a ox C none:=by
 obtain⟨o,h1,h2,h3,h4⟩:=p
 exact⟨o,h1,h2,h3,by rw[h4];trivial⟩
theorem ca2{a C:Addr}(c:OE K C):KitX K (.ref a) (.ref C) (Bo a C) where
 ty:=λ_ _ _ p=>let⟨_,I⟩:=OF p;I.type
 it:=λ_ _ X _=>by
  obtain⟨uh,nj⟩:=Ah.mp c.cls
  unfold clsIn at nj
  split at nj
  ·rename_i c' d' cd' EK ho
   intro A' Q' E' s' k q
   unfold isType loadHead
   exact wpAny_bind (wpAny_loadPart (k _ _ (X _ _ ho)) (wpAny_pure q))
  ·cases nj
 ne:=λh tp dd its n sl X htp=>by
  obtain⟨uh,nj⟩:=Ah.mp c.cls
  refine Bool.eq_false_iff.mpr λq=>?_
  have e:C=tp:=Value.ref.inj (beq_iff_eq.mp q)
  subst e
  unfold clsIn at nj
  split at nj
  ·rename_i c' d' cd' EK ho
   have z:=(X _ _ ho).symm.trans htp
   cases z
  ·cases nj
 ca:=λX p k=>let⟨_,I⟩:=OF p;bY7 X I c.ga c.gt (bF5 c.cls c.ca c.hn c.tk) c.mo c.mb k
end
end L2
namespace L2
open PySem PySem.Spec PyProof.Rows
section
variable{X:Cx}{pins:List (Addr × Obj)}{σ:St}{H:Hp}{s:Shared}{h':Heap}{its:List Addr}{T:Addr}{o:HO}{t':Nat}
theorem Inv.Bp(I:Inv X pins σ H s)(k:∀b o,b ∉ its->s.heap.get? b=some o->h'.get? b=some o)(hf:∀b∈its,jq X pins H b):Inv X pins σ H { s with heap:=h',toks:=t' }:=by
 have oY:∀b u,H b=some u->b ∉ its:=λb u e z=>by have:=(hf b z).1;rw[this]at e;cases e
 refine I.step (g':=s.gens) (d':=s.drawn) (ch:=its) (λb hb=>?_) (λb o _ _ hc e _=>k b o hc e) (λb o _ _ hc e _=>⟨o.slots,k b o hc e⟩) (λ_ _ _ _ n=>n)
  (λb o hc e=>⟨o,k b o hc e⟩) (λ_ _ e=>e) (λ_ _ _ e=>e) (λb ps e=>⟨#[],by rw[e];simp⟩) (λm hm=>?_) (λb u e=>?_) I.bare
 ·obtain⟨_,h1,_,h2,h3,h4⟩:=hf b hb
  exact⟨h2,h1,h3,h4⟩
 ·obtain⟨o,es,ep,ho,r⟩:=hm
  exact⟨o,es,ep,k _ o (λz=>(hf _ z).2.1 rfl) ho,r⟩
 ·refine(I.aU b u e).l7 (λc v hc q=>k c v ?_ q) (λ_ q=>q) (λ_ _ q=>q) λ_ _ q=>q
  rcases hc with z | z
  ·rw[z];exact oY b u e
  ·exact oY c _ z
theorem Inv.OG(I:Inv X pins σ H s)(k:∀b o,b ∉ its->s.heap.get? b=some o->h'.get? b=some o)(hf:∀b∈its,jq X pins H b)(hT:s.heap.objs.size<=T)(new:fk X.prog X.w (upd H T o) h' T o) :
  Inv X pins σ (upd H T o) { s with heap:=h',toks:=t' }:=by
 have oY:∀b u,H b=some u->b ∉ its:=λb u e z=>by have:=(hf b z).1;rw[this]at e;cases e
 have fT:H T=none:=I.aU.fresh hT
 have neT:∀b u,H b=some u->b≠T:=λb u e z=>by rw[z,fT]at e;cases e
 have neS:∀b u,s.heap.get? b=some u->b≠T:=λb u e z=>absurd (dv (cy e) hT) (by rw[z];exact g9 _)
 refine I.step (g':=s.gens) (d':=s.drawn) (ch:=its) (λb hb=>?_) (λb o _ _ hc e _=>k b o hc e) (λb o _ _ hc e _=>⟨o.slots,k b o hc e⟩) (λb u _ e n=>by rw[bo (neS b u e)];exact n)
  (λb o hc e=>⟨o,k b o hc e⟩) (λb _ e=>by rw[bo (neT b _ e)];exact e) (λb _ _ e=>by rw[bo (neT b _ e)];exact e) (λb ps e=>⟨#[],by rw[bo (neT b _ e),e];simp⟩) (λm hm=>?_) (λb u e=>?_) I.bare
 ·obtain⟨_,h1,_,h2,h3,h4⟩:=hf b hb
  exact⟨h2,h1,h3,h4⟩
 ·obtain⟨o,es,ep,ho,r⟩:=hm
  exact⟨o,es,ep,k _ o (λz=>(hf _ z).2.1 rfl) ho,r⟩
 ·by_cases hb:b=T
  ·subst hb;rw[bQ]at e;cases e;exact new
  ·rw[bo hb]at e
   refine(I.aU b u e).l7 (λc v hc q=>k c v ?_ q) (λc q=>by rw[bo (neT c _ q)];exact q) (λc _ q=>by rw[bo (neT c _ q)];exact q) λc _ q=>by rw[bo (neT c _ q)];exact q
   rcases hc with z | z
   ·rw[z];exact oY b u e
   ·exact oY c _ z
noncomputable def FA(K:PySem.W.Frag)(a b:Addr):It :=
 ⟨λi H=>∃xs ys x y,bS K H a xs/\bS K H b ys/\xs[i]?=some x/\ys[i]?=some y,
  λi H v H'=>∃T x y,v=.ref T/\H T=none/\H'=upd H T (.tup [x,y])/\(∀xs,bS K H a xs->xs[i]?=some x)/\∀ys,bS K H b ys->ys[i]?=some y,
  λi H=>∃xs ys,bS K H a xs/\bS K H b ys/\(xs.length<=i\/ys.length<=i)⟩
theorem pz{K:PySem.W.Frag}{a c:Addr}{xs:List V}(hk:X.K=K)(I:Inv X pins σ H s)(h:bS K H a xs)(hf:jq X pins H c)(ho:∃o,s.heap.get? c=some o/\o.cls≠.type "list"):a≠c:=by
 subst hk
 obtain⟨its,rv,p,hz⟩:=I.list h
 obtain⟨o,e,d⟩:=ho
 obtain⟨o',e',c',_⟩:=p.isList
 intro z
 subst z
 rw[e]at e';cases e'
 exact d c'
theorem ca0{P:Program}{w:World}{K:PySem.W.Frag}{elts:List Expr}{k:Nat}{pos:Pos}(a b z TI TO i1 i2:Addr)(D5:[z,TI,TO,i1,i2].Nodup) :
  Turn P w K (.Tuple elts k pos) (FA K a b) [z,TI,TO,i1,i2] z (λi h=>IsZip h z TI TO .none/\IsPair h TI (.ref i1) (.ref i2)/\(∃u v,IsPair h TO u v)/\h.IsListIter i1 a i/\h.IsListIter i2 b i):=by
 have ap:∀(X:Cx) (pins:List (Addr × Obj)) (s:Shared) (σ:St) (H:Hp) (i:Nat) (xs ys:List V),X.K=K->Inv X pins σ H s->(∀b∈[z,TI,TO,i1,i2],jq X pins H b)->IsZip s.heap z TI TO .none->(∃u v,IsPair s.heap TO u v)->s.heap.IsListIter i1 a i->s.heap.IsListIter i2 b i ->
   bS K H a xs->bS K H b ys->ZipApart z TI TO i1 i2 a b:=by
  intro X pins s σ H i xs ys hK I hf hz jw h1 h2 hx hy
  simp only[jJ,cA,not_or,gR,not_false_eq_true,and_true]at D5
  obtain⟨⟨d1,d2,d3,d4⟩,⟨d5,d6,d7⟩,⟨d8,d9⟩,d10,_⟩:=D5
  have oz:∃o,s.heap.get? z=some o/\o.cls≠.type "list":=⟨_,hz,by intro q;exact absurd (Er q) (by decide)⟩
  have OH:∃o,s.heap.get? TO=some o/\o.cls≠.type "list":=by obtain⟨u,v,e⟩:=jw;exact⟨_,e,by intro q;exact absurd (Er q) (by decide)⟩
  have o1:∃o,s.heap.get? i1=some o/\o.cls≠.type "list":=by obtain⟨o,e,c,d⟩:=h1;exact⟨_,e,by rw[c];intro q;exact absurd (Er q) (by decide)⟩
  have o2:∃o,s.heap.get? i2=some o/\o.cls≠.type "list":=by obtain⟨o,e,c,d⟩:=h2;exact⟨_,e,by rw[c];intro q;exact absurd (Er q) (by decide)⟩
  exact⟨iw d1,iw d2,iw d3,iw d4,d5,d6,d7,d8,d9,d10,
   pz hK I hx (hf z (by simp)) oz,pz hK I hx (hf TO (by simp)) OH,pz hK I hx (hf i1 (by simp)) o1,pz hK I hx (hf i2 (by simp)) o2,
   pz hK I hy (hf z (by simp)) oz,pz hK I hy (hf TO (by simp)) OH,pz hK I hy (hf i1 (by simp)) o1,pz hK I hy (hf i2 (by simp)) o2⟩
 refine⟨by simp,λi h st c hc=>?_,λi h h' st kk=>?_,?_,?_,λ_ _ _ _ _ st h=>wpAny_pyIter_zip st.1 h⟩
 ·obtain⟨hz,kO,⟨u,v,jw⟩,⟨o1,e1,c1,d1⟩,⟨o2,e2,c2,d2⟩⟩:=st
  simp only[cA,gR,or_false]at hc
  rcases hc with rfl | rfl | rfl | rfl | rfl
  ·exact⟨_,hz,λv q=>by cases q⟩
  ·exact⟨_,kO,λv q=>by cases q⟩
  ·exact⟨_,jw,λv q=>by cases q⟩
  ·exact⟨_,e1,λv q=>by rw[d1]at q;cases q⟩
  ·exact⟨_,e2,λv q=>by rw[d2]at q;cases q⟩
 ·obtain⟨hz,kO,⟨u,v,jw⟩,h1,h2⟩:=st
  exact⟨kk _ (by simp) _ hz,kk _ (by simp) _ kO,⟨u,v,kk _ (by simp) _ jw⟩,h1.at λo e=>kk _ (by simp) o e,h2.at λo e=>kk _ (by simp) o e⟩
 ·intro X hP hw hK hc i pins s σ H E I hf st hg
  obtain⟨xs,ys,x,y,hx,hy,ex,ey⟩:=hg
  obtain⟨hz,kO,⟨u,v,jw⟩,h1,h2⟩:=st
  have D:=ap X pins s σ H i xs ys hK I hf hz ⟨u,v,jw⟩ h1 h2 hx hy
  subst hP hw hK
  obtain⟨as,ra,pa,_⟩:=I.list hx
  obtain⟨bs,rb,pb,_⟩:=I.list hy
  obtain⟨ux,FC,rx⟩:=ra.get ex
  obtain⟨uy,euy,ry⟩:=rb.get ey
  refine wpAny_pyNext_zip_item D hz kO jw h1 h2 pa.isList pb.isList (x:=ux) (y:=uy) (by simpa using FC) (by simpa using euy) λh' z' TO' jO iX T' sz kk=>?_
  have fT:H s.heap.objs.size=none:=I.aU.fresh (bK _)
  have I1:Inv X pins σ (upd H s.heap.objs.size (.tup [x,y])) { s with heap:=h',toks:=s.toks }:=I.OG (its:=[z,TO,i1,i2]) (λc o hc e=>kk c o (λq=>hc (by simp[q])) (λq=>hc (by simp[q])) (λq=>hc (by simp[q])) (λq=>hc (by simp[q])) e)
   (λc hc=>hf c (by simp only[cA,gR,or_false]at hc ⊢;rcases hc with rfl | rfl | rfl | rfl<;>simp)) (bK _) ⟨by show 2<=sizeLine;decide,[ux,uy],.cons rx (.cons ry .nil),⟨_,T',rfl,_,rfl⟩⟩
  have nT:∀c∈[z,TI,TO,i1,i2],c≠s.heap.objs.size:=λc hc q=>by
   have:∃o,s.heap.get? c=some o:=by
    simp only[cA,gR,or_false]at hc
    rcases hc with rfl | rfl | rfl | rfl | rfl
    ·exact⟨_,hz⟩
    ·exact⟨_,kO⟩
    ·exact⟨_,jw⟩
    ·obtain⟨o,e,_⟩:=h1;exact⟨o,e⟩
    ·obtain⟨o,e,_⟩:=h2;exact⟨o,e⟩
   obtain⟨o,e⟩:=this
   exact absurd (cy e) (by rw[q];exact g9 _)
  refine⟨_,rfl,wpAny_letOwnedTupleGo_zip z' λFD FE sb=>?_⟩
  have FF:∀c∈[z],jq X pins (upd H s.heap.objs.size (.tup [x,y])) c:=λc hc=>by
   have e:c=z:=by simpa using hc
   subst e
   obtain⟨f0,fr⟩:=hf c (by simp)
   exact⟨by rw[bo (nT c (by simp))];exact f0,fr⟩
  have I2:=Inv.Bp (h':=FD) (its:=[z]) (t':=s.toks) I1 (λc o hc e=>sb.extBut _ _ (λq=>hc (by simp[q])) e) FF
  refine⟨.ref s.heap.objs.size,_,I2,rfl,⟨_,x,y,rfl,fT,rfl,λBq dj=>by rw[I.AX dj hx];exact ex,λOI hy'=>by rw[I.AX hy' hy];exact ey⟩,⟨FE,sb.extBut _ _ D.TIz (kk _ _ D.TIz D.TITO D.TIi1 D.TIi2 kO),⟨ux,uy,sb.extBut _ _ D.TOz TO'⟩,jO.extBut sb.extBut D.i1z,iX.extBut sb.extBut D.i2z⟩,λc hc=>?_⟩
  rw[bo (nT c hc)]
  exact(hf c hc).1
 ·intro X hP hw hK hc i pins s σ H E I hf st hg
  obtain⟨xs,ys,hx,hy,hl⟩:=hg
  obtain⟨hz,kO,⟨u,v,jw⟩,h1,h2⟩:=st
  have D:=ap X pins s σ H i xs ys hK I hf hz ⟨u,v,jw⟩ h1 h2 hx hy
  subst hP hw hK
  obtain⟨as,ra,pa,_⟩:=I.list hx
  obtain⟨bs,rb,pb,_⟩:=I.list hy
  have la:=ra.length
  have lb:=rb.length
  refine wpAny_pyNext_zip_end (I.ok.hd hc) D hz kO jw h1 h2 pa.isList pb.isList (hl.imp (λq=>by simp;omega) λq=>by simp;omega) λh' kk=>⟨rfl,?_⟩
  exact I.Bp (its:=[z,TO,i1,i2]) (t':=s.toks) (λc o hc e=>kk c o (λq=>hc (by simp[q])) (λq=>hc (by simp[q])) (λq=>hc (by simp[q])) (λq=>hc (by simp[q])) e)
   (λc hc=>hf c (by simp only[cA,gR,or_false]at hc ⊢;rcases hc with rfl | rfl | rfl | rfl<;>simp))
noncomputable def FG(K:PySem.W.Frag)(a:Addr):It :=
 ⟨λi H=>∃xs x,bS K H a xs/\xs[i]?=some x,
  λi H v H'=>∃T x,v=.ref T/\H T=none/\H'=upd H T (.tup [.int i,x])/\∀xs,bS K H a xs->xs[i]?=some x,
  λi H=>∃xs,bS K H a xs/\xs.length<=i⟩
theorem b92{P:Program}{w:World}{K:PySem.W.Frag}{elts:List Expr}{k:Nat}{pos:Pos}(a z it:Addr)(mx:z≠it) :
  Turn P w K (.Tuple elts k pos) (FG K a) [z,it] z (λi h=>(∃old,IsEnum h z it i old)/\h.IsListIter it a i):=by
 refine⟨by simp,λi h st c hc=>?_,λi h h' st kk=>?_,?_,?_,λ_ _ _ _ _ st h=>by obtain⟨⟨old,e⟩,_⟩:=st;exact wpAny_pyIter_enum e h⟩
 ·obtain⟨⟨old,hz⟩,⟨o1,e1,c1,d1⟩⟩:=st
  simp only[cA,gR,or_false]at hc
  rcases hc with rfl | rfl
  ·exact⟨_,hz,λv q=>by cases q⟩
  ·exact⟨_,e1,λv q=>by rw[d1]at q;cases q⟩
 ·obtain⟨⟨old,hz⟩,h1⟩:=st
  exact⟨⟨old,kk _ (by simp) _ hz⟩,h1.at λo e=>kk _ (by simp) o e⟩
 ·intro X hP hw hK hc i pins s σ H E I hf st hg
  subst hP hw hK
  obtain⟨xs,x,hx,ex⟩:=hg
  obtain⟨⟨old,hz⟩,h1⟩:=st
  obtain⟨as,ra,pa,_⟩:=I.list hx
  obtain⟨ux,FC,rx⟩:=ra.get ex
  refine wpAny_pyNext_enum_item hz h1 pa.isList (x:=ux) (by simpa using FC) mx λh' z' jO T' sz kk=>?_
  have fT:H s.heap.objs.size=none:=I.aU.fresh (bK _)
  have I1:Inv X pins σ (upd H s.heap.objs.size (.tup [.int i,x])) { s with heap:=h',toks:=s.toks+1 }:=I.OG (its:=[z,it]) (λc o hc e=>kk c o (λq=>hc (by simp[q])) (λq=>hc (by simp[q])) e)
   (λc hc=>hf c hc) (bK _) ⟨by show 2<=sizeLine;decide,[.int i s.toks,ux],.cons ⟨_,rfl⟩ (.cons rx .nil),⟨_,T',rfl,_,rfl⟩⟩
  have nT:∀c∈[z,it],c≠s.heap.objs.size:=λc hc q=>by
   have:∃o,s.heap.get? c=some o:=by
    simp only[cA,gR,or_false]at hc
    rcases hc with rfl | rfl
    ·exact⟨_,hz⟩
    ·obtain⟨o,e,_⟩:=h1;exact⟨o,e⟩
   obtain⟨o,e⟩:=this
   exact absurd (cy e) (by rw[q];exact g9 _)
  refine⟨_,rfl,wpAny_letOwnedTupleGo_enum z' λFD FE sb=>?_⟩
  have FF:∀c∈[z],jq X pins (upd H s.heap.objs.size (.tup [.int i,x])) c:=λc hc=>by
   have e:c=z:=by simpa using hc
   subst e
   obtain⟨f0,fr⟩:=hf c (by simp)
   exact⟨by rw[bo (nT c (by simp))];exact f0,fr⟩
  have I2:=Inv.Bp (h':=FD) (its:=[z]) (t':=s.toks+1) I1 (λc o hc e=>sb.extBut _ _ (λq=>hc (by simp[q])) e) FF
  refine⟨.ref s.heap.objs.size,_,I2,rfl,⟨_,x,rfl,fT,rfl,λBq dj=>by rw[I.AX dj hx];exact ex⟩,⟨⟨ux,by simpa using FE⟩,jO.extBut sb.extBut (iw mx)⟩,λc hc=>?_⟩
  rw[bo (nT c hc)]
  exact(hf c hc).1
 ·intro X hP hw hK hc i pins s σ H E I hf st hg
  subst hP hw hK
  obtain⟨xs,hx,hl⟩:=hg
  obtain⟨⟨old,hz⟩,h1⟩:=st
  obtain⟨as,ra,pa,_⟩:=I.list hx
  have la:=ra.length
  refine wpAny_pyNext_enum_end (I.ok.hd hc) hz h1 pa.isList (by simp;omega) λh' kk=>⟨rfl,?_⟩
  exact I.Bp (its:=[it]) (t':=s.toks) (λc o hc e=>kk c o (λq=>hc (by simp[q])) e) (λc hc=>hf c (by simp at hc ⊢;simp[hc]))
end
section
variable{X:Cx}{a b:Expr}{ta:TA}{p pos qU:Pos}{elts:List Expr}{x1:Nat}
noncomputable def cS5(K:PySem.W.Frag)(ta:TA):TI:=λσ H R=>ta σ H λvs H1=>∃a b,vs=[.ref a,.ref b]/\(∃xs,bS K H1 a xs)/\(∃ys,bS K H1 b ys)/\R (FA K a b) H1
theorem cc7:bootBuiltins "zip"=some (.type "zip"):=by decide +kernel
theorem cI9(hg:Gl X "zip")(hm:X.mg "zip"=none)(ha:PA X [a,b] ta)(hs:starEach [a,b] X.env=[(false,eval a X.env),(false,eval b X.env)]:=by rfl)(fJ:starEach [b] X.env=[(false,eval b X.env)]:=by rfl) :
  PI X (.Tuple elts x1 qU) (.Call (.Name "zip" p) [a,b] [] pos) (cS5 X.K ta):=by
 intro pins s σ H R I h
 refine Call_ (qI I hg hm cc7 (Ae (aV (ha pos pins s σ H _ I h) λus s1 zq=>?_) (by rw[hs,fJ]) (by rw[fJ];rfl)))
 obtain⟨vs,H1,I1,r1,q1⟩:=zq
 obtain⟨a,b,e,⟨xs,hx⟩,⟨ys,hy⟩,q⟩:=q1
 subst e
 cases r1 with
 | cons r rr =>
  cases rr with
  | cons r2 rr =>
   cases rr
   cases r
   cases r2
   obtain⟨as,ra,pa,_⟩:=I1.list hx
   obtain⟨bs,rb,pb,_⟩:=I1.list hy
   refine call_zip_2 pa.isList pb.isList λh' hz kO jw h1 h2 sz kk=>wpAny_pyIter_zip hz ?_
   refine⟨_,[s1.heap.objs.size+4,s1.heap.objs.size+2,s1.heap.objs.size+3,s1.heap.objs.size,s1.heap.objs.size+1],_,_,H1,rfl,I1.kept (t':=s1.toks) kk,ca0 a b _ _ _ _ _ (by simp),⟨hz,kO,⟨_,_,jw⟩,h1,h2⟩,λc hc=>?_,q⟩
   have hle:s1.heap.objs.size<=c:=by
    simp only[cA,gR,or_false]at hc
    rcases hc with rfl | rfl | rfl | rfl | rfl<;>omega
   exact I1.A8 hle (I1.aU.fresh hle)
noncomputable def cM4(K:PySem.W.Frag)(ta:TA):TI:=λσ H R=>ta σ H λvs H1=>∃a,vs=[.ref a]/\(∃xs,bS K H1 a xs)/\R (FG K a) H1
theorem bw4:bootBuiltins "enumerate"=some (.type "enumerate"):=by decide +kernel
theorem cu6(hg:Gl X "enumerate")(hm:X.mg "enumerate"=none)(ha:PA X [a] ta)(hs:starEach [a] X.env=[(false,eval a X.env)]:=by rfl) :
  PI X (.Tuple elts x1 qU) (.Call (.Name "enumerate" p) [a] [] pos) (cM4 X.K ta):=by
 intro pins s σ H R I h
 refine Call_ (qI I hg hm bw4 (Ae (aV (ha pos pins s σ H _ I h) λus s1 zq=>?_) hs rfl))
 obtain⟨vs,H1,I1,r1,q1⟩:=zq
 obtain⟨a,e,⟨xs,hx⟩,q⟩:=q1
 subst e
 cases r1 with
 | cons r rr =>
  cases rr
  cases r
  obtain⟨as,ra,pa,_⟩:=I1.list hx
  refine call_enumerate_list pa.isList λh' hz h1 sz kk=>wpAny_pyIter_enum hz ?_
  refine⟨_,[s1.heap.objs.size+1,s1.heap.objs.size],_,_,H1,rfl,I1.kept (t':=s1.toks) kk,b92 a (s1.heap.objs.size+1) s1.heap.objs.size (Nat.succ_ne_self _),⟨⟨_,hz⟩,h1⟩,λc hc=>?_,q⟩
  have hle:s1.heap.objs.size<=c:=by
   simp only[cA,gR,or_false]at hc
   rcases hc with rfl | rfl<;>omega
  exact I1.A8 hle (I1.aU.fresh hle)
end
end L2
namespace L2
open PySem PySem.Spec PyProof.Rows PySem.W PySem.Calls
section
variable{X:Cx}
noncomputable def ui{α:Type}(xs:List α)(lo hi:Option Int):List α:=(xs.drop (HT.di xs.length 0 lo)).take (HT.di xs.length xs.length hi-HT.di xs.length 0 lo)
theorem b07(x:Str)(lo hi:Option Int):Txt.slice x lo hi=⟨(ui x.cps.toList lo hi).toArray⟩:=by
 have hx:x.length=x.cps.size:=rfl
 have e:(Es lo hi 1 x.length).filterMap (x.cps[·]?)=ui x.cps.toList lo hi:=by
  obtain⟨h1,h2,h3⟩:=Fe lo hi x.length
  have e0:Es lo hi 1 x.length=sliceRange (sliceBounds lo hi none x.length).1 (sliceBounds lo hi none x.length).2.1 1:=by
   cases lo<;>cases hi<;>rfl
  rw[e0,h1,h2]
  simp only[sliceRange_one,pick_run]
  unfold ui
  rw[hx,wD]
 unfold Txt.slice
 split
 ·rename_i h
  have hl:(Es lo hi 1 x.length).length=x.length:=by
   rw[fg]at h;exact eq_of_beq h.2
  have hs:(ui x.cps.toList lo hi)=x.cps.toList:=by
   have e2:HT.di x.cps.toList.length x.cps.toList.length hi-HT.di x.cps.toList.length 0 lo=x.length:=by
    obtain⟨h1,h2,h3⟩:=Fe lo hi x.length
    have e0:Es lo hi 1 x.length=sliceRange (sliceBounds lo hi none x.length).1 (sliceBounds lo hi none x.length).2.1 1:=by
     cases lo<;>cases hi<;>rfl
    rw[e0,h1,h2]at hl
    simp only[sliceRange_one,bw,bL]at hl
    rw[wD,<- hx]
    omega
   unfold ui
   have le:HT.di x.cps.toList.length x.cps.toList.length hi<=x.cps.toList.length:=by
    cases hi with
    | none=>simp[HT.di]
    | some i=>simp only[HT.di];split<;>omega
   have le2:HT.di x.cps.toList.length 0 lo<=x.cps.toList.length:=by
    cases lo with
    | none=>simp[HT.di]
    | some i=>simp only[HT.di];split<;>omega
   rw[wD,<- hx]at e2 le le2 ⊢
   have z:HT.di x.length 0 lo=0:=by omega
   have z2:HT.di x.length x.length hi=x.length:=by omega
   rw[z,z2,List.drop_zero,Nat.sub_zero,hx,<- wD,mY]
  rw[hs]
 ·rw[e]
theorem cL1:qX X (λx lo hi H Q=>∃z,x=.str z/\z.length<=sizeLine/\Q (.str ⟨(ui z.cps.toList lo hi).toArray⟩) H):=by
 intro pins s σ H x v vl vu lo hi sl Q I rx hs pl pu h
 obtain⟨z,rfl,hz,q⟩:=h
 obtain⟨t,rfl⟩:=rx
 refine⟨"str",_,F.slot_str_getitem.lookup,typeIs_str _ _ _,?_⟩
 have fin:∀(l u:Option (Int × Tok)),l.map (·.1)=lo->u.map (·.1)=hi->partValue l=vl->partValue u=vu->wpAny (model X.prog X.w) X.A (getItem (.str z t) (.ref sl)) (EP X pins σ Q) X.xe s:=by
  intro l u h1 h2 h3 h4
  obtain⟨o,e1,e2,e3⟩:=hs
  refine wpAny_getItem_str_slice (l:=l) (u:=u) (st:=none) ⟨o,e1,e2,by rw[e3,h3,h4];rfl⟩ rfl ?_
  have e:Txt.slice z lo hi=(if(((none:Option (Int × Tok)).map (·.1)).getD 1==1&&(slicePicked z l u none).length==z.length)=true then z else⟨((slicePicked z l u none).filterMap (z.cps[·]?)).toArray⟩):=by
   unfold Txt.slice slicePicked;rw[h1,h2];rfl
  refine post_val_or_str ⟨?_,λt' k=>?_⟩
  ·rw[<-e];exact fU (Txt.slice_le z _ _) hz
  ·rw[<-e,b07];exact⟨.str _,H,I.tok _,⟨_,rfl⟩,q⟩
 cases pl with
 | none =>
  cases pu with
  | none=>exact fin none none rfl rfl rfl rfl
  | int j tj=>exact fin none (some (j,tj)) rfl rfl rfl rfl
 | int i ti =>
  cases pu with
  | none=>exact fin (some (i,ti)) none rfl rfl rfl rfl
  | int j tj=>exact fin (some (i,ti)) (some (j,tj)) rfl rfl rfl rfl
end
end L2
namespace L3
open PySem L2
noncomputable def jx:HO->Bool
 | .dU _=>false
 | _=>true
structure af(H H':Hp):Prop where
 get:∀b o,H b=some o->(h:jx o=true:=by rfl)->H' b=some o
 tb:∀b ps,H b=some (.dU ps)->∃more,H' b=some (.dU (ps++more))
noncomputable instance {H H':Hp}:CoeFun (af H H') λ_=>∀b o,H b=some o->(h:jx o=true:=by rfl)->H' b=some o:=⟨λs=>@af.get _ _ s⟩
theorem FH{o:HO}(h:jx o=false):∃ps,o=.dU ps:=by
 cases o with
 | dU ps=>exact⟨ps,rfl⟩
 | _=>cases h
theorem af.of{H H':Hp}(h:∀b o,H b=some o->H' b=some o):af H H':=⟨λb o e _=>h b o e,λb ps e=>⟨#[],by rw[h b _ e];simp⟩⟩
theorem af.refl(H:Hp):af H H:=.of λ_ _ h=>h
theorem af.trans{H H1 H2:Hp}(a:af H H1)(b:af H1 H2):af H H2 :=
 ⟨λc o h n=>b.get c o (a.get c o h n) n,λc ps h=>by
  obtain⟨m1,e1⟩:=a.tb c ps h
  obtain⟨m2,e2⟩:=b.tb c _ e1
  exact⟨m1++m2,by rw[e2,sZ]⟩⟩
theorem af.any{H H':Hp}(e:af H H'){l:Addr}{o:HO}(h:H l=some o):∃o',H' l=some o':=by
 cases n:jx o with
 | true=>exact⟨o,e.get l o h n⟩
 | false =>
  obtain⟨ps,rfl⟩:=FH n
  obtain⟨m,q⟩:=e.tb l ps h
  exact⟨_,q⟩
theorem af.free{H H':Hp}(e:af H H'){l:Addr}(h:H' l=Option.none):H l=Option.none:=by
 cases q:H l with
 | none=>rfl
 | some o =>
  obtain⟨o',z⟩:=e.any q
  rw[z]at h
  cases h
inductive uj where
 | ext (φ:Addr->Heap->Prop)
 | lam (of oc:Obj) (c k:Addr)
noncomputable instance:Coe (Addr->Heap->Prop) uj:=⟨.ext⟩
noncomputable def FI(H:Hp)(k:Addr):Prop:=∃ψ,H k=some (.ext ψ)/\∀h,ψ h->∃q,h.CodeRec (.ref k) q
noncomputable def jP(of oc:Obj)(c p:Addr):Heap->Prop:=λh=>h.get? p=some of/\h.get? c=some oc
structure kh(H:Hp)(p:Addr)(of oc:Obj)(c k:Addr):Prop where
 fn:H p=some (.ext (jP of oc c p))
 cell:H c=some (.own p)
 FJ:FI H k
noncomputable def qZ(H:Hp)(p:Addr):uj->Prop
 | .ext φ=>H p=some (.ext (φ p))
 | .lam of oc c k=>kh H p of oc c k
theorem qZ.mono{H H':Hp}{p:Addr}:∀{z:uj},qZ H p z->(∀a o,H a=some o->(∀ws,o≠.lst ws)->jx o=true->H' a=some o)->qZ H' p z
 | .ext φ,x,k=>k _ _ x (λws q=>by cases q) rfl
 | .lam of oc c k',x,k=>⟨k _ _ x.fn (λws q=>by cases q) rfl,k _ _ x.cell (λws q=>by cases q) rfl,let⟨ψ,e,h⟩:=x.FJ;⟨ψ,k _ _ e (λws q=>by cases q) rfl,h⟩⟩
inductive D where
 | ax | bl (b:Bool) | int (i:Int) | str (x:Str)
 | lst (o:Bool) (xs:List D)
 | tup (xs:List D)
 | obj (C:Addr) (ns:List Str) (xs:List D)
 | fz (xs:List D)
 | bI (z:uj)
 deriving Inhabited
noncomputable def D.pl:D->Bool
 | .lst o xs=>!o&&xD xs
 | .tup xs=>xD xs
 | _=>true
where xD:List D->Bool
 | []=>true
 | d::ds=>d.pl&&xD ds
noncomputable def D.fr:D->Bool
 | .lst o xs=>o&&xE xs
 | .tup xs=>xE xs
 | .obj _ _ _=>false
 | .fz _=>false
 | _=>true
where xE:List D->Bool
 | []=>true
 | d::ds=>d.fr&&xE ds
noncomputable def D.sh:D->D
 | .lst _ xs=>.lst false (xF xs)
 | .tup xs=>.tup (xF xs)
 | d=>d
where xF:List D->List D
 | []=>[]
 | d::ds=>d.sh::xF ds
theorem OJ(ds:List D):D.pl.xD ds=ds.all D.pl:=by induction ds with | nil=>rfl | cons d ds ih=>simp[D.pl.xD,ih]
theorem OK(ds:List D):D.fr.xE ds=ds.all D.fr:=by induction ds with | nil=>rfl | cons d ds ih=>simp[D.fr.xE,ih]
theorem OL(ds:List D):D.sh.xF ds=ds.map D.sh:=by induction ds with | nil=>rfl | cons d ds ih=>simp[D.sh.xF,ih]
theorem gu(o:Bool)(xs:List D):(D.lst o xs).pl=(!o&&xs.all D.pl):=by simp[D.pl,OJ]
theorem kP(xs:List D):(D.tup xs).pl=xs.all D.pl:=by simp[D.pl,OJ]
theorem gv(o:Bool)(xs:List D):(D.lst o xs).fr=(o&&xs.all D.fr):=by simp[D.fr,OK]
theorem q0(xs:List D):(D.tup xs).fr=xs.all D.fr:=by simp[D.fr,OK]
theorem eK(o:Bool)(xs:List D):(D.lst o xs).sh=.lst false (xs.map D.sh):=by simp[D.sh,OL]
theorem my(xs:List D):(D.tup xs).sh=.tup (xs.map D.sh):=by simp[D.sh,OL]
inductive R(F H:Hp):List D->List V->List Addr->Prop
 | nil:R F H [] [] []
 | ax {ds vs B}:R F H ds vs B->R F H (.ax::ds) (.ax::vs) B
 | bl {b ds vs B}:R F H ds vs B->R F H (.bl b::ds) (.bl b::vs) B
 | int {i ds vs B}:R F H ds vs B->R F H (.int i::ds) (.int i::vs) B
 | str {x ds vs B}:R F H ds vs B->R F H (.str x::ds) (.str x::vs) B
 | shr {p ws xs ds vs B}:F p=some (.lst ws)->R F H xs ws []->R F H ds vs B->R F H (.lst false xs::ds) (.ref p::vs) B
 | own {p ws xs A ds vs B}:H p=some (.lst ws)->F p=none->R F H xs ws A->R F H ds vs B->R F H (.lst true xs::ds) (.ref p::vs) (p::(A++B))
 | tup {p ws xs A ds vs B}:H p=some (.tup ws)->R F H xs ws A->R F H ds vs B->R F H (.tup xs::ds) (.ref p::vs) (A++B)
 | obj {p C dx ns ws xs ds vs B}:H p=some (.ins C dx (ns.zip ws))->ns.length=ws.length->R F H xs ws []->R F H ds vs B->R F H (.obj C ns xs::ds) (.ref p::vs) B
 | fz {p o ws xs ds vs B}:F p=some (.bx o (.lst ws))->R F H xs ws []->R F H ds vs B->R F H (.fz xs::ds) (.ref p::vs) B
 | bI {p z ds vs B}:qZ H p z->R F H ds vs B->R F H (.bI z::ds) (.ref p::vs) B
inductive S(F H:Hp):List D->List V->Prop
 | nil:S F H [] []
 | ax {ds vs}:S F H ds vs->S F H (.ax::ds) (.ax::vs)
 | bl {b ds vs}:S F H ds vs->S F H (.bl b::ds) (.bl b::vs)
 | int {i ds vs}:S F H ds vs->S F H (.int i::ds) (.int i::vs)
 | str {x ds vs}:S F H ds vs->S F H (.str x::ds) (.str x::vs)
 | shr {p ws xs ds vs}:F p=some (.lst ws)->R F H xs ws []->S F H ds vs->S F H (.lst false xs::ds) (.ref p::vs)
 | own {p ws xs ds vs}:H p=some (.lst ws)->S F H xs ws->S F H ds vs->S F H (.lst true xs::ds) (.ref p::vs)
 | tup {p ws xs ds vs}:H p=some (.tup ws)->S F H xs ws->S F H ds vs->S F H (.tup xs::ds) (.ref p::vs)
 | obj {p C dx ns ws xs ds vs}:H p=some (.ins C dx (ns.zip ws))->ns.length=ws.length->R F H xs ws []->S F H ds vs->S F H (.obj C ns xs::ds) (.ref p::vs)
 | fz {p o ws xs ds vs}:F p=some (.bx o (.lst ws))->R F H xs ws []->S F H ds vs->S F H (.fz xs::ds) (.ref p::vs)
 | bI {p z ds vs}:qZ H p z->S F H ds vs->S F H (.bI z::ds) (.ref p::vs)
section
variable{F F' H H':Hp}{d:D}{ds es:List D}{v:V}{vs ws:List V}{A B:List Addr}
theorem R.length(r:R F H ds vs A):ds.length=vs.length:=by
 induction r<;>simp_all
theorem S.length(r:S F H ds vs):ds.length=vs.length:=by
 induction r<;>simp_all
theorem R.kQ{vs:List V}{A:List Addr}(r:R F H [] vs A):vs=[]/\A=[]:=by cases r;exact⟨rfl,rfl⟩
noncomputable def Rv(F H:Hp)(ds:List D)(v:V)(vs:List V)(B:List Addr):D->Prop
 | .lst true xs=>∃p ws A B',v=.ref p/\H p=some (.lst ws)/\F p=none/\R F H xs ws A/\R F H ds vs B'/\B=p::(A++B')
 | .tup xs=>∃p ws A B',v=.ref p/\H p=some (.tup ws)/\R F H xs ws A/\R F H ds vs B'/\B=A++B'
 | _=>R F H ds vs B
theorem R.rv{d:D}{ds:List D}{v:V}{vs:List V}{B:List Addr}(r:R F H (d::ds) (v::vs) B):Rv F H ds v vs B d:=by
 cases r with
 | ax q=>exact q
 | bl q=>exact q
 | int q=>exact q
 | str q=>exact q
 | shr _ _ q=>exact q
 | own h f x q=>exact⟨_,_,_,_,rfl,h,f,x,q,rfl⟩
 | tup h x q=>exact⟨_,_,_,_,rfl,h,x,q,rfl⟩
 | obj _ _ _ q=>exact q
 | fz _ _ q=>exact q
 | bI _ q=>exact q
theorem R.cons(r:R F H [d] [v] A)(q:R F H ds vs B):R F H (d::ds) (v::vs) (A++B):=by
 cases r with
 | ax r=>rw[r.kQ.2];exact .ax q
 | bl r=>rw[r.kQ.2];exact .bl q
 | int r=>rw[r.kQ.2];exact .int q
 | str r=>rw[r.kQ.2];exact .str q
 | shr h x r=>rw[r.kQ.2];exact .shr h x q
 | own h f x r=>rw[r.kQ.2,gn];exact R.own h f x q
 | tup h x r=>rw[r.kQ.2,gn];exact R.tup h x q
 | obj h l x r=>rw[r.kQ.2];exact .obj h l x q
 | fz h x r=>rw[r.kQ.2];exact .fz h x q
 | bI h r=>rw[r.kQ.2];exact .bI h q
theorem R.cY(r:R F H (d::ds) vs A):∃v bX A1 A2,vs=v::bX/\A=A1++A2/\R F H [d] [v] A1/\R F H ds bX A2:=by
 cases r with
 | ax r=>exact⟨_,_,[],_,rfl,rfl,.ax .nil,r⟩
 | bl r=>exact⟨_,_,[],_,rfl,rfl,.bl .nil,r⟩
 | int r=>exact⟨_,_,[],_,rfl,rfl,.int .nil,r⟩
 | str r=>exact⟨_,_,[],_,rfl,rfl,.str .nil,r⟩
 | shr h x r=>exact⟨_,_,[],_,rfl,rfl,.shr h x .nil,r⟩
 | @own p _ _ A1 _ _ B1 h f x r=>exact⟨_,_,p::A1,B1,rfl,rfl,by simpa using R.own h f x .nil,r⟩
 | @tup p _ _ A1 _ _ B1 h x r=>exact⟨_,_,A1,B1,rfl,rfl,by simpa using R.tup h x .nil,r⟩
 | obj h l x r=>exact⟨_,_,[],_,rfl,rfl,.obj h l x .nil,r⟩
 | fz h x r=>exact⟨_,_,[],_,rfl,rfl,.fz h x .nil,r⟩
 | bI h r=>exact⟨_,_,[],_,rfl,rfl,.bI h .nil,r⟩
theorem S.cons(r:S F H [d] [v])(q:S F H ds vs):S F H (d::ds) (v::vs):=by
 cases r with
 | ax r=>exact .ax q
 | bl r=>exact .bl q
 | int r=>exact .int q
 | str r=>exact .str q
 | shr h x r=>exact .shr h x q
 | own h x r=>exact .own h x q
 | tup h x r=>exact .tup h x q
 | obj h l x r=>exact .obj h l x q
 | fz h x r=>exact .fz h x q
 | bI h r=>exact .bI h q
theorem S.cY(r:S F H (d::ds) vs):∃v bX,vs=v::bX/\S F H [d] [v]/\S F H ds bX:=by
 cases r with
 | ax r=>exact⟨_,_,rfl,.ax .nil,r⟩
 | bl r=>exact⟨_,_,rfl,.bl .nil,r⟩
 | int r=>exact⟨_,_,rfl,.int .nil,r⟩
 | str r=>exact⟨_,_,rfl,.str .nil,r⟩
 | shr h x r=>exact⟨_,_,rfl,.shr h x .nil,r⟩
 | own h x r=>exact⟨_,_,rfl,.own h x .nil,r⟩
 | tup h x r=>exact⟨_,_,rfl,.tup h x .nil,r⟩
 | obj h l x r=>exact⟨_,_,rfl,.obj h l x .nil,r⟩
 | fz h x r=>exact⟨_,_,rfl,.fz h x .nil,r⟩
 | bI h r=>exact⟨_,_,rfl,.bI h .nil,r⟩
theorem R.append:∀{ds:List D} {vs:List V} {A:List Addr},R F H ds vs A->R F H es ws B->R F H (ds++es) (vs++ws) (A++B)
 | [],_,_,r,q=>by cases r;exact q
 | d::ds,_,_,r,q=>by
  obtain⟨v,bX,A1,A2,rfl,rfl,h1,h2⟩:=r.cY
  simpa using h1.cons (R.append h2 q)
theorem S.append:∀{ds:List D} {vs:List V},S F H ds vs->S F H es ws->S F H (ds++es) (vs++ws)
 | [],_,r,q=>by cases r;exact q
 | d::ds,_,r,q=>by
  obtain⟨v,bX,rfl,h1,h2⟩:=r.cY
  exact h1.cons (S.append h2 q)
theorem R.split:∀{ds:List D} {vs:List V} {A:List Addr},R F H (ds++es) vs A->∃v1 v2 A1 A2,vs=v1++v2/\A=A1++A2/\R F H ds v1 A1/\R F H es v2 A2
 | [],vs,A,r=>⟨[],vs,[],A,rfl,rfl,.nil,r⟩
 | d::ds,_,_,r=>by
  obtain⟨v,bX,A1,A2,rfl,rfl,h1,h2⟩:=R.cY (ds:=ds++es) r
  obtain⟨v1,v2,B1,B2,rfl,rfl,h3,h4⟩:=R.split (ds:=ds) h2
  exact⟨v::v1,v2,A1++B1,B2,rfl,by simp,h1.cons h3,h4⟩
theorem R.get:∀{ds:List D} {vs:List V} {A:List Addr} {i:Nat},R F H ds vs A->ds[i]?=some d->∃v A1,vs[i]?=some v/\R F H [d] [v] A1/\A1 ⊆ A
 | [],_,_,_,_,e=>by simp at e
 | d'::ds,_,_,i,r,e=>by
  obtain⟨v,bX,A1,A2,rfl,rfl,h1,h2⟩:=r.cY
  cases i with
  | zero=>simp at e;subst e;exact⟨v,A1,rfl,h1,by simp⟩
  | succ i =>
   obtain⟨w,B1,e2,q,sb⟩:=R.get (ds:=ds) (i:=i) h2 (by simpa using e)
   exact⟨w,B1,by simpa using e2,q,λx hx=>df _ (sb hx)⟩
theorem S.get:∀{ds:List D} {vs:List V} {i:Nat},S F H ds vs->ds[i]?=some d->∃v,vs[i]?=some v/\S F H [d] [v]
 | [],_,_,_,e=>by simp at e
 | d'::ds,_,i,r,e=>by
  obtain⟨v,bX,rfl,h1,h2⟩:=r.cY
  cases i with
  | zero=>simp at e;subst e;exact⟨v,rfl,h1⟩
  | succ i =>
   obtain⟨w,e2,q⟩:=S.get (ds:=ds) (i:=i) h2 (by simpa using e)
   exact⟨w,by simpa using e2,q⟩
theorem S.get':∀{ds:List D} {vs:List V} {i:Nat},S F H ds vs->vs[i]?=some v->∃d,ds[i]?=some d/\S F H [d] [v]
 | [],_,_,r,e=>by cases r;simp at e
 | d'::ds,_,i,r,e=>by
  obtain⟨v,bX,rfl,h1,h2⟩:=r.cY
  cases i with
  | zero=>simp at e;subst e;exact⟨d',rfl,h1⟩
  | succ i =>
   obtain⟨w,e2,q⟩:=S.get' (ds:=ds) (i:=i) h2 (by simpa using e)
   exact⟨w,by simpa using e2,q⟩
theorem S.take:∀{ds:List D} {vs:List V} (n:Nat),S F H ds vs->S F H (ds.take n) (vs.take n)
 | _,_,0,r=>by simpa using S.nil
 | [],_,n+1,r=>by cases r;exact .nil
 | d::ds,_,n+1,r=>by
  obtain⟨v,bX,rfl,h1,h2⟩:=r.cY
  exact h1.cons (S.take n h2)
theorem S.drop:∀{ds:List D} {vs:List V} (n:Nat),S F H ds vs->S F H (ds.drop n) (vs.drop n)
 | _,_,0,r=>by simpa using r
 | [],_,n+1,r=>by cases r;exact .nil
 | d::ds,_,n+1,r=>by
  obtain⟨v,bX,rfl,h1,h2⟩:=r.cY
  exact S.drop n h2
theorem iY{p:Addr}{o:HO}(h:Rd F p o)(s:af F F')(n:jx o=true:=by rfl):Rd F' p o:=by
 rcases h with h | ⟨u,h⟩
 ·exact .inl (s.get _ _ h n)
 ·exact .inr ⟨u,s _ _ h⟩
theorem R.s(r:R F H ds vs A):S F H ds vs:=by
 induction r with
 | nil=>exact .nil
 | ax _ ih=>exact .ax ih
 | bl _ ih=>exact .bl ih
 | int _ ih=>exact .int ih
 | str _ ih=>exact .str ih
 | shr h x _ _ ih=>exact .shr h x ih
 | own h f _ _ i1 i2=>exact .own h i1 i2
 | tup h _ _ i1 i2=>exact .tup h i1 i2
 | obj h l x _ _ ih=>exact .obj h l x ih
 | fz h x _ _ ih=>exact .fz h x ih
 | bI h _ ih=>exact .bI h ih
structure gw(W:List Addr)(H H':Hp):Prop where
 get:∀a o,H a=some o->a ∉ W->(h:jx o=true:=by rfl)->H' a=some o
noncomputable instance {W:List Addr} {H H':Hp}:CoeFun (gw W H H') λ_=>∀a o,H a=some o->a ∉ W->(h:jx o=true:=by rfl)->H' a=some o:=⟨λs=>@gw.get _ _ _ s⟩
noncomputable def gX(W:List Addr)(H:Hp):Prop:=∀a∈W,∃ws,H a=some (.lst ws)
theorem R.keep{W:List Addr}(hf:af F F')(hb:gw W H H')(hl:gX W H)(r:R F H ds vs A)(hn:∀a∈A,F' a=none)(hd:∀a∈A,a ∉ W):R F' H' ds vs A:=by
 induction r with
 | nil=>exact .nil
 | ax _ ih=>exact .ax (ih hn hd)
 | bl _ ih=>exact .bl (ih hn hd)
 | int _ ih=>exact .int (ih hn hd)
 | str _ ih=>exact .str (ih hn hd)
 | shr h x _ i1 ih=>exact .shr (hf _ _ h) (i1 (by simp) (by simp)) (ih hn hd)
 | own h f _ _ i1 i2 =>
  refine .own (hb _ _ h (hd _ (by simp))) (hn _ (by simp)) (i1 (λa ha=>hn a ?_) λa ha=>hd a ?_) (i2 (λa ha=>hn a ?_) λa ha=>hd a ?_)<;>simp[ha]
 | @tup p ws _ _ _ _ _ h _ _ i1 i2 =>
  refine .tup (hb _ _ h λz=>?_) (i1 (λa ha=>hn a ?_) λa ha=>hd a ?_) (i2 (λa ha=>hn a ?_) λa ha=>hd a ?_)<;>try simp[ha]
  obtain⟨q,e⟩:=hl _ z
  rw[h]at e;cases e
 | obj h l x _ i1 ih =>
  refine .obj (hb _ _ h λz=>?_) l (i1 (by simp) (by simp)) (ih hn hd)
  obtain⟨q,e⟩:=hl _ z
  rw[h]at e;cases e
 | fz h x _ i1 ih=>exact .fz (hf _ _ h) (i1 (by simp) (by simp)) (ih hn hd)
 | bI h _ ih =>
  exact .bI (h.mono λa o e n t=>hb.get a o e (λz=>by
   obtain⟨q,e'⟩:=hl _ z
   rw[e]at e';cases e';exact n _ rfl) t) (ih hn hd)
theorem gw.same(h:af H H'):gw [] H H':=⟨λa o e _ n=>h.get a o e n⟩
theorem gX.nil:gX [] H:=λa h=>absurd h (by simp)
theorem R.grow(hf:af F F')(hb:af H H')(r:R F H ds vs A)(hn:∀a∈A,F' a=none):R F' H' ds vs A :=
 r.keep hf (gw.same hb) gX.nil hn (by simp)
theorem R.shared(hf:af F F')(hb:af H H')(r:R F H ds vs []):R F' H' ds vs []:=r.grow hf hb (by simp)
theorem S.mono(hf:af F F')(hb:af H H')(r:S F H ds vs):S F' H' ds vs:=by
 induction r with
 | nil=>exact .nil
 | ax _ ih=>exact .ax ih
 | bl _ ih=>exact .bl ih
 | int _ ih=>exact .int ih
 | str _ ih=>exact .str ih
 | shr h x _ ih=>exact .shr (hf _ _ h) (x.shared hf hb) ih
 | own h _ _ i1 i2=>exact .own (hb _ _ h) i1 i2
 | tup h _ _ i1 i2=>exact .tup (hb _ _ h) i1 i2
 | obj h l x _ ih=>exact .obj (hb _ _ h) l (x.shared hf hb) ih
 | fz h x _ ih=>exact .fz (hf _ _ h) (x.shared hf hb) ih
 | bI h _ ih=>exact .bI (h.mono λa o e _ t=>hb.get a o e t) ih
theorem S.r(s:S F H ds vs)(p:ds.all D.pl=true):R F H ds vs []:=by
 induction s with
 | nil=>exact .nil
 | ax _ ih=>exact .ax (ih (by simpa[D.pl]using p))
 | bl _ ih=>exact .bl (ih (by simpa[D.pl]using p))
 | int _ ih=>exact .int (ih (by simpa[D.pl]using p))
 | str _ ih=>exact .str (ih (by simpa[D.pl]using p))
 | shr h x _ ih=>exact .shr h x (ih (by simp[gu]at p;simpa using p.2))
 | own h _ _ i1 i2=>simp[gu]at p
 | tup h _ _ i1 i2 =>
  rw[dy,kP,fg]at p
  simpa using R.tup h (i1 p.1) (i2 p.2)
 | obj h l x _ ih=>exact .obj h l x (ih (by simpa[D.pl]using p))
 | fz h x _ ih=>exact .fz h x (ih (by simpa[D.pl]using p))
 | bI h _ ih=>exact .bI h (ih (by simpa[D.pl]using p))
theorem R.pl(r:R F H ds vs []):ds.all D.pl=true:=by
 generalize e:([]:List Addr)=A at r
 induction r with
 | nil=>rfl
 | ax _ ih=>simp[D.pl];simpa using ih e
 | bl _ ih=>simp[D.pl];simpa using ih e
 | int _ ih=>simp[D.pl];simpa using ih e
 | str _ ih=>simp[D.pl];simpa using ih e
 | shr h x _ i1 ih=>simp only[dy,gu,i1 rfl,ih e];rfl
 | own h f _ _ i1 i2=>cases e
 | tup h _ _ i1 i2 =>
  obtain⟨e1,e2⟩:=qw.mp e.symm
  simp only[dy,kP,i1 e1.symm,i2 e2.symm];rfl
 | obj h l x _ i1 ih=>simp[D.pl];simpa using ih e
 | fz h x _ i1 ih=>simp[D.pl];simpa using ih e
 | bI h _ ih=>simp[D.pl];simpa using ih e
theorem D.Br:∀{d:D},d.pl=true->d.sh=d
 | .ax,_=>rfl
 | .bl _,_=>rfl
 | .int _,_=>rfl
 | .str _,_=>rfl
 | .obj _ _ _,_=>rfl
 | .fz _,_=>rfl
 | .bI _,_=>rfl
 | .lst o xs,h=>by
  rw[gu,fg]at h
  have:∀(l:List D),(∀x∈l,x∈xs)->l.all D.pl=true->l.map D.sh=l:=by
   intro l hl hp
   induction l with
   | nil=>rfl
   | cons x l ih =>
    simp only[dy,fg]at hp
    have hx:x∈xs:=hl x (by simp)
    rw[dw,D.Br hp.1,ih (λy hy=>hl y (by simp[hy])) hp.2]
  rw[eK,this xs (λ_ h=>h) h.2]
  cases o<;>simp_all
 | .tup xs,h=>by
  rw[kP]at h
  have:∀(l:List D),(∀x∈l,x∈xs)->l.all D.pl=true->l.map D.sh=l:=by
   intro l hl hp
   induction l with
   | nil=>rfl
   | cons x l ih =>
    simp only[dy,fg]at hp
    have hx:x∈xs:=hl x (by simp)
    rw[dw,D.Br hp.1,ih (λy hy=>hl y (by simp[hy])) hp.2]
  rw[my,this xs (λ_ h=>h) h]
termination_by d=>sizeOf d
theorem mB{l:List D}(h:l.all D.pl=true):l.map D.sh=l:=by
 induction l with
 | nil=>rfl
 | cons x l ih =>
  simp only[dy,fg]at h
  rw[dw,D.Br h.1,ih h.2]
theorem S.frozen(e:af F H)(s:S F H ds vs):R H H (ds.map D.sh) vs []:=by
 induction s with
 | nil=>exact .nil
 | ax _ ih=>exact .ax ih
 | bl _ ih=>exact .bl ih
 | int _ ih=>exact .int ih
 | str _ ih=>exact .str ih
 | shr h x _ ih =>
  rw[dw,eK,mB x.pl]
  exact .shr (e _ _ h) (x.shared e (af.refl _)) ih
 | own h _ _ i1 i2=>rw[dw,eK];exact .shr h i1 i2
 | tup h _ _ i1 i2=>rw[dw,my];simpa using R.tup h i1 i2
 | obj h l x _ ih=>exact .obj h l (x.shared e (af.refl _)) ih
 | fz h x _ ih=>exact .fz (e _ _ h) (x.shared e (af.refl _)) ih
 | bI h _ ih=>exact .bI h ih
noncomputable def bx(F H:Hp)(A:List Addr):Hp:=λa=>if a∈A then H a else F a
theorem iE(e:af F H):af F (bx F H A):=⟨λa o h n=>by unfold bx;split;exact e.get _ _ h n;exact h,λa ps h=>by unfold bx;split;exact e.tb _ _ h;exact⟨#[],by rw[h];simp⟩⟩
theorem nE(e:af F H):af (bx F H A) H:=⟨λa o h n=>by unfold bx at h;split at h;exact h;exact e.get _ _ h n,λa ps h=>by unfold bx at h;split at h;exact⟨#[],by rw[h];simp⟩;exact e.tb _ _ h⟩
theorem pB{a:Addr}(h:a ∉ A):bx F H A a=F a:=by unfold bx;rw[if_neg h]
theorem cC0{a:Addr}(h:a∈A):bx F H A a=H a:=by unfold bx;rw[if_pos h]
theorem R.bx(e:af F H)(r:R F H ds vs A):∀A',A ⊆ A'->R (L3.bx F H A') H (ds.map D.sh) vs []:=by
 induction r with
 | nil=>exact λ_ _=>.nil
 | ax _ ih=>exact λA' h=>.ax (ih A' h)
 | bl _ ih=>exact λA' h=>.bl (ih A' h)
 | int _ ih=>exact λA' h=>.int (ih A' h)
 | str _ ih=>exact λA' h=>.str (ih A' h)
 | shr h x _ i1 ih =>
  intro A' hA
  rw[dw,eK,mB x.pl]
  exact .shr (iE e _ _ h) (x.shared (iE e) (af.refl _)) (ih A' hA)
 | own h f _ _ i1 i2 =>
  intro A' hA
  rw[dw,eK]
  exact .shr ((cC0 (hA (by simp))).trans h) (i1 A' λa ha=>hA (by simp[ha])) (i2 A' λa ha=>hA (by simp[ha]))
 | tup h _ _ i1 i2 =>
  intro A' hA
  rw[dw,my]
  simpa using R.tup h (i1 A' λa ha=>hA (by simp[ha])) (i2 A' λa ha=>hA (by simp[ha]))
 | obj h l x _ i1 ih=>exact λA' hA=>.obj h l (x.shared (iE e) (af.refl _)) (ih A' hA)
 | fz h x _ i1 ih=>exact λA' hA=>.fz (iE e _ _ h) (x.shared (iE e) (af.refl _)) (ih A' hA)
 | bI h _ ih=>exact λA' hA=>.bI h (ih A' hA)
theorem R.lists(r:R F H ds vs A):∀a∈A,(∃ws,H a=some (.lst ws))/\F a=none:=by
 induction r with
 | nil=>simp
 | ax _ ih=>exact ih
 | bl _ ih=>exact ih
 | int _ ih=>exact ih
 | str _ ih=>exact ih
 | shr h x _ i1 ih=>exact ih
 | own h f _ _ i1 i2 =>
  intro a ha
  rcases cA.mp ha with rfl | ha
  ·exact⟨⟨_,h⟩,f⟩
  ·exact(cE.mp ha).elim (i1 a) (i2 a)
 | tup h _ _ i1 i2=>exact λa ha=>(cE.mp ha).elim (i1 a) (i2 a)
 | obj h l x _ i1 ih=>exact ih
 | fz h x _ i1 ih=>exact ih
 | bI h _ ih=>exact ih
theorem R.q5(r:R F H ds vs A)(hd:ds.all D.fr=true)(e:af F' F):R F' H ds vs A:=by
 induction r with
 | nil=>exact .nil
 | ax _ ih=>exact .ax (ih (by simpa[D.fr]using hd))
 | bl _ ih=>exact .bl (ih (by simpa[D.fr]using hd))
 | int _ ih=>exact .int (ih (by simpa[D.fr]using hd))
 | str _ ih=>exact .str (ih (by simpa[D.fr]using hd))
 | shr h x _ i1 ih=>simp[gv]at hd
 | own h f _ _ i1 i2 =>
  rw[dy,gv,fg,mX]at hd
  exact .own h (e.free f) (i1 hd.1) (i2 hd.2)
 | tup h _ _ i1 i2 =>
  rw[dy,q0,fg]at hd
  exact .tup h (i1 hd.1) (i2 hd.2)
 | obj h l x _ i1 ih=>simp[D.fr]at hd
 | fz h x _ i1 ih=>simp[D.fr]at hd
 | bI h _ ih=>exact .bI h (ih (by simpa[D.fr]using hd))
theorem R.inj(r:R F H ds vs A):∀{B:List Addr},R F H ds vs B->A=B:=by
 induction r with
 | nil=>exact λq=>q.kQ.2.symm
 | ax _ ih=>exact λq=>ih q.rv
 | bl _ ih=>exact λq=>ih q.rv
 | int _ ih=>exact λq=>ih q.rv
 | str _ ih=>exact λq=>ih q.rv
 | shr h x _ i1 ih=>exact λq=>ih q.rv
 | own h f _ _ i1 i2 =>
  intro B q
  obtain⟨p,ws,A,B',e,h',f',x',q',rfl⟩:=q.rv
  cases e
  rw[h]at h';cases h'
  rw[i1 x',i2 q']
 | tup h _ _ i1 i2 =>
  intro B q
  obtain⟨p,ws,A,B',e,h',x',q',rfl⟩:=q.rv
  cases e
  rw[h]at h';cases h'
  rw[i1 x',i2 q']
 | obj h l x _ i1 ih=>exact λq=>ih q.rv
 | fz h x _ i1 ih=>exact λq=>ih q.rv
 | bI h _ ih=>exact λq=>ih q.rv
theorem R.perm{ps qs:List (D × V)}(hp:ps.Perm qs):∀{A:List Addr},R F H (ps.map (·.1)) (ps.map (·.2)) A->∃A',R F H (qs.map (·.1)) (qs.map (·.2)) A'/\A.Perm A':=by
 induction hp with
 | nil=>exact λr=>⟨_,r,.refl _⟩
 | cons x _ ih =>
  intro A r
  obtain⟨v,bX,A1,A2,e,rfl,h1,h2⟩:=R.cY r
  obtain⟨rfl,rfl⟩:=mZ e
  obtain⟨A',r',p⟩:=ih h2
  exact⟨A1++A',h1.cons r',p.append_left _⟩
 | swap x y l =>
  intro A r
  obtain⟨v,bX,A1,A2,e,rfl,h1,h2⟩:=R.cY r
  obtain⟨rfl,rfl⟩:=mZ e
  obtain⟨v2,FK,B1,B2,e,rfl,h3,h4⟩:=R.cY h2
  obtain⟨rfl,rfl⟩:=mZ e
  exact⟨B1++(A1++B2),h3.cons (h1.cons h4),by rw[<-eC,<- eC];exact m3.append_right _⟩
 | trans _ _ i1 i2 =>
  intro A r
  obtain⟨A',r',p⟩:=i1 r
  obtain⟨A2,r2,p2⟩:=i2 r'
  exact⟨A2,r2,p.trans p2⟩
noncomputable def Full(F H:Hp):Prop:=∀a o,H a=some o->(∀ws,o≠.lst ws)->F a=some o
theorem Full.refl(H:Hp):Full H H:=λ_ _ h _=>h
theorem R.full(hF:Full F H)(hs:af F H')(r:R F H ds vs A)(e:A=[]):R F H' ds vs []:=by
 induction r with
 | nil=>exact .nil
 | ax _ ih=>exact .ax (ih e)
 | bl _ ih=>exact .bl (ih e)
 | int _ ih=>exact .int (ih e)
 | str _ ih=>exact .str (ih e)
 | shr h x _ i1 ih=>exact .shr h (i1 rfl) (ih e)
 | own h f _ _ i1 i2=>cases e
 | tup h _ _ i1 i2 =>
  obtain⟨e1,e2⟩:=qw.mp e
  exact R.tup (A:=[]) (B:=[]) (hs _ _ (hF _ _ h (by intro ws z;cases z))) (i1 e1) (i2 e2)
 | obj h l x _ i1 ih=>exact .obj (hs _ _ (hF _ _ h (by intro ws z;cases z))) l (i1 rfl) (ih e)
 | fz h x _ i1 ih=>exact .fz h (i1 rfl) (ih e)
 | bI h _ ih=>exact .bI (h.mono λa o e n t=>hs.get a o (hF a o e n) t) (ih e)
open Classical in
noncomputable def snap(F H:Hp):Hp:=λa=>if(∃o,H a=some o/\∀ws,o≠.lst ws)then H a else F a
theorem uk:Full (snap F H) H:=λa o h n=>by unfold snap;rw[if_pos ⟨o,h,n⟩];exact h
theorem q8(e:af F H):af F (snap F H):=⟨λa o h n=>by
 unfold snap;split
 ·exact e.get a o h n
 ·exact h,λa ps h=>by
 unfold snap;split
 ·exact e.tb a ps h
 ·exact⟨#[],by rw[h];simp⟩⟩
theorem cg7(e:af F H):af (snap F H) H:=⟨λa o h n=>by
 unfold snap at h;split at h
 ·exact h
 ·exact e.get a o h n,λa ps h=>by
 unfold snap at h;split at h
 ·exact⟨#[],by rw[h];simp⟩
 ·exact e.tb a ps h⟩
theorem b58(e:af F H){a:Addr}{ws:List V}(h:snap F H a=some (.lst ws)):F a=some (.lst ws):=by
 unfold snap at h;split at h
 ·rename_i z
  obtain⟨o,h1,h2⟩:=z
  rw[h]at h1;exact absurd (de h1).symm (h2 ws)
 ·exact h
theorem b04{a:Addr}{ws:List V}(h:H a=some (.lst ws))(n:F a=none):snap F H a=none:=by
 unfold snap;split
 ·rename_i z
  obtain⟨o,h1,h2⟩:=z
  rw[h]at h1;exact absurd (de h1).symm (h2 ws)
 ·exact n
end
end L3
namespace L3
open PySem L2
noncomputable abbrev Dl:=List (Option D)
inductive RS(F H:Hp):Dl->St->List Addr->Prop
 | nil:RS F H [] [] []
 | ax {δ σ o C}:RS F H δ σ C->RS F H (none::δ) (o::σ) C
 | dW {d v A δ σ C}:R F H [d] [v] A->RS F H δ σ C->RS F H (some d::δ) (some v::σ) (A++C)
theorem iZ{A B:List Addr}:(A++B).Nodup↔A.Nodup/\B.Nodup/\∀a∈A,a ∉ B:=by
 rw[List.nodup_append]
 constructor
 ·rintro⟨h1,h2,h3⟩;exact⟨h1,h2,λa ha hb=>h3 a ha a hb rfl⟩
 ·rintro⟨h1,h2,h3⟩;exact⟨h1,h2,λa ha b hb e=>h3 a ha (e ▸ hb)⟩
section
variable{F F' H H':Hp}{d:D}{v:V}{δ:Dl}{σ:St}{A C:List Addr}{i:Nat}
theorem RS.length(r:RS F H δ σ C):δ.length=σ.length:=by induction r<;>simp_all
theorem RS.pick:∀{δ:Dl} {σ:St} {C:List Addr} {i:Nat},RS F H δ σ C->δ[i]?=some (some d)->∃v A C',σ[i]?=some (some v)/\R F H [d] [v] A/\RS F H (δ.set i none) σ C'/\C.Perm (A++C')
 | _,_,_,_,.nil,e=>by simp at e
 | _,_,_,i,.ax r,e=>by
  cases i with
  | zero=>simp at e
  | succ i =>
   obtain⟨v,A,C',e1,h1,h2,p⟩:=RS.pick r (by simpa using e)
   exact⟨v,A,C',by simpa using e1,h1,.ax h2,p⟩
 | _,_,_,i,.dW (A:=A0) (C:=C0) h r,e=>by
  cases i with
  | zero =>
   simp at e;subst e
   exact⟨_,A0,C0,rfl,h,.ax r,.refl _⟩
  | succ i =>
   obtain⟨v,A,C',e1,h1,h2,p⟩:=RS.pick r (by simpa using e)
   refine⟨v,A,A0++C',by simpa using e1,h1,.dW h h2,(p.append_left A0).trans ?_⟩
   rw[<-eC,<- eC]
   exact m3.append_right _
theorem RS.fill:∀{δ:Dl} {σ:St} {C:List Addr} {i:Nat},RS F H δ σ C->δ[i]?=some none->σ[i]?=some (some v)->R F H [d] [v] A->∃C',RS F H (δ.set i (some d)) σ C'/\C'.Perm (A++C)
 | _,_,_,_,.nil,e,_,_=>by simp at e
 | _,_,_,i,.ax r,e,e2,h=>by
  cases i with
  | zero=>simp at e2;subst e2;exact⟨_,.dW h r,.refl _⟩
  | succ i =>
   obtain⟨C',h1,p⟩:=RS.fill r (by simpa using e) (by simpa using e2) h
   exact⟨C',.ax h1,p⟩
 | _,_,_,i,.dW (A:=A0) (C:=C0) h0 r,e,e2,h=>by
  cases i with
  | zero=>simp at e
  | succ i =>
   obtain⟨C',h1,p⟩:=RS.fill r (by simpa using e) (by simpa using e2) h
   refine⟨A0++C',.dW h0 h1,(p.append_left A0).trans ?_⟩
   rw[<-eC,<- eC]
   exact m3.append_right _
theorem RS.drop:∀{δ:Dl} {σ:St} {C:List Addr} (i:Nat),RS F H δ σ C->∃C',RS F H (δ.set i none) σ C'/\C'.Sublist C
 | _,_,_,_,.nil=>⟨_,.nil,.refl _⟩
 | _,_,_,i,.ax r=>by
  cases i with
  | zero=>exact⟨_,.ax r,.refl _⟩
  | succ i=>obtain⟨C',h,s⟩:=RS.drop i r;exact⟨C',.ax h,s⟩
 | _,_,_,i,.dW (A:=A0) h0 r=>by
  cases i with
  | zero=>exact⟨_,.ax r,List.sublist_append_right _ _⟩
  | succ i=>obtain⟨C',h,s⟩:=RS.drop i r;exact⟨_,.dW h0 h,(MK A0).append s⟩
theorem RS.xG:∀{δ:Dl} {σ:St} {C:List Addr} {i:Nat} (o:Option V),RS F H δ σ C->(δ[i]?=some none\/δ[i]?=none)->RS F H δ (σ.set i o) C
 | _,_,_,_,_,.nil,_=>.nil
 | _,_,_,i,_,.ax r,e=>by
  cases i with
  | zero=>exact .ax r
  | succ i=>exact .ax (RS.xG _ r (by simpa using e))
 | _,_,_,i,_,.dW h0 r,e=>by
  cases i with
  | zero=>simp at e
  | succ i=>exact .dW h0 (RS.xG _ r (by simpa using e))
theorem RS.keep{W:List Addr}(hf:af F F')(hb:gw W H H')(hl:gX W H)(r:RS F H δ σ C)(hn:∀a∈C,F' a=none)(hd:∀a∈C,a ∉ W):RS F' H' δ σ C:=by
 induction r with
 | nil=>exact .nil
 | ax _ ih=>exact .ax (ih hn hd)
 | dW h _ ih=>exact .dW (h.keep hf hb hl (λa ha=>hn a (by simp[ha])) λa ha=>hd a (by simp[ha])) (ih (λa ha=>hn a (by simp[ha])) λa ha=>hd a (by simp[ha]))
theorem RS.lists(r:RS F H δ σ C):∀a∈C,(∃ws,H a=some (.lst ws))/\F a=none:=by
 induction r with
 | nil=>simp
 | ax _ ih=>exact ih
 | dW h _ ih=>exact λa ha=>(cE.mp ha).elim (h.lists a) (ih a)
end
structure Bs where
 H0:Hp
 F0:Hp
structure av(B:Bs)(F H:Hp)(σ:St)(δ:Dl)(ts:List (D × V)):Prop where
 ext:af F H
 b1:af B.H0 H
 b2:af B.F0 F
 b3:∀a ws,F a=some (.lst ws)->B.F0 a=some (.lst ws)\/B.H0 a=none
 own:∃A C,R F H (ts.map (·.1)) (ts.map (·.2)) A/\RS F H δ σ C/\(A++C).Nodup/\∀a∈A++C,B.H0 a=none
section
variable{B:Bs}{F F' H H':Hp}{d:D}{v:V}{δ:Dl}{σ:St}{ts ps:List (D × V)}{A C W:List Addr}{i:Nat}{p:Addr}{xs ys:List D}{vs ws:List V}
theorem av.look(c:av B F H σ δ ts)(e:δ[i]?=some (some d)):∃v,σ[i]?=some (some v)/\S F H [d] [v]:=by
 obtain⟨A,C,r,s,nd,fr⟩:=c.own
 obtain⟨v,A',C',e1,h1,h2,p⟩:=s.pick e
 exact⟨v,e1,h1.s⟩
theorem av.len(c:av B F H σ δ ts):δ.length=σ.length:=let⟨_,_,_,s,_⟩:=c.own;s.length
theorem av.grow(c:av B F H σ δ ts)(h:af H H'):av B F H' σ δ ts:=by
 obtain⟨A,C,r,s,nd,fr⟩:=c.own
 exact⟨c.ext.trans h,c.b1.trans h,c.b2,c.b3,A,C,r.grow (af.refl _) h λa ha=>(r.lists a ha).2,s.keep (af.refl _) (gw.same h) gX.nil (λa ha=>(s.lists a ha).2) (by simp),nd,fr⟩
theorem av.pop(c:av B F H σ δ ((d,v)::ts)):av B F H σ δ ts:=by
 obtain⟨A,C,r,s,nd,fr⟩:=c.own
 obtain⟨w,bX,A1,A2,e,rfl,h1,h2⟩:=R.cY r
 obtain⟨rfl,rfl⟩:=mZ e
 refine⟨c.ext,c.b1,c.b2,c.b3,A2,C,h2,s,?_,λa ha=>fr a (by simp at ha ⊢;exact .inr ha)⟩
 rw[eC]at nd
 exact(iZ.mp nd).2.1
theorem av.top(c:av B F H σ δ ((d,v)::ts)):S F H [d] [v]:=by
 obtain⟨A,C,r,s,nd,fr⟩:=c.own
 obtain⟨w,bX,A1,A2,e,rfl,h1,h2⟩:=R.cY r
 obtain⟨rfl,rfl⟩:=mZ e
 exact h1.s
theorem av.pushS(c:av B F H σ δ ts)(s:S F H [d] [v])(pl:d.pl=true):av B F H σ δ ((d,v)::ts):=by
 obtain⟨A,C,r,q,nd,fr⟩:=c.own
 exact⟨c.ext,c.b1,c.b2,c.b3,A,C,(s.r (by simp[pl])).cons r,q,nd,fr⟩
theorem af.upd{o:HO}(h:H p=none):af H (upd H p o):=.of λb u e=>by rw[bo (fj e h)];exact e
theorem av.pack(c:av B F H σ δ (ps++ts))(hs:af H H')(k:∀A1,R F H' (ps.map (·.1)) (ps.map (·.2)) A1->A1.Nodup->∃A',R F H' [d] [v] A'/\A'.Nodup/\∀a∈A',a∈A1\/H a=none):av B F H' σ δ ((d,v)::ts):=by
 obtain⟨A,C,r,s,nd,fr⟩:=c.own
 rw[fh,fh]at r
 obtain⟨v1,v2,A1,A2,e,rfl,h1,h2⟩:=R.split r
 have l1:(ps.map (·.2)).length=v1.length:=by rw[<-h1.length];simp
 obtain⟨rfl,rfl⟩:=Et e l1
 rw[eC]at nd fr
 obtain⟨n1,n2,n3⟩:=iZ.mp nd
 have g1:=h1.grow (af.refl F) hs λa ha=>(h1.lists a ha).2
 have g2:=h2.grow (af.refl F) hs λa ha=>(h2.lists a ha).2
 have gs:=s.keep (af.refl F) (gw.same hs) gX.nil (λa ha=>(s.lists a ha).2) (by simp)
 obtain⟨A',r',FL,sub⟩:=k A1 g1 n1
 refine⟨c.ext.trans hs,c.b1.trans hs,c.b2,c.b3,A'++A2,C,r'.cons g2,gs,?_,?_⟩
 ·rw[eC]
  refine iZ.mpr ⟨FL,n2,λa ha hb=>?_⟩
  rcases sub a ha with z | z
  ·exact n3 a z hb
  ·rcases cE.mp hb with y | y
   ·obtain⟨⟨_,q⟩,_⟩:=h2.lists a y;rw[z]at q;cases q
   ·obtain⟨⟨_,q⟩,_⟩:=s.lists a y;rw[z]at q;cases q
 ·intro a ha
  rw[eC]at ha
  rcases cE.mp ha with y | y
  ·rcases sub a y with z | z
   ·exact fr a (by simp[z])
   ·exact c.b1.free z
  ·exact fr a (df _ y)
theorem av.FN(c:av B F H σ δ ts)(hs:af H H')(r:R F H' [d] [v] A)(nd:A.Nodup)(fr:∀a∈A,H a=none):av B F H' σ δ ((d,v)::ts) :=
 av.pack (ps:=[]) c hs λ_ _ _=>⟨A,r,nd,λa ha=>.inr (fr a ha)⟩
theorem av.pE(c:av B F H σ δ ts)(hp:H p=none)(s:S F H xs vs)(pl:xs.all D.pl=true):av B F (upd H p (.lst vs)) σ δ ((.lst true xs,.ref p)::ts) :=
 c.FN (af.upd hp) (A:=[p]) (by simpa using R.own bQ (c.ext.free hp) ((s.r pl).shared (af.refl _) (af.upd hp)) .nil) (by simp) (by simp[hp])
theorem av.c54(c:av B F H σ δ (ps++ts))(hp:H p=none):av B F (upd H p (.lst (ps.map (·.2)))) σ δ ((.lst true (ps.map (·.1)),.ref p)::ts):=by
 refine c.pack (af.upd hp) λA1 r nd=>⟨p::A1,by simpa using R.own bQ (c.ext.free hp) r .nil,jJ.mpr ⟨λh=>?_,nd⟩,λa ha=>?_⟩
 ·obtain⟨A,C,r0,_,_,_⟩:=c.own
  rw[fh,fh]at r0
  obtain⟨v1,v2,B1,B2,e,rfl,h1,h2⟩:=R.split r0
  have l1:(ps.map (·.2)).length=v1.length:=by rw[<-h1.length];simp
  obtain⟨rfl,rfl⟩:=Et e l1
  have g1:=h1.grow (af.refl F) (af.upd (o:=.lst (ps.map (·.2))) hp) λa ha=>(h1.lists a ha).2
  have:A1=B1:=R.inj r g1
  subst this
  obtain⟨⟨_,q⟩,_⟩:=h1.lists p h
  rw[hp]at q;cases q
 ·rcases cA.mp ha with rfl | h
  ·exact .inr hp
  ·exact .inl h
theorem av.c55(c:av B F H σ δ (ps++ts))(hp:H p=none):av B F (upd H p (.tup (ps.map (·.2)))) σ δ ((.tup (ps.map (·.1)),.ref p)::ts) :=
 c.pack (af.upd hp) λA1 r nd=>⟨A1,by simpa using R.tup (F:=F) bQ r .nil,nd,λa ha=>.inl ha⟩
theorem av.perm(c:av B F H σ δ ps)(h:ps.Perm ts):av B F H σ δ ts:=by
 obtain⟨A,C,r,s,nd,fr⟩:=c.own
 obtain⟨A',r',p⟩:=r.perm h
 have pp:=p.append_right C
 exact⟨c.ext,c.b1,c.b2,c.b3,A',C,r',s,pp.nodup_iff.mp nd,λa ha=>fr a (pp.mem_iff.mpr ha)⟩
theorem av.move(c:av B F H σ δ ts)(e:δ[i]?=some (some d)):∃v,σ[i]?=some (some v)/\av B F H σ (δ.set i none) ((d,v)::ts):=by
 obtain⟨A,C,r,s,nd,fr⟩:=c.own
 obtain⟨v,A',C',e1,h1,h2,p⟩:=s.pick e
 have pp:(A++C).Perm ((A'++A)++C'):=by
  refine(p.append_left A).trans ?_
  rw[<-eC]
  exact m3.append_right _
 exact⟨v,e1,c.ext,c.b1,c.b2,c.b3,A'++A,C',h1.cons r,h2,pp.nodup_iff.mp nd,λa ha=>fr a (pp.mem_iff.mpr ha)⟩
theorem av.forget(c:av B F H σ δ ts)(i:Nat):av B F H σ (δ.set i none) ts:=by
 obtain⟨A,C,r,s,nd,fr⟩:=c.own
 obtain⟨C',h,sb⟩:=s.drop i
 exact⟨c.ext,c.b1,c.b2,c.b3,A,C',r,h,nd.sublist ((MK A).append sb),λa ha=>fr a (((MK A).append sb).subset ha)⟩
theorem av.fill(c:av B F H σ δ ((d,v)::ts))(e:δ[i]?=some none)(e2:σ[i]?=some (some v)):av B F H σ (δ.set i (some d)) ts:=by
 obtain⟨A,C,r,s,nd,fr⟩:=c.own
 obtain⟨w,bX,A1,A2,e',rfl,h1,h2⟩:=R.cY r
 obtain⟨rfl,rfl⟩:=mZ e'
 obtain⟨C',s',p⟩:=s.fill e e2 h1
 have pp:((A1++A2)++C).Perm (A2++C'):=by
  refine((m3 (l₁:=A1) (l₂:=A2)).append_right C).trans ?_
  rw[eC]
  exact(p.symm).append_left A2
 exact⟨c.ext,c.b1,c.b2,c.b3,A2,C',h2,s',pp.nodup_iff.mp nd,λa ha=>fr a (pp.mem_iff.mpr ha)⟩
theorem av.xG(c:av B F H σ δ ts)(o:Option V)(e:δ[i]?=some none\/δ[i]?=none):av B F H (σ.set i o) δ ts:=by
 obtain⟨A,C,r,s,nd,fr⟩:=c.own
 exact⟨c.ext,c.b1,c.b2,c.b3,A,C,r,s.xG o e,nd,fr⟩
theorem av.store(c:av B F H σ δ ((d,v)::ts))(i:Nat):av B F H (σ.set i (some v)) (δ.set i (some d)) ts:=by
 by_cases hi:i<δ.length
 ·have c1:=c.forget i
  have hs:i<σ.length:=by rw[<-c.len];exact hi
  have e:(δ.set i none)[i]?=some none:=by simp[hi]
  have c2:=(c1.xG (some v) (.inl e)).fill (i:=i) e (by simp[hs])
  rwa [Eu]at c2
 ·have hs:¬ i<σ.length:=by rw[<-c.len];exact hi
  rw[Yb (by omega),Yb (by omega)]
  exact c.pop
theorem av.mut(c:av B F H σ δ (ps++ts))(e:δ[i]?=some (some (.lst true xs)))(e2:σ[i]?=some (some (.ref p)))
  (k:∀ws A1 A2,H p=some (.lst ws)->R F H xs ws A1->R F H (ps.map (·.1)) (ps.map (·.2)) A2->(A1++A2).Nodup->∃A',R F H ys vs A'/\A'.Nodup/\∀a∈A',a∈A1++A2) :
  av B F (upd H p (.lst vs)) σ (δ.set i (some (.lst true ys))) ts:=by
 have hi:i<δ.length:=(jI.mp e).1
 obtain⟨v,e3,c1⟩:=c.move e
 rw[e2]at e3;cases e3
 obtain⟨A,C,r,s,nd,fr⟩:=c1.own
 have r':R F H (([.lst true xs]++ps.map (·.1))++ts.map (·.1)) ((.ref p::ps.map (·.2))++ts.map (·.2)) A:=by simpa using r
 obtain⟨v1,v2,A1,A2,e4,rfl,h1,h2⟩:=R.split r'
 have l1:(V.ref p::ps.map (·.2)).length=v1.length:=by rw[<-h1.length];simp
 obtain⟨rfl,rfl⟩:=Et e4 l1
 obtain⟨p',FP,B1,B2,ep,hH,hF,hx,hr,rfl⟩:=h1.rv
 cases ep
 ·skip
  rw[eC]at nd fr
  obtain⟨n1,n2,n3⟩:=iZ.mp nd
  obtain⟨m1,m2⟩:=jJ.mp n1
  obtain⟨A',ra,nda,sub⟩:=k FP B1 B2 hH hx hr m2
  have pA:p ∉ A':=λz=>m1 (sub _ z)
  have pR:p ∉ A2++C:=λz=>n3 p (by simp) z
  have but:gw [p] H (upd H p (.lst vs)):=⟨λa o q z _=>by rw[bo (by simpa using z)];exact q⟩
  have hl:gX [p] H:=λa ha=>by rw[fW.mp ha];exact⟨_,hH⟩
  have g1:=ra.keep (af.refl F) but hl (λa ha=>(ra.lists a ha).2) λa ha z=>pA (by rw[<-fW.mp z];exact ha)
  have g2:=h2.keep (af.refl F) but hl (λa ha=>(h2.lists a ha).2) λa ha z=>pR (by rw[<-fW.mp z];exact fE _ ha)
  have gs:=s.keep (af.refl F) but hl (λa ha=>(s.lists a ha).2) λa ha z=>pR (by rw[<-fW.mp z];exact df _ ha)
  have fp:B.H0 p=none:=fr p (by simp)
  have b1:af B.H0 (upd H p (.lst vs)):=⟨λa o q n=>by
   rw[bo (λz=>by rw[z,fp]at q;cases q)]
   exact c1.b1.get a o q n,λa ps q=>by
   rw[bo (λz=>by rw[z,fp]at q;cases q)]
   exact c1.b1.tb a ps q⟩
  have ext:af F (upd H p (.lst vs)):=⟨λa o q n=>by
   rw[bo (λz=>by rw[z,hF]at q;cases q)]
   exact c1.ext.get a o q n,λa ps q=>by
   rw[bo (λz=>by rw[z,hF]at q;cases q)]
   exact c1.ext.tb a ps q⟩
  have c2:av B F (upd H p (.lst vs)) σ (δ.set i none) ((.lst true ys,.ref p)::ts):=by
   refine⟨ext,b1,c1.b2,c1.b3,(p::A')++A2,C,R.cons (by simpa using R.own bQ hF g1 .nil) g2,gs,?_,?_⟩
   ·rw[eC]
    refine iZ.mpr ⟨jJ.mpr ⟨pA,nda⟩,n2,λa ha hb=>?_⟩
    rcases cA.mp ha with rfl | ha
    ·exact pR hb
    ·exact n3 a (gE _ (sub a ha)) hb
   ·intro a ha
    rw[eC]at ha
    rcases cE.mp ha with z | z
    ·rcases cA.mp z with rfl | z
     ·exact fp
     ·exact fr a (fE _ (gE _ (sub a z)))
    ·exact fr a (df _ z)
  have c3:=c2.fill (i:=i) (by simp[hi]) e2
  rwa [Eu]at c3
theorem av.FQ(c:av B F H σ δ ((d,v)::ts)):∃F',af F F'/\av B F' H σ δ ((d.sh,v)::ts):=by
 obtain⟨A,C,r,s,nd,fr⟩:=c.own
 obtain⟨w,bX,A1,A2,e',rfl,h1,h2⟩:=R.cY r
 obtain⟨rfl,rfl⟩:=mZ e'
 rw[eC]at nd fr
 obtain⟨n1,n2,n3⟩:=iZ.mp nd
 have out:∀a∈A2++C,bx F H A1 a=F a:=λa ha=>pB λz=>n3 a z ha
 have b3:∀a o,bx F H A1 a=some (.lst o)->B.F0 a=some (.lst o)\/B.H0 a=none:=λa o q=>by
  by_cases z:a∈A1
  ·exact .inr (fr a (fE _ z))
  ·rw[pB z]at q;exact c.b3 a o q
 refine⟨bx F H A1,iE c.ext,nE c.ext,c.b1,c.b2.trans (iE c.ext),b3,A2,C,?_,?_,n2,λa ha=>fr a (df _ ha)⟩
 ·have g1:=h1.bx c.ext A1 (λ_ h=>h)
  exact R.cons (A:=[]) g1 (h2.keep (iE c.ext) (gw.same (af.refl H)) gX.nil (λa ha=>by rw[out a (fE _ ha)];exact(h2.lists a ha).2) (by simp))
 ·exact s.keep (iE c.ext) (gw.same (af.refl H)) gX.nil (λa ha=>by rw[out a (df _ ha)];exact(s.lists a ha).2) (by simp)
theorem av.freeze(c:av B F H σ δ ts)(e:δ[i]?=some (some d)):∃F',af F F'/\av B F' H σ (δ.set i (some d.sh)) ts:=by
 have hi:i<δ.length:=(jI.mp e).1
 obtain⟨v,e2,c1⟩:=c.move e
 obtain⟨F',s,c2⟩:=c1.FQ
 refine⟨F',s,?_⟩
 have c3:=c2.fill (i:=i) (by simp[hi]) e2
 rwa [Eu]at c3
theorem av.rebase(c:av B F H σ δ ts):av ⟨B.H0,F⟩ F H σ δ ts:=⟨c.ext,c.b1,af.refl _,λ_ _ q=>.inl q,c.own⟩
theorem av.c57{F1:Hp}(c:av ⟨B.H0,F1⟩ F H σ δ ts)(h:af B.F0 F1)(h3:∀a ws,F1 a=some (.lst ws)->B.F0 a=some (.lst ws)\/B.H0 a=none):av B F H σ δ ts :=
 ⟨c.ext,c.b1,h.trans c.b2,λa o q=>(c.b3 a o q).elim (h3 a o) .inr,c.own⟩
theorem av.call(c:av B F H σ δ ts)(hs:af H H')(hf:af F F')(he:af F' H')(h3:∀a ws,F' a=some (.lst ws)->F a=some (.lst ws)\/H a=none)(r:R F' H' [d] [v] A)(nd:A.Nodup)(fr:∀a∈A,H a=none) :
  av B F' H' σ δ ((d,v)::ts):=by
 obtain⟨A0,C,r0,s,nd0,fr0⟩:=c.own
 have no:∀a,(∃ws,H a=some (.lst ws))/\F a=none->F' a=none:=λa zz=>by
  obtain⟨⟨ws,e⟩,n⟩:=zz
  cases q:F' a with
  | none=>rfl
  | some o =>
   have q2:H' a=some o:=by
    cases n:jx o with
    | true=>exact he.get a o q n
    | false =>
     obtain⟨ps,rfl⟩:=FH n
     obtain⟨m,z⟩:=he.tb a ps q
     rw[hs a _ e]at z
     cases z
   rw[hs a _ e]at q2
   cases q2
   rcases h3 a ws q with z | z
   ·rw[n]at z;cases z
   ·rw[e]at z;cases z
 refine⟨he,c.b1.trans hs,c.b2.trans hf,λa o q=>(h3 a o q).elim (c.b3 a o) λz=>.inr (c.b1.free z),A++A0,C,R.cons r (r0.grow hf hs λa ha=>no a (r0.lists a ha)),
  s.keep hf (gw.same hs) gX.nil (λa ha=>no a (s.lists a ha)) (by simp),?_,?_⟩
 ·rw[eC]
  refine iZ.mpr ⟨nd,nd0,λa ha hb=>?_⟩
  have z:=fr a ha
  rcases cE.mp hb with y | y
  ·obtain⟨⟨_,q⟩,_⟩:=r0.lists a y;rw[z]at q;cases q
  ·obtain⟨⟨_,q⟩,_⟩:=s.lists a y;rw[z]at q;cases q
 ·intro a ha
  rw[eC]at ha
  rcases cE.mp ha with y | y
  ·exact c.b1.free (fr a y)
  ·exact fr0 a y
theorem av.inS(c:av B F H σ δ ((d,v)::ts)):av B F H (some v::σ) (some d::δ) ts:=by
 obtain⟨A,C,r,s,nd,fr⟩:=c.own
 obtain⟨w,bX,A1,A2,e',rfl,h1,h2⟩:=R.cY r
 obtain⟨rfl,rfl⟩:=mZ e'
 have pp:((A1++A2)++C).Perm (A2++(A1++C)):=by
  rw[<-eC];exact m3.append_right C
 exact⟨c.ext,c.b1,c.b2,c.b3,A2,A1++C,h2,.dW h1 s,pp.nodup_iff.mp nd,λa ha=>fr a (pp.mem_iff.mpr ha)⟩
theorem av.c61{w:V}(c:av B F H (some w::σ) (some d::δ) ts):av B F H σ δ ((d,w)::ts):=by
 obtain⟨A,C,r,s,nd,fr⟩:=c.own
 cases s with
 | @dW _ _ A1 _ _ C1 h1 s =>
  have pp:(A++(A1++C1)).Perm ((A1++A)++C1):=by
   rw[<-eC];exact m3.append_right C1
  exact⟨c.ext,c.b1,c.b2,c.b3,A1++A,C1,R.cons h1 r,s,pp.nodup_iff.mp nd,λa ha=>fr a (pp.mem_iff.mpr ha)⟩
theorem av.c62(c:av B F H σ δ ((d,v)::(.lst true xs,.ref p)::ts))(hp:H p=some (.lst ws)):av B F (upd H p (.lst (ws++[v]))) σ δ ((.lst true (xs++[d]),.ref p)::ts):=by
 have c1:=(c.perm (List.Perm.swap _ _ _)).inS
 refine(av.mut (ps:=[(d,v)]) (i:=0) (ys:=xs++[d]) (vs:=ws++[v]) c1 rfl rfl λgY A1 A2 h r1 r2 nd=>?_).c61
 rw[hp]at h;cases h
 exact⟨A1++A2,r1.append r2,nd,λa ha=>ha⟩
theorem av.app(c:av B F H σ δ ((d,v)::ts))(e:δ[i]?=some (some (.lst true xs)))(e2:σ[i]?=some (some (.ref p)))(hp:H p=some (.lst ws)) :
  av B F (upd H p (.lst (ws++[v]))) σ (δ.set i (some (.lst true (xs++[d])))) ts :=
 av.mut (ps:=[(d,v)]) c e e2 λgY A1 A2 h r1 r2 nd=>by
  rw[hp]at h;cases h
  exact⟨A1++A2,r1.append r2,nd,λa ha=>ha⟩
theorem R.OM:∀{xs:List D} {ws:List V} {A1 A2:List Addr} (j:Nat),R F H xs ws A1->R F H [d] [v] A2->(A1++A2).Nodup->∃A',R F H (xs.set j d) (ws.set j v) A'/\A'.Nodup/\∀a∈A',a∈A1++A2
 | [],_,A1,A2,j,r,q,nd=>by cases r;exact⟨[],.nil,by simp,by simp⟩
 | x::xs,_,A1,A2,j,r,q,nd=>by
  obtain⟨w,gY,B1,B2,rfl,rfl,h1,h2⟩:=r.cY
  rw[eC]at nd
  obtain⟨n1,n2,n3⟩:=iZ.mp nd
  cases j with
  | zero =>
   refine⟨A2++B2,q.cons h2,(m3 (l₁:=B2) (l₂:=A2)).nodup_iff.mp n2,λa ha=>?_⟩
   simp only[cE]at ha ⊢
   rcases ha with z | z
   ·exact .inr z
   ·exact .inl (.inr z)
  | succ j =>
   obtain⟨A',r',FL,sub⟩:=R.OM j h2 q n2
   refine⟨B1++A',h1.cons r',iZ.mpr ⟨n1,FL,λa ha hb=>n3 a ha (sub a hb)⟩,λa ha=>?_⟩
   rcases cE.mp ha with z | z
   ·simp[z]
   ·have:=sub a z
    simp only[cE]at this ⊢
    rcases this with z | z
    ·exact .inl (.inr z)
    ·exact .inr z
theorem av.c63(c:av B F H σ δ ((d,v)::ts))(e:δ[i]?=some (some (.lst true xs)))(e2:σ[i]?=some (some (.ref p)))(hp:H p=some (.lst ws))(j:Nat) :
  av B F (upd H p (.lst (ws.set j v))) σ (δ.set i (some (.lst true (xs.set j d)))) ts :=
 av.mut (ps:=[(d,v)]) c e e2 λgY A1 A2 h r1 r2 nd=>by
  rw[hp]at h;cases h
  exact r1.OM j r2 nd
theorem av.ownAt(c:av B F H σ δ ts)(e:δ[i]?=some (some (.lst true xs))):∃p ws,σ[i]?=some (some (.ref p))/\H p=some (.lst ws)/\xs.length=ws.length:=by
 obtain⟨v,e1,s⟩:=c.look e
 cases s with
 | own h x _=>exact⟨_,_,e1,h,x.length⟩
theorem RS.start{ds:List D}{vs:List V}(r:R F H ds vs [])(n:Nat):RS F H (ds.map some++aQ n none) (vs.map some++aQ n none) []:=by
 have z:∀n,RS F H (aQ n none) (aQ n none) []:=λn=>by
  induction n with
  | zero=>exact .nil
  | succ n ih=>exact .ax ih
 have:∀(ds:List D) (vs:List V),R F H ds vs []->RS F H (ds.map some++aQ n none) (vs.map some++aQ n none) []:=by
  intro ds
  induction ds with
  | nil=>intro vs r;cases r;exact z n
  | cons d ds ih =>
   intro vs r
   obtain⟨v,bX,A1,A2,rfl,e,h1,h2⟩:=r.cY
   obtain⟨rfl,rfl⟩:=qw.mp e.symm
   exact .dW (A:=[]) h1 (ih _ h2)
 exact this ds vs r
theorem av.start{ds:List D}{vs:List V}(e:af F H)(r:R F H ds vs [])(n:Nat):av ⟨H,F⟩ F H (vs.map some++aQ n none) (ds.map some++aQ n none) [] :=
 ⟨e,af.refl _,af.refl _,λ_ _ q=>.inl q,[],[],.nil,RS.start r n,by simp,by simp⟩
theorem av.snap(c:av B F H σ δ ts):av B (L3.snap F H) H σ δ ts:=by
 obtain⟨A,C,r,s,nd,fr⟩:=c.own
 have no:∀a,(∃ws,H a=some (.lst ws))/\F a=none->L3.snap F H a=none:=λa ⟨⟨ws,e⟩,n⟩=>b04 e n
 exact⟨cg7 c.ext,c.b1,c.b2.trans (q8 c.ext),λa ws q=>c.b3 a ws (b58 c.ext q),A,C,r.grow (q8 c.ext) (af.refl _) λa ha=>no a (r.lists a ha),
  s.keep (q8 c.ext) (gw.same (af.refl _)) gX.nil (λa ha=>no a (s.lists a ha)) (by simp),nd,fr⟩
end
end L3
namespace L3
open PySem L2 PySem.Spec PyProof.Rows
noncomputable abbrev aS:=Dl->(D->Dl->Prop)->Prop
noncomputable abbrev fX:=Dl->(Bool->Dl->Prop)->Prop
noncomputable abbrev cU:=Dl->(List D->Dl->Prop)->Prop
structure um where
 nx:Dl->Prop
 rt:D->Prop
 bk:Dl->Prop:=λ_=>False
 ct:Dl->Prop:=λ_=>False
 xc:Addr->Dl->Prop:=λ_ _=>False
 xr:Addr->Dl->Prop:=λ_ _=>False
noncomputable abbrev dO:=um->Dl->Prop
noncomputable def lE(t:aS):TE:=λσ H Q=>∃B F δ ts Qd,av B F H σ δ ts/\t δ Qd/\∀d ah v F' H',Qd d ah->af F F'->af H H'->av B F' H' σ ah ((d,v)::ts)->Q v H'
noncomputable def lB(t:aS):TE:=λσ H Q=>∃B F δ ts Qd,av B F H σ δ ts/\t δ Qd/\∀d ah v F' H',Qd d ah->af F F'->af H H'->av B F' H' σ ah ts->S F' H' [d] [v]->Q v H'
noncomputable def lT(t:fX):TT:=λσ H Q=>∃B F δ ts Qd,av B F H σ δ ts/\t δ Qd/\∀b ah F' H',Qd b ah->af F F'->af H H'->av B F' H' σ ah ts->Q b H'
noncomputable def lA(t:cU):TA:=λσ H Q=>∃B F δ ts Qd,av B F H σ δ ts/\t δ Qd/\∀ds ah vs F' H',Qd ds ah->af F F'->af H H'->av B F' H' σ ah ts->S F' H' ds vs->Q vs H'
noncomputable def lO(t:cU):TA:=λσ H Q=>∃B F δ ts Qd,av B F H σ δ ts/\t δ Qd/\∀(ps:List (D × V)) ah F' H',Qd (ps.map (·.1)) ah->af F F'->af H H'->av B F' H' σ ah (ps++ts)->Q (ps.map (·.2)) H'
noncomputable def XL(X:Cx)(B:Bs)(Dd:um):Prop :=
 (∀C ah pins aR F' H' s' a T,Dd.xc C ah->av B F' H' aR ah []->Inv X pins aR H' s'->Trc s'.heap a T (.ref C)->Apart X pins H' a->Apart X pins H' T->X.xe (.ref a) s') /\
 (∀C ah pins aR F' H' s' h' e vs,Dd.xr C ah->av B F' H' aR ah []->Inv X pins aR H' s'->Heap.MadeExcOf s'.heap h' e (.ref C) vs->X.xe (.ref e) { s' with heap:=h' })
theorem XL.none{X:Cx}{B:Bs}{Dd:um}(h1:∀C δ,¬ Dd.xc C δ)(h2:∀C δ,¬ Dd.xr C δ):XL X B Dd:=⟨λC δ _ _ _ _ _ _ _ h=>absurd h (h1 C δ),λC δ _ _ _ _ _ _ _ _ h=>absurd h (h2 C δ)⟩
noncomputable def lS(X:Cx)(t:dO):TS:=λD σ H=>∃B F δ Dd,av B F H σ δ []/\t Dd δ/\(∀ah aR F' H',Dd.nx ah->av B F' H' aR ah []->D.nx aR H')/\(∀d v ah aR F' H',Dd.rt d->av B F' H' aR ah [(d,v)]->D.rt v H') /\
 (∀ah aR F' H',Dd.bk ah->av B F' H' aR ah []->D.bk aR H')/\(∀ah aR F' H',Dd.ct ah->av B F' H' aR ah []->D.ct aR H')/\XL X B Dd
section
variable{X:Cx}{e a b c:Expr}{es:List Expr}{pos:Pos}{st:Stmt}{xH:List Stmt}
theorem dP{t t':TE}(h:PE X e t)(m:∀σ H Q,t' σ H Q->t σ H Q):PE X e t':=λpins s σ H Q I q=>h pins s σ H Q I (m σ H Q q)
theorem FR{t t':TT}(h:PT X e t)(m:∀σ H Q,t' σ H Q->t σ H Q):PT X e t':=λpins s σ H Q I q=>h pins s σ H Q I (m σ H Q q)
theorem ON{t t':TT}(h:PW X e t)(m:∀σ H Q,t' σ H Q->t σ H Q):PW X e t':=λwh pins s σ H Q I q=>h wh pins s σ H Q I (m σ H Q q)
theorem xI{t t':TA}(h:PA X es t)(m:∀σ H Q,t' σ H Q->t σ H Q):PA X es t':=λp pins s σ H Q I q=>h p pins s σ H Q I (m σ H Q q)
theorem ki{t t':TS}(h:PS X st t)(m:∀D σ H,t' D σ H->t D σ H):PS X st t':=λpins s σ H D I q=>h pins s σ H D I (m D σ H q)
theorem FT{t t':TS}(h:PSs X xH t)(m:∀D σ H,t' D σ H->t D σ H):PSs X xH t':=λpins s σ H D I q=>h pins s σ H D I (m D σ H q)
variable{t u ta tb tc:aS}
theorem ae(h:PE X e (lE t)):PE X e (lB t):=dP h λσ H Q zq=>by
 obtain⟨B,F,δ,ts,Qd,c,q,k⟩:=zq
 exact⟨B,F,δ,ts,Qd,c,q,λd ah v F' H' hd sf sh c'=>k d ah v F' H' hd sf sh c'.pop c'.top⟩
noncomputable def q9(t:aS):aS:=λδ Q=>t δ λd ah=>d.pl=true/\Q d ah
theorem da(h:PE X e (lB t)):PE X e (lE (q9 t)):=dP h λσ H Q zq=>by
 obtain⟨B,F,δ,ts,Qd,c,q,k⟩:=zq
 exact⟨B,F,δ,ts,_,c,q,λd ah v F' H' hd sf sh c' s=>k d ah v F' H' hd.2 sf sh (c'.pushS s hd.1)⟩
noncomputable def pF(i:Nat):aS:=λδ Q=>match δ[i]? with
 | some (some d)=>Q d δ
 | _=>False
noncomputable def pG(i:Nat):aS:=λδ Q=>match δ[i]? with
 | some (some d)=>Q d (δ.set i none)
 | _=>False
theorem cr1{i:Nat}{δ:Dl}{Q:D->Dl->Prop}(h:pF i δ Q):∃d,δ[i]?=some (some d)/\Q d δ:=by
 unfold pF at h
 split at h
 ·rename_i d e;exact⟨d,e,h⟩
 ·exact h.elim
theorem cd4{i:Nat}{δ:Dl}{Q:D->Dl->Prop}(h:pG i δ Q):∃d,δ[i]?=some (some d)/\Q d (δ.set i none):=by
 unfold pG at h
 split at h
 ·rename_i d e;exact⟨d,e,h⟩
 ·exact h.elim
noncomputable def dC(d:D):aS:=λδ Q=>Q d δ
theorem bv(i:Nat){x:Str}(hN:X.N[i]?=some x:=by rfl)(hv:m9 X.env.scope x:=by first | exact ay rfl | exact bW (ay rfl) | exact bW (bW rfl))(hd:(x==("__debug__":Str))=false:=by decide)
  (dh:(x==("__classdict__":Str))=false:=by decide):PE X (.Name x pos) (lB (pF i)):=dP (tX hN hv hd dh) λσ H Q zq=>by
 obtain⟨B,F,δ,ts,Qd,c,q,k⟩:=zq
 obtain⟨d,e,q⟩:=cr1 q
 obtain⟨v,e1,s⟩:=c.look e
 exact⟨v,e1,k d δ v F H q (af.refl _) (af.refl _) c s⟩
theorem em(i:Nat){x:Str}(hN:X.N[i]?=some x:=by rfl)(hv:m9 X.env.scope x:=by first | exact ay rfl | exact bW (ay rfl) | exact bW (bW rfl))(hd:(x==("__debug__":Str))=false:=by decide)
  (dh:(x==("__classdict__":Str))=false:=by decide):PE X (.Name x pos) (lE (pG i)):=dP (tX hN hv hd dh) λσ H Q zq=>by
 obtain⟨B,F,δ,ts,Qd,c,q,k⟩:=zq
 obtain⟨d,e,q⟩:=cd4 q
 obtain⟨v,e1,c'⟩:=c.move e
 exact⟨v,e1,k d _ v F H q (af.refl _) (af.refl _) c'⟩
theorem FU{B:Bs}{F H:Hp}{σ:L2.St}{δ:Dl}{ts:List (D × V)}{Qd:D->Dl->Prop}{Q:VK}{d:D}{v:V}(c:av B F H σ δ ts)(q:Qd d δ)(s:S F H [d] [v])(p:d.pl=true)
  (k:∀d ah v F' H',Qd d ah->af F F'->af H H'->av B F' H' σ ah ((d,v)::ts)->Q v H'):Q v H:=k d δ v F H q (af.refl _) (af.refl _) (c.pushS s p)
theorem ak{i j}:PE X (.Constant (.int i) j pos) (lE (dC (.int i))):=dP qH λσ H Q ⟨B,F,δ,ts,Qd,c,q,k⟩=>FU c q (.int .nil) rfl k
theorem jQ{i j}:PE X (.Constant (.bool i) j pos) (lE (dC (.bl i))):=dP YL λσ H Q ⟨B,F,δ,ts,Qd,c,q,k⟩=>FU c q (.bl .nil) rfl k
theorem FV{j}:PE X (.Constant .none j pos) (lE (dC .ax)):=dP YM λσ H Q ⟨B,F,δ,ts,Qd,c,q,k⟩=>FU c q (.ax .nil) rfl k
noncomputable abbrev cV:=D->D->(D->Prop)->Prop
noncomputable def Bt(r:R2)(rd:cV):Prop:=∀{B:Bs} {F H:Hp} {σ:L2.St} {δ:Dl} {ts:List (D × V)} {x y:D} {v w:V} {Q:VK} {Qd:D->Prop},av B F H σ δ ts->S F H [x] [v]->S F H [y] [w]->rd x y Qd ->
 (∀d z H',Qd d->af H H'->av B F H' σ δ ((d,z)::ts)->Q z H')->r v w H Q
noncomputable def bV(X:Cx)(f:Value->Value->Sem Value)(rd:cV):Prop:=∃r,cP X f r/\Bt r rd
theorem bV.or{f:Value->Value->Sem Value}{r1 r2:cV}(h1:bV X f r1)(h2:bV X f r2):bV X f λx y Q=>r1 x y Q\/r2 x y Q:=by
 obtain⟨q1,a1,b1⟩:=h1
 obtain⟨q2,a2,b2⟩:=h2
 refine⟨_,a1.or a2,λ{B F H σ δ ts x y v w Q Qd} c sx sy h k=>?_⟩
 rcases h with h | h
 ·exact .inl (b1 c sx sy h k)
 ·exact .inr (b2 c sx sy h k)
theorem bV.imp{f:Value->Value->Sem Value}{r1 r2:cV}(h1:bV X f r1)(h:∀x y Q,r2 x y Q->r1 x y Q):bV X f r2:=by
 obtain⟨q1,a1,b1⟩:=h1
 exact⟨q1,a1,λ{B F H σ δ ts x y v w Q Qd} c sx sy h2 k=>b1 c sx sy (h _ _ _ h2) k⟩
noncomputable def nF(rd:cV)(ta tb:aS):aS:=λδ Q=>ta δ λx ao=>tb ao λy br=>rd x y λd=>Q d br
theorem FW{r:R2}{rd:cV}(hl:Bt r rd):∀σ H Q,lE (nF rd ta tb) σ H Q->xj r (lB ta) (lB tb) σ H Q:=λσ H Q ⟨B,F,δ,ts,Qd,c,q,k⟩ =>
 ⟨B,F,δ,ts,_,c,q,λx ao v F1 H1 q1 f1 h1 c1 s1=>⟨B,F1,ao,ts,_,c1,q1,λy br w F2 H2 q2 f2 h2 c2 s2 =>
  hl c2 (s1.mono f2 h2) s2 q2 λd z H' hd hs c3=>k d br z F2 H' hd (f1.trans f2) ((h1.trans h2).trans hs) c3⟩⟩
theorem az{op:Operator}{rd:cV}(ho:bV X (binaryOp op) rd)(ha:PE X a (lB ta))(hb:PE X b (lB tb)):PE X (.BinOp a op b pos) (lE (nF rd ta tb)):=by
 obtain⟨r,h1,h2⟩:=ho
 exact dP (xk h1 ha hb) (FW h2)
theorem rh{op:CmpOp}{rd:cV}(ho:bV X (compareOp op) rd)(ha:PE X a (lB ta))(hb:PE X b (lB tb))(hm:behindInMarks op b=false):PE X (.Compare a [op] [b] pos) (lE (nF rd ta tb)):=by
 obtain⟨r,h1,h2⟩:=ho
 exact dP (ZO h1 ha hb hm) (FW h2)
noncomputable def dT(t:aS):fX:=λδ Q=>t δ λd ah=>∃k,d=.bl k/\Q k ah
theorem cf3{te:TE}(h:∀σ H Q,lE t σ H Q->te σ H Q):∀σ H Q,lT (dT t) σ H Q->NC te σ H Q:=λσ H Q zz=>by
 obtain⟨B,F,δ,ts,Qd,c,q,k⟩:=zz
 refine h σ H _ ⟨B,F,δ,ts,_,c,q,λd ah v F' H' hd sf sh c'=>?_⟩
 obtain⟨b,rfl,qb⟩:=hd
 have s:=c'.top
 cases s with
 | bl _=>exact⟨b,rfl,k b ah F' H' qb sf sh c'.pop⟩
theorem b9{op:CmpOp}{rd:cV}(ho:bV X (compareOp op) rd)(ha:PE X a (lB ta))(hb:PE X b (lB tb))(hm:behindInMarks op b=false):PT X (.Compare a [op] [b] pos) (lT (dT (nF rd ta tb))):=by
 obtain⟨r,h1,h2⟩:=ho
 exact FR (E5 h1 ha hb hm) (cf3 (FW h2))
noncomputable def rj(r r':cV)(ta tb tc:aS):aS:=λδ Q=>ta δ λx ao=>tb ao λy br=>r x y λd=>∃k,d=.bl k/\if k=true then tc br λz i5=>r' y z λd'=>Q d' i5 else Q (.bl false) br
theorem jR(h:PE X e (lB t))(he:∀whole,isTrue e X.env whole=(do let v<-whole;standAt e.pos;holding [v] (truthy v)):=by intro _;rfl):PT X e (lT (dT t)) :=
 FR (AU h he) λσ H Q zq=>by
 obtain⟨B,F,δ,ts,Qd,c,q,k⟩:=zq
 exact⟨B,F,δ,ts,_,c,q,λd ah v F' H' hd sf sh c' s=>by
  obtain⟨b,rfl,qb⟩:=hd
  cases s with
  | bl _=>exact⟨b,rfl,k b ah F' H' qb sf sh c'⟩⟩
variable{tA tB:fX}{rest:List Expr}
noncomputable def uo(t u:fX):fX:=λδ Q=>t δ λc ao=>if c=true then u ao Q else Q false ao
noncomputable def uq(t u:fX):fX:=λδ Q=>t δ λc ao=>if c=true then Q true ao else u ao Q
noncomputable def ur(t:fX):fX:=λδ Q=>t δ λc ao=>Q (!c) ao
theorem OO(ha:PT X a (lT tA))(hb:PW X (.BoolOp .And (b::rest) pos) (lT tB)):PW X (.BoolOp .And (a::b::rest) pos) (lT (uo tA tB)) :=
 ON (YT ha hb) λσ H Q zq=>by
 obtain⟨B,F,δ,ts,Qd,c,q,k⟩:=zq
 exact⟨B,F,δ,ts,_,c,q,λb ao F1 H1 q1 f1 h1 c1=>by
  cases b with
  | true=>exact ph ⟨B,F1,ao,ts,Qd,c1,by simpa using q1,λb ah F' H' hd sf sh c'=>k b ah F' H' hd (f1.trans sf) (h1.trans sh) c'⟩
  | false=>exact iW (k false ao F1 H1 (by simpa using q1) f1 h1 c1)⟩
theorem nG(ha:PT X a (lT tA))(hb:PW X (.BoolOp .Or (b::rest) pos) (lT tB)):PW X (.BoolOp .Or (a::b::rest) pos) (lT (uq tA tB)) :=
 ON (Nq ha hb) λσ H Q zq=>by
 obtain⟨B,F,δ,ts,Qd,c,q,k⟩:=zq
 exact⟨B,F,δ,ts,_,c,q,λb ao F1 H1 q1 f1 h1 c1=>by
  cases b with
  | true=>exact ph (k true ao F1 H1 (by simpa using q1) f1 h1 c1)
  | false=>exact iW ⟨B,F1,ao,ts,Qd,c1,by simpa using q1,λb ah F' H' hd sf sh c'=>k b ah F' H' hd (f1.trans sf) (h1.trans sh) c'⟩⟩
theorem uu(ha:PT X a (lT tA)):PT X (.UnaryOp .Not a pos) (lT (ur tA)) :=
 FR (AW ha) λσ H Q zq=>by
 obtain⟨B,F,δ,ts,Qd,c,q,k⟩:=zq
 exact⟨B,F,δ,ts,_,c,q,λb ao F1 H1 q1 f1 h1 c1=>k _ ao F1 H1 q1 f1 h1 c1⟩
noncomputable def uv(ta tb:aS):aS:=λδ Q=>ta δ λx ao=>∃c,x=.bl c/\if c=true then tb ao Q else Q (.bl false) ao
noncomputable def uw(ta:aS):aS:=λδ Q=>ta δ λx ao=>∃c,x=.bl c/\Q (.bl (!c)) ao
theorem pH(ha:PE X a (lB ta))(hb:PE X (.BoolOp .And (b::rest) pos) (lE tb)):PE X (.BoolOp .And (a::b::rest) pos) (lE (uv ta tb)) :=
 dP (YW ha hb) λσ H Q zq=>by
 obtain⟨B,F,δ,ts,Qd,c,q,k⟩:=zq
 exact⟨B,F,δ,ts,_,c,q,λd ao v F1 H1 q1 f1 h1 c1 s1=>by
  obtain⟨b,rfl,qb⟩:=q1
  cases s1 with
  | bl _ =>
   refine⟨b,rfl,?_⟩
   cases b with
   | true=>exact ph ⟨B,F1,ao,ts,Qd,c1,by simpa using qb,λd ah v F' H' hd sf sh c'=>k d ah v F' H' hd (f1.trans sf) (h1.trans sh) c'⟩
   | false=>exact iW (k _ ao _ F1 H1 (by simpa using qb) f1 h1 (c1.pushS (.bl .nil) rfl))⟩
theorem OP(ha:PE X a (lB ta)):PE X (.UnaryOp .Not a pos) (lE (uw ta)) :=
 dP (YX ha) λσ H Q zq=>by
 obtain⟨B,F,δ,ts,Qd,c,q,k⟩:=zq
 exact⟨B,F,δ,ts,_,c,q,λd ao v F1 H1 q1 f1 h1 c1 s1=>by
  obtain⟨b,rfl,qb⟩:=q1
  cases s1 with
  | bl _=>exact⟨b,rfl,k _ ao _ F1 H1 qb f1 h1 (c1.pushS (.bl .nil) rfl)⟩⟩
noncomputable def uz(t:fX)(ta tb:aS):aS:=λδ Q=>t δ λc ao=>if c=true then ta ao Q else tb ao Q
theorem cR8(hc:PT X c (lT tA))(ha:PE X a (lE ta))(hb:PE X b (lE tb)):PE X (.IfExp c a b pos) (lE (uz tA ta tb)) :=
 dP (YZ hc ha hb) λσ H Q zq=>by
 obtain⟨B,F,δ,ts,Qd,c,q,k⟩:=zq
 exact⟨B,F,δ,ts,_,c,q,λb ao F1 H1 q1 f1 h1 c1=>by
  cases b with
  | true=>exact ph ⟨B,F1,ao,ts,Qd,c1,by simpa using q1,λd ah v F' H' hd sf sh c'=>k d ah v F' H' hd (f1.trans sf) (h1.trans sh) c'⟩
  | false=>exact iW ⟨B,F1,ao,ts,Qd,c1,by simpa using q1,λd ah v F' H' hd sf sh c'=>k d ah v F' H' hd (f1.trans sf) (h1.trans sh) c'⟩⟩
noncomputable def rk:cU:=λδ Q=>Q [] δ
noncomputable def rl(t:aS)(r:cU):cU:=λδ Q=>t δ λd ao=>r ao λds br=>Q (d::ds) br
theorem aq:PA X [] (lA rk):=xI fw λσ H Q ⟨B,F,δ,ts,Qd,c,q,k⟩=>k [] δ [] F H q (af.refl _) (af.refl _) c .nil
variable{tr:cU}
theorem ag(ha:PE X e (lB t))(hr:PA X es (lA tr))(hs:starEach (e::es) X.env=(false,eval e X.env)::starEach es X.env:=by rfl):PA X (e::es) (lA (rl t tr)) :=
 xI (cm ha hr hs) λσ H Q zq=>by
 obtain⟨B,F,δ,ts,Qd,c,q,k⟩:=zq
 exact⟨B,F,δ,ts,_,c,q,λd ao v F1 H1 q1 f1 h1 c1 s1=>⟨B,F1,ao,ts,_,c1,q1,λds br vs F2 H2 q2 f2 h2 c2 s2 =>
  k (d::ds) br (v::vs) F2 H2 q2 (f1.trans f2) (h1.trans h2) c2 ((s1.mono f2 h2).cons s2)⟩⟩
theorem cN:PA X [] (lO rk):=xI fw λσ H Q ⟨B,F,δ,ts,Qd,c,q,k⟩=>k [] δ F H q (af.refl _) (af.refl _) c
theorem cB(ha:PE X e (lE t))(hr:PA X es (lO tr))(hs:starEach (e::es) X.env=(false,eval e X.env)::starEach es X.env:=by rfl):PA X (e::es) (lO (rl t tr)) :=
 xI (cm ha hr hs) λσ H Q zq=>by
 obtain⟨B,F,δ,ts,Qd,c,q,k⟩:=zq
 exact⟨B,F,δ,ts,_,c,q,λd ao v F1 H1 q1 f1 h1 c1=>⟨B,F1,ao,(d,v)::ts,_,c1,q1,λps br F2 H2 q2 f2 h2 c2 =>
  k ((d,v)::ps) br F2 H2 q2 (f1.trans f2) (h1.trans h2) (c2.perm (List.perm_middle))⟩⟩
noncomputable def rm(t:cU):aS:=λδ Q=>t δ λds ah=>ds.length<=sizeLine/\Q (.lst true ds) ah
noncomputable def uA(t:cU):aS:=λδ Q=>t δ λds ah=>ds.length<=sizeLine/\Q (.tup ds) ah
theorem dQ(h:PA X es (lO tr)):PE X (.List es pos) (lE (rm tr)) :=
 dP (NI h) λσ H Q zq=>by
 obtain⟨B,F,δ,ts,Qd,c,q,k⟩:=zq
 exact⟨B,F,δ,ts,_,c,q,λps ao F1 H1 q1 f1 h1 c1=>⟨by simpa using q1.1,λp hp=>k _ ao _ F1 _ q1.2 f1 (h1.trans (af.upd hp)) (c1.c54 hp)⟩⟩
theorem nH{x1}(h:PA X es (lO tr)):PE X (.Tuple es x1 pos) (lE (uA tr)) :=
 dP (ι h) λσ H Q zq=>by
 obtain⟨B,F,δ,ts,Qd,c,q,k⟩:=zq
 exact⟨B,F,δ,ts,_,c,q,λps ao F1 H1 q1 f1 h1 c1=>⟨by simpa using q1.1,λp hp=>k _ ao _ F1 _ q1.2 f1 (h1.trans (af.upd hp)) (c1.c55 hp)⟩⟩
end
end L3
namespace L3
open PySem L2 PySem.Spec PyProof.Rows
noncomputable abbrev aX:=List D->(D->Prop)->Prop
noncomputable def bf(sp:aX):Sp:=λvs H Q _=>∃F ds Qd,af F H/\R F H ds vs []/\sp ds Qd/\∀d v F' H' A,Qd d->af H H'->af F F'->af F' H'->(∀a ws,F' a=some (.lst ws)->F a=some (.lst ws)\/H a=none)->R F' H' [d] [v] A->A.Nodup->(∀a∈A,H a=none)->Q v H'
noncomputable def pI(sp:aX)(t:cU):aS:=λδ Q=>t δ λds ah=>sp (ds.map D.sh) λd=>(ds.all D.pl||d.fr)=true/\Q d ah
theorem Bu{B:Bs}{F H:Hp}{σ:L2.St}{δ:Dl}{ts:List (D × V)}{Qd:D->Prop}{Q:VK}{E:XK}{ds:List D}{vs:List V}{sp:aX}(c:av B F H σ δ ts)(s:S F H ds vs)(q:sp (ds.map D.sh) λd=>(ds.all D.pl||d.fr)=true/\Qd d)
  (k:∀d v F' H',Qd d->af F F'->af H H'->av B F' H' σ δ ((d,v)::ts)->Q v H'):bf sp vs H Q E:=by
 by_cases hp:ds.all D.pl=true
 ·rw[mB hp]at q
  exact⟨F,ds,_,c.ext,s.r hp,q,λd v F' H' A hd hs hf he h3 r nd fr=>k d v F' H' hd.2 hf hs (c.call hs hf he h3 r nd fr)⟩
 ·refine⟨H,ds.map D.sh,_,af.refl _,s.frozen c.ext,q,λd v F' H' A hd hs hf he h3 r nd fr=>?_⟩
  have gx:d.fr=true:=by
   have:=hd.1
   rw[Bool.or_eq_true]at this
   exact this.resolve_left hp
  exact k d v F H' hd.2 (af.refl _) hs (c.FN hs (r.q5 (by simp[gx]) (c.ext.trans hf)) nd fr)
section
variable{X:Cx}{CX:fA}{n:Nat}{f:Addr}{fd:FuncData}{ps:List Str}{sp:aX}{E:XK}{x:Str}{p pos:Pos}{e:Expr}{es:List Expr}{t:cU}
theorem uB(F:aN X.prog X.w X.K X.mg X.base CX n f fd ps (bf sp))(hr:cF n X.A)(hg:Gl X x)(hm:X.mg x=some (.ref f))(hk:PySem.W.keepIn X.K (.ref f)=true)(hb:Binds X.K fd ps [])(hx:kN CX X E)
  (ha:PA X (e::es) (lA t)) (eH:(x==("__debug__":Str))=false:=by decide) (he:starEach (e::es) X.env=(false,eval e X.env)::starEach es X.env:=by rfl) (bZ:(backTo pos (starEach es X.env)).any (·.1)=false:=by rfl) :
  PE X (.Call (.Name x p) (e::es) [] pos) (lE (pI sp t)) :=
 dP (jt F hr hg hm hk hb .nil hx ha eH he bZ) λσ H Q zq=>by
 obtain⟨B,F,δ,ts,Qd,c,q,k⟩:=zq
 exact⟨B,F,δ,ts,_,c,q,λds ao vs F1 H1 q1 f1 h1 c1 s1=>by
  show bf sp (vs++[]) H1 Q E
  rw[gn]
  exact Bu c1 s1 q1 λd v F' H' hd hf hs c'=>k d ao v F' H' hd (f1.trans hf) (h1.trans hs) c'⟩
end
noncomputable def nI(N:List Str)(ds:List D):Dl:=ds.map some++aQ (N.length-ds.length) none
section
variable{P:Program}{w:World}{K:PySem.W.Frag}{mg:Str->Option Value}{base:Heap}
theorem bt{x qual:Str}{st:Stmt}{f:Addr}{fd:FuncData}{N ps:List Str}{k:Nat}{sp:aX}(F:aY K x qual st f fd)(S:aW N ps (aM st))(len:∀ds Q,sp ds Q->ds.length=ps.length)
  (iT:∀(aE:Value) (A:Around) (outer:List Env) (s:Shared) (H:Hp) (E:XK),cF k (A.deeper (envOfC qual (aM st) s.heap.objs.size f aE)) ->
   ∃t:dO,PSs (jN aP P w K mg base N qual (aM st) f aE A outer s H E).h7 (gr st) (lS (jN aP P w K mg base N qual (aM st) f aE A outer s H E).h7 t)/\∀ds Q,sp ds Q->t { nx:=λ_=>Q .ax,rt:=Q } (nI N ds)):aN P w K mg base aP (k+1) f fd ps (bf sp):=by
 refine F.ok S (λvs H Q E ⟨F,ds,Qd,e,r,h,_⟩=>by rw[<-r.length];exact len ds Qd h) λaE A outer s H vs Q E hr zz=>?_
 obtain⟨F,ds,Qd,e,r,h,k⟩:=zz
 obtain⟨t,ht,hq⟩:=iT aE A outer s H E hr
 have fin:∀d v ah aR F' H',Qd d->av ⟨H,F⟩ F' H' aR ah [(d,v)]->Q v H':=λd v ah aR F' H' hd c=>by
  obtain⟨A,C,r',s',nd,fr⟩:=c.own
  exact k d v F' H' A hd c.b1 c.b2 c.ext c.b3 r' (iZ.mp nd).1 λa ha=>fr a (fE _ ha)
 have e1:L2.start N vs=vs.map some++aQ (N.length-ds.length) none:=by unfold L2.start;rw[r.length]
 refine⟨_,ht,⟨H,F⟩,F,nI N ds,_,?_,hq ds Qd h,λah aR F' H' hd c=>fin .ax .ax ah aR F' H' hd (c.pushS (.ax .nil) rfl),fin,λ_ _ _ _ z=>z.elim,λ_ _ _ _ z=>z.elim,XL.none (λ_ _ z=>z) λ_ _ z=>z⟩
 rw[e1]
 exact av.start e r _
end
section
variable{X:Cx}{e a b c:Expr}{es:List Expr}{pos:Pos}{st:Stmt}{xH rest:List Stmt}{t u:dO}{te:aS}{tt:fX}
noncomputable def uC:dO:=λD δ=>D.nx δ
noncomputable def OQ(t u:dO):dO:=λD δ=>t { D with nx:=u D } δ
theorem aB{t u:dO}{En:um}{δ:Dl}(h:∀U:Dl->Prop,(∀ah,u En ah->U ah)->t { En with nx:=U } δ):OQ t u En δ:=h (u En) λ_ z=>z
theorem dk:PSs X [] (lS X uC):=FT qK λD σ H ⟨B,F,δ,Dd,c,q,k1,_⟩=>k1 δ σ F H q c
theorem aC(h1:PS X st (lS X t))(h2:PSs X rest (lS X u)):PSs X (st::rest) (lS X (OQ t u)) :=
 FT (fm h1 h2) λD σ H zq=>by
 obtain⟨B,F,δ,Dd,c,q,k1,k2,k3,k4⟩:=zq
 exact⟨B,F,δ,{ Dd with nx:=u Dd },c,q,λah aR F' H' hq c'=>⟨B,F',ah,Dd,c',hq,k1,k2,k3,k4⟩,k2,k3,k4⟩
theorem aF(h1:PS X st (lS X t)):PSs X [st] (lS X t):=jo h1
theorem Bv:PS X st (lS X λ_ _=>False):=ki qN λD σ H ⟨_,_,_,_,_,q,_⟩=>q.elim
noncomputable def rn(i:Nat)(t:dO):dO:=λD δ=>∃d,δ[i]?=some (some d)/\t D (δ.set i (some d.sh))
theorem FX(i:Nat)(h:PSs X xH (lS X t)):PSs X xH (lS X (rn i t)):=FT h λD σ H zz=>by
 obtain⟨B,F,δ,Dd,c,⟨d,e,q⟩,k⟩:=zz
 obtain⟨F',s,c'⟩:=c.freeze e
 exact⟨B,F',_,Dd,c',q,k⟩
noncomputable def rq(i:Nat)(t:aS):dO:=λD δ=>t δ λd ah=>D.nx (ah.set i (some d))
theorem aZ{i:Nat}{x:Str}{pos':Pos}(hN:X.N.Nodup)(hi:X.N[i]?=some x)(hx:Loc X.env.scope x)(he:PE X e (lE te))(hs:swapsWith e (some (.Name x pos')) pos.line X.env=pure false:=by rfl)
  (hf:X.fn x=true\/X.env.scope.names.lookup x=some .local:=by first | exact .inl rfl | exact .inr rfl | assumption):PS X (.Assign [.Name x pos'] e pos) (lS X (rq i te)) :=
 ki (EU hN hi hx he hs hf) λD σ H zq=>by
 obtain⟨B,F,δ,Dd,c,q,k1,k2,k3,k4⟩:=zq
 exact⟨B,F,δ,[],_,c,q,λd ah v F' H' hd sf sh c'=>k1 _ _ F' H' hd (c'.store i)⟩
noncomputable def uD(t:aS):dO:=λD δ=>t δ λd _=>D.rt d
theorem aT(he:PE X e (lE te)):PS X (.Return (some e) pos) (lS X (uD te)) :=
 ki (Y5 he) λD σ H zq=>by
 obtain⟨B,F,δ,Dd,c,q,k1,k2,k3,k4⟩:=zq
 exact⟨B,F,δ,[],_,c,q,λd ah v F' H' hd sf sh c'=>k2 d v ah σ F' H' hd c'⟩
noncomputable def uE(t:aS):dO:=λD δ=>t δ λ_ ah=>D.nx ah
theorem OR(he:PE X e (lB te))(hs:swapsWith e none pos.line X.env=pure false:=by rfl):PS X (.Expr e pos) (lS X (uE te)) :=
 ki (qL he hs) λD σ H zq=>by
 obtain⟨B,F,δ,Dd,c,q,k1,k2,k3,k4⟩:=zq
 exact⟨B,F,δ,[],_,c,q,λd ah v F' H' hd sf sh c' s=>k1 ah σ F' H' hd c'⟩
noncomputable def uF(tc:fX)(t u:dO):dO:=λD δ=>tc δ λb ah=>if b=true then t D ah else u D ah
theorem dm{l r:List Stmt}(hc:PT X c (lT tt))(ha:PSs X l (lS X t))(hb:PSs X r (lS X u)):PS X (.If c l r pos) (lS X (uF tt t u)) :=
 ki (qM hc ha hb) λD σ H zq=>by
 obtain⟨B,F,δ,Dd,c,q,k⟩:=zq
 exact⟨B,F,δ,[],_,c,q,λb ah F' H' hq sf sh c'=>by
  cases b with
  | true=>exact ph ⟨B,F',ah,Dd,c',by simpa using hq,k⟩
  | false=>exact iW ⟨B,F',ah,Dd,c',by simpa using hq,k⟩⟩
noncomputable def uG(i:Nat)(rd:cV)(t:aS):dO:=λD δ=>∃x,δ[i]?=some (some x)/\t δ λy ao=>rd x y λz=>D.nx (ao.set i (some z))
theorem uH{i:Nat}{x:Str}{op:Operator}{rd:cV}{pos':Pos}(hN:X.N.Nodup)(hi:X.N[i]?=some x)(hx:Loc X.env.scope x)(he:PE X e (lB te))(ho:bV X (inplaceOp op) rd)
  (hf:X.fn x=true\/X.env.scope.names.lookup x=some .local:=by first | exact .inl rfl | exact .inr rfl | assumption):PS X (.AugAssign (.Name x pos') op e pos) (lS X (uG i rd te)):=by
 obtain⟨r,h1,h2⟩:=ho
 refine ki (Zi hN hi hx he (ti:=r) h1 hf) λD σ H zz=>?_
 obtain⟨B,F,δ,Dd,c,⟨d0,e0,q⟩,k1,k2,k3,k4⟩:=zz
 obtain⟨v0,e1,s0⟩:=c.look e0
 exact⟨v0,e1,B,F,δ,[],_,c,q,λd ah v F' H' hd sf sh c' s=>h2 c' (s0.mono sf sh) s hd λz w H2 hz h3 c3=>k1 _ _ F' H2 hz (c3.store i)⟩
noncomputable def uI(tc:fX)(tb:dO):dO:=λD δ=>∃W:Nat->Dl->Prop,(∃m,W m δ)/\∀m δ,W m δ->tc δ λb ah=>if b=true then tb { D with nx:=λah=>∃m',m'<m/\W m' ah,ct:=λah=>∃m',m'<m/\W m' ah,bk:=D.nx } ah else D.nx ah
theorem rz{body:List Stmt}(hp:PassesOwn (model X.prog X.w) X.A X.env X.xe)(hc:PT X c (lT tt))(hb:PSs X body (lS X t)):PS X (.While c body [] pos) (lS X (uI tt t)) :=
 ki (Zm hp hc hb) λD σ H zz=>by
  obtain⟨B,F,δ,Dd,c,⟨W,⟨m0,w0⟩,hw⟩,k1,k2,k3,k4⟩:=zz
  refine⟨λm σ H=>∃F δ,av B F H σ δ []/\W m δ,⟨m0,F,δ,c,w0⟩,λm σ H ⟨F,δ,c,w⟩=>⟨B,F,δ,[],_,c,hw m δ w,λb ah F' H' hq sf sh c'=>?_⟩⟩
  cases b with
  | true =>
   refine ph ⟨λaR H'=>∃m',m'<m/\∃F δ,av B F H' aR δ []/\W m' δ,λaR H' z=>z,B,F',ah,{ Dd with nx:=λah=>∃m',m'<m/\W m' ah,ct:=λah=>∃m',m'<m/\W m' ah,bk:=Dd.nx },c',by simpa using hq,λbr mi F2 H2 ⟨m',hm,w2⟩ c2=>⟨m',hm,F2,br,c2,w2⟩,k2,λbr mi F2 H2 z c2=>k1 br mi F2 H2 z c2,λbr mi F2 H2 ⟨m',hm,w2⟩ c2=>⟨m',hm,F2,br,c2,w2⟩,k4.2⟩
  | false=>exact iW (k1 ah σ F' H' (by simpa using hq) c')
end
structure JD(J:It)(F:Hp)(xs:List D):Prop where
 go:∀i H,af F H->i<xs.length->J.go i H
 kg:∀i H x H',af F H->i<xs.length->J.kg i H x H'->∃d,xs[i]?=some d/\af H H'/\R F H' [d] [x] []
 stop:∀i H,af F H->xs.length<=i->J.stop i H
noncomputable abbrev jy:=Dl->(Bool->List D->Dl->Prop)->Prop
noncomputable def lI(t:jy):TI:=λσ H Rr=>∃B F δ ts Qd,av B F H σ δ ts/\t δ Qd/\∀g xs ah J F' H',Qd g xs ah->af F F'->af H H'->av B F' H' σ ah ts->JD J H' (xs.map D.sh)->(g=true->xs.all D.pl=true/\JD J F' xs)->Rr J H'
noncomputable abbrev iF:=D->Dl->(Dl->Prop)->Prop
noncomputable def lG(m:Nat)(t:iF):TG:=λv σ H Q=>∃B F δ ts d Qd,av B F H σ δ ((d,v)::ts)/\t d δ Qd/\∀ah aR,Qd ah->aR.length=σ.length->(∀j,j<m->aR[j]?=σ[j]?)->av B F H aR ah ts->Q aR H
noncomputable def kj:D->Option (List D)
 | .lst _ xs=>some xs
 | .fz xs=>some xs
 | _=>none
section
variable{B:Bs}{F H F1:Hp}{σ:L2.St}{δ:Dl}{ts:List (D × V)}
end
section
variable{X:Cx}{e a b c tg l iter:Expr}{es:List Expr}{pos:Pos}{t u:dO}{te:aS}{tt:fX}{ta:cU}{m:Nat}
theorem uJ{w w':TI}(h:PI X tg iter w)(m:∀σ H Q,w' σ H Q->w σ H Q):PI X tg iter w':=λpins s σ H Q I q=>h pins s σ H Q I (m σ H Q q)
theorem OS{w w':TG}(h:PG X tg w)(m:∀v σ H Q,w' v σ H Q->w v σ H Q):PG X tg w':=λpins s σ H v u Q I r q=>h pins s σ H v u Q I r (m v σ H Q q)
noncomputable def gN(i:Nat):iF:=λd δ Q=>Q (δ.set i (some d))
theorem jz{i:Nat}{x:Str}(hN:X.N.Nodup)(hi:X.N[i]?=some x)(hx:Loc X.env.scope x)(hm:m<=i:=by decide)(hf:X.fn x=true\/X.env.scope.names.lookup x=some .local:=by first | exact .inl rfl | exact .inr rfl | assumption):PG X (.Name x pos) (lG m (gN i)) :=
 OS (A6 hN hi hx hf) λv σ H Q ⟨B,F,δ,ts,d,Qd,c,q,k⟩=>k _ _ q (by simp) (λj hj=>by rw[s8 (by omega)]) (c.store i)
theorem nJ{K:PySem.W.Frag}{F H:Hp}{p:Addr}{xs:List D}{ws:List V}(hp:Rd F p (.lst ws))(r:R F H xs ws [])(hF:Full F H):JD (EW K p) F xs where
 go:=λi H' hs hi=>by
  have l:=r.length
  have gW:i<ws.length:=by omega
  exact⟨ws,ws[i],.inl (iY hp hs),aO gW⟩
 kg:=λi H' x H2 hs hi zz=>by
  obtain⟨e,y⟩:=zz
  subst e
  have hx:=y ws (.inl (iY hp hs))
  obtain⟨v,A1,e2,r1,sub⟩:=(r.full hF hs rfl).get (aO hi)
  rw[hx]at e2;cases e2
  have:A1=[]:=Yc.mpr λa ha=>by simpa using sub ha
  subst this
  exact⟨_,aO hi,af.refl _,r1⟩
 stop:=λi H' hs hi=>⟨ws,.inl (iY hp hs),by have:=r.length;omega⟩
theorem Bw{F:Hp}(lo:Int)(n:Nat):JD (xb lo n) F ((aD n).map λ(k:Nat)=>D.int (lo+(k:Int))) where
 go:=λi H' hs hi=>by
  have gW:i<n:=by simpa using hi
  exact gW
 kg:=λi H' x H2 hs hi zz=>by
  obtain⟨e,y⟩:=zz
  subst e y
  have gW:i<n:=by simpa using hi
  exact⟨.int (lo+i),by simp[j8 gW],af.refl _,.int .nil⟩
 stop:=λi H' hs hi=>by
  have gW:n<=i:=by simpa using hi
  exact gW
noncomputable def uK(t:aS):jy:=λδ Q=>t δ λd ah=>∃xs,kj d=some xs/\Q true (xs.map D.sh) ah
theorem cS2(xs:List D){F H:Hp}{ws:List V}(r:R F H (xs.map D.sh) ws []):(xs.map D.sh).map D.sh=xs.map D.sh:=mB r.pl
theorem Bz(h:PE X l (lE te)):PI X tg l (lI (uK te)) :=
 uJ (Nw h) λσ H Q zq=>by
 obtain⟨B,F,δ,ts,Qd,c,q,k⟩:=zq
 exact⟨B,F,δ,ts,_,c,q,λd ao v F1 H1 hd f1 h1 c1=>by
  obtain⟨xs,e,hq⟩:=hd
  obtain⟨F2,f2,c2⟩:=c1.FQ
  have tp:=c2.top
  have c3:=c2.pop.snap
  have e2:=c2.ext
  have sn:=q8 e2
  cases d with
  | lst o ys =>
   obtain rfl:=de e
   rw[eK]at tp
   cases tp with
   | @shr p ws _ _ _ hp r _ =>
    have r3:=r.shared sn (af.refl _)
    refine⟨p,rfl,⟨ws,bS.of (e2 _ _ hp)⟩,k true _ ao _ _ H1 hq ((f1.trans f2).trans sn) h1 c3 ?_ λ_=>⟨r.pl,nJ (.inl (sn _ _ hp)) r3 uk⟩⟩
    rw[cS2 _ r]
    exact nJ (.inl (e2 _ _ hp)) (r.shared e2 (af.refl _)) (Full.refl _)
  | fz ys =>
   obtain rfl:=de e
   cases tp with
   | @fz p o ws _ _ _ hp r _ =>
    have r3:=r.shared sn (af.refl _)
    have es:=mB r.pl
    rw[es]at hq
    refine⟨p,rfl,⟨ws,.inl (.inr ⟨o,e2 _ _ hp⟩)⟩,k true _ ao _ _ H1 hq ((f1.trans f2).trans sn) h1 c3 ?_ λ_=>⟨r.pl,nJ (.inr ⟨o,sn _ _ hp⟩) r3 uk⟩⟩
    rw[es]
    exact nJ (.inr ⟨o,e2 _ _ hp⟩) (r.shared e2 (af.refl _)) (Full.refl _)
  | ax=>cases e
  | bl _=>cases e
  | int _=>cases e
  | str _=>cases e
  | tup _=>cases e
  | obj _ _ _=>cases e
  | bI _=>cases e⟩
noncomputable def uL(t:aS):jy:=λδ Q=>t δ λd ah=>∃xs,kj d=some xs/\Q d.pl xs ah
theorem ie(h:PE X l (lB te)):PI X tg l (lI (uL te)) :=
 uJ (Nw h) λσ H Q zq=>by
 obtain⟨B,F,δ,ts,Qd,c,q,k⟩:=zq
 exact⟨B,F,δ,ts,_,c,q,λd ao v F1 H1 hd f1 h1 c1 s=>by
  obtain⟨xs,e,hq⟩:=hd
  have c3:=c1.snap
  have e2:=c1.ext
  have sn:=q8 e2
  cases s with
  | @shr p ws ys _ _ hp r _ =>
   obtain rfl:=de e
   refine⟨p,rfl,⟨ws,bS.of (e2 _ _ hp)⟩,k _ _ ao _ _ H1 hq (f1.trans sn) h1 c3 ?_ λ_=>⟨r.pl,nJ (.inl (sn _ _ hp)) (r.shared sn (af.refl _)) uk⟩⟩
   rw[mB r.pl]
   exact nJ (.inl (e2 _ _ hp)) (r.shared e2 (af.refl _)) (Full.refl _)
  | @own p ws ys _ _ hp r _ =>
   obtain rfl:=de e
   refine⟨p,rfl,⟨ws,bS.of hp⟩,k _ _ ao _ _ H1 hq (f1.trans sn) h1 c3 (nJ (.inl hp) (r.frozen e2) (Full.refl _)) λz=>by simp[gu]at z⟩
  | @fz p o ws ys _ _ hp r _ =>
   obtain rfl:=de e
   refine⟨p,rfl,⟨ws,.inl (.inr ⟨o,e2 _ _ hp⟩)⟩,k _ _ ao _ _ H1 hq (f1.trans sn) h1 c3 ?_ λ_=>⟨r.pl,nJ (.inr ⟨o,sn _ _ hp⟩) (r.shared sn (af.refl _)) uk⟩⟩
   rw[mB r.pl]
   exact nJ (.inr ⟨o,e2 _ _ hp⟩) (r.shared e2 (af.refl _)) (Full.refl _)
  | ax _=>cases e
  | bl _=>cases e
  | int _=>cases e
  | str _=>cases e
  | tup _ _ _=>cases e
  | obj _ _ _ _=>cases e
  | bI _ _=>cases e⟩
theorem xJ(f:Nat->Int)(l:List Nat):(l.map λk=>D.int (f k)).map D.sh=l.map λk=>D.int (f k):=by simp[D.sh]
theorem OT(f:Nat->Int)(l:List Nat):(l.map λk=>D.int (f k)).all D.pl=true:=by simp[D.pl]
noncomputable def uM(t:cU):jy:=λδ Q=>t δ λds ah=>∃j:Int,ds=[.int j]/\(-(2 ^ 62)<=j/\j<2 ^ 62)/\Q true ((aD j.toNat).map λ(k:Nat)=>D.int (0+(k:Int))) ah
theorem i6{p:Pos}(hg:Gl X "range")(hm:X.mg "range"=none)(ha:PA X [a] (lA ta))(hs:starEach [a] X.env=[(false,eval a X.env)]:=by rfl):PI X tg (.Call (.Name "range" p) [a] [] pos) (lI (uM ta)) :=
 uJ (Zs hg hm ha hs) λσ H Q zq=>by
 obtain⟨B,F,δ,ts,Qd,c,q,k⟩:=zq
 exact⟨B,F,δ,ts,_,c,q,λds ao vs F1 H1 hd f1 h1 c1 s=>by
  obtain⟨j,rfl,⟨b1,b2⟩,hq⟩:=hd
  cases s with
  | int s =>
   cases s
   refine⟨j,rfl,b1,b2,k true _ ao _ _ H1 hq f1 h1 c1 ?_ λ_=>⟨OT _ _,Bw 0 _⟩⟩
   rw[xJ]
   exact Bw 0 _⟩
noncomputable def uN(t:cU):jy:=λδ Q=>t δ λds ah=>∃i j:Int,ds=[.int i,.int j]/\(-(2 ^ 62)<=i/\i<2 ^ 62/\-(2 ^ 62)<=j/\j<2 ^ 62)/\Q true ((aD (j-i).toNat).map λ(k:Nat)=>D.int (i+(k:Int))) ah
theorem xK{p:Pos}(hg:Gl X "range")(hm:X.mg "range"=none)(ha:PA X [a,b] (lA ta))(hs:starEach [a,b] X.env=[(false,eval a X.env),(false,eval b X.env)]:=by rfl)(fJ:starEach [b] X.env=[(false,eval b X.env)]:=by rfl) :
  PI X tg (.Call (.Name "range" p) [a,b] [] pos) (lI (uN ta)) :=
 uJ (Zt hg hm ha hs fJ) λσ H Q zq=>by
 obtain⟨B,F,δ,ts,Qd,c,q,k⟩:=zq
 exact⟨B,F,δ,ts,_,c,q,λds ao vs F1 H1 hd f1 h1 c1 s=>by
  obtain⟨i,j,rfl,bd,hq⟩:=hd
  cases s with
  | int s =>
   cases s with
   | int s =>
    cases s
    refine⟨i,j,rfl,bd,k true _ ao _ _ H1 hq f1 h1 c1 ?_ λ_=>⟨OT _ _,Bw i _⟩⟩
    rw[xJ]
    exact Bw i _⟩
noncomputable def gy(xs:List D)(g:iF)(tb:dO):dO:=λEn ao=>∃Iv:Nat->Dl->Prop,Iv 0 ao /\
 (∀i d ah,xs[i]?=some d->Iv i ah->g d ah λbr=>tb { En with nx:=Iv (i+1),ct:=Iv (i+1),bk:=En.nx } br)/\∀ah,Iv xs.length ah->En.nx ah
theorem gy.mk{xs:List D}{g:iF}{tb:dO}{En:um}{δ:Dl}(Iv:Nat->Dl->Prop)(h0:Iv 0 δ)(ht:∀i d ah,xs[i]?=some d->Iv i ah->g d ah λbr=>tb { En with nx:=Iv (i+1),ct:=Iv (i+1),bk:=En.nx } br)
  (hf:∀ah,Iv xs.length ah->En.nx ah):gy xs g tb En δ:=⟨Iv,h0,ht,hf⟩
noncomputable def uO(ti:jy)(g:iF)(tb:dO):dO:=λEn δ=>ti δ λsh xs ao=>sh=true/\gy xs g tb En ao
theorem gz{ti:jy}{g:iF}{body:List Stmt}(hp:PassesOwn (model X.prog X.w) X.A X.env X.xe)(hc:X.calm=true)(hi:PI X tg iter (lI ti))(hg:PG X tg (lG 0 g))(hb:PSs X body (lS X t))
  (hs:∀x,foldedSetIterable iter X.env x=pure x:=by intro _;rfl):PS X (.For tg iter body [] pos) (lS X (uO ti g t)) :=
 ki (Zw hp hc hi hg hb hs) λEn σ H zq=>by
 obtain⟨B,F,δ,Dd,c,q,k1,k2,k3,k4⟩:=zq
 exact⟨B,F,δ,[],_,c,q,λsh xs ao J F1 H1 hq f1 h1 c1 _ jd=>by
  obtain⟨xq,Iv,i0,turn,fin⟩:=hq
  obtain⟨bZ,jd⟩:=jd xq
  have un:∀{F' H':Hp} {aR:L2.St} {ah:Dl} {ts:List (D × V)},av ⟨B.H0,F1⟩ F' H' aR ah ts->av B F' H' aR ah ts:=λc'=>c'.c57 c1.b2 c1.b3
  refine⟨λi m σ H=>m=xs.length-i/\i<=xs.length/\∃F δ,av ⟨B.H0,F1⟩ F H σ δ []/\Iv i δ,⟨_,rfl,jh _,F1,ao,c1.rebase,i0⟩,?_⟩
  rintro i m mi H2 ⟨rfl,hi,F2,br,c2,iv⟩
  have s2:af F1 H2:=c2.b2.trans c2.ext
  by_cases fL:i<xs.length
  ·refine .inr ⟨jd.go i H2 s2 fL,λaR H'=>∃F δ,av ⟨B.H0,F1⟩ F H' aR δ []/\Iv (i+1) δ,λaR H' z=>⟨xs.length-(i+1),by omega,rfl,fL,z⟩,λx H3 y=>?_⟩
   obtain⟨d,e,s3,r⟩:=jd.kg i H2 x H3 s2 fL y
   have c3:=(c2.grow s3).pushS (d:=d) (v:=x) ((r.s).mono c2.b2 (af.refl _)) (by have:=r.pl;simpa using this)
   refine⟨⟨B.H0,F1⟩,F2,br,[],d,_,c3,turn i d br e iv,λah aR hq _ _ c4=>?_⟩
   exact⟨⟨B.H0,F1⟩,F2,ah,_,c4,hq,λjS nK F5 H5 h5 c5=>⟨F5,jS,c5,h5⟩,λd5 v5 jS nK F5 H5 h5 c5=>k2 d5 v5 jS nK F5 H5 h5 (un c5),λjS nK F5 H5 h5 c5=>k1 jS nK F5 H5 h5 (un c5),λjS nK F5 H5 h5 c5=>⟨F5,jS,c5,h5⟩,⟨λC jS pins nK F5 H5 s5 a T h5 c5=>k4.2.1 C jS pins nK F5 H5 s5 a T h5 (un c5),λC jS pins nK F5 H5 s5 h' e vs h5 c5=>k4.2.2 C jS pins nK F5 H5 s5 h' e vs h5 (un c5)⟩⟩
  ·have e:i=xs.length:=by omega
   subst e
   exact .inl ⟨jd.stop _ H2 s2 (bK _),k1 br mi F2 H2 (fin br iv) (un c2)⟩⟩
end
end L3
namespace L3
open PySem L2 PySem.Spec PyProof.Rows
noncomputable def jT(δ:Dl)(q:Str × Nat):Option D:=(δ[q.2]?).getD none
noncomputable def jA(δ:Dl)(q:Str × Nat):Bool:=match jT δ q with
 | some d=>d.pl
 | none=>true
noncomputable def gH(aH:List (Str × Nat))(n:Nat)(δ:Dl):Dl:=(aH.map λq=>(jT δ q).map D.sh)++aQ n none
noncomputable def uP(sh:Bool)(xs:List D)(aH:List (Str × Nat))(n:Nat)(g:iF)(tt:fX)(te:aS)(ao:Dl)(Q:D->Dl->Prop):Prop:=∃(p:D->Bool) (f:D->D),
 (∀x∈xs.map D.sh,g x (gH aH n ao) λbr=>tt br λb i5=>b=p x/\(p x=true->te i5 λd _=>d=f x)) /\
 ((sh&&aH.all (jA ao))=true\/∀x∈xs.map D.sh,p x=true->(f x).fr=true)/\xs.length<=sizeLine/\Q (.lst true (((xs.map D.sh).filter p).map f)) ao
noncomputable def pJ(ti:jy)(aH:List (Str × Nat))(n:Nat)(g:iF)(tt:fX)(te:aS):aS:=λδ Q=>ti δ λsh xs ao=>uP sh xs aH n g tt te ao Q
noncomputable def mC:fX:=λδ Q=>Q true δ
theorem cd5{sh:Bool}{xs:List D}{aH:List (Str × Nat)}{n m:Nat}{te:aS}{ao:Dl}{Q:D->Dl->Prop}(f:D->D)(hx:∀x∈xs.map D.sh,te ((gH aH n ao).set m (some x)) λd _=>d=f x)
  (gx:(sh&&aH.all (jA ao))=true\/∀x∈xs.map D.sh,(f x).fr=true) (hl:xs.length<=sizeLine) (hq:Q (.lst true ((xs.map D.sh).map f)) ao):uP sh xs aH n (gN m) mC te ao Q :=
 ⟨λ_=>true,f,λx h=>⟨rfl,λ_=>hx x h⟩,gx.imp id λh x hx _=>h x hx,hl,by rw[Yd.mpr (λ_ _=>rfl)];exact hq⟩
section
variable{B:Bs}{F H:Hp}{σ:L2.St}{δ:Dl}{ts:List (D × V)}
theorem OU(c:av B F H σ δ ts)(n:Nat):∀(aH:List (Str × Nat)),aH.all (jA δ)=true->RS F H (gH aH n δ) (iD aH n σ) []
 | [],_=>by
  have z:∀n,RS F H (aQ n none) (aQ n none) []:=λn=>by
   induction n with
   | zero=>exact .nil
   | succ n ih=>exact .ax ih
  exact z n
 | q::r,h=>by
  rw[dy,fg]at h
  have ih:=OU c n r h.2
  show RS F H ((jT δ q).map D.sh::gH r n δ) ((σ[q.2]?).getD none::iD r n σ) []
  cases e:jT δ q with
  | none=>exact .ax ih
  | some d =>
   have e2:δ[q.2]?=some (some d):=by
    unfold jT at e
    cases z:δ[q.2]? with
    | none=>rw[z]at e;cases e
    | some o=>rw[z]at e;exact congrArg some e
   have hp:d.pl=true:=by have:=h.1;unfold jA at this;rw[e]at this;exact this
   obtain⟨v,e3,s⟩:=c.look e2
   rw[e3]
   show RS F H (some d.sh::_) (some v::_) []
   rw[D.Br hp]
   exact .dW (A:=[]) (s.r (by simp[hp])) ih
theorem OV(c:av B F H σ δ ts)(n:Nat):∀(aH:List (Str × Nat)),RS H H (gH aH n δ) (iD aH n σ) []
 | []=>by
  have z:∀n,RS H H (aQ n none) (aQ n none) []:=λn=>by
   induction n with
   | zero=>exact .nil
   | succ n ih=>exact .ax ih
  exact z n
 | q::r=>by
  have ih:=OV c n r
  show RS H H ((jT δ q).map D.sh::gH r n δ) ((σ[q.2]?).getD none::iD r n σ) []
  cases e:jT δ q with
  | none=>exact .ax ih
  | some d =>
   have e2:δ[q.2]?=some (some d):=by
    unfold jT at e
    cases z:δ[q.2]? with
    | none=>rw[z]at e;cases e
    | some o=>rw[z]at e;exact congrArg some e
   obtain⟨v,e3,s⟩:=c.look e2
   rw[e3]
   exact .dW (A:=[]) (s.frozen c.ext) ih
theorem OW{α:Type}(xs:List α)(p:α->Bool)(i:Nat)(x:α)(h:xs[i]?=some x):(xs.take (i+1)).filter p=(xs.take i).filter p++(if p x=true then [x]else []):=by
 rw[kH,h,List.filter_append]
 simp only[ML]
 by_cases hp:p x=true<;>simp[hp]
end
section
variable{X:Cx}{elt iter tg:Expr}{pos:Pos}{ifs:List Expr}{scope:Scope}{cl:List (Str × Addr)}{ti:jy}{tt:fX}{te:aS}{g:iF}
theorem FY{B:Bs}{F1 H1:Hp}{σ:L2.St}{ao:Dl}{ts:List (D × V)}{J:It}{Qd:D->Dl->Prop}{Q:VK}{xs:List D}{sh:Bool}{aH:List (Str × Nat)}{n:Nat}(c1:av B F1 H1 σ ao ts)
  (nL:JD J H1 (xs.map D.sh)) (rA:sh=true->xs.all D.pl=true/\JD J F1 xs) (p:D->Bool) (f:D->D)
  (hx:∀x∈xs.map D.sh,g x (gH aH n ao) λbr=>tt br λb i5=>b=p x/\(p x=true->te i5 λd _=>d=f x))
  (gx:(sh&&aH.all (jA ao))=true\/∀x∈xs.map D.sh,p x=true->(f x).fr=true) (hlen:xs.length<=sizeLine) (hq:Qd (.lst true (((xs.map D.sh).filter p).map f)) ao)
  (k:∀d ah v F' H',Qd d ah->af F1 F'->af H1 H'->av B F' H' σ ah ((d,v)::ts)->Q v H'):OC J aH n (lG aH.length g) (lT tt) (lE te) σ H1 Q:=by
 intro Dp hD
 have cD:av B F1 (upd H1 Dp (.lst [])) σ ao ((.lst true [],.ref Dp)::ts):=c1.pE hD .nil rfl
 refine⟨λi m acc H2=>m=xs.length-i/\i<=xs.length/\H2 Dp=some (.lst acc)/\af H1 H2/\acc.length<=i/\∃F2,af F1 F2 /\
  av B F2 H2 σ ao ((.lst true ((((xs.map D.sh).take i).filter p).map f),.ref Dp)::ts),⟨xs.length,rfl,jh _,bQ,af.upd hD,bK _,F1,af.refl _,by simpa using cD⟩,?_⟩
 rintro i m acc H2 ⟨rfl,hi,FZ,xM,hal,F2,nM,c2⟩
 refine⟨FZ,?_⟩
 by_cases fL:i<xs.length
 case neg =>
  have e:i=xs.length:=by omega
  subst e
  refine .inl ⟨nL.stop _ H2 xM (by simp),k _ ao _ F2 H2 ?_ nM xM c2⟩
  have:(xs.map D.sh).take xs.length=xs.map D.sh:=by rw[Ew (by simp)]
  rw[this]
  exact hq
 case pos =>
  refine .inr ⟨nL.go i H2 xM (by simpa using fL),λx H3 y=>?_⟩
  obtain⟨d0,e0,Ga,r0⟩:=nL.kg i H2 x H3 xM (by simpa using fL) y
  have OX:d0∈xs.map D.sh:=tD e0
  have OY:H3 Dp=some (.lst acc):=Ga _ _ FZ
  have c3:=c2.grow Ga
  have Gb:=xM.trans Ga
  refine⟨OY,?_⟩
  have gI:=hx d0 OX
  have turn:∀Fi,af Fi H3->RS Fi H3 (gH aH n ao) (iD aH n σ) []->S Fi H3 [d0] [x]->d0.pl=true ->
    (∀d v F' H' A,d=f d0->p d0=true->af H3 H'->af Fi F'->af F' H'->(∀a ws,F' a=some (.lst ws)->Fi a=some (.lst ws)\/H3 a=none)->R F' H' [d] [v] A->A.Nodup->(∀a∈A,H3 a=none) ->
     ∃F4,af F2 F4/\av B F4 H' σ ao ((d,v)::(.lst true ((((xs.map D.sh).take i).filter p).map f),.ref Dp)::ts)) ->
    lG aH.length g x (iD aH n σ) H3 λh8 H4 =>
     (h8.length=(iD aH n σ).length/\∀j,j<aH.length->h8[j]?=(iD aH n σ)[j]?)/\lT tt h8 H4 λb H5=>H5 Dp=some (.lst acc) /\
     if b=true then lE te h8 H5 λy H6=>H6 Dp=some (.lst acc)/\acc.length<sizeLine/\∃m',m'<xs.length-i /\
      (m'=xs.length-(i+1)/\i+1<=xs.length/\upd H6 Dp (.lst (acc++[y])) Dp=some (.lst (acc++[y]))/\af H1 (upd H6 Dp (.lst (acc++[y])))/\(acc++[y]).length<=i+1/\∃F2,af F1 F2 /\
       av B F2 (upd H6 Dp (.lst (acc++[y]))) σ ao ((.lst true ((((xs.map D.sh).take (i+1)).filter p).map f),.ref Dp)::ts))
     else ∃m',m'<xs.length-i/\(m'=xs.length-(i+1)/\i+1<=xs.length/\H5 Dp=some (.lst acc)/\af H1 H5/\acc.length<=i+1/\∃F2,af F1 F2 /\
       av B F2 H5 σ ao ((.lst true ((((xs.map D.sh).take (i+1)).filter p).map f),.ref Dp)::ts)):=by
   intro Fi hFi hRS hS bZ back
   have ci:av ⟨H3,Fi⟩ Fi H3 (iD aH n σ) (gH aH n ao) []:=⟨hFi,af.refl _,af.refl _,λ_ _ q=>.inl q,[],[],.nil,hRS,by simp,by simp⟩
   refine⟨⟨H3,Fi⟩,Fi,gH aH n ao,[],d0,_,ci.pushS hS bZ,gI,λah h8 hq1 l1 k1 c4=>⟨⟨l1,k1⟩,⟨H3,Fi⟩,Fi,ah,[],_,c4,hq1,λb jS F5 H5 hb f5 h5 c5=>?_⟩⟩
   obtain⟨hb,ht⟩:=hb
   have BA:H5 Dp=some (.lst acc):=h5 _ _ OY
   refine⟨BA,?_⟩
   by_cases hp:p d0=true
   ·rw[hb,hp]
    refine ph ⟨⟨H3,Fi⟩,F5,jS,[],_,c5,ht hp,λd δ6 v F6 H6 hd f6 h6 c6=>?_⟩
    have OZ:H6 Dp=some (.lst acc):=h6 _ _ BA
    obtain⟨A,C,r,s,nd,fr⟩:=c6.own
    obtain⟨F4,uQ,c7⟩:=back d v F6 H6 A hd hp c6.b1 c6.b2 c6.ext c6.b3 r (iZ.mp nd).1 λa ha=>fr a (fE _ ha)
    have c8:=c7.c62 OZ
    refine⟨OZ,by omega,xs.length-(i+1),by omega,rfl,fL,bQ,?_,by simpa using hal,F4,nM.trans uQ,?_⟩
    ·have O0:=Gb.trans c6.b1
     exact⟨λa o q n=>by rw[bo (fj q hD)];exact O0.get a o q n,λa ps q=>by rw[bo (fj q hD)];exact O0.tb a ps q⟩
    ·have e9:(((xs.map D.sh).take (i+1)).filter p).map f=(((xs.map D.sh).take i).filter p).map f++[d]:=by
      rw[OW _ p i d0 e0,hp,hd];simp
     rw[e9]
     exact c8
   ·have BB:p d0=false:=by simpa using hp
    rw[hb,BB]
    refine iW ⟨xs.length-(i+1),by omega,rfl,fL,BA,Gb.trans h5,by omega,F2,nM,?_⟩
    have e9:(((xs.map D.sh).take (i+1)).filter p).map f=(((xs.map D.sh).take i).filter p).map f:=by
     rw[OW _ p i d0 e0,BB];simp
    rw[e9]
    exact c3.grow h5
  by_cases hA:(sh&&aH.all (jA ao))=true
  ·rw[fg]at hA
   obtain⟨bZ,jd⟩:=rA hA.1
   have xq:=mB bZ
   rw[xq]at e0
   obtain⟨d1,e1,_,r1⟩:=jd.kg i H2 x H3 (nM.trans c2.ext) fL y
   rw[e0]at e1;cases e1
   have c74:d0.pl=true:=by have:=r1.pl;simpa using this
   refine turn F2 c3.ext (OU c3 n aH hA.2) ((r1.s).mono nM (af.refl _)) c74 λd v F' H' A hd hp hs hf he h3 r nd fr=>⟨F',hf,c3.call hs hf he h3 r nd fr⟩
  ·have c75:=gx.resolve_left hA
   refine turn H3 (af.refl _) (OV c3 n aH) ((r0.shared Gb (af.refl _)).s) (by have:=r0.pl;simpa using this) λd v F' H' A hd hp hs hf he h3 r nd fr=>⟨F2,af.refl _,?_⟩
   exact c3.FN hs (r.q5 (by rw[hd];simp[c75 d0 OX hp]) (c3.ext.trans hf)) nd fr
theorem dD{Y:Cx}:mq Y [] (lT mC):=λ_ _ _ H _ I ⟨B,F,δ,ts,Qd,c,q,k⟩=>cs1 _ _ _ H _ I (k true δ F H q (af.refl _) (af.refl _) c)
theorem BC{Y:Cx}{c:Expr}(h:PT Y c (lT tt)):mq Y [c] (lT tt):=cv0 h
end
end L3
namespace L3
open PySem L2 PySem.Spec PyProof.Rows
section
variable{X:Cx}{F H:Hp}{v w:V}
noncomputable def l2(rd:cV):R2:=λv w H Q=>∃B F σ δ ts x y Qd,av B F H σ δ ts/\S F H [x] [v]/\S F H [y] [w]/\rd x y Qd/\∀d z H',Qd d->af H H'->av B F H' σ δ ((d,z)::ts)->Q z H'
theorem bV.of{f:Value->Value->Sem Value}{rd:cV}(h:cP X f (l2 rd)):bV X f rd:=⟨_,h,λ{B F H σ δ ts x y v w Q Qd} c sx sy q k=>⟨B,F,σ,δ,ts,x,y,Qd,c,sx,sy,q,k⟩⟩
theorem xN{f:Value->Value->Sem Value}{C:Int->Int->Prop}{g:Int->Int->V}{gd:Int->Int->D}(ho:cP X f (rI C g))(hg:∀i j F H,S F H [gd i j] [g i j])(hp:∀i j,(gd i j).pl=true):bV X f λx y Q=>∃i j,x=.int i/\y=.int j/\C i j/\Q (gd i j) :=
 ⟨_,ho,λ{B F H σ δ ts x y v w Q Qd} c sx sy h k=>by
  obtain⟨i,j,rfl,rfl,hc,q⟩:=h
  cases sx;cases sy
  exact⟨i,j,rfl,rfl,hc,k _ _ _ q (af.refl _) (c.pushS (hg i j F H) (hp i j))⟩⟩
theorem kR{f:Value->Value->Sem Value}{g:Int->Int->V}{gd:Int->Int->D}(ho:cP X f (jr g))(hg:∀i j F H,S F H [gd i j] [g i j])(hp:∀i j,(gd i j).pl=true):bV X f λx y Q=>∃i j,x=.int i/\y=.int j/\Q (gd i j) :=
 ⟨_,ho,λ{B F H σ δ ts x y v w Q Qd} c sx sy h k=>by
  obtain⟨i,j,rfl,rfl,q⟩:=h
  cases sx;cases sy
  exact⟨i,j,rfl,rfl,k _ _ _ q (af.refl _) (c.pushS (hg i j F H) (hp i j))⟩⟩
theorem jB{o:Bool}{xs:List D}(s:S F H [.lst o xs] [v])(e:af F H):∃p ws,v=.ref p/\H p=some (.lst ws)/\S F H xs ws:=by
 cases s with
 | shr h r _=>exact⟨_,_,rfl,e _ _ h,r.s⟩
 | own h r _=>exact⟨_,_,rfl,h,r⟩
theorem kS{xs:List D}(s:S F H [.tup xs] [v]):∃p ws,v=.ref p/\H p=some (.tup ws)/\S F H xs ws:=by
 cases s with
 | tup h r _=>exact⟨_,_,rfl,h,r⟩
theorem mD{d:D}{xs:List D}(s:S F H [d] [v])(e:af F H)(h:kj d=some xs):∃p ws,v=.ref p/\Rd H p (.lst ws)/\S F H xs ws:=by
 cases s with
 | shr h' r _=>cases h;exact⟨_,_,rfl,.inl (e _ _ h'),r.s⟩
 | own h' r _=>cases h;exact⟨_,_,rfl,.inl h',r⟩
 | fz h' r _=>cases h;exact⟨_,_,rfl,.inr ⟨_,e _ _ h'⟩,r.s⟩
 | ax _=>cases h
 | bl _=>cases h
 | int _=>cases h
 | str _=>cases h
 | tup _ _ _=>cases h
 | obj _ _ _ _=>cases h
 | bI _ _=>cases h
theorem S.rep{xs:List D}{ws:List V}(s:S F H xs ws):∀k:Nat,S F H (aQ k xs).flatten (aQ k ws).flatten
 | 0=>by simpa using S.nil
 | k+1=>by
  rw[qp,qp,tF,tF]
  exact s.append (S.rep s k)
noncomputable def rB:cV:=λx y Q=>match x,y with
 | .int i,.int j=>Q (.int (i+j))
 | .str a,.str b=>a.length+b.length<=sizeLine/\Q (.str (a++b))
 | .lst _ xs,.lst _ ys=>(xs.length+ys.length<=sizeLine/\xs.all D.pl=true/\ys.all D.pl=true)/\Q (.lst true (xs++ys))
 | _,_=>False
theorem cP5:bV X (binaryOp .Add) λx y Q=>∃o xs o' ys,x=.lst o xs/\y=.lst o' ys/\(xs.length+ys.length<=sizeLine/\xs.all D.pl=true/\ys.all D.pl=true)/\Q (.lst true (xs++ys)) :=
 ⟨_,N2,λ{B F H σ δ ts x y v w Q Qd} c sx sy h k=>by
  obtain⟨o,xs,o',ys,rfl,rfl,⟨hz,h1,h2⟩,q⟩:=h
  obtain⟨p,ws,rfl,e1,s1⟩:=jB sx c.ext
  obtain⟨p',gY,rfl,e2,s2⟩:=jB sy c.ext
  refine⟨p,p',ws,gY,rfl,rfl,e1,e2,by rw[<-s1.length,<- s2.length];exact hz,λr hr=>?_⟩
  exact k _ _ _ q (af.upd hr) (c.pE hr (s1.append s2) (by simp[h1,h2]))⟩
theorem c78:bV X (binaryOp .Add) λx y Q=>∃i j,x=.str i/\y=.str j/\i.length+j.length<=sizeLine/\Q (.str (i++j)) :=
 ⟨_,ZQ,λ{B F H σ δ ts x y v w Q Qd} c sx sy h k=>by
  obtain⟨i,j,rfl,rfl,hz,q⟩:=h
  cases sx;cases sy
  exact⟨i,j,rfl,rfl,hz,k _ _ _ q (af.refl _) (c.pushS (.str .nil) rfl)⟩⟩
theorem cC:bV X (binaryOp .Add) rB:=((kR (gd:=λi j=>.int (i+j)) ZA (λ_ _ _ _=>.int .nil) λ_ _=>rfl).or (c78.or cP5)).imp λx y Q h=>by
 unfold rB at h
 split at h
 ·exact .inl ⟨_,_,rfl,rfl,h⟩
 ·exact .inr (.inl ⟨_,_,rfl,rfl,h.1,h.2⟩)
 ·exact .inr (.inr ⟨_,_,_,_,rfl,rfl,h.1,h.2⟩)
 ·exact h.elim
noncomputable def iI(C:Int->Int->Prop)(g:Int->Int->D):cV:=λx y Q=>match x,y with
 | .int i,.int j=>C i j/\Q (g i j)
 | _,_=>False
noncomputable def ig(g:Int->Int->D):cV:=λx y Q=>match x,y with
 | .int i,.int j=>Q (g i j)
 | _,_=>False
theorem BD{f:Value->Value->Sem Value}{C:Int->Int->Prop}{g:Int->Int->D}(h:bV X f λx y Q=>∃i j,x=.int i/\y=.int j/\C i j/\Q (g i j)):bV X f (iI C g):=h.imp λx y Q h=>by
 unfold iI at h
 split at h
 ·exact⟨_,_,rfl,rfl,h.1,h.2⟩
 ·exact h.elim
theorem mE{f:Value->Value->Sem Value}{g:Int->Int->D}(h:bV X f λx y Q=>∃i j,x=.int i/\y=.int j/\Q (g i j)):bV X f (ig g):=h.imp λx y Q h=>by
 unfold ig at h
 split at h
 ·exact⟨_,_,rfl,rfl,h⟩
 ·exact h.elim
noncomputable def uR:cV:=ig λi j=>.int (i-j)
theorem dR:bV X (binaryOp .Sub) uR:=mE (kR E4 (λ_ _ _ _=>.int .nil) λ_ _=>rfl)
noncomputable def Gd(_ j:Int):Prop:=0<j/\j.natAbs.log2<9000
theorem rC{i j:Int}(h1:0<j)(h2:j<1073741824):Gd i j:=⟨h1,by
 have h:j.natAbs<2 ^ 30:=by omega
 have:=(Nat.log2_lt (show j.natAbs≠0 by omega)).mpr h
 omega⟩
theorem ca1:cP X (binaryOp .FloorDiv) (rI Gd λi j=>.int (i/j)):=xm λi j _ _ _ _ _ hc q =>
 floordiv_int (show j≠0 by have:=hc.1;omega) (by rw[X3 i (by have:=hc.1;omega)];exact q) (.inl (PyProof.noPylong_of_log2 hc.2))
noncomputable def uS:cV:=iI Gd λi j=>.int (i/j)
theorem rD:bV X (binaryOp .FloorDiv) uS:=BD (xN ca1 (λ_ _ _ _=>.int .nil) λ_ _=>rfl)
noncomputable def uT:cV:=iI (λ_ j=>0<j) λi j=>.int (i%j)
theorem dE:bV X (binaryOp .Mod) uT:=BD (xN ZC (λ_ _ _ _=>.int .nil) λ_ _=>rfl)
noncomputable def uU:cV:=iI Oz λi j=>.int (i*2 ^ j.toNat)
theorem uV:bV X (binaryOp .LShift) uU:=BD (xN OA (λ_ _ _ _=>.int .nil) λ_ _=>rfl)
noncomputable def uW:cV:=iI (λ_ j=>0<=j) λi j=>.int (i/2 ^ j.toNat)
theorem O1:bV X (binaryOp .RShift) uW:=BD (xN ZD (λ_ _ _ _=>.int .nil) λ_ _=>rfl)
noncomputable def uX:cV:=ig λi j=>.int (oO i j)
theorem O2:bV X (binaryOp .BitAnd) uX:=mE (kR ZE (λ_ _ _ _=>.int .nil) λ_ _=>rfl)
noncomputable def uY:cV:=ig λi j=>.int (oQ i j)
theorem uZ:bV X (binaryOp .BitXor) uY:=mE (kR ZF (λ_ _ _ _=>.int .nil) λ_ _=>rfl)
theorem cb2:cP X (binaryOp .Mult) (rI IntMulOk λi j=>.int (i*j)):=xm λ_ _ _ _ _ _ _ hc q=>mul_int q hc
noncomputable def rE:cV:=λx y Q=>match x,y with
 | .int i,.int j=>IntMulOk i j/\Q (.int (i*j))
 | .lst _ xs,.int k=>(-(2 ^ 63)<=k/\k<2 ^ 63/\xs.length*k.toNat<=sizeLine/\xs.all D.pl=true)/\Q (.lst true (aQ k.toNat xs).flatten)
 | _,_=>False
theorem cM5:bV X (binaryOp .Mult) λx y Q=>∃o xs k,x=.lst o xs/\y=.int k/\(-(2 ^ 63)<=k/\k<2 ^ 63/\xs.length*k.toNat<=sizeLine/\xs.all D.pl=true)/\Q (.lst true (aQ k.toNat xs).flatten) :=
 ⟨_,cH5,λ{B F H σ δ ts x y v w Q Qd} c sx sy h k=>by
  obtain⟨o,xs,n,rfl,rfl,⟨b1,b2,hz,h1⟩,q⟩:=h
  obtain⟨p,ws,rfl,e1,s1⟩:=jB sx c.ext
  cases sy
  refine⟨p,n,ws,rfl,rfl,e1,b1,b2,by rw[<-s1.length];exact hz,λr hr=>?_⟩
  refine k _ _ _ q (af.upd hr) (c.pE hr (s1.rep _) ?_)
  rw[c9]
  intro x hx
  obtain⟨l,hl,xO⟩:=List.mem_flatten.mp hx
  rw[(m4.mp hl).2]at xO
  exact c9.mp h1 x xO⟩
theorem fM:bV X (binaryOp .Mult) rE:=((xN (gd:=λi j=>.int (i*j)) cb2 (λ_ _ _ _=>.int .nil) λ_ _=>rfl).or cM5).imp λx y Q h=>by
 unfold rE at h
 split at h
 ·exact .inl ⟨_,_,rfl,rfl,h.1,h.2⟩
 ·exact .inr ⟨_,_,_,rfl,rfl,h.1,h.2⟩
 ·exact h.elim
theorem cE9:bV X (inplaceOp .Add) (ig λi j=>.int (i+j)):=mE (kR ZG (λ_ _ _ _=>.int .nil) λ_ _=>rfl)
theorem cF6:bV X (inplaceOp .Sub) (ig λi j=>.int (i-j)):=mE (kR ZH (λ_ _ _ _=>.int .nil) λ_ _=>rfl)
theorem BE:bV X (inplaceOp .BitXor) (ig λi j=>.int (oQ i j)):=mE (kR ZI (λ_ _ _ _=>.int .nil) λ_ _=>rfl)
noncomputable def u0:cV:=ig λi j=>.bl (decide (i<j))
noncomputable def u3:cV:=ig λi j=>.bl (decide (i<=j))
noncomputable def u4:cV:=ig λi j=>.bl (decide (j<i))
noncomputable def u5:cV:=ig λi j=>.bl (decide (j<=i))
theorem pK:bV X (compareOp .Lt) u0:=mE (kR NA (λ_ _ _ _=>.bl .nil) λ_ _=>rfl)
theorem kT:bV X (compareOp .LtE) u3:=mE (kR ZL (λ_ _ _ _=>.bl .nil) λ_ _=>rfl)
theorem xP:bV X (compareOp .Gt) u4:=mE (kR NB (λ_ _ _ _=>.bl .nil) λ_ _=>rfl)
theorem cR6:bV X (compareOp .GtE) u5:=mE (kR ZM (λ_ _ _ _=>.bl .nil) λ_ _=>rfl)
noncomputable def pL:D->Bool
 | .ax=>true
 | _=>false
noncomputable def rF:cV:=λx y Q=>match y with
 | .ax=>Q (.bl (!pL x))
 | _=>False
theorem cp8{d:D}(s:S F H [d] [v]):decide (v=.ax)=pL d:=by cases s<;>simp[pL]
theorem cB2:bV X (compareOp .IsNot) rF:=⟨_,ZN,λ{B F H σ δ ts x y v w Q Qd} c sx sy h k=>by
 unfold rF at h
 split at h
 ·cases sy
  refine⟨rfl,?_⟩
  rw[cp8 sx]
  exact k _ _ _ h (af.refl _) (c.pushS (.bl .nil) rfl)
 ·exact h.elim⟩
noncomputable def bR:D->D->Bool
 | .ax,.ax=>true
 | .bl a,.bl b=>a==b
 | .bl a,.int b=>(if a then 1 else 0)==b
 | .int a,.bl b=>a==(if b then 1 else 0)
 | .int a,.int b=>a==b
 | .str a,.str b=>a==b
 | .lst _ xs,.lst _ ys=>gA xs ys
 | .tup xs,.tup ys=>gA xs ys
 | _,_=>false
where gA:List D->List D->Bool
 | [],[]=>true
 | x::xs,y::ys=>bR x y&&gA xs ys
 | _,_=>false
noncomputable def dX:Nat->D->Bool
 | _,.ax=>true
 | _,.bl _=>true
 | _,.int _=>true
 | _,.str _=>true
 | n+1,.lst _ xs=>xs.all (dX n)
 | n+1,.tup xs=>xs.all (dX n)
 | _,_=>false
theorem Ge:∀(xs ys:List D),xs.length=ys.length->bR.gA xs ys=(aD xs.length).all λj=>bR (xs.getD j .ax) (ys.getD j .ax)
 | [],[],_=>rfl
 | x::xs,y::ys,h=>by
  rw[fF,Ye,dy,lY]
  show(bR x y&&bR.gA xs ys)=_
  rw[Ge xs ys (by simpa using h)]
  rfl
theorem Gf:∀(xs ys:List D),xs.length≠ys.length->bR.gA xs ys=false
 | [],[],h=>absurd rfl h
 | [],_::_,_=>rfl
 | _::_,[],_=>rfl
 | x::xs,y::ys,h=>by
  show(bR x y&&bR.gA xs ys)=false
  rw[Gf xs ys (by simpa using h),Bool.and_false]
noncomputable def ofV:V->D
 | .bl b=>.bl b
 | .int i=>.int i
 | .str z=>.str z
 | _=>.ax
theorem xQ{x:D}{v:V}(h:dX 0 x=true)(s:S F H [x] [v]):x=ofV v:=by
 cases s with
 | ax _=>rfl
 | bl _=>rfl
 | int _=>rfl
 | str _=>rfl
 | _=>cases h
theorem O3{x:D}(h:dX 0 x=true):bR x x=true:=by
 cases x with
 | ax=>rfl
 | bl b=>exact beq_self_eq_true b
 | int i=>exact beq_self_eq_true i
 | str z=>exact beq_self_eq_true z
 | _=>cases h
theorem pM{n:Nat}{x:D}(h:dX (n+1) x=true):dX 0 x=true\/(∃o xs,x=.lst o xs/\xs.all (dX n)=true)\/∃xs,x=.tup xs/\xs.all (dX n)=true:=by
 cases x with
 | lst o xs=>exact .inr (.inl ⟨o,xs,rfl,h⟩)
 | tup xs=>exact .inr (.inr ⟨xs,rfl,h⟩)
 | obj _ _ _=>exact absurd h iP
 | fz _=>exact absurd h iP
 | bI _=>exact absurd h iP
 | _=>exact .inl rfl
theorem BF{x:D}{p:Addr}(h:dX 0 x=true)(s:S F H [x] [.ref p]):False:=by
 rw[xQ h s]at s
 cases s
theorem O4:∀(n:Nat) {xs ys:List D} {vs:List V},xs.all (dX n)=true->ys.all (dX n)=true->S F H xs vs->S F H ys vs->af F H->bR.gA xs ys=true:=by
 intro n xs
 induction n generalizing xs with
 | zero =>
  induction xs with
  | nil=>intro ys vs _ _ s1 s2 _;cases s1;cases s2;rfl
  | cons x xs ih =>
   intro ys vs h1 h2 s1 s2 e
   obtain⟨v,bX,rfl,q1,r1⟩:=s1.cY
   cases ys with
   | nil=>cases s2
   | cons y ys =>
    obtain⟨v',FK,ee,q2,r2⟩:=s2.cY
    obtain⟨rfl,rfl⟩:=mZ ee
    rw[dy,fg]at h1 h2
    show(bR x y&&bR.gA xs ys)=true
    rw[ih h1.2 h2.2 r1 r2 e,m5,xQ h2.1 q2,<- xQ h1.1 q1]
    exact O3 h1.1
 | succ n O5 =>
  induction xs with
  | nil=>intro ys vs _ _ s1 s2 _;cases s1;cases s2;rfl
  | cons x xs ih =>
   intro ys vs h1 h2 s1 s2 e
   obtain⟨v,bX,rfl,q1,r1⟩:=s1.cY
   cases ys with
   | nil=>cases s2
   | cons y ys =>
    obtain⟨v',FK,ee,q2,r2⟩:=s2.cY
    obtain⟨rfl,rfl⟩:=mZ ee
    rw[dy,fg]at h1 h2
    show(bR x y&&bR.gA xs ys)=true
    rw[ih h1.2 h2.2 r1 r2 e,m5]
    have h1:=h1.1
    have h2:=h2.1
    clear ih r1 r2 s1 s2
    rcases pM h1 with k1 | ⟨o1,a1,rfl,k1⟩ | ⟨a1,rfl,k1⟩
    ·rcases pM h2 with k2 | ⟨o2,a2,rfl,k2⟩ | ⟨a2,rfl,k2⟩
     ·rw[xQ k2 q2,<- xQ k1 q1]
      exact O3 k1
     ·obtain⟨p,ws,rfl,_⟩:=jB q2 e
      exact(BF k1 q1).elim
     ·obtain⟨p,ws,rfl,_⟩:=kS q2
      exact(BF k1 q1).elim
    ·obtain⟨p,ws,rfl,e1,t1⟩:=jB q1 e
     rcases pM h2 with k2 | ⟨o2,a2,rfl,k2⟩ | ⟨a2,rfl,k2⟩
     ·exact(BF k2 q2).elim
     ·obtain⟨p2,Gg,ev,e2,t2⟩:=jB q2 e
      cases ev
      cases e1.symm.trans e2
      exact O5 k1 k2 t1 t2 e
     ·obtain⟨p2,Gg,ev,e2,t2⟩:=kS q2
      cases ev
      cases e1.symm.trans e2
    ·obtain⟨p,ws,rfl,e1,t1⟩:=kS q1
     rcases pM h2 with k2 | ⟨o2,a2,rfl,k2⟩ | ⟨a2,rfl,k2⟩
     ·exact(BF k2 q2).elim
     ·obtain⟨p2,Gg,ev,e2,t2⟩:=jB q2 e
      cases ev
      cases e1.symm.trans e2
     ·obtain⟨p2,Gg,ev,e2,t2⟩:=kS q2
      cases ev
      cases e1.symm.trans e2
      exact O5 k1 k2 t1 t2 e
end
end L3
namespace L3
open PySem L2 PySem.Spec PyProof.Rows
structure O6(A:Around)(s:Shared)(u w:Value)(b:Bool):Prop where
 rc:SeqAt.RcAt A s u w b
 ne:SeqAt.RcNeAt A s u w (!b)
 eq:Ej A s u w b
section
variable{X:Cx}{F H:Hp}{v w:V}
theorem O7{xs:List V}{us:List Value}(r:Vals xs us){j:Nat}(h:j<us.toArray.size):∃x,xs[j]?=some x/\RelV x us.toArray[j]:=by
 have l:=r.length
 have hj:j<xs.length:=by rw[l];simpa using h
 obtain⟨u,e,q⟩:=r.get (aO hj)
 obtain⟨_,z⟩:=jI.mp e
 refine⟨_,aO hj,?_⟩
 have:us.toArray[j]=u:=by simpa using z
 rw[this];exact q
theorem O8{xs:List D}{j:Nat}{d:D}(h:xs[j]?=some d):xs.getD j .ax=d:=by rw[aL,h];rfl
theorem u6{x:D}{v:V}{u:Value}(h:dX 0 x=true)(s:S F H [x] [v])(r:RelV v u):(x=.ax/\u=.none)\/(∃b,x=.bl b/\u=.bool b)\/(∃i t,x=.int i/\u=.int i t)\/∃z t,x=.str z/\u=.str z t:=by
 cases s with
 | ax _=>cases r;exact .inl ⟨rfl,rfl⟩
 | bl _=>cases r;exact .inr (.inl ⟨_,rfl,rfl⟩)
 | int _=>obtain⟨t,rfl⟩:=r;exact .inr (.inr (.inl ⟨_,t,rfl,rfl⟩))
 | str _=>obtain⟨t,rfl⟩:=r;exact .inr (.inr (.inr ⟨_,t,rfl,rfl⟩))
 | _=>exact absurd h iP
theorem O9{x y:D}{u u':Value}{A:Around}{s:Shared}(h1:(x=.ax/\u=.none)\/(∃b,x=.bl b/\u=.bool b)\/(∃i t,x=.int i/\u=.int i t)\/∃z t,x=.str z/\u=.str z t)(h2:(y=.ax/\u'=.none)\/(∃b,y=.bl b/\u'=.bool b)\/(∃i t,y=.int i/\u'=.int i t)\/∃z t,y=.str z/\u'=.str z t):O6 A s u u' (bR x y):=by
 rcases h1 with⟨rfl,rfl⟩ | ⟨a,rfl,rfl⟩ | ⟨a,t,rfl,rfl⟩ | ⟨a,t,rfl,rfl⟩<;>rcases h2 with⟨rfl,rfl⟩ | ⟨b,rfl,rfl⟩ | ⟨b,t',rfl,rfl⟩ | ⟨b,t',rfl,rfl⟩
 ·exact⟨.none_none,.none_none,.same _⟩
 ·exact⟨.none_bool _,.none_bool _,.none_bool _⟩
 ·exact⟨.none_int _ _,.none_int _ _,.none_int _ _⟩
 ·exact⟨.none_str _ _,.none_str _ _,.none_str _ _⟩
 ·exact⟨.bool_none _,.bool_none _,.bool_none _⟩
 ·exact⟨.bool_bool _ _,.bool_bool _ _,.bool_bool _ _⟩
 ·exact⟨.bool_int _ _ _,.bool_int _ _ _,.bool_int _ _ _⟩
 ·exact⟨.bool_str _ _ _,.bool_str _ _ _,.bool_str _ _ _⟩
 ·exact⟨.int_none _ _,.int_none _ _,.int_none _ _⟩
 ·exact⟨.int_bool _ _ _,.int_bool _ _ _,.int_bool _ _ _⟩
 ·exact⟨.int_int _ _ _ _,.int_int _ _ _ _,.int_int _ _ _ _⟩
 ·exact⟨.int_str _ _ _ _,.int_str _ _ _ _,.int_str _ _ _ _⟩
 ·exact⟨.str_none _ _,.str_none _ _,.str_none _ _⟩
 ·exact⟨.str_bool _ _ _,.str_bool _ _ _,.str_bool _ _ _⟩
 ·exact⟨.str_int _ _ _ _,.str_int _ _ _ _,.str_int _ _ _ _⟩
 ·exact⟨.str_str _ _ _ _,.str_str _ _ _ _,.str_str _ _ _ _⟩
theorem Pa{pins:List (Addr × Obj)}{σ:L2.St}{s:Shared}(I:Inv X pins σ H s)(e:af F H):∀(n:Nat) (x y:D) (v w:V) (u u':Value) (A:Around),dX n x=true->dX n y=true->S F H [x] [v]->S F H [y] [w]->RelV v u->RelV w u' ->
  A.units+n<cLine->O6 A s u u' (bR x y):=by
 intro n
 induction n with
 | zero =>
  intro x y v w u u' A hx hy sx sy rv gG hu
  exact O9 (u6 hx sx rv) (u6 hy sy gG)
 | succ n ih =>
  intro x y v w u u' A hx hy sx sy rv gG hu
  have bz:A.units<cLine:=mW (Nat.le_add_right ..) hu
  have Pb:A.in1.units+n<cLine:=by show A.units+1+n<cLine;rw[Ex,wI 1];exact hu
  have items:∀{xs ys:List D} {vs ws:List V} {us u7:List Value},xs.all (dX n)=true->ys.all (dX n)=true->S F H xs vs->S F H ys ws->Vals vs us->Vals ws u7 ->
    ∀j (h1:j<us.toArray.size) (h2:j<u7.toArray.size),Ej A.in1 s us.toArray[j] u7.toArray[j] (bR (xs.getD j .ax) (ys.getD j .ax)):=by
   intro xs ys vs ws us u7 hx hy sx sy r1 r2 j h1 h2
   obtain⟨a,e1,q1⟩:=O7 r1 h1
   obtain⟨b,e2,q2⟩:=O7 r2 h2
   obtain⟨d1,g1,t1⟩:=sx.get' e1
   obtain⟨d2,g2,t2⟩:=sy.get' e2
   rw[O8 g1,O8 g2]
   exact(ih d1 d2 a b _ _ A.in1 (c9.mp hx d1 (tD g1)) (c9.mp hy d2 (tD g2)) t1 t2 q1 q2 Pb).eq
  clear ih hu Pb
  rcases pM hx with k1 | ⟨o,xs,rfl,k1⟩ | ⟨xs,rfl,k1⟩
  ·have f:=u6 k1 sx rv
   rcases pM hy with k2 | ⟨o',ys,rfl,k2⟩ | ⟨ys,rfl,k2⟩
   ·exact O9 f (u6 k2 sy gG)
   ·obtain⟨p',gY,rfl,e2,t2⟩:=jB sy e
    cases gG
    obtain⟨kU,r2,p2,z2⟩:=I.list (bS.of (K:=X.K) e2)
    have p2:=p2.isList
    rcases f with⟨rfl,rfl⟩ | ⟨a,rfl,rfl⟩ | ⟨a,t,rfl,rfl⟩ | ⟨a,t,rfl,rfl⟩
    ·exact⟨.none_list p2 bz,.none_list p2 bz,.none_list p2 bz⟩
    ·exact⟨.bool_list _ p2 bz,.bool_list _ p2 bz,.bool_list _ p2 bz⟩
    ·exact⟨.int_list _ _ p2 bz,.int_list _ _ p2 bz,.int_list _ _ p2 bz⟩
    ·exact⟨.str_list _ _ p2 bz,.str_list _ _ p2 bz,.str_list _ _ p2 bz⟩
   ·obtain⟨p',gY,rfl,e2,t2⟩:=kS sy
    cases gG
    obtain⟨kU,r2,p2,z2⟩:=I.tuple (iz.of (K:=X.K) e2)
    rcases f with⟨rfl,rfl⟩ | ⟨a,rfl,rfl⟩ | ⟨a,t,rfl,rfl⟩ | ⟨a,t,rfl,rfl⟩
    ·exact⟨.none_tuple p2 bz,.none_tuple p2 bz,.none_tuple p2 bz⟩
    ·exact⟨.bool_tuple _ p2 bz,.bool_tuple _ p2 bz,.bool_tuple _ p2 bz⟩
    ·exact⟨.int_tuple _ _ p2 bz,.int_tuple _ _ p2 bz,.int_tuple _ _ p2 bz⟩
    ·exact⟨.str_tuple _ _ p2 bz,.str_tuple _ _ p2 bz,.str_tuple _ _ p2 bz⟩
  ·obtain⟨p,ws,rfl,e1,t1⟩:=jB sx e
   cases rv
   obtain⟨its,r1,p1,z1⟩:=I.list (bS.of (K:=X.K) e1)
   have p1:=p1.isList
   rcases pM hy with k2 | ⟨o',ys,rfl,k2⟩ | ⟨ys,rfl,k2⟩
   ·rcases u6 k2 sy gG with⟨rfl,rfl⟩ | ⟨a,rfl,rfl⟩ | ⟨a,t,rfl,rfl⟩ | ⟨a,t,rfl,rfl⟩
    ·exact⟨.list_none p1 bz,.list_none p1 bz,.list_none p1 bz⟩
    ·exact⟨.list_bool _ p1 bz,.list_bool _ p1 bz,.list_bool _ p1 bz⟩
    ·exact⟨.list_int _ _ p1 bz,.list_int _ _ p1 bz,.list_int _ _ p1 bz⟩
    ·exact⟨.list_str _ _ p1 bz,.list_str _ _ p1 bz,.list_str _ _ p1 bz⟩
   ·obtain⟨p',gY,rfl,e2,t2⟩:=jB sy e
    cases gG
    obtain⟨kU,r2,p2,z2⟩:=I.list (bS.of (K:=X.K) e2)
    have p2:=p2.isList
    have xR:xs.length=its.length:=t1.length.trans r1.length
    have BG:ys.length=kU.length:=t2.length.trans r2.length
    by_cases hl:xs.length=ys.length
    ·have t7:its.toArray.size=kU.toArray.size:=by rw[eB,eB,<- xR,<- BG];exact hl
     have ev:(aD its.toArray.size).all (λj=>bR (xs.getD j .ax) (ys.getD j .ax))=bR (.lst o xs) (.lst o' ys):=by
      show _=bR.gA xs ys
      rw[Ge xs ys hl,eB,<- xR]
     have a:=SeqAt.RcAt.lists (e:=λj=>bR (xs.getD j .ax) (ys.getD j .ax)) p1 p2 t7 bz (items k1 k2 t1 t2 r1 r2)
     have b:=SeqAt.RcNeAt.lists (e:=λj=>bR (xs.getD j .ax) (ys.getD j .ax)) p1 p2 t7 bz (items k1 k2 t1 t2 r1 r2)
     rw[ev]at a b
     refine⟨a,b,?_⟩
     by_cases rG:p=p'
     ·subst rG
      cases e1.symm.trans e2
      rw[show bR (.lst o xs) (.lst o' ys)=true from O4 n k1 k2 t1 t2 e]
      exact .same _
     ·exact .of_refs rG a
    ·have t7:(its.toArray.size != kU.toArray.size)=true:=bne_iff_ne.mpr (by rw[eB,eB,<- xR,<- BG];exact hl)
     rw[show bR (.lst o xs) (.lst o' ys)=false from Gf xs ys hl]
     have a:=SeqAt.RcAt.lists_lengths p1 p2 t7 bz
     refine⟨a,SeqAt.RcNeAt.lists_lengths p1 p2 t7 bz,.of_refs (λrG=>?_) a⟩
     subst rG
     cases e1.symm.trans e2
     exact hl (t1.length.trans t2.length.symm)
   ·obtain⟨p',gY,rfl,e2,t2⟩:=kS sy
    cases gG
    obtain⟨kU,r2,p2,z2⟩:=I.tuple (iz.of (K:=X.K) e2)
    exact⟨.list_tuple p1 p2 bz,.list_tuple p1 p2 bz,.list_tuple p1 p2 bz⟩
  ·obtain⟨p,ws,rfl,e1,t1⟩:=kS sx
   cases rv
   obtain⟨its,r1,p1,z1⟩:=I.tuple (iz.of (K:=X.K) e1)
   rcases pM hy with k2 | ⟨o',ys,rfl,k2⟩ | ⟨ys,rfl,k2⟩
   ·rcases u6 k2 sy gG with⟨rfl,rfl⟩ | ⟨a,rfl,rfl⟩ | ⟨a,t,rfl,rfl⟩ | ⟨a,t,rfl,rfl⟩
    ·exact⟨.tuple_none p1 bz,.tuple_none p1 bz,.tuple_none p1 bz⟩
    ·exact⟨.tuple_bool _ p1 bz,.tuple_bool _ p1 bz,.tuple_bool _ p1 bz⟩
    ·exact⟨.tuple_int _ _ p1 bz,.tuple_int _ _ p1 bz,.tuple_int _ _ p1 bz⟩
    ·exact⟨.tuple_str _ _ p1 bz,.tuple_str _ _ p1 bz,.tuple_str _ _ p1 bz⟩
   ·obtain⟨p',gY,rfl,e2,t2⟩:=jB sy e
    cases gG
    obtain⟨kU,r2,p2,z2⟩:=I.list (bS.of (K:=X.K) e2)
    have p2:=p2.isList
    exact⟨.tuple_list p1 p2 bz,.tuple_list p1 p2 bz,.tuple_list p1 p2 bz⟩
   ·obtain⟨p',gY,rfl,e2,t2⟩:=kS sy
    cases gG
    obtain⟨kU,r2,p2,z2⟩:=I.tuple (iz.of (K:=X.K) e2)
    have xR:xs.length=its.length:=t1.length.trans r1.length
    have BG:ys.length=kU.length:=t2.length.trans r2.length
    have ev:((aD (min its.toArray.size kU.toArray.size)).all (λj=>bR (xs.getD j .ax) (ys.getD j .ax))&&its.toArray.size==kU.toArray.size)=bR (.tup xs) (.tup ys):=by
     show _=bR.gA xs ys
     rw[eB,eB,<- xR,<- BG]
     by_cases hl:xs.length=ys.length
     ·rw[Ge xs ys hl,<- hl,wL,beq_self_eq_true,m5]
     ·rw[Gf xs ys hl,beq_false_of_ne hl,Bool.and_false]
    have a:=SeqAt.RcAt.tuples (e:=λj=>bR (xs.getD j .ax) (ys.getD j .ax)) p1 p2 bz (items k1 k2 t1 t2 r1 r2)
    have b:=SeqAt.RcNeAt.tuples (e:=λj=>bR (xs.getD j .ax) (ys.getD j .ax)) p1 p2 bz (items k1 k2 t1 t2 r1 r2)
    rw[ev]at a b
    refine⟨a,b,?_⟩
    by_cases rG:p=p'
    ·subst rG
     cases e1.symm.trans e2
     rw[show bR (.tup xs) (.tup ys)=true from O4 n k1 k2 t1 t2 e]
     exact .same _
    ·exact .of_refs rG a
noncomputable def u9:cV:=λx y Q=>(dX 6 x=true/\dX 6 y=true)/\Q (.bl (bR x y))
noncomputable def va:cV:=λx y Q=>(dX 6 x=true/\dX 6 y=true)/\Q (.bl (!bR x y))
theorem gJ(hu:X.A.units+6<cLine):bV X (compareOp .Eq) u9:=bV.of λpins s σ H v w u u' Q I rv gG zz=>by
 obtain⟨B,F,aR,δ,ts,x,y,Qd,c,sx,sy,⟨⟨hx,hy⟩,q⟩,k⟩:=zz
 exact(Pa I c.ext 6 x y v w u u' X.A hx hy sx sy rv gG hu).rc _ _ _ _ ⟨.bl _,H,I,rfl,k _ _ _ q (af.refl _) (c.pushS (.bl .nil) rfl)⟩
theorem ij(hu:X.A.units+6<cLine):bV X (compareOp .NotEq) va:=bV.of λpins s σ H v w u u' Q I rv gG zz=>by
 obtain⟨B,F,aR,δ,ts,x,y,Qd,c,sx,sy,⟨⟨hx,hy⟩,q⟩,k⟩:=zz
 exact(Pa I c.ext 6 x y v w u u' X.A hx hy sx sy rv gG hu).ne _ _ _ _ ⟨.bl _,H,I,rfl,k _ _ _ q (af.refl _) (c.pushS (.bl .nil) rfl)⟩
end
end L3
namespace L3
open PySem L2 PySem.Spec PyProof.Rows
section
variable{X:Cx}{F H:Hp}{v w:V}{e a b c o:Expr}{es:List Expr}{pos p p2 apos cX:Pos}{t ta tb tc te:aS}{tr:cU}{x:Str}
theorem b68{r r':R2}{rd xS:cV}(hl:Bt r rd)(oZ:Bt r' xS):∀σ H Q,lE (rj rd xS ta tb tc) σ H Q->ND r r' (lB ta) (lB tb) (lB tc) σ H Q:=λσ H Q ⟨B,F,δ,ts,Qd,c,q,k⟩ =>
 ⟨B,F,δ,ts,_,c,q,λx ao v F1 H1 q1 f1 h1 c1 s1=>⟨B,F1,ao,ts,_,c1,q1,λy br w F2 H2 q2 f2 h2 c2 s2=>by
  refine hl c2 (s1.mono f2 h2) s2 q2 λd z H' hd hs c3=>?_
  obtain⟨b,rfl,qb⟩:=hd
  have st:=c3.top
  cases st with
  | bl _ =>
   refine⟨b,rfl,?_⟩
   cases b with
   | true =>
    refine ph ⟨B,F2,br,ts,_,c3.pop,by simpa using qb,λz i5 w3 F3 H3 q3 f3 h3 c4 s3=>?_⟩
    exact oZ c4 (s2.mono f3 (hs.trans h3)) s3 q3 λd z H' hd hs' c5=>k d i5 z F3 H' hd ((f1.trans f2).trans f3) ((((h1.trans h2).trans hs).trans h3).trans hs') c5
   | false=>exact iW (k _ br _ F2 H' (by simpa using qb) (f1.trans f2) ((h1.trans h2).trans hs) (c3.pop.pushS (.bl .nil) rfl))⟩⟩
theorem vb{op qS:CmpOp}{rd xS:cV}(ho:bV X (compareOp op) rd)(kJ:bV X (compareOp qS) xS)(ha:PE X a (lB ta))(hb:PE X b (lB tb))(hc:PE X c (lB tc))
  (hm:lastMarks [op,qS] [b,c]=false:=by with_unfolding_all rfl):PE X (.Compare a [op,qS] [b,c] pos) (lE (rj rd xS ta tb tc)):=by
 obtain⟨r,h1,h2⟩:=ho
 obtain⟨r',jO,iX⟩:=kJ
 exact dP (ZP h1 jO ha hb hc hm) (b68 h2 iX)
noncomputable def vd(t:aS):aS:=λδ Q=>t δ λd ah=>match d with
 | .int i=>Q (.int (-i)) ah
 | _=>False
theorem Pc(ha:PE X a (lB ta)):PE X (.UnaryOp .USub a pos) (lE (vd ta)):=dP (Zy ZK ha) λσ H Q zq=>by
 obtain⟨B,F,δ,ts,Qd,c,q,k⟩:=zq
 exact⟨B,F,δ,ts,_,c,q,λd ao v F1 H1 q1 f1 h1 c1 s1=>by
 cases s1 with
 | int _=>exact⟨_,rfl,k _ ao _ F1 H1 q1 f1 h1 (c1.pushS (.int .nil) rfl)⟩
 | _=>exact q1.elim⟩
noncomputable abbrev jU:=List D->(D->Prop)->Prop
noncomputable def lc(rd:jU):List V->Hp->VK->Prop:=λvs H Q=>∃B F σ δ ts ds Qd,av B F H σ δ ts/\S F H ds vs/\rd ds Qd/\∀d z H',Qd d->af H H'->av B F H' σ δ ((d,z)::ts)->Q z H'
noncomputable def ik(X:Cx)(f:Value)(rd:jU):Prop:=gU X f (lc rd)
theorem ik.of{f:Value}{r:List V->Hp->VK->Prop}{rd:jU}(h:gU X f r)(m:∀vs H Q,lc rd vs H Q->r vs H Q):ik X f rd:=λpins s σ H xs us Q I r q=>h pins s σ H xs us Q I r (m xs H Q q)
noncomputable def pO(rd:jU)(t:cU):aS:=λδ Q=>t δ λds ah=>rd ds λd=>Q d ah
theorem Pd{rd:jU}:∀σ H Q,lE (pO rd tr) σ H Q->Fc (lc rd) (lA tr) σ H Q:=λσ H Q zq=>by
 obtain⟨B,F,δ,ts,Qd,c,q,k⟩:=zq
 exact⟨B,F,δ,ts,_,c,q,λds ao vs F1 H1 q1 f1 h1 c1 s1 =>
 ⟨B,F1,σ,ao,ts,ds,_,c1,s1,q1,λd z H' hd hs c'=>k d ao z F1 H' hd f1 (h1.trans hs) c'⟩⟩
theorem cK{id:String}{rd:jU}(hc:ik X (.builtin id) rd)(hg:Gl X x)(hm:X.mg x=none)(hv:bootBuiltins x=some (.builtin id))(ha:PA X (e::es) (lA tr))(hn:x≠"__name__":=by decide)(eH:(x==("__debug__":Str))=false:=by decide)
  (he:starEach (e::es) X.env=(false,eval e X.env)::starEach es X.env:=by rfl) (bZ:(backTo pos (starEach es X.env)).any (·.1)=false:=by rfl):PE X (.Call (.Name x p) (e::es) [] pos) (lE (pO rd tr)) :=
 dP (Be hc hg hm hv ha hn eH he bZ) Pd
theorem xT{T:String}{rd:jU}(hc:ik X (.type T) rd)(hg:Gl X x)(hm:X.mg x=none)(hv:bootBuiltins x=some (.type T))(ha:PA X (e::es) (lA tr))(hn:x≠"__name__":=by decide)(eH:(x==("__debug__":Str))=false:=by decide)
  (he:starEach (e::es) X.env=(false,eval e X.env)::starEach es X.env:=by rfl) (bZ:(backTo pos (starEach es X.env)).any (·.1)=false:=by rfl):PE X (.Call (.Name x p) (e::es) [] pos) (lE (pO rd tr)) :=
 dP (χ hc hg hm hv ha hn eH he bZ) Pd
theorem kW{d:D}{vs:List V}(s:S F H [d] vs):∃v,vs=[v]/\S F H [d] [v]:=by
 obtain⟨v,bX,rfl,h1,h2⟩:=s.cY
 cases h2
 exact⟨v,rfl,h1⟩
theorem cN4{d d':D}{vs:List V}(s:S F H [d,d'] vs):∃v v',vs=[v,v']/\S F H [d] [v]/\S F H [d'] [v']:=by
 obtain⟨v,bX,rfl,h1,h2⟩:=s.cY
 obtain⟨v',rfl,h3⟩:=kW h2
 exact⟨v,v',rfl,h1,h3⟩
theorem kX{K:PySem.W.Frag}{p:Addr}{ws:List V}(h:Rd H p (.lst ws)):bS K H p ws:=.inl h
noncomputable def rH:jU:=λds Q=>match ds with
 | [.lst _ xs]=>Q (.int xs.length)
 | [.fz xs]=>Q (.int xs.length)
 | [.tup xs]=>Q (.int xs.length)
 | [.str z]=>z.length<=sizeLine/\Q (.int z.length)
 | _=>False
theorem eY:ik X (.builtin "len") rH:=ik.of (NW.or bI5) λvs H Q zz=>by
 obtain⟨B,F,σ,δ,ts,ds,Qd,c,s,q,k⟩:=zz
 unfold rH at q
 split at q
 ·obtain⟨v,rfl,s1⟩:=kW s
  obtain⟨p,ws,rfl,h,t⟩:=mD s1 c.ext rfl
  refine .inl ⟨p,ws,rfl,.inl (kX h),?_⟩
  rw[<-t.length]
  exact k _ _ _ q (af.refl _) (c.pushS (.int .nil) rfl)
 ·obtain⟨v,rfl,s1⟩:=kW s
  obtain⟨p,ws,rfl,h,t⟩:=mD s1 c.ext rfl
  refine .inl ⟨p,ws,rfl,.inl (kX h),?_⟩
  rw[<-t.length]
  exact k _ _ _ q (af.refl _) (c.pushS (.int .nil) rfl)
 ·obtain⟨v,rfl,s1⟩:=kW s
  obtain⟨p,ws,rfl,h,t⟩:=kS s1
  refine .inl ⟨p,ws,rfl,.inr (iz.of h),?_⟩
  rw[<-t.length]
  exact k _ _ _ q (af.refl _) (c.pushS (.int .nil) rfl)
 ·obtain⟨v,rfl,s1⟩:=kW s
  cases s1
  exact .inr ⟨_,rfl,q.1,k _ _ _ q.2 (af.refl _) (c.pushS (.int .nil) rfl)⟩
 ·exact q.elim
noncomputable def rJ:jU:=λds Q=>match ds with
 | [.lst _ xs]=>xs.all D.pl=true/\Q (.lst true xs)
 | [.fz xs]=>Q (.lst true xs)
 | [.tup xs]=>xs.all D.pl=true/\Q (.lst true xs)
 | _=>False
theorem xU:ik X (.type "list") rJ:=ik.of bI4 λvs H Q zz=>by
 obtain⟨B,F,σ,δ,ts,ds,Qd,c,s,q,k⟩:=zz
 unfold rJ at q
 split at q
 ·obtain⟨v,rfl,s1⟩:=kW s
  obtain⟨p,ws,rfl,h,t⟩:=mD s1 c.ext rfl
  exact⟨p,ws,rfl,.inl (kX h),λl hl=>k _ _ _ q.2 (af.upd hl) (c.pE hl t q.1)⟩
 ·obtain⟨v,rfl,s1⟩:=kW s
  cases s1 with
  | fz h r _=>exact⟨_,_,rfl,.inl (kX (.inr ⟨_,c.ext _ _ h⟩)),λl hl=>k _ _ _ q (af.upd hl) (c.pE hl r.s r.pl)⟩
 ·obtain⟨v,rfl,s1⟩:=kW s
  obtain⟨p,ws,rfl,h,t⟩:=kS s1
  exact⟨p,ws,rfl,.inr (iz.of h),λl hl=>k _ _ _ q.2 (af.upd hl) (c.pE hl t q.1)⟩
 ·exact q.elim
noncomputable def ii(g:Int->Int->Int):jU:=λds Q=>match ds with
 | [.int i,.int j]=>Q (.int (g i j))
 | _=>False
theorem cP6{f:Value}{g:Int->Int->Int}(h:gU X f (λxs H Q=>∃i j,xs=[.int i,.int j]/\Q (.int (g i j)) H)):ik X f (ii g):=ik.of h λvs H Q zz=>by
 obtain⟨B,F,σ,δ,ts,ds,Qd,c,s,q,k⟩:=zz
 unfold ii at q
 split at q
 ·obtain⟨v,v',rfl,s1,s2⟩:=cN4 s
  cases s1;cases s2
  exact⟨_,_,rfl,k _ _ _ q (af.refl _) (c.pushS (.int .nil) rfl)⟩
 ·exact q.elim
theorem xV(hc:X.calm=true):ik X (.builtin "min") (ii λi j=>if j<i then j else i):=cP6 (ZS hc)
noncomputable def kY(bs:List Bool):List D:=bs.map D.bl
theorem Gh:∀{bs:List Bool} {ws:List V},S F H (kY bs) ws->ws=bs.map V.bl
 | [],_,s=>by cases s;rfl
 | b::bs,_,s=>by
  cases s with
  | bl s=>rw[Gh s];rfl
noncomputable def rK:jU:=λds Q=>match ds with
 | [.lst _ xs]=>∃bs,xs=kY bs/\Q (.bl (bs.all id))
 | _=>False
noncomputable def rL:jU:=λds Q=>match ds with
 | [.lst _ xs]=>∃bs,xs=kY bs/\Q (.bl (bs.any id))
 | _=>False
theorem rM(hc:X.calm=true):ik X (.builtin "all") rK:=ik.of (cf7 hc) λvs H Q zz=>by
 obtain⟨B,F,σ,δ,ts,ds,Qd,c,s,q,k⟩:=zz
 unfold rK at q
 split at q
 ·obtain⟨v,rfl,s1⟩:=kW s
  obtain⟨bs,rfl,q⟩:=q
  obtain⟨p,ws,rfl,h,t⟩:=mD s1 c.ext rfl
  rw[Gh t]at h
  exact⟨p,bs,rfl,kX h,k _ _ _ q (af.refl _) (c.pushS (.bl .nil) rfl)⟩
 ·exact q.elim
theorem cL8(hc:X.calm=true):ik X (.builtin "any") rL:=ik.of (cb5 hc) λvs H Q zz=>by
 obtain⟨B,F,σ,δ,ts,ds,Qd,c,s,q,k⟩:=zz
 unfold rL at q
 split at q
 ·obtain⟨v,rfl,s1⟩:=kW s
  obtain⟨bs,rfl,q⟩:=q
  obtain⟨p,ws,rfl,h,t⟩:=mD s1 c.ext rfl
  rw[Gh t]at h
  exact⟨p,bs,rfl,kX h,k _ _ _ q (af.refl _) (c.pushS (.bl .nil) rfl)⟩
 ·exact q.elim
noncomputable def Gi:D->Option String
 | .int _=>some "int"
 | .bl _=>some "bool"
 | .ax=>some "NoneType"
 | .str _=>some "str"
 | .lst _ _=>some "list"
 | .fz _=>some "list"
 | .tup _=>some "tuple"
 | _=>none
noncomputable def Gj(k n:String):Option Bool:=([("int","int",true),("int","bool",false),("int","list",false),("int","tuple",false),("int","str",false),("bool","int",true),("bool","bool",true),("bool","list",false),("bool","tuple",false),("bool","str",false),
 ("NoneType","int",false),("NoneType","bool",false),("NoneType","list",false),("NoneType","tuple",false),("NoneType","str",false),("str","int",false),("str","bool",false),("str","list",false),("str","tuple",false),("str","str",true),
 ("list","int",false),("list","bool",false),("list","list",true),("list","tuple",false),("list","str",false),("tuple","int",false),("tuple","bool",false),("tuple","list",false),("tuple","tuple",true),("tuple","str",false)].find? λz=>z.1==k&&z.2.1==n).map (·.2.2)
noncomputable def mF(n:String)(d:D):Option Bool:=(Gi d).bind λk=>Gj k n
theorem cH2{K:PySem.W.Frag}{k n:String}{r:Bool}(h:Gj k n=some r):PySem.W.kitOne K (.type k) (.type n)=some r:=by
 unfold Gj at h
 obtain⟨z,hz,rfl⟩:=An.mp h
 have hm:=MM hz
 have hp:=List.find?_some hz
 rw[fg,beq_iff_eq,beq_iff_eq]at hp
 obtain⟨rfl,rfl⟩:=hp
 simp only[cA,gR,or_false]at hm
 repeat' (rcases hm with hm | hm)
 all_goals rfl
theorem cw1{K:PySem.W.Frag}{d:D}(s:S F H [d] [v])(e:af F H){k:String}(h:Gi d=some k):iA K H v (.type k):=by
 cases s with
 | int _=>cases h;exact .int _
 | bl _=>cases h;exact .bl _
 | ax _=>cases h;exact .ax
 | str _=>cases h;exact .str _
 | shr h' _ _=>cases h;exact .lst (e _ _ h')
 | own h' _ _=>cases h;exact .lst h'
 | fz h' _ _=>cases h;exact .bx (e _ _ h')
 | tup h' _ _=>cases h;exact .tup h'
 | obj _ _ _ _=>cases h
 | bI _ _=>cases h
theorem cL4{K:PySem.W.Frag}{d:D}(s:S F H [d] [v])(e:af F H){n:String}{r:Bool}(h:mF n d=some r):∃t,iA K H v t/\PySem.W.kitOne K t (.type n)=some r:=by
 unfold mF at h
 cases hk:Gi d with
 | none=>rw[hk]at h;cases h
 | some k=>rw[hk]at h;exact⟨_,cw1 s e hk,cH2 h⟩
noncomputable def ve(n:String)(t:aS):aS:=λδ Q=>t δ λd ah=>∃r,mF n d=some r/\Q (.bl r) ah
theorem BH{n:String}{y:Str}{q:Pos}(hg:Gl X "isinstance")(hm:X.mg "isinstance"=none)(Gk:Gl X y)(vg:X.mg y=none)(hv2:bootBuiltins y=some (.type n))(ha:PE X a (lB ta))
  (hn:y≠"__name__":=by decide) (hd:(y==("__debug__":Str))=false:=by decide)
  (hs:starEach [a,.Name y q] X.env=(false,eval a X.env)::starEach [.Name y q] X.env:=by rfl) (fJ:starEach [.Name y q] X.env=(false,eval (.Name y q) X.env)::starEach [] X.env:=by rfl) (bZ:(backTo pos (starEach [.Name y q] X.env)).any (·.1)=false:=by rfl) :
  PE X (.Call (.Name "isinstance" p) [a,.Name y q] [] pos) (lE (ve n ta)) :=
 dP (Be bt5 hg hm Ou (cm ha (cm (cO5 Gk vg hv2 hn hd) fw fJ) hs) (by decide) (by decide) hs bZ) λσ H Q zq=>by
 obtain⟨B,F,δ,ts,Qd,c,q,k⟩:=zq
 exact⟨B,F,δ,ts,_,c,q,λd ao v F1 H1 q1 f1 h1 c1 s1=>by
  obtain⟨r,e,qr⟩:=q1
  obtain⟨t,h2,h3⟩:=cL4 (K:=X.K) s1 c1.ext e
  exact⟨v,n,t,r,rfl,h2,h3,k _ ao _ F1 H1 qr f1 h1 (c1.pushS (.bl .nil) rfl)⟩⟩
theorem Gm{xs:List D}{ws:List V}{i:Int}{d:D}(s:S F H xs ws)(h:fo xs i=some d):∃v,fo ws i=some v/\S F H [d] [v]:=by
 unfold fo at h ⊢
 rw[<-s.length]
 cases e:iU xs.length i with
 | none=>rw[e]at h;cases h
 | some j =>
  rw[e]at h
  exact s.get h
noncomputable def rN(x y:D)(Q:D->Prop):Prop:=match x,y with
 | .lst _ xs,.int i=>∃d,fo xs i=some d/\Q d
 | .fz xs,.int i=>∃d,fo xs i=some d/\Q d
 | .tup xs,.int i=>∃d,fo xs i=some d/\Q d
 | .str z,.int i=>z.length<=sizeLine/\∃ch,fo z.cps.toList i=some ch/\Q (.str ⟨#[ch]⟩)
 | _,_=>False
noncomputable def vh(ta tb:aS):aS:=λδ Q=>ta δ λx ao=>tb ao λy br=>rN x y λd=>Q d br
theorem bF(ha:PE X a (lB ta))(hb:PE X b (lB tb))(hs:NR b):PE X (.Subscript a b pos) (lB (vh ta tb)) :=
 dP (Ω cC1 ha hb hs) λσ H Q zq=>by
 obtain⟨B,F,δ,ts,Qd,c,q,k⟩:=zq
 exact⟨B,F,δ,ts,_,c,q,λx ao v F1 H1 q1 f1 h1 c1 s1=>⟨B,F1,ao,ts,_,c1,q1,λy br w F2 H2 q2 f2 h2 c2 s2=>by
  have nN:=s1.mono f2 h2
  have fin:∀d z,Qd d br->S F2 H2 [d] [z]->Q z H2:=λd z hd s=>k d br z F2 H2 hd (f1.trans f2) (h1.trans h2) c2 s
  unfold rN at q2
  split at q2
  ·obtain⟨d,ed,qd⟩:=q2
   cases s2
   obtain⟨p,ws,rfl,h,t⟩:=mD nN c2.ext rfl
   obtain⟨z,ez,sz⟩:=Gm t ed
   exact .inl ⟨p,ws,_,z,rfl,rfl,kX h,ez,fin d z qd sz⟩
  ·obtain⟨d,ed,qd⟩:=q2
   cases s2
   obtain⟨p,ws,rfl,h,t⟩:=mD nN c2.ext rfl
   obtain⟨z,ez,sz⟩:=Gm t ed
   exact .inl ⟨p,ws,_,z,rfl,rfl,kX h,ez,fin d z qd sz⟩
  ·obtain⟨d,ed,qd⟩:=q2
   cases s2
   obtain⟨p,ws,rfl,h,t⟩:=kS nN
   obtain⟨z,ez,sz⟩:=Gm t ed
   exact .inr (.inl ⟨p,ws,_,z,rfl,rfl,iz.of h,ez,fin d z qd sz⟩)
  ·obtain⟨hz,ch,ec,qc⟩:=q2
   cases nN
   cases s2
   exact .inr (.inr ⟨_,_,ch,rfl,rfl,hz,ec,fin _ _ qc (.str .nil)⟩)
  ·exact q2.elim⟩⟩
noncomputable abbrev vi:=Dl->(Option Int->Dl->Prop)->Prop
noncomputable def lP(t:vi):TO:=λσ H Q=>∃B F δ ts Qd,av B F H σ δ ts/\t δ Qd/\∀o ah F' H',Qd o ah->af F F'->af H H'->av B F' H' σ ah ts->Q o H'
theorem Pe{oe:Option Expr}{u u':TO}(h:PO X oe u)(m:∀σ H Q,u' σ H Q->u σ H Q):PO X oe u':=λpins s σ H Q I q=>h pins s σ H Q I (m σ H Q q)
noncomputable def vj:vi:=λδ Q=>Q none δ
noncomputable def vk(t:aS):vi:=λδ Q=>t δ λd ah=>match d with
 | .int i=>Q (some i) ah
 | _=>False
theorem vm:PO X none (lP vj):=Pe Θ λσ H Q ⟨B,F,δ,ts,Qd,c,q,k⟩=>k none δ F H q (af.refl _) (af.refl _) c
theorem vn(h:PE X e (lB t)):PO X (some e) (lP (vk t)):=Pe (Λ h) λσ H Q zq=>by
 obtain⟨B,F,δ,ts,Qd,c,q,k⟩:=zq
 exact⟨B,F,δ,ts,_,c,q,λd ao v F1 H1 q1 f1 h1 c1 s1=>by
 cases s1 with
 | int _=>exact⟨_,rfl,k _ ao F1 H1 q1 f1 h1 c1⟩
 | _=>exact q1.elim⟩
noncomputable def fO{α:Type}(xs:List α)(lo hi:Option Int):List α:=(xs.drop (HT.di xs.length 0 lo)).take (HT.di xs.length xs.length hi-HT.di xs.length 0 lo)
theorem S.cut{xs:List D}{ws:List V}(s:S F H xs ws)(lo hi:Option Int):S F H (fO xs lo hi) (ua ws lo hi):=by
 unfold fO ua
 rw[<-s.length]
 exact(s.drop _).take _
theorem Pf{xs:List D}{p:D->Bool}(h:xs.all p=true)(lo hi:Option Int):(fO xs lo hi).all p=true:=by
 rw[c9]at h ⊢
 intro x hx
 exact h x (oV (tJ hx))
noncomputable def vo(t:aS):aS:=λδ Q=>t δ λd ah=>match d with
 | .int i=>Q (.int (Mf.bl i.natAbs:Nat)) ah
 | _=>False
theorem nO(ho:PE X o (lB t))(nB:attributeBase o "bit_length" X.env (eval o X.env)=eval o X.env:=by rfl)(nC:(apos.endLine==cX.line)=true:=by rfl):PE X (.Call (.Attribute o "bit_length" apos) [] [] cX) (lE (vo t)) :=
 dP (Fx ho nB nC) λσ H Q zq=>by
 obtain⟨B,F,δ,ts,Qd,c,q,k⟩:=zq
 exact⟨B,F,δ,ts,_,c,q,λd ao v F1 H1 q1 f1 h1 c1 s1=>by
  cases s1 with
  | int _=>exact⟨rfl,_,rfl,rfl,k _ ao _ F1 H1 q1 f1 h1 (c1.pushS (.int .nil) rfl)⟩
  | _=>exact q1.elim⟩
end
end L3
namespace L3
open PySem L2 PySem.Spec PyProof.Rows
section
variable{X:Cx}{F H:Hp}{v w:V}{e a b c o tg:Expr}{es:List Expr}{pos p p2 apos cX pos':Pos}{t ta tb tc te ti:aS}{tr:cU}{x:Str}{i:Nat}
noncomputable def vp(i:Nat)(t:aS):dO:=λD δ=>(∃xs,δ[i]?=some (some (.lst true xs)))/\t δ λd ah=>∃xs,ah[i]?=some (some (.lst true xs))/\xs.length<sizeLine/\D.nx (ah.set i (some (.lst true (xs++[d]))))
theorem nQ(hN:X.N[i]?=some x)(hv:m9 X.env.scope x)(he:PE X e (lE t))(hd:(x==("__debug__":Str))=false:=by decide)(dh:(x==("__classdict__":Str))=false:=by decide)
  (nB:attributeBase (.Name x p) "append" X.env (eval (.Name x p) X.env)=eval (.Name x p) X.env:=by rfl)
  (Fl:((backTo cX (starEach [e] X.env)).all (λx=>!x.1)&&(backToKw cX (keywordEach [] X.env)).all (λx=>x.1.isSome)
   && decide ([e].length+([]:List Keyword).length+(if([]:List Keyword).isEmpty then 0 else 1)<30))=true:=by rfl)
  (nC:(apos.endLine==cX.line)=true:=by rfl) (hs:starEach [e] X.env=(false,eval e X.env)::starEach [] X.env:=by rfl) (Fn:(backTo cX (starEach [] X.env)).any (·.1)=false:=by rfl)
  (rO:swapsWith (.Call (.Attribute (.Name x p) "append" apos) [e] [] cX) none pos.line X.env=pure false:=by rfl) :
  PS X (.Expr (.Call (.Attribute (.Name x p) "append" apos) [e] [] cX) pos) (lS X (vp i t)) :=
 ki (qL (cL6 PySem.F.plainAttrs_list PySem.F.slot_list_append PySem.F.type_list_append N1 (tX hN hv hd dh) (cm he fw hs) nB Fl nC hs Fn) rO) λEn σ H zz=>by
  obtain⟨B,F,δ,Dd,c,⟨⟨ys,ey⟩,q⟩,k1,k2,k3,k4⟩:=zz
  obtain⟨p0,FP,g1,g2,g3⟩:=c.ownAt ey
  refine⟨.ref p0,g1,.inl ⟨rfl,_,bS.of g2⟩,B,F,δ,[],_,c,q,λd ah v F' H' hd sf sh c'=>?_⟩
  obtain⟨xs,ex,hl,hn⟩:=hd
  obtain⟨p1,ws,r1,r2,r3⟩:=c'.ownAt ex
  rw[g1]at r1;cases r1
  exact⟨p0,ws,v,rfl,rfl,r2,by omega,k1 _ _ F' _ hn (c'.app ex g1 r2)⟩
noncomputable def vq(i:Nat)(te ti:aS):dO:=λD δ=>te δ λd ao=>∃ys,ao[i]?=some (some (.lst true ys))/\q9 ti ao λk br=>match k with
 | .int n=>∃xs j,br[i]?=some (some (.lst true xs))/\iU xs.length n=some j/\D.nx (br.set i (some (.lst true (xs.set j d))))
 | _=>False
theorem pP(hN:X.N[i]?=some x)(hv:m9 X.env.scope x)(he:PE X e (lE te))(hi:PE X b (lB ti))(hd:(x==("__debug__":Str))=false:=by decide)(dh:(x==("__classdict__":Str))=false:=by decide)
  (ha:∀v,assign (.Subscript (.Name x p) b pos') X.env v=(do
   let ov<-holding [v] (eval (.Name x p) X.env)
   let iv<-holding [v,ov] (eval b X.env)
   standAt pos'
   holding [v,ov,iv] (setItem ov iv v)
   release [v,ov,iv] []):=by intro _;rfl)
  (hs:swapsWithSole [.Subscript (.Name x p) b pos'] e pos.line X.env=pure false:=by rfl) (hw:swappedStores [.Subscript (.Name x p) b pos'] e X.env=pure none:=by rfl)
  (h1:(assignEach [.Subscript (.Name x p) b pos'] X.env).map (·.2)=[assign (.Subscript (.Name x p) b pos') X.env]:=by rfl) :
  PS X (.Assign [.Subscript (.Name x p) b pos'] e pos) (lS X (vq i te ti)) :=
 ki (Zg he (Zf (tX hN hv hd dh) (da hi) cf1 ha) hs hw h1) λEn σ H zq=>by
 obtain⟨B,F,δ,Dd,c,q,k1,k2,k3,k4⟩:=zq
 exact⟨B,F,δ,[],_,c,q,λd ao v F1 H1 hq f1 h1 c1=>by
  obtain⟨ys,ey,hq⟩:=hq
  obtain⟨p0,FP,g1,g2,g3⟩:=c1.ownAt ey
  refine⟨.ref p0,g1,B,F1,ao,[(d,v)],_,c1,hq,λkd br kv F2 H2 hk f2 h2 c2=>?_⟩
  have st:=c2.top
  split at hk
  ·obtain⟨xs,j,ex,ej,hn⟩:=hk
   cases st
   have c3:=c2.pop
   obtain⟨p1,ws,r1,r2,r3⟩:=c3.ownAt ex
   rw[g1]at r1;cases r1
   exact⟨p0,ws,_,j,rfl,rfl,r2,by rw[<-r3];exact ej,k1 _ _ F2 _ hn (c3.c63 ex g1 r2 j)⟩
  ·exact hk.elim⟩
end
end L3
namespace L3
open PySem L2 PySem.Spec PyProof.Rows
theorem cW{A:Around}{k:Nat}(hr:cF k A):A.units+6<cLine:=by have:=hr.un;omega
noncomputable def aJ(ns:List Int):List D:=ns.map D.int
noncomputable def Gp(o:Obj):Bool:=match o.cls with
 | .type n=>n != "list"
 | _=>true
noncomputable def Pg:aX:=λds Q=>∃ns:List Int,ds=[.fz (aJ ns)]/\ns.length<=63/\Q (.bl true)
theorem kZ{F H:Hp}:∀ns:List Int,R F H (aJ ns) (ns.map V.int) []
 | []=>.nil
 | n::ns=>.int (kZ ns)
theorem bK5{K:PySem.W.Frag}{a:Addr}{o:Obj}(h:K.lookup a=some o):(a,o)∈K:=by
 induction K with
 | nil=>cases h
 | cons p K ih =>
  obtain⟨b,u⟩:=p
  rw[gq]at h
  split at h
  ·rename_i z
   have:a=b:=by simpa using z
   cases h;subst this;simp
  ·exact gE _ (ih h)
end L3
namespace L3
open PySem L2 PySem.Spec PyProof.Rows
section
variable{B:Bs}{F H:Hp}{σ:L2.St}{δ:Dl}{ts ps:List (D × V)}{i k:Nat}{p q:Addr}{l1 l2 ys OI:List D}{ws u7:List V}
end
section
variable{X:Cx}{F H:Hp}{e b:Expr}{pos p pr apos cX Gq:Pos}{t ti te:aS}{x y:Str}{i j:Nat}
end
end L3
namespace L3
open PySem L2 PySem.Spec PyProof.Rows
theorem xW(i:Int):(D.int i).pl=true:=rfl
theorem xX(i:Bool):(D.bl i).pl=true:=rfl
theorem xY(i:Str):(D.str i).pl=true:=rfl
theorem xZ:D.ax.pl=true:=rfl
theorem x6(xs:List D):(D.fz xs).pl=true:=rfl
theorem x8(C:Addr)(ns:List Str)(xs:List D):(D.obj C ns xs).pl=true:=rfl
theorem x9(i:Int):(D.int i).fr=true:=rfl
theorem ya(i:Bool):(D.bl i).fr=true:=rfl
theorem yb(i:Str):(D.str i).fr=true:=rfl
theorem yc:D.ax.fr=true:=rfl
theorem pQ(i:Int):(D.int i).sh=.int i:=rfl
theorem yd(i:Bool):(D.bl i).sh=.bl i:=rfl
theorem ye(i:Str):(D.str i).sh=.str i:=rfl
theorem yf:D.ax.sh=.ax:=rfl
theorem yg(xs:List D):(D.fz xs).sh=.fz xs:=rfl
theorem yh(C:Addr)(ns:List Str)(xs:List D):(D.obj C ns xs).sh=.obj C ns xs:=rfl
theorem yi{α:Type}(n:Nat)(x:α):(aQ n [x]).flatten=aQ n x:=by
 induction n with
 | zero=>rfl
 | succ n ih=>rw[qp,tF,ih];rfl
theorem k7(ns:List Int):(aJ ns).length=ns.length:=by simp[aJ]
theorem nR(ns:List Int):(aJ ns).all D.pl=true:=by simp[aJ,D.pl]
theorem rP(ns:List Int):(aJ ns).all D.fr=true:=by simp[aJ,D.fr]
theorem km(ns:List Int):(aJ ns).map D.sh=aJ ns:=by simp[aJ,D.sh]
theorem rQ(a b:List Int):aJ a++aJ b=aJ (a++b):=by simp[aJ]
theorem yj(n:Nat)(i:Int):aQ n (D.int i)=aJ (aQ n i):=by simp[aJ]
theorem rR(n:Nat)(i:Int):dX n (.int i)=true:=by cases n<;>rfl
theorem yk(n:Nat)(i:Str):dX n (.str i)=true:=by cases n<;>rfl
theorem i7(i j:Int):bR (.int i) (.int j)=decide (i=j):=by
 show(i==j)=_
 rw[Bool.beq_eq_decide_eq]
theorem Ph:∀(a b:List Int),bR.gA (aJ a) (aJ b)=decide (a=b)
 | [],[]=>rfl
 | [],_::_=>by simp[aJ,bR.gA]
 | _::_,[]=>by simp[aJ,bR.gA]
 | x::xs,y::ys=>by
  show(bR (.int x) (.int y)&&bR.gA (aJ xs) (aJ ys))=_
  rw[Ph xs ys,i7,qu];simp
theorem vt(o o':Bool)(a b:List Int):bR (.lst o (aJ a)) (.lst o' (aJ b))=decide (a=b):=Ph a b
theorem Pj{ns:List Int}{k:Nat}(h:k<ns.length):(aJ ns)[k]?=some (.int ns[k]):=by simp[aJ,h]
theorem mG{ns:List Int}{k:Int}(h0:0<=k)(h:k<ns.length):fo (aJ ns) k=some (.int (ns.getD k.toNat 0)):=by
 unfold fo iU
 rw[if_pos h0,k7,if_pos h]
 show(aJ ns)[k.toNat]?=_
 have hk:k.toNat<ns.length:=by omega
 rw[Pj hk,aL,aO hk];rfl
theorem vv(ns:List Int)(lo hi:Option Int):fO (aJ ns) lo hi=aJ (fO ns lo hi):=by simp[fO,aJ,MN,MP]
theorem ym(i:Int):mF "int" (.int i)=some true:=by rfl
theorem yn(i:Int):mF "bool" (.int i)=some false:=by rfl
theorem yo(i:Int):mF "list" (.int i)=some false:=by rfl
theorem yp(o:Bool)(xs:List D):mF "list" (.lst o xs)=some true:=by rfl
theorem yq:mF "int" .ax=some false:=by rfl
theorem yr(x:Str):mF "str" (.str x)=some true:=by rfl
theorem yt(xs:List D):mF "tuple" (.tup xs)=some true:=by rfl
theorem sL:sizeLine=16777216:=rfl
theorem yu{p:Prop}[Decidable p]:(decide p=true)=p:=by simp
theorem cr3{α:Type}(xs:List α)(a b:Nat):fO xs (some (a:Int)) (some (b:Int))=(xs.drop a).take (b-a):=by
 unfold fO
 rw[HT.Fd,HT.Fd]
 by_cases h:a<=xs.length
 ·rw[Ao h]
  apply MQ
  intro i
  rw[Ey,Ey,MR]
  by_cases hi:i<b-a
  ·rw[if_pos hi]
   by_cases hb:a+i<xs.length
   ·rw[if_pos (by omega)]
   ·rw[hJ (by omega)];simp
  ·rw[if_neg hi,if_neg (by omega)]
 ·rw[Nat.min_eq_right (show xs.length<=a by omega),MS (bK _),MS (show xs.length<=a by omega)];simp
end L3
namespace L2
open PySem PySem.Spec PyProof.Rows
section
variable{X:Cx}{e:Expr}{te:TE}{lo hi:Option Expr}{st:Expr}{tl th ts:TO}{pos p2:Pos}
theorem Pk(ns:List Int):∀k,k<=ns.length->preSum (λi=>ns.getD i 0) k=(ns.take k).sum
 | 0,_=>rfl
 | k+1,h=>by
  show preSum (λi=>ns.getD i 0) k+ns.getD k 0=_
  rw[Pk ns k (by omega),kH,aO (by omega),List.sum_append,aL,aO (by omega)]
  simp
theorem bY6(hc:X.calm=true):gU X (.builtin "sum") (λxs H Q=>∃(p:Addr) (ns:List Int),xs=[.ref p]/\bS X.K H p (ns.map V.int)/\Q (.int ns.sum) H):=by
 intro pins s σ H xs us Q I r h
 obtain⟨p,ns,rfl,hS,q⟩:=h
 obtain⟨u,rfl,ru⟩:=r.one
 cases ru
 obtain⟨its,rv,pl,hz⟩:=I.list hS
 have hi:=Δ rv
 have hlen:ns.length=its.length:=by have:=rv.length;simpa using this
 have hl:=pl.isList
 have fL:p<s.heap.objs.size:=by obtain⟨_,e,_⟩:=hl;exact cy e
 refine call_sum_walkG (wpAny_pyIter_list hl ?_)
 refine⟨s.heap.objs.size,[s.heap.objs.size,p],[s.heap.objs.size],its.toArray.size,_,_,λi=>ns.getD i 0,rfl,Walks.list (A:=X.A.in1) (I.ok.hd hc) _ p (fS fL) its.toArray,
  ⟨⟨_,iy _ rfl,rfl,rfl⟩,hl.push _⟩,λb hb=>?_,λi v hP=>?_,λh' tk t' hk=>?_⟩
 ·simp only[tu]
  rcases cA.mp hb with rfl | hb
  ·exact Ag _
  ·rw[fW.mp hb];exact MT fL
 ·have e:its[i]?=some v:=by simpa using hP
  obtain⟨x,ex,q2⟩:∃x,(ns.map V.int)[i]?=some x/\RelV x v:=by
   have gW:i<its.length:=(jI.mp e).1
   obtain⟨u,e2,q2⟩:=rv.get (i:=i) (x:=V.int ns[i]) (by rw[cI,aO (by omega)];rfl)
   rw[e]at e2;cases e2
   exact⟨_,by rw[cI,aO (by omega)];rfl,q2⟩
  rw[cI]at ex
  obtain⟨n,en,rfl⟩:=An.mp ex
  obtain⟨t,rfl⟩:=q2
  exact⟨t,by show qm n t=qm (ns.getD i 0) t;rw[aL,en];rfl⟩
 ·rw[eB,<- hlen,Pk ns _ (bK _),mY]
  exact⟨.int _,H,I.kept (h':=h') (t':=tk) (Fy hk),⟨_,rfl⟩,q⟩
end
end L2
namespace L3
open PySem L2 PySem.Spec PyProof.Rows
section
variable{X:Cx}{F H:Hp}{e:Expr}{t:aS}{lo hi:Option Expr}{st:Expr}{tl th td:vi}{pos p2:Pos}
theorem Gr:∀{a:List Int} {ws:List V},S F H (aJ a) ws->ws=a.map V.int
 | [],_,s=>by cases s;rfl
 | b::bs,_,s=>by
  cases s with
  | int s=>rw[Gr s];rfl
noncomputable def nS:jU:=λds Q=>match ds with
 | [.lst _ xs]=>∃a,xs=aJ a/\Q (.int a.sum)
 | _=>False
theorem cO9(hc:X.calm=true):ik X (.builtin "sum") nS:=ik.of (bY6 hc) λvs H Q zz=>by
 obtain⟨B,F,σ,δ,ts,ds,Qd,c,s,q,k⟩:=zz
 unfold nS at q
 split at q
 ·obtain⟨v,rfl,s1⟩:=kW s
  obtain⟨a,rfl,q⟩:=q
  obtain⟨p,ws,rfl,h,t⟩:=mD s1 c.ext rfl
  rw[Gr t]at h
  exact⟨p,a,rfl,kX h,k _ _ _ q (af.refl _) (c.pushS (.int .nil) rfl)⟩
 ·exact q.elim
noncomputable def Gu:Expr->Option Int
 | .Constant (.int i) _ _=>some i
 | _=>none
noncomputable def BI:List Expr->Option (List Int)
 | []=>some []
 | e::es=>(Gu e).bind λi=>(BI es).map (i :: ·)
theorem ca7{e:Expr}{i:Int}(h:Gu e=some i):∃a b,e=.Constant (.int i) a b:=by
 cases e with
 | Constant c a b =>
  cases c with
  | int j=>cases h;exact⟨_,_,rfl⟩
  | _=>cases h
 | _=>cases h
noncomputable def cN3(ns:List Int):cU:=λδ Q=>Q (aJ ns) δ
theorem Pl:∀(es:List Expr) (ns:List Int),BI es=some ns->PA X es (lO (cN3 ns))
 | [],ns,h=>by cases h;exact cN
 | e::es,ns,h=>by
  obtain⟨i,hi,h2⟩:=Option.bind_eq_some_iff.mp (show(Gu e).bind (λi=>(BI es).map (i :: ·))=some ns from h)
  obtain⟨ms,hm,rfl⟩:=An.mp h2
  obtain⟨a,b,rfl⟩:=ca7 hi
  exact xI (cB (ak (i:=i)) (Pl es ms hm)) λ_ _ _ q=>q
noncomputable def vw(ns:List Int):aS:=λδ Q=>ns.length<=sizeLine/\Q (.lst true (aJ ns)) δ
theorem Pm{es:List Expr}{ns:List Int}(h:BI es=some ns):PE X (.List es pos) (lE (vw ns)) :=
 dP (dQ (Pl es ns h)) λ_ _ _ zq=>by
 obtain⟨B,F,δ,ts,Qd,c,q,k⟩:=zq
 exact⟨B,F,δ,ts,Qd,c,by
  show(aJ ns).length<=sizeLine/\_
  rw[k7];exact q,k⟩
theorem b24{ns:List Int}(h:0<ns.length):fo (aJ ns) (-1)=some (.int (ns.getD (ns.length-1) 0)):=by
 unfold fo iU
 rw[if_neg (by decide),k7,if_pos (by omega)]
 have hk:((-1:Int)+ns.length).toNat=ns.length-1:=by omega
 show(aJ ns)[((-1:Int)+ns.length).toNat]?=_
 rw[hk,Pj (by omega),aL,aO (by omega)];rfl
theorem yv{n:Nat}{g:iF}{tb:dO}{En:um}{δ:Dl}(Iv:Nat->Dl->Prop)(h0:Iv 0 δ)(ht:∀k ah,k<n->Iv k ah->g (.int k) ah λbr=>tb { En with nx:=Iv (k+1),ct:=Iv (k+1),bk:=En.nx } br)
  (hf:∀ah,Iv n ah->En.nx ah):gy (tK (λ(k:Nat)=>D.int (0+(k:Int))) (aD (n:Int).toNat)) g tb En δ:=by
 rw[fV]
 refine gy.mk Iv h0 (λi d ah hd iv=>?_) λah iv=>hf ah (by simpa using iv)
 rw[cI]at hd
 obtain⟨k,hk,rfl⟩:=An.mp hd
 have hi:i<n:=by have:=(jI.mp hk).1;simpa using this
 rw[j8 hi]at hk
 cases hk
 rw[MU]
 exact ht i ah hi iv
theorem nq{xs:List D}{k:Int}{d:D}(h0:0<=k)(h:xs[k.toNat]?=some d):fo xs k=some d:=by
 unfold fo iU
 have hk:k.toNat<xs.length:=(jI.mp h).1
 rw[if_pos h0,if_pos (by omega)]
 exact h
end
end L3
namespace L3
open PySem L2 PySem.Spec PyProof.Rows
section
variable{P:Program}{w:World}{K:PySem.W.Frag}{mg:Str->Option Value}{base:Heap}
end
section
variable{X:Cx}{n:Nat}{f:Addr}{fd:FuncData}{ps:List Str}{sp:SpX}{x:Str}{p pos:Pos}{e:Expr}{es:List Expr}{t:cU}{tx:ei2}
end
end L3
namespace L3
open PySem L2 PySem.Spec PyProof.Rows
section
variable{X:Cx}{pins EN:List (Addr × Obj)}{σ:L2.St}{H:Hp}{s:Shared}{a:Addr}
end
section
variable{X:Cx}{tb th:dO}{body da4:List Stmt}{da5:Stmt}{K n:Str}{Kc:Addr}{i:Nat}{kp da6 pos:Pos}
end
end L3
namespace L3
open PySem L2 PySem.Spec PyProof.Rows
noncomputable def Pn:V->Option Value
 | .ref a=>some (.ref a)
 | .ty n=>some (.type n)
 | _=>none
theorem cx4{c:V}{u cv:Value}(h:Pn c=some cv)(r:RelV c u):u=cv:=by
 cases c<;>cases h<;>exact r
inductive Gv(K:PySem.W.Frag)(H:Hp):V->Value->Prop where
 | ty {v:V} {t:Value} (h:iA K H v t):Gv K H v t
 | exc {a C:Addr} (e:H a=some (.ext (Bo a C))) (x:OE K C):Gv K H (.ref a) (.ref C)
noncomputable def cS1(K:PySem.W.Frag):List V->Hp->VK->Prop:=λxs H Q=>∃x c cv t b,xs=[x,c]/\Pn c=some cv/\Gv K H x t/\PySem.W.kitOne K t cv=some b/\Q (.bl b) H
section
variable{X:Cx}{F H:Hp}{v:V}{a:Expr}{ta:aS}{p pos:Pos}
theorem b72:gU X (.builtin "isinstance") (cS1 X.K):=by
 intro pins s σ H xs us Q I r h
 obtain⟨x,c,cv,t,b,rfl,hv,ty,e,q⟩:=h
 obtain⟨u,v,rfl,ru,rv⟩:=r.two
 cases cx4 hv rv
 cases ty with
 | ty ty=>exact NH I ru ty e λtk=>⟨.bl b,H,I.tok _,rfl,q⟩
 | @exc a C ea x =>
  cases(show u=eA a from ru)
  obtain⟨xa,_,_⟩:=(show fk X.prog X.w H s.heap a (.ext (Bo a C)) from I.aU a _ ea)
  exact PySem.W.kia_one (ca2 x) I.dA xa e (λz=>nomatch z) λtk=>⟨.bl b,H,I.tok _,rfl,q⟩
end
section
variable{K:PySem.W.Frag}{mg:Str->Option Value}{x:Str}{C:Addr}
open PySem.W in
theorem cG3{c:Value}:kitOne K c c=some true:=by
 unfold kitOne
 rw[if_pos (by simp)]
open PySem.W in
theorem BJ{t:Value}{b:Bool}(mx:(t==.ref C)=false)(h1:(clsIn K C).isSome=true)(h2:typeIn K (.ref C)=some (.type "type"))(h3:subIn K t (.ref C)=some b):kitOne K t (.ref C)=some b:=by
 unfold kitOne kitCls
 rw[mx]
 simp only[qv,if_false]
 rw[h1,h2,if_pos (by rfl),h3]
end
end L3
namespace L3
open PySem L2 PySem.Spec PyProof.Rows
theorem kn{CX:fA}{P:Program}{w:World}{K:PySem.W.Frag}{mg:Str->Option Value}{base:Heap}{N:List Str}{q:Str}{sc:Scope}{f:Addr}{aE:Value}{A:Around}{outer:List Env}{s:Shared}{H:Hp}{E:XK}:(jN CX P w K mg base N q sc f aE A outer s H E).K=K:=rfl
theorem yw(φ:uj):(D.bI φ).pl=true:=rfl
theorem yx(φ:uj):(D.bI φ).sh=.bI φ:=rfl
end L3
namespace L3
open PySem L2 PySem.Spec PyProof.Rows
theorem kq{X:Cx}:X.h7.K=X.K:=rfl
end L3
namespace L3
open PySem L2 PySem.Spec PyProof.Rows
noncomputable def fP(xs ys:List D):List D:=cO (λx y=>D.tup [x,y]) xs ys
noncomputable def fY(xs:List D):List D:=xs.mapIdx λi x=>D.tup [.int i,x]
theorem Po(xs ys:List D):(fP xs ys).map D.sh=fP (xs.map D.sh) (ys.map D.sh):=by
 unfold fP
 rw[Ez,MV]
 congr 1
theorem cq0{xs ys:List D}(h1:xs.all D.pl=true)(h2:ys.all D.pl=true):(fP xs ys).all D.pl=true:=by
 unfold fP
 rw[c9]at h1 h2 ⊢
 intro d hd
 obtain⟨i,hi,e⟩:=iQ hd
 rw[Yf]at e
 subst e
 rw[kP]
 simp only[dy,tL,m5,fg]
 exact⟨h1 _ (dz _),h2 _ (dz _)⟩
theorem ce7(xs:List D):(fY xs).map D.sh=fY (xs.map D.sh):=by
 unfold fY
 apply MQ
 intro i
 simp only[cI,Ap,Option.map_map]
 cases xs[i]? with
 | none=>rfl
 | some x =>
  show some (D.sh (.tup [.int i,x]))=some (D.tup [.int i,x.sh])
  rw[my];rfl
theorem cf2{xs:List D}(h1:xs.all D.pl=true):(fY xs).all D.pl=true:=by
 unfold fY
 rw[c9]at h1 ⊢
 intro d hd
 obtain⟨i,hi,e⟩:=iQ hd
 rw[List.getElem_mapIdx]at e
 subst e
 rw[kP]
 simp only[dy,tL,m5,fg]
 exact⟨rfl,h1 _ (dz _)⟩
theorem nU(xs:List D):(fY xs).length=xs.length:=by simp[fY]
theorem Gw(xs ys:List D):(fP xs ys).length=min xs.length ys.length:=by simp[fP]
section
variable{F H:Hp}{d:D}{v:V}{xs ys:List D}{ws us:List V}{p q:Addr}{K:PySem.W.Frag}
theorem Gx(s:S F H [d] [v])(e2:af F H)(e:kj d=some xs):∃p ws,v=.ref p/\Rd H p (.lst ws)/\R H H (xs.map D.sh) ws []/\(d.pl=true->xs.all D.pl=true/\Rd F p (.lst ws)/\R F H xs ws []):=by
 cases s with
 | @shr p ws ys _ _ hp r _ =>
  obtain rfl:=de e
  refine⟨p,ws,rfl,.inl (e2 _ _ hp),?_,λ_=>⟨r.pl,.inl hp,r⟩⟩
  rw[mB r.pl]
  exact r.shared e2 (af.refl _)
 | @own p ws ys _ _ hp r _ =>
  obtain rfl:=de e
  exact⟨p,ws,rfl,.inl hp,r.frozen e2,λz=>by simp[gu]at z⟩
 | @fz p o ws ys _ _ hp r _ =>
  obtain rfl:=de e
  refine⟨p,ws,rfl,.inr ⟨o,e2 _ _ hp⟩,?_,λ_=>⟨r.pl,.inr ⟨o,hp⟩,r⟩⟩
  rw[mB r.pl]
  exact r.shared e2 (af.refl _)
 | ax _=>cases e
 | bl _=>cases e
 | int _=>cases e
 | str _=>cases e
 | tup _ _ _=>cases e
 | obj _ _ _ _=>cases e
 | bI _ _=>cases e
theorem Gz(r:R F H xs ws []){i:Nat}(hi:i<xs.length){x:V}(hx:ws[i]?=some x):R F H [xs[i]] [x] []:=by
 obtain⟨v,A1,e2,r1,sub⟩:=r.get (aO hi)
 rw[hx]at e2;cases e2
 have:A1=[]:=Yc.mpr λa ha=>by simpa using sub ha
 subst this
 exact r1
theorem Pp(hp:Rd F p (.lst ws))(r:R F H xs ws [])(hq:Rd F q (.lst us))(t:R F H ys us [])(hF:Full F H):JD (FA K p q) F (fP xs ys) where
 go:=λi H' hs hi=>by
  rw[Gw]at hi
  have l1:=r.length
  have l2:=t.length
  exact⟨ws,us,_,_,.inl (iY hp hs),.inl (iY hq hs),aO (show i<ws.length by omega),aO (show i<us.length by omega)⟩
 kg:=λi H' v H2 hs hi zz=>by
  obtain⟨T,x,y,e1,e2,e3,hx,hy⟩:=zz
  subst e1 e3
  have yy:=hi
  rw[Gw]at yy
  have h1:=Gz (r.full hF hs rfl) (show i<xs.length by omega) (hx ws (.inl (iY hp hs)))
  have h2:=Gz (t.full hF hs rfl) (show i<ys.length by omega) (hy us (.inl (iY hq hs)))
  have sm:=af.upd (o:=.tup [x,y]) e2
  refine⟨_,aO hi,sm,?_⟩
  have eg:(fP xs ys)[i]=.tup [xs[i]'(by omega),ys[i]'(by omega)]:=by simp[fP]
  rw[eg]
  exact R.tup (A:=[]) (B:=[]) bQ ((h1.shared (af.refl _) sm).cons (h2.shared (af.refl _) sm)) .nil
 stop:=λi H' hs hi=>by
  rw[Gw]at hi
  have l1:=r.length
  have l2:=t.length
  exact⟨ws,us,.inl (iY hp hs),.inl (iY hq hs),by omega⟩
theorem Pq(hp:Rd F p (.lst ws))(r:R F H xs ws [])(hF:Full F H):JD (FG K p) F (fY xs) where
 go:=λi H' hs hi=>by
  rw[nU]at hi
  have l1:=r.length
  exact⟨ws,_,.inl (iY hp hs),aO (show i<ws.length by omega)⟩
 kg:=λi H' v H2 hs hi zz=>by
  obtain⟨T,x,e1,e2,e3,hx⟩:=zz
  subst e1 e3
  have yy:=hi
  rw[nU]at yy
  have h1:=Gz (r.full hF hs rfl) yy (hx ws (.inl (iY hp hs)))
  have sm:=af.upd (o:=.tup [.int i,x]) e2
  refine⟨_,aO hi,sm,?_⟩
  have eg:(fY xs)[i]=.tup [.int i,xs[i]]:=by simp[fY]
  rw[eg]
  exact R.tup (A:=[]) (B:=[]) bQ (.int (h1.shared (af.refl _) sm)) .nil
 stop:=λi H' hs hi=>by
  rw[nU]at hi
  have l1:=r.length
  exact⟨ws,.inl (iY hp hs),by omega⟩
end
section
variable{X:Cx}{a b:Expr}{ta:cU}{p pos qU:Pos}{elts:List Expr}{x1:Nat}
noncomputable def vx(t:cU):jy:=λδ Q=>t δ λds ah=>match ds with
 | [d1,d2]=>∃xs ys,kj d1=some xs/\kj d2=some ys/\Q (d1.pl&&d2.pl) (fP xs ys) ah
 | _=>False
theorem vy(hg:Gl X "zip")(hm:X.mg "zip"=none)(ha:PA X [a,b] (lA ta))(hs:starEach [a,b] X.env=[(false,eval a X.env),(false,eval b X.env)]:=by rfl)(fJ:starEach [b] X.env=[(false,eval b X.env)]:=by rfl) :
  PI X (.Tuple elts x1 qU) (.Call (.Name "zip" p) [a,b] [] pos) (lI (vx ta)) :=
 uJ (cI9 hg hm ha hs fJ) λσ H Q zq=>by
 obtain⟨B,F,δ,ts,Qd,c,q,k⟩:=zq
 exact⟨B,F,δ,ts,_,c,q,λds ao vs F1 H1 hd f1 h1 c1 s=>by
  match ds,hd,s with
  | [d1,d2],⟨xs,ys,i1,i2,hq⟩,s =>
   obtain⟨v1,bX,rfl,s1,s2⟩:=s.cY
   obtain⟨v2,ei3,rfl,s2,s3⟩:=s2.cY
   cases s3
   have e2:=c1.ext
   have sn:=q8 e2
   obtain⟨p1,w1,rfl,r1,t1,u1⟩:=Gx s1 e2 i1
   obtain⟨p2,w2,rfl,r2,t2,u2⟩:=Gx s2 e2 i2
   refine⟨p1,p2,rfl,⟨w1,.inl r1⟩,⟨w2,.inl r2⟩,k _ _ ao _ _ H1 hq (f1.trans sn) h1 c1.snap ?_ λz=>?_⟩
   ·rw[Po]
    exact Pp r1 t1 r2 t2 (Full.refl _)
   ·rw[fg]at z
    obtain⟨a1,a2,a3⟩:=u1 z.1
    obtain⟨b1,b2,b3⟩:=u2 z.2
    exact⟨cq0 a1 b1,Pp (iY a2 sn) (a3.shared sn (af.refl _)) (iY b2 sn) (b3.shared sn (af.refl _)) uk⟩⟩
noncomputable def vz(t:cU):jy:=λδ Q=>t δ λds ah=>match ds with
 | [d1]=>∃xs,kj d1=some xs/\Q d1.pl (fY xs) ah
 | _=>False
theorem nV(hg:Gl X "enumerate")(hm:X.mg "enumerate"=none)(ha:PA X [a] (lA ta))(hs:starEach [a] X.env=[(false,eval a X.env)]:=by rfl) :
  PI X (.Tuple elts x1 qU) (.Call (.Name "enumerate" p) [a] [] pos) (lI (vz ta)) :=
 uJ (cu6 hg hm ha hs) λσ H Q zq=>by
 obtain⟨B,F,δ,ts,Qd,c,q,k⟩:=zq
 exact⟨B,F,δ,ts,_,c,q,λds ao vs F1 H1 hd f1 h1 c1 s=>by
  match ds,hd,s with
  | [d1],⟨xs,i1,hq⟩,s =>
   obtain⟨v1,bX,rfl,s1,s2⟩:=s.cY
   cases s2
   have e2:=c1.ext
   have sn:=q8 e2
   obtain⟨p1,w1,rfl,r1,t1,u1⟩:=Gx s1 e2 i1
   refine⟨p1,rfl,⟨w1,.inl r1⟩,k _ _ ao _ _ H1 hq (f1.trans sn) h1 c1.snap ?_ λz=>?_⟩
   ·rw[ce7]
    exact Pq r1 t1 (Full.refl _)
   ·obtain⟨a1,a2,a3⟩:=u1 z
    exact⟨cf2 a1,Pq (iY a2 sn) (a3.shared sn (af.refl _)) uk⟩⟩
end
end L3
namespace L3
open PySem L2 PySem.Spec PyProof.Rows
section
variable{X:Cx}{F H:Hp}{e b:Expr}{pos p p2 p3 pr apos cX Gq:Pos}{t ti te:aS}{x y:Str}{i j:Nat}
theorem GA{α:Type}{xs:List α}{k:Nat}{v:α}(h:xs[k]?=some v):fo xs (k:Int)=some v:=by
 unfold fo iU
 have hk:k<xs.length:=(jI.mp h).1
 rw[if_pos (by omega),if_pos (by omega)]
 exact h
end
section
variable{X:Cx}{CX:fA}{k:Nat}{f:Addr}{fd:FuncData}{ps:List Str}{sp:aX}{E:XK}{fn x1 x2 y1 y2:Str}{i1 i2 j1 j2:Nat}{tk:Nat}
 {tp t1 t2 zp ei4 q1 q2 fp ei5 a1 a2 db4 ei6 ei7 cp Gq pr apos cX ei8 pos:Pos}
end
end L3
namespace L3
open PySem L2 PySem.Spec PyProof.Rows
theorem av.db5{B:Bs}{F H:Hp}{σ:L2.St}{δ:Dl}{ts:List (D × V)}{a b:D}{v:V}(c:av B F H σ δ ((.tup [a,b],v)::ts)):∃p u w,v=.ref p/\H p=some (.tup [u,w])/\av B F H σ δ ((a,u)::(b,w)::ts):=by
 obtain⟨A,C,r,s,nd,fr⟩:=c.own
 cases r with
 | @tup p ws xs A1 _ _ B1 hp r1 r2 =>
  obtain⟨u,gY,A2,A3,rfl,rfl,h1,h2⟩:=r1.cY
  obtain⟨w,ei9,A4,A5,rfl,rfl,h3,h4⟩:=h2.cY
  cases h4
  refine⟨p,u,w,rfl,hp,c.ext,c.b1,c.b2,c.b3,A2++(A4++B1),C,h1.cons (h3.cons r2),s,?_,?_⟩
  ·simpa using nd
  ·intro a ha;exact fr a (by simpa using ha)
section
variable{X:Cx}{y1 y2:Str}{i1 i2 tk m:Nat}{t1 t2 tp:Pos}
noncomputable def jC(i1 i2:Nat):iF:=λd δ Q=>match d with
 | .tup [a,b]=>Q ((δ.set i1 (some a)).set i2 (some b))
 | _=>False
theorem mH(hc:X.calm=true)(BK:X.N.Nodup)(m1:X.N[i1]?=some y1)(l1:Loc X.env.scope y1)(m2:X.N[i2]?=some y2)(l2:Loc X.env.scope y2)(Pr:m<=i1:=by decide)(vg:m<=i2:=by decide)
  (f1:X.fn y1=true\/X.env.scope.names.lookup y1=some .local:=by first | exact .inl rfl | exact .inr rfl | assumption) (f2:X.fn y2=true\/X.env.scope.names.lookup y2=some .local:=by first | exact .inl rfl | exact .inr rfl | assumption)
  (GB:(assignEach [.Name y1 t1,.Name y2 t2] X.env).map (·.2)=assign (.Name y1 t1) X.env::(assignEach [.Name y2 t2] X.env).map (·.2):=by rfl) (GC:(assignEach [.Name y2 t2] X.env).map (·.2)=assign (.Name y2 t2) X.env::(assignEach [] X.env).map (·.2):=by rfl)
  (hn:(assignEach [.Name y1 t1,.Name y2 t2] X.env).length=2:=by rfl) (h9:(assignEach [.Name y1 t1,.Name y2 t2] X.env).findIdx? (·.1)=none:=by rfl) :
  PG X (.Tuple [.Name y1 t1,.Name y2 t2] tk tp) (lG m (jC i1 i2)) :=
 OS (Zd hc (Nt (A6 BK m1 l1 f1) (Nt (A6 BK m2 l2 f2) Zb GC) GB) hn h9) λv σ H Q zz=>by
  obtain⟨B,F,δ,ts,d,Qd,c,q,k⟩:=zz
  obtain⟨a,b,rfl,q⟩:∃a b,d=D.tup [a,b]/\Qd ((δ.set i1 (some a)).set i2 (some b)):=by
   unfold jC at q
   split at q
   ·exact⟨_,_,rfl,q⟩
   ·exact q.elim
  obtain⟨p,u,w,rfl,hp,c2⟩:=c.db5
  refine⟨p,[u,w],rfl,iz.of hp,rfl,u,[w],rfl,w,[],rfl,rfl,k _ _ q (by simp) (λj hj=>?_) ((c2.store i1).store i2)⟩
  rw[s8 (by omega),s8 (by omega)]
end
open Classical in
theorem eN{α:Type}{sh:Bool}{xs:List D}{aH:List (Str × Nat)}{n m:Nat}{te:aS}{ao:Dl}{Q:D->Dl->Prop}(l:List α)(e g:α->D)(jD:xs.map D.sh=l.map e)(inj:∀a b,e a=e b->a=b)
  (hx:∀a∈l,te ((gH aH n ao).set m (some (e a))) λd _=>d=g a) (gx:(sh&&aH.all (jA ao))=true\/∀a∈l,(g a).fr=true) (hl:l.length<=sizeLine) (hq:Q (.lst true (l.map g)) ao):uP sh xs aH n (gN m) mC te ao Q:=by
 let f:D->D:=λx=>if h:∃a∈l,e a=x then g h.choose else .ax
 have hf:∀a∈l,f (e a)=g a:=λa ha=>by
  have h:∃b∈l,e b=e a:=⟨a,ha,rfl⟩
  show(if h:∃b∈l,e b=e a then g h.choose else .ax)=g a
  rw[dif_pos h]
  exact congrArg g (inj _ _ h.choose_spec.2)
 refine cd5 f (λx h=>?_) (gx.imp id λh x hx=>?_) ?_ ?_
 ·rw[jD]at h
  obtain⟨a,ha,rfl⟩:=bB.mp h
  rw[hf a ha];exact hx a ha
 ·rw[jD]at hx
  obtain⟨a,ha,rfl⟩:=bB.mp hx
  rw[hf a ha];exact h a ha
 ·have:=congrArg Ei jD
  simp at this
  omega
 ·rw[jD,cj,show l.map (f ∘ e)=l.map g from qy λa ha=>hf a ha]
  exact hq
end L3
namespace L3
open PySem L2 PySem.Spec PyProof.Rows
end L3
namespace L2
open PySem PySem.Spec PyProof.Rows
section
variable{X:Cx}
end
end L2
namespace L3
open PySem L2 PySem.Spec PyProof.Rows
noncomputable abbrev tx(l:List Nat):D:=.str ⟨l.toArray⟩
section
variable{X:Cx}{F H:Hp}{e:Expr}{es:List Expr}{t:aS}{pos p p2 apos cX:Pos}
noncomputable def rS(x:D)(lo hi:Option Int)(Q:D->Prop):Prop:=match x with
 | .lst _ xs=>xs.all D.pl=true/\Q (.lst true (fO xs lo hi))
 | .fz xs=>Q (.lst true (fO xs lo hi))
 | .str z=>z.length<=sizeLine/\Q (tx (fO z.cps.toList lo hi))
 | _=>False
noncomputable def vA(t:aS)(tl th:vi):aS:=λδ Q=>t δ λx ao=>tl ao λl br=>th br λu i5=>rS x l u λd=>Q d i5
theorem vB{lo hi:Option Expr}{tl th:vi}(he:PE X e (lB t))(hl:PO X lo (lP tl))(hu:PO X hi (lP th)):PE X (.Subscript e (.Slice lo hi none p2) pos) (lE (vA t tl th)) :=
 dP (Φ (cV2.or cL1) he hl hu) λσ H Q zq=>by
 obtain⟨B,F,δ,ts,Qd,c,q,k⟩:=zq
 exact⟨B,F,δ,ts,_,c,q,λx ao v F1 H1 q1 f1 h1 c1 s1=>⟨B,F1,ao,ts,_,c1,q1,λl br F2 H2 q2 f2 h2 c2=>⟨B,F2,br,ts,_,c2,q2,λu i5 F3 H3 q3 f3 h3 c3=>by
  have nN:=s1.mono (f2.trans f3) (h2.trans h3)
  unfold rS at q3
  split at q3
  ·obtain⟨p,ws,rfl,h,t⟩:=mD nN c3.ext rfl
   exact .inl ⟨p,ws,rfl,kX h,λr hr=>k _ i5 _ F3 _ q3.2 ((f1.trans f2).trans f3) (((h1.trans h2).trans h3).trans (af.upd hr)) (c3.pE hr (t.cut _ _) (Pf q3.1 _ _))⟩
  ·obtain⟨p,ws,rfl,h,t⟩:=mD nN c3.ext rfl
   cases nN with
   | fz h' r _=>exact .inl ⟨_,_,rfl,kX (.inr ⟨_,c3.ext _ _ h'⟩),λr' hr=>k _ i5 _ F3 _ q3 ((f1.trans f2).trans f3) (((h1.trans h2).trans h3).trans (af.upd hr)) (c3.pE hr (r.s.cut _ _) (Pf r.pl _ _))⟩
  ·cases nN with
   | str _=>exact .inr ⟨_,rfl,q3.1,k _ i5 _ F3 H3 q3.2 ((f1.trans f2).trans f3) ((h1.trans h2).trans h3) (c3.pushS (.str .nil) rfl)⟩
  ·exact q3.elim⟩⟩⟩
end
theorem yz(a:List Nat):(⟨a.toArray⟩:Str).length=a.length:=by show a.toArray.size=_;simp
end L3
namespace L3
open PySem L2 PySem.Spec PyProof.Rows
noncomputable def aj(l:List Nat):List D:=aJ (l.map λ(n:Nat)=>(n:Int))
theorem dY(l:List Nat):(aj l).length=l.length:=by unfold aj;rw[k7,bw]
theorem cH(l:List Nat):aj l=l.map λ(n:Nat)=>D.int (n:Int):=by unfold aj aJ;rw[cj];rfl
theorem rT(l:List Nat):(aj l).map D.sh=l.map λ(n:Nat)=>D.int (n:Int):=by unfold aj;rw[km];exact cH l
theorem iG(a b:Nat)(h:D.int (a:Int)=D.int (b:Int)):a=b:=by injection h with h;omega
theorem nW(l:List Nat):(aj l).all D.pl=true:=nR _
theorem rV(l:List Nat):(aj l).map D.sh=aj l:=km _
theorem pS(a b:List Nat):aj a++aj b=aj (a++b):=by unfold aj;rw[rQ,fh]
theorem yA(l:List Nat)(lo hi:Option Int):fO (aj l) lo hi=aj (fO l lo hi):=by
 unfold aj
 rw[vv]
 congr 1
 unfold fO
 rw[bw,MP,MN]
theorem GD{α:Type}(xs:List α)(b:Nat):fO xs none (some (b:Int))=xs.take b:=by
 have:=cr3 xs 0 b
 unfold fO at this ⊢
 simpa[HT.di]using this
theorem GF{α:Type}(xs:List α)(a:Nat):fO xs (some (a:Int)) none=xs.drop a:=by
 unfold fO
 rw[HT.Fd]
 show(xs.drop (min a xs.length)).take (xs.length-min a xs.length)=_
 by_cases h:a<=xs.length
 ·rw[Ao h,Ew (by rw[ji];exact bK _)]
 ·rw[Nat.min_eq_right (by omega),List.drop_length,MS (by omega)];simp
end L3
namespace L2
open PySem PySem.Spec PyProof.Rows
section
variable{X:Cx}{tg l o e:Expr}{tl to te:TE}{apos cX:Pos}
end
end L2
namespace L3
open PySem L2 PySem.Spec PyProof.Rows
section
variable{X:Cx}{F H:Hp}{tg l e:Expr}{te t tb:aS}{apos cX pos:Pos}
variable{o:Expr}
theorem Pt:∀{ns:List Int} {ws:List V},S F H (aJ ns) ws->ws=ns.map V.int
 | [],_,s=>by cases s;rfl
 | n::ns,_,s=>by
  cases s with
  | int s=>rw[Pt s];rfl
end
end L3
namespace L3
open PySem L2 PySem.Spec PyProof.Rows
end L3
namespace L2
open PySem PySem.Spec PyProof.Rows
noncomputable def Tb(ts:List Addr)(H:Hp):Prop:=∀P∈ts,∃ps,H P=some (.dU ps)
structure vC(ts:List Addr)(H:Hp):Prop where
 any:∀b,H b=none\/(∃o xs,H b=some (.bx o (.lst xs)))\/(b∈ts/\H b=some (.dU #[]))
 tab:∀P∈ts,H P=some (.dU #[])
theorem vC.tb{ts:List Addr}{H:Hp}(h:vC ts H):Tb ts H:=λP hP=>⟨#[],h.tab P hP⟩
noncomputable def Bm(mg:Str->Option Value)(base:Heap):Prop:=∃bm o,mg "__builtins__"=some (.ref bm)/\bm≠builtinsNs/\bm≠mainGlobals/\base.get? bm=some o/\o.cls=.type "module"/\o.dict=some builtinsNs/\o.data=.plain
theorem b46{P:Program}{w:World}{K:PySem.W.Frag}{mg mb:Str->Option Value}{CX:fA}{k:Nat}{fa a:Addr}{fd:FuncData}{x:Str}{sp:Sp}{bG:Shared}{vs:List Value}{ns:List Int}{ts:List Addr}
  (KX:K.In bG.heap) (BL:bG.heap.Ns mainGlobals mg) (hb:bG.heap.Ns builtinsNs mb) (hbb:∀x:Str,x≠"__name__"->mb x=bootBuiltins x) (db8:bG.heap.NoLimit) (hg:bG.gens=#[])
  (ht:∀P∈ts,bG.heap.get? P=some (PySem.W.tabObj #[])) (GG:∀P∈ts,isCodeTable bG.heap P) (hkt:∀P∈ts,K.lookup P=none)
  (ha:bG.heap.get? a=some { cls:=.type "list",data:=.seq vs.toArray }) (hi:IntsAre vs ns) (hl:ns.length<=sizeLine) (hr:cF k callerA)
  (yB:Bm mg bG.heap) (F:∀base:Heap,K.In base->base.Ns mainGlobals mg->Bm mg base->aN P w K mg base CX k fa fd [x] sp) (dc0:∀(s:Shared) (u:Value),BindsTo s fd ⟨[u],[]⟩ [(x,u)])
  (ju:∀H:Hp,vC ts H->bS K H a (ns.map V.int)->sp [.ref a] H (λv _=>v=.bl true) λ_ _ _=>False)
  (GH:∀H e s',CX [] H bG (λ_ _ _=>False) e s'->False) :
  codeAny (model P w) callerA (.call (.ref fa) ⟨[.ref a],[]⟩) (λr s'=>r=.ok (.ret (.bool true))/\OldK bG.heap s'.heap/\s'.os=bG.os/\AllBare s'.gens) bG:=by
 have rv:=N4 hi
 have dc1:=hi.length
 have nat:a ∉ ts:=λz=>by
  have:=ht a z
  rw[ha]at this
  cases this
 have core:∀H:Hp,vC ts H->bS K H a (ns.map V.int)->dH P w H bG.heap->(∀b,H b≠none->b=a\/b∈ts)->(H a≠none->K.lookup a=none) ->
   codeAny (model P w) callerA (.call (.ref fa) ⟨[.ref a],[]⟩) (λr s'=>r=.ok (.ret (.bool true))/\OldK bG.heap s'.heap/\s'.os=bG.os/\AllBare s'.gens) bG:=by
  intro H hO hS aU hA hK
  have GI:∀{b:Addr} {o:Obj},bG.heap.get? b=some o->H b=none->(l9 bG.heap H).get? b=some o:=λe n=>YC e n
  have xp:∀{b:Addr} {o:Obj} {es:Array DictEntry} {ep:Nat},bG.heap.get? b=some o->o.data=.dict es ep->H b=none:=λ{b o es ep} e d=>by
   cases q:H b with
   | none=>rfl
   | some u =>
    rcases hA b (by rw[q];simp)with e' | e'
    ·subst e'
     rw[ha]at e;cases e
     have d':Data.seq vs.toArray _=Data.dict es ep:=d
     cases d'
    ·rw[ht b e']at e;cases e
     have d':Data.fields #[]=Data.dict es ep:=d
     cases d'
  have BM:∀{b:Addr} {m:Str->Option Value},bG.heap.Ns b m->(l9 bG.heap H).Ns b m:=λ{b m} ⟨o,es,ep,e,d,r⟩=>⟨o,es,ep,GI e (xp e d),d,r⟩
  have Pu:K.In (l9 bG.heap H):=λb o e=>GI (KX b o e) (by
   cases q:H b with
   | none=>rfl
   | some u =>
    rcases hA b (by rw[q];simp)with e' | e'
    ·subst e'
     rw[hK (by rw[q];simp)]at e;cases e
    ·rw[hkt b e']at e;cases e)
  have hBm:Bm mg (l9 bG.heap H):=by
   obtain⟨bm,o,b1,b2,b3,b4,b5,b6,b7⟩:=yB
   refine⟨bm,o,b1,b2,b3,GI b4 ?_,b5,b6,b7⟩
   cases q:H bm with
   | none=>rfl
   | some u =>
    rcases hA bm (by rw[q];simp)with e' | e'
    ·rw[e',ha]at b4;cases b4
     have d':Data.seq vs.toArray _=Data.plain:=b7
     cases d'
    ·rw[ht bm e']at b4;cases b4
     have d':Data.fields #[]=Data.plain:=b7
     cases d'
  have hM:Mod K mg (l9 bG.heap H):=⟨Pu,BM BL,⟨mb,BM hb,hbb⟩,let⟨mc,h1,h2⟩:=db8;⟨mc,BM h1,h2⟩⟩
  have e0:js P w K mg (l9 bG.heap H) callerA [] bG H:=⟨rfl,hM,λb o e=>YD e,Af (YB _ _),trivial,λb hb=>absurd (show b∈([]:List Addr) from hb) (by simp),aU,.of_eq hg⟩
  refine codeAny_mono ((F _ Pu (BM BL) hBm).run callerA [] bG H ⟨[.ref a],[]⟩ [.ref a] [.ref a] _ _ hr e0 (dc0 bG (.ref a)) (.cons rfl .nil) (ju H hO hS)) λr s' h=>?_
  cases r with
  | error e=>exact(GH H e s' h).elim
  | ok fl =>
   cases fl with
   | next=>exact gF h
   | brk=>exact gF h
   | cont=>exact gF h
   | ret u =>
    obtain⟨v,H',os,bare,un,Pw,r',q⟩:=h
    have q':v=.bl true:=q
    subst q'
    obtain rfl:u=Eg true:=r'
    have each:∀b o,bG.heap.get? b=some o->asItWas bG.heap s'.heap b o/\∃o',s'.heap.get? b=some o':=λb o e=>by
     cases q:H b with
     | none =>
      have z:=un.keep b o e q (by intro z;exact absurd (show b∈([]:List Addr) from z) (by simp)) (by simp)
      exact⟨.inl z,o,z⟩
     | some u =>
      rcases hO.any b with z | ⟨ob,xs,z⟩ | ⟨jV,z⟩
      ·rw[q]at z;cases z
      ·have z2:=un.ka b ob _ z
       obtain⟨e1,_⟩:=aU b _ z
       obtain⟨e2,_⟩:=Pw b _ z2
       rw[e]at e1;cases e1
       exact⟨.inl e2,_,e2⟩
      ·obtain⟨more,z2⟩:=un.jl b _ z
       have e2:=(Pw b _ z2).1
       rw[ht b jV]at e;cases e
       exact⟨.inr (.inl ⟨GG b jV,rfl,#[],more,rfl,e2⟩),_,e2⟩
    exact⟨rfl,⟨λb o e=>(each b o e).1,λb o e=>(each b o e).2⟩,os,bare⟩
 have tok:∀(H:Hp) (b:Addr),b∈ts->fk P w H bG.heap b (.dU #[]):=λH b hb=>⟨ht b hb,trivial,λpos cv q=>by cases q⟩
 cases hk:K.lookup a with
 | some o =>
  have e:=KX a o hk
  rw[ha]at e
  cases e
  refine core (λb=>if b∈ts then some (.dU #[])else none) ⟨λb=>?_,λb hb=>if_pos hb⟩ (.inr ⟨_,vs.toArray,_,hk,rfl,rfl,rfl,by rw[eB,dc1];exact hl,by simpa using rv⟩) (λb u z=>?_) (λb z=>?_) λz=>absurd (if_neg nat) z
  ·by_cases hb:b∈ts
   ·exact .inr (.inr ⟨hb,if_pos hb⟩)
   ·exact .inl (if_neg hb)
  ·by_cases hb:b∈ts
   ·have z':=(if_pos hb).symm.trans z
    cases z'
    exact tok _ b hb
   ·have z':=(if_neg hb).symm.trans z
    cases z'
  ·by_cases hb:b∈ts
   ·exact .inr hb
   ·exact absurd (if_neg hb) z
 | none =>
  refine core (λb=>if b=a then some (.bx { cls:=.type "list",data:=.seq vs.toArray } (.lst (ns.map V.int)))else if b∈ts then some (.dU #[])else none) ⟨λb=>?_,λb hb=>?_⟩ (.inl (.inr ⟨{ cls:=.type "list",data:=.seq vs.toArray },if_pos rfl⟩)) (λb u z=>?_) (λb z=>?_) λ_=>hk
  ·by_cases hb:b=a
   ·exact .inr (.inl ⟨_,_,if_pos hb⟩)
   ·by_cases jV:b∈ts
    ·exact .inr (.inr ⟨jV,(if_neg hb).trans (if_pos jV)⟩)
    ·exact .inl ((if_neg hb).trans (if_neg jV))
  ·have mx:b≠a:=λz=>nat (z ▸ hb)
   exact(if_neg mx).trans (if_pos hb)
  ·by_cases hb:b=a
   ·have z':=(if_pos hb).symm.trans z
    cases z'
    subst hb
    exact⟨ha,by rw[bw];exact hl,vs,_,rv,ha⟩
   ·by_cases jV:b∈ts
    ·have z':=((if_neg hb).trans (if_pos jV)).symm.trans z
     cases z'
     exact tok _ b jV
    ·have z':=((if_neg hb).trans (if_neg jV)).symm.trans z
     cases z'
  ·by_cases hb:b=a
   ·exact .inl hb
   ·by_cases jV:b∈ts
    ·exact .inr jV
    ·exact absurd ((if_neg hb).trans (if_neg jV)) z
theorem dc3{l:PySem.W.OpenLaw}{n k:Nat}{q:Program}{loose:List Str}{XP:(Str->Option Value)->Heap->Prop}{YP:World->Heap->Prop}{d:DefRec}{K:Params->PySem.W.Frag}{CX:World->fA}{sp:World->Sp}{x:Str}{ts:List Addr}
  (hn:l.most=some n) (t9:n<=sizeLine) (xt:d.params.defaults=[]) (hr:cF k callerA)
  (hY:∀(w:World) (h:Heap),YP w h->(K w.params).In h/\∀P∈ts,h.get? P=some (PySem.W.tabObj #[]))
  (hC:∀(w:World) (h:Heap),(K w.params).In h->∀P∈ts,(K w.params).lookup P=none/\∃c,PySem.W.CodeHd h c P)
  (F:∀(w:World) (mg:Str->Option Value) (fa:Addr) (h:Heap),(K w.params).In h->h.Ns mainGlobals mg->mg d.name=some (.ref fa) ->
   ∃fd:FuncData,(∀(s:Shared) (u:Value),BindsTo s fd ⟨[u],[]⟩ [(x,u)]) /\
    ∀base:Heap,(K w.params).In base->base.Ns mainGlobals mg->Bm mg base->aN l.prog w (K w.params) mg base (CX w) k fa fd [x] (sp w))
  (ju:∀(w:World) (H:Hp) (a:Addr) (ns:List Int),ns.length<=n->vC ts H->bS (K w.params) H a (ns.map V.int)->sp w [.ref a] H (λv _=>v=.bl true) λ_ _ _=>False)
  (GH:∀(w:World) (H:Hp) (s:Shared) (e:Value) (s':Shared),CX w [] H s (λ_ _ _=>False) e s'->False) :
  PySem.W.WalkO q loose XP YP l.row.toRowW d [] (λf vs=>PySem.call f vs):=by
 refine Att.cX7 hn xt λw eX bG mg mb fa o pm cd doc a vs ns G Y ho hd dh xu Fp hints hlen hg=>?_
 obtain⟨KX,hT⟩:=hY w _ Y
 obtain⟨fd,hb,hF⟩:=F w mg fa _ KX G.T.g xu
 have GG:∀P∈ts,isCodeTable bG.heap P:=λP hP=>by
  obtain⟨_,c,C⟩:=hC w _ KX P hP
  exact(C.tab (hT P hP)).isCodeTable
 have yB:Bm mg bG.heap:=by
  obtain⟨bm,ob,b1,b2,b3,b4,b5,b6⟩:=G.T.bmain
  refine⟨bm,ob,b1,b2,λq=>?_,b3,b4,b5,b6⟩
  obtain⟨o,es,ep,e,hd,_⟩:=G.T.g
  rw[q,e]at b3;cases b3;rw[hd]at b6;cases b6
 exact b46 KX G.T.g G.T.b G.T.builtins G.T.nolimit hg hT GG (λP hP=>(hC w _ KX P hP).1) Fp hints (fU hlen t9) hr yB hF hb (λH hO hS=>ju w H a ns hlen hO hS) λH e s'=>GH w H bG e s'
end L2
namespace L3
open PySem L2 PySem.Spec PyProof.Rows
noncomputable def vD(ts:List Addr)(sp:Sp):Sp:=λvs H Q E=>Tb ts H/\sp vs H Q E
theorem GJ{X:Cx}{pins:List (Addr × Obj)}{σ:L2.St}{H:Hp}{s:Shared}{ts:List Addr}(I:Inv X pins σ H s)(h:Tb ts X.mf):Tb ts H:=λP hP=>by
 obtain⟨ps,e⟩:=h P hP
 obtain⟨m,e2⟩:=I.base.jl P ps e
 exact⟨_,e2⟩
noncomputable def BN(ts:List Addr)(K:PySem.W.Frag):Sp:=λvs H Q _=>∃(a:Addr) (ns:List Int),vs=[.ref a]/\vC ts H/\bS K H a (ns.map V.int)/\ns.length<=63/\∀H',Q (.bl true) H'
theorem ci4{ts:List Addr}{K:PySem.W.Frag}(nl:K.all (λp=>Gp p.2)=true){vs:List V}{H:Hp}{Q:VK}{E:XK}(h:BN ts K vs H Q E):vD ts (bf Pg) vs H Q E:=by
 obtain⟨a,ns,rfl,hO,hS,hl,q⟩:=h
 have hz:∃o,H a=some (.bx o (.lst (ns.map V.int))):=by
  rcases hS with (hS | hS) | ⟨o,its,n,hk,hc,_⟩
  ·rcases hO.any a with z | ⟨o,xs,z⟩ | ⟨_,z⟩
   ·rw[hS]at z;cases z
   ·rw[hS]at z;cases z
   ·rw[hS]at z;cases z
  ·exact hS
  ·have hm:=bK5 hk
   have:=c9.mp nl _ hm
   simp[Gp,hc]at this
 obtain⟨o,ho⟩:=hz
 refine⟨hO.tb,H,[.fz (aJ ns)],λd=>d=.bl true,af.refl _,.fz ho (kZ ns) .nil,⟨ns,rfl,hl,rfl⟩,λd v F' H' A hd hs hf he h3 r nd fr=>?_⟩
 subst hd
 cases r
 exact q H'
end L3
namespace L2
open PySem PySem.Spec PyProof.Rows
noncomputable def rem(H:Hp)(f c:Addr):Hp:=λb=>if b=f\/b=c then none else H b
noncomputable def nX(H H':Hp)(f c:Addr):Hp:=λb=>if b=f\/b=c then H b else H' b
section
variable{P:Program}{w:World}{H H':Hp}{h:Heap}{a b f c:Addr}{o:HO}{of oc:Obj}
theorem Px:rem H f c f=none:=if_pos (.inl rfl)
theorem BO:rem H f c c=none:=if_pos (.inr rfl)
theorem iH(h1:b≠f)(h2:b≠c):rem H f c b=H b:=if_neg (by simp[h1,h2])
theorem vE(e:H b=none):rem H f c b=none:=by unfold rem;split;rfl;exact e
theorem Py(e:rem H f c b=some o):b≠f/\b≠c/\H b=some o:=by
 unfold rem at e
 split at e
 ·cases e
 ·rename_i n
  exact⟨λz=>n (.inl z),λz=>n (.inr z),e⟩
theorem pT(h1:b≠f)(h2:b≠c):nX H H' f c b=H' b:=if_neg (by simp[h1,h2])
theorem Pz:nX H H' f c f=H f:=if_pos (.inl rfl)
theorem GK:nX H H' f c c=H c:=if_pos (.inr rfl)
theorem fk.rem{φ:Heap->Prop}(x:fk P w H h a o)(ha:a≠f)(hf:H f=some (.ext φ))(hc:H c=some (.own f)\/H c=none)(GL:¬ ∀h',φ h'->∃q,h'.CodeRec (.ref f) q):fk P w (rem H f c) h a o:=by
 have own:∀b,H b=some (.own a)->L2.rem H f c b=some (.own a):=λb e=>by
  rw[iH (λz=>by subst z;rw[hf]at e;cases e) (λz=>by subst z;rcases hc with hc | hc<;>(rw[hc]at e;cases e);exact ha rfl)];exact e
 have tup:∀b xs,H b=some (.tup xs)->L2.rem H f c b=some (.tup xs):=λb xs e=>by
  rw[iH (λz=>by subst z;rw[hf]at e;cases e) (λz=>by subst z;rcases hc with hc | hc<;>(rw[hc]at e;cases e))];exact e
 induction o with
 | lst xs=>exact x
 | tup xs=>exact x
 | dK eG=>exact x
 | dT eG =>
  obtain⟨z,y,xs,r,ob⟩:=x
  exact⟨z,y,xs,Paired.EJ r λp q z=>⟨z.1,tup _ _ z.2.1,z.2.2⟩,ob⟩
 | set S n=>exact x
 | ins C dx fs =>
  obtain⟨d,r⟩:=x
  exact⟨own _ d,r⟩
 | own y=>exact x
 | xd fs=>exact x
 | AM lo hi=>exact x
 | bx ob u ih=>obtain⟨e,q⟩:=x;exact⟨e,ih q⟩
 | dU ps =>
  obtain⟨e,t,cc⟩:=x
  refine⟨e,t,λpos cv q=>?_⟩
  obtain⟨d,φ,e1,e2,e3⟩:=cc pos cv q
  refine⟨d,φ,e1,?_,e3⟩
  rw[iH (λz=>?_) (λz=>by subst z;rcases hc with hc | hc<;>(rw[hc]at e2;cases e2))]
  ·exact e2
  ·subst z
   rw[hf]at e2;cases e2
   exact GL e3
 | met f y=>exact x
 | ext φ=>obtain⟨p,r,st⟩:=x;exact⟨p,r,λh1 h2 p1 kk=>st h1 h2 p1 λb o hb q=>kk b o (hb.imp id (own b)) q⟩
theorem PB{φ:Heap->Prop}{fd:FuncData}(p:φ h)(g:∀h',φ h'->h'.get? f=some of)(hd:of.data=.func fd):¬ ∀h',φ h'->∃q,h'.CodeRec (.ref f) q:=λz=>by
 obtain⟨q,k,ok,vs,t,q1,q2,q3,_⟩:=z h p
 cases q1
 rw[g h p]at q2;cases q2
 rw[hd]at q3;cases q3
theorem dH.lam(ok:dH P w H h)(hf:H f=some (.ext (L3.jP of oc c f))):L3.jP of oc c f h:=(ok f _ hf).1
theorem dH.rem{fd:FuncData}(ok:dH P w H h)(hf:H f=some (.ext (L3.jP of oc c f)))(hc:H c=some (.own f))(hd:of.data=.func fd):dH P w (rem H f c) h:=λb o e =>
 let⟨h1,_,h3⟩:=Py e;(ok b o h3).rem h1 hf (.inl hc) (PB (ok.lam hf) (λ_ p=>p.1) hd)
end
theorem js.rem{P:Program}{w:World}{K:PySem.W.Frag}{mg:Str->Option Value}{base:Heap}{A:Around}{outer:List Env}{s:Shared}{H:Hp}{f c:Addr}{of oc:Obj}{fd:FuncData}(e:js P w K mg base A outer s H)
  (hf:H f=some (.ext (L3.jP of oc c f))) (hc:H c=some (.own f)) (hd:of.data=.func fd):js P w K mg base A outer s (rem H f c) :=
 ⟨e.frames,e.mod,λb o q=>⟨(e.bs b o q).1,vE (e.bs b o q).2⟩,e.kb,e.hZ,λb hb=>vE (e.ke b hb),e.aU.rem hf hc hd,e.bare⟩
theorem CE.add{P:Program}{w:World}{K:PySem.W.Frag}{mg:Str->Option Value}{base:Heap}{A:Around}{outer:List Env}{s s':Shared}{H:Hp}{f c:Addr}{of oc:Obj}{Q Q':VK}{u:Value}(e0:js P w K mg base A outer s H)
  (hf:H f=some (.ext (L3.jP of oc c f))) (hc:H c=some (.own f)) (h:CE outer P w (rem H f c) s Q u s') (hQ:∀v H',Q v H'->H' f=none->H' c=none->Q' v (nX H H' f c)):CE outer P w H s Q' u s':=by
 obtain⟨v,H',os,bare,un,aU,r,q⟩:=h
 obtain⟨gf,gc⟩:=e0.aU.lam hf
 have PC:∀{b o},H b=some o->b ∉ jm outer:=λ{b o} e z=>by rw[e0.ke b z]at e;cases e
 have nf:H' f=none:=un.free f _ gf Px (by simp)
 have nc:H' c=none:=un.free c _ gc BO (by simp)
 have kf:=un.keep f _ gf Px (PC hf) (by simp)
 have kc:=un.keep c _ gc BO (PC hc) (by simp)
 refine⟨v,nX H H' f c,os,bare,⟨λb o e n=>un.keep b o e (vE n),λb o e n=>un.slot b o e (vE n),λb o e n x=>?_,un.there,λb xs e=>?_,λb ob xs e=>?_,λb ps e=>?_⟩,λb o e=>?_,r,hQ v H' q nf nc⟩
 ·rw[pT (λz=>by subst z;rw[hf]at n;cases n) (λz=>by subst z;rw[hc]at n;cases n)]
  exact un.free b o e (vE n) x
 ·have n1:b≠f:=λz=>by subst z;rw[hf]at e;cases e
  have n2:b≠c:=λz=>by subst z;rw[hc]at e;cases e
  rw[pT n1 n2]
  exact un.kI b xs (by rw[iH n1 n2];exact e)
 ·have n1:b≠f:=λz=>by subst z;rw[hf]at e;cases e
  have n2:b≠c:=λz=>by subst z;rw[hc]at e;cases e
  rw[pT n1 n2]
  exact un.ka b ob xs (by rw[iH n1 n2];exact e)
 ·have n1:b≠f:=λz=>by subst z;rw[hf]at e;cases e
  have n2:b≠c:=λz=>by subst z;rw[hc]at e;cases e
  rw[pT n1 n2]
  exact un.jl b ps (by rw[iH n1 n2];exact e)
 ·by_cases z:b=f
  ·subst z
   rw[Pz,hf]at e;cases e
   refine⟨⟨kf,kc⟩,⟨_,kf⟩,λh1 h2 p kk=>⟨kk b _ (.inl rfl) p.1,kk c _ (.inr ?_) p.2⟩⟩
   rw[GK];exact hc
  ·by_cases z2:b=c
   ·subst z2
    rw[GK,hc]at e;cases e
    exact⟨_,kc⟩
   ·rw[pT z z2]at e
    have up:∀{b' o'},H' b'=some o'->nX H H' f c b'=some o':=λ{b' o'} q=>by
     rw[pT (λz=>by subst z;rw[nf]at q;cases q) (λz=>by subst z;rw[nc]at q;cases q)];exact q
    exact(aU b o e).l7 (λ_ _ _ q=>q) (λ_ q=>up q) (λ_ _ q=>up q) λ_ _ q=>up q
theorem cd2{prog:Program}{w:World}{A:Around}{R:Result->Shared->Prop}{s:Shared}{a:Addr}{args:Args}{o:Obj}{fd:FuncData}{body:Expr}{q:Str}(dc6:A.depth<recursionLimit)
  (ho:s.heap.get? a=some o)
  (wY:o.data=.func fd) (hco:fd.scope.isCoroutine=false) (dc9:fd.scope.isGenerator=false) (iT:fd.body=.expr body) (dh:s.heap.CodeRec fd.code q)
  (h:wpAny (model prog w) A.in1 (bindArgs fd args) (λbinds bG =>
   wpAny (model prog w) A.in1 (newFunctionEnv fd.scope fd.globals fd.closure binds (q++".<locals>.") (some a) fd.code none fd.builtins)
    (λenv qP=>qP.heap.NoLimit/\codeAny (model prog w) A (.expr body env) R qP) (λe s'=>R (.error e) s') bG) (λe s'=>R (.error e) s') s) :
  codeAny (model prog w) A (.call (.ref a) args) R s:=by
 refine codeAny_of_tree ?_
 show wpAny _ A.in1 (callAny (.ref a) args) _ _ s
 simp only[callAny]
 refine wpAny_bind (wpAny_load ho ?_)
 obtain⟨c,oc,vs,tq,hc,jn,GN,hq⟩:=dh
 simp only[wY,callFunction,hco,dc9,iT,hc]
 rw[hc]at h
 refine wpAny_bind (m:=field (.ref c) 1) (wpAny_field jn GN hq (wpAny_bind (wpAny_pure ?_)))
 exact wpAny_bind (wpAny_mono h (λbinds bG BP=>wpAny_bind (wpAny_mono BP (λenv qP PD=>wpAny_bind (wpAny_enterFrame PD.1 dc6
  (wpAny_pure (And.intro rfl PD.2)))) λ_ _ h'=>h')) λ_ _ h'=>h')
structure PH(p1 p2 x:Str)(sc:Scope):Prop where
 kind:sc.kind=.function
 co:sc.isCoroutine=false
 gen:sc.isGenerator=false
 nd:[p1,p2,x].Nodup
 l1:sc.names.lookup p1=some .local
 l2:sc.names.lookup p2=some .local
 PJ:∀y∈sc.names,y.2≠.cell
 only:∀y∈sc.names,y.2=.free->y.1=x
 lx:sc.names.lookup x=some .free
noncomputable def rW(CX:fA)(P:Program)(w:World)(K:PySem.W.Frag)(mg:Str->Option Value)(base:Heap)(N:List Str)(qual:Str)(scope:Scope)(f:Addr)(cd:Value)(cl:List (Str × Addr))(A:Around)(outer:List Env)(s:Shared)(H:Hp)(E:XK):Cx where
 prog:=P
 w:=w
 K:=K
 mg:=mg
 base:=base
 A:=A.deeper (PySem.W.envX qual scope s.heap.objs.size f cd cl)
 N:=N
 eX:=s
 mf:=H
 env:=PySem.W.envX qual scope s.heap.objs.size f cd cl
 outer:=outer
 stack:=PySem.W.envX qual scope s.heap.objs.size f cd cl::outer
 ex:=[]
 calm:=true
 fn:=λ_=>false
 pn:=[]
 xe:=λe s'=>wpAny (model P w) (A.deeper (PySem.W.envX qual scope s.heap.objs.size f cd cl)) (leaving (PySem.W.envX qual scope s.heap.objs.size f cd cl) e) (λ_ qW=>CX outer H s E e qW) (λe' qW=>CX outer H s E e' qW) s'
theorem cw7{CX:fA}{P:Program}{w:World}{K:PySem.W.Frag}{mg:Str->Option Value}{base:Heap}{p1 p2 x qn q:Str}{params:Arguments}{body:Expr}{scope:Scope}{pm jE:Value}{f c c':Addr}{k:Nat}{A:Around}{outer:List Env}{s:Shared}{H:Hp}{E:XK}
  {u1 u2 uc:Value} {v1 v2 vc:V} {Q:VK} {t:TE} {args:Args} (S:PH p1 p2 x scope) (e0:js P w K mg base A outer s H) (hr:cF (k+1) A)
  (hf:s.heap.get? f=some (PySem.W.kla_obj "<lambda>" qn params body scope [(x,c)] pm c' jE)) (hc:s.heap.IsCell c (some uc)) (rc:RelV vc uc) (hH:H c=none) (dh:s.heap.CodeRec (.ref c') q)
  (hb:bindArgs (PySem.W.kla_fn "<lambda>" qn params body scope [(x,c)] pm (.ref c') jE) args=pure [(p1,u1),(p2,u2)]) (r1:RelV v1 u1) (r2:RelV v2 u2)
  (ht:PE (rW CX P w K mg base [p1,p2,x] q scope f (.ref c') [(x,c)] A outer s H E) body t) (h:t [some v1,some v2,some vc] H Q) :
  codeAny (model P w) A (.call (.ref f) args) (CR CX outer P w H s Q E) s:=by
 have lim:s.heap.NoLimit:=e0.mod.nolimit.keeps λb o e=>(e0.bs b o e).1
 refine cd2 hr.depth hf rfl S.co S.gen rfl dh ?_
 rw[hb]
 have dd1:∀y∈[(p1,u1),(p2,u2)],scope.names.lookup y.1=some .local:=λy hy=>by
  simp at hy
  rcases hy with rfl | rfl
  ·exact S.l1
  ·exact S.l2
 refine wpAny_pure (wpAny_newFunctionEnv S.PJ dd1 (λBP BL PK=>⟨lim.fresh _ PK,?_⟩) S.kind)
 show codeAny _ _ (.expr body (PySem.W.envX q scope s.heap.objs.size f (.ref c') [(x,c)])) _ _
 have hk:∀b o,s.heap.get? b=some o->BP.get? b=some o:=λb o e=>PK.extBut b o (fS (cy e)) (gQ _ e)
 have cM:p1≠p2/\p1≠x/\p2≠x:=by have:=S.nd;simp at this;exact⟨this.1.1,this.1.2,this.2⟩
 have look:∀y d,([(x,c)]:List (Str × Addr)).lookup y=some d->y=x/\d=c:=λy d e=>by
  rw[gq]at e
  split at e
  ·rename_i z;exact⟨beq_iff_eq.mp z,(de e).symm⟩
  ·cases e
 have I:Inv (rW CX P w K mg base [p1,p2,x] q scope f (.ref c') [(x,c)] A outer s H E) [] [some v1,some v2,some vc] H { s with heap:=BP,toks:=s.toks+[(p1,u1),(p2,u2)].length }:=by
  refine⟨⟨e0.mod,S.kind,rfl,rfl,bK _,λy z d h1 h2=>?_,λy hy=>?_,λy d z _=>absurd z (by simp[rW]),λ_=>hr.hd,Around.frames_deeper e0.frames,.inr ⟨rfl,rfl⟩,λb z=>absurd z (by simp[rW]),e0.bs,e0.kb,λb _ _=>by simp[rW],λb z=>absurd z (by simp[rW]),e0.hZ,e0.ke⟩,
   rfl,e0.bare,Un.kept hk,⟨_,BL,λi y v h1 h2 h3=>?_⟩,λy d h=>?_,e0.aU.fresh (bK _),λy d h=>?_,λp hp=>absurd (show p∈([]:List (Addr × Obj)) from hp) (by simp),e0.aU.kept hk,rfl⟩
  ·exact(look y d h1).1.trans (look z d h2).1.symm
  ·have hy:scope.names.lookup y=some .cell\/scope.names.lookup y=some .free:=hy
   rcases hy with hy | hy
   ·exact absurd rfl (S.PJ _ (PySem.mem_of_lookup hy))
   ·obtain rfl:y=x:=S.only _ (PySem.mem_of_lookup hy) rfl
    exact⟨c,by show([(y,c)]:List (Str × Addr)).lookup y=_;rw[gq,beq_self_eq_true]⟩
  ·match i,h1,h2 with
   | 0,h1,h2 =>
    cases h1;cases h2
    exact⟨u1,r1,.inl ⟨S.l1,by
     show([(p1,u1),(p2,u2)]:List (Str × Value)).reverse.lookup p1=_
     simp[gq,beq_eq_false_iff_ne.mpr cM.1]⟩⟩
   | 1,h1,h2 =>
    cases h1;cases h2
    exact⟨u2,r2,.inl ⟨S.l2,by
     show([(p1,u1),(p2,u2)]:List (Str × Value)).reverse.lookup p2=_
     simp[gq]⟩⟩
   | 2,h1,h2 =>
    cases h1;cases h2
    exact⟨uc,rc,.inr ⟨.inr S.lx,c,by show([(x,c)]:List (Str × Addr)).lookup x=_;rw[gq,beq_self_eq_true],hc.keeps hk⟩⟩
   | n+3,h1,h2=>cases h2
  ·obtain⟨rfl,rfl⟩:=look y d h
   exact⟨_,hc.keeps hk⟩
  ·obtain⟨rfl,rfl⟩:=look y d h
   exact hH
 refine PySem.W.kla_codeExpr (wpAny_mono (ht [] _ _ H _ I h) (λu s' hs=>?_) λe s' hs=>hs)
 obtain⟨v,H',J,rv,q⟩:=hs
 exact⟨v,H',J.os,J.bare,J.base,J.aU,rv,q⟩
end L2
namespace L3
open PySem L2 PySem.Spec PyProof.Rows
theorem af.nX{H H':Hp}{f c:Addr}{o1 o2:HO}(h:af (rem H f c) H')(h1:H f=some o1)(n1:jx o1=true)(h2:H c=some o2)(n2:jx o2=true):af H (nX H H' f c) where
 get b o e n:=by
  by_cases z:b=f
  ·rw[z,Pz,<- z];exact e
  ·by_cases z2:b=c
   ·rw[z2,GK,<- z2];exact e
   ·rw[pT z z2];exact h.get b o (by rw[iH z z2];exact e) n
 tb b ps e:=by
  have z:b≠f:=λz=>by subst z;rw[h1]at e;cases e;cases n1
  have z2:b≠c:=λz=>by subst z;rw[h2]at e;cases e;cases n2
  rw[pT z z2]
  exact h.tb b ps (by rw[iH z z2];exact e)
noncomputable abbrev vF:=Int->Int->(Int->Prop)->Prop
structure yC(P:Program)(w:World)(K:PySem.W.Frag)(mg:Str->Option Value)(base:Heap)(n:Nat)(of oc:Obj)(c k:Addr)(sp:vF):Prop where
 fn:∃o1 od fd sl,of=⟨o1,od,.func fd,sl⟩
 run:∀(A:Around) (outer:List Env) (s:Shared) (H:Hp) (f:Addr) (t u:Tok) (i j:Int) (Qd:Int->Prop),cF n A->js P w K mg base A outer s H->s.heap.get? f=some of->s.heap.get? c=some oc->H c=none->(∃q,s.heap.CodeRec (.ref k) q)->sp i j Qd ->
  codeAny (model P w) A (.call (.ref f) ⟨[.int i t,.int j u],[]⟩) (CR aP outer P w H s (λv H'=>∃r,v=.int r/\Qd r/\af H H') (λ_ _ _=>False)) s
noncomputable def vG(L:Obj->Obj->Addr->Addr->vF->Prop)(i:Nat)(ta:cU):aS:=λδ Q=>∃of oc c k sp,δ[i]?=some (some (.bI (.lam of oc c k)))/\L of oc c k sp/\ta δ λds ah=>∃a b,ds=[.int a,.int b]/\sp a b λr=>Q (.int r) ah
theorem PL{X:Cx}{n i:Nat}{x:Str}{p pos:Pos}{e1 e2:Expr}{ta:cU}(hN:X.N[i]?=some x)(hv:m9 X.env.scope x)(hr:cF n X.A)(ha:PA X [e1,e2] (lA ta))
  (hd:(x==("__debug__":Str))=false:=by decide) (dh:(x==("__classdict__":Str))=false:=by decide) (he:starEach [e1,e2] X.env=(false,eval e1 X.env)::starEach [e2] X.env:=by rfl) (bZ:(backTo pos (starEach [e2] X.env)).any (·.1)=false:=by rfl) :
  PE X (.Call (.Name x p) [e1,e2] [] pos) (lE (vG (yC X.prog X.w X.K X.mg X.base n) i ta)):=by
 intro pins s σ H Q I zz
 obtain⟨B,F,δ,ts,Qd,c,⟨of,oc,cc,k,sp,ed,L,q⟩,kk⟩:=zz
 obtain⟨v,ev,sv⟩:=c.look ed
 obtain⟨f,rfl,lam⟩:∃f,v=.ref f/\kh H f of oc cc k:=by
  cases sv with
  | bI h _=>exact⟨_,rfl,h⟩
 refine wpAny_Call_Name_kw (aV (tX hN hv hd dh pins s σ H (λv' H'=>v'=.ref f/\H'=H) I ⟨_,ev,rfl,rfl⟩) λu s1 zz=>?_)
 obtain⟨v',H',I1,r1,e1,e2⟩:=zz
 subst e1 e2
 obtain rfl:u=.ref f:=r1
 have fnAt:∀{H1:Hp} {s2:Shared},Inv X pins σ H1 s2->kh H1 f of oc cc k->PySem.W.FnAt f s2.heap:=λ{H1 s2} J l=>by
  obtain⟨o1,od,fd,sl,e⟩:=L.fn
  exact⟨o1,od,fd,sl,by rw[<-e];exact(J.aU.lam l.fn).1⟩
 refine PySem.W.callWith_F (fnAt I1 lam) (aV (ha pos pins s1 σ H' (λvs H2=>∃a b ah F',vs=[.int a,.int b]/\(sp a b λr=>Qd (.int r) ah)/\af F F'/\af H' H2/\av B F' H2 σ ah ts) I1
  ⟨B,F,δ,ts,_,c,q,λds ah vs F' H2 ⟨a,b,eds,q2⟩ f1 h1 c1 s1=>?_⟩) λus s2 ⟨vs,H2,I2,r2,a,b,ah,F',evs,q2,f1,h1,c1⟩=>⟨fnAt I2 ((show qZ H' f (.lam of oc cc k) from lam).mono λa o e _ t=>h1.get a o e t),?_⟩) he bZ
 ·subst eds
  refine⟨a,b,ah,F',?_,q2,f1,h1,c1⟩
  cases s1 with
  | int s1=>cases s1 with
   | int s1=>cases s1;rfl
 ·subst evs
  have pU:kh H2 f of oc cc k:=(show qZ H' f (.lam of oc cc k) from lam).mono λa o e _ t=>h1.get a o e t
  obtain⟨o1,od,fd,sl,eof⟩:=L.fn
  have dd4:of.data=.func fd:=by rw[eof]
  obtain⟨gf,gc⟩:=I2.aU.lam pU.fn
  obtain⟨ψ,eψ,yD⟩:=pU.FJ
  obtain⟨u1,u2,t1,t2,rfl⟩:∃(u1 u2:Unit) (t1 t2:Tok),us=[.int a t1,.int b t2]:=by
   cases r2 with
   | cons ra r2=>cases r2 with
    | cons rb r2 =>
     cases r2
     obtain⟨t1,rfl⟩:=ra
     obtain⟨t2,rfl⟩:=rb
     exact⟨(),(),t1,t2,rfl⟩
  refine wpAny_call (codeAny_mono (L.run X.A X.stack s2 (rem H2 f cc) f t1 t2 a b _ hr (I2.xn.rem pU.fn pU.cell dd4) gf gc BO (yD _ (I2.aU k _ eψ).1) q2) λr s' hq=>?_)
  cases r with
  | error e=>exact hq.elim
  | ok fl =>
   cases fl with
   | ret u =>
    refine I2.after (CE.add I2.xn pU.fn pU.cell hq (Q':=Q) ?_)
    rintro v H3 ⟨r,rfl,hqd,hs⟩ nf nc
    have sm:=hs.nX pU.fn rfl pU.cell rfl
    exact kk _ ah _ F' _ hqd f1 (h1.trans sm) ((c1.grow sm).pushS (.int .nil) rfl)
   | next=>exact gF hq
   | brk=>exact gF hq
   | cont=>exact gF hq
end L3
namespace L2
open PySem PySem.Spec PyProof.Rows
theorem bE1{p:Pos}{c:Value}(l:List Value)(h:TriplesOk l):TriplesOk (l++[rawInt p.line,rawInt p.col,c]):=by
 fun_induction TriplesOk l with
 | case1=>simp[TriplesOk,rawInt]
 | case2 a b d e f rest ih=>exact ih h
 | case3=>exact h.elim
theorem bS8{p q:Pos}{c cv:Value}(l:List Value)(h:TriplesOk l)(e:codeAmong q (l++[rawInt p.line,rawInt p.col,c])=some cv):codeAmong q l=some cv\/cv=c:=by
 fun_induction TriplesOk l with
 | case1 =>
  simp only[qq,rawInt,codeAmong]at e
  split at e
  ·exact .inr (de e).symm
  ·cases e
 | case2 a b d e' f rest ih =>
  simp only[tM,codeAmong]at e ⊢
  split at e
  ·rename_i z;rw[if_pos z];exact .inl e
  ·rename_i z;rw[if_neg z];exact ih h e
 | case3=>exact h.elim
noncomputable def nY(f:Addr)(o:Obj):Heap->Prop:=λh=>h.get? f=some o
noncomputable def cS0(P c:Addr)(x:Str)(params:Arguments)(body:Expr)(scope:Scope):TE:=λ_ H Q=>(∃ps,H P=some (.dU ps)) /\
 ∀f k qn pm jE H',H f=none->H' f=some (.ext (nY f (PySem.W.kla_obj "<lambda>" qn params body scope [(x,c)] pm k jE)))->L3.FI H' k->k≠f->L3.af H H'->(∀a ws,H' a=some (.lst ws)->H a=some (.lst ws))->Q (.ref f) H'
theorem PM{X:Cx}{P c cc:Addr}{x:Str}{params:Arguments}{body:Expr}{scope:Scope}{pos:Pos}(gB:closureFor scope X.env=pure [(x,c)])(BQ:X.env.code=.ref cc)(hK:PySem.W.codeHdIn X.K cc P=true)(yB:Bm X.mg X.base)
  (de0:defaultsOf params X.env=([],[]):=by rfl):PE X (.Lambda params body scope pos) (cS0 P c x params body scope):=by
 intro pins s σ H Q I zz
 obtain⟨⟨ps,hP⟩,q⟩:=zz
 obtain⟨bm,ob,b1,b2,b3,b4,b5,b6,b7⟩:=yB
 have C:=PySem.W.codeHd_of_K I.dA hK
 obtain⟨oP,BR,codes⟩:=I.aU P _ hP
 have hg:=I.mod.glob.keeps I.bk
 have PN:∀{b o},X.base.get? b=some o->b≠P:=λ{b o} e z=>by
  have:=(I.bs b o e).2
  rw[z,hP]at this;cases this
 have hgP:mainGlobals≠P:=by
  obtain⟨o,es,ep,e,_⟩:=I.mod.glob
  exact PN e
 have PQ:s.heap.BuiltinsAt X.mg P:=⟨bm,ob,b1,b2,b3,PN b4,I.bk _ _ b4,b5,b6,b7⟩
 refine PySem.W.kla_eval de0 ?_
 have fresh:∀{b:Addr},s.heap.objs.size<=b->H b=none:=λ{b} h=>I.aU.fresh h
 cases GO:codeAmong pos ps.toList with
 | none =>
  refine PySem.W.kla_makeFunction (mg:=X.mg) gB I.ok.glob hg BQ C oP BR GO hgP PQ λk jE h' tk hx yE fL de2 PR=>?_
  have GP:P<s.heap.objs.size:=cy oP
  have hPk:k≠P:=λz=>by rw[z]at yE;exact absurd GP (wM.mpr yE)
  have rX:s.heap.objs.size<=h'.objs.size:=fU yE (Ad fL)
  have hPf:h'.objs.size≠P:=λz=>by rw[<-z]at GP;exact absurd GP (wM.mpr rX)
  have PU:k≠h'.objs.size:=fS fL
  generalize PV:PySem.W.kla_obj "<lambda>" (X.env.qual++"<lambda>") params body scope [(x,c)] ((X.mg "__name__").getD .none) k jE=obj
  have gx:obj.isFreed=false:=by rw[<-PV];rfl
  have yF:∀b,b≠P->b≠k->b≠h'.objs.size->upd (upd (upd H P (.dU (ps++#[rawInt pos.line,rawInt pos.col,.ref k]))) k (.ext λh=>∃q,h.CodeRec (.ref k) q)) h'.objs.size (.ext (nY h'.objs.size obj)) b=H b:=λb n1 n2 n3=>by
   rw[bo n3,bo n2,bo n1]
  have BS:upd (upd (upd H P (.dU (ps++#[rawInt pos.line,rawInt pos.col,.ref k]))) k (.ext λh=>∃q,h.CodeRec (.ref k) q)) h'.objs.size (.ext (nY h'.objs.size obj)) h'.objs.size=some (.ext (nY h'.objs.size obj)):=bQ
  have atK:upd (upd (upd H P (.dU (ps++#[rawInt pos.line,rawInt pos.col,.ref k]))) k (.ext λh=>∃q,h.CodeRec (.ref k) q)) h'.objs.size (.ext (nY h'.objs.size obj)) k=some (.ext λh=>∃q,h.CodeRec (.ref k) q):=by rw[bo PU,bQ]
  have BU:upd (upd (upd H P (.dU (ps++#[rawInt pos.line,rawInt pos.col,.ref k]))) k (.ext λh=>∃q,h.CodeRec (.ref k) q)) h'.objs.size (.ext (nY h'.objs.size obj)) P=some (.dU (ps++#[rawInt pos.line,rawInt pos.col,.ref k])):=by rw[bo hPf.symm,bo hPk.symm,bQ]
  generalize hHn:upd (upd (upd H P (.dU (ps++#[rawInt pos.line,rawInt pos.col,.ref k]))) k (.ext λh=>∃q,h.CodeRec (.ref k) q)) h'.objs.size (.ext (nY h'.objs.size obj))=Hn at yF BS atK BU
  have old:∀{b o},H b=some o->b≠P->Hn b=some o:=λ{b o} e n=>by
   have hb:b<s.heap.objs.size:=I.aU.lt e
   rw[yF b n (λz=>absurd hb (wM.mpr (z ▸ yE))) (λz=>absurd hb (wM.mpr (z ▸ rX)))];exact e
  have kept:∀b o,b≠P->s.heap.get? b=some o->(h'.push obj).get? b=some o:=λb o n e=>gQ _ (hx b o n e)
  have un:Un X.fs [] H Hn s.heap (h'.push obj):=by
   refine⟨λb o e n _ _=>kept b o (λz=>by rw[z,hP]at n;cases n) e,λb o e n _ _=>⟨o.slots,kept b o (λz=>by rw[z,hP]at n;cases n) e⟩,λb o e n _=>?_,λb o e _=>?_,λb xs e=>old e (λz=>by rw[z,hP]at e;cases e),λb ob xs e=>old e (λz=>by rw[z,hP]at e;cases e),λb PX e=>?_⟩
   ·have hb:=cy e
    rw[yF b (λz=>by rw[z,hP]at n;cases n) (λz=>absurd hb (wM.mpr (z ▸ yE))) (λz=>absurd hb (wM.mpr (z ▸ rX)))];exact n
   ·by_cases z:b=P
    ·rw[z];exact⟨_,gQ _ PR⟩
    ·exact⟨o,kept b o z e⟩
   ·by_cases z:b=P
    ·subst z
     rw[hP]at e;cases e
     exact⟨_,BU⟩
    ·exact⟨#[],by rw[old e z];simp⟩
  have aU:dH X.prog X.w Hn (h'.push obj):=λb o e=>by
   by_cases z1:b=h'.objs.size
   ·subst z1
    rw[BS]at e;cases e
    exact⟨iy _ gx,⟨_,iy _ gx⟩,λh1 h2 p kk=>kk _ _ (.inl rfl) p⟩
   ·by_cases z2:b=k
    ·subst z2
     rw[atK]at e;cases e
     have hr:=de2.push obj
     refine⟨⟨_,hr⟩,?_,λh1 h2 ⟨q,c1,o1,vs,t,e1,e2,r⟩ kk=>?_⟩
     ·obtain⟨c1,o1,vs,t,e1,e2,_⟩:=hr
      cases e1
      exact⟨o1,e2⟩
     ·cases e1
      exact⟨q,_,o1,vs,t,rfl,kk _ _ (.inl rfl) e2,r⟩
    ·by_cases z3:b=P
     ·subst z3
      rw[BU]at e;cases e
      refine⟨gQ _ PR,by rw[Yg];exact bE1 _ BR,λp' cv e'=>?_⟩
      rw[Yg]at e'
      rcases bS8 _ BR e' with e' | e'
      ·obtain⟨d,φ,e1,e2,e3⟩:=codes p' cv e'
       exact⟨d,φ,e1,old e2 (λz=>by rw[z,hP]at e2;cases e2),e3⟩
      ·exact⟨k,_,e',atK,λh' p=>p⟩
     ·rw[yF b z3 z2 z1]at e
      have nP:∀{b' o'},H b'=some o'->(∀ps,o'≠.dU ps)->b'≠P:=λ{b' o'} e n z=>by rw[z,hP]at e;cases e;exact n _ rfl
      refine(I.aU b o e).l7 (λb' u vH e'=>kept b' u ?_ e') (λb' e'=>old e' (nP e' (λps z=>by cases z))) (λb' xs e'=>old e' (nP e' (λps z=>by cases z))) λb' φ e'=>old e' (nP e' (λps z=>by cases z))
      rcases vH with rfl | vH
      ·exact z3
      ·exact nP vH (λps z=>by cases z)
  refine⟨.ref h'.objs.size,Hn,I.un un aU,rfl,q _ k _ _ _ _ (fresh rX) (by rw[PV];exact BS) ⟨_,atK,λh p=>p⟩ PU ⟨λb o e n=>old e (λz=>by rw[z,hP]at e;cases e;cases n),λb PX e=>?_⟩ λa ws e=>?_⟩
  ·exact un.jl b PX e
  ·by_cases z1:a=h'.objs.size
   ·subst z1;rw[BS]at e;cases e
   ·by_cases z2:a=k
    ·subst z2;rw[atK]at e;cases e
    ·by_cases z3:a=P
     ·subst z3;rw[BU]at e;cases e
     ·rw[yF a z3 z2 z1]at e;exact e
 | some cv =>
  obtain⟨k,φ,rfl,hk,GL⟩:=codes pos cv GO
  refine PySem.W.kla_makeFunctionHit (mg:=X.mg) gB I.ok.glob hg BQ C oP BR GO PQ λjE h' tk hx rX=>?_
  have hf:=fresh rX
  refine⟨.ref h'.objs.size,upd H h'.objs.size (.ext (nY h'.objs.size (PySem.W.kla_obj "<lambda>" (X.env.qual++"<lambda>") params body scope [(x,c)] ((X.mg "__name__").getD .none) k jE))),I.laid (λb u e=>gQ _ (hx b u e)) rX ?_,rfl,q _ k (X.env.qual++"<lambda>") ((X.mg "__name__").getD .none) jE _ hf bQ ⟨φ,?_,GL⟩ (fj hk hf) (L3.af.of λb o e=>?_) λa ws e=>?_⟩
  ·exact⟨iy _ rfl,⟨_,iy _ rfl⟩,λh1 h2 p kk=>kk _ _ (.inl rfl) p⟩
  ·rw[bo (fj hk hf)];exact hk
  ·rw[bo (fj e hf)];exact e
  ·by_cases z:a=h'.objs.size
   ·subst z;rw[bQ]at e;cases e
   ·rw[bo z]at e;exact e
end L2
namespace L2
open PySem PySem.Spec PyProof.Rows
structure vI(K:PySem.W.Frag)(C:Addr)(m:Str)(f:Addr):Prop where
 ga:PySem.W.specialIn K (.ref C) "__getattribute__"=some (some (.builtin "type.__getattribute__"))
 rd:PySem.W.readsIn K C (.type "type")=true
 at_:PySem.W.findCls K (.ref C) (.type "type") m=some (.val (.ref f))
 kp:PySem.W.keepIn K (.ref f)=true
section
variable{X:Cx}{CX:fA}{k:Nat}{f C:Addr}{fd:FuncData}{ps:List Str}{sp:Sp}{E:XK}{x m:Str}{p pos apos:Pos}{e o:Expr}{es:List Expr}{ta:TE}{t:TA}
theorem ca9{pins:List (Addr × Obj)}{σ:St}{H:Hp}{s:Shared}{pl:Sem Bool}{A:Around}{E':Value->Shared->Prop}{Q:Value × List Value->Shared->Prop}(I:Inv X pins σ H s)(M:vI X.K C m f)(h:∀s',Inv X pins σ H s'->Q (.ref f,[]) s') :
  wpAny (model X.prog X.w) A (getMethod (.ref C) m pl) Q E' s :=
 PySem.W.method_cls I.dA M.ga (PySem.W.cls_value (mc:=.type "type") I.dA M.rd M.at_ rfl (h _ (I.tok _)))
theorem PY{pins:List (Addr × Obj)}{σ:St}{H:Hp}{s:Shared}{pl:Sem Bool}{Q:Value->Shared->Prop}{QA:List V->Hp->Prop}(I:Inv X pins σ H s)(M:vI X.K C m f)(hg:Gl X x)(hm:X.mg x=some (.ref C))(ha:PA X (e::es) t)(h:t σ H QA)
  (hq:∀us s1 vs H1,Inv X pins σ H1 s1->Vals vs us->QA vs H1->wpAny (model X.prog X.w) X.A (call (.ref f) us) Q X.xe s1)
  (eH:(x==("__debug__":Str))=false:=by decide) (h9:starEach (e::es) X.env=(false,eval e X.env)::starEach es X.env:=by rfl) (bZ:(backTo pos (starEach es X.env)).any (·.1)=false:=by rfl)
  (ht:eval (.Call (.Attribute (.Name x p) m apos) (e::es) [] pos) X.env=(do
   let ov<-eval (.Name x p) X.env
   standAt apos.atName
   let (f,first)<-holding [ov] (getMethod ov m pl)
   callWith pos f first (backTo pos (starEach (e::es) X.env)) (backToKw pos (keywordEach [] X.env))):=by rfl) :
  wpAny (model X.prog X.w) X.A (eval (.Call (.Attribute (.Name x p) m apos) (e::es) [] pos) X.env) Q X.xe s:=by
 refine PySem.W.methodCall_KW (pl:=pl) (AS I hg hm ?_ eH) ht
 refine ca9 I M λs1 I1=>?_
 refine PySem.W.callWith_K (first:=[]) (h₀:=X.base) I.ok.mod.qF M.kp (aV (ha pos pins s1 σ H _ I1 h) λus s2 ⟨vs,H2,I2,r,q2⟩=>⟨I2.dA,?_⟩) h9 bZ
 exact hq us s2 vs H2 I2 r q2
noncomputable def cM2(sp:Sp)(E:XK)(c:Addr)(i:Nat)(t:TA):TE:=λσ H Q=>t σ H λvs H1=>∃f of fd v,H1 f=some (.ext (nY f of))/\of.data=.func fd/\σ[i]?=some (some v) /\
 ∀oc u,oc.data=.cell (some u)->RelV v u->H1 c=none->c≠f->sp vs (upd (upd H1 f (.ext (L3.jP of oc c f))) c (.own f)) (λr H2=>H2 f=some (.ext (L3.jP of oc c f))/\H2 c=some (.own f)/\Q r (rem H2 f c)) E
theorem PZ{pl:Sem Bool}{y:Str}{c:Addr}{i:Nat}(M:vI X.K C m f)(F:aN X.prog X.w X.K X.mg X.base aP k f fd ps sp)(hr:cF k X.A)(hb:Binds X.K fd ps [])(hg:Gl X x)(hm:X.mg x=some (.ref C))
  (hN:X.N[i]?=some y) (hy:X.env.scope.names.lookup y=some .cell) (gB:X.env.cells.lookup y=some c) (w5:X.fn y=true) (ha:PA X (e::es) t)
  (eH:(x==("__debug__":Str))=false:=by decide) (h9:starEach (e::es) X.env=(false,eval e X.env)::starEach es X.env:=by rfl) (bZ:(backTo pos (starEach es X.env)).any (·.1)=false:=by rfl)
  (ht:eval (.Call (.Attribute (.Name x p) m apos) (e::es) [] pos) X.env=(do
   let ov<-eval (.Name x p) X.env
   standAt apos.atName
   let (f,first)<-holding [ov] (getMethod ov m pl)
   callWith pos f first (backTo pos (starEach (e::es) X.env)) (backToKw pos (keywordEach [] X.env))):=by rfl) :
  PE X (.Call (.Attribute (.Name x p) m apos) (e::es) [] pos) (cM2 sp E c i t):=by
 intro pins s σ H Q I h
 refine PY (pl:=pl) I M hg hm ha h (λus s1 vs H1 I1 r zq=>?_) eH h9 bZ ht
 obtain⟨fa,of,fdd,v,hf,hd,hv,hq⟩:=zq
 obtain⟨ml,_,hl⟩:=I1.loc
 obtain⟨u,rv,lk⟩:=hl i y v hN hv (.inr (.inl hy))
 obtain⟨oc,gc,jn⟩:∃oc,s1.heap.get? c=some oc/\oc.data=.cell (some u):=by
  rcases lk with⟨hk,_⟩ | ⟨_,c',w9,ic⟩
  ·rw[show X.env.kindOf y=some .cell from hy]at hk;cases hk
  ·rw[gB]at w9;cases w9;exact ic
 have nc:H1 c=none:=I1.jM y c gB
 have pV:c≠fa:=λz=>by rw[z,hf]at nc;cases nc
 have gf:s1.heap.get? fa=some of:=(I1.aU fa _ hf).1
 have nk:=hq oc u jn rv nc pV
 have P0:=I1.ok.qG y c w5 gB
 generalize hH:upd (upd H1 fa (.ext (L3.jP of oc c fa))) c (.own fa)=Hp at nk
 have P1:Hp c=some (.own fa):=by rw[<-hH,bQ]
 have atf:Hp fa=some (.ext (L3.jP of oc c fa)):=by rw[<-hH,bo pV.symm,bQ]
 have mI:∀b,b≠fa->b≠c->Hp b=H1 b:=λb n1 n2=>by rw[<-hH,bo n2,bo n1]
 have nfs:c ∉ X.fs:=λhb=>by
  obtain⟨_,o,ho,_⟩:=I1.ok.hZ.mem hb
  exact absurd (dv (cy ho) P0) (g9 _)
 have nst:∀b∈jm X.stack,b≠c:=λb hb z=>by
  rcases cA.mp (I1.AQ b hb)with e | hb
  ·exact I1.oX y c gB (z ▸ e)
  ·exact nfs (z ▸ hb)
 have df0:dH X.prog X.w Hp s1.heap:=λb ob q=>by
  by_cases z1:b=c
  ·subst z1;rw[P1]at q;cases q;exact⟨_,gc⟩
  ·by_cases z2:b=fa
   ·subst z2;rw[atf]at q;cases q
    exact⟨⟨gf,gc⟩,⟨_,gf⟩,λh1 h2 p kk=>⟨kk _ _ (.inl rfl) p.1,kk _ _ (.inr P1) p.2⟩⟩
   ·rw[mI b z2 z1]at q
    have x1:=(I1.aU b ob q).rem (f:=fa) (c:=c) z2 hf (.inr nc) (PB gf (λ_ p=>p) hd)
    have up:∀{b' o'},rem H1 fa c b'=some o'->Hp b'=some o':=λ{b' o'} q=>by
     obtain⟨n1,n2,q'⟩:=Py q
     rw[mI b' n1 n2];exact q'
    exact x1.l7 (λ_ _ _ q=>q) (λ_ q=>up q) (λ_ _ q=>up q) λ_ _ q=>up q
 have e0:js X.prog X.w X.K X.mg X.base X.A X.stack s1 Hp:=by
  have e1:=I1.xn
  refine⟨e1.frames,e1.mod,λb ob q=>⟨(e1.bs b ob q).1,?_⟩,e1.kb,e1.hZ,λb hb=>?_,df0,e1.bare⟩
  ·have hb0:=(I1.ok.bs b ob q).1
   rw[mI b (λz=>by have:=(e1.bs b ob q).2;rw[z,hf]at this;cases this) (λz=>absurd (dv (cy hb0) (z ▸ P0)) (g9 _))]
   exact(e1.bs b ob q).2
  ·have nb:=e1.ke b hb
   rw[mI b (λz=>by rw[z,hf]at nb;cases nb) (nst b hb)];exact nb
 have hlen:us.length=ps.length:=by rw[<-r.length];exact F.len _ _ _ _ nk
 refine wpAny_call (codeAny_mono (F.run X.A X.stack s1 Hp ⟨us,[]⟩ us vs _ E hr e0 (by have:=hb s1 us I1.dA (by rw[gn];exact hlen);rwa [gn]at this) r nk) λrr s' hz=>?_)
 cases rr with
 | error e=>exact hz.elim
 | ok fl =>
  cases fl with
  | next=>exact gF hz
  | brk=>exact gF hz
  | cont=>exact gF hz
  | ret u' =>
   obtain⟨v',H2,os,bare,un,P2,rv',q1,q2,q3⟩:=hz
   obtain⟨_,P4⟩:=P2.lam q1
   refine I1.after ⟨v',rem H2 fa c,os,bare,⟨λb ob g n hb hx=>?_,λb ob g n hb hx=>?_,λb ob g n hx=>?_,un.there,λb xs g=>?_,λb ob xs g=>?_,λb ps g=>?_⟩,P2.rem q1 q2 hd,rv',q3⟩
   ·by_cases z:b=c
    ·rw[z,gc]at g;cases g;rw[z];exact P4
    ·exact un.keep b ob g (by rw[mI b (λz=>by rw[z,hf]at n;cases n) z];exact n) hb hx
   ·by_cases z:b=c
    ·rw[z,gc]at g;cases g;rw[z];exact⟨_,P4⟩
    ·exact un.slot b ob g (by rw[mI b (λz=>by rw[z,hf]at n;cases n) z];exact n) hb hx
   ·by_cases z:b=c
    ·rw[z];exact BO
    ·exact vE (un.free b ob g (by rw[mI b (λz=>by rw[z,hf]at n;cases n) z];exact n) hx)
   ·have n1:b≠fa:=λz=>by rw[z,hf]at g;cases g
    have n2:b≠c:=λz=>by rw[z,nc]at g;cases g
    rw[iH n1 n2]
    exact un.kI b xs (by rw[mI b n1 n2];exact g)
   ·have n1:b≠fa:=λz=>by rw[z,hf]at g;cases g
    have n2:b≠c:=λz=>by rw[z,nc]at g;cases g
    rw[iH n1 n2]
    exact un.ka b ob xs (by rw[mI b n1 n2];exact g)
   ·have n1:b≠fa:=λz=>by rw[z,hf]at g;cases g
    have n2:b≠c:=λz=>by rw[z,nc]at g;cases g
    rw[iH n1 n2]
    exact un.jl b ps (by rw[mI b n1 n2];exact g)
end
end L2
namespace L3
open PySem L2 PySem.Spec PyProof.Rows
theorem yG{ts:List Addr}{H H':Hp}(h:Tb ts H)(s:af H H'):Tb ts H':=λP hP=>by
 obtain⟨ps,e⟩:=h P hP
 obtain⟨m,e2⟩:=s.tb P ps e
 exact⟨_,e2⟩
theorem P5{P:Program}{w:World}{K:PySem.W.Frag}{mg:Str->Option Value}{base:Heap}{n:Nat}{p1 p2 x qn:Str}{params:Arguments}{body:Expr}{scope:Scope}{pm jE:Value}{oc:Obj}{c k:Addr}{m:Int}{tm:Tok}{sp:vF}(S:PH p1 p2 x scope)
  (jn:oc.data=.cell (some (.int m tm))) (hb:∀u1 u2:Value,bindArgs (PySem.W.kla_fn "<lambda>" qn params body scope [(x,c)] pm (.ref k) jE) ⟨[u1,u2],[]⟩=pure [(p1,u1),(p2,u2)])
  (iT:∀(q:Str) (f:Addr) (A:Around) (outer:List Env) (s:Shared) (H:Hp) (E:XK),cF n (A.deeper (PySem.W.envX q scope s.heap.objs.size f (.ref k) [(x,c)])) ->
   ∃t:aS,PE (rW aP P w K mg base [p1,p2,x] q scope f (.ref k) [(x,c)] A outer s H E).h7 body (lE t)/\∀i j Qd,sp i j Qd->t [some (.int i),some (.int j),some (.int m)] λd _=>∃r,d=.int r/\Qd r) :
  yC P w K mg base (n+1) (PySem.W.kla_obj "<lambda>" qn params body scope [(x,c)] pm k jE) oc c k sp where
 fn:=⟨_,_,_,_,rfl⟩
 run A outer s H f t u i j Qd hr e0 gf gc hH dh h:=by
  obtain⟨q,dh⟩:=dh
  obtain⟨tt,ht,hq⟩:=iT q f A outer s H (λ_ _ _=>False) (hr.deeper _)
  refine cw7 (v1:=.int i) (v2:=.int j) (vc:=.int m) (E:=λ_ _ _=>False) S e0 hr gf ⟨oc,gc,jn⟩ ⟨tm,rfl⟩ hH dh (hb _ _) ⟨t,rfl⟩ ⟨u,rfl⟩ ht.h7 ?_
  refine⟨⟨H,H⟩,H,_,[],_,?_,hq i j Qd h,λd ah v F' H' hd f1 h1 c1=>?_⟩
  ·exact av.start (ds:=[.int i,.int j,.int m]) (vs:=[.int i,.int j,.int m]) (af.refl H) (.int (.int (.int .nil))) 0
  ·obtain⟨r,rfl,hd⟩:=hd
   have s1:=c1.top
   cases s1
   exact⟨r,rfl,hd,h1⟩
section
variable{X:Cx}{CX:fA}{n:Nat}{f:Addr}{fd:FuncData}{ps:List Str}{sp:aX}{E:XK}{x:Str}{p pos:Pos}{e:Expr}{es:List Expr}{t:cU}{tl:List Addr}
theorem P6(hT:Tb tl X.mf)(F:aN X.prog X.w X.K X.mg X.base CX n f fd ps (vD tl (bf sp)))(hr:cF n X.A)(hg:Gl X x)(hm:X.mg x=some (.ref f))(hk:PySem.W.keepIn X.K (.ref f)=true)(hb:Binds X.K fd ps [])(hx:kN CX X E)
  (ha:PA X (e::es) (lA t)) (eH:(x==("__debug__":Str))=false:=by decide) (he:starEach (e::es) X.env=(false,eval e X.env)::starEach es X.env:=by rfl) (bZ:(backTo pos (starEach es X.env)).any (·.1)=false:=by rfl) :
  PE X (.Call (.Name x p) (e::es) [] pos) (lE (pI sp t)):=by
 intro pins s σ H Q I zz
 obtain⟨B,F',δ,ts,Qd,c,q,k⟩:=zz
 have tb:=GJ I hT
 refine jt F hr hg hm hk hb .nil hx ha eH he bZ pins s σ H Q I ⟨B,F',δ,ts,_,c,q,λds ao vs F1 H1 q1 f1 h1 c1 s1=>?_⟩
 refine⟨yG tb h1,?_⟩
 rw[gn]
 exact Bu c1 s1 q1 λd v F' H' hd hf hs c'=>k d ao v F' H' hd (f1.trans hf) (h1.trans hs) c'
end
section
variable{P:Program}{w:World}{K:PySem.W.Frag}{mg:Str->Option Value}{base:Heap}
theorem GQ{x qual:Str}{st:Stmt}{f:Addr}{fd:FuncData}{N ps:List Str}{k:Nat}{sp:aX}{tl:List Addr}(F:aY K x qual st f fd)(S:aW N ps (aM st))(len:∀ds Q,sp ds Q->ds.length=ps.length)
  (iT:∀(aE:Value) (A:Around) (outer:List Env) (s:Shared) (H:Hp) (E:XK),Tb tl H->cF k (A.deeper (envOfC qual (aM st) s.heap.objs.size f aE)) ->
   ∃t:dO,PSs (jN aP P w K mg base N qual (aM st) f aE A outer s H E).h7 (gr st) (lS (jN aP P w K mg base N qual (aM st) f aE A outer s H E).h7 t)/\∀ds Q,sp ds Q->t { nx:=λ_=>Q .ax,rt:=Q } (nI N ds)):aN P w K mg base aP (k+1) f fd ps (vD tl (bf sp)):=by
 refine F.ok S (λvs H Q E ⟨_,F,ds,Qd,e,r,h,_⟩=>by rw[<-r.length];exact len ds Qd h) λaE A outer s H vs Q E hr zz=>?_
 obtain⟨tb,F,ds,Qd,e,r,h,k⟩:=zz
 obtain⟨t,ht,hq⟩:=iT aE A outer s H E tb hr
 have fin:∀d v ah aR F' H',Qd d->av ⟨H,F⟩ F' H' aR ah [(d,v)]->Q v H':=λd v ah aR F' H' hd c=>by
  obtain⟨A,C,r',s',nd,fr⟩:=c.own
  exact k d v F' H' A hd c.b1 c.b2 c.ext c.b3 r' (iZ.mp nd).1 λa ha=>fr a (fE _ ha)
 have e1:L2.start N vs=vs.map some++aQ (N.length-ds.length) none:=by unfold L2.start;rw[r.length]
 refine⟨_,ht,⟨H,F⟩,F,nI N ds,_,?_,hq ds Qd h,λah aR F' H' hd c=>fin .ax .ax ah aR F' H' hd (c.pushS (.ax .nil) rfl),fin,λ_ _ _ _ z=>z.elim,λ_ _ _ _ z=>z.elim,XL.none (λ_ _ z=>z) λ_ _ z=>z⟩
 rw[e1]
 exact av.start e r _
theorem P7{x qual:Str}{st:Stmt}{f cc:Addr}{fd:FuncData}{N ps:List Str}{k:Nat}{sp:Sp}(F:aY K x qual st f fd)(BQ:fd.code=.ref cc)(S:aW N ps (aM st))(len:∀vs H Q E,sp vs H Q E->vs.length=ps.length)
  (iT:∀(A:Around) (outer:List Env) (s:Shared) (H:Hp) (vs:List V) (Q:VK) (E:XK),cF k (A.deeper (envOfC qual (aM st) s.heap.objs.size f (.ref cc)))->sp vs H Q E ->
   ∃t,PSs (jN aP P w K mg base N qual (aM st) f (.ref cc) A outer s H E).h7 (gr st) t/\t { nx:=λ_ H'=>Q .ax H',rt:=Q } (L2.start N vs) H):aN P w K mg base aP (k+1) f fd ps sp:=by
 obtain⟨oc,od,kV,doc,pm,an,aE,ct,iS,rfl,lk,dh⟩:=F.ex
 obtain rfl:aE=.ref cc:=BQ
 refine E9 lk dh S len λA outer s H vs Q E hr ju=>?_
 obtain⟨t,h,q⟩:=iT A outer s H vs Q E hr ju
 exact⟨t,h.h7,q⟩
end
end L3
namespace L3
open PySem L2 PySem.Spec PyProof.Rows
theorem bT6{ns:List Str}{xs:List D}{ws:List V}{F H:Hp}{f:Str}{d:D}(r:R F H xs ws [])(h:(ns.zip xs).lookup f=some d):∃w,(ns.zip ws).lookup f=some w/\R F H [d] [w] []:=by
 generalize e:([]:List Addr)=A at r
 induction ns generalizing xs ws A with
 | nil=>simp at h
 | cons n ns ih =>
  cases xs with
  | nil=>simp at h
  | cons x xs =>
   obtain⟨v,bX,A1,A2,rfl,rfl,h1,h2⟩:=R.cY r
   obtain⟨rfl,rfl⟩:=qw.mp e.symm
   rw[Yh]at h ⊢
   by_cases z:f=n
   ·subst z
    rw[gq,beq_self_eq_true]at h
    cases h
    refine⟨v,?_,h1⟩
    rw[gq,beq_self_eq_true]
   ·have z':(f==n)=false:=beq_eq_false_iff_ne.mpr z
    rw[gq,z']at h
    obtain⟨w,e1,e2⟩:=ih h [] rfl h2
    refine⟨w,?_,e2⟩
    rw[gq,z']
    exact e1
theorem P8{ns:List Str}{ws:List V}{f:Str}(h:f ∉ ns):(ns.zip ws).lookup f=none:=by
 induction ns generalizing ws with
 | nil=>simp
 | cons n ns ih =>
  cases ws with
  | nil=>simp
  | cons w ws =>
   rw[Yh,gq]
   have hn:(f==n)=false:=beq_eq_false_iff_ne.mpr λz=>h (by rw[z];simp)
   simp only[hn]
   exact ih λz=>h (by simp[z])
theorem BV{F H:Hp}{C:Addr}{ns:List Str}{xs:List D}{v:V}(s:S F H [.obj C ns xs] [v]):∃p dx ws,v=.ref p/\H p=some (.ins C dx (ns.zip ws))/\ns.length=ws.length/\R F H xs ws []:=by
 cases s with
 | obj h l r _=>exact⟨_,_,_,rfl,h,l,r⟩
section
variable{X:Cx}{e o:Expr}{es:List Expr}{f m x:Str}{pos p apos:Pos}{t to:aS}{ta:cU}{n:Nat}
noncomputable def rY(K:PySem.W.Frag)(t:aS)(f:Str):aS:=λδ Q=>t δ λd ah=>∃C ns xs v,d=.obj C ns xs/\cQ K C/\bq K C f/\(ns.zip xs).lookup f=some v/\Q v ah
theorem cO1(he:PE X e (lB t))(hb:attributeBase e f X.env (eval e X.env)=eval e X.env:=by rfl):PE X (.Attribute e f pos) (lB (rY X.K t f)) :=
 dP (qV he hb) λσ H Q zq=>by
 obtain⟨B,F,δ,ts,Qd,c,q,k⟩:=zq
 exact⟨B,F,δ,ts,_,c,q,λd ah v F' H' ⟨C,ns,xs,w,ed,hc,hn,hl,hq⟩ f1 h1 c1 s1=>by
  subst ed
  obtain⟨p,dx,ws,rfl,hp,_,r⟩:=BV s1
  obtain⟨u,hu,ru⟩:=bT6 r hl
  exact⟨p,C,dx,_,u,rfl,hp,hc,hn,hu,k w ah u F' H' hq f1 h1 c1 ru.s⟩⟩
structure ip(P:Program)(w:World)(K:PySem.W.Frag)(mg:Str->Option Value)(base:Heap)(n:Nat)(m:Str)(C:Addr)(sp:aX):Prop where
 cls:cQ K C
 ex:∃f fd ps,Meth K C m f/\aN P w K mg base aP n f fd ps (bf sp)/\Binds K fd ps []
noncomputable def rZ(MO:Addr->aX->Prop)(m:Str)(to:aS)(ta:cU):aS:=λδ Q=>to δ λd ao=>∃C ns xs sp,d=.obj C ns xs/\MO C sp/\m ∉ ns/\ta ao λds br=>sp ((D.obj C ns xs::ds).map D.sh) λr=>((D.obj C ns xs::ds).all D.pl||r.fr)=true/\Q r br
theorem cH0{pl:Sem Bool}(ho:PE X o (lB to))(hr:cF n X.A)(ha:PA X (e::es) (lA ta))
  (h9:starEach (e::es) X.env=(false,eval e X.env)::starEach es X.env:=by rfl) (bZ:(backTo pos (starEach es X.env)).any (·.1)=false:=by rfl)
  (ht:eval (.Call (.Attribute o m apos) (e::es) [] pos) X.env=(do
   let ov<-eval o X.env
   standAt apos.atName
   let (f,first)<-holding [ov] (getMethod ov m pl)
   callWith pos f first (backTo pos (starEach (e::es) X.env)) (backToKw pos (keywordEach [] X.env))):=by rfl) :
  PE X (.Call (.Attribute o m apos) (e::es) [] pos) (lE (rZ (ip X.prog X.w X.K X.mg X.base n m) m to ta)):=by
 intro pins s σ H Q I zz
 obtain⟨B,F,δ,ts,Qd,c,q,k⟩:=zz
 refine PySem.W.methodCall_KW (pl:=pl) (aV (ho pins s σ H (λx H1=>∃d ao F1,S F1 H1 [d] [x]/\av B F1 H1 σ ao ts/\af F F1/\af H H1/\∃C ns xs sp,d=.obj C ns xs/\ip X.prog X.w X.K X.mg X.base n m C sp/\m ∉ ns/\ta ao λds br=>sp ((D.obj C ns xs::ds).map D.sh) λr=>((D.obj C ns xs::ds).all D.pl||r.fr)=true/\Qd r br) I
  ⟨B,F,δ,ts,_,c,q,λd ao v F1 H1 hq f1 h1 c1 s1=>⟨d,ao,F1,s1,c1,f1,h1,hq⟩⟩) λu s1 zq=>?_) ht
 obtain⟨x,H1,I1,rx,d,ao,F1,sd,c1,f1,h1,C,ns,xs,sp,ed,M,hm,hq⟩:=zq
 subst ed
 obtain⟨a,dx,ws,rfl,ea,hl,r0⟩:=BV sd
 obtain rfl:u=eA a:=rx
 obtain⟨f,fd,ps,yH,FO,hb⟩:=M.ex
 refine E8 I1 ea M.cls yH (P8 hm) ?_
 refine PySem.W.callWith_K (first:=[.ref a]) (h₀:=X.base) I.ok.mod.qF yH.kp (aV (ha pos pins s1 σ H1 (λvs H2=>∃ds br F2,S F2 H2 ds vs/\av B F2 H2 σ br ts/\af F1 F2/\af H1 H2/\sp ((D.obj C ns xs::ds).map D.sh) λr=>((D.obj C ns xs::ds).all D.pl||r.fr)=true/\Qd r br) I1
  ⟨B,F1,ao,ts,_,c1,hq,λds br vs F2 H2 hq f2 h2 c2 s2=>⟨ds,br,F2,s2,c2,f2,h2,hq⟩⟩) λus s2 ⟨vs,H2,I2,r,ds,br,F2,sds,c2,f2,h2,ju⟩=>⟨I2.dA,?_⟩) h9 bZ
 refine xo (us:=.ref a::us) (vs:=.ref a::vs) (fK:=[]) FO hr hb .nil dB I2 (.cons rfl r) ?_
 rw[gn]
 exact Bu c2 (.obj (h2 _ _ ea) hl (r0.shared f2 h2) sds) ju λd v F' H' hd hf hs c'=>k d br v F' H' hd (f1.trans (f2.trans hf)) (h1.trans (h2.trans hs)) c'
noncomputable def se(MO:Addr->aX->Prop)(m:Str)(to:aS):aS:=λδ Q=>to δ λd ao=>∃C ns xs sp,d=.obj C ns xs/\MO C sp/\m ∉ ns/\sp [D.obj C ns xs] λr=>Q r ao
theorem cv9{pl:Sem Bool}(ho:PE X o (lB to))(hr:cF n X.A)
  (ht:eval (.Call (.Attribute o m apos) [] [] pos) X.env=(do
   let ov<-eval o X.env
   standAt apos.atName
   let (f,first)<-holding [ov] (getMethod ov m pl)
   callWith pos f first (backTo pos (starEach [] X.env)) (backToKw pos (keywordEach [] X.env))):=by rfl) :
  PE X (.Call (.Attribute o m apos) [] [] pos) (lE (se (ip X.prog X.w X.K X.mg X.base n m) m to)):=by
 intro pins s σ H Q I zz
 obtain⟨B,F,δ,ts,Qd,c,q,k⟩:=zz
 refine PySem.W.methodCall_KW (pl:=pl) (aV (ho pins s σ H (λx H1=>∃d ao F1,S F1 H1 [d] [x]/\av B F1 H1 σ ao ts/\af F F1/\af H H1/\∃C ns xs sp,d=.obj C ns xs/\ip X.prog X.w X.K X.mg X.base n m C sp/\m ∉ ns/\sp [D.obj C ns xs] λr=>Qd r ao) I
  ⟨B,F,δ,ts,_,c,q,λd ao v F1 H1 hq f1 h1 c1 s1=>⟨d,ao,F1,s1,c1,f1,h1,hq⟩⟩) λu s1 zq=>?_) ht
 obtain⟨x,H1,I1,rx,d,ao,F1,sd,c1,f1,h1,C,ns,xs,sp,ed,M,hm,hq⟩:=zq
 subst ed
 obtain⟨a,dx,ws,rfl,ea,hl,r0⟩:=BV sd
 obtain rfl:u=eA a:=rx
 obtain⟨f,fd,ps,yH,FO,hb⟩:=M.ex
 refine E8 I1 ea M.cls yH (P8 hm) ?_
 refine PySem.W.callWith_K0 (first:=[.ref a]) I1.dA yH.kp (xo (us:=[.ref a]) (vs:=[.ref a]) (fK:=[]) FO hr hb .nil dB I1 (.cons rfl .nil) ?_)
 show bf sp [.ref a] H1 Q E0
 exact Bu (Qd:=λr=>Qd r ao) c1 (.obj ea hl r0 .nil) (by simpa[D.sh,D.pl]using hq) λd v F' H' hd hf hs c'=>k d ao v F' H' hd (f1.trans hf) (h1.trans hs) c'
end
structure bO(x:Addr)(H H':Hp):Prop where
 get:∀b o,b≠x->H b=some o->jx o=true->H' b=some o
 tb:∀b ps,H b=some (.dU ps)->∃more,H' b=some (.dU (ps++more))
theorem bO.trans{x:Addr}{H H1 H2:Hp}(a:bO x H H1)(b:bO x H1 H2):bO x H H2 :=
 ⟨λc o n h t=>b.get c o n (a.get c o n h t) t,λc ps h=>by
  obtain⟨m1,e1⟩:=a.tb c ps h
  obtain⟨m2,e2⟩:=b.tb c _ e1
  exact⟨m1++m2,by rw[e2,sZ]⟩⟩
theorem af.x{x:Addr}{H H':Hp}(h:af H H'):bO x H H':=⟨λb o _ e n=>h.get b o e n,h.tb⟩
theorem bO.upd{x C dx:Addr}{H:Hp}{o o':HO}(h:H x=some o)(n:jx o=true):bO x H (upd H x o') :=
 ⟨λb o z e _=>by rw[bo z];exact e,λb ps e=>⟨#[],by rw[bo (λz=>by rw[z,h]at e;cases e;cases n),e];simp⟩⟩
noncomputable def GR(tl:List Addr)(C:Addr)(jW:List D->List Str->List D->Prop):Sp:=λvs H Q _=>∃x dx bX ds ns xs,vs=.ref x::bX/\Tb tl H/\H x=some (.ins C dx [])/\R H H ds bX []/\jW ds ns xs /\
 ∀H' ws A,bO x H H'->H' x=some (.ins C dx (ns.zip ws))->ns.length=ws.length->R (λ_=>none) H' xs ws A->A.Nodup->(∀a∈A,H a=none)->Q .ax H'
noncomputable def vJ(C:Addr)(jW:List D->List Str->List D->Prop)(ta:cU):aS:=λδ Q=>ta δ λds ah=>∃ns xs,jW (ds.map D.sh) ns xs/\Q (.obj C ns (xs.map D.sh)) ah
theorem av.made{B:Bs}{F H H':Hp}{σ:L2.St}{δ:Dl}{ts:List (D × V)}{C dx x:Addr}{ns:List Str}{xs:List D}{ws:List V}{A:List Addr}(c:av B F H σ δ ts)(hs:af H H')(hx:H' x=some (.ins C dx (ns.zip ws)))(hl:ns.length=ws.length)
  (r:R (λ_=>none) H' xs ws A) (fr:∀a∈A,H a=none):af F (L3.bx F H' A)/\av B (L3.bx F H' A) H' σ δ ((.obj C ns (xs.map D.sh),.ref x)::ts):=by
 have c1:=c.grow hs
 have hF:∀a∈A,F a=none:=λa ha=>c.ext.free (fr a ha)
 have r1:R F H' xs ws A:=r.keep (af.of λb o e=>by cases e) (gw.same (af.refl _)) gX.nil hF (by simp)
 have r2:=r1.bx c1.ext A (λ_ h=>h)
 have fs:af F (L3.bx F H' A):=iE c1.ext
 obtain⟨A',C',r',s',nd,vK⟩:=c.own
 have out:∀a,(∃ws,H a=some (.lst ws))/\F a=none->L3.bx F H' A a=none:=λa zz=>by
  obtain⟨⟨ws,h⟩,hf⟩:=zz
  rw[pB (λz=>by rw[fr a z]at h;cases h)];exact hf
 have g1:=r'.grow fs hs λa ha=>out a (r'.lists a ha)
 have g2:=s'.keep fs (gw.same hs) gX.nil (λa ha=>out a (s'.lists a ha)) (by simp)
 refine⟨fs,nE c1.ext,c1.b1,c1.b2.trans fs,λa ws h=>?_,A',C',?_,g2,nd,vK⟩
 ·by_cases z:a∈A
  ·exact .inr (c.b1.free (fr a z))
  ·rw[pB z]at h;exact c.b3 a ws h
 ·exact R.obj hx hl r2 g1
section
variable{X:Cx}{CX:fA}{n:Nat}{f C:Addr}{fd:FuncData}{ps:List Str}{jW:List D->List Str->List D->Prop}{E:XK}{x:Str}{p pos:Pos}{e:Expr}{es:List Expr}{t:cU}{tl:List Addr}
theorem P9(hT:Tb tl X.mf)(M:Mk X.K C f)(F:aN X.prog X.w X.K X.mg X.base CX n f fd ps (GR tl C jW))(hr:cF (n+1) X.A)(hg:Gl X x)(hm:X.mg x=some (.ref C))(hb:Binds X.K fd ps [])(hx:kN CX X E)
  (ha:PA X (e::es) (lA t)) (eH:(x==("__debug__":Str))=false:=by decide) (he:starEach (e::es) X.env=(false,eval e X.env)::starEach es X.env:=by rfl) (bZ:(backTo pos (starEach es X.env)).any (·.1)=false:=by rfl) :
  PE X (.Call (.Name x p) (e::es) [] pos) (lE (vJ C jW t)):=by
 intro pins s σ H Q I zz
 obtain⟨B,F',δ,ts,Qd,c,q,k⟩:=zz
 have tb:=GJ I hT
 refine NJ M F hr hg hm hb .nil hx ha eH he bZ pins s σ H Q I ⟨B,F',δ,ts,_,c,q,λds ao vs F1 H1 q1 f1 h1 c1 s1=>?_⟩
 intro x dx cM eE mx
 obtain⟨ns,xs,hI,hq⟩:=q1
 have sm:af H1 (upd (upd H1 dx (.own x)) x (.ins C dx [])):=.of λb o e=>by rw[bo (fj e cM),bo (fj e eE)];exact e
 refine⟨x,dx,vs,ds.map D.sh,ns,xs,by rw[gn],yG (yG tb h1) sm,bQ,(s1.frozen c1.ext).shared sm sm,hI,λH' ws A yI dj hl r nd fr=>⟨rfl,?_⟩⟩
 have s2:af H1 H':=⟨λb o e n=>yI.get b o (fj e cM) (sm.get b o e n) n,λb ps e=>by
  obtain⟨m1,e1⟩:=sm.tb b ps e
  obtain⟨m2,e2⟩:=yI.tb b _ e1
  exact⟨m1++m2,by rw[e2,sZ]⟩⟩
 obtain⟨fs,c2⟩:=c1.made s2 dj hl r λa ha=>sm.free (fr a ha)
 exact k _ ao _ _ H' hq (f1.trans fs) (h1.trans s2) c2
end
end L3
namespace Mf
open PySem L2 L3
noncomputable def gm(m:Bool × Nat)(a b:Nat):Nat:=if m.1 then md (cl a b) m.2 else a*b%m.2
noncomputable def aa(m:Bool × Nat):Nat:=if m.1 then 2 ^ (bl m.2-1)else m.2
noncomputable def BW(g:Nat->Nat->Nat)(a:Nat):Nat->Nat->List Int->Option (List Int)
 | 0,_,_=>none
 | f+1,p,acc=>if p=1 then some acc else if p<64 then BW g a f (g p a) (acc++[(p:Int)])else none
noncomputable def GS(g:Nat->Nat->Nat)(a:Nat):Option (List Int):=BW g a 64 (g 1 a) [1]
noncomputable def BX(g:Nat->Nat->Nat)(many:Nat):Nat->Nat->List Int->Option (List Int)
 | 0,_,_=>none
 | f+1,st,l=>if l.length+1<many then(match GS g (st+1)with | some l'=>BX g many f (st+1) l' | none=>none)else some l
noncomputable def yJ(g:Nat->Nat->Nat)(many:Nat):Option (List Int):=match GS g 1 with | some l=>BX g many 62 1 l | none=>none
noncomputable def yK(g:Nat->Nat->Nat):vF:=λi j Q=>∃a b:Nat,i=a/\j=b/\a<64/\b<64/\Q (g a b:Nat)
noncomputable def gZ:List Nat:=[7,11,13,19,25,31,37,41,47,55,59,61,67,73,87,91,97,103,109,115,117]
noncomputable def nZ:List Nat:=[2,3,5,7,11,13,17,19,23,29,31,37,41,43,47,53,59,61]
noncomputable def au:List (Bool × Nat):=gZ.map (λn=>(true,n))++nZ.map λn=>(false,n)
noncomputable def n6(l:List Int):Nat->List Int
 | 0=>aQ (l.length+1) 0
 | i+1=>(n6 l i).set (l.getD i 0).toNat (i:Int)
noncomputable def eZ(l:List Int):List Int:=n6 l l.length
theorem yL(l:List Int):∀i,(n6 l i).length=l.length+1
 | 0=>by simp[n6]
 | i+1=>by simp[n6,yL l i]
noncomputable def pW(l g:List Int)(a:Nat):List Int:=if a=0 then aQ (l.length+1) 0 else 0::(aD l.length).map λ(b:Nat)=>l.getD ((g.getD a 0+g.getD (b+1) 0)%(l.length:Int)).toNat 0
noncomputable def vL(l g:List Int)(n:Nat):List D:=(aD n).map λa=>D.lst true (aJ (pW l g a))
noncomputable def pX(l g:List Int):List D:=vL l g (l.length+1)
end Mf
namespace L3
open PySem L2 Mf
noncomputable def LI(H:Hp)(p:Addr)(ns:List Int):Prop:=H p=some (.lst (ns.map V.int))
theorem LI.same{H H':Hp}{p:Addr}{ns:List Int}(h:LI H p ns)(s:af H H'):LI H' p ns:=s.get _ _ h
theorem LI.upd{H:Hp}{p x:Addr}{ns:List Int}{o o':HO}(h:LI H p ns)(hx:H x=some o)(n:∀ws,o≠.lst ws):LI (upd H x o') p ns:=by
 unfold LI
 rw[bo (λz=>by rw[z]at h;unfold LI at h;rw[hx]at h;cases h;exact n _ rfl)];exact h
theorem Qa{F' H' H:Hp}{v:V}{A:List Addr}{ns:List Int}(r:R F' H' [.lst true (aJ ns)] [v] A)(fr:∀a∈A,H a=none):∃p,v=.ref p/\LI H' p ns/\H p=none:=by
 cases r with
 | @own p ws xs A1 _ _ B1 hp hf r1 r2 =>
  have:=Gr r1.s
  subst this
  exact⟨p,rfl,hp,fr p (by simp)⟩
structure df8(K:PySem.W.Frag)(C f:Addr):Prop where
 cls:cQ K C
 many:bq K C "many"
 wide:bq K C "wide"
 GU:bq K C "powers"
 df9:bq K C "logs"
 step:bq K C "step"
 sp:Meth K C "step_power" f
structure Qb(g:Nat->Nat->Nat)(many:Nat)(l:List Int)(st:Int):Prop where
 lo:2<=many
 hi:many<=64
 step:yJ g many=some l
 len:l.length+1=many
 ins:∀x∈l,0<=x/\x.toNat<=l.length
 st:l[((1:Int)%((many:Int)-1)).toNat]?=some st
noncomputable def iJ(b:Str):List Str:=[b,"many","wide","powers","logs","step"]
noncomputable def BY(n0:Int)(many:Nat)(p1 p2:Addr)(st:Int):List V:=[.int n0,.int many,.int ((bl many:Nat)-1),.ref p1,.ref p2,.int st]
theorem vM{f:Str}{v:V}:∀{fs:List (Str × V)},(∀p∈fs,p.1≠f)->bE f v fs=fs++[(f,v)]
 | [],_=>rfl
 | (g,x)::r,h=>by
  unfold bE
  rw[if_neg (h (g,x) (by simp)),vM λp hp=>h p (by simp[hp])];rfl
theorem kh.si{H:Hp}{x C dx f c k:Addr}{fs:List (Str × V)}{o':HO}{of oc:Obj}(h:kh H f of oc c k)(hx:H x=some (.ins C dx fs)):kh (L2.upd H x o') f of oc c k:=by
 obtain⟨ψ,e,yD⟩:=h.FJ
 exact⟨by rw[bo (λz=>by rw[<-z,h.fn]at hx;cases hx)];exact h.fn,by rw[bo (λz=>by rw[<-z,h.cell]at hx;cases hx)];exact h.cell,ψ,by rw[bo (λz=>by rw[<-z,e]at hx;cases hx)];exact e,yD⟩
theorem yM{H:Hp}{x p:Addr}{o o':HO}(hx:H x=some o)(h:L2.upd H x o' p=none):H p=none:=by
 by_cases z:p=x
 ·subst z;rw[bQ]at h;cases h
 ·rw[bo z]at h;exact h
theorem BZ{α:Type}{b f:Str}{v:α}{r:List (Str × α)}(h:b≠f):((b,v)::r).lookup f=r.lookup f:=by
 rw[gq,beq_eq_false_iff_ne.mpr (iw h)]
section
variable{H2 H3 H':Hp}{x f c p:Addr}{o1 o2:HO}
theorem yN{b:Addr}{o:HO}(e:H3 b=some o)(nb:b≠f)(nc:H3 c=none):L2.upd (L2.upd H3 f o1) c o2 b=some o:=by
 rw[bo (fj e nc),bo nb];exact e
theorem Qc(hs:af H2 H3)(nf:H2 f=none)(nc:H3 c=none)(s:bO x (L2.upd (L2.upd H3 f o1) c o2) H'):bO x H2 (rem H' f c) where
 get b o n e t:=by
  have z1:=fj e nf
  have e3:=hs.get b o e t
  rw[iH z1 (fj e3 nc)]
  exact s.get b o n (yN e3 z1 nc) t
 tb b ps e:=by
  have z1:=fj e nf
  obtain⟨m,e3⟩:=hs.tb b ps e
  obtain⟨m2,e4⟩:=s.tb b _ (yN e3 z1 nc)
  exact⟨m++m2,by rw[iH z1 (fj e3 nc),e4,sZ]⟩
theorem B0(hs:af H2 H3)(h:L2.upd (L2.upd H3 f o1) c o2 p=none):H2 p=none:=by
 refine hs.free ?_
 by_cases z:p=c
 ·subst z;rw[bQ]at h;cases h
 ·rw[bo z]at h
  by_cases z2:p=f
  ·subst z2;rw[bQ]at h;cases h
  ·rw[bo z2]at h;exact h
theorem LI.rem{l:List Int}{φ:Heap->Prop}{y:Addr}(h:LI H' p l)(hf:H' f=some (.ext φ))(hc:H' c=some (.own y)):LI (rem H' f c) p l:=by
 unfold LI at h ⊢
 rw[iH (λz=>by rw[z,hf]at h;cases h) (λz=>by rw[z,hc]at h;cases h)];exact h
theorem Qe{of oc:Obj}{k:Addr}(mx:c≠f)(nc:H3 c=none)(hk:FI H3 k)(kf:k≠f):kh (L2.upd (L2.upd H3 f (.ext (jP of oc c f))) c (.own f)) f of oc c k:=by
 obtain⟨ψ,e,yD⟩:=hk
 exact⟨by rw[bo mx.symm,bQ],bQ,ψ,yN e kf nc,yD⟩
end
noncomputable def fl(m:Bool × Nat):List Int:=(yJ (gm m) (aa m)).getD []
noncomputable def fst(m:Bool × Nat):Int:=(fl m).getD ((1:Int)%((aa m:Int)-1)).toNat 0
noncomputable def Qf(m:Bool × Nat):Bool:=decide (2<=aa m)&&decide (aa m<=64)&&(yJ (gm m) (aa m)).isSome&&decide ((fl m).length+1=aa m)&&(fl m).all (λx=>decide (0<=x)&&decide (x.toNat<=(fl m).length))&&decide (((1:Int)%((aa m:Int)-1)).toNat<(fl m).length)
theorem cu8:au.all Qf=true:=by decide +kernel
theorem cq{m:Bool × Nat}(h:m∈au):Qb (gm m) (aa m) (fl m) (fst m):=by
 have h:=c9.mp cu8 m h
 simp only[Qf,fg,decide_eq_true_eq,c9]at h
 obtain⟨⟨⟨⟨⟨h1,h2⟩,h3⟩,h4⟩,h5⟩,h6⟩:=h
 obtain⟨l,e⟩:=Ah.mp h3
 have el:fl m=l:=by unfold fl;rw[e];rfl
 refine⟨h1,h2,by rw[e,el],h4,λx hx=>h5 x hx,?_⟩
 unfold fst
 rw[aL,aO h6];rfl
theorem ch5:∀p∈nZ,(decide (2<=(p:Int))&&decide ((p:Int)<=61)&&(aD ((p:Int).toNat-2)).all λi=>(p:Int)%(2+(i:Int)) != 0)=true:=by decide +kernel
theorem cp9:∀p∈gZ,(decide (4<=(p:Int))&&decide ((p:Int)<=127)&&al (p:Int).toNat)=true:=by decide +kernel
theorem R.si{F H:Hp}{x C dx:Addr}{fs:List (Str × V)}{o':HO}{ds:List D}{vs:List V}{A:List Addr}(r:R F H ds vs A)(hx:H x=some (.ins C dx fs))(hd:ds.all D.fr=true):R F (L2.upd H x o') ds vs A:=by
 have up:∀{a o},H a=some o->(∀C dx fs,o≠.ins C dx fs)->L2.upd H x o' a=some o:=λ{a o} e n=>by
  rw[bo (λz=>by rw[z,hx]at e;cases e;exact n _ _ _ rfl)];exact e
 induction r with
 | nil=>exact .nil
 | ax _ ih=>exact .ax (ih (by simpa[D.fr]using hd))
 | bl _ ih=>exact .bl (ih (by simpa[D.fr]using hd))
 | int _ ih=>exact .int (ih (by simpa[D.fr]using hd))
 | str _ ih=>exact .str (ih (by simpa[D.fr]using hd))
 | shr h x _ i1 ih=>simp[gv]at hd
 | own h f _ _ i1 i2 =>
  rw[dy,gv,fg,mX]at hd
  exact .own (up h λ_ _ _ z=>by cases z) f (i1 hd.1) (i2 hd.2)
 | tup h _ _ i1 i2 =>
  rw[dy,q0,fg]at hd
  exact .tup (up h λ_ _ _ z=>by cases z) (i1 hd.1) (i2 hd.2)
 | obj h l x _ i1 ih=>simp[D.fr]at hd
 | fz h x _ i1 ih=>simp[D.fr]at hd
 | @bI p z _ _ _ h r ih =>
  refine .bI ?_ (ih (by simpa[D.fr]using hd))
  cases z with
  | ext φ=>exact up h λ_ _ _ z=>by cases z
  | lam of oc c k=>exact kh.si h hx
theorem Qg(l g:List Int):(pX l g).all D.fr=true:=by
 unfold pX vL
 rw[lY,c9]
 intro a _
 show(D.lst true (aJ _)).fr=true
 rw[gv,rP];rfl
theorem bO.free{x a:Addr}{H H':Hp}(s:bO x H H')(hx:H' x≠none)(h:H' a=none):H a=none:=by
 cases q:H a with
 | none=>rfl
 | some o =>
  by_cases z:a=x
  ·subst z;exact absurd h hx
  ·cases n:jx o with
   | true=>rw[s.get a o z q n]at h;cases h
   | false =>
    obtain⟨ps,rfl⟩:=FH n
    obtain⟨m,e⟩:=s.tb a ps q
    rw[e]at h;cases h
theorem Qh(l:List Int):∀i,∀x∈n6 l i,0<=x
 | 0=>λx hx=>by rw[(m4.mp hx).2];exact Int.le_refl _
 | i+1=>λx hx=>by
  unfold n6 at hx
  rcases Aq hx with h | h
  ·exact Qh l i x h
  ·rw[h];exact MD _
theorem Qi:∀p∈gZ,bl p<=7:=by decide +kernel
theorem Qj:∀p∈gZ,1<=bl p:=by decide +kernel
theorem ce5(a b:Nat):bl (cl a b)<=bl a+bl b:=by
 by_cases ha:a=0
 ·subst ha;rw[pk];exact jh _
 ·by_cases hb:b=0
  ·subst hb
   have:cl a 0=0:=rfl
   rw[this];exact jh _
  ·rw[Oi ha hb];omega
noncomputable def n8(l g:List Int):List D:=(aD (l.length+1)).map λa=>D.lst false (aJ (pW l g a))
theorem ci2(l g:List Int):(D.lst true (pX l g)).sh=.lst false (n8 l g):=by
 rw[eK]
 unfold pX vL n8
 rw[cj]
 congr 1
 apply qy
 intro a _
 show D.sh (.lst true (aJ _))=_
 rw[eK,km]
theorem bY1(l g:List Int):(n8 l g).all D.pl=true:=by
 unfold n8
 rw[lY,c9]
 intro a _
 show(D.lst false (aJ _)).pl=true
 rw[gu,nR];rfl
noncomputable abbrev pD(m:Bool × Nat):List D:=[.int m.2,.int (aa m),.int ((bl (aa m):Nat)-1),.lst false (aJ (fl m)),.lst false (aJ (eZ (fl m))),.int (fst m)]
noncomputable def pY(C:Addr)(p:Nat):D:=.obj C (iJ "prime") (pD (false,p))
noncomputable def sj(C:Addr)(p:Nat):D:=.obj C (iJ "bits"++[("products":Str)]) (pD (true,p)++[.lst false (n8 (fl (true,p)) (eZ (fl (true,p))))])
noncomputable def fD(cb cp:Addr)(m:Bool × Nat):D:=if m.1 then sj cb m.2 else pY cp m.2
end L3
namespace L3
open PySem L2 Mf
theorem yO{u p:Nat}(h:bl u<bl p):md u p=u:=xy (q:=0) (by rw[pk,oU]) h
theorem bX6{u v n:Nat}(hu:bl u<n)(hv:bl v<n):bl (u ^^^ v)<n:=by
 have h1:u<2 ^ (n-1):=fB.mp (by omega)
 have h2:v<2 ^ (n-1):=fB.mp (by omega)
 have:=fB.mpr (ue h1 h2)
 omega
theorem B4{p:Nat}(hp:p≠0)(u v:Nat):md (u ^^^ v) p=md u p ^^^ md v p:=by
 obtain⟨⟨q1,e1⟩,l1⟩:=xx hp u
 obtain⟨⟨q2,e2⟩,l2⟩:=xx hp v
 refine xy (q:=q1 ^^^ q2) ?_ (bX6 l1 l2)
 rw[pj,<- N9,<- e1,<- e2]
theorem Qk{p:Nat}(hp:p≠0)(w:Nat):md (cl p w) p=0:=by rw[xw];exact cO6 w hp
theorem bC:∀m∈au,0<m.2:=by decide +kernel
theorem fq(m:Bool × Nat)(a b:Nat):gm m a b=gm m b a:=by
 unfold gm
 split
 ·rw[xw]
 ·rw[mU]
theorem Ql{n:Nat}(hn:n≠0)(u c:Nat):md (cl (md u n) c) n=md (cl u c) n:=by
 obtain⟨⟨q,e⟩,_⟩:=xx hn u
 have h:cl u c=cl n (cl q c) ^^^ cl (md u n) c:=by
  conv=>lhs;rw[e]
  rw[pj,xw n q,Oq]
 rw[h,B4 hn,Qk hn,oU]
theorem fG{m:Bool × Nat}(h:0<m.2)(a b c:Nat):gm m (gm m a b) c=gm m a (gm m b c):=by
 unfold gm
 split
 ·rw[Ql (by omega),xw (md (cl b c) m.2) a,Ql (by omega),Oq a b c,xw (cl b c) a]
 ·rw[wN,MW,<- wN,wN a (b*c%m.2),MW,<- wN,tH]
theorem Qm{m:Bool × Nat}(h:m.1=true){a:Nat}:a<aa m↔bl a<=bl m.2-1:=by
 unfold aa
 rw[if_pos h];exact fB.symm
theorem og{m:Bool × Nat}{a:Nat}(ha:a<aa m):gm m 1 a=a:=by
 obtain⟨k,n⟩:=m
 cases k with
 | true =>
  show md (cl 1 a) n=a
  rw[Ft]
  have h1:=(Qm (m:=(true,n)) rfl).mp ha
  have h1:bl a<=bl n-1:=h1
  by_cases z:bl n=0
  ·have a0:a=0:=by
    have:=fB (n:=a) (m:=0)
    have:=this.mp (by omega)
    omega
   subst a0
   have n0:n=0:=by
    have:=(fB (n:=n) (m:=0)).mp (by omega)
    omega
   subst n0
   decide
  ·exact yO (by omega)
 | false=>show 1*a%n=a;rw[Nat.one_mul];exact wO ha
theorem kr{m:Bool × Nat}{a:Nat}(ha:a<aa m):gm m a 1=a:=by rw[fq];exact og ha
noncomputable def lg(m:Bool × Nat)(a:Nat):Int:=(eZ (fl m)).getD a 0
noncomputable def pw(m:Bool × Nat)(k:Nat):Int:=(fl m).getD k 0
noncomputable def GV(m:Bool × Nat):Bool:=((aD (aa m-1)).all λk=>decide (1<=pw m k)&&decide (pw m k<aa m)&&decide (lg m (pw m k).toNat=k))&&((aD (aa m-1)).all λa=>decide (0<=lg m (a+1))&&decide (lg m (a+1)<(aa m:Int)-1)&&decide (pw m (lg m (a+1)).toNat=((a+1:Nat):Int)))
theorem Qn:au.all GV=true:=by decide +kernel
theorem B5{m:Bool × Nat}(hm:m∈au){k:Nat}(hk:k<aa m-1):1<=pw m k/\pw m k<aa m/\lg m (pw m k).toNat=k:=by
 have h:=c9.mp Qn m hm
 simp only[GV,fg,c9,decide_eq_true_eq,bY]at h
 have:=h.1 k hk
 exact⟨this.1.1,this.1.2,this.2⟩
theorem B6{m:Bool × Nat}(hm:m∈au){a:Nat}(h1:1<=a)(h2:a<aa m):0<=lg m a/\lg m a<(aa m:Int)-1/\pw m (lg m a).toNat=a:=by
 have h:=c9.mp Qn m hm
 simp only[GV,fg,c9,decide_eq_true_eq,bY]at h
 have:=h.2 (a-1) (by omega)
 rw[show a-1+1=a by omega]at this
 exact⟨this.1.1,this.1.2,this.2⟩
theorem dJ(m:Bool × Nat)(b:Nat)(h:0<m.2):gm m 0 b=0:=by
 unfold gm
 split
 ·rw[pk];exact yO (by rw[nD];exact iC (by omega))
 ·rw[Nat.zero_mul,Nat.zero_mod]
theorem gK(m:Bool × Nat)(b:Nat)(h:0<m.2):gm m b 0=0:=by rw[fq];exact dJ m b h
noncomputable def stC(m:Bool × Nat):Bool:=decide (pw m 0=1)&&(aD (aa m-1)).all λk=>decide (gm m (pw m k).toNat (pw m (1%(aa m-1))).toNat=(pw m ((k+1)%(aa m-1))).toNat)
theorem Qo:au.all stC=true:=by decide +kernel
theorem Qp(m:Bool × Nat)(hm:m∈au):pw m 0=1:=by
 have h:=c9.mp Qo m hm
 simp only[stC,fg,decide_eq_true_eq]at h
 exact h.1
noncomputable def pN(m:Bool × Nat)(k:Nat):Nat:=(pw m (k%(aa m-1))).toNat
theorem cM8{m:Bool × Nat}(hm:m∈au)(k:Nat):pN m k<aa m:=by
 have cJ:=(cq hm).lo
 have:=B5 hm (tN k (show 0<aa m-1 by omega))
 unfold pN
 omega
theorem Qq{m:Bool × Nat}(hm:m∈au)(k:Nat):gm m (pN m k) (pN m 1)=pN m (k+1):=by
 have cJ:=(cq hm).lo
 have h:=c9.mp Qo m hm
 simp only[stC,fg,decide_eq_true_eq,c9,bY]at h
 have h2:=h.2 (k%(aa m-1)) (tN k (by omega))
 rw[wQ]at h2
 exact h2
theorem Qr{m:Bool × Nat}(hm:m∈au)(i:Nat):∀j,gm m (pN m i) (pN m j)=pN m (i+j)
 | 0=>by
  have e:pN m 0=1:=by unfold pN;rw[Nat.zero_mod,Qp m hm];rfl
  rw[e,kr (cM8 hm i)];rfl
 | j+1=>by rw[<-Qq hm j,<- fG (bC m hm),Qr hm i j,Qq hm];rfl
theorem GW{m:Bool × Nat}(hm:m∈au){a b:Nat}(a1:1<=a)(a2:a<aa m)(b1:1<=b)(b2:b<aa m):((gm m a b:Nat):Int)=pw m ((lg m a+lg m b)%((aa m:Int)-1)).toNat:=by
 have cJ:=(cq hm).lo
 obtain⟨g0,g1,g2⟩:=B6 hm a1 a2
 obtain⟨f0,f1,f2⟩:=B6 hm b1 b2
 have ea:pN m (lg m a).toNat=a:=by unfold pN;rw[wO (by omega),g2];rfl
 have eb:pN m (lg m b).toNat=b:=by unfold pN;rw[wO (by omega),f2];rfl
 have e:=Qr hm (lg m a).toNat (lg m b).toNat
 rw[ea,eb]at e
 rw[e]
 have ei:((lg m a+lg m b)%((aa m:Int)-1)).toNat=((lg m a).toNat+(lg m b).toNat)%(aa m-1):=by
  have:(((lg m a).toNat+(lg m b).toNat)%(aa m-1):Nat)=((lg m a+lg m b)%((aa m:Int)-1)):=by
   rw[lZ,tO,tP g0,tP f0,Int.natCast_sub (by omega)];rfl
  omega
 rw[ei]
 have:=B5 hm (tN ((lg m a).toNat+(lg m b).toNat) (show 0<aa m-1 by omega))
 unfold pN
 omega
theorem cr9{p a:Nat}(hp:p∈gZ)(ha:a<aa (true,p)):pW (fl (true,p)) (eZ (fl (true,p))) a=(aD (aa (true,p))).map λb=>((gm (true,p) a b:Nat):Int):=by
 have hm:(true,p)∈au:=fE _ (tQ hp)
 have h0:=bC _ hm
 have hF:=cq hm
 have hlen:=hF.len
 unfold pW
 split
 ·rename_i h
  subst h
  rw[hlen]
  refine EA (by simp) λi h1 h2=>?_
  simp[dJ _ _ h0]
 ·rename_i h
  rw[<-hlen,Ye,dw,cj,gK _ _ h0]
  congr 1
  apply qy
  intro b hb
  have hb:=bY.mp hb
  show(fl (true,p)).getD (((eZ (fl (true,p))).getD a 0+(eZ (fl (true,p))).getD (b+1) 0)%((fl (true,p)).length:Int)).toNat 0=((gm (true,p) a (b+1):Nat):Int)
  rw[GW hm (by omega) ha (by omega) (by omega),show(((fl (true,p)).length:Nat):Int)=(aa (true,p):Int)-1 by omega]
  rfl
theorem B7{p a b:Nat}(hp:p∈gZ)(ha:a<aa (true,p))(hb:b<aa (true,p)):fo (aJ (pW (fl (true,p)) (eZ (fl (true,p))) a)) (b:Int)=some (.int (gm (true,p) a b:Nat)):=by
 refine nq (by omega) ?_
 rw[cr9 hp ha]
 unfold aJ
 rw[fV,cI,cI,j8 hb];rfl
theorem B8{p a:Nat}(hp:p∈gZ)(ha:a<aa (true,p)):fo (n8 (fl (true,p)) (eZ (fl (true,p)))) (a:Int)=some (.lst false (aJ (pW (fl (true,p)) (eZ (fl (true,p))) a))):=by
 have hF:=cq (m:=(true,p)) (fE _ (tQ hp))
 refine nq (by omega) ?_
 unfold n8
 rw[fV,cI,j8 (by rw[hF.len];exact ha)];rfl
end L3
namespace L3
open PySem L2 Mf
theorem cF0(C:Addr)(p:Nat):D.obj C (iJ "bits"++[("products":Str)]) (tK D.sh [.int p,.int (aa (true,p)),.int ((bl (aa (true,p)):Nat)-1),.lst true (aJ (fl (true,p))),.lst true (aJ (eZ (fl (true,p)))),.int (fst (true,p)),.lst true (pX (fl (true,p)) (eZ (fl (true,p))))])=sj C p:=by
 simp only[dw,j7]
 rw[ci2]
 simp only[eK,pQ,km];rfl
theorem cd3(C:Addr)(p:Nat):D.obj C (iJ "prime") (tK D.sh [.int p,.int p,.int ((bl p:Nat)-1),.lst true (aJ (fl (false,p))),.lst true (aJ (eZ (fl (false,p)))),.int (fst (false,p))])=pY C p:=by
 simp only[dw,j7,eK,pQ,km];rfl
theorem sk{n:Nat}(h:(true,n)∈au):n∈gZ:=by
 rcases cE.mp h with h | h
 ·obtain⟨x,hx,e⟩:=bB.mp h
  cases e;exact hx
 ·obtain⟨x,hx,e⟩:=bB.mp h
  cases e
theorem bK1{n:Nat}(h:(false,n)∈au):n∈nZ:=by
 rcases cE.mp h with h | h
 ·obtain⟨x,hx,e⟩:=bB.mp h
  cases e
 ·obtain⟨x,hx,e⟩:=bB.mp h
  cases e;exact hx
open Classical in
theorem GX{α:Type}{sh:Bool}{xs:List D}{aH:List (Str × Nat)}{n:Nat}{g0:iF}{te:aS}{ao:Dl}{Q:D->Dl->Prop}(l:List α)(e g:α->D)(jD:xs.map D.sh=l.map e)(inj:∀a b,e a=e b->a=b)
  (hx:∀a∈l,g0 (e a) (gH aH n ao) λbr=>te br λd _=>d=g a) (hg:∀d δ (P P':Dl->Prop),(∀ah,P ah->P' ah)->g0 d δ P->g0 d δ P') (gx:(sh&&aH.all (jA ao))=true\/∀a∈l,(g a).fr=true) (hl:l.length<=sizeLine) (hq:Q (.lst true (l.map g)) ao):uP sh xs aH n g0 mC te ao Q:=by
 let f:D->D:=λx=>if h:∃a∈l,e a=x then g h.choose else .ax
 have hf:∀a∈l,f (e a)=g a:=λa ha=>by
  have h:∃b∈l,e b=e a:=⟨a,ha,rfl⟩
  show(if h:∃b∈l,e b=e a then g h.choose else .ax)=g a
  rw[dif_pos h]
  exact congrArg g (inj _ _ h.choose_spec.2)
 refine⟨λ_=>true,f,λx h=>?_,gx.imp id λh x hx _=>?_,?_,?_⟩
 ·rw[jD]at h
  obtain⟨a,ha,rfl⟩:=bB.mp h
  rw[hf a ha]
  exact hg _ _ _ _ (λah h=>⟨rfl,λ_=>h⟩) (hx a ha)
 ·rw[jD]at hx
  obtain⟨a,ha,rfl⟩:=bB.mp hx
  rw[hf a ha];exact h a ha
 ·have:=congrArg Ei jD
  simp at this
  omega
 ·rw[jD,Yd.mpr (λ_ _=>rfl),cj,show l.map (f ∘ e)=l.map g from qy λa ha=>hf a ha]
  exact hq
theorem GY{i1 i2:Nat}(d:D)(δ:Dl)(P P':Dl->Prop)(h:∀ah,P ah->P' ah)(q:jC i1 i2 d δ P):jC i1 i2 d δ P':=by
 unfold jC at q ⊢
 split at q
 ·exact h _ q
 ·exact q
theorem Qs(xs ys:List Int):(fP (aJ xs) (aJ ys)).map D.sh=(xs.zip ys).map λz=>D.tup [.int z.1,.int z.2]:=by
 rw[Po,km,km]
 unfold fP aJ
 rw[MV,List.zip,Ez]
theorem cv4{p x y:Nat}(hp:p≠0)(hx:bl x<bl p):md (cl x y) p=(if y%2=1 then x else 0) ^^^ md (cl (if bl (2*x)=bl p then 2*x ^^^ p else 2*x) (y/2)) p:=by
 have e0:md (if y%2=1 then x else 0) p=(if y%2=1 then x else 0):=by
  split
  ·exact yO hx
  ·exact yO (by rw[nD];exact iC hp)
 rw[Of,B4 hp,e0]
 congr 1
 split
 ·rw[pj,B4 hp,Qk hp,lX]
 ·rfl
theorem cs5{p x:Nat}(hp:p≠0)(hx:bl x<bl p):bl (if bl (2*x)=bl p then 2*x ^^^ p else 2*x)<bl p:=by
 have h2:=cH8 x
 have h0:=iC hp
 split
 ·rename_i h
  have n0:2*x≠0:=λz=>by rw[z,nD]at h;omega
  have a1:=jv (2*x)
  have a2:=jv p
  have b1:=ub n0
  have b2:=ub hp
  rw[h]at a1 b1
  obtain⟨k,hk⟩:∃k,bl p=k+1:=⟨bl p-1,by omega⟩
  rw[hk]at a1 a2 b1 b2 ⊢
  have:=fB.mpr (N7 a1 a2 b1 b2)
  omega
 ·omega
end L3
namespace L3
open PySem L2 PySem.Spec PyProof.Rows
section
variable{X:Cx}{e o:Expr}{es:List Expr}{f m x:Str}{pos p apos:Pos}{to:aS}{ta:cU}{n:Nat}
end
section
variable{X:Cx}{tb th:dO}{body da4:List Stmt}{da5:Stmt}{K:Str}{Kc:Addr}{kp da6 pos:Pos}
end
structure vN(K:PySem.W.Frag)(C:Addr):Prop where
 cls:cQ K C
 ha:PySem.W.findIn K (.ref C) "__class__"=some (some (.builtin "object.__class__"))
 hn:PySem.W.specialIn K (.builtin "object.__class__") "__get__"=some (some (.builtin "getset_descriptor.__get__"))
 Bd:PySem.W.takesIn K (.builtin "object.__class__")=some true
 hm:PySem.W.mroIn K C (.type "object")=some true
noncomputable def vO(K:PySem.W.Frag)(cv:Value)(t:aS):aS:=λδ Q=>t δ λd ah=>∃C ns xs r,d=.obj C ns xs/\vN K C/\PySem.W.kitOne K (.ref C) cv=some r/\Q (.bl r) ah
theorem cF5{X:Cx}{a:Expr}{ta:aS}{p pos:Pos}{y:Str}{q:Pos}{C:Addr}(hg:Gl X "isinstance")(hm:X.mg "isinstance"=none)(Gk:Gl X y)(vg:X.mg y=some (.ref C))(ha:PE X a (lB ta))(hd:(y==("__debug__":Str))=false:=by decide)
  (hs:starEach [a,.Name y q] X.env=(false,eval a X.env)::starEach [.Name y q] X.env:=by rfl) (fJ:starEach [.Name y q] X.env=(false,eval (.Name y q) X.env)::starEach [] X.env:=by rfl) (bZ:(backTo pos (starEach [.Name y q] X.env)).any (·.1)=false:=by rfl) :
  PE X (.Call (.Name "isinstance" p) [a,.Name y q] [] pos) (lE (vO X.K (.ref C) ta)) :=
 dP (Be b72 hg hm Ou (cm ha (cm (YN (v:=.ref C) Gk vg rfl hd) fw fJ) hs) (by decide) (by decide) hs bZ) λσ H Q zq=>by
 obtain⟨B,F,δ,ts,Qd,c,q,k⟩:=zq
 exact⟨B,F,δ,ts,_,c,q,λd ao v F1 H1 q1 f1 h1 c1 s1=>by
  obtain⟨C',ns,xs,r,ed,oc,e,qr⟩:=q1
  subst ed
  obtain⟨a,dx,ws,rfl,ea,_,_⟩:=BV s1
  exact⟨.ref a,_,_,.ref C',r,rfl,rfl,.ty (.ins ea oc.cls oc.ha oc.hn oc.Bd oc.hm),e,k _ ao _ F1 H1 qr f1 h1 (c1.pushS (.bl .nil) rfl)⟩⟩
end L3
namespace L3
open PySem L2 Mf
theorem Qt{m:Bool × Nat}(hm:m∈au){a b:Nat}(a1:1<=a)(a2:a<aa m)(b1:1<=b)(b2:b<aa m):∃r:Nat,pw m ((lg m a-lg m b)%((aa m:Int)-1)).toNat=r/\r<aa m/\gm m r b=a:=by
 have hF:=cq hm
 have cJ:=hF.lo
 have n0:=gT (lg m a-lg m b) (show(aa m:Int)-1≠0 by omega)
 have n1:=hV (lg m a-lg m b) (show(0:Int)<(aa m:Int)-1 by omega)
 obtain⟨p1,p2,p3⟩:=B5 hm (k:=((lg m a-lg m b)%((aa m:Int)-1)).toNat) (by omega)
 obtain⟨g0,g1,g2⟩:=B6 hm a1 a2
 refine⟨(pw m ((lg m a-lg m b)%((aa m:Int)-1)).toNat).toNat,by omega,by omega,?_⟩
 have e:=GW hm (a:=(pw m ((lg m a-lg m b)%((aa m:Int)-1)).toNat).toNat) (by omega) (by omega) b1 b2
 rw[p3,tP n0,Int.emod_add_emod,Int.sub_add_cancel,Ar g0 g1,g2]at e
 omega
end L3
namespace L3
open PySem L2 PySem.Spec PyProof.Rows
section
variable{X:Cx}{e o a:Expr}{es:List Expr}{f m y:Str}{pos p apos q:Pos}{t to ta':aS}{ta:cU}{n:Nat}{P:Program}{w:World}{K:PySem.W.Frag}{mg:Str->Option Value}{base:Heap}
theorem cZ(he:PE X e (lB t))(hK:K=X.K:=by rfl)(hb:attributeBase e f X.env (eval e X.env)=eval e X.env:=by rfl):PE X (.Attribute e f pos) (lB (rY K t f)):=by
 subst hK;exact cO1 he hb
theorem fH{pl:Sem Bool}(ho:PE X o (lB to))(hr:cF n X.A)(ha:PA X (e::es) (lA ta))(hP:P=X.prog:=by rfl)(hw:w=X.w:=by rfl)(hK:K=X.K:=by rfl)(hm:mg=X.mg:=by rfl)(hb:base=X.base:=by rfl)
  (h9:starEach (e::es) X.env=(false,eval e X.env)::starEach es X.env:=by rfl) (bZ:(backTo pos (starEach es X.env)).any (·.1)=false:=by rfl)
  (ht:eval (.Call (.Attribute o m apos) (e::es) [] pos) X.env=(do
   let ov<-eval o X.env
   standAt apos.atName
   let (f,first)<-holding [ov] (getMethod ov m pl)
   callWith pos f first (backTo pos (starEach (e::es) X.env)) (backToKw pos (keywordEach [] X.env))):=by rfl) :
  PE X (.Call (.Attribute o m apos) (e::es) [] pos) (lE (rZ (ip P w K mg base n m) m to ta)):=by
 subst hP hw hK hm hb;exact cH0 ho hr ha h9 bZ ht
theorem B9{pl:Sem Bool}(ho:PE X o (lB to))(hr:cF n X.A)(hP:P=X.prog:=by rfl)(hw:w=X.w:=by rfl)(hK:K=X.K:=by rfl)(hm:mg=X.mg:=by rfl)(hb:base=X.base:=by rfl)
  (ht:eval (.Call (.Attribute o m apos) [] [] pos) X.env=(do
   let ov<-eval o X.env
   standAt apos.atName
   let (f,first)<-holding [ov] (getMethod ov m pl)
   callWith pos f first (backTo pos (starEach [] X.env)) (backToKw pos (keywordEach [] X.env))):=by rfl) :
  PE X (.Call (.Attribute o m apos) [] [] pos) (lE (se (ip P w K mg base n m) m to)):=by
 subst hP hw hK hm hb;exact cv9 ho hr ht
end
theorem GZ:∀m∈Mf.au,1<=Mf.bl m.2/\Mf.bl m.2<=7:=by decide +kernel
end L3
namespace L3
open PySem L2 Mf
noncomputable def gp(m:Bool × Nat)(a b:Nat):Nat:=if m.1 then a ^^^ b else(a+b)%m.2
noncomputable def gl(m:Bool × Nat)(a b:Nat):Int:=if m.1 then(a ^^^ b:Nat)else((a:Int)-b)%m.2
noncomputable def gd(m:Bool × Nat)(xs ys:List Nat):Nat:=(cO (gm m) xs ys).foldl (gp m) 0
noncomputable def pZ(c:Int):Bool × Nat:=if c%2=0 then(true,gZ.getD (c/2%21).toNat 0)else(false,nZ.getD (c/2%18).toNat 0)
theorem cc9(c:Int):pZ c∈au:=by
 unfold pZ
 split
 ·refine fE _ (bB.mpr ⟨_,?_,rfl⟩)
  have h:(c/2%21).toNat<gZ.length:=by
   have:=hV (c/2) (show(0:Int)<21 by decide)
   show _<21
   omega
  rw[aL,aO h]
  exact dz _
 ·refine df _ (bB.mpr ⟨_,?_,rfl⟩)
  have h:(c/2%18).toNat<nZ.length:=by
   have:=hV (c/2) (show(0:Int)<18 by decide)
   show _<18
   omega
  rw[aL,aO h]
  exact dz _
noncomputable def dZ(m:Bool × Nat):D:=.tup [.bl m.1,.int m.2]
theorem vP(cb cp:Addr)(m:Bool × Nat):fD cb cp m=.obj (if m.1 then cb else cp) (if m.1 then iJ "bits"++[("products":Str)]else iJ "prime") (if m.1 then pD (true,m.2)++[.lst false (n8 (fl (true,m.2)) (eZ (fl (true,m.2))))]else pD (false,m.2)):=by
 obtain⟨k,n⟩:=m
 cases k<;>rfl
theorem Qu(m:Bool × Nat)(x:Str)(h:x ∉ (["bits","prime","many","wide","powers","logs","step","products"]:List Str)):x ∉ (if m.1 then iJ "bits"++[("products":Str)]else iJ "prime"):=by
 obtain⟨k,n⟩:=m
 intro z
 apply h
 cases k
 ·have z:x∈iJ "prime":=z
  simp[iJ]at z
  simp only[cA]
  rcases z with z | z | z | z | z | z<;>simp[z]
 ·have z:x∈iJ "bits"++[("products":Str)]:=z
  simp[iJ]at z
  simp only[cA]
  rcases z with z | z | z | z | z | z | z<;>simp[z]
theorem vQ(cb cp:Addr)(m:Bool × Nat):(fD cb cp m).sh=fD cb cp m:=by rw[vP];rfl
theorem Qv(cb cp:Addr)(m:Bool × Nat):(fD cb cp m).pl=true:=by rw[vP];rfl
theorem cn9(m:Bool × Nat):(dZ m).sh=dZ m:=rfl
theorem cq1(m:Bool × Nat):(dZ m).pl=true:=rfl
noncomputable def G0(P:Program)(w:World)(K:PySem.W.Frag)(mg:Str->Option Value)(base:Heap)(n:Nat)(cb cp:Addr)(m:Bool × Nat)(x:Str)(ds:List D)(Q:D->Prop):Prop:=∃C ns xs sp,fD cb cp m=.obj C ns xs/\ip P w K mg base n x C sp/\x ∉ ns/\sp (.obj C ns xs::ds) Q
theorem Qw{p:Nat}(hp:0<p):∀(l:List Nat) (acc:Nat),acc<p->l.foldl (gp (false,p)) acc=(acc+l.sum)%p
 | [],acc,h=>by simp[wO h]
 | x::l,acc,h=>by
  rw[tG,show gp (false,p) acc x=(acc+x)%p from rfl,Qw hp l _ (tN _ hp),MX]
  show((acc+x)%p+l.sum)%p=_
  rw[wQ,Ex]
theorem Qx(p:Nat):∀xs ys:List Nat,(cO (gm (false,p)) xs ys).sum%p=(cO (· * ·) xs ys).sum%p
 | [],_=>by simp
 | _::_,[]=>by simp
 | x::xs,y::ys=>by
  simp only[MY,MX]
  show(x*y%p+_)%p=_
  rw[wQ,Nat.add_mod,Qx p xs ys,<- Nat.add_mod]
theorem Qy:∀xs ys:List Nat,(cO (· * ·) (xs.map λ(n:Nat)=>(n:Int)) (ys.map λ(n:Nat)=>(n:Int))).sum=(((cO (· * ·) xs ys).sum:Nat):Int)
 | [],_=>by simp
 | _::_,[]=>by simp
 | x::xs,y::ys=>by
  simp only[dw,MY,MX]
  rw[Qy xs ys,tO,qA]
theorem g5(m:Bool × Nat)(a b:Nat):gp m a b=gp m b a:=by
 unfold gp
 split
 ·rw[MH]
 ·rw[wI]
theorem oh(m:Bool × Nat)(a b c:Nat):gp m (gp m a b) c=gp m a (gp m b c):=by
 unfold gp
 split
 ·rw[qt]
 ·rw[wQ,Nat.add_mod_mod,Ex]
theorem sq{m:Bool × Nat}(h:0<m.2)(a b c:Nat):gm m (gp m a b) c=gp m (gm m a c) (gm m b c):=by
 unfold gm gp
 split
 ·rw[pj,B4 (by omega)]
 ·rw[wN,MW,<- wN,Nat.add_mul,wQ,Nat.add_mod_mod]
theorem vR{m:Bool × Nat}(h:0<m.2)(a b c:Nat):gm m c (gp m a b)=gp m (gm m c a) (gm m c b):=by rw[fq,sq h,fq m a,fq m b]
theorem cc5:∀m∈au,m.1=true->2<=bl m.2:=by decide +kernel
theorem oi{m:Bool × Nat}(hm:m∈au){a b:Nat}(ha:a<aa m)(hb:b<aa m):gp m a b<aa m:=by
 have h0:=bC m hm
 obtain⟨k,n⟩:=m
 cases k with
 | true=>exact ue ha hb
 | false=>exact tN _ h0
theorem bJ{m:Bool × Nat}(hm:m∈au)(a b:Nat):gm m a b<aa m:=by
 have h0:=bC m hm
 obtain⟨k,n⟩:=m
 cases k with
 | true =>
  have h2:=cc5 (true,n) hm rfl
  have:=(xx (show n≠0 by have:0<n:=h0;omega) (cl a b)).2
  refine(Qm rfl).mpr ?_
  show bl (md (cl a b) n)<=bl n-1
  omega
 | false=>exact tN _ h0
theorem jX{m:Bool × Nat}{a:Nat}(ha:a<aa m):gp m 0 a=a:=by
 obtain⟨k,n⟩:=m
 cases k with
 | true=>exact oU a
 | false=>show(0+a)%n=a;rw[As];exact wO ha
theorem iq{m:Bool × Nat}{a:Nat}(ha:a<aa m):gp m a 0=a:=by rw[g5];exact jX ha
theorem cO2{m:Bool × Nat}(hm:m∈au){a b:Nat}(ha:a<aa m)(hb:b<aa m):∃r:Nat,gl m a b=r/\r<aa m/\gp m r b=a:=by
 have h0:=bC m hm
 obtain⟨k,n⟩:=m
 cases k with
 | true=>exact⟨a ^^^ b,rfl,ue ha hb,by show a ^^^ b ^^^ b=a;rw[qt,Al,lX]⟩
 | false =>
  have h0:0<n:=h0
  have ha:a<n:=ha
  have hb:b<n:=hb
  refine⟨(a+(n-b))%n,?_,tN _ h0,?_⟩
  ·show((a:Int)-b)%n=_
   rw[lZ,tO,Int.natCast_sub (by omega),show((a:Int)+((n:Int)-b))=((a:Int)-b)+n by omega,Int.add_emod_right]
  ·show((a+(n-b))%n+b)%n=a
   rw[wQ,show a+(n-b)+b=a+n by omega,Nat.add_mod_right,wO ha]
noncomputable def eS(m:Bool × Nat)(n:Int):Nat:=(pw m (n%((aa m:Int)-1)).toNat).toNat
theorem oj{m:Bool × Nat}(hm:m∈au)(n:Int):1<=eS m n/\eS m n<aa m/\lg m (eS m n)=n%((aa m:Int)-1)/\pw m (n%((aa m:Int)-1)).toNat=eS m n:=by
 have cJ:=(cq hm).lo
 have n0:=gT n (show(aa m:Int)-1≠0 by omega)
 have n1:=hV n (show(0:Int)<(aa m:Int)-1 by omega)
 obtain⟨p1,p2,p3⟩:=B5 hm (k:=(n%((aa m:Int)-1)).toNat) (by omega)
 unfold eS
 rw[p3]
 omega
theorem vS{m:Bool × Nat}(hm:m∈au)(n:Int):eS m n<aa m:=(oj hm n).2.1
theorem G1{m:Bool × Nat}(hm:m∈au)(a b:Int):gm m (eS m a) (eS m b)=eS m (a+b):=by
 obtain⟨a1,a2,a3,_⟩:=oj hm a
 obtain⟨b1,b2,b3,_⟩:=oj hm b
 have e:=GW hm a1 a2 b1 b2
 rw[a3,b3,<- Int.add_emod]at e
 have c:=(oj hm (a+b)).2.2.2
 rw[c]at e
 omega
theorem cB9{m:Bool × Nat}(hm:m∈au):eS m 0=1:=by
 unfold eS
 rw[Int.zero_emod,show(0:Int).toNat=0 from rfl,Qp m hm];rfl
theorem Qz{m:Bool × Nat}(hm:m∈au){a:Nat}(h1:1<=a)(h2:a<aa m):eS m (lg m a)=a:=by
 obtain⟨g0,g1,g2⟩:=B6 hm h1 h2
 unfold eS
 rw[Ar g0 g1,g2];rfl
theorem QB{m:Bool × Nat}(hm:m∈au)(n:Int):(fl m)[(n%((aa m:Int)-1)).toNat]?=some ((eS m n:Nat):Int):=by
 have hF:=cq hm
 have cJ:=hF.lo
 have n0:=gT n (show(aa m:Int)-1≠0 by omega)
 have n1:=hV n (show(0:Int)<(aa m:Int)-1 by omega)
 have hk:(n%((aa m:Int)-1)).toNat<(fl m).length:=by have:=hF.len;omega
 rw[<-(oj hm n).2.2.2]
 unfold pw
 rw[aL,aO hk];rfl
theorem QC{m:Bool × Nat}(hm:m∈au){a b:Nat}(a1:1<=a)(a2:a<aa m)(b1:1<=b)(b2:b<aa m):gm m a b≠0:=by
 rw[<-Qz hm a1 a2,<- Qz hm b1 b2,G1 hm]
 have:=(oj hm (lg m a+lg m b)).1
 omega
noncomputable def bD(m:Bool × Nat)(x:Nat):List Nat->Nat
 | []=>0
 | a::l=>gp m (gm m (bD m x l) x) a
theorem Ca{m:Bool × Nat}(hm:m∈au)(x:Nat):∀{l:List Nat},(∀a∈l,a<aa m)->bD m x l<aa m
 | [],_=>by have:=(cq hm).lo;show 0<_;omega
 | a::l,h=>oi hm (bJ hm _ _) (h a (by simp))
end L3
namespace L2
open PySem PySem.Spec PyProof.Rows
section
variable{X:Cx}{a:Expr}{ta:TA}{p pos:Pos}{tg:Expr}
end
end L2
namespace L3
open PySem L2 PySem.Spec PyProof.Rows
section
variable{F H:Hp}{K:PySem.W.Frag}{p:Addr}{ws:List V}{xs:List D}
end
section
variable{X:Cx}{a:Expr}{ta:cU}{p pos:Pos}{tg:Expr}
end
end L3
namespace L3
open PySem L2 Mf
noncomputable def eO(l:List Nat):List Nat:=(l.reverse.dropWhile (·==0)).reverse
theorem QD{l:List Nat}{k:Nat}(hk:k<=l.length)(hz:∀x∈l.drop k,x=0)(hn:k=0\/l.getD (k-1) 0≠0):eO l=l.take k:=by
 unfold eO
 conv=>lhs;rw[<-Au k l]
 rw[Yi,List.dropWhile_append_of_pos (λa ha=>by simp[hz a (List.mem_reverse.mp ha)])]
 rcases hn with rfl | hn
 ·simp
 ·by_cases h0:k=0
  ·subst h0;simp
  ·have e:l.take k=l.take (k-1)++[l.getD (k-1) 0]:=by
    conv=>lhs;rw[show k=k-1+1 by omega]
    rw[kH,aL,aO (by omega)];rfl
   rw[e,Yi]
   generalize l.getD (k-1) 0=v at hn
   simp[List.dropWhile_cons,hn]
theorem Cb(l:List Nat):∃k,k<=l.length/\(∀x∈l.drop k,x=0)/\(k=0\/l.getD (k-1) 0≠0)/\eO l=l.take k:=by
 have:∀n,n<=l.length->(∀x∈l.drop n,x=0)->∃k,k<=l.length/\(∀x∈l.drop k,x=0)/\(k=0\/l.getD (k-1) 0≠0):=by
  intro n
  induction n with
  | zero=>exact λh1 h2=>⟨0,h1,h2,.inl rfl⟩
  | succ n ih =>
   intro h1 h2
   by_cases h:l.getD n 0=0
   ·refine ih (by omega) λx hx=>?_
    rw[MZ (by omega)]at hx
    rcases cA.mp hx with hx | hx
    ·rw[hx]
     rw[aL,aO (by omega)]at h
     exact h
    ·exact h2 x hx
   ·exact⟨n+1,h1,h2,.inr h⟩
 obtain⟨k,h1,h2,h3⟩:=this l.length (bK _) (by simp)
 exact⟨k,h1,h2,h3,QD h1 h2 h3⟩
theorem ca3{l:List Nat}{x:Nat}(h:x∈eO l):x∈l:=by
 obtain⟨k,_,_,_,e⟩:=Cb l
 rw[e]at h
 exact tJ h
theorem QE(l:List Nat):(eO l).length=0\/(eO l).getD ((eO l).length-1) 0≠0:=by
 obtain⟨k,h1,_,h3,e⟩:=Cb l
 rw[e,hE,Ao h1]
 rcases h3 with h3 | h3
 ·exact .inl h3
 ·by_cases h0:k=0
  ·exact .inl h0
  ·right
   rw[aL]at h3 ⊢
   rw[Ey,if_pos (by omega)]
   exact h3
theorem G2{m:Bool × Nat}(hm:m∈au)(x:Nat):∀{l:List Nat},(∀a∈l,a=0)->bD m x l=0
 | [],_=>rfl
 | a::l,h=>by
  have cJ:=(cq hm).lo
  show gp m (gm m (bD m x l) x) a=0
  rw[G2 hm x λa ha=>h a (by simp[ha]),h a (by simp),dJ _ _ (bC m hm),jX (by omega)]
theorem QF{m:Bool × Nat}(hm:m∈au)(x:Nat):∀(l:List Nat) (k:Nat),(∀a∈l.drop k,a=0)->bD m x (l.take k)=bD m x l
 | [],k,_=>by rw[List.take_nil]
 | a::l,0,h=>by rw[List.take_zero];exact(G2 hm x h).symm
 | a::l,k+1,h=>by
  rw[List.take_succ_cons]
  show gp m (gm m (bD m x (l.take k)) x) a=gp m (gm m (bD m x l) x) a
  rw[QF hm x l k h]
theorem G3{m:Bool × Nat}(hm:m∈au)(x:Nat)(l:List Nat):bD m x (eO l)=bD m x l:=by
 obtain⟨k,_,h2,_,e⟩:=Cb l
 rw[e];exact QF hm x l k h2
noncomputable def px(m:Bool × Nat)(x:Nat):Nat->Nat
 | 0=>1
 | k+1=>gm m (px m x k) x
noncomputable def jY(m:Bool × Nat)(t:List Nat)(k v:Nat):List Nat:=t.set k (gp m (t.getD k 0) v)
noncomputable def fZ(m:Bool × Nat)(x:Nat):List Nat->Nat->List Nat->List Nat
 | t,_,[]=>t
 | t,i,y::b=>fZ m x (jY m t i (gm m x y)) (i+1) b
noncomputable def iK(m:Bool × Nat)(b:List Nat):List Nat->Nat->List Nat->List Nat
 | t,_,[]=>t
 | t,i,x::a=>iK m b (fZ m x t i b) (i+1) a
noncomputable def om(m:Bool × Nat)(a b:List Nat):List Nat:=iK m b (aQ (a.length+b.length) 0) 0 a
noncomputable def oo(m:Bool × Nat)(a b:List Nat):List Nat:=eO (om m a b)
theorem QG(m:Bool × Nat)(x:Nat):∀(b c t:List Nat) (i:Nat),fZ m x t i (b++c)=fZ m x (fZ m x t i b) (i+b.length) c
 | [],c,t,i=>rfl
 | y::b,c,t,i=>by
  show fZ m x (jY m t i (gm m x y)) (i+1) (b++c)=_
  rw[QG m x b c,fF,show i+1+b.length=i+(b.length+1) by omega];rfl
theorem ch8(m:Bool × Nat)(x:Nat)(b t:List Nat)(i:Nat){j:Nat}(hj:j<b.length):fZ m x t i (b.take (j+1))=jY m (fZ m x t i (b.take j)) (i+j) (gm m x b[j]):=by
 rw[kH,aO hj,QG,hE,Ao (by omega)];rfl
theorem QH(m:Bool × Nat)(b:List Nat):∀(a c t:List Nat) (i:Nat),iK m b t i (a++c)=iK m b (iK m b t i a) (i+a.length) c
 | [],c,t,i=>rfl
 | y::a,c,t,i=>by
  show iK m b (fZ m y t i b) (i+1) (a++c)=_
  rw[QH m b a c,fF,show i+1+a.length=i+(a.length+1) by omega];rfl
theorem cf4(m:Bool × Nat)(b a t:List Nat)(i:Nat){j:Nat}(hj:j<a.length):iK m b t i (a.take (j+1))=fZ m a[j] (iK m b t i (a.take j)) (i+j) b:=by
 rw[kH,aO hj,QH,hE,Ao (by omega)];rfl
theorem G4(m:Bool × Nat)(t:List Nat)(k v:Nat):(jY m t k v).length=t.length:=by unfold jY;rw[jj]
theorem yP(m:Bool × Nat)(x:Nat):∀(b t:List Nat) (i:Nat),(fZ m x t i b).length=t.length
 | [],t,i=>rfl
 | y::b,t,i=>(yP m x b _ _).trans (G4 m t i _)
theorem G5(m:Bool × Nat)(b:List Nat):∀(a t:List Nat) (i:Nat),(iK m b t i a).length=t.length
 | [],t,i=>rfl
 | y::a,t,i=>(G5 m b a _ _).trans (yP m y b t i)
noncomputable def AllLt(n:Nat)(l:List Nat):Prop:=∀a∈l,a<n
theorem AllLt.getD{n:Nat}{l:List Nat}(h:AllLt n l)(h0:0<n)(k:Nat):l.getD k 0<n:=by
 rw[aL]
 cases e:l[k]? with
 | none=>exact h0
 | some v=>exact h v (tD e)
theorem G6{m:Bool × Nat}(hm:m∈au){t:List Nat}(ht:AllLt (aa m) t){k v:Nat}(hv:v<aa m):AllLt (aa m) (jY m t k v):=λa ha=>by
 unfold jY at ha
 have cJ:=(cq hm).lo
 rcases Aq ha with h | h
 ·exact ht a h
 ·rw[h];exact oi hm (ht.getD (by omega) k) hv
theorem yQ{m:Bool × Nat}(hm:m∈au)(x:Nat):∀(b t:List Nat) (i:Nat),AllLt (aa m) t->AllLt (aa m) (fZ m x t i b)
 | [],t,i,h=>h
 | y::b,t,i,h=>yQ hm x b _ _ (G6 hm h (bJ hm _ _))
theorem G7{m:Bool × Nat}(hm:m∈au)(b:List Nat):∀(a t:List Nat) (i:Nat),AllLt (aa m) t->AllLt (aa m) (iK m b t i a)
 | [],t,i,h=>h
 | y::a,t,i,h=>G7 hm b a _ _ (yQ hm y b t i h)
theorem Cc{m:Bool × Nat}(hm:m∈au)(n:Nat):AllLt (aa m) (aQ n 0):=λa ha=>by
 have cJ:=(cq hm).lo
 rw[(m4.mp ha).2];omega
theorem ch1{m:Bool × Nat}(hm:m∈au)(a b:List Nat):AllLt (aa m) (om m a b):=G7 hm b a _ 0 (Cc hm _)
theorem b60(m:Bool × Nat)(a b:List Nat):(om m a b).length=a.length+b.length:=by unfold om;rw[G5,dG]
theorem co8{m:Bool × Nat}(hm:m∈au)(a b:List Nat):AllLt (aa m) (oo m a b):=λx hx=>ch1 hm a b x (ca3 hx)
theorem QI{m:Bool × Nat}(hm:m∈au)(X:Nat){v:Nat}(hv:v<aa m):∀(t:List Nat) (k:Nat),k<t.length->bD m X (jY m t k v)=gp m (bD m X t) (gm m v (px m X k))
 | [],k,h=>by simp at h
 | a::t,0,_=>by
  show gp m (gm m (bD m X t) X) (gp m a v)=gp m (gp m (gm m (bD m X t) X) a) (gm m v 1)
  rw[kr hv,oh]
 | a::t,k+1,h=>by
  have ih:=QI hm X hv t k (by simpa using h)
  have h0:=bC m hm
  show gp m (gm m (bD m X (jY m t k v)) X) a=gp m (gp m (gm m (bD m X t) X) a) (gm m v (gm m (px m X k) X))
  rw[ih,sq h0,fG h0,oh,oh,g5 m _ a]
theorem QJ{m:Bool × Nat}(hm:m∈au)(X x:Nat):∀(b t:List Nat) (i:Nat),AllLt (aa m) t->i+b.length<=t.length->bD m X (fZ m x t i b)=gp m (bD m X t) (gm m (gm m x (px m X i)) (bD m X b))
 | [],t,i,ht,_=>by
  show bD m X t=gp m (bD m X t) (gm m (gm m x (px m X i)) 0)
  rw[gK _ _ (bC m hm),iq (Ca hm X ht)]
 | y::b,t,i,ht,hl=>by
  have h0:=bC m hm
  rw[fF]at hl
  show bD m X (fZ m x (jY m t i (gm m x y)) (i+1) b)=gp m (bD m X t) (gm m (gm m x (px m X i)) (gp m (gm m (bD m X b) X) y))
  rw[QJ hm X x b _ _ (G6 hm ht (bJ hm _ _)) (by rw[G4];omega),QI hm X (bJ hm _ _) t i (by omega),oh]
  congr 1
  rw[vR h0,g5]
  congr 1
  ·show gm m (gm m x (gm m (px m X i) X)) (bD m X b)=_
   rw[<-fG h0 x,fG h0 _ X,fq m X]
  ·rw[fG h0,fG h0,fq m y]
theorem QK{m:Bool × Nat}(hm:m∈au)(X:Nat)(b:List Nat):∀(a t:List Nat) (i:Nat),AllLt (aa m) t->i+a.length+b.length<=t.length->bD m X (iK m b t i a)=gp m (bD m X t) (gm m (gm m (bD m X a) (px m X i)) (bD m X b))
 | [],t,i,ht,_=>by
  have h0:=bC m hm
  show bD m X t=gp m (bD m X t) (gm m (gm m 0 (px m X i)) (bD m X b))
  rw[dJ _ _ h0,dJ _ _ h0,iq (Ca hm X ht)]
 | x::a,t,i,ht,hl=>by
  have h0:=bC m hm
  rw[fF]at hl
  show bD m X (iK m b (fZ m x t i b) (i+1) a)=gp m (bD m X t) (gm m (gm m (gp m (gm m (bD m X a) X) x) (px m X i)) (bD m X b))
  rw[QK hm X b a _ _ (yQ hm x b t i ht) (by rw[yP];omega),QJ hm X x b t i ht (by omega),oh]
  congr 1
  rw[sq h0,sq h0,g5]
  congr 1
  show gm m (gm m (bD m X a) (gm m (px m X i) X)) (bD m X b)=_
  rw[fq m (px m X i) X,<- fG h0 (bD m X a)]
theorem ce3{m:Bool × Nat}(hm:m∈au)(X:Nat)(a b:List Nat)(ha:AllLt (aa m) a)(hb:AllLt (aa m) b):bD m X (oo m a b)=gm m (bD m X a) (bD m X b):=by
 unfold oo
 rw[G3 hm]
 unfold om
 rw[QK hm X b a _ 0 (Cc hm _) (by rw[dG];omega),G2 hm X (λx hx=>(m4.mp hx).2)]
 show gp m 0 (gm m (gm m (bD m X a) 1) (bD m X b))=_
 rw[kr (Ca hm X ha),jX (bJ hm _ _)]
end L3
namespace L3
open PySem L2 PySem.Spec PyProof.Rows
theorem b45(n:Nat)(l:List Nat):(aj l).all (dX n)=true:=by
 rw[cH,lY,c9]
 intro a _
 exact rR n _
theorem Cd(n:Nat)(o:Bool)(l:List Nat):dX (n+1) (.lst o (aj l))=true:=b45 n l
theorem yR(o o':Bool)(a b:List Nat):bR (.lst o (aj a)) (.lst o' (aj b))=decide (a=b):=by
 unfold aj
 rw[vt]
 congr 1
 apply propext
 constructor
 ·intro h
  have:=congrArg (tK fi) h
  have e:(fi ∘ λ(n:Nat)=>(n:Int))=id:=by funext x;rfl
  rw[cj,cj,e,List.map_id,List.map_id]at this
  exact this
 ·intro h;rw[h]
theorem ku{l:List Nat}{k:Int}(h0:0<=k)(h:k.toNat<l.length):fo (aj l) k=some (.int ((l.getD k.toNat 0:Nat):Int)):=by
 refine nq h0 ?_
 rw[cH,cI,aO h,aL,aO h];rfl
theorem vT{n:Nat}{k:Int}(h0:0<=k)(h:k.toNat<n):iU n k=some k.toNat:=by
 unfold iU
 rw[if_pos h0,if_pos (by omega)]
theorem mJ{n:Nat}(k:Int)(h:k=n):(((aD k.toNat).map λ(k:Nat)=>D.int (0+(k:Int))).map D.sh)=(aD n).map λ(i:Nat)=>D.int (i:Int):=by
 subst h
 rw[xJ,fV]
 simp
theorem b33{l:List Nat}{k:Nat}(h1:0<k)(hk:k<=l.length)(hz:∀x∈l.drop k,x=0)(h0:l.getD (k-1) 0=0):∀x∈l.drop (k-1),x=0:=by
 intro x hx
 rw[MZ (by omega)]at hx
 rcases cA.mp hx with hx | hx
 ·rw[hx]
  rw[aL,aO (by omega)]at h0
  exact h0
 ·rw[show k-1+1=k by omega]at hx
  exact hz x hx
theorem G8(l:List Nat)(k v:Nat):(aj l).set k (.int (v:Nat))=aj (l.set k v):=by
 rw[cH,cH,tR]
theorem QL(l:List Nat):(aj l).all D.fr=true:=rP _
theorem sr(o:Bool)(l:List Nat):(D.lst o (aj l)).sh=.lst false (aj l):=by rw[eK,rV]
theorem gb(l:List Nat):(D.lst true (aj l)).fr=true:=by rw[gv,QL];rfl
theorem cx5{xs:List D}{i:Nat}{d:D}(h:(fY xs)[i]?=some d):∃hi:i<xs.length,d=.tup [.int i,xs[i]]:=by
 have hi:i<(fY xs).length:=(jI.mp h).1
 rw[nU]at hi
 refine⟨hi,?_⟩
 unfold fY at h
 rw[Ap,aO hi]at h
 exact(de h).symm
theorem G9{l:List Nat}{i:Nat}{d:D}(h:(fY (aj l))[i]?=some d):∃hi:i<l.length,d=.tup [.int i,.int (l[i]:Nat)]:=by
 obtain⟨hi,e⟩:=cx5 h
 rw[dY]at hi
 refine⟨hi,?_⟩
 rw[e]
 simp only[cH,wR]
theorem cg2{l:List Nat}{i:Nat}{d:D}(h:(aj l)[i]?=some d):∃hi:i<l.length,d=.int (l[i]:Nat):=by
 have hi:i<l.length:=by
  have:=(jI.mp h).1
  rw[dY]at this;exact this
 refine⟨hi,?_⟩
 rw[cH,cI,aO hi]at h
 exact(de h).symm
theorem cg3{a:Int}{n i:Nat}{d:D}(h:((aD n).map λ(k:Nat)=>D.int (a+(k:Int)))[i]?=some d):i<n/\d=.int (a+i):=by
 have hi:i<n:=by
  have:=(jI.mp h).1
  simpa using this
 refine⟨hi,?_⟩
 rw[cI,j8 hi]at h
 exact(de h).symm
section
variable{X:Cx}
end
end L3
namespace L3
open PySem L2 Mf
noncomputable def bu(m:Bool × Nat)(a b:Nat):Nat:=(gl m a b).toNat
theorem ir{m:Bool × Nat}(hm:m∈au){a b:Nat}(ha:a<aa m)(hb:b<aa m):gl m a b=(bu m a b:Nat)/\bu m a b<aa m/\gp m (bu m a b) b=a:=by
 obtain⟨r,e,h1,h2⟩:=cO2 hm ha hb
 have:bu m a b=r:=by unfold bu;rw[e];rfl
 rw[this]
 exact⟨e,h1,h2⟩
theorem Ha{n:Nat}{f:Nat->Nat->Nat}:∀{a b:List Nat},(∀x∈a,∀y∈b,f x y<n)->AllLt n (cO f a b)
 | [],_,_=>by intro x hx;simp at hx
 | _::_,[],_=>by intro x hx;simp at hx
 | x::a,y::b,h=>by
  intro z hz
  rw[MY]at hz
  rcases cA.mp hz with rfl | hz
  ·exact h x (by simp) y (by simp)
  ·exact Ha (λx hx y hy=>h x (by simp[hx]) y (by simp[hy])) z hz
theorem bV3(xs ys:List Nat):(fP (aj xs) (aj ys)).map D.sh=(xs.zip ys).map λz=>D.tup [.int (z.1:Int),.int (z.2:Int)]:=by
 unfold aj
 rw[Qs,List.zip_map,cj];rfl
theorem Hb{sh:Bool}{aH:List (Str × Nat)}{n i1 i2:Nat}{te:aS}{ao:Dl}{Q:D->Dl->Prop}(f:Nat->Nat->Nat){A B:List Nat}(hx:∀x∈A,∀y∈B,jC i1 i2 (.tup [.int (x:Int),.int (y:Int)]) (gH aH n ao) λbr=>te br λd _=>d=.int ((f x y:Nat):Int))
  (hl:A.length<=100000) (hq:Q (.lst true (aj (cO f A B))) ao):uP sh (fP (aj A) (aj B)) aH n (jC i1 i2) mC te ao Q:=by
 refine GX (A.zip B) (λz=>D.tup [.int (z.1:Int),.int (z.2:Int)]) (λz=>D.int ((f z.1 z.2:Nat):Int)) (bV3 A B) (λa b h=>?_) (λz hz=>hx z.1 (tw hz).1 z.2 (tw hz).2) GY (.inr λ_ _=>rfl) (by rw[EB,sL];omega) ?_
 ·injection h with h
  simp at h
  exact Prod.ext (by omega) (by omega)
 ·rw[show((A.zip B).map λz=>D.int ((f z.1 z.2:Nat):Int))=aj (cO f A B) by rw[cH,List.zip,Ez,Ez]]
  exact hq
end L3
namespace L3
open PySem L2 PySem.Spec PyProof.Rows
theorem av.dj4{B:Bs}{F H:Hp}{σ:L2.St}{δ:Dl}{ps ts:List (D × V)}{p:Addr}{o:HO}{A1:List Addr}(c:av B F H σ δ (ps++ts))(hp:H p=none)(r:R F (upd H p o) (ps.map (·.1)) (ps.map (·.2)) A1):p ∉ A1:=λh=>by
 obtain⟨A,C,r0,_,_,_⟩:=c.own
 rw[fh,fh]at r0
 obtain⟨v1,v2,B1,B2,e,rfl,h1,h2⟩:=R.split r0
 have l1:(ps.map (·.2)).length=v1.length:=by rw[<-h1.length];simp
 obtain⟨rfl,rfl⟩:=Et e l1
 have g1:=h1.grow (af.refl F) (af.upd (o:=o) hp) λa ha=>(h1.lists a ha).2
 have:A1=B1:=R.inj r g1
 subst this
 obtain⟨ws,e⟩:=(h1.lists p h).1
 rw[hp]at e;cases e
theorem av.join{B:Bs}{F H:Hp}{σ:L2.St}{δ:Dl}{ts:List (D × V)}{p p' r:Addr}{xs ys:List D}{ws gY:List V}(c:av B F H σ δ ((.lst true ys,.ref p')::(.lst true xs,.ref p)::ts))(e1:H p=some (.lst ws))(e2:H p'=some (.lst gY))(hr:H r=none) :
  av B F (upd H r (.lst (ws++gY))) σ δ ((.lst true (xs++ys),.ref r)::ts):=by
 refine av.pack (ps:=[(.lst true ys,.ref p'),(.lst true xs,.ref p)]) c (af.upd hr) λA1 r1 nd=>?_
 have nin:=av.dj4 (ps:=[(.lst true ys,.ref p'),(.lst true xs,.ref p)]) (ts:=ts) c hr r1
 have n1:p≠r:=λz=>by rw[z,hr]at e1;cases e1
 have n2:p'≠r:=λz=>by rw[z,hr]at e2;cases e2
 have r1:R F (upd H r (.lst (ws++gY))) [.lst true ys,.lst true xs] [.ref p',.ref p] A1:=r1
 cases r1 with
 | @own _ wy _ Ay _ _ By hy fy ry rb =>
  cases rb with
  | @own _ wx _ Ax _ _ Bx hx fx rx rc =>
   cases rc
   rw[bo n2,e2]at hy;cases hy
   rw[bo n1,e1]at hx;cases hx
   refine⟨r::(Ax++Ay),by simpa using R.own bQ (c.ext.free hr) (rx.append ry) .nil,?_,λa ha=>?_⟩
   ·refine jJ.mpr ⟨λz=>nin ?_,?_⟩
    ·rcases cE.mp z with z | z<;>simp[z]
    ·have sl:(Ay++Ax).Sublist (p'::Ay++(p::Ax++[])):=by
      rw[gn]
      exact(((Yj p Ax).append_left Ay).trans (Yj p' _))
     exact m3.nodup_iff.mp (nd.sublist sl)
   ·simp only[cA,cE]at ha ⊢
    rcases ha with rfl | ha | ha
    ·exact .inr hr
    ·simp[ha]
    ·simp[ha]
section
variable{X:Cx}{a b:Expr}{ta tb:aS}{pos:Pos}
noncomputable def vU(ta tb:aS):aS:=λδ Q=>ta δ λx ao=>tb ao λy br=>∃xs ys,x=.lst true xs/\y=.lst true ys/\xs.length+ys.length<=sizeLine/\Q (.lst true (xs++ys)) br
theorem cE7(ha:PE X a (lE ta))(hb:PE X b (lE tb)):PE X (.BinOp a .Add b pos) (lE (vU ta tb)) :=
 dP (xk N2 ha hb) λσ H Q ⟨B,F,δ,ts,Qd,c,q,k⟩ =>
  ⟨B,F,δ,ts,_,c,q,λx ao v F1 H1 q1 f1 h1 c1=>⟨B,F1,ao,(x,v)::ts,_,c1,q1,λy br w F2 H2 q2 f2 h2 c2=>by
   obtain⟨xs,ys,rfl,rfl,hz,hq⟩:=q2
   obtain⟨p',gY,rfl,e2,s2⟩:=jB c2.top c2.ext
   obtain⟨p,ws,rfl,e1,s1⟩:=jB c2.pop.top c2.ext
   refine⟨p,p',ws,gY,rfl,rfl,e1,e2,by rw[<-s1.length,<- s2.length];exact hz,λr hr=>?_⟩
   exact k _ br _ F2 _ hq (f1.trans f2) ((h1.trans h2).trans (af.upd hr)) (c2.join e1 e2 hr)⟩⟩
end
theorem b79{a b:List Nat}(h:aj a=aj b):a=b:=by
 have:=yR true true a b
 rw[h,show bR (D.lst true (aj b)) (D.lst true (aj b))=true from(yR _ _ _ _).trans (decide_eq_true rfl)]at this
 exact of_decide_eq_true this.symm
theorem mK{o:Bool}(a b:List Nat)(h:D.lst o (aj a)=D.lst o (aj b)):a=b:=b79 (by injection h)
end L3
namespace L3
open PySem L2 Mf
theorem Hc{m:Bool × Nat}(hm:m∈au)(k:Int):∀n:Nat,px m (eS m k) n=eS m (k*n)
 | 0=>by
  show 1=eS m (k*((0:Nat):Int))
  rw[show k*((0:Nat):Int)=0 by omega,cB9 hm]
 | n+1=>by
  show gm m (px m (eS m k) n) (eS m k)=_
  rw[Hc hm k n,G1 hm,tO,Int.mul_add]
  congr 1
  omega
end L3
namespace L2
open PySem PySem.Spec PyProof.Rows
theorem cf8{X:Cx}:cP X (compareOp .IsNot) (λx y H Q=>∃a b,x=.bl a/\y=.bl b/\Q (.bl (a != b)) H):=by
 intro pins s σ H x y v u Q I rx ry h
 obtain⟨a,b,rfl,rfl,q⟩:=h
 cases rx
 cases ry
 exact isnot_bool (Nz I q rfl)
end L2
namespace L3
open PySem L2 PySem.Spec PyProof.Rows Mf
noncomputable def su:cV:=λx y Q=>match x,y with
 | .bl a,.bl b=>Q (.bl (a != b))
 | _,_=>False
theorem cu2{X:Cx}:bV X (compareOp .IsNot) su:=⟨_,cf8,λ{B F H σ δ ts x y v w Q Qd} c sx sy h k=>by
 unfold su at h
 split at h
 ·cases sx;cases sy
  exact⟨_,_,rfl,rfl,k _ _ _ h (af.refl _) (c.pushS (.bl .nil) rfl)⟩
 ·exact h.elim⟩
end L3
namespace L3
open PySem L2 Mf
noncomputable def cf(l:List Nat)(k:Nat):Nat:=l.getD k 0
theorem kx{l:List Nat}{k:Nat}(h:l.length<=k):cf l k=0:=by
 unfold cf;rw[aL,hJ h];rfl
theorem dq{m:Bool × Nat}(hm:m∈au){l:List Nat}(h:AllLt (aa m) l)(k:Nat):cf l k<aa m:=h.getD (by have:=(cq hm).lo;omega) k
theorem cq5(a:Nat)(l:List Nat)(k:Nat):cf (a::l) (k+1)=cf l k:=rfl
theorem cq7(l:List Nat)(n k:Nat):cf (l.take n) k=if k<n then cf l k else 0:=by
 unfold cf
 rw[aL,Ey]
 split
 ·rw[aL]
 ·rfl
theorem p5(l:List Nat)(k:Nat):cf (eO l) k=cf l k:=by
 obtain⟨n,h1,h2,_,e⟩:=Cb l
 rw[e,cq7]
 split
 ·rfl
 ·rename_i h
  symm
  by_cases hk:k<l.length
  ·have QM:k-n<(l.drop n).length:=by rw[ji];omega
   have:=h2 _ (dz QM)
   rw[List.getElem_drop]at this
   unfold cf
   rw[aL,aO hk]
   simp only[show n+(k-n)=k by omega]at this
   exact this
  ·exact kx (by omega)
theorem ci3{l l':List Nat}(h:∀k,cf l k=cf l' k):eO l=eO l':=by
 have key:∀{l l':List Nat},(∀k,cf l k=cf l' k)->(eO l).length<=(eO l').length:=λ{l l'} h=>by
  rcases QE l with h0 | h0
  ·omega
  ·have e:cf (eO l') ((eO l).length-1)≠0:=by
    rw[p5,<- h,<- p5];exact h0
   apply Am
   intro z
   by_cases hz:(eO l).length=0
   ·omega
   ·exact e (kx (by omega))
 have len:(eO l).length=(eO l').length:=Nat.le_antisymm (key h) (key λk=>(h k).symm)
 refine EA len λk h1 h2=>?_
 have e:cf (eO l) k=cf (eO l') k:=by rw[p5,p5,h]
 unfold cf at e
 rw[aL,aL,aO h1,aO h2]at e
 exact e
theorem ca4(m:Bool × Nat)(t:List Nat){j:Nat}(hj:j<t.length)(v k:Nat):cf (jY m t j v) k=if k=j then gp m (cf t j) v else cf t k:=by
 unfold cf jY
 rw[aL,M4]
 by_cases h:k=j
 ·subst h
  rw[if_pos rfl,if_pos hj,if_pos rfl];rfl
 ·rw[if_neg (iw h),if_neg h,aL]
theorem QN{m:Bool × Nat}(hm:m∈au)(x:Nat):∀(b t:List Nat) (i k:Nat),AllLt (aa m) t->i+b.length<=t.length->cf (fZ m x t i b) k=gp m (cf t k) (if k<i then 0 else gm m x (cf b (k-i)))
 | [],t,i,k,ht,_=>by
  have e:(if k<i then 0 else gm m x (cf [] (k-i)))=0:=by
   split
   ·rfl
   ·rw[kx (jh _),gK _ _ (bC m hm)]
  rw[e,iq (dq hm ht k)];rfl
 | y::b,t,i,k,ht,hl=>by
  rw[fF]at hl
  show cf (fZ m x (jY m t i (gm m x y)) (i+1) b) k=_
  rw[QN hm x b _ (i+1) k (G6 hm ht (bJ hm _ _)) (by rw[G4];omega),ca4 m t (by omega)]
  by_cases h1:k=i
  ·subst h1
   rw[if_pos rfl,if_pos (by omega),if_neg (by omega),wU,iq (oi hm (dq hm ht _) (bJ hm _ _))];rfl
  ·rw[if_neg h1]
   by_cases h2:k<i
   ·rw[if_pos (by omega),if_pos h2]
   ·rw[if_neg (by omega),if_neg h2,show k-i=(k-(i+1))+1 by omega,cq5]
noncomputable def p7(m:Bool × Nat)(b:List Nat):List Nat->Nat->Nat
 | [],_=>0
 | x::q,k=>gp m (gm m x (cf b k)) (match k with | 0=>0 | k+1=>p7 m b q k)
theorem QO{m:Bool × Nat}(hm:m∈au)(b:List Nat):∀(q:List Nat) (k:Nat),p7 m b q k<aa m
 | [],_=>by have:=(cq hm).lo;show 0<_;omega
 | x::q,0=>oi hm (bJ hm _ _) (by have:=(cq hm).lo;show 0<_;omega)
 | x::q,k+1=>oi hm (bJ hm _ _) (QO hm b q k)
theorem QP{m:Bool × Nat}(hm:m∈au)(b:List Nat):∀(a t:List Nat) (i k:Nat),AllLt (aa m) t->i+a.length+b.length<=t.length->cf (iK m b t i a) k=gp m (cf t k) (if k<i then 0 else p7 m b a (k-i))
 | [],t,i,k,ht,_=>by
  have e:(if k<i then 0 else p7 m b [] (k-i))=0:=by split<;>rfl
  rw[e,iq (dq hm ht k)];rfl
 | x::a,t,i,k,ht,hl=>by
  rw[fF]at hl
  have cJ:=(cq hm).lo
  show cf (iK m b (fZ m x t i b) (i+1) a) k=_
  rw[QP hm b a _ (i+1) k (yQ hm x b t i ht) (by rw[yP];omega),QN hm x b t i k ht (by omega),oh]
  congr 1
  by_cases h1:k<i
  ·rw[if_pos h1,if_pos (by omega),if_pos h1,jX (by omega)]
  ·rw[if_neg h1,if_neg h1]
   by_cases h2:k=i
   ·subst h2
    rw[if_pos (by omega),wU];rfl
   ·rw[if_neg (by omega),show k-i=(k-(i+1))+1 by omega];rfl
theorem cJ8(n k:Nat):cf (aQ n 0) k=0:=by
 unfold cf
 rw[aL,kF]
 split<;>rfl
theorem QQ{m:Bool × Nat}(hm:m∈au)(a b:List Nat)(k:Nat):cf (oo m a b) k=p7 m b a k:=by
 unfold oo
 rw[p5]
 unfold om
 rw[QP hm b a _ 0 k (Cc hm _) (by rw[dG];omega),cJ8,if_neg (Nat.not_lt_zero k),Nat.sub_zero,jX (QO hm b a k)]
theorem Ce(m:Bool × Nat)(x:Nat):bu m x x=0:=by
 obtain⟨k,n⟩:=m
 cases k with
 | true=>show(((x ^^^ x:Nat):Int)).toNat=0;rw[Al];rfl
 | false=>show(((x:Int)-(x:Int))%(n:Int)).toNat=0;rw[Int.sub_self,Int.zero_emod];rfl
end L3
namespace L3
open PySem L2 PySem.Spec PyProof.Rows
section
variable{B:Bs}{F H:Hp}{σ:L2.St}{δ:Dl}{ts ps:List (D × V)}{i k:Nat}{p q:Addr}{l1 l2 ys OI:List D}{ws u7:List V}
end
section
variable{X:Cx}{F H:Hp}{e b:Expr}{pos p p2 p3 pr apos cX Gq:Pos}{t ti te:aS}{x y:Str}{i j:Nat}
end
end L3
namespace L3
structure Rg(N:Nat)(p q:Nat->Nat->Nat):Prop where
 pc:∀a b,p a b=p b a
 pa:∀a b c,p (p a b) c=p a (p b c)
 mc:∀a b,q a b=q b a
 ma:∀{a b c},a<N->b<N->c<N->q (q a b) c=q a (q b c)
 dl:∀a b c,q a (p b c)=p (q a b) (q a c)
 z:∀{a},a<N->p 0 a=a
 qz:∀a,q a 0=0
 one:∀{a},a<N->q 1 a=a
 lp:∀{a b},a<N->b<N->p a b<N
 lq:∀a b,q a b<N
 ng:∀{a},a<N->∃b,b<N/\p a b=0
section
variable{N:Nat}{p q:Nat->Nat->Nat}
noncomputable def sm(p:Nat->Nat->Nat):Nat->(Nat->Nat)->Nat
 | 0,_=>0
 | n+1,f=>p (sm p n f) (f n)
theorem Rg.pos(r:Rg N p q):0<N:=mW (jh _) (r.lq 0 0)
theorem Rg.z'(r:Rg N p q){a:Nat}(h:a<N):p a 0=a:=by rw[r.pc];exact r.z h
theorem Rg.QR(r:Rg N p q){a b c:Nat}(ha:a<N)(hb:b<N)(hc:c<N)(h:p a c=p b c):a=b:=by
 obtain⟨d,_,e⟩:=r.ng hc
 have:=congrArg (λx=>p x d) h
 simp only[r.pa,e]at this
 rw[r.z' ha,r.z' hb]at this
 exact this
theorem Rg.cn(r:Rg N p q){a b:Nat}(ha:a<N)(hb:b<N)(h:p a b=b):a=0:=r.QR ha r.pos hb (by rw[h,r.z hb])
theorem cR{f g:Nat->Nat}:∀{n:Nat},(∀j,j<n->f j=g j)->sm p n f=sm p n g
 | 0,_=>rfl
 | n+1,h=>by rw[sm,sm,cR λj hj=>h j (by omega),h n (by omega)]
theorem mL(r:Rg N p q){f:Nat->Nat}:∀{n:Nat},(∀j,j<n->f j<N)->sm p n f<N
 | 0,_=>r.pos
 | n+1,h=>r.lp (mL r λj hj=>h j (by omega)) (h n (by omega))
theorem gL(r:Rg N p q){f:Nat->Nat}:∀{n:Nat},(∀j,j<n->f j=0)->sm p n f=0
 | 0,_=>rfl
 | n+1,h=>by rw[sm,gL r λj hj=>h j (by omega),h n (by omega)];exact r.z r.pos
theorem Rg.four(r:Rg N p q)(a b c d:Nat):p (p a b) (p c d)=p (p a c) (p b d):=by
 rw[r.pa,r.pa,<- r.pa b,<- r.pa c,r.pc b c]
theorem k9(r:Rg N p q)(f g:Nat->Nat):∀n,sm p n (λj=>p (f j) (g j))=p (sm p n f) (sm p n g)
 | 0=>(r.z r.pos).symm
 | n+1=>by rw[sm,k9 r f g n,sm,sm,r.four]
theorem oq(r:Rg N p q)(c:Nat)(f:Nat->Nat):∀n,sm p n (λj=>q c (f j))=q c (sm p n f)
 | 0=>(r.qz c).symm
 | n+1=>by rw[sm,oq r c f n,sm,r.dl]
theorem QS(r:Rg N p q)(F:Nat->Nat->Nat)(k:Nat):∀n,sm p n (λi=>sm p k λj=>F i j)=sm p k λj=>sm p n λi=>F i j
 | 0=>(gL r λ_ _=>rfl).symm
 | n+1=>by
  rw[sm,QS r F k n,<- k9 r];rfl
theorem He(r:Rg N p q){f:Nat->Nat}(n:Nat):∀k,(∀j,j<n+k->f j<N)->sm p (n+k) f=p (sm p n f) (sm p k λj=>f (n+j))
 | 0,h=>(r.z' (mL r λj hj=>h j (by omega))).symm
 | k+1,h=>by
  rw[<-Ex,sm,He r n k λj hj=>h j (by omega),sm,r.pa]
theorem QT(r:Rg N p q){f:Nat->Nat}(n:Nat)(h:∀j,j<n+1->f j<N):sm p (n+1) f=p (f 0) (sm p n λj=>f (j+1)):=by
 rw[wI n 1,He r 1 n λj hj=>h j (by omega)]
 show p (p 0 (f 0)) _=_
 rw[r.z (h 0 (by omega))]
 congr 1
 exact cR λj _=>by rw[wI]
end
end L3
namespace L3
section
variable{N:Nat}{p q:Nat->Nat->Nat}
end
end L3
namespace L3
open PySem L2 Mf
theorem rg{m:Bool × Nat}(hm:m∈au):Rg (aa m) (gp m) (gm m) where
 pc:=g5 m
 pa:=oh m
 mc:=fq m
 ma:=λ_ _ _=>fG (bC m hm) _ _ _
 dl:=λa b c=>vR (bC m hm) b c a
 z:=jX
 qz:=λa=>gK m a (bC m hm)
 one:=og
 lp:=oi hm
 lq:=bJ hm
 ng:=λ{a} ha=>by
  have g:=ir hm (a:=0) (b:=a) (by omega) ha
  exact⟨_,g.2.1,(g5 m _ _).trans g.2.2⟩
theorem cg5(p:Nat->Nat->Nat)(l:List Nat):l.foldl p 0=sm p l.length λj=>l.getD j 0:=by
 have key:∀n,n<=l.length->(l.take n).foldl p 0=sm p n λj=>l.getD j 0:=by
  intro n
  induction n with
  | zero=>intro _;rfl
  | succ n ih =>
   intro h
   rw[kH,aO (by omega),EC,ih (by omega),sm,aL,aO (show n<l.length by omega)]
   rfl
 have:=key l.length (bK _)
 rw[mY]at this
 exact this
theorem cF7{m:Bool × Nat}(hm:m∈au)(f:Nat)(b:List Nat)(j:Nat):cf (b.map (gm m f)) j=gm m f (cf b j):=by
 unfold cf
 rw[aL,cI,aL]
 cases b[j]? with
 | none=>exact(gK m f (bC m hm)).symm
 | some x=>rfl
theorem QU{m:Bool × Nat}(hm:m∈au){a b:Nat}(ha:a<aa m)(hb:b<aa m)(h0:b≠0):∃r,r<aa m/\gm m r b=a:=by
 by_cases a0:a=0
 ·exact⟨0,by have:=(cq hm).lo;omega,by rw[a0];exact dJ m b (bC m hm)⟩
 ·obtain⟨r,_,h1,h2⟩:=Qt hm (show 1<=a by omega) ha (show 1<=b by omega) hb
  exact⟨r,h1,h2⟩
end L3
namespace L3
open PySem L2 PySem.Spec PyProof.Rows
section
variable{X:Cx}{i j:Nat}{x y:Str}{p pos pos' apos cX:Pos}
end
section
variable{X:Cx}{e:Expr}{t:aS}{p pos:Pos}
end
section
variable{X:Cx}
theorem cb9(i:Int)(ns:List Int):Bg (.int i) (ns.map V.int)=decide (i∈ns):=by
 unfold Bg
 rw[List.any_map,qu,MJ,decide_eq_true_iff]
 exact⟨λ⟨x,hx,he⟩=>(show x=i by simpa[mj]using he) ▸ hx,λhx=>⟨i,hx,by simp[mj]⟩⟩
noncomputable def sA:cV:=λx y Q=>match x,y with
 | .int i,.lst _ xs=>∃ns:List Int,xs=aJ ns/\Q (.bl (!decide (i∈ns)))
 | _,_=>False
theorem cC8:bV X (compareOp .NotIn) sA :=
 ⟨_,bE6,λ{B F H σ δ ts x y v w Q Qd} c sx sy h k=>by
  unfold sA at h
  split at h
  ·rename_i i o xs
   obtain⟨ns,rfl,q⟩:=h
   obtain⟨p,ws,rfl,e1,s1⟩:=jB sy c.ext
   have e:=Pt s1
   subst e
   cases sx
   refine⟨p,_,rfl,.inl (bS.of e1),rfl,by simp[nu],?_⟩
   rw[if_pos rfl,cb9]
   exact k _ _ _ q (af.refl _) (c.pushS (.bl .nil) rfl)
  ·exact h.elim⟩
end
end L3
namespace L3
open PySem L2 Mf
noncomputable def aA(o:Bool)(T:List (List Nat)):List D:=T.map λr=>.lst o (aj r)
theorem lh(o:Bool)(T:List (List Nat)):(aA o T).length=T.length:=by unfold aA;rw[bw]
theorem e7(o:Bool)(T:List (List Nat)):(aA o T).map D.sh=aA false T:=by
 unfold aA
 rw[cj]
 exact qy λr _=>sr o r
theorem p8(T:List (List Nat)):(aA false T).all D.pl=true:=by
 unfold aA
 rw[lY,c9]
 intro r _
 show(D.lst false (aj r)).pl=true
 rw[gu,nW];rfl
theorem vV(T:List (List Nat)):(aA true T).all D.fr=true:=by
 unfold aA
 rw[lY,c9]
 intro r _
 exact gb r
theorem sC(o:Bool)(S T:List (List Nat)):aA o S++aA o T=aA o (S++T):=by unfold aA;rw[fh]
theorem yS(o:Bool)(T:List (List Nat))(lo hi:Option Int):fO (aA o T) lo hi=aA o (fO T lo hi):=by
 unfold aA fO
 rw[bw,MP,MN]
theorem yT(o:Bool){T:List (List Nat)}{i:Nat}(h:i<T.length):fo (aA o T) (i:Int)=some (.lst o (aj T[i])):=by
 refine L3.GA ?_
 unfold aA
 rw[cI,aO h];rfl
theorem bW6(n:Nat)(o:Bool)(T:List (List Nat)):(aA o T).all (dX (n+1))=true:=by
 unfold aA
 rw[lY,c9]
 intro r _
 exact Cd _ _ _
theorem QV(n:Nat)(o o':Bool)(T:List (List Nat)):dX (n+2) (.lst o (aA o' T))=true:=bW6 n o' T
theorem QW(o o':Bool):∀(a b:List (List Nat)),bR.gA (aA o a) (aA o' b)=decide (a=b)
 | [],[]=>rfl
 | [],_::_=>by simp[aA,bR.gA]
 | _::_,[]=>by simp[aA,bR.gA]
 | x::xs,y::ys=>by
  show(bR (.lst o (aj x)) (.lst o' (aj y))&&bR.gA (aA o xs) (aA o' ys))=_
  rw[QW o o' xs ys,yR,qu];simp
theorem cu3(o o' o1 o2:Bool)(a b:List (List Nat)):bR (.lst o (aA o1 a)) (.lst o' (aA o2 b))=decide (a=b):=QW o1 o2 a b
open Classical in
theorem Cf{α:Type}{sh:Bool}{xs:List D}{aH:List (Str × Nat)}{n:Nat}{g0:iF}{tt:fX}{te:aS}{ao:Dl}{Q:D->Dl->Prop}(l:List α)(e g:α->D)(kp:α->Bool)(jD:xs.map D.sh=l.map e)(inj:∀a b,e a=e b->a=b)
  (hx:∀a∈l,g0 (e a) (gH aH n ao) λbr=>tt br λb i5=>b=kp a/\(kp a=true->te i5 λd _=>d=g a)) (gx:(sh&&aH.all (jA ao))=true\/∀a∈l,kp a=true->(g a).fr=true) (hl:l.length<=sizeLine) (hq:Q (.lst true ((l.filter kp).map g)) ao):uP sh xs aH n g0 tt te ao Q:=by
 have pick:∀{β:Type} (h:α->β) (z:β),∃f:D->β,∀a∈l,f (e a)=h a:=λh z=>⟨λx=>if w:∃a∈l,e a=x then h w.choose else z,λa ha=>by
  have w:∃b∈l,e b=e a:=⟨a,ha,rfl⟩
  show(if w:∃b∈l,e b=e a then h w.choose else z)=h a
  rw[dif_pos w]
  exact congrArg h (inj _ _ w.choose_spec.2)⟩
 obtain⟨f,hf⟩:=pick g .ax
 obtain⟨p,hp⟩:=pick kp false
 refine⟨p,f,λx h=>?_,gx.imp id λh x dj=>?_,?_,?_⟩
 ·rw[jD]at h
  obtain⟨a,ha,rfl⟩:=bB.mp h
  rw[hp a ha,hf a ha]
  exact hx a ha
 ·rw[jD]at dj
  obtain⟨a,ha,rfl⟩:=bB.mp dj
  rw[hp a ha,hf a ha];exact h a ha
 ·have:=congrArg Ei jD
  simp at this
  omega
 ·rw[jD,List.filter_map,cj,show l.filter (p ∘ e)=l.filter kp from List.filter_congr λa ha=>hp a ha,show(l.filter kp).map (f ∘ e)=(l.filter kp).map g from qy λa ha=>hf a (qo.mp ha).1]
  exact hq
theorem QX{o:Bool}{G:List (List Nat)}{i:Nat}{d:D}(h:(fY (aA o G))[i]?=some d):∃hi:i<G.length,d=.tup [.int i,.lst o (aj G[i])]:=by
 unfold fY aA at h
 rw[Ap,cI]at h
 by_cases hi:i<G.length
 ·rw[aO hi]at h
  exact⟨hi,(de h).symm⟩
 ·rw[hJ (by omega)]at h;cases h
theorem Hf(r:List Nat):(fY (aj r)).map D.sh=(aD r.length).map λ(i:Nat)=>D.tup [.int (i:Int),.int ((r.getD i 0:Nat):Int)]:=by
 apply MQ
 intro i
 unfold fY
 rw[cH,cI,Ap,cI,cI]
 by_cases hi:i<r.length
 ·have e:r.getD i 0=r[i]:=by rw[aL,aO hi];rfl
  rw[aO hi,j8 hi]
  show _=some (D.tup [D.int (i:Int),D.int ((r.getD i 0:Nat):Int)])
  rw[e];rfl
 ·rw[hJ (show r.length<=i by omega),hJ (show(aD r.length).length<=i by simpa using hi)];rfl
theorem QY{r:List Nat}(h:∃x∈r,x≠0):((aD r.length).filter λi=>r.getD i 0 != 0)[0]?=some (r.findIdx (· != 0)):=by
 obtain⟨x,hx,h0⟩:=h
 have hl:r.findIdx (· != 0)<r.length:=M5 ⟨x,hx,by simpa using h0⟩
 rw[<-List.head?_eq_getElem?,List.head?_filter,List.find?_range_eq_some]
 refine⟨?_,bY.mpr hl,λj hj=>?_⟩
 ·rw[aL,aO hl]
  exact Yk (w:=hl)
 ·have:=List.not_of_lt_findIdx hj
  rw[aL,aO (by omega)]
  simpa using this
noncomputable def ai(T:List (List Nat)):Nat:=(T.headD []).length
noncomputable def jZ(T:List (List Nat))(j:Nat):Option Nat:=T.findIdx? λr=>r.getD j 0 != 0
noncomputable def g7(m:Bool × Nat)(T:List (List Nat))(l:List Nat)(j:Nat):List (List Nat):=T.map λr=>cO (λx y=>bu m x (gm m (r.getD j 0) y)) r l
noncomputable def mM(m:Bool × Nat)(b:Nat):Nat:=((aD (aa m)).find? λr=>gm m r b==1).getD 0
theorem Cg{m:Bool × Nat}(hm:m∈au){b r:Nat}(hr:r<aa m)(h:gm m r b=1):mM m b=r:=by
 have m0:=bC m hm
 unfold mM
 cases e:(aD (aa m)).find? λr=>gm m r b==1 with
 | none =>
  have:=M6.mp e r (bY.mpr hr)
  simp[h]at this
 | some r' =>
  have h':gm m r' b=1:=by simpa using List.find?_some e
  have l':r'<aa m:=bY.mp (MM e)
  show r'=r
  rw[<-kr hr,<- h',<- fG m0,fq m r r',fG m0,h,kr l']
noncomputable def RT(N w:Nat)(T:List (List Nat)):Prop:=∀r∈T,r.length=w/\AllLt N r
theorem RT.app{N w:Nat}{S T:List (List Nat)}(a:RT N w S)(b:RT N w T):RT N w (S++T):=λr hr=>(cE.mp hr).elim (a r) (b r)
theorem QZ{m:Bool × Nat}(hm:m∈au){w j:Nat}{T:List (List Nat)}{l:List Nat}(h:RT (aa m) w T)(hl:l.length=w):RT (aa m) w (g7 m T l j):=λr hr=>by
 obtain⟨r,h1,rfl⟩:=bB.mp hr
 obtain⟨a,b⟩:=h r h1
 exact⟨by rw[j9,a,hl,wL],Ha λx hx y hy=>(ir hm (b x hx) (bJ hm _ y)).2.1⟩
noncomputable def eP(m:Bool × Nat)(T:List (List Nat))(i p:Nat):List Nat:=(T.getD i []).map (gm m (mM m ((T.getD i []).getD p 0)))
noncomputable def iM(m:Bool × Nat)(s:List (List Nat) × List (List Nat))(p:Nat):List (List Nat) × List (List Nat):=match jZ s.2 p with
 | none=>s
 | some i=>(g7 m s.1 (eP m s.2 i p) p++[eP m s.2 i p],g7 m (s.2.take i++s.2.drop (i+1)) (eP m s.2 i p) p)
noncomputable def j3(m:Bool × Nat)(G:List (List Nat))(k:Nat):List (List Nat) × List (List Nat):=(aD k).foldl (iM m) ([],G)
noncomputable def cu(m:Bool × Nat)(G:List (List Nat)):List (List Nat):=(j3 m G (ai G)).1
theorem Hg(m:Bool × Nat)(G:List (List Nat))(k:Nat):j3 m G (k+1)=iM m (j3 m G k) k:=by
 unfold j3
 rw[Av,EC];rfl
theorem Ci{T:List (List Nat)}{j i:Nat}(h:jZ T j=some i):∃hi:i<T.length,T[i].getD j 0≠0/\T.getD i []=T[i]:=by
 obtain⟨hi,h1,_⟩:=Yl.mp h
 exact⟨hi,by simpa using h1,by rw[aL,aO hi];rfl⟩
structure yU(N w n:Nat)(s:List (List Nat) × List (List Nat)):Prop where
 a:RT N w s.1
 b:RT N w s.2
 l:s.1.length+s.2.length<=n
theorem ci1{m:Bool × Nat}(hm:m∈au){w n p:Nat}{s:List (List Nat) × List (List Nat)}(h:yU (aa m) w n s):yU (aa m) w n (iM m s p):=by
 unfold iM
 split
 ·exact h
 ·rename_i i e
  obtain⟨hi,h1,h2⟩:=Ci e
  have hl:(eP m s.2 i p).length=w:=by unfold eP;rw[bw,h2];exact(h.b _ (dz hi)).1
  have hr:RT (aa m) w [eP m s.2 i p]:=λr hr=>by
   rw[fW]at hr
   refine⟨by rw[hr];exact hl,λx hx=>?_⟩
   rw[hr]at hx
   obtain⟨y,_,rfl⟩:=bB.mp hx
   exact bJ hm _ _
  refine⟨(QZ hm h.a hl).app hr,QZ hm (λr hr=>h.b r ?_) hl,?_⟩
  ·rcases cE.mp hr with hr | hr
   ·exact tJ hr
   ·exact oV hr
  ·have:=h.l
   unfold g7
   rw[dF,bw,bw,dF,hE,ji]
   show s.1.length+1+_<=n
   omega
theorem Cj{m:Bool × Nat}(hm:m∈au){w:Nat}{G:List (List Nat)}(h:RT (aa m) w G):∀k,yU (aa m) w G.length (j3 m G k)
 | 0=>⟨(λr hr=>nomatch hr),h,Af (As _)⟩
 | k+1=>by rw[Hg];exact ci1 hm (Cj hm h k)
theorem cb3(j:Nat)(l:List Nat):decide ((j:Int)∈l.map λ(n:Nat)=>(n:Int))=l.contains j:=by
 rw[qu,decide_eq_true_iff,ED,bB]
 exact⟨λ⟨a,h,e⟩=>(show a=j by omega) ▸ h,λh=>⟨j,h,rfl⟩⟩
theorem cr8{o:Bool}{G:List (List Nat)}{f:List Nat->Nat}{k:Nat}{d:D}(h:(fP (aj (G.map f)) (aA o G))[k]?=some d):∃hk:k<G.length,d=.tup [.int ((f G[k]:Nat):Int),.lst o (aj G[k])]:=by
 unfold fP aA at h
 rw[cH,tS,cI,cI,cI]at h
 by_cases hk:k<G.length
 ·rw[aO hk]at h
  exact⟨hk,(de h).symm⟩
 ·rw[hJ (by omega)]at h;cases h
theorem Q0{α:Type}(a:α->Nat)(b:α->Nat):∀(l:List α) (x:List Nat),(l.foldl (λx z=>x.set (a z) (b z)) x).length=x.length
 | [],_=>rfl
 | z::l,x=>by rw[tG,Q0 a b l,jj]
end L3
namespace L2
open PySem PySem.Spec PyProof.Rows
theorem bV8{M:Model}{A:Around}{E:Value->Shared->Prop}{s:Shared}{scope:Scope}{globals:Addr}{cl:List (Str × Addr)}{qual:Str}{env:Env}{bi:Addr}{Q:Env->Shared->Prop}
  (hQ:Q (newEnv scope s.heap.objs.size globals (cellsFrom (s.heap.objs.size+1) scope.names cl) qual none .none (some env) bi) { s with heap:=pushCells (s.heap.push { cls:=.type "dict",data:=.dict #[] }) scope.names }) :
  wpAny M A (newFunctionEnv scope globals cl [] qual none .none (some env) bi) Q E s:=by
 simp only[newFunctionEnv,Option.isSome_some,if_true]
 refine wpAny_bind (wpAny_alloc (wpAny_bind (wpAny_layCells _ (λname kind cells=>by cases e:kind==EE<;>simp[e]) _ _ _ _ ?_)))
 rw[List.forIn_nil]
 refine wpAny_bind (wpAny_pure (wpAny_pure ?_))
 have z:({ s with heap:=s.heap.push { cls:=.type "dict",data:=.dict #[] } }:Shared).heap.objs.size=s.heap.objs.size+1:=tu ..
 rw[z]
 exact hQ
theorem yV:∀(ns:List (Str × NameKind)) (n:Nat) (acc:List (Str × Addr)) (y:Str) (c:Addr),(cellsFrom n ns acc).lookup y=some c->(n<=c/\(y,EE)∈ns)\/acc.lookup y=some c
 | [],_,_,_,_,h=>.inr h
 | (z,k)::r,n,acc,y,c,h=>by
  unfold cellsFrom at h
  split at h
  ·rename_i hk
   rcases yV r (n+1) _ y c h with⟨h1,h2⟩ | h1
   ·exact .inl ⟨by omega,gE _ h2⟩
   ·rw[gq]at h1
    cases q:y==z with
    | true =>
     rw[q]at h1;cases h1
     exact .inl ⟨bK _,by rw[eq_of_beq q,eq_of_beq hk];exact iO⟩
    | false=>rw[q]at h1;exact .inr h1
  ·rcases yV r n acc y c h with⟨h1,h2⟩ | h1
   ·exact .inl ⟨h1,gE _ h2⟩
   ·exact .inr h1
theorem Hh:∀(ns:List (Str × NameKind)) (n:Nat) (acc:List (Str × Addr)),(∀y z c,acc.lookup y=some c->acc.lookup z=some c->y=z)->(∀y c,acc.lookup y=some c->c<n) ->
  ∀y z c,(cellsFrom n ns acc).lookup y=some c->(cellsFrom n ns acc).lookup z=some c->y=z
 | [],_,_,i,_,y,z,c,h1,h2=>i y z c h1 h2
 | (u,k)::r,n,acc,i,b,y,z,c,h1,h2=>by
  unfold cellsFrom at h1 h2
  split at h1
  ·rw[if_pos (by assumption)]at h2
   refine Hh r (n+1) ((u,n)::acc) (λy z c e1 e2=>?_) (λy c e=>?_) y z c h1 h2
   ·rw[gq]at e1 e2
    cases q1:y==u with
    | true =>
     rw[q1]at e1;cases e1
     cases q2:z==u with
     | true=>rw[eq_of_beq q1,eq_of_beq q2]
     | false=>rw[q2]at e2;exact absurd (b _ _ e2) (g9 _)
    | false =>
     rw[q1]at e1
     cases q2:z==u with
     | true=>rw[q2]at e2;cases e2;exact absurd (b _ _ e1) (g9 _)
     | false=>rw[q2]at e2;exact i y z c e1 e2
   ·rw[gq]at e
    cases q:y==u with
    | true=>rw[q]at e;cases e;exact Ag _
    | false=>rw[q]at e;exact MT (b _ _ e)
  ·rw[if_neg (by assumption)]at h2
   exact Hh r n acc i b y z c h1 h2
theorem Hi:∀(ns:List (Str × NameKind)) (n:Nat) (acc:List (Str × Addr)) (y:Str) (c:Addr),(y,EE)∈ns->(cellsFrom n ns acc).lookup y=some c->n<=c
 | [],_,_,_,_,m,_=>nomatch m
 | (z,k)::r,n,acc,y,c,m,h=>by
  unfold cellsFrom at h
  split at h
  ·rename_i hk
   rcases cA.mp m with e | m
   ·have e1:y=z:=(Prod.mk.inj e).1
    rcases yV r (n+1) _ y c h with⟨h1,_⟩ | h1
    ·exact Aw h1
    ·rw[gq,e1,beq_self_eq_true]at h1
     exact Af (de h1)
   ·exact Aw (Hi r (n+1) _ y c m h)
  ·rename_i hk
   rcases cA.mp m with e | m
   ·cases e;exact absurd rfl hk
   ·exact Hi r n acc y c m h
noncomputable def dS(X:Cx)(scope:Scope)(N:List Str)(cl:List (Str × Addr))(C:Addr)(s:Shared)(H:Hp)(fp:List Addr):Cx :=
 { Bl X scope N (cellsFrom (C+1) scope.names cl) C s H fp with fn:=λy=>scope.names.contains (y,EE) }
section
variable{X:Cx}{scope:Scope}{cl:List (Str × Addr)}
theorem ce8{pins:List (Addr × Obj)}{σ:St}{H:Hp}{s:Shared}{fp:List Addr}{C:Addr}(I:Inv X pins σ H s)(iB:scope.kind=.function)(hC:s.heap.objs.size<=C)
  (gB:∀y c,cl.lookup y=some c->X.env.cells.lookup y=some c) (dl6:∀y,((relabel scope X.env).names.lookup y=some .cell\/(relabel scope X.env).names.lookup y=some .free)->∃c,(cellsFrom (C+1) scope.names cl).lookup y=some c)
  (hf:∀b∈fp,jq X pins H b) (ho:∀b∈fp,∃o,s.heap.get? b=some o/\∀v,o.data≠.cell v) (N:List Str):(dS X scope N cl C s H fp).Ok where
 mod:=I.ok.mod
 kind:=iB
 glob:=I.ok.glob
 blt:=I.ok.blt
 above:=hC
 inj:=Hh scope.names (C+1) cl (λy z c h1 h2=>I.ok.inj y z c (gB _ _ h1) (gB _ _ h2)) λy c e=>by
  obtain⟨v,o,ho,_⟩:=I.cell y c (gB y c e)
  exact Nat.lt_succ_of_le (Ad (dv (cy ho) hC))
 has:=dl6
 qG:=λy c h e=>fU hC (Aw (Hi _ _ _ y c (ED.mp h) e))
 hd:=I.ok.hd
 frames:=I.ok.frames
 wW:=.inl rfl
 wX:=λb hb=>⟨by
  obtain⟨o,e,_⟩:=ho b hb
  exact fS (dv (cy e) hC),λy c e z=>by
  rcases yV _ _ _ y c e with⟨h1,_⟩ | h1
  ·obtain⟨o,e,_⟩:=ho b hb
   rw[z]at h1
   exact absurd (dv (cy e) (fU hC (Aw h1))) (g9 _)
  ·exact(hf b hb).2.2.2.2.1 y c (gB _ _ h1) z⟩
 bs:=I.bs
 kb:=fU I.ok.kb I.sz
 tU:=λb o e hb=>by
  rcases(hf b hb).2.2.2.1 with z | z
  ·exact I.ok.tU b o e z
  ·exact absurd (dv (cy (I.ok.bs b o e).1) z) (g9 _)
 tV:=λb hb z=>(cA.mp (I.AQ b z)).elim (hf b hb).2.1 (hf b hb).2.2.1
 hZ:=I.stack
 ke:=I.Ng
end
theorem Hj:∀(ns:List (Str × NameKind)) (h:Heap) (acc:List (Str × Addr)) (y:Str) (c:Addr),(cellsFrom h.objs.size ns acc).lookup y=some c->(∃o,(pushCells h ns).get? c=some o/\o.data=.cell none)\/acc.lookup y=some c
 | [],_,_,_,_,e=>.inr e
 | (z,k)::r,h,acc,y,c,e=>by
  unfold cellsFrom at e
  unfold pushCells
  split at e
  ·rename_i hk
   rw[if_pos hk]
   rw[<-tu h { cls:=.type "cell",data:=.cell none }]at e
   rcases Hj r _ _ y c e with h1 | h1
   ·exact .inl h1
   ·rw[gq]at h1
    cases q:y==z with
    | true =>
     rw[q]at h1;cases h1
     exact .inl ⟨_,pushCells_keeps _ _ _ _ (iy _ rfl),rfl⟩
    | false=>rw[q]at h1;exact .inr h1
  ·rename_i hk
   rw[if_neg hk]
   exact Hj r h acc y c e
end L2
namespace L2
open PySem PySem.Spec PyProof.Rows
section
variable{X:Cx}{elt iter tg:Expr}{pos:Pos}{ifs:List Expr}{scope:Scope}{cl:List (Str × Addr)}{wi:TI}{tt:TT}{te:TE}{g:TG}
theorem Q1(aH:List (Str × Nat))(bM:List Str)(hc:X.calm=true)(hi:PI X tg iter wi)
  (hg:∀C s H fp,PG (dS X scope (aH.map (·.1)++bM) cl C s H fp) tg g)
  (ht:∀C s H fp,mq (dS X scope (aH.map (·.1)++bM) cl C s H fp) ifs tt) (he:∀C s H fp,PE (dS X scope (aH.map (·.1)++bM) cl C s H fp) elt te)
  (lj:closureFor scope X.env=pure cl) (ly:mr X cl) (lC:∀C:Addr,mw (cellsFrom (C+1) scope.names cl) (relabel scope X.env).names) (lD:∀C:Addr,mn X scope (cellsFrom (C+1) scope.names cl) aH)
  (iB:scope.kind=.function) (lF:∀y∈scope.names,y.2=.local->scope.names.lookup y.1=some .local)
  (hs:∀x,foldedSetIterable iter X.env x=pure x:=by intro _;rfl) {pins:List (Addr × Obj)} {s:Shared} {σ:L2.St} {H:Hp} {Q:VK} {use:Option (Value->Sem Unit)} {cX:Pos} {Rf:Value->Shared->Prop} (I:Inv X pins σ H s) (h:Bn wi aH bM.length g tt te σ H Q)
  (dl7:∀(s':Shared) (H':Hp) (C Da:Addr) (m:Str->Option Value),Inv X pins σ H' s'->s'.heap.Ns C m->H' C=none->C≠X.env.locals->X.eX.heap.objs.size<=C->(∀x c,X.env.cells.lookup x=some c->c≠C)->(∀p∈X.pn++pins,p.1≠C)->C ∉ X.fs->Q (.ref Da) H' ->
   compPost (model X.prog X.w) X.A X.xe use Rf (.ref Da) C (.ok .next) s') :
  wpAny (model X.prog X.w) X.A (comprehension (.ListComp elt [⟨tg,iter,ifs,0⟩] scope pos) scope X.env cX (newList []) false (eval iter X.env) use) Rf X.xe s:=by
 have gB:=ly.all
 refine wpAny_comprehension_free (use:=use) rfl hs lj iB lF (aV (hi pins s σ H _ I h) λv s1 h1=>aV h1 λEV s2 h2=>?_)
 obtain⟨it,fp,tn,J,H2,e,I2,T,xh,f2,q⟩:=h2
 subst e
 refine wpAny_newList ?_
 refine bV8 ?_
 have hD:H2 s2.heap.objs.size=none:=I2.aU.fresh (bK _)
 obtain⟨W,⟨m0,w0⟩,turn⟩:=q s2.heap.objs.size hD
 generalize Hk:s2.heap.push { cls:=.type "list",data:=.seq ([]:List Value).toArray }=g0 at ⊢
 have hCs:g0.objs.size=s2.heap.objs.size+1:=by rw[<-Hk,tu]
 have hDC:s2.heap.objs.size≠g0.objs.size:=by omega
 have hle:s2.heap.objs.size<=g0.objs.size:=by omega
 have tW:∀b o,s2.heap.get? b=some o->b≠g0.objs.size:=λb o e=>fS (dv (cy e) hle)
 obtain⟨g1,Ck⟩:∃g1,g1=pushCells (g0.push { cls:=.type "dict",data:=.dict #[] }) scope.names:=⟨_,rfl⟩
 have ns1:g1.Ns g0.objs.size (λ_=>none):=by rw[Ck];exact(Heap.Ns.new g0 (.type "dict")).keeps (pushCells_keeps _ _)
 have Q2:∀b o,g0.get? b=some o->g1.get? b=some o:=λb o e=>by rw[Ck];exact pushCells_keeps _ _ b o (gQ _ e)
 have old:∀b o,s2.heap.get? b=some o->g1.get? b=some o:=λb o e=>Q2 b o (Hk ▸ gQ _ e)
 rw[<-Ck]
 have hDg:g1.get? s2.heap.objs.size=some { cls:=.type "list",data:=.seq ([]:List Value).toArray }:=Q2 _ _ (Hk ▸ iy _ rfl)
 have Q3:∀b∈fp,∃o,s2.heap.get? b=some o/\∀v,o.data≠.cell v:=T.obj _ _ xh
 have Cm:=ce8 (scope:=scope) (cl:=cl) (C:=g0.objs.size) I2 iB hle gB (lC g0.objs.size).all f2 Q3 (aH.map (·.1)++bM)
 have I4:Inv (dS X scope (aH.map (·.1)++bM) cl g0.objs.size s2 H2 fp) [] (iD aH bM.length σ) (upd H2 s2.heap.objs.size (.lst [])) { s2 with heap:=g1 }:=by
  refine⟨Cm,rfl,I2.bare,Un.laid old (bK _) hD,⟨_,ns1,λi y v h1 h2 h3=>?_⟩,λy c e=>?_,?_,λy c e=>?_,λp hp=>absurd hp (by simp[dS,Bl]),I2.aU.laid old (bK _) ⟨jh _,[],0,.nil,hDg⟩,by simp[iD,dS,Bl]⟩
  ·by_cases Hl:i<aH.length
   case neg =>
    have iX:((aH.map λp=>(σ[p.2]?).getD none)++aQ bM.length none)[i]?=some (some v):=h2
    rw[lV (by simpa using Hl),kF]at iX
    split at iX<;>cases iX
   case pos =>
    have jO:(aH.map (·.1))[i]?=some y:=by
     have z:(aH.map (·.1)++bM)[i]?=some y:=h1
     rwa [oR (by simpa using Hl)]at z
    have iX:(aH.map λp=>(σ[p.2]?).getD none)[i]?=some (some v):=by
     have z:((aH.map λp=>(σ[p.2]?).getD none)++aQ bM.length none)[i]?=some (some v):=h2
     rwa [oR (by simpa using Hl)]at z
    rw[cI]at jO iX
    cases hj:aH[i]? with
    | none=>rw[hj]at jO;cases jO
    | some p =>
     rw[hj]at jO iX
     have ey:p.1=y:=de jO
     have ev:(σ[p.2]?).getD none=some v:=de iX
     obtain⟨hN,hk,Q4,c,e1,e2⟩:=(lD g0.objs.size).at p (tD hj)
     obtain⟨m,hn,hl⟩:=I2.loc
     have es:σ[p.2]?=some (some v):=by
      cases z:σ[p.2]? with
      | none=>rw[z]at ev;cases ev
      | some o=>rw[z]at ev;exact congrArg some ev
     obtain⟨u,ru,lk⟩:=hl p.2 p.1 v hN es (hk.elim (λz=>.inr (.inl z)) λz=>.inr (.inr z))
     refine⟨u,ru,?_⟩
     rcases lk with⟨lk,_⟩ | ⟨_,c',e3,ic⟩
     ·rcases hk with hk | hk
      ·have:=hk.symm.trans lk;cases this
      ·have:=hk.symm.trans lk;cases this
     ·rw[e2]at e3
      cases e3
      subst ey
      obtain⟨oc,jn,GN⟩:=ic
      exact .inr ⟨Q4,c,e1,oc,old _ _ jn,GN⟩
  ·rcases Hj _ _ _ y c (show(cellsFrom (g0.push { cls:=.type "dict",data:=.dict #[] }).objs.size scope.names cl).lookup y=some c by rw[tu];exact e)with h1 | h1
   ·rw[<-Ck]at h1
    exact⟨none,h1⟩
   ·obtain⟨v,o,ho,hd⟩:=I2.cell y c (gB y c h1)
    exact⟨v,o,old _ _ ho,hd⟩
  ·show upd H2 _ _ g0.objs.size=none
   rw[bo (iw hDC)]
   exact I2.aU.fresh hle
  ·rcases yV _ _ _ y c e with⟨h1,_⟩ | h1
   ·rw[bo (Nat.ne_of_gt (mW hle h1))]
    exact I2.aU.fresh (fU hle (Aw h1))
   ·obtain⟨v,o,ho,hd⟩:=I2.cell y c (gB y c h1)
    rw[bo (fS (cy ho))]
    exact I2.jM y c (gB y c h1)
 have fin:∀(s':Shared) (H':Hp) (aR:L2.St),Inv (dS X scope (aH.map (·.1)++bM) cl g0.objs.size s2 H2 fp) [] aR H' s'->Q (.ref s2.heap.objs.size) H' ->
   compPost (model X.prog X.w) X.A X.xe use Rf (.ref s2.heap.objs.size) g0.objs.size (.ok .next) s':=by
  intro s' H' aR I' q'
  obtain⟨m,hn,_⟩:=I'.loc
  have u:=I'.base
  have hC':H' g0.objs.size=none:=I'.free
  have IX:Inv X pins σ H' s':=I2.YK (s':=s') (ch:=fp) I'.os ⟨u.keep,u.slot,u.free,u.there,u.kI,u.ka,u.jl⟩ I'.aU I'.bare λb hb=>by
   obtain⟨_,y1,y2,y3,y4,y5⟩:=f2 b hb
   exact⟨y3,y1,y4,y5⟩
  have Q5:∀b,(∃o,s2.heap.get? b=some o)->b≠g0.objs.size:=λb ⟨o,e⟩=>tW b o e
  refine dl7 s' H' g0.objs.size s2.heap.objs.size m IX hn hC' (λz=>?_) (fU I2.sz hle) (λx c e z=>?_) (λp hp z=>?_) (λz=>?_) q'
  ·have h0:X.env.locals<s2.heap.objs.size:=I2.lt
   rw[<-z]at h0
   exact g9 _ (dv h0 hle)
  ·obtain⟨v,o,ho,_⟩:=I2.cell x c e
   exact Q5 c ⟨o,ho⟩ z
  ·exact Q5 p.1 ⟨_,(I2.pin p hp).1⟩ z
  ·exact I2.Nf hle z
 have Hm:∀(H':Hp),(∀b∈fp,H' b=none)->∀b∈fp,jq (dS X scope (aH.map (·.1)++bM) cl g0.objs.size s2 H2 fp) [] H' b:=λH' hn b hb =>
  ⟨hn b hb,(Cm.wX b hb).1,Cm.tV b hb,.inl hb,(Cm.wX b hb).2,λp hp=>absurd hp (by simp[dS,Bl])⟩
 have loop:codeAny (model X.prog X.w) X.A (.compLoop (.ListComp elt [⟨tg,iter,ifs,0⟩] scope pos) 0 (.ref it) (.ref s2.heap.objs.size) (compEnvC scope (cellsFrom (g0.objs.size+1) scope.names cl) g0.objs.size X.env))
   (compPost (model X.prog X.w) X.A X.xe use Rf (.ref s2.heap.objs.size) g0.objs.size) { s2 with heap:=g1 }:=by
  refine bG1 (λn s'=>∃i acc H',Inv (dS X scope (aH.map (·.1)++bM) cl g0.objs.size s2 H2 fp) [] (iD aH bM.length σ) H' s'/\tn i s'.heap/\(∀b∈fp,H' b=none)/\W i n acc H') ?_ m0
   ⟨0,[],_,I4,T.keep _ _ _ xh λb hb o e=>old b o e,λb hb=>?_,w0⟩
  ·rintro n s' ⟨i,acc,H',I',pd,vK,w'⟩
   obtain⟨FZ,⟨stop,qn⟩ | ⟨go,step⟩⟩:=turn i n acc H' w'
   ·refine aV (T.done (dS X scope (aH.map (·.1)++bM) cl g0.objs.size s2 H2 fp) rfl rfl rfl hc i [] s' _ H' (λ_ _=>False) I' (Hm H' vK) pd stop) λr t1 zz=>?_
    obtain⟨hr,I1⟩:=zz
    subst hr
    exact fin _ _ _ I1 qn
   ·refine aV (T.item (dS X scope (aH.map (·.1)++bM) cl g0.objs.size s2 H2 fp) rfl rfl rfl hc i [] s' _ H' (λ_ _=>False) I' (Hm H' vK) pd go) λr t1 zz=>?_
    obtain⟨u,hr,h4⟩:=zz
    subst hr
    refine aV h4 λ_ t2 zz=>?_
    obtain⟨x5,H5,I5,r5,y5,qQ,xi⟩:=zz
    obtain⟨BA,st6⟩:=step x5 H5 y5
    have EZ:=I5.pinned (Hm H5 xi) (T.obj _ _ qQ)
    refine aV (hg _ _ _ _ _ t2 _ H5 x5 u _ EZ r5 st6) λ_ t3 zz=>?_
    obtain⟨E1,H6,I6,⟨dm3,dm4⟩,st7⟩:=zz
    have back:∀(s7:Shared) (H7:Hp) (Ho:List V) (m7:Nat),Inv (dS X scope (aH.map (·.1)++bM) cl g0.objs.size s2 H2 fp) ([]++xf fp t2.heap) E1 H7 s7->W (i+1) m7 Ho H7 ->
      ∃i acc H',Inv (dS X scope (aH.map (·.1)++bM) cl g0.objs.size s2 H2 fp) [] (iD aH bM.length σ) H' s7/\tn i s7.heap/\(∀b∈fp,H' b=none)/\W i m7 acc H':=λs7 H7 Ho m7 I7 w7 =>
     ⟨i+1,Ho,H7,(I7.xg).weak dm3.symm λj v z=>by
       by_cases hj:j<aH.length
       ·rw[dm4 j hj];exact z
       ·have z':((aH.map λp=>(σ[p.2]?).getD none)++aQ bM.length none)[j]?=some (some v):=z
        rw[lV (by simpa using hj),kF]at z'
        split at z'<;>(cases z'),
      T.keep _ _ _ qQ λb hb o e=>(I7.pin (b,o) (df _ (df _ (Ba hb e)))).1,λb hb=>by
       obtain⟨o,e,d⟩:=T.obj _ _ qQ b hb
       exact(I7.pin (b,o) (df _ (df _ (Ba hb e)))).2.1,w7⟩
    refine aV (ht _ _ _ _ _ t3 _ H6 _ I6 st7) λok t4 zz=>?_
    obtain⟨H7,I7,hD7,q7⟩:=zz
    cases ok with
    | false =>
     obtain⟨m',hm,w7⟩:=(show ∃m',m'<n/\W (i+1) m' acc H7 from q7)
     exact⟨m',hm,back t4 H7 acc m' I7 w7⟩
    | true =>
     refine aV (he _ _ _ _ _ t4 _ H7 _ I7 q7) λy t5 zz=>?_
     obtain⟨v8,H8,I8,r8,hD8,hl8,m',hm,w8⟩:=zz
     exact aV (N1 _ t5 _ H8 (.ref s2.heap.objs.size) [v8] (.ref s2.heap.objs.size) [y] (λ_ H9=>H9=upd H8 s2.heap.objs.size (.lst (acc++[v8]))) I8 rfl (.cons r8 .nil) ⟨_,acc,v8,rfl,rfl,hD8,hl8,rfl⟩) λ_ t6 zz=>by
      obtain⟨_,H9,I9,_,e9⟩:=zz
      subst e9
      exact⟨m',hm,back t6 _ _ m' I9 w8⟩
  ·obtain⟨o,e,_⟩:=Q3 b hb
   rw[bo (fS (cy e))]
   exact(f2 b hb).1
 exact codeAny_compStart_list loop (T.self _ 0 _ _ _ (T.keep _ _ _ xh λb hb o e=>old b o e) loop)
theorem ch4(aH:List (Str × Nat))(bM:List Str)(hc:X.calm=true)(hi:PI X tg iter wi)
  (hg:∀C s H fp,PG (dS X scope (aH.map (·.1)++bM) cl C s H fp) tg g)
  (ht:∀C s H fp,mq (dS X scope (aH.map (·.1)++bM) cl C s H fp) ifs tt) (he:∀C s H fp,PE (dS X scope (aH.map (·.1)++bM) cl C s H fp) elt te)
  (lj:closureFor scope X.env=pure cl) (ly:mr X cl) (lC:∀C:Addr,mw (cellsFrom (C+1) scope.names cl) (relabel scope X.env).names) (lD:∀C:Addr,mn X scope (cellsFrom (C+1) scope.names cl) aH)
  (iB:scope.kind=.function) (lF:∀y∈scope.names,y.2=.local->scope.names.lookup y.1=some .local)
  (hs:∀x,foldedSetIterable iter X.env x=pure x:=by intro _;rfl):PE X (.ListComp elt [⟨tg,iter,ifs,0⟩] scope pos) (Bn wi aH bM.length g tt te):=by
 intro pins s σ H Q I h
 rw[eval_ListComp]
 refine Q1 aH bM hc hi hg ht he lj ly lC lD iB lF hs I h λs' H' C Da m IX hn hC hL h1 h2 h3 h4 q'=>?_
 exact⟨m,hn,λh' sb=>⟨.ref Da,H',IX.turned (t':=s'.toks) (λb o hb e=>sb.extBut b o hb e) hC hL (.inr h1) h2 h3,rfl,q'⟩⟩
theorem Q6{i:Nat}{x:Str}{pos' apos:Pos}(hN:X.N.Nodup)(yW:X.N[i]?=some x)(hx:Loc X.env.scope x)(hf:X.fn x=true\/X.env.scope.names.lookup x=some .local)(aH:List (Str × Nat))(bM:List Str)(hc:X.calm=true)(hi:PI X tg iter wi)
  (hg:∀C s H fp,PG (dS X scope (aH.map (·.1)++bM) cl C s H fp) tg g)
  (ht:∀C s H fp,mq (dS X scope (aH.map (·.1)++bM) cl C s H fp) ifs tt) (he:∀C s H fp,PE (dS X scope (aH.map (·.1)++bM) cl C s H fp) elt te)
  (lj:closureFor scope X.env=pure cl) (ly:mr X cl) (lC:∀C:Addr,mw (cellsFrom (C+1) scope.names cl) (relabel scope X.env).names) (lD:∀C:Addr,mn X scope (cellsFrom (C+1) scope.names cl) aH)
  (iB:scope.kind=.function) (lF:∀y∈scope.names,y.2=.local->scope.names.lookup y.1=some .local)
  (rO:swapsWith (.ListComp elt [⟨tg,iter,ifs,0⟩] scope pos) (some (.Name x pos')) apos.line X.env=pure true) (hs:∀x,foldedSetIterable iter X.env x=pure x:=by intro _;rfl):PS X (.Assign [.Name x pos'] (.ListComp elt [⟨tg,iter,ifs,0⟩] scope pos) apos) (ET (Bn wi aH bM.length g tt te) (AZ i)):=by
 intro pins s σ H D I h
 rw[exec_Assign_Name_used x pos' _ apos rO]
 refine wpAny_bind (wpAny_standAt (wpAny_bind ?_))
 have hh:Bn wi aH bM.length g tt te σ H λv H1=>D.nx (σ.set i (some v)) H1:=h
 show wpAny _ _ (comprehension (.ListComp elt [⟨tg,iter,ifs,0⟩] scope pos) scope X.env (firstIterPos [⟨tg,iter,ifs,0⟩] pos) (newList []) false (eval iter X.env) (some (assign (.Name x pos') X.env)) >>= λ_=>pure ()) _ _ _
 refine wpAny_bind (Q1 (use:=some (assign (.Name x pos') X.env)) (pos:=pos) aH bM hc hi hg ht he lj ly lC lD iB lF hs I hh λs' H' C Da m IX hn hC hL h1 h2 h3 h4 q'=>?_)
 obtain⟨oC,es,ep,hoC,Q7,rest⟩:=id hn
 have IP:Inv X (pins++[(C,oC)]) σ H' s':=⟨IX.ok,IX.os,IX.bare,IX.base,IX.loc,IX.cell,IX.free,IX.jM,λp hp=>by
  rcases cE.mp hp with z | z
  ·exact IX.pin p (fE _ z)
  ·rcases cE.mp z with z | z
   ·exact IX.pin p (df _ z)
   ·obtain rfl:=fW.mp z
    exact⟨hoC,hC,hL,h4,λv w=>by rw[Q7]at w;cases w⟩,IX.aU,IX.len⟩
 refine aV (A6 (X:=X) hN yW hx hf _ s' σ H' (.ref Da) (.ref Da) (λmi H2=>mi=σ.set i (some (.ref Da))/\H2=H') IP rfl ⟨rfl,rfl⟩) λ_ s2 zz=>?_
 obtain⟨mi,H2,I2,e1,e2⟩:=zz
 subst e1 e2
 have pC:=I2.pin (C,oC) (df _ (df _ (by simp)))
 refine⟨m,⟨oC,es,ep,pC.1,Q7,rest⟩,λh' sb=>wpAny_pure (wpAny_pure ?_)⟩
 exact⟨σ.set i (some (.ref Da)),H2,(I2.xg).turned (t':=s2.toks) (λb o hb e=>sb.extBut b o hb e) hC hL (.inr h1) h2 h3,q'⟩
end
end L2
namespace L3
open PySem L2 PySem.Spec PyProof.Rows
section
variable{X:Cx}{elt iter tg:Expr}{pos:Pos}{ifs:List Expr}{scope:Scope}{cl:List (Str × Addr)}{ti:jy}{tt:fX}{te:aS}{g:iF}
theorem du(aH:List (Str × Nat))(bM:List Str)(hc:X.calm=true)(hi:PI X tg iter (lI ti))
  (hg:∀C s H fp,PG (dS X scope (aH.map (·.1)++bM) cl C s H fp) tg (lG aH.length g))
  (ht:∀C s H fp,mq (dS X scope (aH.map (·.1)++bM) cl C s H fp) ifs (lT tt)) (he:∀C s H fp,PE (dS X scope (aH.map (·.1)++bM) cl C s H fp) elt (lE te))
  (lj:closureFor scope X.env=pure cl) (ly:mr X cl:=by repeat' (first | exact trivial | refine⟨rfl,?_⟩)) (lC:∀C:Addr,mw (cellsFrom (C+1) scope.names cl) (relabel scope X.env).names:=by intro _;repeat' (first | exact trivial | refine⟨.inl rfl,?_⟩ | refine⟨.inr (.inl rfl),?_⟩ | refine⟨.inr (.inr ⟨_,rfl⟩),?_⟩)) (lD:∀C:Addr,mn X scope (cellsFrom (C+1) scope.names cl) aH:=by intro _;repeat' (first | exact trivial | refine⟨⟨rfl,.inl rfl,.inl rfl,_,rfl,rfl⟩,?_⟩))
  (iB:scope.kind=.function:=by rfl) (lF:∀y∈scope.names,y.2=.local->scope.names.lookup y.1=some .local:=by decide +kernel)
  (hs:∀x,foldedSetIterable iter X.env x=pure x:=by intro _;rfl):PE X (.ListComp elt [⟨tg,iter,ifs,0⟩] scope pos) (lE (pJ ti aH bM.length g tt te)) :=
 dP (ch4 aH bM hc hi hg ht he lj ly lC lD iB lF hs) λσ H Q zq=>by
 obtain⟨B,F,δ,ts,Qd,c,q,k⟩:=zq
 exact⟨B,F,δ,ts,_,c,q,λsh xs ao J F1 H1 hq f1 h1 c1 nL rA=>by
  obtain⟨p,f,hx,gx,hlen,hQ⟩:=hq
  exact FY c1 nL rA p f hx gx hlen hQ λd ah v F' H' hd hf hs c'=>k d ah v F' H' hd (f1.trans hf) (h1.trans hs) c'⟩
theorem Q8{i:Nat}{x:Str}{pos' apos:Pos}(hN:X.N.Nodup)(yW:X.N[i]?=some x)(hx:L2.Loc X.env.scope x)(aH:List (Str × Nat))(bM:List Str)(hc:X.calm=true)(hi:PI X tg iter (lI ti))
  (hg:∀C s H fp,PG (dS X scope (aH.map (·.1)++bM) cl C s H fp) tg (lG aH.length g))
  (ht:∀C s H fp,mq (dS X scope (aH.map (·.1)++bM) cl C s H fp) ifs (lT tt)) (he:∀C s H fp,PE (dS X scope (aH.map (·.1)++bM) cl C s H fp) elt (lE te))
  (lj:closureFor scope X.env=pure cl) (ly:mr X cl:=by repeat' (first | exact trivial | refine⟨rfl,?_⟩)) (lC:∀C:Addr,mw (cellsFrom (C+1) scope.names cl) (relabel scope X.env).names:=by intro _;repeat' (first | exact trivial | refine⟨.inl rfl,?_⟩ | refine⟨.inr (.inl rfl),?_⟩ | refine⟨.inr (.inr ⟨_,rfl⟩),?_⟩)) (lD:∀C:Addr,mn X scope (cellsFrom (C+1) scope.names cl) aH:=by intro _;repeat' (first | exact trivial | refine⟨⟨rfl,.inl rfl,.inl rfl,_,rfl,rfl⟩,?_⟩))
  (iB:scope.kind=.function:=by rfl) (lF:∀y∈scope.names,y.2=.local->scope.names.lookup y.1=some .local:=by decide +kernel)
  (rO:swapsWith (.ListComp elt [⟨tg,iter,ifs,0⟩] scope pos) (some (.Name x pos')) apos.line X.env=pure true:=by rfl) (hf:X.fn x=true\/X.env.scope.names.lookup x=some .local:=by first | exact .inl rfl | exact .inr rfl)
  (hs:∀x,foldedSetIterable iter X.env x=pure x:=by intro _;rfl):PS X (.Assign [.Name x pos'] (.ListComp elt [⟨tg,iter,ifs,0⟩] scope pos) apos) (lS X (rq i (pJ ti aH bM.length g tt te))) :=
 ki (Q6 hN yW hx hf aH bM hc hi hg ht he lj ly lC lD iB lF rO hs) λEn σ H zq=>by
 obtain⟨B,F,δ,Dd,c,q,k1,k2,k3,k4⟩:=zq
 exact⟨B,F,δ,[],_,c,q,λsh xs ao J F1 H1 hq f1 h1 c1 nL rA=>by
  obtain⟨p,f,hx,gx,hlen,hQ⟩:=hq
  exact FY (Qd:=λd ah=>Dd.nx (ah.set i (some d))) c1 nL rA p f hx gx hlen hQ λd ah v F' H' hd hf hs c'=>k1 _ _ F' H' hd (c'.store i)⟩
end
end L3
namespace L3
open PySem L2 Mf
theorem lo1{m:Bool × Nat}(hm:m∈au):1<aa m:=by have:=(cq hm).lo;omega
inductive Sp(N:Nat)(p q:Nat->Nat->Nat)(S:(Nat->Nat)->Prop):(Nat->Nat)->Prop
 | mem {f:Nat->Nat}:S f->Sp N p q S f
 | zero:Sp N p q S λ_=>0
 | add {f g:Nat->Nat}:Sp N p q S f->Sp N p q S g->Sp N p q S λk=>p (f k) (g k)
 | mul {f:Nat->Nat} (c:Nat):c<N->Sp N p q S f->Sp N p q S λk=>q c (f k)
theorem Sp.trans{N:Nat}{p q:Nat->Nat->Nat}{S S':(Nat->Nat)->Prop}(h:∀f,S f->Sp N p q S' f){f:Nat->Nat}(s:Sp N p q S f):Sp N p q S' f:=by
 induction s with
 | mem a=>exact h _ a
 | zero=>exact .zero
 | add _ _ a b=>exact .add a b
 | mul c hc _ a=>exact .mul c hc a
noncomputable def Gn(T:List (List Nat))(f:Nat->Nat):Prop:=∃r∈T,f=cf r
noncomputable def cS(m:Bool × Nat)(T:List (List Nat))(f:Nat->Nat):Prop:=Sp (aa m) (gp m) (gm m) (Gn T) f
theorem cS.of{m:Bool × Nat}{T:List (List Nat)}{r:List Nat}(h:r∈T):cS m T (cf r):=.mem ⟨r,h,rfl⟩
theorem cb1{m:Bool × Nat}(hm:m∈au){a:Nat}(ha:a<aa m){f f' l:Nat->Nat}(Hq:∀k,f' k<aa m)(hl:∀k,l k<aa m)(h:∀k,gp m (f' k) (gm m a (l k))=f k):∃b,b<aa m/\f'=λk=>gp m (f k) (gm m b (l k)):=by
 have r:=rg hm
 obtain⟨b,hb,e⟩:=r.ng ha
 refine⟨b,hb,funext λk=>?_⟩
 rw[<-h k,r.pa,r.mc a,r.mc b,<- r.dl,e,r.qz,r.z' (Hq k)]
theorem Hr{m:Bool × Nat}(hm:m∈au){r l:List Nat}{w:Nat}(hr:r.length=w)(hl:l.length=w)(a k:Nat):cf (cO (λx y=>bu m x (gm m a y)) r l) k=bu m (cf r k) (gm m a (cf l k)):=by
 by_cases h:k<w
 ·unfold cf
  rw[aL,tS,aO (by omega),aO (by omega),aL,aO (by omega),aL,aO (by omega)]
  rfl
 ·rw[kx (by rw[j9];omega),kx (l:=r) (by omega),kx (l:=l) (by omega),gK m _ (bC m hm),Ce]
theorem Cn{m:Bool × Nat}(hm:m∈au){r l:List Nat}{w a:Nat}(hr:r.length=w)(hl:l.length=w)(ar:AllLt (aa m) r)(k:Nat):gp m (cf (cO (λx y=>bu m x (gm m a y)) r l) k) (gm m a (cf l k))=cf r k:=by
 rw[Hr hm hr hl]
 exact(ir hm (dq hm ar k) (bJ hm _ _)).2.2
theorem Hs{m:Bool × Nat}(hm:m∈au){r l:List Nat}{w:Nat}(hr:r.length=w)(hl:l.length=w)(ar:AllLt (aa m) r)(a k:Nat):cf (cO (λx y=>bu m x (gm m a y)) r l) k<aa m:=by
 rw[Hr hm hr hl]
 exact(ir hm (dq hm ar k) (bJ hm _ _)).2.1
theorem Q9{m:Bool × Nat}(hm:m∈au){w p i:Nat}{T:List (List Nat)}(hT:RT (aa m) w T)(e:jZ T p=some i):∃(g:List Nat) (c:Nat),g∈T/\T.getD i []=g/\g.length=w/\AllLt (aa m) g/\c<aa m/\gm m c (cf g p)=1/\(eP m T i p).length=w/\AllLt (aa m) (eP m T i p)/\(∀k,cf (eP m T i p) k=gm m c (cf g k))/\cf (eP m T i p) p=1/\∀k,gm m (cf g p) (cf (eP m T i p) k)=cf g k:=by
 obtain⟨hi,h1,h2⟩:=Ci e
 obtain⟨a,b⟩:=hT _ (dz hi)
 have l1:1<aa m:=lo1 hm
 obtain⟨c,hc,Co⟩:=QU hm l1 (dq hm b p) h1
 have ec:mM m (cf T[i] p)=c:=Cg hm hc Co
 have el:eP m T i p=T[i].map (gm m c):=by unfold eP;rw[h2,<- ec];rfl
 have ek:∀k,cf (eP m T i p) k=gm m c (cf T[i] k):=λk=>by rw[el];exact cF7 hm _ _ _
 refine⟨T[i],c,dz hi,h2,a,b,hc,Co,by rw[el,bw,a],λx hx=>?_,ek,by rw[ek];exact Co,λk=>?_⟩
 ·rw[el]at hx
  obtain⟨y,_,rfl⟩:=bB.mp hx
  exact bJ hm _ _
 ·rw[ek,<- fG (bC m hm),fq m _ c,Co,og (dq hm b k)]
theorem Ra{m:Bool × Nat}{s:List (List Nat) × List (List Nat)}{p i:Nat}(e:jZ s.2 p=some i):iM m s p=(g7 m s.1 (eP m s.2 i p) p++[eP m s.2 i p],g7 m (s.2.take i++s.2.drop (i+1)) (eP m s.2 i p) p):=by unfold iM;rw[e]
theorem Rb{m:Bool × Nat}{s:List (List Nat) × List (List Nat)}{p:Nat}(e:jZ s.2 p=none):iM m s p=s:=by unfold iM;rw[e]
theorem Cp{α:Type}{T:List α}{i:Nat}{r:α}(h:r∈T.take i++T.drop (i+1)):r∈T:=(cE.mp h).elim tJ oV
theorem cg6{α:Type}{T:List α}{i:Nat}{r:α}(h:r∈T)(hi:i<T.length):r=T[i]\/r∈T.take i++T.drop (i+1):=by
 obtain⟨j,hj,rfl⟩:=iQ h
 rcases Nat.lt_trichotomy j i with h | h | h
 ·exact .inr (cE.mpr (.inl (List.mem_take_iff_getElem.mpr ⟨j,by omega,rfl⟩)))
 ·subst h;exact .inl rfl
 ·exact .inr (cE.mpr (.inr (List.mem_drop_iff_getElem.mpr ⟨j-(i+1),by omega,by congr 1;omega⟩)))
theorem bW1{m:Bool × Nat}(hm:m∈au){w n p:Nat}{s:List (List Nat) × List (List Nat)}(h:yU (aa m) w n s)(f:Nat->Nat):cS m (s.1++s.2) f↔cS m ((iM m s p).1++(iM m s p).2) f:=by
 cases e:jZ s.2 p with
 | none=>rw[Rb e]
 | some i =>
  obtain⟨g,c,g1,g2,g3,g4,c1,c2,l1,l2,l3,l4,l5⟩:=Q9 hm h.b e
  obtain⟨hi,_,hg⟩:=Ci e
  rw[Ra e]
  generalize eP m s.2 i p=l at l1 l2 l3 l4 l5
  have ll:=dq hm l2
  have row:∀{T:List (List Nat)},RT (aa m) w T->∀r'∈g7 m T l p,∃r∈T,∃b,b<aa m/\cf r'=λk=>gp m (cf r k) (gm m b (cf l k)):=λ{T} hT r' bj=>by
   obtain⟨r,hr,rfl⟩:=bB.mp bj
   obtain⟨a1,a2⟩:=hT r hr
   exact⟨r,hr,cb1 hm (dq hm a2 p) (Hs hm a1 l1 a2 _) ll (Cn hm a1 l1 a2)⟩
  have Rc:∀{T:List (List Nat)},RT (aa m) w T->∀r∈T,∃r'∈g7 m T l p,cf r=λk=>gp m (cf r' k) (gm m (cf r p) (cf l k)):=λ{T} hT r hr=>by
   obtain⟨a1,a2⟩:=hT r hr
   exact⟨_,bB.mpr ⟨r,hr,rfl⟩,funext λk=>(Cn hm a1 l1 a2 k).symm⟩
  have hB:RT (aa m) w (s.2.take i++s.2.drop (i+1)):=λr hr=>h.b r (Cp hr)
  constructor
  ·refine Sp.trans ?_
   rintro f ⟨r,hr,rfl⟩
   have hl:cS m ((g7 m s.1 l p++[l])++g7 m (s.2.take i++s.2.drop (i+1)) l p) (cf l):=cS.of (by simp)
   rcases cE.mp hr with hr | hr
   ·obtain⟨r',h1,h2⟩:=Rc h.a r hr
    rw[h2]
    exact .add (cS.of (by simp[h1])) (.mul _ (dq hm (h.a r hr).2 p) hl)
   ·rcases cg6 hr hi with e' | bj
    ·have:cf r=λk=>gm m (cf g p) (cf l k):=funext λk=>by rw[l5 k,e',<- hg,g2]
     rw[this]
     exact .mul _ (dq hm g4 p) hl
    ·obtain⟨r',h1,h2⟩:=Rc hB r bj
     rw[h2]
     exact .add (cS.of (by simp[h1])) (.mul _ (dq hm (h.b r hr).2 p) hl)
  ·refine Sp.trans ?_
   rintro f ⟨r,hr,rfl⟩
   have hl:cS m (s.1++s.2) (cf l):=by
    have:cf l=λk=>gm m c (cf g k):=funext l3
    rw[this]
    exact .mul _ c1 (cS.of (df _ g1))
   rcases cE.mp hr with hr | hr
   ·rcases cE.mp hr with hr | hr
    ·obtain⟨r1,h1,b,hb,h2⟩:=row h.a r hr
     rw[h2]
     exact .add (cS.of (fE _ h1)) (.mul _ hb hl)
    ·rw[fW]at hr
     rw[hr];exact hl
   ·obtain⟨r1,h1,b,hb,h2⟩:=row hB r hr
    rw[h2]
    exact .add (cS.of (df _ (Cp h1))) (.mul _ hb hl)
structure RR(w:Nat)(R:List (List Nat))(H:Nat->Nat):Prop where
 u:∀i j,i<R.length->j<R.length->cf (R.getD i []) (H j)=if i=j then 1 else 0
 z:∀i,i<R.length->∀t,t<H i->cf (R.getD i []) t=0
 i:∀i j,i<j->j<R.length->H i<H j
 l:∀i,i<R.length->H i<w
theorem p9{α β:Type}(f:α->β){l:List α}{i:Nat}(h:i<l.length)(a:α)(b:β):(l.map f).getD i b=f (l.getD i a):=by
 rw[aL,cI,aL,aO h];rfl
theorem ft{α:Type}{l:List α}{i:Nat}(h:i<l.length)(a:α):l.getD i a∈l:=by
 rw[aL,aO h];exact dz h
theorem bK9{m:Bool × Nat}(hm:m∈au){w n p:Nat}{s:List (List Nat) × List (List Nat)}(h:yU (aa m) w n s){H:Nat->Nat}(I:RR p s.1 H)(e2:∀r∈s.2,∀t,t<p->cf r t=0):∃H',RR (p+1) (iM m s p).1 H'/\∀r∈(iM m s p).2,∀t,t<p+1->cf r t=0:=by
 cases e:jZ s.2 p with
 | none =>
  rw[Rb e]
  refine⟨H,⟨I.u,I.z,I.i,λi hi=>MT (I.l i hi)⟩,λr hr t ht=>?_⟩
  rcases EF t p with h1 | h1
  ·exact e2 r hr t h1
  ·have:=Ym.mp e r hr
   have z:r.getD p 0=0:=by simpa using this
   rw[show t=p by omega]
   exact z
 | some i0 =>
  obtain⟨g,c,g1,g2,g3,g4,c1,c2,l1,l2,l3,l4,l5⟩:=Q9 hm h.b e
  rw[Ra e]
  generalize eP m s.2 i0 p=l at l1 l2 l3 l4 l5
  have m0:=bC m hm
  have lz:∀t,t<p->cf l t=0:=λt ht=>by rw[l3,e2 g g1 t ht,gK m _ m0]
  have yX:∀{r:List Nat},r.length=w->AllLt (aa m) r->(∀t,t<p->cf (cO (λx y=>bu m x (gm m (r.getD p 0) y)) r l) t=cf r t)/\cf (cO (λx y=>bu m x (gm m (r.getD p 0) y)) r l) p=0:=λ{r} a1 a2=>by
   constructor
   ·intro t ht
    have:=Cn hm (a:=r.getD p 0) a1 l1 a2 t
    rw[lz t ht,gK m _ m0,iq (Hs hm a1 l1 a2 _ _)]at this
    exact this
   ·rw[Hr hm a1 l1,l4]
    show bu m (r.getD p 0) (gm m (r.getD p 0) 1)=0
    rw[kr (show r.getD p 0<aa m from dq hm a2 p),Ce]
  have nl:(g7 m s.1 l p).length=s.1.length:=by unfold g7;rw[bw]
  have Rh:∀i,i<s.1.length->∃r,s.1.getD i []=r/\r.length=w/\AllLt (aa m) r/\(g7 m s.1 l p++[l]).getD i []=cO (λx y=>bu m x (gm m (r.getD p 0) y)) r l:=λi hi=>by
   refine⟨_,rfl,(h.a _ (ft hi [])).1,(h.a _ (ft hi [])).2,?_⟩
   rw[aL,oR (by omega),<- aL]
   exact p9 _ hi [] []
  have Ri:(g7 m s.1 l p++[l]).getD s.1.length []=l:=by
   rw[aL,lV (by omega),nl,wU];rfl
  have le:(g7 m s.1 l p++[l]).length=s.1.length+1:=by rw[dF,nl];rfl
  refine⟨λi=>if i<s.1.length then H i else p,⟨λi j hi hj=>?_,λi hi t ht=>?_,λi j yY hj=>?_,λi hi=>?_⟩,λr hr t ht=>?_⟩
  ·show cf ((g7 m s.1 l p++[l]).getD i []) _=_
   dsimp only at hi hj ⊢
   rw[le]at hi hj
   by_cases h1:i<s.1.length
   ·obtain⟨r,r1,r2,r3,r4⟩:=Rh i h1
    rw[r4]
    by_cases h2:j<s.1.length
    ·rw[if_pos h2,(yX r2 r3).1 _ (I.l j h2),<- r1]
     exact I.u i j h1 h2
    ·rw[if_neg h2,(yX r2 r3).2,if_neg (by omega)]
   ·have e1:i=s.1.length:=by omega
    rw[e1,Ri]
    by_cases h2:j<s.1.length
    ·rw[if_pos h2,lz _ (I.l j h2),if_neg (by omega)]
    ·rw[if_neg h2,l4,if_pos (by omega)]
  ·dsimp only at hi ht ⊢
   rw[le]at hi
   by_cases h1:i<s.1.length
   ·rw[if_pos h1]at ht
    obtain⟨r,r1,r2,r3,r4⟩:=Rh i h1
    rw[r4,(yX r2 r3).1 _ (by have:=I.l i h1;omega),<- r1]
    exact I.z i h1 t ht
   ·rw[if_neg h1]at ht
    have e1:i=s.1.length:=by omega
    rw[e1,Ri];exact lz t ht
  ·dsimp only at hj ⊢
   rw[le]at hj
   rw[if_pos (by omega)]
   by_cases h2:j<s.1.length
   ·rw[if_pos h2];exact I.i i j yY h2
   ·rw[if_neg h2];exact I.l i (by omega)
  ·dsimp only at hi ⊢
   rw[le]at hi
   split
   ·have:=I.l i (by omega);omega
   ·omega
  ·obtain⟨r1,vW,rfl⟩:=bB.mp hr
   obtain⟨a1,a2⟩:=h.b r1 (Cp vW)
   rcases EF t p with h1 | h1
   ·rw[(yX a1 a2).1 t h1];exact e2 _ (Cp vW) t h1
   ·rw[show t=p by omega];exact(yX a1 a2).2
theorem Rj{m:Bool × Nat}(hm:m∈au){w:Nat}{G:List (List Nat)}(h:RT (aa m) w G):∀k,(∃H,RR k (j3 m G k).1 H/\∀r∈(j3 m G k).2,∀t,t<k->cf r t=0)/\∀f,cS m G f↔cS m ((j3 m G k).1++(j3 m G k).2) f
 | 0=>⟨⟨λ_=>0,⟨(λ_ _ h=>nomatch h),(λ_ h=>nomatch h),(λ_ _ _ h=>nomatch h),(λ_ h=>nomatch h)⟩,λr _ t ht=>nomatch ht⟩,λf=>.rfl⟩
 | k+1=>by
  obtain⟨⟨H,h1,h2⟩,h3⟩:=Rj hm h k
  have D:=Cj hm h k
  rw[Hg]
  exact⟨bK9 hm D h1 h2,λf=>(h3 f).trans (bW1 hm D f)⟩
theorem mN{m:Bool × Nat}(hm:m∈au){G:List (List Nat)}(h:RT (aa m) (ai G) G):(∃H,RR (ai G) (cu m G) H)/\RT (aa m) (ai G) (cu m G)/\(cu m G).length<=G.length/\∀f,cS m G f↔cS m (cu m G) f:=by
 obtain⟨⟨H,h1,h2⟩,h3⟩:=Rj hm h (ai G)
 have D:=Cj hm h (ai G)
 refine⟨⟨H,h1⟩,D.a,by have:=D.l;show(j3 m G (ai G)).1.length<=_;omega,λf=>(h3 f).trans ⟨Sp.trans ?_,Sp.trans ?_⟩⟩
 ·rintro f ⟨r,hr,rfl⟩
  rcases cE.mp hr with hr | hr
  ·exact cS.of hr
  ·have:cf r=λ_=>0:=funext λt=>by
    rcases EF t (ai G)with h4 | h4
    ·exact h2 r hr t h4
    ·exact kx (by rw[(D.b r hr).1];exact h4)
   rw[this];exact .zero
 ·rintro f ⟨r,hr,rfl⟩
  exact cS.of (fE _ hr)
theorem sD{N:Nat}{p q:Nat->Nat->Nat}(r:Rg N p q){f:Nat->Nat}{j0:Nat}(hf:f j0<N):∀{n:Nat},j0<n->(∀j,j<n->j≠j0->f j=0)->sm p n f=f j0
 | 0,h,_=>nomatch h
 | n+1,h,hz=>by
  rw[sm]
  by_cases e:j0=n
  ·subst e
   rw[gL r λj hj=>hz j (by omega) (by omega),r.z hf]
  ·rw[sD r hf (by omega) λj hj=>hz j (by omega),hz n (by omega) (by omega),r.z' hf]
theorem cS.sum{m:Bool × Nat}(hm:m∈au){w:Nat}{R:List (List Nat)}(hR:RT (aa m) w R){f:Nat->Nat}(s:cS m R f):∃c:Nat->Nat,(∀i,c i<aa m)/\∀k,f k=sm (gp m) R.length λi=>gm m (c i) (cf (R.getD i []) k):=by
 have r:=rg hm
 have m0:=bC m hm
 have l1:=lo1 hm
 induction s with
 | mem a =>
  obtain⟨x,hx,rfl⟩:=a
  obtain⟨i,hi,rfl⟩:=iQ hx
  have ei:R[i]=R.getD i []:=by rw[aL,aO hi];rfl
  refine⟨λj=>if j=i then 1 else 0,λj=>by dsimp only;split<;>omega,λk=>?_⟩
  refine((sD r (f:=λa=>gm m (if a=i then 1 else 0) (cf (R.getD a []) k)) (j0:=i) (bJ hm _ _) hi λj hj hn=>?_).trans ?_).symm
  ·rw[if_neg hn,dJ m _ m0]
  ·rw[if_pos rfl,ei]
   exact og (dq hm (hR _ (ft hi [])).2 k)
 | zero=>exact⟨λ_=>0,λ_=>r.pos,λk=>(gL r λj _=>dJ m _ m0).symm⟩
 | add _ _ a b =>
  obtain⟨c,hc,a⟩:=a
  obtain⟨d,hd,b⟩:=b
  refine⟨λi=>gp m (c i) (d i),λi=>r.lp (hc i) (hd i),λk=>?_⟩
  dsimp only
  rw[a k,b k,<- k9 r]
  refine cR λj _=>?_
  rw[r.mc (gp m _ _),r.dl,r.mc _ (cf _ k),r.mc _ (cf _ k)]
 | mul e he _ a =>
  obtain⟨c,hc,a⟩:=a
  refine⟨λi=>gm m e (c i),λi=>bJ hm _ _,λk=>?_⟩
  dsimp only
  rw[a k,<- oq r]
  refine cR λj _=>?_
  rw[fG m0]
theorem cS.ann{m:Bool × Nat}(hm:m∈au){R:List (List Nat)}{n:Nat}{y:Nat->Nat}(h:∀x∈R,sm (gp m) n (λj=>gm m (cf x j) (y j))=0){f:Nat->Nat}(s:cS m R f):sm (gp m) n (λj=>gm m (f j) (y j))=0:=by
 have r:=rg hm
 have m0:=bC m hm
 induction s with
 | mem a=>obtain⟨x,hx,rfl⟩:=a;exact h x hx
 | zero=>exact gL r λj _=>dJ m _ m0
 | @add f g _ _ a b =>
  rw[cR (g:=λj=>gp m (gm m (f j) (y j)) (gm m (g j) (y j))) λj _=>by dsimp only;rw[r.mc (gp m _ _),r.dl,r.mc (y j),r.mc (y j)],k9 r,a,b,r.z r.pos]
 | @mul f e he _ a =>
  rw[cR (g:=λj=>gm m e (gm m (f j) (y j))) λj _=>fG m0 _ _ _,oq r,a,r.qz]
theorem RR.Ht{m:Bool × Nat}(hm:m∈au){w:Nat}{R:List (List Nat)}{H:Nat->Nat}(hR:RT (aa m) w R)(I:RR w R H){i:Nat}(hi:i<R.length):(R.getD i []).findIdx (· != 0)=H i/\∃x∈R.getD i [],x≠0:=by
 have a:=(hR _ (ft hi [])).1
 have l:=I.l i hi
 have u:=I.u i i hi hi
 rw[if_pos rfl]at u
 have eu:(R.getD i [])[H i]'(by omega)=1:=by
  unfold cf at u
  rw[aL (l:=R.getD i []),aO (by omega)]at u
  exact u
 refine⟨?_,_,dz (show H i<(R.getD i []).length by omega),by rw[eu];decide⟩
 rw[List.findIdx_eq (by omega)]
 refine⟨by rw[eu];rfl,λj hj=>?_⟩
 have z:=I.z i hi j hj
 unfold cf at z
 rw[aL (l:=R.getD i []),aO (by omega)]at z
 simpa using z
theorem yZ{a b:List Nat}{w:Nat}(ha:a.length=w)(hb:b.length=w)(h:∀k,k<w->cf a k=cf b k):a=b:=by
 refine EA (ha.trans hb.symm) λk h1 h2=>?_
 have:=h k (by omega)
 unfold cf at this
 rw[aL,aL,aO h1,aO h2]at this
 exact this
theorem y6(f:Nat->Nat){w k:Nat}(h:k<w):cf ((aD w).map f) k=f k:=by
 unfold cf
 rw[aL,cI,j8 h];rfl
theorem ot(m:Bool × Nat){xs ys:List Nat}(h:xs.length=ys.length):gd m xs ys=sm (gp m) xs.length λj=>gm m (cf xs j) (cf ys j):=by
 unfold gd
 rw[cg5,j9,h,wL]
 refine cR λj hj=>?_
 unfold cf
 rw[aL,tS,aO (by omega),aO (by omega),aL,aO (by omega),aL,aO (by omega)]
 rfl
noncomputable def ou(m:Bool × Nat)(xs:List Nat)(T:List (List Nat))(w:Nat):List Nat:=(aD w).map λk=>gd m xs (T.map λr=>r.getD k 0)
theorem Rk{T:List (List Nat)}(k i:Nat):cf (T.map λr=>r.getD k 0) i=cf (T.getD i []) k:=by
 by_cases h:i<T.length
 ·exact p9 (λr:List Nat=>r.getD k 0) h [] 0
 ·rw[kx (by rw[bw];omega),aL,hJ (by omega)];rfl
theorem Rl(m:Bool × Nat)(xs:List Nat)(T:List (List Nat))(w:Nat):(ou m xs T w).length=w:=by unfold ou;rw[bw,bL]
theorem y7(m:Bool × Nat){xs:List Nat}{T:List (List Nat)}{w k:Nat}(h:xs.length=T.length)(hk:k<w):cf (ou m xs T w) k=sm (gp m) T.length λi=>gm m (cf xs i) (cf (T.getD i []) k):=by
 unfold ou
 rw[y6 _ hk,ot m (by rw[bw,h]),h]
 exact cR λj _=>by rw[Rk]
theorem cG5{m:Bool × Nat}(hm:m∈au){xs ys:List Nat}(h:xs.length=ys.length):gd m xs ys<aa m:=by
 rw[ot m h];exact mL (rg hm) λj _=>bJ hm _ _
theorem cB0{m:Bool × Nat}(hm:m∈au){xs:List Nat}{T:List (List Nat)}(w:Nat)(h:xs.length=T.length):AllLt (aa m) (ou m xs T w):=λx hx=>by
 obtain⟨k,_,rfl⟩:=bB.mp hx
 exact cG5 hm (by rw[bw,h])
noncomputable def bc(r:List Nat):Nat:=r.findIdx (· != 0)
theorem Cq{α:Type}(a b:α->Nat){j:Nat}:∀(l:List α) (x:List Nat),(∀z∈l,a z≠j)->cf (l.foldl (λx z=>x.set (a z) (b z)) x) j=cf x j
 | [],_,_=>rfl
 | z::l,x,h=>by
  rw[tG,Cq a b l _ λy hy=>h y (gE _ hy)]
  unfold cf
  rw[aL,s8 (h z iO),<- aL]
theorem Rm{α:Type}(a b:α->Nat):∀(l:List α) (x:List Nat),l.Pairwise (λy z=>a y≠a z)->∀z∈l,a z<x.length->cf (l.foldl (λx z=>x.set (a z) (b z)) x) (a z)=b z
 | [],_,_,_,h,_=>nomatch h
 | y::l,x,hp,z,hz,hl=>by
  rw[tG]
  rw[Az]at hp
  rcases cA.mp hz with rfl | hz
  ·rw[Cq a b l _ λy hy=>iw (hp.1 y hy)]
   unfold cf
   rw[aL,Eh hl];rfl
  ·exact Rm a b l _ hp.2 z hz (by rw[jj];exact hl)
theorem Rn{α:Type}(a b:α->Nat):∀(l:List α) (x:List Nat),(l.foldl (λx z=>x.set (a z) (b z)) x).length=x.length
 | [],_=>rfl
 | z::l,x=>by rw[tG,Rn a b l,jj]
noncomputable def eQ(T:List (List Nat)):List (List Nat):=(aD (ai T)).map λj=>T.map λr=>r.getD j 0
theorem Ro{T:List (List Nat)}{a:Nat}(h:a<ai T):(eQ T).getD a []=T.map λr=>r.getD a 0:=by
 unfold eQ
 rw[aL,cI,j8 h];rfl
theorem Hu{N:Nat}{T:List (List Nat)}(h0:0<N)(hw:0<ai T)(hT:RT N (ai T) T):(eQ T).length=ai T/\ai (eQ T)=T.length/\RT N T.length (eQ T):=by
 have a:(eQ T).length=ai T:=by unfold eQ;rw[bw,bL]
 have c:RT N T.length (eQ T):=λr hr=>by
  obtain⟨j,_,rfl⟩:=bB.mp hr
  refine⟨bw _,λx hx=>?_⟩
  obtain⟨y,hy,rfl⟩:=bB.mp hx
  exact(hT y hy).2.getD h0 j
 refine⟨a,?_,c⟩
 have:=Ro hw
 have e:ai (eQ T)=((eQ T).getD 0 []).length:=by
  unfold ai
  cases eQ T<;>rfl
 rw[e,this,bw]
end L3
namespace L3
open PySem L2 Mf
noncomputable def gg(T:List (List Nat))(w:Nat):List Nat:=(aD w).filter λj=>!(T.map bc).contains j
noncomputable def g8(m:Bool × Nat)(T:List (List Nat))(w f:Nat):List Nat:=(((T.map bc).zip T).foldl (λx z=>x.set z.1 (bu m 0 (z.2.getD f 0))) ((aQ w 0).set f 1))
noncomputable def i8(m:Bool × Nat)(T:List (List Nat))(w:Nat):List (List Nat):=(gg T w).map (g8 m T w)
theorem RR.heads{m:Bool × Nat}(hm:m∈au){w:Nat}{R:List (List Nat)}{H:Nat->Nat}(hR:RT (aa m) w R)(I:RR w R H):R.map bc=(aD R.length).map H:=by
 refine EA (by rw[bw,bw,bL]) λi h1 h2=>?_
 rw[bw]at h1
 rw[wR,wR,M7,<- (I.Ht hm hR h1).1,aL,aO h1];rfl
theorem RR.mem{m:Bool × Nat}(hm:m∈au){w:Nat}{R:List (List Nat)}{H:Nat->Nat}(hR:RT (aa m) w R)(I:RR w R H)(j:Nat):j∈R.map bc↔∃i,i<R.length/\H i=j:=by
 rw[I.heads hm hR,bB]
 exact⟨λ⟨i,a,b⟩=>⟨i,bY.mp a,b⟩,λ⟨i,a,b⟩=>⟨i,bY.mpr a,b⟩⟩
theorem RR.free{m:Bool × Nat}(hm:m∈au){w:Nat}{R:List (List Nat)}{H:Nat->Nat}(hR:RT (aa m) w R)(I:RR w R H)(j:Nat):j∈gg R w↔j<w/\∀i,i<R.length->H i≠j:=by
 unfold gg
 rw[qo,bY,Bool.not_eq_true',<- Bool.not_eq_true,ED,I.mem hm hR]
 exact and_congr_right λ_=>⟨λh i a b=>h ⟨i,a,b⟩,λh ⟨i,a,b⟩=>h i a b⟩
theorem RR.Hv{m:Bool × Nat}(hm:m∈au){w:Nat}{R:List (List Nat)}{H:Nat->Nat}(hR:RT (aa m) w R)(I:RR w R H):(gg R w).length+R.length=w:=by
 have nd:(R.map bc).Nodup:=by
  rw[I.heads hm hR]
  unfold List.Nodup
  rw[EG]
  intro i j hi hj yY
  rw[bw,bL]at hi hj
  rw[wR,wR,M7,M7]
  have:=I.i i j yY hj
  omega
 have pe:((aD w).filter λj=>(R.map bc).contains j).Perm (R.map bc):=by
  refine(List.perm_ext_iff_of_nodup (Yn _ EH) nd).mpr λj=>?_
  rw[qo,ED,bY]
  refine⟨λh=>h.2,λh=>⟨?_,h⟩⟩
  obtain⟨i,hi,rfl⟩:=(I.mem hm hR j).mp h
  exact I.l i hi
 have l1:=pe.length_eq
 rw[bw]at l1
 have l2:=List.length_eq_countP_add_countP (λj=>(R.map bc).contains j) (l:=aD w)
 rw[bL,Yo,Yo,l1]at l2
 unfold gg
 have e:((aD w).filter λa=>decide ¬(R.map bc).contains a=true)=(aD w).filter λj=>!(R.map bc).contains j:=List.filter_congr λx _=>by
  cases(R.map bc).contains x<;>rfl
 rw[e]at l2
 omega
theorem Cr{m:Bool × Nat}(hm:m∈au){w f:Nat}{R:List (List Nat)}{H:Nat->Nat}(hR:RT (aa m) w R)(I:RR w R H)(hf:f∈gg R w):(g8 m R w f).length=w/\AllLt (aa m) (g8 m R w f)/\cf (g8 m R w f) f=1/\(∀i,i<R.length->cf (g8 m R w f) (H i)=bu m 0 (cf (R.getD i []) f))/\∀j,j≠f->(∀i,i<R.length->H i≠j)->cf (g8 m R w f) j=0:=by
 obtain⟨f1,f2⟩:=(I.free hm hR f).mp hf
 have l1:=lo1 hm
 have zl:((R.map bc).zip R).length=R.length:=by rw[EB,bw,wL]
 have zg:∀i (h:i<R.length),((R.map bc).zip R)[i]'(by omega)=(H i,R.getD i []):=λi h=>by
  rw[List.getElem_zip,wR]
  have e:R.getD i []=R[i]:=by rw[aL,aO h];rfl
  have:=(I.Ht hm hR h).1
  rw[e]at this ⊢
  exact Prod.ext this rfl
 have zm:∀z∈(R.map bc).zip R,∃i,i<R.length/\z=(H i,R.getD i []):=λz hz=>by
  obtain⟨i,hi,rfl⟩:=iQ hz
  exact⟨i,by omega,zg i (by omega)⟩
 have mz:∀i,i<R.length->(H i,R.getD i [])∈(R.map bc).zip R:=λi h=>by
  rw[<-zg i h];exact dz _
 have bd:∀z∈(R.map bc).zip R,bu m 0 (z.2.getD f 0)<aa m:=λz hz=>by
  obtain⟨i,hi,rfl⟩:=zm z hz
  exact(ir hm (by omega) (dq hm (hR _ (ft hi [])).2 f)).2.1
 refine⟨?_,?_,?_,λi hi=>?_,λj hj hj2=>?_⟩
 ·unfold g8
  rw[Rn (λz:Nat × List Nat=>z.1) (λz=>bu m 0 (z.2.getD f 0)),jj,dG]
 ·have key:∀(l:List (Nat × List Nat)) (x:List Nat),(∀z∈l,bu m 0 (z.2.getD f 0)<aa m)->AllLt (aa m) x->AllLt (aa m) (l.foldl (λx z=>x.set z.1 (bu m 0 (z.2.getD f 0))) x):=by
   intro l
   induction l with
   | nil=>exact λx _ h=>h
   | cons z l ih =>
    intro x hz h
    rw[tG]
    refine ih _ (λy hy=>hz y (gE _ hy)) λy hy=>?_
    rcases Aq hy with h1 | h1
    ·exact h y h1
    ·rw[h1];exact hz z iO
  refine key _ _ bd λx hx=>?_
  rcases Aq hx with h1 | h1
  ·rw[(m4.mp h1).2];omega
  ·omega
 ·unfold g8
  rw[Cq (λz:Nat × List Nat=>z.1) (λz=>bu m 0 (z.2.getD f 0)) _ _ λz hz=>?_]
  ·unfold cf
   rw[aL,Eh (by rw[dG];exact f1)];rfl
  ·obtain⟨i,hi,rfl⟩:=zm z hz
   exact f2 i hi
 ·have hp:((R.map bc).zip R).Pairwise (λy z:Nat × List Nat=>y.1≠z.1):=by
   rw[EG]
   intro i j hi hj yY
   rw[zg i (by omega),zg j (by omega)]
   have:=I.i i j yY (by omega)
   show H i≠H j
   omega
  exact Rm (λz:Nat × List Nat=>z.1) (λz=>bu m 0 (z.2.getD f 0)) _ _ hp _ (mz i hi) (by rw[jj,dG];exact I.l i hi)
 ·unfold g8
  rw[Cq (λz:Nat × List Nat=>z.1) (λz=>bu m 0 (z.2.getD f 0)) _ _ λz hz=>?_]
  ·unfold cf
   rw[aL,s8 (iw hj),kF]
   split<;>rfl
  ·obtain⟨i,hi,rfl⟩:=zm z hz
   exact hj2 i hi
theorem Hw{N:Nat}{p q:Nat->Nat->Nat}(r:Rg N p q){f:Nat->Nat}{a b n:Nat}(ha:a<n)(hb:b<n)(hn:a≠b)(fa:f a<N)(fb:f b<N)(hz:∀j,j<n->j≠a->j≠b->f j=0):sm p n f=p (f a) (f b):=by
 have h1:=sD r (f:=λj=>if j=a then f a else 0) (j0:=a) (n:=n) (by rw[if_pos rfl];exact fa) ha λj _ h=>if_neg h
 have h2:=sD r (f:=λj=>if j=b then f b else 0) (j0:=b) (n:=n) (by rw[if_pos rfl];exact fb) hb λj _ h=>if_neg h
 rw[if_pos rfl]at h1 h2
 rw[<-h1,<- h2,<- k9 r]
 refine cR λj hj=>?_
 by_cases ja:j=a
 ·rw[if_pos ja,if_neg (by omega),r.z' fa,ja]
 ·by_cases jb:j=b
  ·rw[if_neg ja,if_pos jb,r.z fb,jb]
  ·rw[if_neg ja,if_neg jb,hz j hj ja jb,r.z r.pos]
noncomputable def dt(m:Bool × Nat)(w:Nat)(x y:Nat->Nat):Nat:=sm (gp m) w λj=>gm m (x j) (y j)
theorem cD6{m:Bool × Nat}(hm:m∈au)(w:Nat)(x y z:Nat->Nat):dt m w x (λk=>gp m (y k) (z k))=gp m (dt m w x y) (dt m w x z):=by
 have r:=rg hm
 unfold dt
 rw[<-k9 r]
 exact cR λj _=>r.dl _ _ _
theorem cJ9{m:Bool × Nat}(hm:m∈au)(w c:Nat)(x y:Nat->Nat):dt m w x (λk=>gm m c (y k))=gm m c (dt m w x y):=by
 have r:=rg hm
 have m0:=bC m hm
 unfold dt
 rw[<-oq r]
 exact cR λj _=>by rw[<-fG m0,fq m (x j),fG m0]
theorem Rp{m:Bool × Nat}(hm:m∈au)(w:Nat)(x:Nat->Nat)(c:Nat->Nat)(F:Nat->Nat->Nat):∀n,dt m w x (λk=>sm (gp m) n λi=>gm m (c i) (F i k))=sm (gp m) n λi=>gm m (c i) (dt m w x (F i))
 | 0=>gL (rg hm) λj _=>(rg hm).qz _
 | n+1=>by
  rw[sm,<- Rp hm w x c F n,<- cJ9 hm,<- cD6 hm];rfl
theorem Rq{m:Bool × Nat}(hm:m∈au){w f:Nat}{R:List (List Nat)}{H:Nat->Nat}(hR:RT (aa m) w R)(I:RR w R H)(hf:f∈gg R w){i:Nat}(hi:i<R.length):dt m w (cf (R.getD i [])) (cf (g8 m R w f))=0:=by
 have r:=rg hm
 obtain⟨f1,f2⟩:=(I.free hm hR f).mp hf
 obtain⟨k1,k2,k3,k4,k5⟩:=Cr hm hR I hf
 have il:=dq hm (hR _ (ft hi [])).2
 have g:=ir hm (a:=0) r.pos (il f)
 unfold dt
 rw[Hw r (f:=λj=>gm m (cf (R.getD i []) j) (cf (g8 m R w f) j)) (a:=H i) (b:=f) (I.l i hi) f1 (f2 i hi) (bJ hm _ _) (bJ hm _ _) λj hj ja jb=>?_]
 ·rw[k3,k4 i hi,I.u i i hi hi,if_pos rfl,og g.2.1,kr (il f)]
  exact g.2.2
 ·by_cases c:∃i',i'<R.length/\H i'=j
  ·obtain⟨i',h1,rfl⟩:=c
   rw[I.u i i' hi h1,if_neg (λz:i=i'=>ja (by rw[z])),dJ m _ (bC m hm)]
  ·rw[k5 j jb λi' h1 h2=>c ⟨i',h1,h2⟩,r.qz]
theorem cS.dt{m:Bool × Nat}(hm:m∈au){R:List (List Nat)}{n:Nat}{y:Nat->Nat}(h:∀i,i<R.length->dt m n (cf (R.getD i [])) y=0){f:Nat->Nat}(s:cS m R f):dt m n f y=0:=by
 refine s.ann hm λx hx=>?_
 obtain⟨i,hi,rfl⟩:=iQ hx
 have:=h i hi
 rw[aL,aO hi]at this
 exact this
theorem y8{N n:Nat}{M:List (List Nat)}(h:RT N n M)(h0:M≠[]):ai M=n:=by
 cases M with
 | nil=>exact absurd rfl h0
 | cons g M=>exact(h g iO).1
theorem Rt{m:Bool × Nat}(hm:m∈au){n:Nat}{M:List (List Nat)}(h:RT (aa m) n M)(hl:M.length<n):∃(x:Nat->Nat) (f:Nat),f<n/\(∀k,x k<aa m)/\x f=1/\∀i,i<M.length->dt m n (cf (M.getD i [])) x=0:=by
 by_cases h0:M=[]
 ·subst h0
  exact⟨λ_=>1,0,hl,λ_=>lo1 hm,rfl,λi hi=>nomatch hi⟩
 ·have hw:=y8 h h0
  obtain⟨⟨H,I⟩,iR,il,sp⟩:=mN hm (G:=M) (by rw[hw];exact h)
  rw[hw]at I iR
  have fl:=I.Hv hm iR
  have f0:0<(gg (cu m M) n).length:=by omega
  have hf:=ft f0 0
  obtain⟨k1,k2,k3,k4,k5⟩:=Cr hm iR I hf
  refine⟨cf (g8 m (cu m M) n ((gg (cu m M) n).getD 0 0)),_,((I.free hm iR _).mp hf).1,dq hm k2,k3,λi hi=>?_⟩
  exact cS.dt hm (λi' gW=>Rq hm iR I hf gW) ((sp _).mp (cS.of (ft hi [])))
theorem RR.Ct{m:Bool × Nat}(hm:m∈au){w v:Nat}{S R:List (List Nat)}{H:Nat->Nat}(hS:RT (aa m) w S)(I:RR w S H)(hR:RT (aa m) v R)(h:∀i,i<S.length->cS m R (cf (S.getD i []))):S.length<=R.length:=by
 have r:=rg hm
 refine MF λhl=>?_
 have hc:∀i,∃c:Nat->Nat,i<S.length->(∀j,c j<aa m)/\∀k,cf (S.getD i []) k=sm (gp m) R.length λj=>gm m (c j) (cf (R.getD j []) k):=λi=>by
  by_cases hi:i<S.length
  ·obtain⟨c,a,b⟩:=(h i hi).sum hm hR
   exact⟨c,λ_=>⟨a,b⟩⟩
  ·exact⟨λ_=>0,λz=>absurd z hi⟩
 obtain⟨C,hC⟩:=Classical.axiomOfChoice hc
 have cl:∀i,i<S.length->∀j,C i j<aa m:=λi hi=>(hC i hi).1
 obtain⟨x,f,f1,x1,x2,x3⟩:=Rt hm (n:=S.length) (M:=(aD R.length).map λj=>(aD S.length).map λi=>C i j) (λy hy=>by
  obtain⟨j,_,rfl⟩:=bB.mp hy
  refine⟨by rw[bw,bL],λz hz=>?_⟩
  obtain⟨i,hi,rfl⟩:=bB.mp hz
  exact cl i (bY.mp hi) j) (by rw[bw,bL];exact hl)
 rw[bw,bL]at x3
 have x4:∀j,j<R.length->sm (gp m) S.length (λi=>gm m (C i j) (x i))=0:=λj hj=>by
  rw[<-x3 j hj]
  refine cR λi hi=>?_
  rw[p9 (λj=>(aD S.length).map λi=>C i j) (by rw[bL];exact hj) 0 [],y6 _ hi,aL,j8 hj];rfl
 have x5:∀k,sm (gp m) S.length (λi=>gm m (x i) (cf (S.getD i []) k))=0:=λk=>by
  rw[cR (g:=λi=>sm (gp m) R.length λj=>gm m (gm m (C i j) (x i)) (cf (R.getD j []) k)) λi hi=>?_,QS r,gL r λj hj=>?_]
  ·rw[cR (g:=λi=>gm m (cf (R.getD j []) k) (gm m (C i j) (x i))) λi hi=>fq m _ _,oq r,x4 j hj,r.qz]
  ·rw[(hC i hi).2 k,<- oq r]
   exact cR λj _=>by rw[<-fG (bC m hm),fq m (x i)]
 have:=x5 (H f)
 rw[sD r (f:=λi=>gm m (x i) (cf (S.getD i []) (H f))) (bJ hm _ _) f1 λj hj hn=>by rw[I.u j f hj f1,if_neg hn,r.qz],I.u f f f1 f1,if_pos rfl,x2,og (lo1 hm)]at this
 omega
theorem ct5{m:Bool × Nat}(hm:m∈au){v:Nat}{G R:List (List Nat)}(hG:RT (aa m) (ai G) G)(hR:RT (aa m) v R)(h:∀i,i<G.length->cS m R (cf (G.getD i []))):(cu m G).length<=R.length:=by
 obtain⟨⟨H,I⟩,iR,il,sp⟩:=mN hm hG
 refine I.Ct hm iR hR λi hi=>?_
 refine Sp.trans (λf hf=>?_) ((sp _).mpr (cS.of (ft hi [])))
 obtain⟨x,hx,rfl⟩:=hf
 obtain⟨i,hi,rfl⟩:=iQ hx
 have:=h i hi
 rw[aL,aO hi]at this
 exact this
theorem cC9{T:List (List Nat)}{i:Nat}(h:i<T.length):T.getD i []=T[i]:=by rw[aL,aO h];rfl
theorem cS.red{m:Bool × Nat}(hm:m∈au){G:List (List Nat)}(hG:RT (aa m) (ai G) G){f:Nat->Nat}(h:cS m G f):cS m (cu m G) f:=((mN hm hG).2.2.2 f).mp h
end L3
namespace L3
open PySem L2 PySem.Spec PyProof.Rows
section
variable{X:Cx}{F H:Hp}{e b:Expr}{pos pos' p p2 p3 apos cX:Pos}{ti te:aS}{x y:Str}{i j:Nat}
end
section
variable{X:Cx}
end
section
variable{X:Cx}{es:List Expr}{tr:cU}{pos:Pos}
theorem cK9(h:PA X es (lA tr)):PE X (.List es pos) (lB (rm tr)) :=
 dP (NI h) λσ H Q zq=>by
 obtain⟨B,F,δ,ts,Qd,c,q,k⟩:=zq
 exact⟨B,F,δ,ts,_,c,q,λds ao vs F1 H1 q1 f1 h1 c1 s1=>⟨by rw[<-s1.length];exact q1.1,λp hp=>k _ ao _ F1 _ q1.2 f1 (h1.trans (af.upd hp)) (c1.grow (af.upd hp)) (.own bQ (s1.mono (af.refl _) (af.upd hp)) .nil)⟩⟩
end
end L3
namespace L3
open PySem L2 Mf
end L3
namespace L3
open PySem L2 Mf
end L3
namespace L3
open PySem L2 Mf
end L3
namespace L2
open PySem PySem.Spec PyProof.Rows
section
variable{X:Cx}
end
end L2
namespace L3
open PySem L2 PySem.Spec PyProof.Rows
section
variable{X:Cx}
end
end L3
namespace L2
open PySem PySem.Spec PyProof.Rows
section
variable{X:Cx}{a:Expr}{ta:TE}{p p2 pos y9:Pos}
end
end L2
namespace L3
open PySem L2 PySem.Spec PyProof.Rows
section
variable{X:Cx}{a:Expr}{t:aS}{p p2 pos y9:Pos}
end
end L3
namespace L3
open PySem L2 PySem.Spec PyProof.Rows
section
variable{F H:Hp}
end
section
variable{X:Cx}{e:Expr}{t:aS}{p2 pos:Pos}
end
end L3
namespace L3
open PySem L2 PySem.Spec PyProof.Rows
section
variable{F H:Hp}
end
section
variable{P:Program}{w:World}{K:PySem.W.Frag}{mg:Str->Option Value}{base:Heap}
end
section
variable{X:Cx}{CX:fA}{n i:Nat}{f:Addr}{fd:FuncData}{ps:List Str}{sp:aX}{E:XK}{fn x:Str}{e:Expr}{te:aS}{p p2 pos pos' y9:Pos}
end
end L3
namespace L2
section
variable{α:Type}{P:List α->Prop}
theorem cI7(h:P []):∀us:List α,us.length=0->P us:=by
 intro us hl;rcases us with _ | ⟨a,t⟩
 ·exact h
 ·cases hl
theorem gh(h:∀a,P [a]):∀us:List α,us.length=1->P us:=by
 intro us hl;rcases us with _ | ⟨a,t⟩
 ·cases hl
 ·exact cI7 (P:=λt=>P (a::t)) (h a) t (AA hl)
theorem eR(h:∀a b,P [a,b]):∀us:List α,us.length=2->P us:=by
 intro us hl;rcases us with _ | ⟨a,t⟩
 ·cases hl
 ·exact gh (P:=λt=>P (a::t)) (h a) t (AA hl)
theorem fu(h:∀a b c,P [a,b,c]):∀us:List α,us.length=3->P us:=by
 intro us hl;rcases us with _ | ⟨a,t⟩
 ·cases hl
 ·exact eR (P:=λt=>P (a::t)) (h a) t (AA hl)
theorem sE(h:∀a b c d,P [a,b,c,d]):∀us:List α,us.length=4->P us:=by
 intro us hl;rcases us with _ | ⟨a,t⟩
 ·cases hl
 ·exact fu (P:=λt=>P (a::t)) (h a) t (AA hl)
theorem Ru(h:∀a b c d e,P [a,b,c,d,e]):∀us:List α,us.length=5->P us:=by
 intro us hl;rcases us with _ | ⟨a,t⟩
 ·cases hl
 ·exact sE (P:=λt=>P (a::t)) (h a) t (AA hl)
end
end L2
namespace L3
open PySem L2 PySem.Spec PyProof.Rows
section
variable{B:Bs}{F H:Hp}{σ:L2.St}{δ:Dl}{ts:List (D × V)}
end
section
variable{X:Cx}{elt iter tg:Expr}{pos:Pos}{scope:Scope}{cl:List (Str × Addr)}{ti:jy}{te:aS}{g:iF}
end
end L3
namespace L2
open PySem PySem.Spec PyProof.Rows
section
variable{X:Cx}
end
end L2
namespace L3
open PySem L2 PySem.Spec PyProof.Rows
section
variable{X:Cx}
end
end L3
namespace L3
open PySem L2 Mf
theorem Cu{m:Bool × Nat}(hm:m∈au){a b:Nat}(ha:a<aa m)(hb:b<aa m):gm m a b=0↔a=0\/b=0:=by
 constructor
 ·intro h
  by_cases a0:a=0
  ·exact .inl a0
  ·by_cases b0:b=0
   ·exact .inr b0
   ·exact absurd h (QC hm (by omega) ha (by omega) hb)
 ·rintro (rfl | rfl)
  ·exact dJ m _ (bC m hm)
  ·exact gK m _ (bC m hm)
theorem Rw{m:Bool × Nat}(hm:m∈au)(x n:Nat):∀(l:List Nat),bD m x (l++aQ n 0)=bD m x l
 | []=>by
  induction n with
  | zero=>rfl
  | succ n ih =>
   have cJ:=lo1 hm
   rw[qq]at ih ⊢
   show gp m (gm m (bD m x (aQ n 0)) x) 0=0
   rw[ih]
   show gp m (gm m 0 x) 0=0
   rw[dJ m _ (bC m hm),iq (by omega)]
 | a::l=>by
  show gp m (gm m (bD m x (l++aQ n 0)) x) a=_
  rw[Rw hm x n l];rfl
theorem Rx{m:Bool × Nat}(hm:m∈au)(x:Nat->Nat)(hx:∀j,x j<aa m):∀(n:Nat) (c:Nat->Nat),(∀j,c j<aa m)->(∀i j,i<n->j<n->x i=x j->i=j)->(∀i,i<n->sm (gp m) n (λj=>gm m (c j) (px m (x j) i))=0)->∀j,j<n->c j=0
 | 0,_,_,_,_,j,hj=>absurd hj (by omega)
 | n+1,c,hc,hd,h,j,hj=>by
  have r:=rg hm
  have h0:=bC m hm
  have cJ:=lo1 hm
  have dn:∀j,bu m (x j) (x n)<aa m/\gp m (bu m (x j) (x n)) (x n)=x j:=λj=>(ir hm (hx j) (hx n)).2
  have key:∀i,i<n->sm (gp m) n (λj=>gm m (gm m (c j) (bu m (x j) (x n))) (px m (x j) i))=0:=λi hi=>by
   have h1:=h (i+1) (by omega)
   have hz:=h i (by omega)
   have e:∀j,gm m (c j) (px m (x j) (i+1))=gp m (gm m (gm m (c j) (bu m (x j) (x n))) (px m (x j) i)) (gm m (x n) (gm m (c j) (px m (x j) i))):=λj=>by
    show gm m (c j) (gm m (px m (x j) i) (x j))=_
    have e1:gm m (px m (x j) i) (x j)=gm m (px m (x j) i) (gp m (bu m (x j) (x n)) (x n)):=by rw[(dn j).2]
    rw[e1,vR h0,vR h0]
    congr 1
    ·rw[fG h0,fq m (px m (x j) i)]
    ·rw[fq m (px m (x j) i),<- fG h0,fq m (c j),fG h0]
   rw[cR λj _=>e j,k9 r,oq r,hz,r.qz]at h1
   have ln:sm (gp m) n (λj=>gm m (gm m (c j) (bu m (x j) (x n))) (px m (x j) i))<aa m:=mL r λ_ _=>bJ hm _ _
   rw[sm,Ce,gK m _ h0,dJ m _ h0,iq ln,iq ln]at h1
   exact h1
  have ih:=Rx hm x hx n (λj=>gm m (c j) (bu m (x j) (x n))) (λ_=>bJ hm _ _) (λi j hi hj=>hd i j (by omega) (by omega)) key
  have cz:∀j,j<n->c j=0:=λj hj=>by
   rcases(Cu hm (hc j) (dn j).1).mp (ih j hj)with z | z
   ·exact z
   ·have:=(dn j).2
    rw[z,jX (hx n)]at this
    exact absurd (hd n j (by omega) (by omega) this) (by omega)
  by_cases c0:j<n
  ·exact cz j c0
  ·have ej:j=n:=by omega
   subst ej
   have:=h 0 (by omega)
   rw[sm,gL r λi hi=>by rw[cz i hi,dJ m _ h0]]at this
   rw[show px m (x j) 0=1 from rfl,kr (hc j),jX (hc j)]at this
   exact this
noncomputable def dM(m:Bool × Nat)(b:Nat)(ps:List Nat)(n:Nat):List (List Nat):=(aD n).map λ(i:Nat)=>ps.map λ(p:Nat)=>eS m (((b:Int)+(i:Int))*(p:Int))
theorem Cv{m:Bool × Nat}(hm:m∈au)(b:Nat)(ps:List Nat)(n:Nat):RT (aa m) ps.length (dM m b ps n)/\(dM m b ps n).length=n:=by
 refine⟨λr hr=>?_,by unfold dM;rw[bw,bL]⟩
 obtain⟨i,_,rfl⟩:=bB.mp hr
 refine⟨by rw[bw],λx hx=>?_⟩
 obtain⟨p,_,rfl⟩:=bB.mp hx
 exact vS hm _
theorem cq3{m:Bool × Nat}{b:Nat}{ps:List Nat}{n a:Nat}(ha:a<n):(dM m b ps n).getD a []=ps.map λ(p:Nat)=>eS m (((b:Int)+(a:Int))*(p:Int)):=by
 unfold dM
 rw[aL,cI,j8 ha];rfl
theorem cI4{m:Bool × Nat}(hm:m∈au){a b:Nat}(ha:a+1<aa m)(hb:b+1<aa m)(h:eS m (a:Int)=eS m (b:Int)):a=b:=by
 have h1:=(oj hm (a:Int)).2.2.1
 have h2:=(oj hm (b:Int)).2.2.1
 rw[h,h2,Ar (by omega) (by omega),Ar (by omega) (by omega)]at h1
 omega
end L3
namespace L3
open PySem L2 Mf
noncomputable def gM(m:Bool × Nat)(c:List Nat)(os:List (List Nat)):List (List Nat):=os.map λo =>
 (cO (λx y=>bu m x (gm m (gm m (o.getD (bc c) 0) (mM m (c.getD (bc c) 0))) y)) o c).take (bc c)++(cO (λx y=>bu m x (gm m (gm m (o.getD (bc c) 0) (mM m (c.getD (bc c) 0))) y)) o c).drop (bc c+1)
noncomputable abbrev Cs:=List Nat × List (List Nat)
noncomputable def nul(c:List Nat):Bool:=c.all (·==0)
noncomputable def gO(m:Bool × Nat)(w:Nat)(z:Cs × Nat):Cs:=(z.1.1++[w-z.1.2.length+z.2],gM m (z.1.2.getD z.2 []) (z.1.2.drop (z.2+1)))
noncomputable def fI(s:Cs):List (Cs × Nat):=(aD s.2.length).map λi=>(s,i)
noncomputable def dN(l:List Cs):List (Cs × Nat):=l.flatMap fI
noncomputable def ow(z:Cs × Nat):Bool:=nul (z.1.2.getD z.2 [])
noncomputable def sF(m:Bool × Nat)(w:Nat):Nat->List Cs->Option (List Nat)
 | 0,_=>none
 | f+1,l=>if l=[]then none else match (dN l).find? ow with
  | some z=>some (z.1.1++[w-z.1.2.length+z.2])
  | none=>sF m w f ((dN l).map (gO m w))
noncomputable def gi(m:Bool × Nat)(C:Nat->Nat->Nat)(ps:List Nat)(c:Nat->Nat)(k:Nat):Nat:=sm (gp m) ps.length λt=>gm m (c t) (C (ps.getD t 0) k)
noncomputable def mO(m:Bool × Nat)(C:Nat->Nat->Nat)(ps:List Nat):Prop:=∀c:Nat->Nat,(∀t,c t<aa m)->(∀k,gi m C ps c k=0)->∀t,t<ps.length->c t=0
structure Gs(m:Bool × Nat)(C:Nat->Nat->Nat)(w:Nat)(s:Cs):Prop where
 le:s.2.length<=w
 inc:s.1.Pairwise (· < ·)
 off:∀p∈s.1,p<w-s.2.length
 nx:∀j,(∀p∈s.1,p<j)->w-s.2.length<=j
 rt:∃h,RT (aa m) h s.2
 rel:∀a:Nat->Nat,(∀i,a i<aa m)->((∀k,sm (gp m) s.2.length (λi=>gm m (a i) (cf (s.2.getD i []) k))=0)↔∃c:Nat->Nat,(∀t,c t<aa m)/\∀k,gp m (sm (gp m) s.2.length λi=>gm m (a i) (C (w-s.2.length+i) k)) (gi m C s.1 c k)=0)
 ind:mO m C s.1
section
variable{m:Bool × Nat}{C:Nat->Nat->Nat}{w:Nat}
theorem cI8(hm:m∈au)(C:Nat->Nat->Nat)(ps:List Nat)(c:Nat->Nat)(k:Nat):gi m C ps c k<aa m:=mL (rg hm) λ_ _=>bJ hm _ _
theorem Cw(hm:m∈au)(C:Nat->Nat->Nat)(ps:List Nat)(j:Nat)(c:Nat->Nat)(k:Nat):gi m C (ps++[j]) c k=gp m (gi m C ps c k) (gm m (c ps.length) (C j k)):=by
 unfold gi
 rw[dF,lW,sm]
 congr 1
 ·refine cR λt ht=>?_
  rw[aL,oR ht,<- aL]
 ·rw[aL,lV (bK _),wU];rfl
theorem Ry{ps:List Nat}{c c':Nat->Nat}{k:Nat}(h:∀t,t<ps.length->c t=c' t):gi m C ps c k=gi m C ps c' k:=cR λt ht=>by rw[h t ht]
theorem qa(hm:m∈au){n i e:Nat}(hi:i<n)(a' X:Nat->Nat):sm (gp m) n (λj=>gm m (if j<i then 0 else if j=i then e else a' (j-i-1)) (X j))=gp m (sm (gp m) (n-i-1) λj=>gm m (a' j) (X (i+1+j))) (gm m e (X i)):=by
 have r:=rg hm
 have h0:=bC m hm
 obtain⟨d,rfl⟩:∃d,n=(i+1)+d:=⟨n-i-1,by omega⟩
 rw[He r (i+1) d λ_ _=>bJ hm _ _,sm,gL r λj hj=>by rw[if_pos hj,dJ m _ h0],if_neg (g9 _),if_pos rfl,r.z (bJ hm _ _),g5]
 congr 1
 rw[show i+1+d-i-1=d by omega]
 refine cR λj hj=>?_
 rw[if_neg (by omega),if_neg (by omega),show i+1+j-i-1=j by omega]
theorem Rz{c:List Nat}:nul c=true↔∀k,cf c k=0:=by
 unfold nul
 rw[c9]
 constructor
 ·intro h k
  by_cases hk:k<c.length
  ·unfold cf
   have:=h _ (ft hk 0)
   exact beq_iff_eq.mp this
  ·exact kx (by omega)
 ·intro h x hx
  obtain⟨k,hk,rfl⟩:=iQ hx
  have:=h k
  unfold cf at this
  rw[aL,aO hk]at this
  exact beq_iff_eq.mpr this
theorem Hx{c:List Nat}(h:nul c=false):bc c<c.length/\cf c (bc c)≠0:=by
 have hx:∃x∈c,(x != 0)=true:=by
  refine Am λz=>?_
  have:nul c=true:=by
   unfold nul
   rw[c9]
   intro x hx
   refine Am λy=>z ⟨x,hx,?_⟩
   simpa using y
  rw[h]at this;cases this
 have hl:bc c<c.length:=M5 hx
 refine⟨hl,?_⟩
 have h2:(c[bc c] != 0)=true:=Yk (xs:=c) (p:=(· != 0)) (w:=hl)
 unfold cf
 rw[aL,aO hl]
 simpa using h2
theorem cs4(hm:m∈au){b:List Nat}{os:List (List Nat)}{h:Nat}(hb:b.length=h)(ab:AllLt (aa m) b)(lH:RT (aa m) h os)(nb:nul b=false){a:Nat->Nat}(ha:∀i,a i<aa m) :
  (∀k,sm (gp m) os.length (λj=>gm m (a j) (cf ((gM m b os).getD j []) k))=0)↔∃e,e<aa m/\∀k,gp m (sm (gp m) os.length λj=>gm m (a j) (cf (os.getD j []) k)) (gm m e (cf b k))=0:=by
 have r:=rg hm
 have h0:=bC m hm
 have cJ:=lo1 hm
 obtain⟨hp,bp⟩:=Hx nb
 have RA:=dq hm ab (bc b)
 obtain⟨iv,iv1,RB⟩:=QU hm (a:=1) (by omega) RA bp
 have Hy:mM m (b.getD (bc b) 0)=iv:=Cg hm iv1 RB
 obtain⟨D,hD⟩:∃D:Nat->List Nat,∀j,D j=cO (λx y=>bu m x (gm m (gm m ((os.getD j []).getD (bc b) 0) iv) y)) (os.getD j []) b:=⟨_,λ_=>rfl⟩
 have RC:∀j,j<os.length->∀k,gp m (cf (D j) k) (gm m (gm m (cf (os.getD j []) (bc b)) iv) (cf b k))=cf (os.getD j []) k:=λj hj k=>by
  rw[hD]
  exact Cn hm (lH _ (ft hj [])).1 hb (lH _ (ft hj [])).2 k
 have Dlt:∀j,j<os.length->∀k,cf (D j) k<aa m:=λj hj k=>by
  rw[hD]
  exact Hs hm (lH _ (ft hj [])).1 hb (lH _ (ft hj [])).2 _ k
 have Dp:∀j,j<os.length->cf (D j) (bc b)=0:=λj hj=>by
  have l1:=dq hm (lH _ (ft hj [])).2 (bc b)
  have:=RC j hj (bc b)
  rw[fG h0,RB,kr l1]at this
  exact r.cn (Dlt j hj _) l1 this
 have do9:∀j,j<os.length->(D j).length=h:=λj hj=>by
  rw[hD,j9,(lH _ (ft hj [])).1,hb,wL]
 have Hz:∀j,j<os.length->∀k,cf ((gM m b os).getD j []) k=cf (D j) (if k<bc b then k else k+1):=λj hj k=>by
  have e1:(gM m b os).getD j []=(D j).take (bc b)++(D j).drop (bc b+1):=by
   unfold gM
   rw[p9 _ hj [] [],Hy,hD]
  rw[e1]
  have lt:((D j).take (bc b)).length=bc b:=by rw[hE,do9 j hj];omega
  unfold cf
  by_cases hk:k<bc b
  ·rw[if_pos hk,aL,oR (by omega),X4 hk,<- aL]
  ·rw[if_neg hk,aL,lV (by omega),lt,MR,show bc b+1+(k-bc b)=k+1 by omega,<- aL]
 obtain⟨F,hF⟩:∃F,F=sm (gp m) os.length λj=>gm m (a j) (gm m (cf (os.getD j []) (bc b)) iv):=⟨_,rfl⟩
 have Flt:F<aa m:=by rw[hF];exact mL r λ_ _=>bJ hm _ _
 have RD:∀k,(sm (gp m) os.length λj=>gm m (a j) (cf (os.getD j []) k))=gp m (sm (gp m) os.length λj=>gm m (a j) (cf (D j) k)) (gm m F (cf b k)):=λk=>by
  rw[cR (g:=λj=>gp m (gm m (a j) (cf (D j) k)) (gm m (cf b k) (gm m (a j) (gm m (cf (os.getD j []) (bc b)) iv)))) λj hj=>?_,k9 r,oq r,<- hF,fq m (cf b k)]
  rw[<-RC j hj k,vR h0]
  congr 1
  rw[<-fG h0,fq m _ (cf b k)]
 have nS:(∀k,sm (gp m) os.length (λj=>gm m (a j) (cf ((gM m b os).getD j []) k))=0)↔∀k,sm (gp m) os.length (λj=>gm m (a j) (cf (D j) k))=0:=by
  constructor
  ·intro h k
   by_cases e:k=bc b
   ·exact gL r λj hj=>by rw[e,Dp j hj,gK m _ h0]
   ·by_cases c:k<bc b
    ·rw[<-h k]
     exact cR λj hj=>by rw[Hz j hj,if_pos c]
    ·rw[<-h (k-1)]
     exact cR λj hj=>by rw[Hz j hj,if_neg (by omega),show k-1+1=k by omega]
  ·intro h k
   rw[cR λj hj=>by rw[Hz j hj]]
   exact h _
 rw[nS]
 constructor
 ·intro h
  obtain⟨e,e1,e2⟩:=r.ng Flt
  refine⟨e,e1,λk=>?_⟩
  rw[RD k,h k,r.z (bJ hm _ _),<- sq h0,e2,dJ m _ h0]
 ·rintro⟨e,e1,h⟩
  have key:∀k,gp m (sm (gp m) os.length λj=>gm m (a j) (cf (D j) k)) (gm m (gp m F e) (cf b k))=0:=λk=>by
   rw[sq h0,<- oh,<- RD k]
   exact h k
  have fe:gp m F e=0:=by
   have:=key (bc b)
   rw[gL r λj hj=>by rw[Dp j hj,gK m _ h0],r.z (bJ hm _ _)]at this
   rcases(Cu hm (oi hm Flt e1) RA).mp this with z | z
   ·exact z
   ·exact absurd z bp
  intro k
  have:=key k
  rw[fe,dJ m _ h0,iq (mL r λ_ _=>bJ hm _ _)]at this
  exact this
theorem HA(m:Bool × Nat)(b:List Nat)(os:List (List Nat)):(gM m b os).length=os.length:=by unfold gM;rw[bw]
theorem cK2(hm:m∈au){b:List Nat}{os:List (List Nat)}{h:Nat}(hb:b.length=h)(lH:RT (aa m) h os)(nb:nul b=false):RT (aa m) (h-1) (gM m b os):=λx hx=>by
 obtain⟨o,ho,rfl⟩:=bB.mp hx
 obtain⟨hp,_⟩:=Hx nb
 obtain⟨l1,l2⟩:=lH o ho
 refine⟨by rw[dF,hE,ji,j9,l1,hb];omega,λy hy=>?_⟩
 have:AllLt (aa m) (cO (λx y=>bu m x (gm m (gm m (o.getD (bc b) 0) (mM m (b.getD (bc b) 0))) y)) o b):=Ha λx hx y _=>(ir hm (l2 x hx) (bJ hm _ y)).2.1
 rcases cE.mp hy with z | z
 ·exact this y (tJ z)
 ·exact this y (oV z)
theorem Gs.next(hm:m∈au){s:Cs}(G:Gs m C w s){i:Nat}(hi:i<s.2.length)(nb:nul (s.2.getD i [])=false)(hC:∀j k,C j k<aa m):Gs m C w (gO m w (s,i)):=by
 have r:=rg hm
 have h0:=bC m hm
 have cJ:=lo1 hm
 have hle:=G.le
 obtain⟨h,Cy⟩:=G.rt
 obtain⟨bl,ba⟩:=Cy _ (ft hi [])
 have RE:RT (aa m) h (s.2.drop (i+1)):=λx hx=>Cy x (oV hx)
 have kl:(gO m w (s,i)).2.length=s.2.length-i-1:=by
  show(gM m _ _).length=_
  rw[HA,ji]
  show s.2.length-(i+1)=_
  omega
 have dl:(s.2.drop (i+1)).length=s.2.length-i-1:=by rw[ji];omega
 have ko:w-(gO m w (s,i)).2.length=w-s.2.length+i+1:=by omega
 have dg:∀j,(s.2.drop (i+1)).getD j []=s.2.getD (i+1+j) []:=λj=>by rw[aL,MR,<- aL]
 refine⟨by omega,?_,λp hp=>?_,λj hj=>?_,⟨h-1,cK2 hm bl RE nb⟩,λa ha=>?_,λc hc hz t ht=>?_⟩
 ·refine AB.mpr ⟨G.inc,M8 _ _,λx hx y hy=>?_⟩
  rw[fW.mp hy]
  have:=G.off x hx
  show x<w-s.2.length+i
  omega
 ·rw[ko]
  rcases cE.mp hp with z | z
  ·have:=G.off p z;omega
  ·rw[fW.mp z];exact Ag _
 ·rw[ko]
  have:=hj (w-s.2.length+i) (df _ (fW.mpr rfl))
  omega
 ·have e1:(∀k,sm (gp m) (gO m w (s,i)).2.length (λj=>gm m (a j) (cf ((gO m w (s,i)).2.getD j []) k))=0)↔∃e,e<aa m/\∀k,gp m (sm (gp m) (s.2.length-i-1) λj=>gm m (a j) (cf (s.2.getD (i+1+j) []) k)) (gm m e (cf (s.2.getD i []) k))=0:=by
   have:=cs4 hm bl ba RE nb ha
   rw[dl]at this
   rw[kl]
   refine this.trans ?_
   constructor
   ·rintro⟨e,e1,e2⟩
    exact⟨e,e1,λk=>by rw[<-e2 k,cR λj _=>by rw[<-dg j]]⟩
   ·rintro⟨e,e1,e2⟩
    exact⟨e,e1,λk=>by rw[<-e2 k,cR λj _=>by rw[dg j]]⟩
  rw[e1]
  have al:∀e,e<aa m->∀j,(if j<i then 0 else if j=i then e else a (j-i-1))<aa m:=λe he j=>by
   split
   ·omega
   ·split
    ·exact he
    ·exact ha _
  have RF:∀(c:Nat->Nat) (e k:Nat),gp m (sm (gp m) s.2.length λj=>gm m (if j<i then 0 else if j=i then e else a (j-i-1)) (C (w-s.2.length+j) k)) (gi m C s.1 c k)=gp m (sm (gp m) (s.2.length-i-1) λj=>gm m (a j) (C (w-s.2.length+i+1+j) k)) (gp m (gi m C s.1 c k) (gm m e (C (w-s.2.length+i) k))):=λc e k=>by
   rw[qa hm hi a (λj=>C (w-s.2.length+j) k),oh,g5 m (gm m e _)]
   congr 1
   exact cR λj _=>by rw[show w-s.2.length+(i+1+j)=w-s.2.length+i+1+j by omega]
  have ln:∀c k,gi m C (gO m w (s,i)).1 c k=gp m (gi m C s.1 c k) (gm m (c s.1.length) (C (w-s.2.length+i) k)):=λc k=>Cw hm C s.1 _ c k
  constructor
  ·rintro⟨e,e1,e2⟩
   obtain⟨c,c1,c2⟩:=(G.rel _ (al e e1)).mp λk=>by
    rw[qa hm hi a (λj=>cf (s.2.getD j []) k)]
    exact e2 k
   refine⟨λt=>if t=s.1.length then e else c t,λt=>by
    show(if t=s.1.length then e else c t)<aa m
    split
    ·exact e1
    ·exact c1 t,λk=>?_⟩
   rw[ln,ko,kl,if_pos rfl,Ry (c':=c) λt ht=>if_neg (fS ht),<- RF c e k]
   exact c2 k
  ·rintro⟨c,c1,c2⟩
   refine⟨c s.1.length,c1 _,λk=>?_⟩
   have:=(G.rel _ (al _ (c1 s.1.length))).mpr ⟨c,c1,λk=>by
    rw[RF c _ k]
    have:=c2 k
    rw[ln,ko,kl]at this
    exact this⟩ k
   rw[qa hm hi a (λj=>cf (s.2.getD j []) k)]at this
   exact this
 ·have ln:∀k,gp m (gi m C s.1 c k) (gm m (c s.1.length) (C (w-s.2.length+i) k))=0:=λk=>by
   rw[<-Cw hm C s.1 _ c k]
   exact hz k
  have e0:c s.1.length=0:=by
   refine Am λz=>?_
   have al:∀j,(if j<i then 0 else if j=i then c s.1.length else(λ_=>0) (j-i-1))<aa m:=λj=>by
    split
    ·omega
    ·split
     ·exact hc _
     ·show 0<_;omega
   have z0:∀(n:Nat) (X:Nat->Nat),sm (gp m) n (λj=>gm m ((λ_=>0) j) (X j))=0:=λn X=>gL r λ_ _=>dJ m _ h0
   have:=(G.rel _ al).mpr ⟨c,hc,λk=>by
    rw[qa hm hi (λ_=>0) (λj=>C (w-s.2.length+j) k),z0,r.z (bJ hm _ _),g5]
    exact ln k⟩
   have nn:nul (s.2.getD i [])=true:=Rz.mpr λk=>by
    have q:=this k
    rw[qa hm hi (λ_=>0) (λj=>cf (s.2.getD j []) k),z0,r.z (bJ hm _ _)]at q
    rcases(Cu hm (hc _) (dq hm ba k)).mp q with y | y
    ·exact absurd y z
    ·exact y
   rw[nb]at nn;cases nn
  have hs:∀k,gi m C s.1 c k=0:=λk=>by
   have:=ln k
   rw[e0,dJ m _ h0,iq (cI8 hm C _ c k)]at this
   exact this
  have hl:(gO m w (s,i)).1.length=s.1.length+1:=by show(s.1++[_]).length=_;rw[dF];rfl
  by_cases ct:t<s.1.length
  ·exact G.ind c hc hs t ct
  ·rw[show t=s.1.length by omega];exact e0
theorem Gs.bound(hm:m∈au){s:Cs}(G:Gs m C w s){i:Nat}(hi:i<s.2.length)(hC:∀j k,C j k<aa m):nul (s.2.getD i [])=true↔∃c:Nat->Nat,(∀t,c t<aa m)/\c s.1.length=1/\∀k,gi m C (s.1++[w-s.2.length+i]) c k=0:=by
 have r:=rg hm
 have h0:=bC m hm
 have cJ:=lo1 hm
 obtain⟨h,Cy⟩:=G.rt
 obtain⟨bl,ba⟩:=Cy _ (ft hi [])
 have al:∀j,(if j<i then 0 else if j=i then 1 else(λ_=>0) (j-i-1))<aa m:=λj=>by
  split
  ·omega
  ·split
   ·omega
   ·show 0<_;omega
 have z0:∀(n:Nat) (X:Nat->Nat),sm (gp m) n (λj=>gm m ((λ_=>0) j) (X j))=0:=λn X=>gL r λ_ _=>dJ m _ h0
 have e1:nul (s.2.getD i [])=true↔∀k,sm (gp m) s.2.length (λj=>gm m (if j<i then 0 else if j=i then 1 else(λ_=>0) (j-i-1)) (cf (s.2.getD j []) k))=0:=by
  rw[Rz]
  refine forall_congr' λk=>?_
  rw[qa hm hi (λ_=>0) (λj=>cf (s.2.getD j []) k),z0,r.z (bJ hm _ _),og (dq hm ba k)]
 rw[e1,G.rel _ al]
 constructor
 ·rintro⟨c,c1,c2⟩
  refine⟨λt=>if t=s.1.length then 1 else c t,λt=>by
   show(if t=s.1.length then 1 else c t)<aa m
   split
   ·omega
   ·exact c1 t,if_pos rfl,λk=>?_⟩
  rw[Cw hm,if_pos rfl,Ry (c':=c) λt ht=>if_neg (fS ht),g5,<- c2 k,qa hm hi (λ_=>0) (λj=>C (w-s.2.length+j) k),z0,r.z (bJ hm _ _)]
 ·rintro⟨c,c1,c2,c3⟩
  refine⟨c,c1,λk=>?_⟩
  have:=c3 k
  rw[Cw hm,c2]at this
  rw[qa hm hi (λ_=>0) (λj=>C (w-s.2.length+j) k),z0,r.z (bJ hm _ _),g5]
  exact this
end
end L3
namespace L3
open PySem L2 Mf
noncomputable def i9:List Nat->List Nat->Prop
 | a::as,b::bs=>a<b\/(a=b/\i9 as bs)
 | _,_=>False
theorem RG:∀l:List Nat,¬ i9 l l
 | [],h=>h
 | a::l,h=>h.elim (λz=>g9 _ z) λz=>RG l z.2
theorem RH:∀a b:List Nat,i9 a b->¬ i9 b a
 | [],_,h,_=>h
 | _::_,[],h,_=>h
 | a::as,b::bs,h,h'=>by
  rcases h with h | ⟨rfl,h⟩
  ·rcases h' with h' | ⟨e,_⟩
   ·omega
   ·omega
  ·rcases h' with h' | ⟨_,h'⟩
   ·omega
   ·exact RH as bs h h'
theorem RI:∀(a b:List Nat) (x y:List Nat),a.length=b.length->i9 a b->i9 (a++x) (b++y)
 | [],_,_,_,_,h=>h.elim
 | _::_,[],_,_,_,h=>h.elim
 | a::as,b::bs,x,y,hl,h=>by
  rcases h with h | ⟨e,h⟩
  ·exact .inl h
  ·exact .inr ⟨e,RI as bs x y (by simpa using hl) h⟩
theorem RJ:∀(a:List Nat) (x y:Nat),x<y->i9 (a++[x]) (a++[y])
 | [],_,_,h=>.inl h
 | _::as,x,y,h=>.inr ⟨rfl,RJ as x y h⟩
noncomputable def gP(w:Nat)(S:List Nat):Prop:=S.Pairwise (· < ·)/\∀x∈S,x<w
theorem RK:∀(S:List Nat) (lo w:Nat),S.Pairwise (· < ·)->(∀x∈S,lo<=x/\x<w)->S.length<=w-lo
 | [],_,_,_,_=>jh _
 | a::S,lo,w,hp,h=>by
  rw[Az]at hp
  have ih:=RK S (a+1) w hp.2 λx hx=>⟨hp.1 x hx,(h x (gE _ hx)).2⟩
  have ha:=h a (iO ..)
  rw[fF]
  omega
theorem gP.len{S:List Nat}{w:Nat}(h:gP w S):S.length<=w:=RK S 0 w h.1 λx hx=>⟨jh _,h.2 x hx⟩
theorem gP.take{S:List Nat}{w:Nat}(h:gP w S)(k:Nat):gP w (S.take k):=⟨h.1.sublist (List.take_sublist k S),λx hx=>h.2 x (tJ hx)⟩
noncomputable def j4(w:Nat)(z:Cs × Nat):List Nat:=z.1.1++[w-z.1.2.length+z.2]
structure Lv(m:Bool × Nat)(C:Nat->Nat->Nat)(w k:Nat)(l:List Cs):Prop where
 gs:∀s∈l,Gs m C w s/\s.1.length=k
 all:∀S,gP w S->S.length=k->∃s∈l,s.1=S
 ord:(l.map (·.1)).Pairwise i9
theorem vX{l:List Cs}{z:Cs × Nat}:z∈dN l↔z.1∈l/\z.2<z.1.2.length:=by
 unfold dN
 rw[List.mem_flatMap]
 constructor
 ·rintro⟨s,hs,hz⟩
  obtain⟨i,hi,rfl⟩:=bB.mp hz
  exact⟨hs,bY.mp hi⟩
 ·rintro⟨h1,h2⟩
  exact⟨z.1,h1,bB.mpr ⟨z.2,bY.mpr h2,rfl⟩⟩
section
variable{m:Bool × Nat}{C:Nat->Nat->Nat}{w:Nat}
theorem HB{k:Nat}:∀{l:List Cs},(∀s∈l,s.1.length=k)->(l.map (·.1)).Pairwise i9->((dN l).map (j4 w)).Pairwise i9
 | [],_,_=>MG
 | s::l,hl,ho=>by
  rw[dw,Az]at ho
  show(((fI s)++dN l).map (j4 w)).Pairwise i9
  rw[fh,AB]
  refine⟨?_,HB (λs hs=>hl s (gE _ hs)) ho.2,λa ha b hb=>?_⟩
  ·unfold fI
   rw[cj]
   refine List.pairwise_map.mpr (M9.imp λ{a b} hab=>?_)
   exact RJ s.1 _ _ (show w-s.2.length+a<w-s.2.length+b by omega)
  ·obtain⟨z,hz,rfl⟩:=bB.mp ha
   obtain⟨i,_,rfl⟩:=bB.mp hz
   obtain⟨y,hy,rfl⟩:=bB.mp hb
   obtain⟨h1,_⟩:=vX.mp hy
   exact RI _ _ _ _ (by rw[hl s (iO ..),hl _ (gE _ h1)]) (ho.1 _ (bB.mpr ⟨_,h1,rfl⟩))
theorem Lv.meets(L:Lv m C w k l){S:List Nat}(hS:gP w S)(hk:S.length=k+1):∃z∈dN l,j4 w z=S:=by
 have e:S=S.take k++[S.getD k 0]:=by
  have h1:S.drop k=[S.getD k 0]:=by
   rw[MZ (by omega),List.drop_of_length_le (by omega),aL,aO (by omega)];rfl
  conv=>lhs;rw[<-Au k S,h1]
 obtain⟨s,hs,es⟩:=L.all _ (hS.take k) (by rw[hE];omega)
 obtain⟨G,_⟩:=L.gs s hs
 have hj:∀p∈s.1,p<S.getD k 0:=λp hp=>by
  rw[es]at hp
  have:=hS.1
  rw[e,AB]at this
  exact this.2.2 p hp _ (fW.mpr rfl)
 have h1:=G.nx _ hj
 have h2:=hS.2 (S.getD k 0) (ft (by omega) 0)
 have h3:=G.le
 refine⟨(s,S.getD k 0-(w-s.2.length)),vX.mpr ⟨hs,?_⟩,?_⟩
 ·show S.getD k 0-(w-s.2.length)<s.2.length
  omega
 ·show s.1++[w-s.2.length+(S.getD k 0-(w-s.2.length))]=S
  rw[show w-s.2.length+(S.getD k 0-(w-s.2.length))=S.getD k 0 by omega,es]
  exact e.symm
theorem Lv.next(hm:m∈au)(hC:∀j k,C j k<aa m)(L:Lv m C w k l)(hn:∀z∈dN l,ow z=false):Lv m C w (k+1) ((dN l).map (gO m w)) where
 gs:=λs hs=>by
  obtain⟨z,hz,rfl⟩:=bB.mp hs
  obtain⟨h1,h2⟩:=vX.mp hz
  obtain⟨G,hl⟩:=L.gs _ h1
  refine⟨G.next hm h2 (hn z hz) hC,?_⟩
  show(z.1.1++[_]).length=_
  rw[dF,hl];rfl
 all:=λS hS hk=>by
  obtain⟨z,hz,e⟩:=L.meets hS hk
  exact⟨gO m w z,bB.mpr ⟨z,hz,rfl⟩,e⟩
 ord:=by
  rw[cj]
  exact HB (λs hs=>(L.gs s hs).2) L.ord
theorem HC(hm:m∈au)(hC:∀j k,C j k<aa m):∀(f k:Nat) (l:List Cs),Lv m C w k l->w+1<=f+k ->
  match sF m w f l with
  | none=>∀S,gP w S->k<=S.length->mO m C S
  | some F=>gP w F/\k<F.length/\(∃c:Nat->Nat,(∀t,c t<aa m)/\c (F.length-1)=1/\∀j,gi m C F c j=0)/\∀S,gP w S->k<=S.length->S.length<F.length\/(S.length=F.length/\i9 S F)->mO m C S
 | 0,k,l,L,hf=>λS hS hk=>absurd hS.len (by omega)
 | f+1,k,l,L,hf=>by
  have here:∀S,gP w S->S.length=k->mO m C S:=λS hS hk=>by
   obtain⟨s,hs,rfl⟩:=L.all S hS hk
   exact(L.gs s hs).1.ind
  rw[sF]
  by_cases l0:l=[]
  ·rw[if_pos l0]
   subst l0
   intro S hS hk
   obtain⟨s,hs,_⟩:=L.all (S.take k) (hS.take k) (by rw[hE];omega)
   cases hs
  ·rw[if_neg l0]
   cases e:(dN l).find? ow with
   | some z =>
    obtain⟨hz,as,bs,eL,qe⟩:=Yp.mp e
    obtain⟨h1,h2⟩:=vX.mp (MM e)
    obtain⟨G,hl⟩:=L.gs _ h1
    have hle:=G.le
    have fl:(j4 w z).length=k+1:=by show(z.1.1++[_]).length=_;rw[dF,hl];rfl
    refine⟨⟨?_,λx hx=>?_⟩,by show k<(j4 w z).length;omega,?_,λS hS hk hc=>?_⟩
    ·refine AB.mpr ⟨G.inc,M8 _ _,λx hx y hy=>?_⟩
     rw[fW.mp hy]
     have:=G.off x hx
     omega
    ·rcases cE.mp hx with q | q
     ·have:=G.off x q;omega
     ·rw[fW.mp q];omega
    ·obtain⟨c,c1,c2,c3⟩:=(G.bound hm h2 hC).mp hz
     refine⟨c,c1,?_,c3⟩
     show c ((j4 w z).length-1)=1
     rw[fl,Nat.add_sub_cancel,<- hl]
     exact c2
    ·by_cases ck:S.length=k
     ·exact here S hS ck
     have cl:S.length=k+1/\i9 S (j4 w z):=by
      rcases hc with q | ⟨q1,q2⟩
      ·exact absurd (show S.length<(j4 w z).length from q) (by omega)
      ·exact⟨(show S.length=(j4 w z).length from q1).trans fl,q2⟩
     obtain⟨y,hy,ey⟩:=L.meets hS cl.1
     obtain⟨y1,y2⟩:=vX.mp hy
     obtain⟨Gy,_⟩:=L.gs _ y1
     cases ny:ow y with
     | false =>
      have:=(Gy.next hm y2 ny hC).ind
      rwa [show(gO m w (y.1,y.2)).1=S from ey]at this
     | true =>
      exfalso
      have od:=HB (w:=w) (λs hs=>(L.gs s hs).2) L.ord
      rw[eL]at hy od
      rw[fh,dw,AB]at od
      have od2:=(Az.mp od.2.1).1
      rcases cE.mp hy with q | q
      ·have:=qe y q
       rw[ny]at this;simp at this
      ·rcases cA.mp q with q | q
       ·rw[q]at ey
        rw[<-ey]at cl
        exact RG _ cl.2
       ·have:=od2 _ (bB.mpr ⟨y,q,rfl⟩)
        rw[ey]at this
        exact RH _ _ this cl.2
   | none =>
    have hn:∀z∈dN l,ow z=false:=λz hz=>by
     have:=M6.mp e z hz
     simpa using this
    have ih:=HC hm hC f (k+1) _ (L.next hm hC hn) (by omega)
    dsimp only
    split
    ·rename_i e2
     rw[e2]at ih
     intro S hS hk
     by_cases ck:S.length=k
     ·exact here S hS ck
     ·exact ih S hS (by omega)
    ·rename_i F e2
     rw[e2]at ih
     obtain⟨i1,i2,i3,i4⟩:=ih
     refine⟨i1,by omega,i3,λS hS hk hc=>?_⟩
     by_cases ck:S.length=k
     ·exact here S hS ck
     ·exact i4 S hS (by omega) hc
end
end L3
namespace L3
open PySem L2 Mf
noncomputable def gC(T:List (List Nat))(j k:Nat):Nat:=cf (T.getD k []) j
theorem HD{m:Bool × Nat}(hm:m∈au){w:Nat}{T:List (List Nat)}(hT:RT (aa m) w T)(j k:Nat):gC T j k<aa m:=by
 unfold gC
 by_cases hk:k<T.length
 ·exact dq hm (hT _ (ft hk [])).2 j
 ·have e:T.getD k []=[]:=by rw[aL,hJ (by omega)];rfl
  rw[e]
  have:=lo1 hm
  show 0<_
  omega
theorem Lv.start{m:Bool × Nat}(hm:m∈au){T:List (List Nat)}(hw:0<ai T)(hT:RT (aa m) (ai T) T):Lv m (gC T) (ai T) 0 [([],eQ T)]:=by
 have r:=rg hm
 obtain⟨t1,t2,t3⟩:=Hu (Nat.lt_trans Nat.zero_lt_one (lo1 hm)) hw hT
 refine⟨λs hs=>?_,λS _ h=>⟨_,fW.mpr rfl,(Yq.mp h).symm⟩,M8 _ _⟩
 rw[fW.mp hs]
 refine⟨⟨Af t1,MG,λp hp=>absurd hp (gR),λj _=>by show ai T-(eQ T).length<=j;omega,⟨_,t3⟩,λa ha=>?_,λc _ _ t ht=>absurd ht (by show ¬ t<0;omega)⟩,rfl⟩
 have e:∀k,sm (gp m) (eQ T).length (λi=>gm m (a i) (cf ((eQ T).getD i []) k))=sm (gp m) (eQ T).length λi=>gm m (a i) (gC T (ai T-(eQ T).length+i) k):=λk=>cR λi hi=>by
  rw[Ro (by omega),Rk,show ai T-(eQ T).length+i=i by omega];rfl
 have z:∀c k,gi m (gC T) [] c k=0:=λ_ _=>rfl
 constructor
 ·intro h
  refine⟨λ_=>0,λ_=>by have:=lo1 hm;show 0<_;omega,λk=>?_⟩
  rw[z,iq (mL r λ_ _=>bJ hm _ _),<- e k]
  exact h k
 ·rintro⟨c,_,h⟩ k
  have:=h k
  rw[z,iq (mL r λ_ _=>bJ hm _ _),<- e k]at this
  exact this
noncomputable def jF(m:Bool × Nat)(T:List (List Nat)):Option (List Nat):=sF m (ai T) (ai T+1) [([],eQ T)]
section
variable{m:Bool × Nat}{C:Nat->Nat->Nat}
end
noncomputable def vY(T:List (List Nat))(F:List Nat):List (List Nat):=T.map λr=>F.map λj=>r.getD j 0
theorem cI6{N w:Nat}{T:List (List Nat)}{F:List Nat}(h0:0<N)(hT:RT N w T):RT N F.length (vY T F)/\(vY T F).length=T.length:=by
 refine⟨λx hx=>?_,by unfold vY;rw[bw]⟩
 obtain⟨r,hr,rfl⟩:=bB.mp hx
 refine⟨by rw[bw],λy hy=>?_⟩
 obtain⟨j,_,rfl⟩:=bB.mp hy
 exact(hT r hr).2.getD h0 j
theorem cG7{T:List (List Nat)}{F:List Nat}{k t:Nat}(hk:k<T.length)(ht:t<F.length):cf ((vY T F).getD k []) t=gC T (F.getD t 0) k:=by
 unfold vY gC cf
 rw[p9 _ hk [] [],p9 _ ht 0 0]
theorem cI0(m:Bool × Nat){T:List (List Nat)}{F:List Nat}{k:Nat}(hk:k<T.length)(x:Nat->Nat):dt m F.length (cf ((vY T F).getD k [])) x=gi m (gC T) F x k:=by
 unfold dt gi
 exact cR λt ht=>by rw[cG7 hk ht,fq]
theorem RL:∀(n lo w:Nat) (F:List Nat),F.Pairwise (· < ·)->(∀x∈F,lo<=x)->F.length=n->F=List.range' lo n\/i9 (List.range' lo n) F
 | 0,_,_,F,_,_,h=>.inl (Yq.mp h)
 | n+1,lo,w,F,hp,hl,h=>by
  cases F with
  | nil=>cases h
  | cons a F =>
   rw[Az]at hp
   have ha:=hl a (iO ..)
   rw[List.range'_succ]
   by_cases e:lo=a
   ·subst e
    rcases RL n (lo+1) w F hp.2 (λx hx=>hp.1 x hx) (by simpa using h)with q | q
    ·exact .inl (by rw[q])
    ·exact .inr (.inr ⟨rfl,q⟩)
   ·exact .inr (.inl (by omega))
theorem cc1{o:Bool}{G:List (List Nat)}{i:Nat}{d:D}(hd:(aA o G)[i]?=some d):∃hi:i<G.length,d=.lst o (aj G[i]):=by
 unfold aA at hd
 rw[cI]at hd
 by_cases hi:i<G.length
 ·rw[aO hi]at hd
  exact⟨hi,(de hd).symm⟩
 ·rw[hJ (by omega)]at hd;cases hd
end L3
namespace L3
open PySem L2 PySem.Spec PyProof.Rows
section
variable{B:Bs}{F H:Hp}{σ:L2.St}{δ:Dl}{ts:List (D × V)}
end
section
variable{X:Cx}{a:Expr}{ta:aS}{pos p2:Pos}{tk:Nat}
end
end L3
namespace L3
open PySem L2 PySem.Spec PyProof.Rows
section
variable{X:Cx}{a b:Expr}{ta tb:aS}{elts:List Expr}{x1:Nat}{qU p pos:Pos}
end
end L3
namespace L3
open PySem L2 Mf
section
variable{m:Bool × Nat}
theorem RM(hm:m∈au){T:List (List Nat)}(hw:0<ai T)(hT:RT (aa m) (ai T) T)(h:jF m T=none):∀S,gP (ai T) S->mO m (gC T) S:=by
 have:=HC hm (HD hm hT) (ai T+1) 0 _ (Lv.start hm hw hT) (by omega)
 unfold jF at h
 rw[h]at this
 exact λS hS=>this S hS (jh _)
theorem HE(hm:m∈au){T:List (List Nat)}(hw:0<ai T)(hT:RT (aa m) (ai T) T){F:List Nat}(h:jF m T=some F):gP (ai T) F/\0<F.length/\(∃c:Nat->Nat,(∀t,c t<aa m)/\c (F.length-1)=1/\∀j,gi m (gC T) F c j=0)/\∀S,gP (ai T) S->S.length<F.length\/(S.length=F.length/\i9 S F)->mO m (gC T) S:=by
 have:=HC hm (HD hm hT) (ai T+1) 0 _ (Lv.start hm hw hT) (by omega)
 unfold jF at h
 rw[h]at this
 obtain⟨a,b,c,d⟩:=this
 exact⟨a,b,c,λS hS=>d S hS (jh _)⟩
structure za(m:Bool × Nat)(R W:Nat)(x y:Nat->Nat)(T:List (List Nat)):Prop where
 rt:RT (aa m) W T
 l:T.length=R
 xl:∀j,x j<aa m
 xd:∀i j,i<W->j<W->x i=x j->i=j
 yl:∀j,y j<aa m
 y0:∀j,j<W->y j≠0
 at_:∀i,i<R->∃k,k<R/\∀j,j<W->gC T j k=gm m (y j) (px m (x j) i)
theorem za.ind(hm:m∈au){R W:Nat}{x y:Nat->Nat}{T:List (List Nat)}(h:za m R W x y T){S:List Nat}(hS:gP W S)(hR:S.length<=R):mO m (gC T) S:=by
 intro c hc hz t ht
 have gS:∀t,t<S.length->S.getD t 0<W:=λt ht=>hS.2 _ (ft ht 0)
 have:=Rx hm (λt=>x (S.getD t 0)) (λ_=>h.xl _) S.length (λt=>gm m (c t) (y (S.getD t 0))) (λ_=>bJ hm _ _) (λi j hi hj e=>by
  have e':=h.xd _ _ (gS i hi) (gS j hj) e
  rcases Nat.lt_trichotomy i j with q | q | q
  ·have:=EG.mp hS.1 i j hi hj q
   rw[aL,aL,aO hi,aO hj]at e'
   have e2:S[i]=S[j]:=e'
   omega
  ·exact q
  ·have:=EG.mp hS.1 j i hj hi q
   rw[aL,aL,aO hi,aO hj]at e'
   have e2:S[i]=S[j]:=e'
   omega) (λi hi=>by
  obtain⟨k,_,hk⟩:=h.at_ i (by omega)
  refine Eq.trans (cR λt ht=>?_) (hz k)
  show gm m (gm m (c t) (y (S.getD t 0))) (px m (x (S.getD t 0)) i)=gm m (c t) (gC T (S.getD t 0) k)
  rw[hk _ (gS t ht),fG (bC m hm)]) t ht
 rcases(Cu hm (hc t) (h.yl _)).mp this with z | z
 ·exact z
 ·exact absurd z (h.y0 _ (gS t ht))
theorem HF{n W:Nat}(h:n<=W):gP W (aD n):=⟨M9,λx hx=>by have:=bY.mp hx;omega⟩
theorem HG(hm:m∈au){W:Nat}{T:List (List Nat)}(hT:RT (aa m) W T){F:List Nat}(hF:T.length<F.length):¬ mO m (gC T) F:=λI=>by
 have cJ:=lo1 hm
 obtain⟨p1,p2⟩:=cI6 (F:=F) (by omega) hT
 obtain⟨x,f,hf,hx,x1,hz⟩:=Rt hm p1 (by omega)
 have:=I x hx (λk=>by
  by_cases hk:k<T.length
  ·rw[<-cI0 m hk];exact hz k (by omega)
  ·refine gL (rg hm) λt _=>?_
   have e:gC T (F.getD t 0) k=0:=by
    unfold gC
    rw[show T.getD k []=[] by rw[aL,hJ (by omega)];rfl];rfl
   rw[e,gK m _ (bC m hm)]) f hf
 omega
theorem cs2{C:Nat->Nat->Nat}{F:List Nat}(h0:0<F.length){c:Nat->Nat}(c1:∀t,c t<aa m)(c2:c (F.length-1)=1)(c3:∀k,gi m C F c k=0):¬ mO m C F:=λI=>by
 have:=I c c1 c3 (F.length-1) (by omega)
 omega
theorem za.first(hm:m∈au){R W:Nat}{x y:Nat->Nat}{T:List (List Nat)}(h:za m R W x y T)(hW:0<W)(hw:ai T=W):jF m T=if R<W then some (aD (R+1))else none:=by
 subst hw
 cases e:jF m T with
 | none =>
  have:=RM hm hW h.rt e
  by_cases c:R<ai T
  ·exact absurd (this _ (HF (n:=R+1) c)) (HG hm h.rt (by rw[bL,h.l];omega))
  ·rw[if_neg c]
 | some F =>
  obtain⟨a1,a2,⟨c,c1,c2,c3⟩,a4⟩:=HE hm hW h.rt e
  have ni:=cs2 a2 c1 c2 c3
  have hl:R<F.length:=Nat.lt_of_not_le λz=>ni (h.ind hm a1 z)
  have c:R<ai T:=dv hl a1.len
  rw[if_pos c]
  have nr:=HG hm h.rt (F:=aD (R+1)) (by rw[bL,h.l];omega)
  have hr:=HF (n:=R+1) c
  have lr:(aD (R+1)).length=R+1:=bL
  have l2:F.length=R+1:=by
   rcases EF (R+1) F.length with q | q
   ·exact absurd (a4 _ hr (.inl (by omega))) nr
   ·omega
  rcases RL (R+1) 0 (ai T) F a1.1 (λ_ _=>jh _) l2 with q | q
  ·rw[q,Yr]
  ·rw[<-Yr]at q
   exact absurd (a4 _ hr (.inr ⟨by omega,q⟩)) nr
end
end L3
namespace L2
open PySem PySem.Spec PyProof.Rows
section
variable{X:Cx}
end
end L2
namespace L3
open PySem L2 PySem.Spec PyProof.Rows
section
variable{X:Cx}{o e:Expr}{t tb:aS}{apos cX:Pos}
end
section
variable{X:Cx}{i:Nat}{x:Str}{p pos apos cX db4 y9:Pos}{a b:List Stmt}{t u:dO}{k:Int}{j}
end
end L3
namespace L3
open PySem L2 Mf
section
variable{N:Nat}{p q:Nat->Nat->Nat}
noncomputable def mP(p q:Nat->Nat->Nat)(n:Nat)(f:Nat->Nat):Nat->Nat
 | 0=>q (f 0) n
 | k+1=>p (q (f (k+1)) n) (f k)
theorem p4(r:Rg N p q)(a b c d:Nat):p (p a b) (p c d)=p (p a c) (p b d):=by rw[r.pa,r.pa,<- r.pa b,r.pc b c,r.pa c]
theorem Rg.dr(r:Rg N p q)(a b c:Nat):q (p a b) c=p (q a c) (q b c):=by rw[r.mc,r.dl,r.mc c,r.mc c]
theorem RN(r:Rg N p q){n:Nat}{f:Nat->Nat}(hf:∀k,f k<N):∀k,mP p q n f k<N
 | 0=>r.lq _ _
 | _+1=>r.lp (r.lq _ _) (hf _)
theorem q3(r:Rg N p q){a b c:Nat}(ha:a<N)(hb:b<N)(hc:c<N):q (q a b) c=q (q a c) b:=by rw[r.ma ha hb hc,r.mc b c,r.ma ha hc hb]
theorem b91(r:Rg N p q){n n':Nat}{f:Nat->Nat}(hn:n<N)(w4:n'<N)(hf:∀k,f k<N):mP p q n (mP p q n' f)=mP p q n' (mP p q n f):=funext λk=>by
 cases k with
 | zero=>exact q3 r (hf 0) w4 hn
 | succ k =>
  cases k with
  | zero =>
   show p (q (p (q (f 1) n') (f 0)) n) (q (f 0) n')=p (q (p (q (f 1) n) (f 0)) n') (q (f 0) n)
   rw[r.dr,r.dr,q3 r (hf 1) w4 hn,r.pa,r.pa,r.pc (q (f 0) n)]
  | succ k =>
   show p (q (p (q (f (k+2)) n') (f (k+1))) n) (p (q (f (k+1)) n') (f k))=p (q (p (q (f (k+2)) n) (f (k+1))) n') (p (q (f (k+1)) n) (f k))
   rw[r.dr,r.dr,q3 r (hf _) w4 hn,p4 r,p4 r (q (q (f (k+2)) n) n')]
noncomputable def ky(p q:Nat->Nat->Nat)(ng:Nat->Nat)(c:Nat):List Nat->Nat->Nat
 | []=>λk=>if k=0 then c else 0
 | s::S=>mP p q (ng s) (ky p q ng c S)
variable{ng:Nat->Nat}{c:Nat}
theorem HH(r:Rg N p q)(hc:c<N):∀(S:List Nat) k,ky p q ng c S k<N
 | [],k=>by
  show(if k=0 then c else 0)<N
  split
  ·exact hc
  ·exact r.pos
 | _::S,k=>RN r (HH r hc S) k
theorem ch0(r:Rg N p q)(hc:c<N)(hn:∀s,ng s<N){S S':List Nat}(h:S.Perm S'):ky p q ng c S=ky p q ng c S':=by
 induction h with
 | nil=>rfl
 | cons x _ ih=>show mP p q (ng x) _=mP p q (ng x) _;rw[ih]
 | swap x y l=>exact b91 r (hn _) (hn _) (HH r hc l)
 | trans _ _ a b=>exact a.trans b
theorem zb(r:Rg N p q):∀(S:List Nat) k,S.length<k->ky p q ng c S k=0
 | [],k,h=>if_neg (by simp at h;omega)
 | s::S,0,h=>absurd h (by simp)
 | s::S,k+1,h=>by
  rw[fF]at h
  show p (q (ky p q ng c S (k+1)) (ng s)) (ky p q ng c S k)=0
  rw[zb r S (k+1) (by omega),zb r S k (by omega),r.mc,r.qz,r.z r.pos]
theorem HI(r:Rg N p q)(hc:c<N):∀S:List Nat,ky p q ng c S S.length=c
 | []=>rfl
 | s::S=>by
  show p (q (ky p q ng c S (S.length+1)) (ng s)) (ky p q ng c S S.length)=c
  rw[zb r S (S.length+1) (by omega),HI r hc S,r.mc,r.qz,r.z hc]
end
section
variable{m:Bool × Nat}
theorem Cz(hm:m∈au){s:Nat}(hs:s<aa m):bu m 0 s<aa m/\gp m (bu m 0 s) s=0:=by
 have:=ir hm (a:=0) (b:=s) (by omega) hs
 exact⟨this.2.1,this.2.2⟩
noncomputable def jc(m:Bool × Nat)(s:Nat):Nat:=if s<aa m then bu m 0 s else 0
theorem CA(hm:m∈au)(s:Nat):jc m s<aa m:=by
 unfold jc
 split
 ·exact(Cz hm ‹_›).1
 ·exact(rg hm).pos
theorem RO{s:Nat}(hs:s<aa m):jc m s=bu m 0 s:=if_pos hs
theorem cv6(hm:m∈au){s x:Nat}(hs:s<aa m)(hx:x<aa m):gp m (jc m s) x=0↔x=s:=by
 have h:=(Cz hm hs).2
 rw[RO hs]
 refine⟨λe=>?_,λe=>e ▸ h⟩
 refine(rg hm).QR hx hs (Cz hm hs).1 ?_
 rw[g5,e,g5,h]
noncomputable abbrev PF(m:Bool × Nat)(c:Nat)(S:List Nat):Nat->Nat:=ky (gp m) (gm m) (jc m) c S
theorem CB(hm:m∈au){n:Nat}(hn:n<aa m):∀{L:List Nat},AllLt (aa m) L->∀k,p7 m [n,1] L k=mP (gp m) (gm m) n (cf L) k
 | [],_,0=>by
  show 0=gm m 0 n
  rw[dJ m _ (bC m hm)]
 | [],_,k+1=>by
  show 0=gp m (gm m 0 n) 0
  rw[dJ m _ (bC m hm),jX (rg hm).pos]
 | x::L,h,0=>by
  show gp m (gm m x n) 0=gm m x n
  exact iq (bJ hm _ _)
 | x::L,h,1=>by
  show gp m (gm m x 1) (p7 m [n,1] L 0)=gp m (gm m (cf L 0) n) x
  rw[kr (h x (by simp)),CB hm hn (λa ha=>h a (by simp[ha])) 0,g5];rfl
 | x::L,h,k+2=>by
  show gp m (gm m x (cf [n,1] (k+2))) (p7 m [n,1] L (k+1))=gp m (gm m (cf L (k+1)) n) (cf L k)
  rw[show cf [n,1] (k+2)=0 from rfl,gK m _ (bC m hm),CB hm hn (λa ha=>h a (by simp[ha])) (k+1),jX (RN (rg hm) (dq hm λa ha=>h a (by simp[ha])) _)];rfl
theorem RP(hm:m∈au){x:Nat}{l l':List Nat}(h:∀k,cf l k=cf l' k):bD m x l=bD m x l':=by rw[<-G3 hm,ci3 h,G3 hm]
theorem cD4(hm:m∈au){n x:Nat}(hn:n<aa m)(hx:x<aa m){L Q:List Nat}(hQ:AllLt (aa m) Q)(h:∀k,cf L k=mP (gp m) (gm m) n (cf Q) k):bD m x L=gm m (bD m x Q) (gp m n x):=by
 have lo:=lo1 hm
 rw[RP hm (l':=oo m Q [n,1]) λk=>by rw[h k,QQ hm,CB hm hn hQ],ce3 hm x Q [n,1] hQ (λa ha=>by
  simp only[cA,gR,or_false]at ha
  rcases ha with rfl | rfl
  ·exact hn
  ·exact lo)]
 congr 1
 show gp m (gm m (gp m (gm m 0 x) 1) x) n=gp m n x
 rw[dJ m _ (bC m hm),jX lo,og hx,g5]
noncomputable def qf(m:Bool × Nat)(c:Nat)(S:List Nat):List Nat:=(aD (S.length+1)).map (PF m c S)
theorem HJ(hm:m∈au)(c:Nat)(S:List Nat)(k:Nat):cf (qf m c S) k=PF m c S k:=by
 by_cases h:k<S.length+1
 ·exact y6 _ h
 ·rw[kx (by unfold qf;rw[bw,bL];omega)]
  exact(zb (rg hm) S k (by omega)).symm
theorem cJ4(hm:m∈au){c:Nat}(hc:c<aa m)(S:List Nat):AllLt (aa m) (qf m c S):=λa ha=>by
 obtain⟨k,_,rfl⟩:=bB.mp ha
 exact HH (rg hm) hc S k
theorem RQ(hm:m∈au){c x:Nat}(hc:c<aa m)(c0:c≠0)(hx:x<aa m):∀{S:List Nat},(∀s∈S,s<aa m)->(bD m x (qf m c S)=0↔x∈S)
 | [],_=>by
  show gp m (gm m 0 x) c=0↔_
  rw[dJ m _ (bC m hm),jX hc]
  simp[c0]
 | s::S,h=>by
  have hs:=h s (by simp)
  have ih:=RQ hm hc c0 hx (S:=S) λa ha=>h a (by simp[ha])
  have lS:=cJ4 hm hc S
  have hl:=Ca hm x lS
  have ga:=oi hm (CA hm s) hx
  rw[cD4 hm (Q:=qf m c S) (CA hm s) hx lS λk=>by rw[HJ hm,show cf (qf m c S)=_ from funext (HJ hm c S)];rfl]
  rw[cA,<- ih,<- cv6 hm hs hx]
  constructor
  ·intro e
   by_cases h1:bD m x (qf m c S)=0
   ·exact .inr h1
   ·by_cases h2:gp m (jc m s) x=0
    ·exact .inl h2
    ·exact absurd e (QC hm (by omega) hl (by omega) ga)
  ·rintro (e | e)
   ·rw[e,gK m _ (bC m hm)]
   ·rw[e,dJ m _ (bC m hm)]
theorem cG8(hm:m∈au){c x:Nat}(hc:c<aa m)(c0:c≠0)(hx:x<aa m){S L:List Nat}(hS:∀s∈S,s<aa m)(h:∀k,cf L k=PF m c S k):bD m x L=0↔x∈S:=by
 rw[RP hm (l':=qf m c S) λk=>by rw[h k,HJ hm]]
 exact RQ hm hc c0 hx hS
theorem cr4{l:List Nat}{d:Nat}(h1:cf l d≠0)(h2:∀k,d<k->cf l k=0):(eO l).length=d+1:=by
 have e1:=p5 l
 rcases QE l with h | h
 ·refine absurd (e1 d ▸ h1) ?_
  rw[kx (by omega)];simp
 ·have a:¬ (eO l).length<=d:=λz=>h1 (by rw[<-e1 d];exact kx z)
  have b:¬ d+1<(eO l).length:=λz=>h (by
   have:=e1 ((eO l).length-1)
   rw[h2 _ (by omega)]at this
   exact this)
  omega
theorem RU(hm:m∈au)(x:Nat):∀{l:List Nat},AllLt (aa m) l->∀n,l.length<=n->bD m x l=sm (gp m) n λk=>gm m (cf l k) (px m x k)
 | [],_,n,_=>(gL (rg hm) λj _=>by rw[show cf [] j=0 from rfl,dJ m _ (bC m hm)]).symm
 | a::l,h,0,hn=>by simp at hn
 | a::l,h,n+1,hn=>by
  have hl:AllLt (aa m) l:=λb hb=>h b (by simp[hb])
  rw[QT (rg hm) n λ_ _=>bJ hm _ _]
  show gp m (gm m (bD m x l) x) a=gp m (gm m a 1) (sm (gp m) n λj=>gm m (cf l j) (gm m (px m x j) x))
  rw[kr (h a (by simp)),g5,RU hm x hl n (by simpa using hn),fq m _ x,<- oq (rg hm)]
  congr 1
  exact cR λj _=>by rw[fq m x,fG (bC m hm)]
end
end L3
namespace L2
open PySem PySem.Spec PyProof.Rows
section
variable{prog:Program}{w:World}{A:Around}{E:Value->Shared->Prop}{s:Shared}
end
section
variable{X:Cx}{e:Expr}{ta:TA}{p p2 pos y9:Pos}
end
end L2
namespace L3
open PySem L2 PySem.Spec PyProof.Rows
section
variable{X:Cx}{e:Expr}{tr:cU}{p p2 pos y9:Pos}
end
end L3
namespace L3
open PySem L2 Mf
section
variable{m:Bool × Nat}
theorem cC4{N:Nat}{p q:Nat->Nat->Nat}(r:Rg N p q){f:Nat->Nat}(hf:∀j,f j<N){n a:Nat}(ha:a<n):sm p n f=p (f a) (sm p n λj=>if j=a then 0 else f j):=by
 rw[cR (g:=λj=>p (if j=a then f a else 0) (if j=a then 0 else f j)) λj _=>?_,k9 r,sD r (f:=λj=>if j=a then f a else 0) (j0:=a) (by simp[hf]) ha λj _ hj=>if_neg hj]
 ·simp
 ·by_cases c:j=a
  ·subst c;simp[r.z' (hf j)]
  ·simp[c,r.z (hf j)]
theorem RV{N:Nat}{p q:Nat->Nat->Nat}(r:Rg N p q){n:Nat}:∀{ps:List Nat} {f:Nat->Nat},(∀j,f j<N)->ps.Nodup->(∀a∈ps,a<n)->(∀j,j<n->j ∉ ps->f j=0)->sm p n f=sm p ps.length λk=>f (ps.getD k 0)
 | [],f,_,_,_,hz=>gL r λj hj=>hz j hj gR
 | a::ps,f,hf,nd,hp,hz=>by
  obtain⟨n1,n2⟩:=jJ.mp nd
  have Hq:∀j,(if j=a then 0 else f j)<N:=λj=>by
   by_cases c:j=a
   ·rw[if_pos c];exact r.pos
   ·rw[if_neg c];exact hf j
  rw[cC4 r hf (hp a iO),RV r (ps:=ps) Hq n2 (λb hb=>hp b (gE _ hb)) λj hj hn=>?_,fF,QT r _ λj _=>hf _]
  ·show _=p (f a) (sm p ps.length λk=>f (ps.getD k 0))
   congr 1
   refine cR λj hj=>?_
   have:=ft hj 0
   exact if_neg λ(z:ps.getD j 0=a)=>n1 (z ▸ this)
  ·by_cases c:j=a
   ·exact if_pos c
   ·rw[if_neg c]
    exact hz j hj λh=>by
     rcases cA.mp h with h | h
     ·exact c h
     ·exact hn h
theorem cB5(hm:m∈au){a b:Nat}(ha:a<aa m)(hb:b<aa m)(h:a≠b):bu m a b≠0:=λz=>by
 have g:=(ir hm ha hb).2.2
 rw[z,jX hb]at g
 exact h g.symm
section
variable{b e L o:Nat}{y:List (Option Nat)}{w c:List Nat}{bb:Nat->Nat}
end
end
noncomputable def vZ:Option Nat->D
 | none=>.ax
 | some a=>.int (a:Int)
noncomputable def oy(y:List (Option Nat)):List D:=y.map vZ
theorem RW(a:Option Nat):(vZ a).sh=vZ a:=by cases a<;>rfl
theorem cr0:∀a b:Option Nat,vZ a=vZ b->a=b
 | none,none,_=>rfl
 | some a,some b,h=>by
  have:(D.int (a:Int))=D.int (b:Int):=h
  injection this with h
  rw[show a=b by omega]
 | none,some _,h=>by cases h
 | some _,none,h=>by cases h
theorem cu7(y:List (Option Nat)):(oy y).map D.sh=oy y:=by
 unfold oy;rw[cj];exact qy λa _=>RW a
theorem ch7(y:List (Option Nat)):(oy y).length=y.length:=bw ..
end L3
namespace L3
open PySem L2 Mf
section
variable{m:Bool × Nat}
theorem CC:∀{l l':List Nat},l.Nodup->(∀a∈l,a∈l')->l.length<=l'.length
 | [],_,_,_=>jh _
 | a::l,l',nd,h=>by
  obtain⟨n1,n2⟩:=jJ.mp nd
  have ha:=h a iO
  have:=CC (l:=l) (l':=l'.erase a) n2 λb hb=>(List.mem_erase_of_ne (λz:b=a=>n1 (z ▸ hb))).mpr (h b (gE _ hb))
  rw[List.length_erase_of_mem ha]at this
  have:=List.length_pos_of_mem ha
  rw[fF]
  omega
end
end L3
namespace L3
open PySem L2 Mf
section
variable{m:Bool × Nat}
end
end L3
namespace L3
open PySem L2 Mf
section
variable{m:Bool × Nat}
end
end L3
namespace L3
open PySem L2 Mf
section
variable{m:Bool × Nat}
theorem cJ6(hm:m∈au){r u v ps:List Nat}{n:Nat}(hu:AllLt (aa m) u)(hv:AllLt (aa m) v)(lr:r.length=n)(lu:u.length=n)(lv:v.length=n)(nd:ps.Nodup)(hp:∀p∈ps,p<n)(hs:∀j,j<n->j ∉ ps->cf u j=cf v j) :
  gd m r u=gp m (sm (gp m) ps.length λt=>gm m (cf r (ps.getD t 0)) (bu m (cf u (ps.getD t 0)) (cf v (ps.getD t 0)))) (gd m r v):=by
 have g:=rg hm
 have h0:=bC m hm
 have dn:∀j,gp m (bu m (cf u j) (cf v j)) (cf v j)=cf u j:=λj=>(ir hm (dq hm hu j) (dq hm hv j)).2.2
 rw[ot m (lr.trans lu.symm),ot m (lr.trans lv.symm),lr,
  cR (g:=λk=>gp m (gm m (cf r k) (bu m (cf u k) (cf v k))) (gm m (cf r k) (cf v k))) λk _=>by rw[<-vR h0,dn k],k9 g,
  RV g (ps:=ps) (f:=λk=>gm m (cf r k) (bu m (cf u k) (cf v k))) (λ_=>bJ hm _ _) nd hp λj hj hn=>by rw[hs j hj hn,Ce,gK m _ h0]]
end
end L3
namespace L3
open PySem L2 PySem.Spec PyProof.Rows
section
variable{X:Cx}{e:Expr}{t:aS}
noncomputable def v3(t:aS):aS:=λδ Q=>t δ λd ah=>Q d.sh ah
theorem RX(h:PE X e (lE t)):PE X e (lB (v3 t)):=dP h λσ H Q zq=>by
 obtain⟨B,F,δ,ts,Qd,c,q,k⟩:=zq
 exact⟨B,F,δ,ts,_,c,q,λd ah v F' H' hd sf sh c'=>by
 obtain⟨F2,f2,c2⟩:=c'.FQ
 exact k d.sh ah v F2 H' hd (sf.trans f2) sh c2.pop c2.top⟩
end
end L3
namespace L3
open PySem L2 Mf
section
variable{m:Bool × Nat}
theorem HK(hm:m∈au){T:List (List Nat)}(hT:RT (aa m) (ai T) T):RT (aa m) (ai T) (i8 m (cu m T) (ai T))/\(i8 m (cu m T) (ai T)).length<=ai T:=by
 obtain⟨⟨Hd,I⟩,iR,_,_⟩:=mN hm hT
 refine⟨λr hr=>?_,?_⟩
 ·obtain⟨f,hf,rfl⟩:=bB.mp hr
  obtain⟨k1,k2,_⟩:=Cr hm iR I hf
  exact⟨k1,k2⟩
 ·unfold i8 gg
  rw[bw]
  exact fU (Ys ..) (by rw[bL];exact bK _)
theorem cC6(hm:m∈au){T:List (List Nat)}(hT:RT (aa m) (ai T) T):∀r∈cu m T,∃x∈r,x≠0:=λr bj=>by
 obtain⟨⟨Hd,I⟩,iR,_,_⟩:=mN hm hT
 obtain⟨j,hj,rfl⟩:=iQ bj
 have:=(I.Ht hm iR hj).2
 rw[cC9 hj]at this
 exact this
theorem co1(hm:m∈au){T:List (List Nat)}{xs:List Nat}(hT:RT (aa m) (ai T) T)(hx:xs.length=(i8 m (cu m T) (ai T)).length):∀r∈T,gd m r (ou m xs (i8 m (cu m T) (ai T)) (ai T))=0:=λr hr=>by
 have h0:=bC m hm
 obtain⟨⟨Hd,I⟩,iR,_,_⟩:=mN hm hT
 have s:cS m (cu m T) (cf r):=cS.red hm hT (cS.of hr)
 rw[ot m ((hT r hr).1.trans (Rl ..).symm),(hT r hr).1]
 rw[cR (g:=λj=>gm m (cf r j) (sm (gp m) (i8 m (cu m T) (ai T)).length λi=>gm m (cf xs i) (cf ((i8 m (cu m T) (ai T)).getD i []) j))) λj hj=>by rw[y7 m hx hj]]
 have e:=Rp hm (ai T) (cf r) (cf xs) (λi=>cf ((i8 m (cu m T) (ai T)).getD i [])) (i8 m (cu m T) (ai T)).length
 unfold dt at e
 rw[e]
 refine gL (rg hm) λi hi=>?_
 have z:=ft hi []
 generalize (i8 m (cu m T) (ai T)).getD i []=K at z
 obtain⟨f,hf,rfl⟩:=bB.mp z
 have:=cS.dt hm (R:=cu m T) (n:=ai T) (y:=cf (g8 m (cu m T) (ai T) f)) (λi hi=>Rq hm iR I hf hi) s
 unfold dt at this
 rw[this,gK m _ h0]
end
end L3
namespace L3
open PySem L2 Mf
section
variable{m:Bool × Nat}
end
end L3
namespace L2
open PySem PySem.Spec PyProof.Rows
section
variable{X:Cx}{CX:fA}{k:Nat}{f C:Addr}{fd:FuncData}{ps:List Str}{sp:Sp}{E:XK}{x m:Str}{p pos apos:Pos}{e:Expr}{es:List Expr}{t:TA}
noncomputable def tCM(sp:Sp)(E:XK)(t:TA):TE:=λσ H Q=>t σ H λvs H1=>sp vs H1 Q E
theorem HL{pl:Sem Bool}(M:vI X.K C m f)(F:aN X.prog X.w X.K X.mg X.base CX k f fd ps sp)(hr:cF k X.A)(hb:Binds X.K fd ps [])(hx:kN CX X E)(hg:Gl X x)(hm:X.mg x=some (.ref C))(ha:PA X (e::es) t)
  (eH:(x==("__debug__":Str))=false:=by decide) (h9:starEach (e::es) X.env=(false,eval e X.env)::starEach es X.env:=by rfl) (bZ:(backTo pos (starEach es X.env)).any (·.1)=false:=by rfl)
  (ht:eval (.Call (.Attribute (.Name x p) m apos) (e::es) [] pos) X.env=(do
   let ov<-eval (.Name x p) X.env
   standAt apos.atName
   let (f,first)<-holding [ov] (getMethod ov m pl)
   callWith pos f first (backTo pos (starEach (e::es) X.env)) (backToKw pos (keywordEach [] X.env))):=by rfl) :
  PE X (.Call (.Attribute (.Name x p) m apos) (e::es) [] pos) (tCM sp E t):=by
 intro pins s σ H Q I h
 exact PY (pl:=pl) I M hg hm ha h (λus s1 vs H1 I1 r q=>xo (fK:=[]) F hr hb .nil hx I1 r (by rw[gn];exact q)) eH h9 bZ ht
end
end L2
namespace L3
open PySem L2 PySem.Spec PyProof.Rows
end L3
namespace L3
open PySem L2 PySem.Spec PyProof.Rows
noncomputable def CD(tl:List Addr)(C:Addr)(jW:List D->List Str->List D->Prop):L2.Sp:=λvs H Q _=>∃F H0 x dx bX ds ns xs,vs=.ref x::bX/\Tb tl H/\af F H0/\H0 x=none/\af H0 H/\H x=some (.ins C dx [])/\R F H0 ds bX []/\jW ds ns xs /\
 ∀H' ws A,bO x H H'->H' x=some (.ins C dx (ns.zip ws))->ns.length=ws.length->R F H' xs ws A->A.Nodup->(∀a∈A,H a=none)->Q .ax H'
noncomputable def v7(C:Addr)(jW:List D->List Str->List D->Prop)(ta:cU):aS:=λδ Q=>ta δ λds ah=>ds.all D.pl=true/\∃ns xs,jW ds ns xs/\Q (.obj C ns (xs.map D.sh)) ah
theorem av.dr3{B:Bs}{F H H':Hp}{σ:L2.St}{δ:Dl}{ts:List (D × V)}{C dx x:Addr}{ns:List Str}{xs:List D}{ws:List V}{A:List Addr}(c:av B F H σ δ ts)(hs:af H H')(hx:H' x=some (.ins C dx (ns.zip ws)))(hl:ns.length=ws.length)
  (r1:R F H' xs ws A) (fr:∀a∈A,H a=none):af F (L3.bx F H' A)/\av B (L3.bx F H' A) H' σ δ ((.obj C ns (xs.map D.sh),.ref x)::ts):=by
 have c1:=c.grow hs
 have r2:=r1.bx c1.ext A (λ_ h=>h)
 have fs:af F (L3.bx F H' A):=iE c1.ext
 obtain⟨A',C',r',s',nd,vK⟩:=c.own
 have out:∀a,(∃ws,H a=some (.lst ws))/\F a=none->L3.bx F H' A a=none:=λa zz=>by
  obtain⟨⟨ws,h⟩,hf⟩:=zz
  rw[pB (λz=>by rw[fr a z]at h;cases h)];exact hf
 have g1:=r'.grow fs hs λa ha=>out a (r'.lists a ha)
 have g2:=s'.keep fs (gw.same hs) gX.nil (λa ha=>out a (s'.lists a ha)) (by simp)
 refine⟨fs,nE c1.ext,c1.b1,c1.b2.trans fs,λa ws h=>?_,A',C',?_,g2,nd,vK⟩
 ·by_cases z:a∈A
  ·exact .inr (c.b1.free (fr a z))
  ·rw[pB z]at h;exact c.b3 a ws h
 ·exact R.obj hx hl r2 g1
section
variable{X:Cx}{CX:fA}{n:Nat}{f C:Addr}{fd:FuncData}{ps:List Str}{jW:List D->List Str->List D->Prop}{E:XK}{x:Str}{p pos:Pos}{e:Expr}{es:List Expr}{t:cU}{tl:List Addr}
theorem CF(hT:Tb tl X.mf)(M:L2.Mk X.K C f)(F:aN X.prog X.w X.K X.mg X.base CX n f fd ps (CD tl C jW))(hr:cF (n+1) X.A)(hg:Gl X x)(hm:X.mg x=some (.ref C))(hb:Binds X.K fd ps [])(hx:kN CX X E)
  (ha:PA X (e::es) (lA t)) (eH:(x==("__debug__":Str))=false:=by decide) (he:starEach (e::es) X.env=(false,eval e X.env)::starEach es X.env:=by rfl) (bZ:(backTo pos (starEach es X.env)).any (·.1)=false:=by rfl) :
  PE X (.Call (.Name x p) (e::es) [] pos) (lE (v7 C jW t)):=by
 intro pins s σ H Q I zz
 obtain⟨B,F',δ,ts,Qd,c,q,k⟩:=zz
 have tb:=GJ I hT
 refine NJ M F hr hg hm hb .nil hx ha eH he bZ pins s σ H Q I ⟨B,F',δ,ts,_,c,q,λds ao vs F1 H1 q1 f1 h1 c1 s1=>?_⟩
 intro x dx cM eE mx
 obtain⟨hp,ns,xs,hI,hq⟩:=q1
 have sm:af H1 (upd (upd H1 dx (.own x)) x (.ins C dx [])):=.of λb o e=>by rw[bo (fj e cM),bo (fj e eE)];exact e
 refine⟨F1,H1,x,dx,vs,ds,ns,xs,by rw[gn],yG (yG tb h1) sm,c1.ext,cM,sm,bQ,s1.r hp,hI,λH' ws A yI dj hl r nd fr=>⟨rfl,?_⟩⟩
 have s2:af H1 H':=⟨λb o e n=>yI.get b o (fj e cM) (sm.get b o e n) n,λb ps e=>by
  obtain⟨m1,e1⟩:=sm.tb b ps e
  obtain⟨m2,e2⟩:=yI.tb b _ e1
  exact⟨m1++m2,by rw[e2,sZ]⟩⟩
 obtain⟨fs,c2⟩:=c1.dr3 s2 dj hl r λa ha=>sm.free (fr a ha)
 exact k _ ao _ _ H' hq (f1.trans fs) (h1.trans s2) c2
end
section
variable{X:Cx}{e:Expr}{te:aS}{x:Str}{p pos:Pos}{i:Nat}
end
theorem bO.of0{x:Addr}{H0 H H':Hp}(h0:H0 x=none)(s:af H0 H)(sx:bO x H H'):af H0 H' :=
 ⟨λb o e n=>sx.get b o (λz=>by rw[z,h0]at e;cases e) (s.get b o e n) n,λb ps e=>by
  obtain⟨m1,e1⟩:=s.tb b ps e
  obtain⟨m2,e2⟩:=sx.tb b _ e1
  exact⟨m1++m2,by rw[e2,sZ]⟩⟩
theorem v9{F H:Hp}{v:V}{A:List Addr}{xs:List D}(r:R F H [.lst true xs] [v] A):∃p,v=.ref p:=by
 cases r
 exact⟨_,rfl⟩
theorem RY{F H F' H':Hp}:∀{l:List Int} {ws:List V} {A:List Addr},R F H (aJ l) ws A->R F' H' (aJ l) ws A
 | [],_,_,r=>by cases r;exact .nil
 | i::l,_,_,r=>by
  cases r with
  | int r=>exact .int (RY r)
theorem RZ{F H H':Hp}:∀{G:List (List Nat)} {ws:List V} {A:List Addr},R F H (aA true G) ws A->(∀a∈A,H' a=H a)->R F H' (aA true G) ws A
 | [],_,_,r,_=>by cases r;exact .nil
 | g::G,_,_,r,h=>by
  cases r with
  | own e f x y=>exact .own (by rw[h _ iO];exact e) f (RY (l:=g.map λ(n:Nat)=>(n:Int)) x) (RZ y λa ha=>h a (gE _ (df _ ha)))
theorem R0{F H H':Hp}{G:List (List Nat)}{v:V}{A:List Addr}(r:R F H [.lst true (aA true G)] [v] A)(h:∀a∈A,H' a=H a):R F H' [.lst true (aA true G)] [v] A:=by
 cases r with
 | own e f x y =>
  cases y
  exact .own (by rw[h _ iO];exact e) f (RZ x λa ha=>h a (gE _ (fE _ ha))) .nil
noncomputable abbrev oA:List Str:=["field","length","check_rows","word_rows","message_places","size"]
structure dr4(K:PySem.W.Frag)(C:Addr):Prop where
 cls:cQ K C
 field:bq K C "field"
 length:bq K C "length"
 dr5:bq K C "check_rows"
 dr6:bq K C "word_rows"
 R1:bq K C "message_places"
 size:bq K C "size"
end L3
namespace L3
open PySem L2 Mf
section
variable{m:Bool × Nat}
noncomputable def iN(m:Bool × Nat)(n i:Nat):List Nat:=aQ i 0++[1]++aQ (n-2-i) 0++[bu m 0 1]
noncomputable def fv(m:Bool × Nat)(n:Nat):List (List Nat):=(aD (n-1)).map (iN m n)
theorem sG{n i:Nat}(hi:i<n-1)(j:Nat):cf (iN m n i) j=if j=i then 1 else if j=n-1 then bu m 0 1 else 0:=by
 unfold iN cf
 rw[aL]
 by_cases c1:j<i
 ·rw[if_neg (by omega),if_neg (by omega),eC,eC,oR (by rw[dG];exact c1),kF,if_pos c1];rfl
 ·by_cases c2:j=i
  ·rw[if_pos c2,eC,eC,lV (by rw[dG];omega),dG,c2,wU];rfl
  ·rw[if_neg c2]
   by_cases c3:j<n-1
   ·rw[if_neg (by omega),oR (by simp only[dF,dG,lW];omega),lV (by simp only[dF,dG,lW];omega),kF]
    split<;>rfl
   ·rw[lV (by simp only[dF,dG,lW];omega)]
    simp only[dF,dG,lW]
    by_cases c4:j=n-1
    ·rw[if_pos c4,show j-(i+1+(n-2-i))=0 by omega];rfl
    ·rw[if_neg c4,hJ (by rw[lW];omega)];rfl
theorem zc(hm:m∈au){n:Nat}(h2:2<=n):RT (aa m) n (fv m n)/\(fv m n).length=n-1/\ai (fv m n)=n:=by
 have cJ:=lo1 hm
 have g:=(ir hm (show 0<aa m by omega) (show 1<aa m by omega)).2.1
 have l:(fv m n).length=n-1:=by unfold fv;rw[bw,bL]
 have r:RT (aa m) n (fv m n):=λx hx=>by
  obtain⟨i,hi,rfl⟩:=bB.mp hx
  have hi:=bY.mp hi
  unfold iN
  refine⟨by simp only[dF,dG,lW];omega,λa ha=>?_⟩
  simp only[cE,m4,fW]at ha
  rcases ha with ((⟨_,rfl⟩ | rfl) | ⟨_,rfl⟩) | rfl
  ·omega
  ·omega
  ·omega
  ·exact g
 exact⟨r,l,y8 r λz=>by rw[z]at l;exact absurd l (by show ¬ (0=n-1);omega)⟩
theorem cb8(hm:m∈au){n s:Nat}(h2:2<=n)(hs:s<aa m):∀r∈fv m n,gd m r (aQ n s)=0:=λr hr=>by
 have g:=rg hm
 have h0:=bC m hm
 have cJ:=lo1 hm
 obtain⟨rt,l,w⟩:=zc hm h2
 obtain⟨i,hi,rfl⟩:=bB.mp hr
 have hi:=bY.mp hi
 have lr:=(rt _ hr).1
 rw[ot m (by rw[lr,dG]),lr,Hw g (f:=λj=>gm m (cf (iN m n i) j) (cf (aQ n s) j)) (a:=i) (b:=n-1) (by omega) (by omega) (by omega) (bJ hm _ _) (bJ hm _ _) λj hj c1 c2=>by rw[sG hi,if_neg c1,if_neg c2,dJ m _ h0]]
 have e:∀j,j<n->cf (aQ n s) j=s:=λj hj=>by unfold cf;rw[aL,kF,if_pos hj];rfl
 rw[sG hi,if_pos rfl,sG hi,if_neg (by omega),if_pos rfl,e i (by omega),e (n-1) (by omega),<- sq h0,g5,(ir hm (show 0<aa m by omega) (show 1<aa m by omega)).2.2,dJ m _ h0]
end
end L3
namespace L2
open PySem PySem.Spec PyProof.Rows
structure CG(K:PySem.W.Frag)(x qual:Str)(st:Stmt)(f:Addr)(fd:FuncData):Prop where
 ex:∃(oc:Value) (od:Option Addr) (dV kV doc pm:Value) (an:Option Addr) (aE ct:Value) (iS:Array (Option Value)),
  fd=PySem.W.fnOf x qual (iV st) (gr st) (aM st) dV kV doc pm an aE ct/\K.lookup f=some ⟨oc,od,.func fd,iS⟩/\PySem.W.codeIn K aE qual=true
 kp:PySem.W.keepIn K (.ref f)=true
section
variable{P:Program}{w:World}{K:PySem.W.Frag}{mg:Str->Option Value}{base:Heap}
theorem CG.ok{x qual:Str}{st:Stmt}{f:Addr}{fd:FuncData}{N ps:List Str}{k:Nat}{sp:Sp}(F:CG K x qual st f fd)(S:aW N ps (aM st))(len:∀vs H Q E,sp vs H Q E->vs.length=ps.length)
  (iT:∀(aE:Value) (A:Around) (outer:List Env) (s:Shared) (H:Hp) (vs:List V) (Q:VK) (E:XK),cF k (A.deeper (envOfC qual (aM st) s.heap.objs.size f aE))->sp vs H Q E ->
   ∃t,PSs (jN aP P w K mg base N qual (aM st) f aE A outer s H E).h7 (gr st) t/\t { nx:=λ_ H'=>Q .ax H',rt:=Q } (start N vs) H):aN P w K mg base aP (k+1) f fd ps sp:=by
 obtain⟨oc,od,dV,kV,doc,pm,an,aE,ct,iS,rfl,lk,dh⟩:=F.ex
 refine E9 lk dh S len λA outer s H vs Q E hr ju=>?_
 obtain⟨t,h,q⟩:=iT aE A outer s H vs Q E hr ju
 exact⟨t,h.h7,q⟩
theorem cx9{x qual:Str}{st:Stmt}{f:Addr}{oc:Value}{od an:Option Addr}{iS:Array (Option Value)}{dV kV doc pm aE ct:Value}(l:K.lookup f=some ⟨oc,od,.func (PySem.W.fnOf x qual (iV st) (gr st) (aM st) dV kV doc pm an aE ct),iS⟩)
  (c:PySem.W.codeIn K aE qual=true) (k:PySem.W.keepIn K (.ref f)=true):CG K x qual st f (PySem.W.fnOf x qual (iV st) (gr st) (aM st) dV kV doc pm an aE ct):=⟨⟨oc,od,dV,kV,doc,pm,an,aE,ct,iS,rfl,l,c⟩,k⟩
theorem cK3{fd:FuncData}{ps:List Str}{T:Addr}{o:Obj}{items:Array Value}{n:Nat}(hd:fd.defaults=.ref T)(ho:K.lookup T=some o)(hs:o.data=.seq items n)
  (h:∀us:List Value,us.length=ps.length->∃k,bindArgs fd ⟨us,[]⟩=seqItems? fd.defaults >>= k/\k (some items)=pure (ps.zip us)):Binds K fd ps []:=λs us KX hl=>by
 rw[gn]at hl ⊢
 obtain⟨k,h1,h2⟩:=h us hl
 exact .of_defaults hd (KX _ _ ho) hs h1 h2
end
end L2
namespace L3
open PySem L2 Mf
inductive Kd
 | oB (b:Nat) | rep | lJ (e f:Nat)
structure sH(pre:List (Str × V)):Prop where
 put:∀(n:Str) (v:V) (l:List (Str × V)),n∈oA->bE n v (pre++l)=pre++bE n v l
 look:∀(n:Str) (l:List (Str × V)),n∈oA->(pre++l).lookup n=l.lookup n
 len:pre.length<=2
theorem sH.nil:sH []:=⟨λ_ _ _ _=>rfl,λ_ _ _=>rfl,by decide⟩
theorem sH.two(e f:V):sH [("extra",e),("first",f)]:=by
 have h1:∀n∈oA,("extra":Str)≠n/\("first":Str)≠n:=by decide
 refine⟨λn v l hn=>?_,λn l hn=>?_,bK 2⟩
 ·obtain⟨a,b⟩:=h1 n hn
  show bE n v (("extra",e)::("first",f)::l)=_
  rw[bE,if_neg a,bE,if_neg b];rfl
 ·obtain⟨a,b⟩:=h1 n hn
  show lU n (("extra",e)::("first",f)::l)=_
  rw[gq,beq_false_of_ne a.symm,gq,beq_false_of_ne b.symm]
theorem sH.lt{pre l:List (Str × V)}(h:sH pre)(hl:l.length<=6):(pre++l).length<1000:=by
 have:=h.len
 rw[dF];omega
section
variable{m:Bool × Nat}{G:List (List Nat)}
noncomputable def lK(m:Bool × Nat)(G:List (List Nat)):List (List Nat):=i8 m (cu m G) (ai G)
noncomputable def bN(m:Bool × Nat)(G:List (List Nat)):List Nat:=gg (cu m G) (ai G)
noncomputable def mQ(cb cp:Addr)(o:Bool)(m:Bool × Nat)(G:List (List Nat)):List D:=[fD cb cp m,.int (ai G:Nat),.lst o (aA o G),.lst o (aA o (lK m G)),.lst o (aj (bN m G)),.int ((bN m G).length:Nat)]
noncomputable def uh(cb cp cc cr cs:Addr)(m:Bool × Nat)(G:List (List Nat)):Kd->D
 | .oB b=>.obj cc ["field","length","check_rows","word_rows","message_places","size","bound"] (mQ cb cp false m G++[.int (b:Nat)])
 | .rep=>.obj cr oA (mQ cb cp false m G)
 | .lJ e f=>.obj cs ["extra","first","field","length","check_rows","word_rows","message_places","size"] ([.int (e:Nat),.int (f:Nat)]++mQ cb cp false m G)
theorem CH(cb cp:Addr)(o:Bool)(m:Bool × Nat)(G:List (List Nat)):(mQ cb cp o m G).map D.sh=mQ cb cp false m G:=by
 unfold mQ
 simp only[dw,j7,vQ,eK,e7,rT,<- cH,pQ]
theorem R3(cb cp cc cr cs:Addr)(m:Bool × Nat)(G:List (List Nat))(k:Kd):(uh cb cp cc cr cs m G k).sh=uh cb cp cc cr cs m G k:=by cases k<;>rfl
theorem cE1(cb cp cc cr cs:Addr)(m:Bool × Nat)(G:List (List Nat))(k:Kd):(uh cb cp cc cr cs m G k).pl=true:=by cases k<;>rfl
structure eo(m:Bool × Nat)(G:List (List Nat)):Prop where
 hm:m∈au
 rt:RT (aa m) (ai G) G
 len:G.length<=64
 HM:ai G<=64
 sz:0<(bN m G).length
theorem eo.red(h:eo m G):(∃H,RR (ai G) (cu m G) H)/\RT (aa m) (ai G) (cu m G):=⟨(mN h.hm h.rt).1,(mN h.hm h.rt).2.1⟩
theorem lM(m:Bool × Nat)(G:List (List Nat)):(lK m G).length=(bN m G).length:=by unfold lK bN i8;rw[bw]
theorem cC2{j:Nat}(hj:j<(bN m G).length):(lK m G).getD j []=g8 m (cu m G) (ai G) ((bN m G).getD j 0):=p9 (g8 m (cu m G) (ai G)) hj 0 []
theorem R4{j:Nat}(hj:j<(bN m G).length):(bN m G).getD j 0∈gg (cu m G) (ai G):=by
 rw[aL,aO hj];exact dz hj
theorem R5(m:Bool × Nat)(G:List (List Nat)):(bN m G).Nodup:=Yn _ EH
theorem cC7{j:Nat}(hj:j∈bN m G):j<ai G:=bY.mp (qo.mp hj).1
theorem eo.rows(h:eo m G):RT (aa m) (ai G) (lK m G):=(HK h.hm h.rt).1
theorem eo.Ct(h:eo m G):(bN m G).length<=ai G:=by rw[<-lM];exact(HK h.hm h.rt).2
theorem eo.wide(h:eo m G):ai (lK m G)=ai G:=y8 h.rows λz=>by
 have:=h.sz
 rw[<-lM,z]at this
 exact absurd this (by decide)
noncomputable def cT(m:Bool × Nat)(G:List (List Nat))(l:List Nat):List Nat:=ou m l (lK m G) (ai G)
theorem oE(m:Bool × Nat)(G:List (List Nat))(l:List Nat):(cT m G l).length=ai G:=Rl ..
theorem eo.CI(h:eo m G){l:List Nat}(hl:l.length=(bN m G).length):AllLt (aa m) (cT m G l):=cB0 h.hm _ (by rw[lM];exact hl)
theorem eo.word(h:eo m G){l:List Nat}(hl:l.length=(bN m G).length):∀r∈G,gd m r (cT m G l)=0:=co1 h.hm h.rt (by rw[hl,<- lM];rfl)
theorem eo.at(h:eo m G){l:List Nat}(hl:l.length=(bN m G).length)(al:AllLt (aa m) l){j:Nat}(hj:j<(bN m G).length):cf (cT m G l) ((bN m G).getD j 0)=cf l j:=by
 have hm:=h.hm
 have g:=rg hm
 obtain⟨⟨H,I⟩,hR⟩:=h.red
 have fr:=λ{k:Nat} (hk:k<(bN m G).length)=>(I.free hm hR _).mp (R4 hk)
 unfold cT
 rw[y7 m (by rw[lM];exact hl) (fr hj).1,lM]
 have k1:∀i,i<(bN m G).length->cf ((lK m G).getD i []) ((bN m G).getD j 0)=if i=j then 1 else 0:=λi hi=>by
  rw[cC2 hi]
  obtain⟨_,_,a,_,b⟩:=Cr hm hR I (R4 hi)
  by_cases c:i=j
  ·rw[if_pos c,<- c];exact a
  ·rw[if_neg c]
   refine b _ (λz=>c ?_) (fr hj).2
   rw[aL,aL,aO hi,aO hj]at z
   exact((List.getElem_inj (R5 m G)).mp z).symm
 rw[sD g (f:=λi=>gm m (cf l i) (cf ((lK m G).getD i []) ((bN m G).getD j 0))) (j0:=j) (bJ hm _ _) hj λi hi c=>by rw[k1 i hi,if_neg c,fq m _ 0,dJ m _ (bC m hm)],k1 j hj,if_pos rfl,kr (dq hm al j)]
theorem eo.read(h:eo m G){l:List Nat}(hl:l.length=(bN m G).length)(al:AllLt (aa m) l):((bN m G).map λj=>cf (cT m G l) j)=l:=by
 refine yZ (w:=(bN m G).length) (bw ..) hl λk hk=>?_
 rw[show cf ((bN m G).map λj=>cf (cT m G l) j) k=cf (cT m G l) ((bN m G).getD k 0) from p9 (λj=>cf (cT m G l) j) hk 0 0]
 exact h.at hl al hk
end
end L3
namespace L3
open PySem L2 PySem.Spec PyProof.Rows
section
variable{X:Cx}{scope:Scope}{tg iter elt:Expr}{ifs:List Expr}{pos:Pos}{cl:List (Str × Addr)}{ti:jy}{g:iF}{tt:fX}{te:aS}
theorem cd1{i:Nat}{x:Str}{pos' apos:Pos}(hN:X.N.Nodup)(yW:X.N[i]?=some x)(hx:L2.Loc X.env.scope x)(aH:List (Str × Nat))(bM:List Str)(hc:X.calm=true)(hi:PI X tg iter (lI ti))
  (hg:∀C s H fp,PG (dS X scope (aH.map (·.1)++bM) cl C s H fp) tg (lG aH.length g))
  (ht:∀C s H fp,mq (dS X scope (aH.map (·.1)++bM) cl C s H fp) ifs (lT tt)) (he:∀C s H fp,PE (dS X scope (aH.map (·.1)++bM) cl C s H fp) elt (lE te))
  (lj:closureFor scope X.env=pure cl) (ly:mr X cl) (lC:∀C:Addr,mw (cellsFrom (C+1) scope.names cl) (relabel scope X.env).names) (lD:∀C:Addr,mn X scope (cellsFrom (C+1) scope.names cl) aH)
  (iB:scope.kind=.function) (lF:∀y∈scope.names,y.2=.local->scope.names.lookup y.1=some .local)
  (rO:swapsWith (.ListComp elt [⟨tg,iter,ifs,0⟩] scope pos) (some (.Name x pos')) apos.line X.env=pure true:=by rfl) (hf:X.fn x=true\/X.env.scope.names.lookup x=some .local:=by first | exact .inl rfl | exact .inr rfl)
  (hs:∀x,foldedSetIterable iter X.env x=pure x:=by intro _;rfl):PS X (.Assign [.Name x pos'] (.ListComp elt [⟨tg,iter,ifs,0⟩] scope pos) apos) (λEn σ H=>lE (pJ ti aH bM.length g tt te) σ H λv H'=>En.nx (σ.set i (some v)) H') :=
 ki (Q6 hN yW hx hf aH bM hc hi hg ht he lj ly lC lD iB lF rO hs) λEn σ H ⟨B,F,δ,ts,Qd,c,q,k⟩=>⟨B,F,δ,ts,_,c,q,λsh xs ao J F1 H1 hq f1 h1 c1 nL rA=>by
  obtain⟨p,f,hx,gx,hlen,hQ⟩:=hq
  exact FY c1 nL rA p f hx gx hlen hQ λd ah v F' H' hd hf hs c'=>k d ah v F' H' hd (f1.trans hf) (h1.trans hs) c'⟩
end
theorem av.self{F H:Hp}{σ:L2.St}{δ:Dl}{o:Option V}(e:af F H)(r:RS F H δ σ []):av ⟨H,F⟩ F H (o::σ) (none::δ) []:=⟨e,af.refl _,af.refl _,λ_ _ q=>.inl q,[],[],.nil,.ax r,by simp,by simp⟩
end L3
namespace L2
open PySem
theorem bg{N P:List Str}{sc:Scope}(a:sc.kind=.function:=by rfl)(b:sc.isCoroutine=false:=by rfl)(c:sc.isGenerator=false:=by rfl)(d:N.Nodup:=by decide +kernel)(e:N.take P.length=P:=by rfl)(f:∀x∈P,sc.names.lookup x=some .local\/sc.names.lookup x=some .cell:=by decide +kernel)(g:∀y∈sc.names,y.2≠.free:=by decide +kernel):aW N P sc:=⟨a,b,c,d,e,f,g⟩
end L2
namespace L2
open PySem
end L2
namespace L3
open PySem L2 PySem.Spec PyProof.Rows
theorem eT{X:Cx}{m i:Nat}{x:Str}{pos:Pos}(hN:X.N.Nodup)(hi:X.N[i]?=some x:=by rfl)(hx:Loc X.env.scope x:=by first | exact ay (lookup_relabel_local rfl) | exact bW rfl | exact ay rfl)(hm:m<=i:=by decide)
  (hf:X.fn x=true\/X.env.scope.names.lookup x=some .local:=by first | exact .inr (lookup_relabel_local rfl) | exact .inl rfl | exact .inr rfl):PG X (.Name x pos) (lG m (gN i)):=jz hN hi hx hm hf
theorem sI{X:Cx}{m i1 i2:Nat}{y1 y2:Str}{t1 t2 tp:Pos}{tk:Nat}(BK:X.N.Nodup)(hc:X.calm=true:=by rfl)(m1:X.N[i1]?=some y1:=by rfl)(l1:Loc X.env.scope y1:=by first | exact ay (lookup_relabel_local rfl) | exact bW rfl)(m2:X.N[i2]?=some y2:=by rfl)(l2:Loc X.env.scope y2:=by first | exact ay (lookup_relabel_local rfl) | exact bW rfl)(Pr:m<=i1:=by decide)(vg:m<=i2:=by decide)
  (f1:X.fn y1=true\/X.env.scope.names.lookup y1=some .local:=by first | exact .inr (lookup_relabel_local rfl) | exact .inl rfl) (f2:X.fn y2=true\/X.env.scope.names.lookup y2=some .local:=by first | exact .inr (lookup_relabel_local rfl) | exact .inl rfl)
  (GB:(assignEach [.Name y1 t1,.Name y2 t2] X.env).map (·.2)=assign (.Name y1 t1) X.env::(assignEach [.Name y2 t2] X.env).map (·.2):=by rfl) (GC:(assignEach [.Name y2 t2] X.env).map (·.2)=assign (.Name y2 t2) X.env::(assignEach [] X.env).map (·.2):=by rfl)
  (hn:(assignEach [.Name y1 t1,.Name y2 t2] X.env).length=2:=by rfl) (h9:(assignEach [.Name y1 t1,.Name y2 t2] X.env).findIdx? (·.1)=none:=by rfl) :
  PG X (.Tuple [.Name y1 t1,.Name y2 t2] tk tp) (lG m (jC i1 i2)):=mH hc BK m1 l1 m2 l2 Pr vg f1 f2 GB GC hn h9
end L3
namespace L2
open PySem
structure Fk(K:PySem.W.Frag)(mg:Str->Option Value)(x:Str)(st:Stmt)(ps:List Str)(f:Addr)(fd:FuncData):Prop where
 F:aY K x x st f fd
 g:mg x=some (.ref f)
 b:Binds K fd ps []
structure Fm(K:PySem.W.Frag)(x q:Str)(st:Stmt)(ps:List Str)(f:Addr)(fd:FuncData):Prop where
 F:aY K x q st f fd
 b:Binds K fd ps []
end L2
namespace L3
open PySem L2 PySem.Spec PyProof.Rows
theorem bA{X:Cx}{x:Str}{st:Stmt}{ps:List Str}{f:Addr}{fd:FuncData}{n k:Nat}{sp:aX}{e:Expr}{es:List Expr}{t:cU}{p pos:Pos}(Q:Fk X.K X.mg x st ps f fd)(F:aN X.prog X.w X.K X.mg X.base aP n f fd ps (bf sp))(hr:cF k X.A)(ha:PA X (e::es) (lA t))(hn:n<=k:=by decide)(hg:Gl X x:=by rfl)
  (eH:(x==("__debug__":Str))=false:=by decide) (he:starEach (e::es) X.env=(false,eval e X.env)::starEach es X.env:=by rfl) (bZ:(backTo pos (starEach es X.env)).any (·.1)=false:=by rfl) :
  PE X (.Call (.Name x p) (e::es) [] pos) (lE (pI sp t)):=uB (F.mono hn) hr hg Q.g Q.F.kp Q.b dB ha eH he bZ
end L3
namespace L3
open PySem L2 Mf
theorem CJ{m:Bool × Nat}(hm:m∈au)(f n:Nat){e:Nat}(he:1<=e):RT (aa m) n (dM m f (aD n) e)/\(dM m f (aD n) e).length=e/\ai (dM m f (aD n) e)=n:=by
 obtain⟨g1,g2⟩:=Cv hm f (aD n) e
 rw[bL]at g1
 exact⟨g1,g2,y8 g1 λz=>by
  rw[z]at g2
  exact absurd g2 (by show ¬ 0=e;omega)⟩
end L3
namespace L3
open PySem L2 Mf
section
variable{m:Bool × Nat}
structure Wd(m:Bool × Nat)(T:List (List Nat))(w:List Nat):Prop where
 ln:w.length=ai T
 lt:AllLt (aa m) w
 z:∀r∈T,gd m r w=0
noncomputable def kz(n:Nat)(u v:List Nat):List Nat:=(aD n).filter λj=>decide (cf u j≠cf v j)
theorem wb{n:Nat}{u v:List Nat}{j:Nat}:j∈kz n u v↔j<n/\cf u j≠cf v j:=by unfold kz;rw[qo,bY,decide_eq_true_iff]
theorem HN(n:Nat)(u v:List Nat):(kz n u v).Nodup:=EH.filter _
noncomputable def qg(m:Bool × Nat)(T:List (List Nat))(d:Nat):Prop:=∀u v,Wd m T u->Wd m T v->u≠v->d<=(kz (ai T) u v).length
theorem R6(hm:m∈au){T:List (List Nat)}{d:Nat}(hT:RT (aa m) (ai T) T)(hD:∀S,gP (ai T) S->S.length<d->mO m (gC T) S):qg m T d:=λu v hu hv hn=>by
 have g:=rg hm
 have h0:=bC m hm
 refine MF λfL=>hn ?_
 have mem:=λj=>wb (n:=ai T) (u:=u) (v:=v) (j:=j)
 have nd:=HN (ai T) u v
 have ic:gP (ai T) (kz (ai T) u v):=⟨M9.filter _,λx hx=>((mem x).mp hx).1⟩
 generalize kz (ai T) u v=ps at mem nd ic fL
 have I:=hD ps ic fL (λt=>bu m (cf u (ps.getD t 0)) (cf v (ps.getD t 0))) (λt=>(ir hm (dq hm hu.lt _) (dq hm hv.lt _)).2.1) λk=>by
  by_cases hk:k<T.length
  ·have hr:=ft hk []
   have s:=cJ6 hm hu.lt hv.lt (hT _ hr).1 hu.ln hv.ln nd (λp hp=>((mem p).mp hp).1) λj hj hn=>Yt λz=>hn ((mem j).mpr ⟨hj,z⟩)
   rw[hu.z _ hr,hv.z _ hr,iq (mL g λ_ _=>bJ hm _ _)]at s
   exact Eq.trans (cR λt _=>fq m _ _) s.symm
  ·refine gL g λt _=>?_
   show gm m _ (cf (T.getD k []) _)=0
   rw[aL,hJ (by omega)]
   exact gK m _ h0
 refine yZ hu.ln hv.ln λj hj=>Yt λz=>?_
 obtain⟨t,ht,e⟩:=iQ ((mem j).mpr ⟨hj,z⟩)
 have e2:ps.getD t 0=j:=by rw[aL,aO ht];exact e
 have:=I t ht
 rw[e2]at this
 exact cB5 hm (dq hm hu.lt _) (dq hm hv.lt _) z this
theorem sJ(n j:Nat):cf (aQ n 0) j=0:=by
 unfold cf
 rw[aL,kF]
 split<;>rfl
theorem R7(hm:m∈au){T:List (List Nat)}(hT:RT (aa m) (ai T) T):Wd m T (aQ (ai T) 0):=by
 have cJ:=lo1 hm
 refine⟨dG ..,λa ha=>by rw[(m4.mp ha).2];omega,λr hr=>?_⟩
 rw[ot m (by rw[(hT r hr).1,dG])]
 exact gL (rg hm) λj _=>by rw[sJ];exact gK m _ (bC m hm)
theorem cK4(hm:m∈au){a b x:Nat}(ha:a<aa m)(hb:b<aa m)(hx:x<aa m)(h:gp m a x=gp m b x):a=b:=by
 have g:=rg hm
 obtain⟨y,hy⟩:∃y,gp m x y=0:=⟨_,by rw[g5];exact(Cz hm hx).2⟩
 have e:=congrArg (λz=>gp m z y) h
 rw[g.pa,g.pa,hy,iq ha,iq hb]at e
 exact e
theorem CK(hm:m∈au){n:Nat}(h2:2<=n){w:List Nat}(h:Wd m (fv m n) w){i:Nat}(hi:i<n):cf w i=cf w (n-1):=by
 have g:=rg hm
 have h0:=bC m hm
 have cJ:=lo1 hm
 obtain⟨rt,l,ww⟩:=zc hm h2
 by_cases c:i=n-1
 ·rw[c]
 have hi:i<n-1:=by omega
 have hr:iN m n i∈fv m n:=tQ (bY.mpr hi)
 have hs:=dq hm h.lt (n-1)
 have e1:=h.z _ hr
 have e2:=cb8 hm h2 hs _ hr
 have lr:=(rt _ hr).1
 have two:∀v:List Nat,v.length=n->gd m (iN m n i) v=gp m (cf v i) (gm m (bu m 0 1) (cf v (n-1)))\/¬ cf v i<aa m:=λv lv=>by
  by_cases lt:cf v i<aa m
  ·refine .inl ?_
   rw[ot m (by rw[lr,lv]),lr,Hw g (f:=λj=>gm m (cf (iN m n i) j) (cf v j)) (a:=i) (b:=n-1) (by omega) (by omega) (by omega) (bJ hm _ _) (bJ hm _ _) λj hj c1 c2=>by rw[sG hi,if_neg c1,if_neg c2,dJ m _ h0]]
   rw[sG hi,if_pos rfl,sG hi,if_neg (by omega),if_pos rfl,og lt]
  ·exact .inr lt
 have er:∀j,j<n->cf (aQ n (cf w (n-1))) j=cf w (n-1):=λj hj=>by unfold cf;rw[aL,kF,if_pos hj];rfl
 have a1:=(two w (h.ln.trans ww)).resolve_right λz=>z (dq hm h.lt i)
 have a2:=(two (aQ n (cf w (n-1))) (dG ..)).resolve_right λz=>z (by rw[er i (by omega)];exact hs)
 rw[er i (by omega),er (n-1) (by omega)]at a2
 exact cK4 hm (dq hm h.lt i) hs (bJ hm _ _) (a1.symm.trans (e1.trans (e2.symm.trans a2)))
theorem cp1(hm:m∈au){n:Nat}(h2:2<=n):qg m (fv m n) n:=λu v hu hv hn=>by
 obtain⟨rt,l,ww⟩:=zc hm h2
 rw[ww]
 have ne:cf u (n-1)≠cf v (n-1):=λz=>hn (yZ (hu.ln.trans ww) (hv.ln.trans ww) λj hj=>by rw[CK hm h2 hu hj,CK hm h2 hv hj,z])
 have:=CC (l:=aD n) (l':=kz n u v) EH λj hj=>by
  have hj:=bY.mp hj
  exact wb.mpr ⟨hj,by rw[CK hm h2 hu hj,CK hm h2 hv hj];exact ne⟩
 rw[bL]at this
 exact this
theorem HP(hm:m∈au){f n e:Nat}(hn:n+1<=aa m):za m e n (λj=>eS m (j:Int)) (λj=>eS m ((f:Int)*(j:Int))) (dM m f (aD n) e) where
 rt:=by have:=(Cv hm f (aD n) e).1;rw[bL]at this;exact this
 l:=(Cv hm f (aD n) e).2
 xl:=λj=>vS hm _
 xd:=λi j hi hj h=>cI4 hm (by omega) (by omega) h
 yl:=λj=>vS hm _
 y0:=λj _=>by have:=(oj hm ((f:Int)*(j:Int))).1;omega
 at_:=λi hi=>⟨i,hi,λj hj=>by
  unfold gC
  rw[cq3 hi,Hc hm,G1 hm]
  show cf ((aD n).map λ(p:Nat)=>eS m (((f:Int)+(i:Int))*(p:Int))) j=_
  rw[y6 _ hj,Int.add_mul,Int.mul_comm (j:Int)]⟩
theorem HQ(hm:m∈au){f n e:Nat}(hn:n+1<=aa m)(hw:ai (dM m f (aD n) e)=n):qg m (dM m f (aD n) e) (e+1) :=
 R6 hm (by rw[hw];exact(HP hm hn).rt) λS hS hl=>(HP hm hn).ind hm (by rw[hw]at hS;exact hS) (by omega)
variable{G:List (List Nat)}
theorem eo.wd(h:eo m G){l:List Nat}(hl:l.length=(bN m G).length):Wd m G (cT m G l):=⟨oE ..,h.CI hl,h.word hl⟩
theorem eo.ds6(h:eo m G){d:Nat}(hd:qg m G d):d+(bN m G).length<=ai G+1:=by
 have hm:=h.hm
 have cJ:=lo1 hm
 have hz:=h.sz
 have l1:(1::aQ ((bN m G).length-1) 0).length=(bN m G).length:=by rw[fF,dG];omega
 have a1:AllLt (aa m) (1::aQ ((bN m G).length-1) 0):=λa ha=>by
  rcases cA.mp ha with q | q
  ·omega
  ·rw[(m4.mp q).2];omega
 have w:=h.wd l1
 have at_:=λ{j:Nat} (hj:j<(bN m G).length)=>h.at l1 a1 hj
 have:=hd _ _ w (R7 hm h.rt) λz=>by
  have e:=at_ hz
  rw[z,sJ]at e
  exact absurd e (by show ¬ (0=1);decide)
 have k:=CC (l:=kz (ai G) (cT m G (1::aQ ((bN m G).length-1) 0)) (aQ (ai G) 0)++(bN m G).drop 1) (l':=aD (ai G)) ?_ ?_
 ·rw[dF,ji,bL]at k
  omega
 ·refine List.nodup_append.mpr ⟨HN ..,(R5 m G).sublist (List.drop_sublist ..),λa ha b hb z=>?_⟩
  subst z
  obtain⟨k,hk,e⟩:=iQ hb
  rw[ji]at hk
  rw[List.getElem_drop]at e
  have ek:=at_ (show 1+k<(bN m G).length by omega)
  rw[show(bN m G).getD (1+k) 0=a by rw[aL,aO (by omega)];exact e]at ek
  refine(wb.mp ha).2 ?_
  rw[ek,sJ]
  unfold cf
  rw[wI,List.getD_cons_succ]
  exact sJ _ _
 ·intro a ha
  rcases cE.mp ha with q | q
  ·exact bY.mpr (wb.mp q).1
  ·exact bY.mpr (cC7 (oV q))
theorem eo.wc(h:eo m G){d:Nat}(hd:qg m G d){l l':List Nat}(hl:l.length=(bN m G).length)(al:AllLt (aa m) l)(oZ:l'.length=(bN m G).length)(zd:AllLt (aa m) l')(ne:l≠l'):d<=(kz (ai G) (cT m G l) (cT m G l')).length :=
 hd _ _ (h.wd hl) (h.wd oZ) λz=>ne (by rw[<-h.read hl al,z,h.read oZ zd])
theorem R8{a b:List Nat}{f:Nat->Nat->Nat}{k:Nat}(ha:k<a.length)(hb:k<b.length):cf (cO f a b) k=f (cf a k) (cf b k):=by
 unfold cf
 rw[aL,tS,aL,aL,aO ha,aO hb];rfl
theorem eo.sum(h:eo m G){l l':List Nat}(hl:l.length=(bN m G).length)(oZ:l'.length=(bN m G).length):cT m G (cO (gp m) l l')=cO (gp m) (cT m G l) (cT m G l'):=by
 have g:=rg h.hm
 have lz:(cO (gp m) l l').length=(bN m G).length:=by rw[j9];omega
 refine yZ (oE ..) (by rw[j9,oE,oE,wL]) λk hk=>?_
 rw[R8 (by rw[oE];exact hk) (by rw[oE];exact hk)]
 unfold cT
 rw[y7 m (by rw[lM];exact lz) hk,y7 m (by rw[lM];exact hl) hk,y7 m (by rw[lM];exact oZ) hk,<- k9 g]
 refine cR λj hj=>?_
 rw[lM]at hj
 rw[R8 (by omega) (by omega)]
 exact Rg.dr g ..
noncomputable def oF(G:List (List Nat)):Kd->Nat
 | .oB b=>b
 | .rep=>ai G
 | .lJ e _=>e+1
structure KdA(m:Bool × Nat)(G:List (List Nat))(k:Kd):Prop where
 R9:qg m G (oF G k)
 pos:1<=oF G k
 rt:∀e f,k=.lJ e f->G=dM m f (aD (ai G)) e/\1<=e/\e+1<=ai G/\ai G+1<=aa m/\f+2<=aa m
theorem cb6(hm:m∈au){f n e:Nat}(hn:n+1<=aa m)(he:e+1<=n)(e1:1<=e){L:List Nat}(hL:AllLt (aa m) L)(ll:L.length=e+1)(hc:∀k,cf L k=PF m 1 ((aD e).map λ(i:Nat)=>eS m ((f:Int)+(i:Int))) k):∀a∈L,a≠0:=λa ha z=>by
 have g:=rg hm
 have cJ:=lo1 hm
 obtain⟨g1,g2,hw⟩:=CJ hm f n (show 1<=e by omega)
 have lw:(L++aQ (n-(e+1)) 0).length=n:=by rw[dF,dG];omega
 have aw:AllLt (aa m) (L++aQ (n-(e+1)) 0):=λa ha=>by
  rcases cE.mp ha with q | q
  ·exact hL a q
  ·rw[(m4.mp q).2];omega
 have w:Wd m (dM m f (aD n) e) (L++aQ (n-(e+1)) 0):=by
  refine⟨lw.trans hw.symm,aw,λr hr=>?_⟩
  have lr:=(g1 r hr).1
  obtain⟨i,hi,rfl⟩:=bB.mp hr
  have hi:=bY.mp hi
  have h0:bD m (eS m ((f:Int)+(i:Int))) (L++aQ (n-(e+1)) 0)=0:=by
   rw[Rw hm]
   refine(cG8 hm cJ (by decide) (vS hm _) (λs hs=>?_) hc).mpr (tQ (bY.mpr hi))
   obtain⟨_,_,rfl⟩:=bB.mp hs
   exact vS hm _
  rw[RU hm _ aw n (by omega)]at h0
  rw[ot m (by rw[lr,lw]),lr]
  refine Eq.trans (cR λj hj=>?_) h0
  rw[show cf ((aD n).map λ(p:Nat)=>eS m (((f:Int)+(i:Int))*(p:Int))) j=eS m (((f:Int)+(i:Int))*(j:Int)) from y6 _ hj,Hc hm,fq]
 have Sa:∀j,j<e+1->cf (L++aQ (n-(e+1)) 0) j=cf L j:=λj hj=>by
  unfold cf
  rw[aL,oR (by omega),aL]
 have wc:=HQ hm hn hw _ _ w (R7 hm (by rw[hw];exact g1)) λz=>by
  have e2:=congrArg (λl=>cf l e) z
  rw[sJ,Sa e (by omega),hc e]at e2
  have:=HI g (c:=1) (ng:=jc m) cJ ((aD e).map λ(i:Nat)=>eS m ((f:Int)+(i:Int)))
  rw[bw,bL]at this
  exact absurd (e2.symm.trans this) (by decide)
 rw[hw]at wc
 obtain⟨k,hk,ek⟩:=iQ ha
 have:=CC (l:=k::kz n (L++aQ (n-(e+1)) 0) (aQ n 0)) (l':=aD (e+1)) (jJ.mpr ⟨λh=>(wb.mp h).2 ?_,HN ..⟩) λj hj=>?_
 ·rw[fF,bL]at this
  omega
 ·rw[sJ,Sa k (by omega)]
  unfold cf
  rw[aL,aO hk,ek,z];rfl
 ·rcases cA.mp hj with q | q
  ·exact bY.mpr (by omega)
  ·refine bY.mpr (Nat.lt_of_not_le λc=>(wb.mp q).2 ?_)
   rw[sJ]
   unfold cf
   rw[aL,lV (by omega),kF]
   split<;>rfl
end
end L3
namespace HK38
open PySem.W (Frag codeHdIn kitOne nsIn findIn isFn specialIn plainGet hasDictIn plainOver makesIn keepIn mroIn typeIn subIn fnOf codeIn clsIn mg_of mg_none_of CodeHd)
open PySem L2 L3 Mf
seal L2.PSs L2.PS L2.PE L2.PT L2.PA L2.PI L2.PG L2.PO L2.PW
local macro_rules | `(tactic| walk_at "l3") => do
  let l ← (("uC rq uD uE uF dT nF pF pG dC q9 pI rl rk rm uA pO vh rN vj vk uo uq ur uv uw uz rj vd rH rJ ii rB uR rE uS uT uU uW uX uY iI ig u0 u3 u4 u5 rF pL u9 va gN vo ve uG uK uL uM uN uO vp vq pJ mC gH jT jA tI tE AD AE rn nI kj rK rL nS vw kn vA rS vx jC kq yw yx dw j7 tM qq fF AF aQ qB qC jK jL wV exists_eq_left' exists_eq_left D.bl.injEq D.int.injEq D.lst.injEq D.fz.injEq D.str.injEq D.tup.injEq AG and_true true_and dy tL m5 mX xW xX xY xZ x6 x8 gu kP pQ yd ye yf yg yh eK my x9 ya yb yc gv q0 AH AI s9 m6 AJ AK wH ym yn yo yp yq yr yt k7 nR rP km rQ yj vv yi rR yk i7 vt if_true qv if_false reduceIte yu decide_eq_true_eq dY nW rV yA pS yz uI vG vO vz rY rZ se vJ vU su e7 p8 lh yS sA v3 v7 sL vQ Qv cn9 cq1 Cd yR".splitOn " ").toArray.map fun (s : String) => Lean.mkIdent s.toName).mapM fun i => `(Lean.Parser.Tactic.simpLemma| $i:term)
  `(tactic| (try dsimp only [$l,*]) <;> (try simp only [$l,*]))
noncomputable def top (i:Nat):Stmt:=PySem.Challenge.pw_mendfield_k38_words_far_apart.main.body.getD i (.Pass ⟨0,0,0,0⟩)
noncomputable abbrev HR:Stmt:=top 92
theorem HS:aW ["_law_cell_here","_law_some","_law_primes"] ["_law_cell_here"] (aM HR):=bg
noncomputable abbrev HU:Stmt:=top 93
theorem aN8:aW ["_law_told_here"] ["_law_told_here"] (aM HU):=bg
noncomputable abbrev HV:Stmt:=top 80
theorem CL:aW ["a","product","found","power"] ["a","product"] (aM HV):=bg
noncomputable abbrev HW:Stmt:=top 81
theorem ze:aW ["many","product","step","found"] ["many","product"] (aM HW):=bg
noncomputable abbrev HX:Stmt:=top 82
theorem HY:aW ["powers","logs","n","a"] ["powers"] (aM HX):=bg
noncomputable abbrev HZ:Stmt:=eD (top 86) 8
theorem az9:aW ["self","n"] ["self","n"] (aM HZ):=bg
noncomputable abbrev Ia:Stmt:=eD (top 86) 0
theorem aL4:aW ["self","many","product"] ["self","many","product"] (aM Ia):=bg
noncomputable abbrev Ib:Stmt:=top 85
theorem av9:aW ["prime"] ["prime"] (aM Ib):=bg
noncomputable abbrev oG:Stmt:=eD (top 88) 0
theorem aA4:aW ["self","prime"] ["self","prime"] (aM oG):=bg
noncomputable abbrev Ic:Stmt:=top 83
theorem CM:aW ["powers","logs","many","rows","a"] ["powers","logs"] (aM Ic):=bg
noncomputable abbrev Ie:Stmt:=top 77
theorem we:aW ["a","b","quotient","rest","shift"] ["a","b"] (aM Ie):=bg
noncomputable abbrev Ig:Stmt:=top 78
theorem Ih:aW ["a","half","b"] ["a"] (aM Ig):=bg
noncomputable abbrev Ii:Stmt:=top 84
theorem aA5:aW ["bits"] ["bits"] (aM Ii):=bg
noncomputable abbrev Ij:Stmt:=top 76
theorem CN:aW ["a","b","product","k"] ["a","b"] (aM Ij):=bg
noncomputable abbrev oH:Stmt:=eD (top 87) 0
theorem Sb:aW ["self","bits","many"] ["self","bits"] (aM oH):=bg
noncomputable abbrev Ik:Stmt:=top 96
theorem aL5:aW ["_law_told_here"] ["_law_told_here"] (aM Ik):=bg
noncomputable abbrev Il:Stmt:=top 90
theorem aN9:aW ["_law_script","_law_k"] ["_law_script","_law_k"] (aM Il):=bg
noncomputable abbrev Im:Stmt:=top 98
theorem aL6:aW ["_law_cell_here","_law_k"] ["_law_cell_here","_law_k"] (aM Im):=bg
noncomputable abbrev Io:Stmt:=top 101
theorem zf:aW ["_law_many_here","_law_length","_law_extra","_law_cell_here","_law_sparse","_law_table","_law_i","_law_row"] ["_law_many_here","_law_length","_law_extra","_law_cell_here","_law_sparse"] (aM Io):=bg
noncomputable abbrev Ip:Stmt:=top 15
theorem aQ1:aW ["table"] ["table"] (aM Ip):=bg
noncomputable abbrev Iq:Stmt:=top 20
theorem Sd:aW ["rows","place","number","row"] ["rows","place"] (aM Iq):=bg
noncomputable abbrev Ir:Stmt:=eD (top 87) 6
theorem Se:aW ["self","a","row","by_a"] ["self","a","row"] (aM Ir):=bg
noncomputable abbrev Iu:Stmt:=eD (top 88) 6
theorem Sf:aW ["self","a","row","prime"] ["self","a","row"] (aM Iu):=bg
noncomputable abbrev Iw:Stmt:=eD (top 87) 7
theorem Sg:aW ["self","row","a","other","by_a"] ["self","row","a","other"] (aM Iw):=bg
noncomputable abbrev Iy:Stmt:=eD (top 88) 7
theorem Sh:aW ["self","row","a","other","prime"] ["self","row","a","other"] (aM Iy):=bg
noncomputable abbrev Iz:Stmt:=top 21
theorem aR1:aW ["field","rows","lead_row","place"] ["field","rows","lead_row","place"] (aM Iz):=bg
noncomputable abbrev IA:Stmt:=eD (top 86) 5
theorem aL7:aW ["self","a","b"] ["self","a","b"] (aM IA):=bg
noncomputable abbrev IB:Stmt:=top 22
theorem qh:aW ["field","table","done","left","place","number","lead_row"] ["field","table"] (aM IB):=bg
noncomputable abbrev IC:Stmt:=top 28
theorem aR9:aW ["table"] ["table"] (aM IC):=bg
noncomputable abbrev ID:Stmt:=top 23
theorem cf6:aW ["rows"] ["rows"] (aM ID):=bg
noncomputable abbrev IE:Stmt:=top 25
theorem Si:aW ["rows","width","taken"] ["rows","width"] (aM IE):=bg
noncomputable abbrev IF:Stmt:=eD (top 87) 2
theorem aE2:aW ["self","a","b"] ["self","a","b"] (aM IF):=bg
noncomputable abbrev IG:Stmt:=eD (top 88) 2
theorem aA0:aW ["self","a","b"] ["self","a","b"] (aM IG):=bg
noncomputable abbrev IH:Stmt:=top 26
theorem wg:aW ["field","rows","width","taken","found","free","x","lead","row"] ["field","rows","width"] (aM IH):=bg
noncomputable abbrev II:Stmt:=eD (top 32) 0
theorem Sj:aW ["self","field","checks","rows"] ["self","field","checks"] (aM II):=bg
noncomputable abbrev IJ:Stmt:=eD (top 86) 1
theorem aK2:aW ["self","x"] ["self","x"] (aM IJ):=bg
noncomputable abbrev IK:Stmt:=top 73
theorem Sk:aW ["field","table","width"] ["field","table"] (aM IK):=bg
noncomputable abbrev IL:Stmt:=top 24
theorem ct0:aW ["field","table"] ["field","table"] (aM IL):=bg
noncomputable abbrev IM:Stmt:=top 16
theorem aS0:aW ["table"] ["table"] (aM IM):=bg
noncomputable abbrev IQ:Stmt:=top 63
theorem aO0:aW ["column"] ["column"] (aM IQ):=bg
noncomputable abbrev IS:Stmt:=eD (top 87) 3
theorem aE3:aW ["self","a","b"] ["self","a","b"] (aM IS):=bg
noncomputable abbrev IT:Stmt:=eD (top 88) 3
theorem aA1:aW ["self","a","b"] ["self","a","b"] (aM IT):=bg
noncomputable abbrev IU:Stmt:=top 64
theorem wj:aW ["field","column","others","place","inverse","found","other","left"] ["field","column","others"] (aM IU):=bg
noncomputable abbrev IV:Stmt:=top 65
theorem qi:aW ["field","table","width","sets","larger","places","behind","number","column","bigger"] ["field","table"] (aM IV):=bg
noncomputable abbrev IW:Stmt:=eD (top 74) 0
theorem aE4:aW ["self","field","table"] ["self","field","table"] (aM IW):=bg
noncomputable abbrev IY:Stmt:=top 95
theorem wk:aW ["_law_told_here","_law_a","_law_b","_law_total"] ["_law_told_here","_law_a","_law_b"] (aM IY):=bg
noncomputable abbrev IZ:Stmt:=top 97
theorem I0:aW ["_law_told_here","_law_a","_law_powers_here"] ["_law_told_here"] (aM IZ):=bg
noncomputable abbrev Ja:Stmt:=top 100
theorem CO:aW ["_law_told_here","_law_length","_law_extra","_law_first","_law_powers_here","_law_table","_law_i"] ["_law_told_here","_law_length","_law_extra","_law_first"] (aM Ja):=bg
noncomputable abbrev Jb:Stmt:=top 60
theorem aA7:aW ["many","length","extra","first"] ["many","length","extra","first"] (aM Jb):=bg
noncomputable abbrev oI:Stmt:=eD (top 61) 0
theorem Sl:aW ["self","field","length","extra","first","checks"] ["self","field","length","extra","first"] (aM oI):=bg
noncomputable abbrev Jc:Stmt:=eD (top 74) 1
theorem av0:aW ["self"] ["self"] (aM Jc):=bg
noncomputable abbrev Jd:Stmt:=eD (top 34) 1
theorem at8:aW ["self"] ["self"] (aM Jd):=bg
noncomputable abbrev Je:Stmt:=eD (top 61) 2
theorem aw0:aW ["self"] ["self"] (aM Je):=bg
noncomputable abbrev Jf:Stmt:=top 33
theorem Sm:aW ["field","length","less_one"] ["field","length"] (aM Jf):=bg
noncomputable abbrev Jg:Stmt:=eD (top 34) 0
theorem aA8:aW ["self","field","length"] ["self","field","length"] (aM Jg):=bg
noncomputable abbrev Jh:Stmt:=top 99
theorem CP:aW ["_law_told_here","_law_length","_law_table","_law_i","_law_row"] ["_law_told_here","_law_length"] (aM Jh):=bg
noncomputable abbrev Ji:Stmt:=top 102
theorem jG:aW ["_law_script","_law_told_here","_law_many_here","_law_field_here","_law_kind","_law_length","_law_extra","_law_table","_law_code_here","_law_first"] ["_law_script","_law_told_here"] (aM Ji):=bg
noncomputable abbrev Jj:Stmt:=top 103
theorem aI5:aW ["_law_script","_law_at","_law_size","_law_many_here"] ["_law_script","_law_at","_law_size","_law_many_here"] (aM Jj):=bg
noncomputable abbrev Jk:Stmt:=top 104
theorem Jl:aW ["_law_script","_law_first","_law_many_here","_law_second_here","_law_at"] ["_law_script","_law_first","_law_many_here"] (aM Jk):=bg
noncomputable abbrev Jm:Stmt:=top 29
theorem aG8:aW ["signs","length"] ["signs","length"] (aM Jm):=bg
noncomputable abbrev Jn:Stmt:=top 30
theorem Sn:aW ["field","signs","place","sign"] ["field","signs"] (aM Jn):=bg
noncomputable abbrev Jo:Stmt:=eD (top 87) 5
theorem zh:aW ["self","xs","ys","products","total","x","y"] ["self","xs","ys"] (aM Jo):=bg
noncomputable abbrev Jp:Stmt:=eD (top 88) 5
theorem aE5:aW ["self","xs","ys"] ["self","xs","ys"] (aM Jp):=bg
noncomputable abbrev Jq:Stmt:=top 18
theorem aS1:aW ["field","row","table"] ["field","row","table"] (aM Jq):=bg
noncomputable abbrev Jr:Stmt:=eD (top 32) 5
theorem aI6:aW ["self","message"] ["self","message"] (aM Jr):=bg
noncomputable abbrev Js:Stmt:=top 94
theorem aO1:aW ["_law_told_here","_law_a","_law_b"] ["_law_told_here","_law_a","_law_b"] (aM Js):=bg
noncomputable abbrev Jt:Stmt:=top 105
theorem aQ2:aW ["_law_told_here","_law_xs","_law_ys"] ["_law_told_here","_law_xs","_law_ys"] (aM Jt):=bg
noncomputable abbrev Ju:Stmt:=top 91
theorem aL8:aW ["_law_x"] ["_law_x"] (aM Ju):=bg
noncomputable abbrev Jv:Stmt:=top 19
theorem aO2:aW ["field","table","column"] ["field","table","column"] (aM Jv):=bg
noncomputable abbrev Jw:Stmt:=eD (top 32) 7
theorem aI7:aW ["self","word"] ["self","word"] (aM Jw):=bg
noncomputable abbrev Jx:Stmt:=top 36
theorem Jy:aW ["a","length"] ["a"] (aM Jx):=bg
noncomputable abbrev Jz:Stmt:=eD (top 87) 1
theorem aG9:aW ["self","a","b"] ["self","a","b"] (aM Jz):=bg
noncomputable abbrev JA:Stmt:=eD (top 88) 1
theorem aA9:aW ["self","a","b"] ["self","a","b"] (aM JA):=bg
noncomputable abbrev JB:Stmt:=top 39
theorem CQ:aW ["field","a","b","total","i","x","j","y"] ["field","a","b"] (aM JB):=bg
noncomputable abbrev JC:Stmt:=top 57
theorem aO3:aW ["field","r"] ["field","r"] (aM JC):=bg
noncomputable abbrev JE:Stmt:=top 58
theorem CS:aW ["field","some","found","r"] ["field","some"] (aM JE):=bg
noncomputable abbrev JF:Stmt:=eD (top 61) 1
theorem aE6:aW ["self"] ["self"] (aM JF):=bg
noncomputable abbrev oJ:Stmt:=top 106
theorem kA:aW ["_law_script","_law_told_here","_law_many_here","_law_made","_law_code_here","_law_first","_law_second_here","_law_one","_law_other","_law_apart","_law_unlike","_law_both"] ["_law_script"] (aM oJ):=bg
set_option genInjectivity false in
set_option genSizeOf false in
structure eI where
 So:Addr
 Sq:FuncData
 Sr:Addr
 Ss:FuncData
 Su:Addr
 Sv:FuncData
 Sw:Addr
 Sx:FuncData
 Sy:Addr
 Sz:FuncData
 zi:Addr
 SA:FuncData
 JG:Addr
 SD:FuncData
 SE:Addr
 SF:FuncData
 JH:Addr
 JI:FuncData
 SG:Addr
 SH:FuncData
 SI:Addr
 SJ:FuncData
 SK:Addr
 SM:FuncData
 SN:Addr
 SO:FuncData
 SQ:Addr
 SR:FuncData
 JJ:Addr
 JK:FuncData
 SS:Addr
 SU:FuncData
 SV:Addr
 SW:FuncData
 SX:Addr
 SY:FuncData
 S0:Addr
 S1:FuncData
 S2:Addr
 S3:FuncData
 S4:Addr
 S5:FuncData
 JL:Addr
 S6:FuncData
 JM:Addr
 S7:FuncData
 JN:Addr
 S8:FuncData
 JO:Addr
 S9:FuncData
 Ta:Addr
 Tc:FuncData
 CT:Addr
 Td:FuncData
 Te:Addr
 Tf:FuncData
 Tg:Addr
 Th:FuncData
 Ti:Addr
 Tj:FuncData
 Tn:Addr
 To:FuncData
 JP:Addr
 Tp:FuncData
 JQ:Addr
 Tq:FuncData
 Tr:Addr
 Ts:FuncData
 JR:Addr
 Tt:FuncData
 CU:Addr
 Tu:FuncData
 Tv:Addr
 Tw:FuncData
 Tx:Addr
 Tz:FuncData
 TB:Addr
 TC:FuncData
 TF:Addr
 TH:FuncData
 JS:Addr
 TJ:FuncData
 JT:Addr
 TK:FuncData
 TL:Addr
 TM:FuncData
 TN:Addr
 TQ:FuncData
 JU:Addr
 TR:FuncData
 TU:Addr
 TV:FuncData
 TX:Addr
 TY:FuncData
 TZ:Addr
 T1:FuncData
 T2:Addr
 T3:FuncData
 JV:Addr
 JW:FuncData
 JX:Addr
 T4:FuncData
 JY:Addr
 T5:FuncData
 JZ:Addr
 T6:FuncData
 T7:Addr
 T8:FuncData
 J0:Addr
 T9:FuncData
 Ua:Addr
 Ub:FuncData
 Uc:Addr
 Ud:FuncData
 Ue:Addr
 Ug:FuncData
 Uh:Addr
 Ui:FuncData
 Uj:Addr
 Uk:FuncData
 Ul:Addr
 Um:FuncData
 J1:Addr
 Uo:FuncData
 J2:Addr
 Up:FuncData
 Uq:Addr
 Ur:FuncData
 zj:Addr
 Us:FuncData
 Ut:Addr
 Uu:FuncData
 Uv:Addr
 Uw:FuncData
 Ux:Addr
 Uy:FuncData
 Uz:Addr
 UA:FuncData
 zk:Addr
 UB:FuncData
 UC:Addr
 UD:FuncData
 J3:Addr
 UE:FuncData
 J4:Addr
 UG:FuncData
 UH:Addr
 UI:FuncData
 UJ:Addr
 UK:FuncData
 UL:Addr
 UM:FuncData
 J5:Addr
 UN:FuncData
 UO:Addr
 UP:FuncData
 UQ:Addr
 je:Addr
 UR:Addr
 jf:Addr
 aI:Addr
 bU:Addr
 lN:Addr
 kB:Addr
 aK:Addr
 cw:Addr
 bh:Addr
structure Txt(K:Frag)(mg:Str->Option Value)(t:eI):Prop where
 US:Fk K mg "_law_told" HR ["_law_cell_here"] t.So t.Sq
 zo:Fk K mg "_law_many" HU ["_law_told_here"] t.Sr t.Ss
 J6:Fk K mg "powers_of" HV ["a","product"] t.Su t.Sv
 CV:Fk K mg "step_powers" HW ["many","product"] t.Sw t.Sx
 CW:Fk K mg "logs_of" HX ["powers"] t.Sy t.Sz
 wm:Fm K "step_power" "Field.step_power" HZ ["self","n"] t.zi t.SA
 J7:Fm K "__init__" "Field.__init__" Ia ["self","many","product"] t.JG t.SD
 CY:Fk K mg "makes_prime_field" Ib ["prime"] t.SE t.SF
 UT:Fm K "__init__" "PrimeField.__init__" oG ["self","prime"] t.JH t.JI
 CZ:Fk K mg "product_rows" Ic ["powers","logs"] t.SG t.SH
 zr:Fk K mg "bits_divided" Ie ["a","b"] t.SI t.SJ
 UU:Fk K mg "stands_alone" Ig ["a"] t.SK t.SM
 C2:Fk K mg "makes_bit_field" Ii ["bits"] t.SN t.SO
 C5:Fk K mg "bits_times" Ij ["a","b"] t.SQ t.SR
 UW:Fm K "__init__" "BitField.__init__" oH ["self","bits"] t.JJ t.JK
 C6:Fk K mg "_law_field" Ik ["_law_told_here"] t.SS t.SU
 j5:Fk K mg "_law_cell" Il ["_law_script","_law_k"] t.SV t.SW
 C7:Fk K mg "_law_mixed" Im ["_law_cell_here","_law_k"] t.SX t.SY
 UX:Fk K mg "_law_free_table" Io ["_law_many_here","_law_length","_law_extra","_law_cell_here","_law_sparse"] t.S0 t.S1
 sM:Fk K mg "width_of" Ip ["table"] t.S2 t.S3
 UY:Fk K mg "first_with" Iq ["rows","place"] t.S4 t.S5
 UZ:Fm K "scaled" "BitField.scaled" Ir ["self","a","row"] t.JL t.S6
 U0:Fm K "scaled" "PrimeField.scaled" Iu ["self","a","row"] t.JM t.S7
 U1:Fm K "lessened" "BitField.lessened" Iw ["self","row","a","other"] t.JN t.S8
 U2:Fm K "lessened" "PrimeField.lessened" Iy ["self","row","a","other"] t.JO t.S9
 J8:Fk K mg "cleared" Iz ["field","rows","lead_row","place"] t.Ta t.Tc
 J9:Fm K "over" "Field.over" IA ["self","a","b"] t.CT t.Td
 zt:Fk K mg "reduced" IB ["field","table"] t.Te t.Tf
 C8:Fk K mg "copied" IC ["table"] t.Tg t.Th
 Ka:Fk K mg "leads" ID ["rows"] t.Ti t.Tj
 zu:Fk K mg "free_places" IE ["rows","width"] t.Tn t.To
 U3:Fm K "minus" "BitField.minus" IF ["self","a","b"] t.JP t.Tp
 U4:Fm K "minus" "PrimeField.minus" IG ["self","a","b"] t.JQ t.Tq
 C9:Fk K mg "kernel_of_reduced" IH ["field","rows","width"] t.Tr t.Ts
 Dc:Fm K "__init__" "Code.__init__" II ["self","field","checks"] t.JR t.Tt
 Kb:Fm K "holds" "Field.holds" IJ ["self","x"] t.CU t.Tu
 De:Fk K mg "is_small_table" IK ["field","table"] t.Tv t.Tw
 Df:Fk K mg "rank" IL ["field","table"] t.Tx t.Tz
 Ke:Fk K mg "turned" IM ["table"] t.TB t.TC
 U5:Fk K mg "is_nought" IQ ["column"] t.TF t.TH
 Kf:Fm K "times" "BitField.times" IS ["self","a","b"] t.JS t.TJ
 Kg:Fm K "times" "PrimeField.times" IT ["self","a","b"] t.JT t.TK
 U6:Fk K mg "past" IU ["field","column","others"] t.TL t.TM
 Dg:Fk K mg "first_bound" IV ["field","table"] t.TN t.TQ
 Kh:Fm K "__init__" "CheckCode.__init__" IW ["self","field","table"] t.JU t.TR
 Ki:Fk K mg "_law_times" IY ["_law_told_here","_law_a","_law_b"] t.TU t.TV
 U7:Fk K mg "_law_powers" IZ ["_law_told_here"] t.TX t.TY
 Kj:Fk K mg "_law_root_table" Ja ["_law_told_here","_law_length","_law_extra","_law_first"] t.TZ t.T1
 Dh:Fk K mg "makes_root_code" Jb ["many","length","extra","first"] t.T2 t.T3
 dx1:CG K "__init__" "RootCode.__init__" oI t.JV t.JW
 dx2:Binds K t.JW ["self","field","length","extra","first"] []
 Kk:Fm K "distance" "CheckCode.distance" Jc ["self"] t.JX t.T4
 U8:Fm K "distance" "RepeatCode.distance" Jd ["self"] t.JY t.T5
 U9:Fm K "distance" "RootCode.distance" Je ["self"] t.JZ t.T6
 Di:Fk K mg "repeat_checks" Jf ["field","length"] t.T7 t.T8
 Va:Fm K "__init__" "RepeatCode.__init__" Jg ["self","field","length"] t.J0 t.T9
 Vb:Fk K mg "_law_repeat_table" Jh ["_law_told_here","_law_length"] t.Ua t.Ub
 Dj:Fk K mg "_law_code" Ji ["_law_script","_law_told_here"] t.Uc t.Ud
 Kl:Fk K mg "_law_message" Jj ["_law_script","_law_at","_law_size","_law_many_here"] t.Ue t.Ug
 Vc:Fk K mg "_law_second" Jk ["_law_script","_law_first","_law_many_here"] t.Uh t.Ui
 Vd:Fk K mg "refuse_length" Jm ["signs","length"] t.Uj t.Uk
 Ve:Fk K mg "refuse_no_sign" Jn ["field","signs"] t.Ul t.Um
 Vf:Fm K "dot" "BitField.dot" Jo ["self","xs","ys"] t.J1 t.Uo
 Vg:Fm K "dot" "PrimeField.dot" Jp ["self","xs","ys"] t.J2 t.Up
 Vh:Fk K mg "row_by" Jq ["field","row","table"] t.Uq t.Ur
 Dk:Fm K "written" "Code.written" Jr ["self","message"] t.zj t.Us
 Vi:Fk K mg "_law_plus" Js ["_law_told_here","_law_a","_law_b"] t.Ut t.Uu
 Km:Fk K mg "_law_sum" Jt ["_law_told_here","_law_xs","_law_ys"] t.Uv t.Uw
 Vj:Fk K mg "_law_whole" Ju ["_law_x"] t.Ux t.Uy
 Vk:Fk K mg "by_column" Jv ["field","table","column"] t.Uz t.UA
 Vl:Fm K "is_word" "Code.is_word" Jw ["self","word"] t.zk t.UB
 Vm:Fk K mg "trimmed" Jx ["a"] t.UC t.UD
 Vn:Fm K "plus" "BitField.plus" Jz ["self","a","b"] t.J3 t.UE
 Vo:Fm K "plus" "PrimeField.plus" JA ["self","a","b"] t.J4 t.UG
 Vp:Fk K mg "poly_times" JB ["field","a","b"] t.UH t.UI
 Vq:Fk K mg "less_root" JC ["field","r"] t.UJ t.UK
 Vr:Fk K mg "by_roots" JE ["field","some"] t.UL t.UM
 Kn:Fm K "maker" "RootCode.maker" JF ["self"] t.J5 t.UN
 dx3:Fk K mg "law" oJ ["_law_script"] t.UO t.UP
 aC0:t.JI.code=.ref t.UQ
 aC1:codeHdIn K t.UQ t.je=true
 aH0:t.JK.code=.ref t.UR
 aH1:codeHdIn K t.UR t.jf=true
 eU:cQ K t.aI
 Ko:Mk K t.aI t.JJ
 aT2:vN K t.aI
 aR2:kitOne K (.ref t.aI) (.ref t.bh)=some false
 Kp:bq K t.aI "bits"
 wo:bq K t.aI "logs"
 sN:bq K t.aI "many"
 wq:bq K t.aI "powers"
 qj:bq K t.aI "products"
 Kq:bq K t.aI "step"
 Kr:bq K t.aI "wide"
 aI9:Meth K t.aI "dot" t.J1
 Ks:Meth K t.aI "holds" t.CU
 aw4:Meth K t.aI "lessened" t.JN
 aE7:Meth K t.aI "minus" t.JP
 Kt:Meth K t.aI "over" t.CT
 aH2:Meth K t.aI "plus" t.J3
 aC2:Meth K t.aI "scaled" t.JL
 zw:Meth K t.aI "step_power" t.zi
 Vs:Meth K t.aI "times" t.JS
 qk:cQ K t.bU
 Dm:Mk K t.bU t.JU
 dy3:vN K t.bU
 dy4:kitOne K (.ref t.bU) (.ref t.bh)=some false
 Dn:bq K t.bU "bound"
 Dq:bq K t.bU "check_rows"
 Dr:bq K t.bU "field"
 Ds:bq K t.bU "length"
 Ku:bq K t.bU "message_places"
 Dt:bq K t.bU "size"
 Du:bq K t.bU "word_rows"
 Vt:Meth K t.bU "distance" t.JX
 Kv:Meth K t.bU "is_word" t.zk
 zx:Meth K t.bU "written" t.zj
 fc:cQ K t.aK
 Kw:Mk K t.aK t.JH
 aT1:vN K t.aK
 aQ3:kitOne K (.ref t.aK) (.ref t.bh)=some false
 zy:bq K t.aK "logs"
 sO:bq K t.aK "many"
 zA:bq K t.aK "powers"
 mR:bq K t.aK "prime"
 Kx:bq K t.aK "step"
 Ky:bq K t.aK "wide"
 aE8:Meth K t.aK "dot" t.J2
 Kz:Meth K t.aK "holds" t.CU
 au2:Meth K t.aK "lessened" t.JO
 aA2:Meth K t.aK "minus" t.JQ
 KA:Meth K t.aK "over" t.CT
 aC3:Meth K t.aK "plus" t.J4
 aw5:Meth K t.aK "scaled" t.JM
 zB:Meth K t.aK "step_power" t.zi
 Vu:Meth K t.aK "times" t.JT
 zC:cQ K t.cw
 KC:Mk K t.cw t.J0
 dz0:vN K t.cw
 dz1:kitOne K (.ref t.cw) (.ref t.bh)=some false
 Dv:bq K t.cw "check_rows"
 Dw:bq K t.cw "field"
 Dx:bq K t.cw "length"
 KD:bq K t.cw "message_places"
 Dy:bq K t.cw "size"
 Dz:bq K t.cw "word_rows"
 dz2:Meth K t.cw "distance" t.JY
 KG:Meth K t.cw "is_word" t.zk
 zD:Meth K t.cw "written" t.zj
 kC:cQ K t.bh
 KH:Mk K t.bh t.JV
 dz3:vN K t.bh
 dz4:kitOne K (.ref t.bh) (.ref t.bh)=some true
 DA:bq K t.bh "check_rows"
 zE:bq K t.bh "extra"
 DB:bq K t.bh "field"
 DC:bq K t.bh "first"
 DD:bq K t.bh "length"
 KI:bq K t.bh "message_places"
 DE:bq K t.bh "size"
 DF:bq K t.bh "word_rows"
 dz5:Meth K t.bh "distance" t.JZ
 KJ:Meth K t.bh "is_word" t.zk
 Vv:Meth K t.bh "maker" t.J5
 zF:Meth K t.bh "written" t.zj
 KL:vI K t.lN "__init__" t.JR
 Vw:vI K t.kB "__init__" t.JG
 sP:mg "all"=none
 dz6:mg "any"=none
 Vx:mg "bool"=none
 oK:mg "enumerate"=none
 Vy:mg "int"=none
 zG:mg "isinstance"=none
 eV:mg "len"=none
 zH:mg "list"=none
 zI:mg "min"=none
 gD:mg "range"=none
 dz7:mg "sum"=none
 wt:mg "zip"=none
 KN:mg "BitField"=some (.ref t.aI)
 DG:mg "CheckCode"=some (.ref t.bU)
 zJ:mg "Code"=some (.ref t.lN)
 DH:mg "Field"=some (.ref t.kB)
 KO:mg "PrimeField"=some (.ref t.aK)
 KP:mg "RepeatCode"=some (.ref t.cw)
 DI:mg "RootCode"=some (.ref t.bh)
section
variable{P:Program}{w:World}{K:Frag}{mg:Str->Option Value}{base:Heap}{t:eI}
theorem cF1(T:Txt K mg t)(m:Bool × Nat){Q:D->Prop}(q:Q (.int (aa m))):∃C ns xs v,fD t.aI t.aK m=.obj C ns xs/\cQ K C/\bq K C "many"/\(ns.zip xs).lookup ("many":Str)=some v/\Q v:=by
 obtain⟨k,n⟩:=m
 cases k with
 | true=>exact⟨_,_,_,_,rfl,T.eU,T.sN,rfl,q⟩
 | false=>exact⟨_,_,_,_,rfl,T.fc,T.sO,rfl,q⟩
noncomputable abbrev gj(t:eI)(m:Bool × Nat)(G:List (List Nat))(k:Kd):D:=uh t.aI t.aK t.bU t.cw t.bh m G k
theorem zK(T:Txt K mg t)(m:Bool × Nat)(G:List (List Nat))(k:Kd){a:Str}{v:D}(n1:bq K t.bU a)(n2:bq K t.cw a)(n3:bq K t.bh a)(ha:a∈oA)(h:(oA.zip (mQ t.aI t.aK false m G)).lookup a=some v){Q:D->Prop}(q:Q v):∃C ns xs v,gj t m G k=.obj C ns xs/\cQ K C/\bq K C a/\(ns.zip xs).lookup a=some v/\Q v:=by
 have ha:a="field"\/a="length"\/a="check_rows"\/a="word_rows"\/a="message_places"\/a="size":=by simpa only[cA,gR,or_false]using ha
 rcases ha with rfl | rfl | rfl | rfl | rfl | rfl<;>cases k
 all_goals first | exact⟨_,_,_,v,rfl,T.qk,n1,h,q⟩ | exact⟨_,_,_,v,rfl,T.zC,n2,h,q⟩ | exact⟨_,_,_,v,rfl,T.kC,n3,h,q⟩
theorem wu(T:Txt K mg t)(m:Bool × Nat)(G:List (List Nat))(k:Kd){Q:D->Prop}(q:Q (fD t.aI t.aK m)):∃C ns xs v,gj t m G k=.obj C ns xs/\cQ K C/\bq K C "field"/\(ns.zip xs).lookup ("field":Str)=some v/\Q v:=zK T m G k T.Dr T.Dw T.DB (by decide) rfl q
theorem DJ(T:Txt K mg t)(m:Bool × Nat)(G:List (List Nat))(k:Kd){Q:D->Prop}(q:Q (.int (ai G:Nat))):∃C ns xs v,gj t m G k=.obj C ns xs/\cQ K C/\bq K C "length"/\(ns.zip xs).lookup ("length":Str)=some v/\Q v:=zK T m G k T.Ds T.Dx T.DD (by decide) rfl q
theorem b13(T:Txt K mg t)(m:Bool × Nat)(G:List (List Nat))(k:Kd){Q:D->Prop}(q:Q (.lst false (aA false G))):∃C ns xs v,gj t m G k=.obj C ns xs/\cQ K C/\bq K C "check_rows"/\(ns.zip xs).lookup ("check_rows":Str)=some v/\Q v:=zK T m G k T.Dq T.Dv T.DA (by decide) rfl q
theorem cx8(T:Txt K mg t)(m:Bool × Nat)(G:List (List Nat))(k:Kd){Q:D->Prop}(q:Q (.lst false (aA false (lK m G)))):∃C ns xs v,gj t m G k=.obj C ns xs/\cQ K C/\bq K C "word_rows"/\(ns.zip xs).lookup ("word_rows":Str)=some v/\Q v:=zK T m G k T.Du T.Dz T.DF (by decide) rfl q
theorem KQ(T:Txt K mg t)(m:Bool × Nat)(G:List (List Nat))(k:Kd){Q:D->Prop}(q:Q (.int ((bN m G).length:Nat))):∃C ns xs v,gj t m G k=.obj C ns xs/\cQ K C/\bq K C "size"/\(ns.zip xs).lookup ("size":Str)=some v/\Q v:=zK T m G k T.Dt T.Dy T.DE (by decide) rfl q
theorem KR(T:Txt K mg t){m:Bool × Nat}{G:List (List Nat)}{k:Kd}{me:Str}{n:Nat}{f:Addr}{fd:FuncData}{ps:List Str}{sp:aX}(h1:Meth K t.bU me f)(h2:Meth K t.cw me f)(h3:Meth K t.bh me f)(F:aN P w K mg base aP n f fd ps (bf sp))(b:Binds K fd ps [])(nm:me ∉ (["extra","first","field","length","check_rows","word_rows","message_places","size","bound"]:List Str)){ds:List D}{Q:D->Prop}(q:sp (gj t m G k::ds) Q):∃C ns zs sp,gj t m G k=.obj C ns zs/\ip P w K mg base n me C sp/\me ∉ ns/\sp (.obj C ns zs::ds) Q:=by
 simp only[cA,gR,or_false,not_or]at nm
 cases k
 ·exact⟨_,_,_,sp,rfl,⟨T.qk,_,_,_,h1,F,b⟩,by simp[nm],q⟩
 ·exact⟨_,_,_,sp,rfl,⟨T.zC,_,_,_,h2,F,b⟩,by simp[nm],q⟩
 ·exact⟨_,_,_,sp,rfl,⟨T.kC,_,_,_,h3,F,b⟩,by simp[nm],q⟩
theorem ce1(T:Txt K mg t)(m:Bool × Nat)(G:List (List Nat))(k:Kd){me:Str}{n:Nat}{f:Addr}{fd:FuncData}{ps:List Str}{sp:aX}(h1:Meth K t.bU me f)(h2:Meth K t.cw me f)(h3:Meth K t.bh me f)(F:aN P w K mg base aP n f fd ps (bf sp))(b:Binds K fd ps [])(nm:me ∉ (["extra","first","field","length","check_rows","word_rows","message_places","size","bound"]:List Str)):∃C ns zs pf,gj t m G k=.obj C ns zs/\ip P w K mg base n me C pf/\me ∉ ns/\∀ds Q,sp (gj t m G k::ds) Q->pf (.obj C ns zs::ds) Q:=by
 simp only[cA,gR,or_false,not_or]at nm
 cases k
 ·exact⟨_,_,_,sp,rfl,⟨T.qk,_,_,_,h1,F,b⟩,by simp[nm],λ_ _ q=>q⟩
 ·exact⟨_,_,_,sp,rfl,⟨T.zC,_,_,_,h2,F,b⟩,by simp[nm],λ_ _ q=>q⟩
 ·exact⟨_,_,_,sp,rfl,⟨T.kC,_,_,_,h3,F,b⟩,by simp[nm],λ_ _ q=>q⟩
noncomputable abbrev aO4:aX:=λds Q=>∃c:Int,ds=[.int c]/\Q (dZ (pZ c))
theorem aO5(T:Txt K mg t):aN P w K mg base aP 1 t.So t.Sq ["_law_cell_here"] (bf (aO4 )):=by
 refine bt T.US.F HS ?_ ?_
 ·intro ds Q h
  obtain⟨c,rfl,q⟩:=h<;>rfl
 ·intro aE A outer s H E hr
  refine⟨_,(aC (aZ (i:=1) HS.nd rfl (ay rfl) (Pm (ns:=[7,11,13,19,25,31,37,41,47,55,59,61,67,73,87,91,97,103,109,115,117]) (by decide +kernel)))
   (aC (aZ (i:=2) HS.nd rfl (ay rfl) (Pm (ns:=[2,3,5,7,11,13,17,19,23,29,31,37,41,43,47,53,59,61]) (by decide +kernel)))
   (aC (dm (b9 (gJ (cW hr)) (ae (az dE (bv 0) (ae ak))) (ae ak) (bH _)) (aF (aT (nH (cB jQ (cB (da (bF (bv 1) (ae (az dE (ae (az rD (bv 0) (ae ak))) (ae ak))) (λ_ _=>rfl))) cN))))) dk)
   (aF (aT (nH (cB jQ (cB (da (bF (bv 2) (ae (az dE (ae (az rD (bv 0) (ae ak))) (ae ak))) (λ_ _=>rfl))) cN)))))))),λds Q h=>?_⟩
  obtain⟨c,rfl,q⟩:=h
  refine aB λU hU=>?_
  walk_at"l3"
  refine⟨by decide,hU _ ?_⟩
  clear hU U
  refine aB λU hU=>?_
  walk_at"l3"
  refine⟨by decide,hU _ ?_⟩
  clear hU U
  refine aB λU hU=>?_
  walk_at"l3"
  refine⟨by decide,?_⟩
  have n1:=gT (c/2) (show(21:Int)≠0 by decide)
  have n2:=hV (c/2) (show(0:Int)<21 by decide)
  have n3:=gT (c/2) (show(18:Int)≠0 by decide)
  have n4:=hV (c/2) (show(0:Int)<18 by decide)
  split
  ·rename_i hc
   refine⟨rC (by decide) (by decide),by decide,_,mG n1 (by simpa using n2),rfl,by decide,?_⟩
   have e:dZ (pZ c)=.tup [.bl true,.int (([7,11,13,19,25,31,37,41,47,55,59,61,67,73,87,91,97,103,109,115,117]:List Int).getD (c/2%21).toNat 0)]:=by
    unfold pZ dZ
    rw[if_pos hc]
    have:∀k:Nat,((gZ.getD k 0:Nat):Int)=([7,11,13,19,25,31,37,41,47,55,59,61,67,73,87,91,97,103,109,115,117]:List Int).getD k 0:=λk=>by
     show _=(gZ.map (λ(n:Nat)=>(n:Int))).getD k ((0:Nat):Int)
     rw[aL,aL,cI]
     cases gZ[k]?<;>rfl
    rw[<-this]
   rw[<-e];exact q
  ·rename_i hc
   refine hU _ ?_
   walk_at"l3"
   refine⟨rC (by decide) (by decide),by decide,_,mG n3 (by simpa using n4),rfl,by decide,?_⟩
   have e:dZ (pZ c)=.tup [.bl false,.int (([2,3,5,7,11,13,17,19,23,29,31,37,41,43,47,53,59,61]:List Int).getD (c/2%18).toNat 0)]:=by
    unfold pZ dZ
    rw[if_neg hc]
    have:∀k:Nat,((nZ.getD k 0:Nat):Int)=([2,3,5,7,11,13,17,19,23,29,31,37,41,43,47,53,59,61]:List Int).getD k 0:=λk=>by
     show _=(nZ.map (λ(n:Nat)=>(n:Int))).getD k ((0:Nat):Int)
     rw[aL,aL,cI]
     cases nZ[k]?<;>rfl
    rw[<-this]
   rw[<-e];exact q
noncomputable abbrev aO6:aX:=λds Q=>∃m:Bool × Nat,ds=[dZ m]/\bl m.2<=1000/\1<=bl m.2/\Q (.int (aa m:Nat))
theorem DK(T:Txt K mg t):aN P w K mg base aP 1 t.Sr t.Ss ["_law_told_here"] (bf (aO6 )):=by
 refine bt T.zo.F aN8 ?_ ?_
 ·intro ds Q h
  obtain⟨m,rfl,h1,h2,q⟩:=h<;>rfl
 ·intro aE A outer s H E hr
  refine⟨_,(aC (dm (jR (bF (bv 0) (ae ak) (λ_ _=>rfl))) (aF (aT (az uV (ae ak) (ae (az dR (ae (nO (bF (bv 0) (ae ak) (λ_ _=>rfl)))) (ae ak)))))) dk)
   (aF (aT (da (bF (bv 0) (ae ak) (λ_ _=>rfl)))))),λds Q h=>?_⟩
  obtain⟨m,rfl,h1,h2,q⟩:=h
  unfold dZ at *
  refine aB λU hU=>?_
  walk_at"l3"
  obtain⟨b,n⟩:=m
  cases b with
  | true =>
   refine⟨_,rfl,true,rfl,?_⟩
   rw[if_pos rfl]
   refine⟨_,rfl,?_⟩
   have o1:bl (1:Int).natAbs=1:=by decide
   have e:(1:Int)*2 ^ (((bl ((n:Int)).natAbs:Nat):Int)-1).toNat=((aa (true,n):Nat):Int):=by
    have iX:1<=bl n:=h2
    rw[jk,show(((bl n:Nat):Int)-1)=((bl n-1:Nat):Int) by omega,show(1:Int)=((1:Nat):Int) from rfl,uf,EI];rfl
   refine⟨?_,by rw[e];exact q⟩
   rw[jk]
   have jO:bl n<=1000:=h1
   have iX:1<=bl n:=h2
   exact⟨by omega,by omega⟩
  | false =>
   refine⟨_,rfl,false,rfl,?_⟩
   rw[if_neg (by decide)]
   refine hU _ ?_
   walk_at"l3"
   exact⟨_,rfl,rfl,q⟩
noncomputable abbrev aO7(L:Obj->Obj->Addr->Addr->vF->Prop):aX:=λds Q=>∃(a:Nat) (of oc:Obj) (c k:Addr) (g:Nat->Nat->Nat) (l:List Int),ds=[.int a,.bI (.lam of oc c k)]/\L of oc c k (yK g)/\a<64/\GS g a=some l/\Q (.lst true (aJ l))
theorem Vz(T:Txt K mg t):aN P w K mg base aP 5 t.Su t.Sv ["a","product"] (bf (aO7 (yC P w K mg base 4))):=by
 refine bt T.J6.F CL ?_ ?_
 ·intro ds Q h
  obtain⟨a,of,oc,c,k,g,l,rfl,hL,ha,hp,q⟩:=h<;>rfl
 ·intro aE A outer s H E hr
  refine⟨_,(aC (aZ (i:=2) CL.nd rfl (ay rfl) (dQ (cB ak cN)))
   (aC (aZ (i:=3) CL.nd rfl (ay rfl) (PL (n:=4) (i:=1) rfl (by first | exact ay rfl | exact bW (ay rfl)) (hr.mono (by decide)) (ag (ae ak) (ag (bv 0) aq))))
   (aC (rz eW (b9 (ij (cW hr)) (bv 3) (ae ak) (bH _))
    (aC (nQ (i:=2) rfl (by first | exact ay rfl | exact bW (ay rfl)) (da (bv 3)))
    (aF (aZ (i:=3) CL.nd rfl (ay rfl) (PL (n:=4) (i:=1) rfl (by first | exact ay rfl | exact bW (ay rfl)) (hr.mono (by decide)) (ag (bv 3) (ag (bv 0) aq)))))))
   (aF (aT (em 2)))))),λds Q h=>?_⟩
  obtain⟨a,of,oc,c,k,g,l,rfl,hL,ha,hp,q⟩:=h
  refine aB λU hU=>?_
  walk_at"l3"
  refine⟨by decide,hU _ ?_⟩
  clear hU U
  refine aB λU hU=>?_
  walk_at"l3"
  refine⟨of,oc,c,k,yK g,rfl,hL,1,a,⟨rfl,rfl⟩,1,a,rfl,rfl,by decide,ha,hU _ ?_⟩
  clear hU U
  refine aB λU hU=>?_
  walk_at"l3"
  refine⟨λm δ=>∃(p:Nat) (acc:List Int),δ=[some (.int a),some (.bI (.lam of oc c k)),some (.lst true (aJ acc)),some (.int p)]/\acc.length+m<=70/\BW g a m p acc=some l,⟨64,_,[1],rfl,by decide,hp⟩,?_⟩
  rintro m δ ⟨p,acc,rfl,hn,hg⟩
  walk_at"l3"
  cases m with
  | zero=>cases hg
  | succ m =>
   unfold BW at hg
   split at hg
   ·rename_i h1
    subst h1
    cases hg
    rw[if_neg (by simp)]
    refine hU _ ?_
    walk_at"l3"
    exact q
   ·rename_i h1
    rw[if_pos (by simp;omega)]
    split at hg
    ·rename_i h2
     clear hU
     refine aB λU hU=>?_
     walk_at"l3"
     refine⟨⟨_,rfl⟩,by omega,hU _ ?_⟩
     clear hU
     walk_at"l3"
     exact⟨of,oc,c,k,yK g,rfl,hL,p,a,⟨rfl,rfl⟩,p,a,rfl,rfl,h2,ha,m,by omega,g p a,acc++[(p:Int)],⟨by rw[<-rQ];rfl,rfl⟩,by simp;omega,hg⟩
    ·cases hg
noncomputable abbrev aK3(L:Obj->Obj->Addr->Addr->vF->Prop):aX:=λds Q=>∃(n:Nat) (of oc:Obj) (c k:Addr) (g:Nat->Nat->Nat) (l:List Int),ds=[.int n,.bI (.lam of oc c k)]/\L of oc c k (yK g)/\yJ g n=some l/\Q (.lst true (aJ l))
theorem aK4(T:Txt K mg t):aN P w K mg base aP 6 t.Sw t.Sx ["many","product"] (bf (aK3 (yC P w K mg base 4))):=by
 refine bt T.CV.F ze ?_ ?_
 ·intro ds Q h
  obtain⟨n,of,oc,c,k,g,l,rfl,hL,hp,q⟩:=h<;>rfl
 ·intro aE A outer s H E hr
  refine⟨_,(aC (aZ (i:=2) ze.nd rfl (ay rfl) ak)
   (aC (aZ (i:=3) ze.nd rfl (ay rfl) (bA T.J6 (Vz T) hr (ag (bv 2) (ag (bv 1) aq))))
   (aC (rz eW (b9 pK (ae (cK (eY) (by rfl) T.eV eJ (ag (bv 3) aq))) (ae (az dR (bv 0) (ae ak))) (bH _))
    (aC (uH (i:=2) ze.nd rfl (ay rfl) (ae ak) cE9)
    (aF (aZ (i:=3) ze.nd rfl (ay rfl) (bA T.J6 (Vz T) hr (ag (bv 2) (ag (bv 1) aq)))))))
   (aF (aT (em 3)))))),λds Q h=>?_⟩
  obtain⟨n,of,oc,c,k,g,l,rfl,hL,hp,q⟩:=h
  unfold yJ at hp
  split at hp
  ·rename_i l0 h0
   refine aB λU hU=>?_
   walk_at"l3"
   refine hU _ ?_
   clear hU U
   refine aB λU hU=>?_
   walk_at"l3"
   refine⟨1,of,oc,c,k,g,l0,rfl,hL,by decide,h0,hU _ ?_⟩
   clear hU U
   refine aB λU hU=>?_
   walk_at"l3"
   refine⟨λm δ=>∃(st:Nat) (l1:List Int),δ=[some (.int n),some (.bI (.lam of oc c k)),some (.int st),some (.lst true (aJ l1))]/\st+m<=63/\BX g n m st l1=some l,⟨62,1,l0,rfl,by decide,hp⟩,?_⟩
   rintro m δ ⟨st,l1,rfl,hn,hg⟩
   walk_at"l3"
   cases m with
   | zero=>cases hg
   | succ m =>
    unfold BX at hg
    split at hg
    ·rename_i h1
     rw[if_pos (by omega)]
     split at hg
     ·rename_i l2 h2
      clear hU
      refine aB λU hU=>?_
      walk_at"l3"
      refine hU _ ?_
      clear hU
      walk_at"l3"
      exact⟨st+1,of,oc,c,k,g,l2,rfl,hL,by omega,h2,m,by omega,st+1,l2,⟨rfl,rfl⟩,by omega,hg⟩
     ·cases hg
    ·rename_i h1
     rw[if_neg (by omega)]
     cases hg
     refine hU _ ?_
     walk_at"l3"
     exact q
  ·cases hp
noncomputable abbrev aR3:aX:=λds Q=>∃(l:List Int),ds=[.lst false (aJ l)]/\l.length<=64/\(∀x∈l,0<=x/\x.toNat<=l.length)/\Q (.lst true (aJ (eZ l)))
theorem aR4(T:Txt K mg t):aN P w K mg base aP 1 t.Sy t.Sz ["powers"] (bf (aR3 )):=by
 refine bt T.CW.F HY ?_ ?_
 ·intro ds Q h
  obtain⟨l,rfl,hl,hx,q⟩:=h<;>rfl
 ·intro aE A outer s H E hr
  refine⟨_,(aC (aZ (i:=1) HY.nd rfl (ay rfl) (az fM (ae (dQ (cB ak cN))) (ae (az cC (ae (cK (eY) (by rfl) T.eV eJ (ag (bv 0) aq))) (ae ak)))))
   (aC (gz eW rfl (nV rfl T.oK (ag (bv 0) aq)) (mH (i1:=2) (i2:=3) rfl HY.nd rfl (ay rfl) rfl (ay rfl))
    (aF (pP (i:=1) rfl (by first | exact ay rfl | exact bW (ay rfl)) (da (bv 2)) (bv 3))))
   (aF (aT (em 1))))),λds Q h=>?_⟩
  obtain⟨l,rfl,hl,hx,q⟩:=h
  refine aB λU hU=>?_
  walk_at"l3"
  refine⟨by decide,⟨by omega,by omega,by omega⟩,hU _ ?_⟩
  clear hU U
  refine aB λU hU=>?_
  walk_at"l3"
  refine gy.mk (λi δ=>∃o1 o2,δ=[some (.lst false (aJ l)),some (.lst true (aJ (n6 l i))),o1,o2]) ⟨none,none,?_⟩ ?_ ?_
  ·rw[show((l.length:Int)+1).toNat=l.length+1 by omega];rfl
  ·rintro i d δ hd ⟨o1,o2,rfl⟩
   obtain⟨hi,rfl⟩:∃h:i<l.length,d=.tup [.int i,.int l[i]]:=by
    unfold fY aJ at hd
    rw[Ap,cI]at hd
    by_cases hi:i<l.length
    ·rw[aO hi]at hd
     simp at hd
     exact⟨hi,hd.symm⟩
    ·rw[hJ (by omega)]at hd;simp at hd
   have cM:=hx l[i] (dz _)
   walk_at"l3"
   refine⟨_,(l[i]).toNat,rfl,?_,_,_,?_,rfl,rfl⟩
   ·unfold iU
    rw[k7,yL,if_pos cM.1,if_pos (by omega)]
   ·unfold aJ
    rw[<-tR]
    congr 1
    show _=(n6 l i).set (l.getD i 0).toNat (i:Int)
    rw[aL,aO hi];rfl
  ·rintro δ ⟨o1,o2,rfl⟩
   refine hU _ ?_
   simp only[uC,rq,uD,uE,uF,dT,nF,pF,pG,dC,q9,pI,rl,rk,rm,uA,pO,vh,rN,vj,vk,uo,uq,ur,uv,uw,uz,rj,vd,rH,rJ,ii,rB,uR,rE,uS,uT,uU,uW,uX,uY,iI,ig,u0,u3,u4,u5,rF,pL,u9,va,gN,vo,ve,uG,uK,uL,uM,uN,uO,vp,vq,pJ,mC,gH,jT,jA,tI,tE,AD,AE,rn,nI,kj,rK,rL,nS,vw,kn,vA,rS,vx,jC,kq,yw,yx,dw,j7,tM,qq,fF,AF,aQ,qB,qC,jK,jL,wV,exists_eq_left',exists_eq_left,D.bl.injEq,D.int.injEq,D.lst.injEq,D.fz.injEq,D.str.injEq,D.tup.injEq,AG,and_true,true_and,dy,tL,m5,mX,xW,xX,xY,xZ,x6,x8,gu,kP,pQ,yd,ye,yf,yg,yh,eK,my,x9,ya,yb,yc,gv,q0,AH,AI,s9,m6,AJ,AK,wH,ym,yn,yo,yp,yq,yr,yt,k7,nR,rP,km,rQ,yj,vv,yi,rR,yk,i7,vt,if_true,qv,if_false,reduceIte,yu,decide_eq_true_eq,dY,nW,rV,yA,pS,yz,uI,vG,vO,vz,rY,rZ,se,vJ,vU,su,e7,p8,lh,yS,sA,v3,v7,nU]
   exact q
noncomputable abbrev zL(K:Frag):aX:=λds Q=>∃(C:Addr) (ns:List Str) (xs:List D) (n:Int) (many:Nat) (l:List Int) (r:Int),ds=[.obj C ns xs,.int n]/\cQ K C/\bq K C "powers"/\bq K C "many"/\(ns.zip xs).lookup ("powers":Str)=some (.lst false (aJ l))/\(ns.zip xs).lookup ("many":Str)=some (.int many)/\2<=many/\l[(n%((many:Int)-1)).toNat]?=some r/\Q (.int r)
theorem zM(T:Txt K mg t):aN P w K mg base aP 1 t.zi t.SA ["self","n"] (bf (zL K)):=by
 refine bt T.wm.F az9 ?_ ?_
 ·intro ds Q h
  obtain⟨C,ns,xs,n,many,l,r,rfl,hC,h1,h2,h3,h4,h5,h6,q⟩:=h<;>rfl
 ·intro aE A outer s H E hr
  refine⟨_,(aF (aT (da (bF (cZ (K:=K) (bv 0)) (ae (az dE (bv 1) (ae (az dR (cZ (K:=K) (bv 0)) (ae ak))))) (λ_ _=>rfl))))),λds Q h=>?_⟩
  obtain⟨C,ns,xs,n,many,l,r,rfl,hC,h1,h2,h3,h4,h5,h6,q⟩:=h
  walk_at"l3"
  refine⟨C,ns,xs,_,rfl,hC,h1,h3,C,ns,xs,_,rfl,hC,h2,h4,?_⟩
  refine⟨by omega,_,nq (d:=.int r) (gT _ (by omega)) ?_,rfl,q⟩
  unfold aJ
  rw[cI,h6];rfl
theorem VA(T:Txt K mg t){m:Bool × Nat}(hm:m∈au){n:Int}{Q:D->Prop}(q:Q (.int (eS m n:Nat))):G0 P w K mg base 1 t.aI t.aK m "step_power" [.int n] Q:=by
 have hF:=cq hm
 have hl:=QB hm n
 obtain⟨k,b⟩:=m
 cases k with
 | true=>exact⟨_,_,_,zL K,rfl,⟨T.eU,_,_,_,T.zw,zM T,T.wm.b⟩,by decide,_,_,_,_,aa (true,b),fl (true,b),_,rfl,T.eU,T.wq,T.sN,rfl,rfl,hF.lo,hl,q⟩
 | false=>exact⟨_,_,_,zL K,rfl,⟨T.fc,_,_,_,T.zB,zM T,T.wm.b⟩,by decide,_,_,_,_,aa (false,b),fl (false,b),_,rfl,T.fc,T.zA,T.sO,rfl,rfl,hF.lo,hl,q⟩
noncomputable abbrev aL9(P:Program)(w:World)(K:Frag)(mg:Str->Option Value)(base:Heap)(fs:Addr):Sp:=λvs H Q _=>∃(x dx f C:Addr) (b:Str) (n0:Int) (many:Nat) (of oc:Obj) (c k:Addr) (g:Nat->Nat->Nat) (l:List Int) (st:Int),
 vs=[.ref x,.int many,.ref f]/\H x=some (.ins C dx [(b,.int n0)])/\(∀n∈(["many","wide","powers","logs","step","step_power"]:List Str),b≠n)/\df8 K C fs/\kh H f of oc c k/\yC P w K mg base 4 of oc c k (yK g)/\Qb g many l st /\
 ∀H' p1 p2,bO x H H'->H' x=some (.ins C dx ((iJ b).zip (BY n0 many p1 p2 st)))->LI H' p1 l->LI H' p2 (eZ l)->p1≠p2->H p1=none->H p2=none->Q .ax H'
theorem VB(T:Txt K mg t):aN P w K mg base aP 7 t.JG t.SD ["self","many","product"] (aL9 P w K mg base t.zi):=by
 refine T.J7.F.ok aL4 (λvs H Q E h=>?_) λaE A outer s H vs Q E hr h=>?_
 ·obtain⟨x,dx,f,C,b,n0,many,of,oc,c,k,g,l,st,rfl,_⟩:=h;rfl
 obtain⟨x,dx,f,C,b,n0,many,of,oc,c,k,g,l,st,rfl,hx,hb,hC,dB1,hL,hF,q⟩:=h
 refine⟨_,fm (ib (pv 0) (pv 1) rfl) (fm (ib (pv 0) (xk E4 (Fx (pv 1)) qH) rfl)
  (fm (ib (pv 0) (jt ((aK4 T).mono (by decide)) hr rfl T.CV.g T.CV.F.kp T.CV.b .nil dB (cm (pv 1) (cm (pv 2) fw))) rfl)
  (fm (ib (pv 0) (jt ((aR4 T).mono (by decide)) hr rfl T.CW.g T.CW.F.kp T.CW.b .nil dB (cm (qV (pv 0) rfl) fw)) rfl)
  (jo (ib (pv 0) (π (pv 0) hC.cls hC.sp ((zM T).mono (by decide)) hr T.wm.b .nil dB (cm qH fw)) rfl))))),?_⟩
 try dsimp only[kn,kq]
 have nb:∀n∈(["many","wide","powers","logs","step","step_power"]:List Str),b≠n:=hb
 refine⟨.int many,rfl,.ref x,rfl,x,C,dx,_,rfl,hx,hC.cls,hC.many,mW (bK 1) (by decide),?_⟩
 rw[vM (by simpa using nb "many" (by simp))]
 generalize e1:upd H x (HO.ins C dx ([(b,V.int n0)]++[(("many":Str),V.int many)]))=H1
 have cM:H1 x=some (.ins C dx [(b,V.int n0),(("many":Str),V.int many)]):=by rw[<-e1,bQ];rfl
 have s1:bO x H H1:=by rw[<-e1];exact bO.upd (C:=C) (dx:=dx) hx rfl
 have l1:kh H1 f of oc c k:=by rw[<-e1];exact dB1.si hx
 have n1:∀p,H1 p=none->H p=none:=λp h=>yM hx (by rw[e1];exact h)
 refine⟨_,rfl,rfl,_,rfl,rfl,_,_,rfl,rfl,.ref x,rfl,x,C,dx,_,rfl,cM,hC.cls,hC.wide,mW (bK 2) (by decide),?_⟩
 rw[vM (by simp;exact⟨nb "wide" (by simp),by decide⟩),jk]
 generalize e2:upd H1 x (HO.ins C dx ([(b,V.int n0),(("many":Str),V.int many)]++[(("wide":Str),V.int ((bl many:Nat)-1))]))=H2
 have eE:H2 x=some (.ins C dx [(b,V.int n0),(("many":Str),V.int many),(("wide":Str),V.int ((bl many:Nat)-1))]):=by rw[<-e2,bQ];rfl
 have s2:bO x H H2:=by rw[<-e2];exact s1.trans (bO.upd (C:=C) (dx:=dx) cM rfl)
 have l2:kh H2 f of oc c k:=by rw[<-e2];exact l1.si cM
 have n2:∀p,H2 p=none->H p=none:=λp h=>n1 p (yM cM (by rw[e2];exact h))
 refine⟨_,rfl,_,rfl,H2,[.int many,.bI (.lam of oc c k)],λd=>d=.lst true (aJ l),af.refl _,.int (.bI l2 .nil),⟨many,of,oc,c,k,g,l,rfl,hL,hF.step,rfl⟩,λd v F' H3 A' hd hs hf he h3 r nd fr=>?_⟩
 subst hd
 obtain⟨p1,rfl,hp1,zN⟩:=Qa r fr
 have fC:=hs.get _ _ eE
 have s3:=s2.trans (hs.x (x:=x))
 refine⟨.ref x,rfl,x,C,dx,_,rfl,fC,hC.cls,hC.GU,mW (bK 3) (by decide),?_⟩
 rw[vM (by simp;exact⟨nb "powers" (by simp),by decide,by decide⟩)]
 generalize e4:upd H3 x (HO.ins C dx ([(b,V.int n0),(("many":Str),V.int many),(("wide":Str),V.int ((bl many:Nat)-1))]++[(("powers":Str),V.ref p1)]))=H4
 have jH:H4 x=some (.ins C dx [(b,V.int n0),(("many":Str),V.int many),(("wide":Str),V.int ((bl many:Nat)-1)),(("powers":Str),V.ref p1)]):=by rw[<-e4,bQ];rfl
 have s4:bO x H H4:=by rw[<-e4];exact s3.trans (bO.upd (C:=C) (dx:=dx) fC rfl)
 have p4:LI H4 p1 l:=by rw[<-e4];exact hp1.upd fC (λws z=>by cases z)
 have n4:∀p,H4 p=none->H p=none:=λp h=>n2 p (hs.free (yM fC (by rw[e4];exact h)))
 refine⟨.ref x,rfl,x,C,dx,_,.ref p1,rfl,jH,hC.cls,hC.GU,by rw[BZ (nb "powers" (by simp))];rfl,H4,[.lst false (aJ l)],λd=>d=.lst true (aJ (eZ l)),af.refl _,.shr p4 (kZ l) .nil,⟨l,rfl,by have:=hF.len;have:=hF.hi;omega,hF.ins,rfl⟩,λd v F' H5 A' hd kD hf he h3 r nd fr=>?_⟩
 subst hd
 obtain⟨p2,rfl,VC,sQ⟩:=Qa r fr
 have jg:=kD.get _ _ jH
 have s5:=s4.trans (kD.x (x:=x))
 have dB3:p1≠p2:=λz=>by rw[<-z]at sQ;unfold LI at p4;rw[sQ]at p4;cases p4
 refine⟨.ref x,rfl,x,C,dx,_,rfl,jg,hC.cls,hC.df9,mW (bK 4) (by decide),?_⟩
 rw[vM (by simp;exact⟨nb "logs" (by simp),by decide,by decide,by decide⟩)]
 generalize e6:upd H5 x (HO.ins C dx ([(b,V.int n0),(("many":Str),V.int many),(("wide":Str),V.int ((bl many:Nat)-1)),(("powers":Str),V.ref p1)]++[(("logs":Str),V.ref p2)]))=H6
 have ql:H6 x=some (.ins C dx (([b,"many","wide","powers","logs"]:List Str).zip [V.int n0,V.int many,V.int ((bl many:Nat)-1),V.ref p1,V.ref p2])):=by rw[<-e6,bQ];rfl
 have s6:bO x H H6:=by rw[<-e6];exact s5.trans (bO.upd (C:=C) (dx:=dx) jg rfl)
 have p6:LI H6 p1 l:=by rw[<-e6];exact(p4.same kD).upd jg (λws z=>by cases z)
 have q6:LI H6 p2 (eZ l):=by rw[<-e6];exact VC.upd jg (λws z=>by cases z)
 refine⟨.ref x,rfl,x,dx,_,rfl,ql,by show lU ("step_power":Str) ((b,V.int n0)::_)=none;rw[BZ (nb "step_power" (by simp))];rfl,H6,[.obj C [b,"many","wide","powers","logs"] [.int n0,.int many,.int ((bl many:Nat)-1),.lst false (aJ l),.lst false (aJ (eZ l))],.int 1],λd=>d=.int st,af.refl _,
  .obj ql rfl (.int (.int (.int (.shr p6 (kZ l) (.shr q6 (kZ _) .nil))))) (.int .nil),⟨C,_,_,1,many,l,st,rfl,hC.cls,hC.GU,hC.many,by show lU ("powers":Str) ((b,D.int n0)::_)=_;rw[BZ (nb "powers" (by simp))];rfl,by show lU ("many":Str) ((b,D.int n0)::_)=_;rw[BZ (nb "many" (by simp))];rfl,hF.lo,hF.st,rfl⟩,λd v F' H7 A' hd oM hf he h3 r nd fr=>?_⟩
 subst hd
 cases r
 have mS:=oM.get _ _ ql
 refine⟨.ref x,rfl,x,C,dx,_,rfl,mS,hC.cls,hC.step,mW (bK 5) (by decide),?_⟩
 rw[vM (by simp;exact⟨nb "step" (by simp),by decide,by decide,by decide,by decide⟩)]
 refine q _ p1 p2 ((s6.trans (oM.x (x:=x))).trans (bO.upd (C:=C) (dx:=dx) mS rfl)) (by rw[bQ];rfl) ((p6.same oM).upd mS (λws z=>by cases z)) ((q6.same oM).upd mS (λws z=>by cases z)) dB3 (n2 p1 zN) (n4 p2 sQ)
noncomputable abbrev aw7:aX:=λds Q=>∃a:Int,ds=[.int a]/\Q (.bl (decide (2<=a)&&decide (a<=61)&&(aD (a.toNat-2)).all λi=>a%(2+(i:Int)) != 0))
theorem aw8(T:Txt K mg t):aN P w K mg base aP 1 t.SE t.SF ["prime"] (bf (aw7 )):=by
 refine bt T.CY.F av9 ?_ ?_
 ·intro ds Q h
  obtain⟨a,rfl,q⟩:=h<;>rfl
 ·intro aE A outer s H E hr
  refine⟨_,(aF (aT (pH (ae (vb kT kT (ae ak) (bv 0) (ae ak))) (tY (cK (rM rfl) (by rfl) T.sP qY (ag (ae (du [("prime",0)] ["d"] rfl (xK rfl T.gD (ag (ae ak) (ag (bv 0) aq))) (λ_ _ _ _=>(eT (i:=1) (show(["prime","d"]:List Str).Nodup by decide +kernel))) (λ_ _ _ _=>dD) (λ_ _ _ _=>(rh (ij (cW hr)) (ae (az dE (bv 0) (bv 1))) (ae ak) (bH _))) rfl)) aq)))))),λds Q h=>?_⟩
  obtain⟨a,rfl,q⟩:=h
  walk_at"l3"
  split
  ·rename_i h1
   split
   ·rename_i h2
    refine⟨2,a,⟨rfl,rfl⟩,⟨by decide,by decide,by omega,by omega⟩,?_⟩
    have e0:(a-2).toNat=a.toNat-2:=by omega
    rw[e0]
    refine eN (aD (a.toNat-2)) (λ(k:Nat)=>D.int (2+(k:Int))) (λ(k:Nat)=>D.bl (a%(2+(k:Int)) != 0)) (by rw[xJ]) (λx y h=>by injection h with h;omega) (λk hk=>?_) (.inr λ_ _=>rfl) (by rw[bL,sL];omega) ?_
    ·walk_at"l3"
     refine⟨by omega,?_⟩
     by_cases z:a%(2+(k:Int))=0<;>simp[z]
    ·refine⟨(aD (a.toNat-2)).map λ(k:Nat)=>a%(2+(k:Int)) != 0,?_,?_⟩
     ·unfold kY;rw[cj];rfl
     ·have e:(decide (2<=a)&&decide (a<=61)&&(aD (a.toNat-2)).all λi=>a%(2+(i:Int)) != 0)=((aD (a.toNat-2)).map λ(k:Nat)=>a%(2+(k:Int)) != 0).all id:=by
       simp[h1,h2,lY]
      rw[<-e];exact q
   ·rename_i h2
    have e:(decide (2<=a)&&decide (a<=61)&&(aD (a.toNat-2)).all λi=>a%(2+(i:Int)) != 0)=false:=by simp[h2]
    rw[e]at q;exact q
  ·rename_i h1
   have e:(decide (2<=a)&&decide (a<=61)&&(aD (a.toNat-2)).all λi=>a%(2+(i:Int)) != 0)=false:=by simp[h1]
   rw[e]at q;exact q
noncomputable abbrev aK5:List D->List Str->List D->Prop:=λds ns xs=>∃p:Nat,ds=[.int p]/\p∈nZ/\ns=iJ "prime"/\xs=[.int p,.int p,.int ((bl p:Nat)-1),.lst true (aJ (fl (false,p))),.lst true (aJ (eZ (fl (false,p)))),.int (fst (false,p))]
theorem aC5(T:Txt K mg t)(hB:Bm mg base):aN P w K mg base aP 8 t.JH t.JI ["self","prime"] (GR [t.je,t.jf] t.aK aK5):=by
 refine P7 T.UT.F T.aC0 aA4 (λvs H Q E h=>?_) λA outer s H vs Q E hr h=>?_
 ·obtain⟨x,dx,bX,ds,ns,xs,rfl,_,_,r,⟨p,rfl,_⟩,_⟩:=h
  have:=r.length
  simp at this
  simp[this]
 obtain⟨x,dx,bX,ds,ns,xs,rfl,tb,hx,r,⟨p,rfl,hp,rfl,rfl⟩,q⟩:=h
 obtain rfl:bX=[.int p]:=by
  cases r with
  | int r=>cases r;rfl
 have hm:(false,p)∈au:=df _ (tQ hp)
 have hF:=cq hm
 refine⟨_,fm (qM (AW (AU (jt ((aw8 T).mono (by decide)) hr rfl T.CY.g T.CY.F.kp T.CY.b .nil dB (cm (pv 1) fw)))) (jo qN) qK)
  (fm (ib (pv 0) (pv 1) rfl)
  (jo (qL (PZ (E:=E0) (i:=1) T.Vw ((VB T).mono (by decide)) hr T.J7.b rfl T.DH rfl rfl rfl rfl (cm (pv 0) (cm (pv 1) (cm (PM rfl rfl T.aC1 hB) fw))))))),?_⟩
 try dsimp only[kn,kq]
 refine⟨_,rfl,H,[.int p],λd=>d=.bl true,af.refl _,.int .nil,⟨p,rfl,by rw[ch5 p hp]⟩,λd v F' H1 A1 hd ff hf he h3 r nd fr=>?_⟩
 subst hd
 cases r
 refine⟨true,rfl,?_⟩
 refine iW ?_
 have cM:=ff.get _ _ hx
 refine⟨.int p,rfl,.ref x,rfl,x,t.aK,dx,_,rfl,cM,T.fc,T.mR,by decide,?_⟩
 generalize e2:upd H1 x (HO.ins t.aK dx (bE "prime" (.int p) []))=H2
 have eE:H2 x=some (.ins t.aK dx [(("prime":Str),.int p)]):=by rw[<-e2,bQ];rfl
 have s2:bO x H H2:=by rw[<-e2];exact(ff.x (x:=x)).trans (bO.upd (C:=x) (dx:=dx) cM rfl)
 have n2:∀p,H2 p=none->H p=none:=λp h=>ff.free (yM cM (by rw[e2];exact h))
 obtain⟨ps,hP⟩:=tb t.je (by simp)
 obtain⟨more,KS⟩:=s2.tb _ ps hP
 refine⟨.ref x,rfl,.int p,rfl,⟨_,KS⟩,λf k qn pm jE H3 nf zO hk kf iu hl3=>?_⟩
 refine⟨f,_,_,.int p,zO,rfl,rfl,λoc u jn hu nc pV=>?_⟩
 obtain⟨tm,rfl⟩:∃tm,u=qm p tm:=hu
 have fC:=iu.get _ _ eE
 refine⟨x,dx,f,t.aK,"prime",p,p,_,oc,_,k,gm (false,p),fl (false,p),fst (false,p),rfl,yN fC (λz=>by rw[z,nf]at eE;cases eE) nc,by decide,⟨T.fc,T.sO,T.Ky,T.zA,T.zy,T.Kx,T.zB⟩,Qe pV nc hk kf,?_,hF,λH' p1 p2 sx dj KU Bi ne zN sQ=>?_⟩
 ·refine P5 (n:=3) ⟨rfl,rfl,rfl,by decide,rfl,rfl,by decide,by decide,rfl⟩ jn (λu1 u2=>rfl) λq f A outer s H E hr=>?_
  refine⟨_,az dE (ae (az fM (bv 0) (bv 1))) (bv 2),λi j Qd h=>?_⟩
  obtain⟨a,b,rfl,rfl,ha,hb,hq⟩:=h
  walk_at"l3"
  have hp0:2<=p:=hF.lo
  refine⟨ia.ok (.inr ⟨by omega,by omega⟩),by omega,?_⟩
  have e:((gm (false,p) a b:Nat):Int)=(a:Int)*b%p:=by
   show((a*b%p:Nat):Int)=_
   rw[lZ,qA]
  rw[<-e];exact hq
 ·have gf:H' f=some (.ext (jP _ oc _ f)):=sx.get f _ (λz=>by rw[z]at nf;rw[nf]at eE;cases eE) (by rw[bo pV.symm,bQ]) rfl
  have gc:=sx.get _ _ (fj fC nc).symm bQ rfl
  refine⟨gf,gc,?_⟩
  refine q _ (BY p p p1 p2 (fst (false,p))) [p1,p2] (s2.trans (Qc iu nf nc sx)) ?_ rfl ?_ (by simp[ne]) (λa ha=>?_)
  ·rw[iH (λz=>by rw[z,gf]at dj;cases dj) (λz=>by rw[z,gc]at dj;cases dj)];exact dj
  ·exact .int (.int (.int (.own (KU.rem gf gc) rfl (kZ _) (.own (Bi.rem gf gc) rfl (kZ _) (.int .nil)))))
  ·simp at ha
   rcases ha with rfl | rfl
   ·exact n2 _ (B0 iu zN)
   ·exact n2 _ (B0 iu sQ)
noncomputable abbrev aJ0:aX:=λds Q=>∃(l g:List Int),ds=[.lst false (aJ l),.lst false (aJ g)]/\1<=l.length/\l.length<=63/\g.length=l.length+1/\(∀x∈g,0<=x)/\Q (.lst true (pX l g))
theorem aJ1(T:Txt K mg t):aN P w K mg base aP 1 t.SG t.SH ["powers","logs"] (bf (aJ0 )):=by
 refine bt T.CZ.F CM ?_ ?_
 ·intro ds Q h
  obtain⟨l,g,rfl,h1,h2,h3,h4,q⟩:=h<;>rfl
 ·intro aE A outer s H E hr
  refine⟨_,(aC (aZ (i:=2) CM.nd rfl (bW rfl) (az cC (ae (cK (eY) (by rfl) T.eV eJ (ag (bv 0) aq))) (ae ak)))
   (aC (aZ (i:=3) CM.nd rfl (ay rfl) (dQ (cB (az fM (ae (dQ (cB ak cN))) (bv 2)) cN)))
   (aC (gz eW rfl (xK rfl T.gD (ag (ae ak) (ag (bv 2) aq))) (jz (i:=4) CM.nd rfl (bW rfl))
    (aF (nQ (i:=3) rfl (by first | exact ay rfl | exact bW (ay rfl)) (az cC (ae (dQ (cB ak cN))) (ae (du [("powers",0),("many",2),("logs",1),("a",4)] ["b"] rfl (xK rfl T.gD (ag (ae ak) (ag (bv 2) aq))) (λ_ _ _ _=>(eT (i:=4) (show(["powers","many","logs","a","b"]:List Str).Nodup by decide +kernel))) (λ_ _ _ _=>dD) (λ_ _ _ _=>(da (bF (bv 0) (ae (az dE (ae (az cC (bF (bv 2) (bv 3) (λ_ _=>rfl)) (bF (bv 2) (bv 4) (λ_ _=>rfl)))) (ae (az dR (bv 1) (ae ak))))) (λ_ _=>rfl)))) rfl))))))
   (aF (aT (em 3)))))),λds Q h=>?_⟩
  obtain⟨l,g,rfl,h1,h2,h3,h4,q⟩:=h
  refine aB λU hU=>?_
  walk_at"l3"
  refine hU _ ?_
  clear hU U
  refine aB λU hU=>?_
  walk_at"l3"
  refine⟨by decide,⟨by omega,by omega,by omega⟩,by decide,hU _ ?_⟩
  clear hU U
  refine aB λU hU=>?_
  walk_at"l3"
  refine⟨1,(l.length:Int)+1,⟨rfl,rfl⟩,⟨by decide,by decide,by omega,by omega⟩,?_⟩
  have en:((l.length:Int)+1-1).toNat=l.length:=by omega
  rw[en]
  refine gy.mk (λi δ=>∃o,δ=[some (.lst false (aJ l)),some (.lst false (aJ g)),some (.int ((l.length:Int)+1)),some (.lst true (vL l g (i+1))),o]) ⟨none,?_⟩ ?_ ?_
  ·rw[show((l.length:Int)+1).toNat=l.length+1 by omega];rfl
  ·rintro i d δ hd ⟨o,rfl⟩
   obtain⟨hi,rfl⟩:i<l.length/\d=.int (1+(i:Int)):=by
    rw[cI]at hd
    by_cases hi:i<l.length
    ·rw[j8 hi]at hd
     exact⟨hi,(de hd).symm⟩
    ·rw[hJ (by simpa using hi)]at hd;cases hd
   walk_at"l3"
   refine⟨⟨_,rfl⟩,by decide,1,(l.length:Int)+1,⟨rfl,rfl⟩,⟨by decide,by decide,by omega,by omega⟩,?_⟩
   rw[en]
   refine eN (aD l.length) (λ(k:Nat)=>D.int (1+(k:Int))) (λ(k:Nat)=>D.int (l.getD ((g.getD (i+1) 0+g.getD (k+1) 0)%(l.length:Int)).toNat 0)) (by rw[xJ]) (λx y h=>by injection h with h;omega) (λk hk=>?_) (.inr λ_ _=>rfl) (by rw[bL,sL];omega) ?_
   ·have Q4:=bY.mp hk
    walk_at"l3"
    have e1:(1+(i:Int)).toNat=i+1:=by omega
    have e2:(1+(k:Int)).toNat=k+1:=by omega
    have e3:(l.length:Int)+1-1=l.length:=by omega
    have n0:=gT (g.getD (i+1) 0+g.getD (k+1) 0) (show(l.length:Int)≠0 by omega)
    have n1:=hV (g.getD (i+1) 0+g.getD (k+1) 0) (show(0:Int)<l.length by omega)
    refine⟨_,mG (by omega) (by omega),_,mG (by omega) (by omega),?_⟩
    rw[e1,e2,e3]
    exact⟨by omega,_,mG n0 n1,rfl,rfl⟩
   ·walk_at"l3"
    refine⟨⟨by simp;omega,by rw[lY,c9];intro x _;rfl⟩,by simp[vL];omega,_,?_,rfl⟩
    unfold vL
    rw[Av (n:=i+1),fh]
    congr 1
    show _=[D.lst true (aJ (pW l g (i+1)))]
    unfold pW
    rw[if_neg (by omega)]
    unfold aJ
    rw[dw,cj];rfl
  ·rintro δ ⟨o,rfl⟩
   refine hU _ ?_
   simp only[uC,rq,uD,uE,uF,dT,nF,pF,pG,dC,q9,pI,rl,rk,rm,uA,pO,vh,rN,vj,vk,uo,uq,ur,uv,uw,uz,rj,vd,rH,rJ,ii,rB,uR,rE,uS,uT,uU,uW,uX,uY,iI,ig,u0,u3,u4,u5,rF,pL,u9,va,gN,vo,ve,uG,uK,uL,uM,uN,uO,vp,vq,pJ,mC,gH,jT,jA,tI,tE,AD,AE,rn,nI,kj,rK,rL,nS,vw,kn,vA,rS,vx,jC,kq,yw,yx,dw,j7,tM,qq,fF,AF,aQ,qB,qC,jK,jL,wV,exists_eq_left',exists_eq_left,D.bl.injEq,D.int.injEq,D.lst.injEq,D.fz.injEq,D.str.injEq,D.tup.injEq,AG,and_true,true_and,dy,tL,m5,mX,xW,xX,xY,xZ,x6,x8,gu,kP,pQ,yd,ye,yf,yg,yh,eK,my,x9,ya,yb,yc,gv,q0,AH,AI,s9,m6,AJ,AK,wH,ym,yn,yo,yp,yq,yr,yt,k7,nR,rP,km,rQ,yj,vv,yi,rR,yk,i7,vt,if_true,qv,if_false,reduceIte,yu,decide_eq_true_eq,dY,nW,rV,yA,pS,yz,uI,vG,vO,vz,rY,rZ,se,vJ,vU,su,e7,p8,lh,yS,sA,v3,v7,bw,bL]
   exact q
noncomputable abbrev aJ2(t:eI):aX:=λds Q=>∃a b:Nat,ds=[.int a,.int b]/\bl a<=1000000/\bl b<=1000000/\(b=0->False)/\(b≠0->∀q r:Nat,a=cl q b ^^^ r->bl r<bl b->Q (.tup [.int q,.int r]))
theorem at2(T:Txt K mg t):aN P w K mg base aP 1 t.SI t.SJ ["a","b"] (bf (aJ2 t)):=by
 refine bt T.zr.F we ?_ ?_
 ·intro ds Q h
  obtain⟨a,b,rfl,ha,hb,qx,q⟩:=h<;>rfl
 ·intro aE A outer s H E hr
  refine⟨_,(aC (dm (b9 (gJ (cW hr)) (bv 1) (ae ak) (bH _)) (aF Bv) dk)
   (aC (aZ (i:=2) we.nd rfl (ay rfl) ak)
   (aC (aZ (i:=3) we.nd rfl (ay rfl) (em 0))
   (aC (rz eW (b9 cR6 (ae (nO (bv 3))) (ae (nO (bv 1))) (bH _))
    (aC (aZ (i:=4) we.nd rfl (ay rfl) (az dR (ae (nO (bv 3))) (ae (nO (bv 1)))))
    (aC (uH (i:=2) we.nd rfl (ay rfl) (ae (az uV (ae ak) (bv 4))) BE)
    (aF (uH (i:=3) we.nd rfl (ay rfl) (ae (az uV (bv 1) (bv 4))) BE)))))
   (aF (aT (nH (cB (em 2) (cB (em 3) cN))))))))),λds Q h=>?_⟩
  obtain⟨a,b,rfl,ha,hb,qx,q⟩:=h
  refine aB λU hU=>?_
  walk_at"l3"
  split
  ·rename_i h0
   exact qx (by omega)
  ·rename_i h0
   have b0:b≠0:=by omega
   refine hU _ ?_
   clear hU U
   refine aB λU hU=>?_
   walk_at"l3"
   refine hU _ ?_
   clear hU U
   refine aB λU hU=>?_
   walk_at"l3"
   refine hU _ ?_
   clear hU U
   refine aB λU hU=>?_
   walk_at"l3"
   refine⟨λm δ=>∃(x r:Nat) (o sh:Option D),δ=[o,some (.int b),some (.int (x:Nat)),some (.int (r:Nat)),sh]/\a=cl x b ^^^ r/\bl r<=bl a/\m=bl r,
    ⟨bl a,0,a,_,none,rfl,by rw[pk,oU],bK _,rfl⟩,?_⟩
   rintro m δ ⟨x,r,o,sh,rfl,inv,hra,rfl⟩
   simp only[uC,rq,uD,uE,uF,dT,nF,pF,pG,dC,q9,pI,rl,rk,rm,uA,pO,vh,rN,vj,vk,uo,uq,ur,uv,uw,uz,rj,vd,rH,rJ,ii,rB,uR,rE,uS,uT,uU,uW,uX,uY,iI,ig,u0,u3,u4,u5,rF,pL,u9,va,gN,vo,ve,uG,uK,uL,uM,uN,uO,vp,vq,pJ,mC,gH,jT,jA,tI,tE,AD,AE,rn,nI,kj,rK,rL,nS,vw,kn,vA,rS,vx,jC,kq,yw,yx,dw,j7,tM,qq,fF,AF,aQ,qB,qC,jK,jL,wV,exists_eq_left',exists_eq_left,D.bl.injEq,D.int.injEq,D.lst.injEq,D.fz.injEq,D.str.injEq,D.tup.injEq,AG,and_true,true_and,dy,tL,m5,mX,xW,xX,xY,xZ,x6,x8,gu,kP,pQ,yd,ye,yf,yg,yh,eK,my,x9,ya,yb,yc,gv,q0,AH,AI,s9,m6,AJ,AK,wH,ym,yn,yo,yp,yq,yr,yt,k7,nR,rP,km,rQ,yj,vv,yi,rR,yk,i7,vt,if_true,qv,if_false,reduceIte,yu,decide_eq_true_eq,dY,nW,rV,yA,pS,yz,uI,vG,vO,vz,rY,rZ,se,vJ,vU,su,e7,p8,lh,yS,sA,v3,v7,jk]
   split
   ·rename_i hc
    have hle:bl b<=bl r:=by omega
    have less:=Ol b0 hle
    have es:(((bl r:Nat):Int)-((bl b:Nat):Int))=((bl r-bl b:Nat):Int):=by omega
    clear hU
    refine aB λU hU=>?_
    walk_at"l3"
    simp only[jk,es]
    refine hU _ ?_
    clear hU
    refine aB λU hU=>?_
    walk_at"l3"
    have o1:bl (1:Int).natAbs=1:=by decide
    refine⟨⟨by omega,by omega⟩,hU _ ?_⟩
    clear hU
    simp only[uC,rq,uD,uE,uF,dT,nF,pF,pG,dC,q9,pI,rl,rk,rm,uA,pO,vh,rN,vj,vk,uo,uq,ur,uv,uw,uz,rj,vd,rH,rJ,ii,rB,uR,rE,uS,uT,uU,uW,uX,uY,iI,ig,u0,u3,u4,u5,rF,pL,u9,va,gN,vo,ve,uG,uK,uL,uM,uN,uO,vp,vq,pJ,mC,gH,jT,jA,tI,tE,AD,AE,rn,nI,kj,rK,rL,nS,vw,kn,vA,rS,vx,jC,kq,yw,yx,dw,j7,tM,qq,fF,AF,aQ,qB,qC,jK,jL,wV,exists_eq_left',exists_eq_left,D.bl.injEq,D.int.injEq,D.lst.injEq,D.fz.injEq,D.str.injEq,D.tup.injEq,AG,and_true,true_and,dy,tL,m5,mX,xW,xX,xY,xZ,x6,x8,gu,kP,pQ,yd,ye,yf,yg,yh,eK,my,x9,ya,yb,yc,gv,q0,AH,AI,s9,m6,AJ,AK,wH,ym,yn,yo,yp,yq,yr,yt,k7,nR,rP,km,rQ,yj,vv,yi,rR,yk,i7,vt,if_true,qv,if_false,reduceIte,yu,decide_eq_true_eq,dY,nW,rV,yA,pS,yz,uI,vG,vO,vz,rY,rZ,se,vJ,vU,su,e7,p8,lh,yS,sA,v3,v7,jk]
    refine⟨⟨by omega,by rw[jk];omega⟩,_,less,x ^^^ 2 ^ (bl r-bl b),r ^^^ b <<< (bl r-bl b),o,_,⟨rfl,?_,?_,rfl⟩,b98 inv,by omega,rfl⟩
    ·rw[show(1:Int)=((1:Nat):Int) from rfl,uf,mm,EI]
    ·rw[uf,mm]
   ·rename_i hc
    refine hU _ ?_
    walk_at"l3"
    refine⟨by decide,q b0 x r inv (by omega)⟩
noncomputable abbrev aJ3:aX:=λds Q=>∃a:Nat,ds=[.int a]/\bl a<=60/\Q (.bl (al a))
theorem aJ4(T:Txt K mg t):aN P w K mg base aP 2 t.SK t.SM ["a"] (bf (aJ3 )):=by
 refine bt T.UU.F Ih ?_ ?_
 ·intro ds Q h
  obtain⟨a,rfl,ha,q⟩:=h<;>rfl
 ·intro aE A outer s H E hr
  refine⟨_,(aC (dm (b9 pK (bv 0) (ae ak) (bH _)) (aF (aT jQ)) dk)
   (aC (aZ (i:=1) Ih.nd rfl (ay rfl) (az rD (ae (az dR (ae (nO (bv 0))) (ae ak))) (ae ak)))
   (aC (gz eW rfl (xK rfl T.gD (ag (ae ak) (ag (ae (az uV (ae ak) (ae (az cC (bv 1) (ae ak))))) aq))) (jz (i:=2) Ih.nd rfl (ay rfl))
    (aF (dm (b9 (gJ (cW hr)) (bF (ae (bA T.zr (at2 T) hr (ag (bv 0) (ag (bv 2) aq)))) (ae ak) (λ_ _=>rfl)) (ae ak) (bH _)) (aF (aT jQ)) dk)))
   (aF (aT jQ))))),λds Q h=>?_⟩
  obtain⟨a,rfl,ha,q⟩:=h
  refine aB λU hU=>?_
  walk_at"l3"
  split
  ·rename_i h2
   rw[ce0 (by omega)]at q;exact q
  ·rename_i h2
   have h2:2<=a:=by omega
   have hp:=iC (show a≠0 by omega)
   refine hU _ ?_
   clear hU U
   refine aB λU hU=>?_
   walk_at"l3"
   simp only[jk]
   refine⟨rC (by omega) (by omega),hU _ ?_⟩
   clear hU U
   have eh:((((bl a:Nat):Int)-1)/2+1)=(((bl a-1)/2+1:Nat):Int):=by omega
   have e1:(1:Int)*2 ^ ((((bl a:Nat):Int)-1)/2+1).toNat=((2 ^ ((bl a-1)/2+1):Nat):Int):=by
    rw[eh,show(1:Int)=((1:Nat):Int) from rfl,uf,EI]
   have big:2 ^ ((bl a-1)/2+1)<=2 ^ 40:=wK (by decide) (by omega)
   have o1:bl (1:Int).natAbs=1:=by decide
   refine aB λU hU=>?_
   walk_at"l3"
   rw[e1]
   have ek2:((2 ^ ((bl a-1)/2+1):Nat):Int)<=2 ^ 40:=by exact_mod_cast big
   have nn:(0:Int)<=((2 ^ ((bl a-1)/2+1):Nat):Int):=MD _
   refine⟨⟨by omega,by omega⟩,_,_,⟨rfl,rfl⟩,⟨by decide,by decide,by omega,by omega⟩,?_⟩
   have en:(((2 ^ ((bl a-1)/2+1):Nat):Int)-2).toNat=2 ^ ((bl a-1)/2+1)-2:=by omega
   rw[en]
   refine gy.mk (λi δ=>(∃o1 o2,δ=[some (.int a),o1,o2])/\∀j,j<i->md a (2+j)≠0) ⟨⟨_,_,rfl⟩,λj hj=>absurd hj (by omega)⟩ ?_ ?_
   ·rintro i d δ hd ⟨⟨o1,o2,rfl⟩,inv⟩
    obtain⟨hi,rfl⟩:i<2 ^ ((bl a-1)/2+1)-2/\d=.int (2+(i:Int)):=by
     rw[cI]at hd
     by_cases hi:i<2 ^ ((bl a-1)/2+1)-2
     ·rw[j8 hi]at hd
      exact⟨hi,(de hd).symm⟩
     ·rw[hJ (by simpa using hi)]at hd;cases hd
    have bi:bl (2+i)<=60:=by
     have:=(cg8 h2 (show 2+i<2 ^ ((bl a-1)/2+1) by omega)).2
     omega
    walk_at"l3"
    refine⟨a,2+i,by rw[show((2+i:Nat):Int)=2+(i:Int) by omega],by omega,by omega,by omega,λ_ x r e l=>?_⟩
    have em:md a (2+i)=r:=xy e l
    refine⟨.int r,rfl,rfl,?_⟩
    rw[i7]
    split
    ·rename_i hz
     have r0:r=0:=by have:=of_decide_eq_true hz;omega
     rw[cf5 hi (em.trans r0)]at q
     exact q
    ·rename_i hz
     refine⟨⟨_,_,rfl,rfl⟩,λj hj=>?_⟩
     by_cases ej:j=i
     ·rw[ej,em]
      intro r0
      exact hz (decide_eq_true (by omega))
     ·exact inv j (by omega)
   ·rintro δ ⟨⟨o1,o2,rfl⟩,inv⟩
    rw[bw,bL]at inv
    rw[cp3 h2 inv]at q
    refine hU _ ?_
    walk_at"l3"
    exact q
noncomputable abbrev aC6:aX:=λds Q=>∃a:Int,ds=[.int a]/\Q (.bl (decide (4<=a)&&decide (a<=127)&&al a.toNat))
theorem aC7(T:Txt K mg t):aN P w K mg base aP 3 t.SN t.SO ["bits"] (bf (aC6 )):=by
 refine bt T.C2.F aA5 ?_ ?_
 ·intro ds Q h
  obtain⟨a,rfl,q⟩:=h<;>rfl
 ·intro aE A outer s H E hr
  refine⟨_,(aF (aT (pH (ae (vb kT kT (ae ak) (bv 0) (ae ak))) (tY (bA T.UU (aJ4 T) hr (ag (bv 0) aq)))))),λds Q h=>?_⟩
  obtain⟨a,rfl,q⟩:=h
  walk_at"l3"
  split
  ·rename_i h1
   split
   ·rename_i h2
    refine⟨a.toNat,by rw[tP (by omega)],?_,?_⟩
    ·have:bl a.toNat<=bl 127:=Fw (by omega)
     exact fU this (by decide)
    ·have e:(decide (4<=a)&&decide (a<=127)&&al a.toNat)=al a.toNat:=by simp[h1,h2]
     rw[e]at q;exact q
   ·rename_i h2
    have e:(decide (4<=a)&&decide (a<=127)&&al a.toNat)=false:=by simp[h2]
    rw[e]at q;exact q
  ·rename_i h1
   have e:(decide (4<=a)&&decide (a<=127)&&al a.toNat)=false:=by simp[h1]
   rw[e]at q;exact q
noncomputable abbrev aM0:aX:=λds Q=>∃a b:Nat,ds=[.int a,.int b]/\bl a<=1000/\bl b<=1000/\Q (.int (cl a b:Nat))
theorem aM1(T:Txt K mg t):aN P w K mg base aP 1 t.SQ t.SR ["a","b"] (bf (aM0 )):=by
 refine bt T.C5.F CN ?_ ?_
 ·intro ds Q h
  obtain⟨a,b,rfl,ha,hb,q⟩:=h<;>rfl
 ·intro aE A outer s H E hr
  refine⟨_,(aC (aZ (i:=2) CN.nd rfl (ay rfl) ak)
   (aC (gz eW rfl (i6 rfl T.gD (ag (ae (nO (bv 1))) aq)) (jz (i:=3) CN.nd rfl (ay rfl))
    (aF (dm (b9 (gJ (cW hr)) (ae (az O2 (ae (az O1 (bv 1) (bv 3))) (ae ak))) (ae ak) (bH _)) (aF (uH (i:=2) CN.nd rfl (ay rfl) (ae (az uV (bv 0) (bv 3))) BE)) dk)))
   (aF (aT (em 2))))),λds Q h=>?_⟩
  obtain⟨a,b,rfl,ha,hb,q⟩:=h
  refine aB λU hU=>?_
  walk_at"l3"
  refine hU _ ?_
  clear hU U
  refine aB λU hU=>?_
  walk_at"l3"
  simp only[jk]
  refine⟨⟨by omega,by omega⟩,yv (λi δ=>∃o,δ=[some (.int a),some (.int b),some (.int (Mf.P a b i:Nat)),o]) ⟨none,rfl⟩ ?_ ?_⟩
  ·rintro i δ hi ⟨o,rfl⟩
   walk_at"l3"
   refine⟨by omega,?_⟩
   have DL:(oO ((b:Int)/2 ^ ((i:Int)).toNat) 1=1)↔b.testBit i=true:=by
    have h:=cw6 b i
    rw[MU]at h
    rw[<-h,dI]
   split
   ·rename_i hc
    have h:=ce6 (a:=a) (DL.mp hc)
    rw[MU]at h
    exact⟨⟨by omega,by rw[jk];omega⟩,_,h,rfl⟩
   ·rename_i hc
    exact⟨_,by rw[bU0 (λz=>hc (DL.mpr z))],rfl⟩
  ·rintro δ ⟨o,rfl⟩
   refine hU _ ?_
   walk_at"l3"
   exact q
noncomputable abbrev aO8:List D->List Str->List D->Prop:=λds ns xs=>∃p:Nat,ds=[.int p]/\p∈gZ/\ns=iJ "bits"++[("products":Str)]/\xs=[.int p,.int (aa (true,p)),.int ((bl (aa (true,p)):Nat)-1),.lst true (aJ (fl (true,p))),.lst true (aJ (eZ (fl (true,p)))),.int (fst (true,p)),.lst true (pX (fl (true,p)) (eZ (fl (true,p))))]
theorem aH3(T:Txt K mg t)(hB:Bm mg base):aN P w K mg base aP 8 t.JJ t.JK ["self","bits"] (GR [t.je,t.jf] t.aI aO8):=by
 refine P7 T.UW.F T.aH0 Sb (λvs H Q E h=>?_) λA outer s H vs Q E hr h=>?_
 ·obtain⟨x,dx,bX,ds,ns,xs,rfl,_,_,r,⟨p,rfl,_⟩,_⟩:=h
  have:=r.length
  simp at this
  simp[this]
 obtain⟨x,dx,bX,ds,ns,xs,rfl,tb,hx,r,⟨p,rfl,hp,rfl,rfl⟩,q⟩:=h
 obtain rfl:bX=[.int p]:=by
  cases r with
  | int r=>cases r;rfl
 have hm:(true,p)∈au:=fE _ (tQ hp)
 have hF:=cq hm
 refine⟨_,fm (qM (AW (AU (jt ((aC7 T).mono (by decide)) hr rfl T.C2.g T.C2.F.kp T.C2.b .nil dB (cm (pv 1) fw)))) (jo qN) qK)
  (fm (ib (pv 0) (pv 1) rfl)
  (fm (EU (i:=2) Sb.nd rfl (ay rfl) (xk OA qH (xk E4 (Fx (pv 1)) qH)))
  (fm (qL (PZ (E:=E0) (i:=1) T.Vw ((VB T).mono (by decide)) hr T.J7.b rfl T.DH rfl rfl rfl rfl (cm (pv 0) (cm (pv 2) (cm (PM rfl rfl T.aH1 hB) fw)))))
  (jo (ib (pv 0) (jt ((aJ1 T).mono (by decide)) hr rfl T.CZ.g T.CZ.F.kp T.CZ.b .nil dB (cm (qV (pv 0) rfl) (cm (qV (pv 0) rfl) fw))) rfl))))),?_⟩
 try dsimp only[kn,kq]
 refine⟨_,rfl,H,[.int p],λd=>d=.bl true,af.refl _,.int .nil,⟨p,rfl,by rw[cp9 p hp]⟩,λd v F' H1 A1 hd ff hf he h3 r nd fr=>?_⟩
 subst hd
 cases r
 refine⟨true,rfl,?_⟩
 refine iW ?_
 have cM:=ff.get _ _ hx
 refine⟨.int p,rfl,.ref x,rfl,x,t.aI,dx,_,rfl,cM,T.eU,T.Kp,by decide,?_⟩
 generalize e2:upd H1 x (HO.ins t.aI dx (bE "bits" (.int p) []))=H2
 have eE:H2 x=some (.ins t.aI dx [(("bits":Str),.int p)]):=by rw[<-e2,bQ];rfl
 have s2:bO x H H2:=by rw[<-e2];exact(ff.x (x:=x)).trans (bO.upd (C:=x) (dx:=dx) cM rfl)
 have n2:∀p,H2 p=none->H p=none:=λp h=>ff.free (yM cM (by rw[e2];exact h))
 obtain⟨ps,hP⟩:=tb t.jf (by simp)
 obtain⟨more,KS⟩:=s2.tb _ ps hP
 have bp:bl p<=7:=Qi p hp
 have DM:1<=bl p:=Qj p hp
 refine⟨.int p,rfl,rfl,p,rfl,rfl,_,_,rfl,rfl,_,_,rfl,rfl,?_,?_⟩
 ·have o1:bl (1:Int).natAbs=1:=by decide
  rw[jk]
  exact⟨by omega,by omega⟩
 have em:(1:Int)*2 ^ (((bl ((p:Int)).natAbs:Nat):Int)-1).toNat=((aa (true,p):Nat):Int):=by
  rw[jk,show(((bl p:Nat):Int)-1)=((bl p-1:Nat):Int) by omega,show(1:Int)=((1:Nat):Int) from rfl,uf,EI];rfl
 show AZ 2 (.int ((1:Int)*2 ^ (((bl ((p:Int)).natAbs:Nat):Int)-1).toNat)) _ _ _
 rw[em]
 refine⟨.ref x,rfl,.int (aa (true,p)),rfl,⟨_,KS⟩,λf k qn pm jE H3 nf zO hk kf iu hl3=>?_⟩
 refine⟨f,_,_,.int p,zO,rfl,rfl,λoc u jn hu nc pV=>?_⟩
 obtain⟨tm,rfl⟩:∃tm,u=qm p tm:=hu
 have fC:=iu.get _ _ eE
 refine⟨x,dx,f,t.aI,"bits",p,aa (true,p),_,oc,_,k,gm (true,p),fl (true,p),fst (true,p),rfl,yN fC (λz=>by rw[z,nf]at eE;cases eE) nc,by decide,⟨T.eU,T.sN,T.Kr,T.wq,T.wo,T.Kq,T.zw⟩,Qe pV nc hk kf,?_,hF,λH' p1 p2 sx dj KU Bi ne zN sQ=>?_⟩
 ·refine P5 (n:=3) ⟨rfl,rfl,rfl,by decide,rfl,rfl,by decide,by decide,rfl⟩ jn (λu1 u2=>rfl) λq f A outer s H E hr=>?_
  refine⟨_,da (bF (ae (uB ((at2 T).mono (by decide)) hr rfl T.zr.g T.zr.F.kp T.zr.b dB (ag (ae (uB ((aM1 T).mono (by decide)) hr rfl T.C5.g T.C5.F.kp T.C5.b dB (ag (bv 0) (ag (bv 1) aq)))) (ag (bv 2) aq)))) (ae ak) (λ_ _=>rfl)),λi j Qd h=>?_⟩
  obtain⟨a,b,rfl,rfl,ha,hb,hq⟩:=h
  walk_at"l3"
  have b1:bl a<=6:=by
   have:bl a<=bl 63:=Fw (by omega)
   exact fU this (by decide)
  have b2:bl b<=6:=by
   have:bl b<=bl 63:=Fw (by omega)
   exact fU this (by decide)
  have p0:p≠0:=by
   intro z
   rw[z]at DM
   exact absurd DM (by decide)
  refine⟨a,b,rfl,by omega,by omega,cl a b,p,rfl,fU (ce5 a b) (by omega),by omega,λz=>p0 z,λ_ x r e l=>⟨by simp[D.pl],.int r,rfl,rfl,r,rfl,?_⟩⟩
  have er:gm (true,p) a b=r:=xy e l
  rw[<-er];exact hq
 ·have gf:H' f=some (.ext (jP _ oc _ f)):=sx.get f _ (λz=>by rw[z]at nf;rw[nf]at eE;cases eE) (by rw[bo pV.symm,bQ]) rfl
  have gc:=sx.get _ _ (fj fC nc).symm bQ rfl
  refine⟨gf,gc,?_⟩
  have s4:=s2.trans (Qc iu nf nc sx)
  have f1:=n2 _ (B0 iu zN)
  have f2:=n2 _ (B0 iu sQ)
  have l1:=KU.rem gf gc
  have l2:=Bi.rem gf gc
  have jH:rem H' f (s.heap.objs.size+1) x=some (.ins t.aI dx ((iJ "bits").zip (BY p (aa (true,p)) p1 p2 (fst (true,p))))):=by
   rw[iH (λz=>by rw[z,gf]at dj;cases dj) (λz=>by rw[z,gc]at dj;cases dj)];exact dj
  generalize rem H' f (s.heap.objs.size+1)=H4 at s4 l1 l2 jH
  refine⟨.ref x,rfl,x,t.aI,dx,_,.ref p1,rfl,jH,T.eU,T.wq,rfl,.ref x,rfl,x,t.aI,dx,_,.ref p2,rfl,jH,T.eU,T.wo,rfl,H4,[.lst false (aJ (fl (true,p))),.lst false (aJ (eZ (fl (true,p))))],λd=>d=.lst true (pX (fl (true,p)) (eZ (fl (true,p)))),af.refl _,.shr l1 (kZ _) (.shr l2 (kZ _) .nil),
   ⟨_,_,rfl,by have:=hF.len;have:=hF.lo;omega,by have:=hF.len;have:=hF.hi;omega,yL _ _,Qh _ _,rfl⟩,λd v F' H5 A' hd kD hf he h3 r nd fr=>?_⟩
  subst hd
  obtain⟨p3,rfl⟩:∃p3,v=.ref p3:=by cases r;exact⟨_,rfl⟩
  have jg:=kD.get _ _ jH
  have nA:∀{a ws},H4 a=some (.lst ws)->a ∉ A':=λ{a ws} e z=>by rw[fr a z]at e;cases e
  refine⟨.ref x,rfl,x,t.aI,dx,_,rfl,jg,T.eU,T.qj,mW (bK 6) (by decide),?_⟩
  refine q _ (BY p (aa (true,p)) p1 p2 (fst (true,p))++[.ref p3]) (p1::p2::A') ((s4.trans (kD.x (x:=x))).trans (bO.upd (C:=x) (dx:=dx) jg rfl)) (by rw[bQ];rfl) rfl ?_ ?_ ?_
  ·exact .int (.int (.int (.own ((l1.same kD).upd jg (λws z=>by cases z)) rfl (kZ _) (.own ((l2.same kD).upd jg (λws z=>by cases z)) rfl (kZ _) (.int ((r.q5 (by simp[gv,Qg]) (af.of λb o e=>by cases e)).si jg (by simp[gv,Qg])))))))
  ·exact jJ.mpr ⟨by simp[ne];exact nA l1,jJ.mpr ⟨nA l2,nd⟩⟩
  ·intro a ha
   rcases cA.mp ha with rfl | ha
   ·exact f1
   ·rcases cA.mp ha with rfl | ha
    ·exact f2
    ·exact s4.free (by rw[jH];simp) (fr a ha)
noncomputable abbrev aM2(cb cp:Addr):aX:=λds Q=>∃m:Bool × Nat,ds=[dZ m]/\m∈au/\Q (fD cb cp m)
theorem aM3(T:Txt K mg t)(hB:Bm mg base):aN P w K mg base aP 10 t.SS t.SU ["_law_told_here"] (vD [t.je,t.jf] (bf (aM2 t.aI t.aK))):=by
 refine GQ T.C6.F aL5 ?_ ?_
 ·intro ds Q h
  obtain⟨m,rfl,hm,q⟩:=h<;>rfl
 ·intro aE A outer s H E hT hr
  refine⟨_,(aC (dm (jR (bF (bv 0) (ae ak) (λ_ _=>rfl))) (aF (aT (P9 hT T.Ko ((aH3 T hB).mono (by decide)) hr rfl T.KN T.UW.b dB (ag (bF (bv 0) (ae ak) (λ_ _=>rfl)) aq)))) dk)
   (aF (aT (P9 hT T.Kw ((aC5 T hB).mono (by decide)) hr rfl T.KO T.UT.b dB (ag (bF (bv 0) (ae ak) (λ_ _=>rfl)) aq))))),λds Q h=>?_⟩
  obtain⟨m,rfl,hm,q⟩:=h
  unfold dZ at *
  refine aB λU hU=>?_
  walk_at"l3"
  obtain⟨b,n⟩:=m
  cases b with
  | true =>
   refine⟨_,rfl,true,rfl,?_⟩
   rw[if_pos rfl]
   refine⟨_,rfl,_,_,⟨n,rfl,sk hm,rfl,rfl⟩,?_⟩
   rw[cF0];exact q
  | false =>
   refine⟨_,rfl,false,rfl,?_⟩
   rw[if_neg (by decide)]
   refine hU _ ?_
   walk_at"l3"
   refine⟨_,rfl,_,_,⟨n,rfl,bK1 hm,rfl,rfl⟩,?_⟩
   rw[cd3];exact q
noncomputable abbrev aO9:aX:=λds Q=>∃(ns:List Int) (k:Int),ds=[.fz (aJ ns),.int k]/\0<=k/\Q (.int (ns.getD k.toNat 0))
theorem kE(T:Txt K mg t):aN P w K mg base aP 1 t.SV t.SW ["_law_script","_law_k"] (bf (aO9 )):=by
 refine bt T.j5.F aN9 ?_ ?_
 ·intro ds Q h
  obtain⟨ns,k,rfl,hk,q⟩:=h<;>rfl
 ·intro aE A outer s H E hr
  refine⟨_,(aC (dm (b9 pK (bv 1) (ae (cK (eY) (by rfl) T.eV eJ (ag (bv 0) aq))) (bH _)) (aF (aT (da (bF (bv 0) (bv 1) (λ_ _=>rfl))))) dk)
   (aF (aT ak))),λds Q h=>?_⟩
  obtain⟨ns,k,rfl,hk,q⟩:=h
  refine aB λU hU=>?_
  walk_at"l3"
  split
  ·rename_i h
   exact⟨_,mG hk h,rfl,q⟩
  ·rename_i h
   refine hU _ ?_
   walk_at"l3"
   rw[aL,hJ (by omega)]at q
   exact q
noncomputable def lQ(c k:Int):Int:=(c%999983+7*k+1)*(k*k+48271)%1000003
noncomputable abbrev aM4:aX:=λds Q=>∃(c k:Int),ds=[.int c,.int k]/\0<=k/\k<=100000/\Q (.int (lQ c k))
theorem KW(T:Txt K mg t):aN P w K mg base aP 1 t.SX t.SY ["_law_cell_here","_law_k"] (bf (aM4 )):=by
 refine bt T.C7.F aL6 ?_ ?_
 ·intro ds Q h
  obtain⟨c,k,rfl,k0,k1,q⟩:=h<;>rfl
 ·intro aE A outer s H E hr
  refine⟨_,(aF (aT (az dE (ae (az fM (ae (az cC (ae (az cC (ae (az dE (bv 0) (ae ak))) (ae (az fM (ae ak) (bv 1))))) (ae ak))) (ae (az cC (ae (az fM (bv 1) (bv 1))) (ae ak))))) (ae ak)))),λds Q h=>?_⟩
  obtain⟨c,k,rfl,k0,k1,q⟩:=h
  walk_at"l3"
  have c0:=gT c (show(999983:Int)≠0 by decide)
  have c1:=hV c (show(0:Int)<999983 by decide)
  exact⟨by decide,ia.ok (.inl ⟨by decide,by decide⟩),ia.ok (.inl ⟨by omega,by omega⟩),ia.ok (.inl ⟨by omega,by omega⟩),by decide,q⟩
noncomputable abbrev aC8:aX:=λds Q=>∃(M n e:Nat) (c:Int) (b:Bool),ds=[.int M,.int n,.int e,.int c,.bl b]/\1<=M/\M<=64/\n<=16/\e<=16/\∀T:List (List Nat),T.length=e->RT M n T->Q (.lst true (aA true T))
theorem aC9(T:Txt K mg t):aN P w K mg base aP 2 t.S0 t.S1 ["_law_many_here","_law_length","_law_extra","_law_cell_here","_law_sparse"] (bf (aC8 )):=by
 refine bt T.UX.F zf ?_ ?_
 ·intro ds Q h
  obtain⟨M,n,e,c,b,rfl,hM,dD6,hn,he,q⟩:=h<;>rfl
 ·intro aE A outer s H E hr
  refine⟨_,(aC (aZ (i:=5) zf.nd rfl (ay rfl) (dQ cN))
   (aC (gz eW rfl (i6 rfl T.gD (ag (bv 2) aq)) (jz (i:=6) zf.nd rfl (bW rfl))
    (aC (Q8 (i:=7) zf.nd rfl (ay rfl) [("_law_many_here",0),("_law_cell_here",3),("_law_i",6)] ["_law_at"] rfl (i6 rfl T.gD (ag (bv 1) aq)) (λ_ _ _ _=>(eT (i:=3) (show(["_law_many_here","_law_cell_here","_law_i","_law_at"]:List Str).Nodup by decide +kernel))) (λ_ _ _ _=>dD) (λ_ _ _ _=>(az dE (ae (az rD (ae (bA T.C7 (KW T) hr (ag (bv 1) (ag (ae (az cC (ae (az fM (bv 2) (ae ak))) (bv 3))) aq)))) (ae ak))) (bv 0))) rfl)
    (aC (dm (jR (bv 4)) (aF (Q8 (i:=7) zf.nd rfl (ay rfl) [("_law_cell_here",3),("_law_i",6)] ["_law_at","_law_x"] rfl (nV rfl T.oK (ag (bv 7) aq)) (λ_ _ _ _=>(sI (i1:=2) (i2:=3) (show(["_law_cell_here","_law_i","_law_at","_law_x"]:List Str).Nodup by decide +kernel))) (λ_ _ _ _=>dD) (λ_ _ _ _=>(az fM (bv 3) (ae (az dE (ae (az rD (ae (bA T.C7 (KW T) hr (ag (ae (az cC (bv 0) (ae ak))) (ag (ae (az cC (ae (az fM (bv 1) (ae ak))) (bv 2))) aq)))) (ae ak))) (ae ak))))) rfl)) dk)
    (aF (nQ (i:=5) rfl (by first | exact ay rfl | exact bW (ay rfl)) (em 7))))))
   (aF (aT (em 5))))),λds Q h=>?_⟩
  obtain⟨M,n,e,c,b,rfl,hM,dD6,hn,he,q⟩:=h
  have KY:∀z:Int,z%(M:Int)=(((z%(M:Int)).toNat:Nat):Int):=λz=>by
   have n0:=gT z (show(M:Int)≠0 by omega)
   omega
  have KZ:∀z:Int,(z%(M:Int)).toNat<M:=λz=>by
   have n1:=hV z (show(0:Int)<(M:Int) by omega)
   omega
  refine aB λU hU=>?_
  walk_at"l3"
  refine⟨by decide,hU _ ?_⟩
  clear hU U
  refine aB λU hU=>?_
  walk_at"l3"
  refine⟨⟨by omega,by omega⟩,yv (λi δ=>∃(G:List (List Nat)) (o1 o2:Option D),δ=[some (.int M),some (.int n),some (.int e),some (.int c),some (.bl b),some (.lst true (aA true G)),o1,o2]/\G.length=i/\RT M n G) ⟨[],_,_,rfl,rfl,λ_ h=>nomatch h⟩ ?_ ?_⟩
  ·rintro i δ hi ⟨G,o1,o2,rfl,hG,hR⟩
   simp only[gN,jL,jK]
   clear hU
   refine aB λU hU=>?_
   walk_at"l3"
   refine⟨⟨by omega,by omega⟩,eN (aD n) (λ(i:Nat)=>D.int (i:Int)) (λk=>D.int (((lQ c ((i:Int)*16+(k:Int))/5%(M:Int)).toNat:Nat):Int)) (mJ _ rfl) iG (λk hk=>?_) (.inr λ_ _=>rfl) (by rw[bL,sL];omega) ?_⟩
   ·have hk:=bY.mp hk
    walk_at"l3"
    exact⟨ia.ok (.inl ⟨by omega,by omega⟩),_,_,rfl,by omega,by omega,rC (by decide) (by decide),by omega,KY _⟩
   obtain⟨row,er,sR,sS⟩:∃wd:List Nat,((aD n).map λ(k:Nat)=>D.int (((lQ c ((i:Int)*16+(k:Int))/5%(M:Int)).toNat:Nat):Int))=aj wd/\AllLt M wd/\wd.length=n:=by
    refine⟨(aD n).map λ(k:Nat)=>(lQ c ((i:Int)*16+(k:Int))/5%(M:Int)).toNat,by rw[cH,cj];rfl,λa ha=>?_,by simp⟩
    obtain⟨k,_,rfl⟩:=bB.mp ha
    exact KZ _
   rw[er]
   refine hU _ ?_
   clear hU
   refine aB λU hU=>?_
   walk_at"l3"
   have fin:∀row:List Nat,AllLt M row->row.length=n->U [some (D.int M),some (D.int n),some (D.int e),some (D.int c),some (D.bl b),some (D.lst true (aA true G)),some (D.int i),some (D.lst true (aj row))]:=by
    clear er sR sS row
    intro row sR sS
    refine hU _ ?_
    walk_at"l3"
    refine⟨⟨_,rfl⟩,by omega,G++[row],_,_,⟨sC true G [row],rfl,rfl⟩,by rw[dF,hG];rfl,hR.app λx hx=>?_⟩
    rw[fW]at hx
    rw[hx];exact⟨sS,sR⟩
   clear hU
   cases b with
   | false=>exact fin row sR sS
   | true =>
    rw[if_pos rfl]
    have e2:∀z:Int,z%2=0\/z%2=1:=λz=>by omega
    refine GX (aD row.length) (λ(k:Nat)=>D.tup [.int (k:Int),.int ((row.getD k 0:Nat):Int)]) (λk=>D.int ((row.getD k 0*(lQ (c+7) ((i:Int)*16+(k:Int))/3%2).toNat:Nat):Int)) (Hf row) (λa b h=>by injection h with h;simp at h;omega) (λk hk=>?_) GY (.inr λ_ _=>rfl) (by rw[bL,sL];omega) ?_
    ·have hk:=bY.mp hk
     walk_at"l3"
     refine⟨ia.ok (.inl ⟨by omega,by omega⟩),_,_,rfl,by omega,by omega,rC (by decide) (by decide),by decide,ia.ok (.inr ⟨by omega,by omega⟩),?_⟩
     rw[qA,tP (by omega)]
    dsimp only[jL,jK]
    rw[show((aD row.length).map λ(k:Nat)=>D.int ((row.getD k 0*(lQ (c+7) ((i:Int)*16+(k:Int))/3%2).toNat:Nat):Int))=aj ((aD row.length).map λk=>row.getD k 0*(lQ (c+7) ((i:Int)*16+(k:Int))/3%2).toNat) by rw[cH,cj];rfl]
    refine fin _ (λa ha=>?_) (by rw[bw,bL,sS])
    obtain⟨k,_,rfl⟩:=bB.mp ha
    have h1:=sR.getD (show 0<M by omega) k
    rcases e2 (lQ (c+7) ((i:Int)*16+(k:Int))/3)with h | h
    ·rw[h];show row.getD k 0*0<M;omega
    ·rw[h];show row.getD k 0*1<M;omega
  ·rintro δ ⟨G,o1,o2,rfl,hG,hR⟩
   refine hU _ ?_
   walk_at"l3"
   exact q G hG hR
noncomputable abbrev aQ4:aX:=λds Q=>∃T:List (List Nat),ds=[.lst false (aA false T)]/\T.length<=1000/\(∀r∈T,r.length<=1000)/\Q (.int (ai T:Nat))
theorem DN(T:Txt K mg t):aN P w K mg base aP 1 t.S2 t.S3 ["table"] (bf (aQ4 )):=by
 refine bt T.sM.F aQ1 ?_ ?_
 ·intro ds Q h
  obtain⟨G,rfl,hG,hr,q⟩:=h<;>rfl
 ·intro aE A outer s H E hr
  refine⟨_,(aF (aT (cR8 (b9 (ij (cW hr)) (bv 0) (ae (dQ cN)) (bH _)) (cK (eY) (by rfl) T.eV eJ (ag (bF (bv 0) (ae ak) (λ_ _=>rfl)) aq)) ak))),λds Q h=>?_⟩
  obtain⟨G,rfl,hG,hr,q⟩:=h
  walk_at"l3"
  refine⟨by decide,⟨QV 4 _ _ _,rfl⟩,?_⟩
  rw[show(D.lst true ([]:List D))=D.lst true (aA true []) from rfl,cu3]
  cases G with
  | nil=>rw[if_neg (by simp)];exact q
  | cons r G =>
   rw[if_pos (by simp)]
   refine⟨.lst false (aj r),yT false (T:=r::G) (i:=0) (Na _),?_⟩
   show Q (D.int ((aj r).length:Nat))
   rw[dY];exact q
noncomputable abbrev aM5:aX:=λds Q=>∃(T:List (List Nat)) (j:Nat),ds=[.lst false (aA false T),.int j]/\T.length<=1000/\(∀r∈T,j<r.length)/\Q (match jZ T j with | some i=>.int (i:Nat) | none=>.ax)
theorem aM6(T:Txt K mg t):aN P w K mg base aP 1 t.S4 t.S5 ["rows","place"] (bf (aM5 )):=by
 refine bt T.UY.F Sd ?_ ?_
 ·intro ds Q h
  obtain⟨G,j,rfl,hG,hr,q⟩:=h<;>rfl
 ·intro aE A outer s H E hr
  refine⟨_,(aC (gz eW rfl (nV rfl T.oK (ag (bv 0) aq)) (mH (i1:=2) (i2:=3) rfl Sd.nd rfl (ay rfl) rfl (ay rfl))
    (aF (dm (b9 (ij (cW hr)) (bF (bv 3) (bv 1) (λ_ _=>rfl)) (ae ak) (bH _)) (aF (aT (em 2))) dk)))
   (aF (aT FV))),λds Q h=>?_⟩
  obtain⟨G,j,rfl,hG,hr,q⟩:=h
  refine aB λU hU=>?_
  walk_at"l3"
  refine gy.mk (λi δ=>∃o1 o2,δ=[some (D.lst false (aA false G)),some (D.int j),o1,o2]/\∀k,k<i->(G.getD k []).getD j 0=0) ⟨_,_,rfl,λk hk=>absurd hk (Nat.not_lt_zero k)⟩ ?_ ?_
  ·rintro i d δ hd ⟨o1,o2,rfl,hz⟩
   obtain⟨hi,rfl⟩:=QX hd
   have hj:=hr _ (dz hi)
   have eg:G.getD i []=G[i]:=by rw[aL,aO hi];rfl
   walk_at"l3"
   refine⟨.int (G[i].getD j 0:Nat),by rw[ku (by omega) (by omega),fV],rfl,?_⟩
   rw[i7]
   by_cases h0:G[i].getD j 0=0
   ·rw[if_neg (by rw[h0];decide)]
    refine⟨_,_,⟨rfl,rfl⟩,λk hk=>?_⟩
    by_cases e:k=i
    ·rw[e,eg];exact h0
    ·exact hz k (by omega)
   ·rw[if_pos (by rw[decide_eq_false (by omega)];rfl)]
    have ef:jZ G j=some i:=by
     unfold jZ
     rw[Yl]
     refine⟨hi,by simpa using h0,λk hk=>?_⟩
     have:=hz k hk
     rw[aL (l:=G),aO (by omega)]at this
     simpa using this
    rw[ef]at q
    exact q
  ·rintro δ ⟨o1,o2,rfl,hz⟩
   refine hU _ ?_
   walk_at"l3"
   have ef:jZ G j=none:=by
    unfold jZ
    rw[Ym]
    intro r bj
    obtain⟨i,hi,rfl⟩:=iQ bj
    have:=hz i (by rw[nU,lh];exact hi)
    rw[aL (l:=G),aO hi]at this
    simpa using this
   rw[ef]at q
   exact q
noncomputable abbrev VD(K:Frag):aX:=λds Q=>∃(C:Addr) (p a:Nat) (xs:List Nat),ds=[sj C p,.int a,.lst false (aj xs)]/\cQ K C/\bq K C "products"/\p∈gZ/\a<aa (true,p)/\(∀y∈xs,y<aa (true,p))/\xs.length<=1000/\Q (.lst true (aj (xs.map (gm (true,p) a))))
theorem aD0(T:Txt K mg t):aN P w K mg base aP 1 t.JL t.S6 ["self","a","row"] (bf (VD K)):=by
 refine bt T.UZ.F Se ?_ ?_
 ·intro ds Q h
  obtain⟨C,p,a,xs,rfl,hC,hn,hp,ha,hy,hl,q⟩:=h<;>rfl
 ·intro aE A outer s H E hr
  refine⟨_,(aC (aZ (i:=3) Se.nd rfl (bW rfl) (da (bF (cZ (K:=K) (bv 0)) (bv 1) (λ_ _=>rfl))))
   (aF (aT (du [("by_a",3)] ["x"] rfl (ie (bv 2)) (λ_ _ _ _=>(eT (i:=1) (show(["by_a","x"]:List Str).Nodup by decide +kernel))) (λ_ _ _ _=>dD) (λ_ _ _ _=>(da (bF (bv 0) (bv 1) (λ_ _=>rfl)))) rfl)))),λds Q h=>?_⟩
  obtain⟨C,p,a,xs,rfl,hC,hn,hp,ha,hy,hl,q⟩:=h
  refine aB λU hU=>?_
  walk_at"l3"
  refine⟨C,_,_,_,rfl,hC,hn,rfl,_,B8 hp ha,?_⟩
  refine⟨by rw[gu,nR];rfl,hU _ ?_⟩
  clear hU U
  walk_at"l3"
  refine eN xs (λ(i:Nat)=>D.int (i:Int)) (λx=>D.int ((gm (true,p) a x:Nat):Int)) (rT xs) iG (λx hx=>?_) (.inr λ_ _=>rfl) (by rw[sL];omega) ?_
  ·walk_at"l3"
   exact⟨_,B7 hp ha (hy x hx),rfl,rfl⟩
  ·rw[cH,cj]at q
   exact q
noncomputable abbrev VE(K:Frag):aX:=λds Q=>∃(C:Addr) (p a:Nat) (xs:List Nat),ds=[pY C p,.int a,.lst false (aj xs)]/\cQ K C/\bq K C "prime"/\0<p/\a<64/\(∀y∈xs,y<64)/\xs.length<=1000/\Q (.lst true (aj (xs.map (gm (false,p) a))))
theorem aw9(T:Txt K mg t):aN P w K mg base aP 1 t.JM t.S7 ["self","a","row"] (bf (VE K)):=by
 refine bt T.U0.F Sf ?_ ?_
 ·intro ds Q h
  obtain⟨C,p,a,xs,rfl,hC,hn,hp,ha,hy,hl,q⟩:=h<;>rfl
 ·intro aE A outer s H E hr
  refine⟨_,(aC (aZ (i:=3) Sf.nd rfl (bW rfl) (da (cZ (K:=K) (bv 0))))
   (aF (aT (du [("prime",3),("a",1)] ["x"] rfl (ie (bv 2)) (λ_ _ _ _=>(eT (i:=2) (show(["prime","a","x"]:List Str).Nodup by decide +kernel))) (λ_ _ _ _=>dD) (λ_ _ _ _=>(az dE (ae (az fM (bv 1) (bv 2))) (bv 0))) rfl)))),λds Q h=>?_⟩
  obtain⟨C,p,a,xs,rfl,hC,hn,hp,ha,hy,hl,q⟩:=h
  refine aB λU hU=>?_
  walk_at"l3"
  refine⟨C,_,_,.int p,rfl,hC,hn,rfl,rfl,hU _ ?_⟩
  clear hU U
  walk_at"l3"
  refine eN xs (λ(i:Nat)=>D.int (i:Int)) (λx=>D.int ((gm (false,p) a x:Nat):Int)) (rT xs) iG (λx hx=>?_) (.inr λ_ _=>rfl) (by rw[sL];omega) ?_
  ·have h2:=hy x hx
   walk_at"l3"
   refine⟨ia.ok (.inr ⟨by omega,by omega⟩),by omega,?_⟩
   show _=((a*x%p:Nat):Int)
   rw[lZ,qA]
  ·rw[cH,cj]at q
   exact q
theorem ch6(T:Txt K mg t){m:Bool × Nat}(hm:m∈au):∃C ns zs sp,fD t.aI t.aK m=.obj C ns zs/\ip P w K mg base 1 "scaled" C sp/\("scaled":Str) ∉ ns/\∀(xs:List Nat) (a:Nat) (Q:D->Prop),a<aa m->(∀y∈xs,y<aa m)->xs.length<=1000->Q (.lst true (aj (xs.map (gm m a))))->sp [.obj C ns zs,.int a,.lst false (aj xs)] Q:=by
 have hF:=cq hm
 obtain⟨k,n⟩:=m
 cases k with
 | true=>exact⟨_,_,_,VD K,rfl,⟨T.eU,_,_,_,T.aC2,aD0 T,T.UZ.b⟩,by decide,λxs a Q ha hy hl q=>⟨_,n,a,xs,rfl,T.eU,T.qj,sk hm,ha,hy,hl,q⟩⟩
 | false =>
  have lR:n<=64:=hF.hi
  have l2:2<=n:=hF.lo
  exact⟨_,_,_,VE K,rfl,⟨T.fc,_,_,_,T.aw5,aw9 T,T.U0.b⟩,by decide,λxs a Q ha hy hl q=>⟨_,n,a,xs,rfl,T.fc,T.mR,by omega,dv (show a<n from ha) lR,λy h=>dv (show y<n from hy y h) lR,hl,q⟩⟩
noncomputable abbrev VF(K:Frag):aX:=λds Q=>∃(C:Addr) (p a:Nat) (xs ys:List Nat),ds=[sj C p,.lst false (aj xs),.int a,.lst false (aj ys)]/\cQ K C/\bq K C "products"/\p∈gZ/\a<aa (true,p)/\(∀y∈ys,y<aa (true,p))/\xs.length<=1000/\Q (.lst true (aj (cO (λx y=>bu (true,p) x (gm (true,p) a y)) xs ys)))
theorem ax0(T:Txt K mg t):aN P w K mg base aP 1 t.JN t.S8 ["self","row","a","other"] (bf (VF K)):=by
 refine bt T.U1.F Sg ?_ ?_
 ·intro ds Q h
  obtain⟨C,p,a,xs,ys,rfl,hC,hn,hp,ha,hy,hl,q⟩:=h<;>rfl
 ·intro aE A outer s H E hr
  refine⟨_,(aC (aZ (i:=4) Sg.nd rfl (bW rfl) (da (bF (cZ (K:=K) (bv 0)) (bv 2) (λ_ _=>rfl))))
   (aF (aT (du [("by_a",4)] ["x","y"] rfl (vy rfl T.wt (ag (bv 1) (ag (bv 3) aq))) (λ_ _ _ _=>(sI (i1:=1) (i2:=2) (show(["by_a","x","y"]:List Str).Nodup by decide +kernel))) (λ_ _ _ _=>dD) (λ_ _ _ _=>(az uZ (bv 1) (bF (bv 0) (bv 2) (λ_ _=>rfl)))) rfl)))),λds Q h=>?_⟩
  obtain⟨C,p,a,xs,ys,rfl,hC,hn,hp,ha,hy,hl,q⟩:=h
  refine aB λU hU=>?_
  walk_at"l3"
  refine⟨C,_,_,_,rfl,hC,hn,rfl,_,B8 hp ha,?_⟩
  refine⟨by rw[gu,nR];rfl,hU _ ?_⟩
  clear hU U
  walk_at"l3"
  refine⟨_,_,rfl,rfl,Hb (λx y=>bu (true,p) x (gm (true,p) a y)) (λx hx y DO=>?_) (by omega) q⟩
  walk_at"l3"
  refine⟨_,B7 hp ha (hy y DO),?_⟩
  show oQ (x:Int) ((gm (true,p) a y:Nat):Int)=_
  rw[mm];rfl
noncomputable abbrev VG(K:Frag):aX:=λds Q=>∃(C:Addr) (p a:Nat) (xs ys:List Nat),ds=[pY C p,.lst false (aj xs),.int a,.lst false (aj ys)]/\cQ K C/\bq K C "prime"/\0<p/\a<64/\(∀y∈ys,y<64)/\xs.length<=1000/\Q (.lst true (aj (cO (λx y=>bu (false,p) x (gm (false,p) a y)) xs ys)))
theorem au3(T:Txt K mg t):aN P w K mg base aP 1 t.JO t.S9 ["self","row","a","other"] (bf (VG K)):=by
 refine bt T.U2.F Sh ?_ ?_
 ·intro ds Q h
  obtain⟨C,p,a,xs,ys,rfl,hC,hn,hp,ha,hy,hl,q⟩:=h<;>rfl
 ·intro aE A outer s H E hr
  refine⟨_,(aC (aZ (i:=4) Sh.nd rfl (bW rfl) (da (cZ (K:=K) (bv 0))))
   (aF (aT (du [("prime",4),("a",2)] ["x","y"] rfl (vy rfl T.wt (ag (bv 1) (ag (bv 3) aq))) (λ_ _ _ _=>(sI (i1:=2) (i2:=3) (show(["prime","a","x","y"]:List Str).Nodup by decide +kernel))) (λ_ _ _ _=>dD) (λ_ _ _ _=>(az dE (ae (az dR (bv 2) (ae (az fM (bv 1) (bv 3))))) (bv 0))) rfl)))),λds Q h=>?_⟩
  obtain⟨C,p,a,xs,ys,rfl,hC,hn,hp,ha,hy,hl,q⟩:=h
  refine aB λU hU=>?_
  walk_at"l3"
  refine⟨C,_,_,.int p,rfl,hC,hn,rfl,rfl,hU _ ?_⟩
  clear hU U
  walk_at"l3"
  refine⟨_,_,rfl,rfl,Hb (λx y=>bu (false,p) x (gm (false,p) a y)) (λx hx y DO=>?_) (by omega) q⟩
  have h2:=hy y DO
  walk_at"l3"
  refine⟨ia.ok (.inr ⟨by omega,by omega⟩),by omega,?_⟩
  have e:((x:Int)-((a*y%p:Nat):Int))%(p:Int)=((x:Int)-(a:Int)*y)%p:=by
   rw[lZ,qA,Int.sub_emod,Int.emod_emod,<- Int.sub_emod]
  show _=(((((x:Int)-((a*y%p:Nat):Int))%(p:Int)).toNat:Nat):Int)
  rw[e,tP (gT _ (by omega))]
theorem VH(T:Txt K mg t){m:Bool × Nat}(hm:m∈au):∃C ns zs sp,fD t.aI t.aK m=.obj C ns zs/\ip P w K mg base 1 "lessened" C sp/\("lessened":Str) ∉ ns/\∀(xs ys:List Nat) (a:Nat) (Q:D->Prop),a<aa m->(∀y∈ys,y<aa m)->xs.length<=1000->Q (.lst true (aj (cO (λx y=>bu m x (gm m a y)) xs ys)))->sp [.obj C ns zs,.lst false (aj xs),.int a,.lst false (aj ys)] Q:=by
 have hF:=cq hm
 obtain⟨k,n⟩:=m
 cases k with
 | true=>exact⟨_,_,_,VF K,rfl,⟨T.eU,_,_,_,T.aw4,ax0 T,T.U1.b⟩,by decide,λxs ys a Q ha hy hl q=>⟨_,n,a,xs,ys,rfl,T.eU,T.qj,sk hm,ha,hy,hl,q⟩⟩
 | false =>
  have lR:n<=64:=hF.hi
  have l2:2<=n:=hF.lo
  exact⟨_,_,_,VG K,rfl,⟨T.fc,_,_,_,T.au2,au3 T,T.U2.b⟩,by decide,λxs ys a Q ha hy hl q=>⟨_,n,a,xs,ys,rfl,T.fc,T.mR,by omega,dv (show a<n from ha) lR,λy h=>dv (show y<n from hy y h) lR,hl,q⟩⟩
noncomputable abbrev aR5(cb cp:Addr):aX:=λds Q=>∃(m:Bool × Nat) (T:List (List Nat)) (l:List Nat) (j:Nat),ds=[fD cb cp m,.lst false (aA false T),.lst false (aj l),.int j]/\m∈au/\T.length<=1000/\AllLt (aa m) l/\(∀r∈T,j<r.length/\r.length<=1000/\AllLt (aa m) r)/\Q (.lst true (aA true (T.map λr=>cO (λx y=>bu m x (gm m (r.getD j 0) y)) r l)))
theorem VI(T:Txt K mg t):aN P w K mg base aP 2 t.Ta t.Tc ["field","rows","lead_row","place"] (bf (aR5 t.aI t.aK)):=by
 refine bt T.J8.F aR1 ?_ ?_
 ·intro ds Q h
  obtain⟨m,G,l,j,rfl,hm,hG,hl,hr,q⟩:=h<;>rfl
 ·intro aE A outer s H E hr
  refine⟨_,(aF (aT (du [("lead_row",2),("field",0),("place",3)] ["row"] rfl (ie (bv 1)) (λ_ _ _ _=>(eT (i:=3) (show(["lead_row","field","place","row"]:List Str).Nodup by decide +kernel))) (λ_ _ _ _=>dD) (λ_ _ _ _=>(fH (P:=P) (w:=w) (K:=K) (mg:=mg) (base:=base) (n:=1) (bv 1) (hr.mono (by decide)) (ag (bv 3) (ag (bF (bv 3) (bv 2) (λ_ _=>rfl)) (ag (bv 0) aq))))) rfl))),λds Q h=>?_⟩
  obtain⟨m,G,l,j,rfl,hm,hG,hl,hr,q⟩:=h
  walk_at"l3"
  refine eN G (λr=>D.lst false (aj r)) (λr=>D.lst true (aj (cO (λx y=>bu m x (gm m (r.getD j 0) y)) r l))) (by rw[e7];rfl) (λa b h=>mK a b h) (λr bj=>?_) (.inr λr _=>gb _) (by rw[sL];omega) ?_
  ·obtain⟨h1,h2,h3⟩:=hr r bj
   obtain⟨C,ns,zs,sp,e1,e2,e3,e4⟩:=VH (P:=P) (w:=w) (base:=base) T hm
   walk_at"l3"
   refine⟨C,ns,zs,sp,e1,e2,e3,.int (r.getD j 0:Nat),by rw[ku (by omega) (by omega),fV],e4 _ _ _ _ (h3.getD (by have:=(cq hm).lo;omega) j) hl h2 ⟨rfl,rfl⟩⟩
  ·rw[aA,cj]at q
   exact q
noncomputable abbrev VJ(t:eI)(P:Program)(w:World)(K:Frag)(mg:Str->Option Value)(base:Heap):aX:=λds Q=>∃(m:Bool × Nat) (a b:Nat),ds=[fD t.aI t.aK m,.int a,.int b]/\m∈au/\a<aa m/\b<aa m/\(b=0->False)/\(b≠0->∀r:Nat,r<aa m->gm m r b=a->Q (.int (r:Nat)))
theorem VL(T:Txt K mg t):aN P w K mg base aP 2 t.CT t.Td ["self","a","b"] (bf (VJ t P w K mg base)):=by
 refine bt T.J9.F aL7 ?_ ?_
 ·intro ds Q h
  obtain⟨m,a,b,rfl,hm,ha,hb,qx,q⟩:=h<;>rfl
 ·intro aE A outer s H E hr
  refine⟨_,(aC (dm (b9 (gJ (cW hr)) (bv 2) (ae ak) (bH _)) (aF Bv) dk)
   (aC (dm (b9 (gJ (cW hr)) (bv 1) (ae ak) (bH _)) (aF (aT ak)) dk)
   (aF (aT (fH (P:=P) (w:=w) (K:=K) (mg:=mg) (base:=base) (n:=1) (bv 0) (hr.mono (by decide)) (ag (ae (az dR (bF (cZ (K:=K) (bv 0)) (bv 1) (λ_ _=>rfl)) (bF (cZ (K:=K) (bv 0)) (bv 2) (λ_ _=>rfl)))) aq)))))),λds Q h=>?_⟩
  obtain⟨m,a,b,rfl,hm,ha,hb,qx,q⟩:=h
  refine aB λU hU=>?_
  walk_at"l3"
  split
  ·rename_i h0
   exact qx (by omega)
  ·rename_i h0
   have b0:b≠0:=by omega
   refine hU _ ?_
   clear hU U
   refine aB λU hU=>?_
   walk_at"l3"
   split
   ·rename_i h1
    have a0:a=0:=by omega
    subst a0
    exact q b0 0 ha (dJ m b (bC m hm))
   ·rename_i h1
    have a0:a≠0:=by omega
    refine hU _ ?_
    clear hU U
    have hF:=cq hm
    obtain⟨r,e,vW,hr2⟩:=Qt hm (show 1<=a by omega) ha (show 1<=b by omega) hb
    have qr:=q b0 r vW hr2
    obtain⟨k,n⟩:=m
    cases k with
    | true =>
     walk_at"l3"
     have ll:(eZ (fl (true,n))).length=aa (true,n):=(yL _ _).trans hF.len
     have n0:=gT (lg (true,n) a-lg (true,n) b) (show(aa (true,n):Int)-1≠0 by have:=hF.lo;omega)
     have n1:=hV (lg (true,n) a-lg (true,n) b) (show(0:Int)<(aa (true,n):Int)-1 by have:=hF.lo;omega)
     refine⟨_,_,_,zL K,rfl,⟨T.eU,_,_,_,T.zw,zM T,T.wm.b⟩,by decide,_,_,_,_,rfl,T.eU,T.wo,rfl,_,mG (by omega) (by rw[ll];omega),_,_,_,_,rfl,T.eU,T.wo,rfl,_,mG (by omega) (by rw[ll];omega),?_⟩
     refine⟨_,_,_,_,aa (true,n),fl (true,n),r,rfl,T.eU,T.wq,T.sN,rfl,rfl,hF.lo,?_,qr⟩
     have hk:((lg (true,n) a-lg (true,n) b)%((aa (true,n):Int)-1)).toNat<(fl (true,n)).length:=by have:=hF.len;omega
     show(fl (true,n))[((lg (true,n) a-lg (true,n) b)%((aa (true,n):Int)-1)).toNat]?=some (r:Int)
     rw[<-e]
     unfold pw
     rw[aL,aO hk];rfl
    | false =>
     walk_at"l3"
     have ll:(eZ (fl (false,n))).length=aa (false,n):=(yL _ _).trans hF.len
     have n0:=gT (lg (false,n) a-lg (false,n) b) (show(aa (false,n):Int)-1≠0 by have:=hF.lo;omega)
     have n1:=hV (lg (false,n) a-lg (false,n) b) (show(0:Int)<(aa (false,n):Int)-1 by have:=hF.lo;omega)
     refine⟨_,_,_,zL K,rfl,⟨T.fc,_,_,_,T.zB,zM T,T.wm.b⟩,by decide,_,_,_,_,rfl,T.fc,T.zy,rfl,_,mG (by omega) (by rw[ll];omega),_,_,_,_,rfl,T.fc,T.zy,rfl,_,mG (by omega) (by rw[ll];omega),?_⟩
     refine⟨_,_,_,_,aa (false,n),fl (false,n),r,rfl,T.fc,T.zA,T.sO,rfl,rfl,hF.lo,?_,qr⟩
     have hk:((lg (false,n) a-lg (false,n) b)%((aa (false,n):Int)-1)).toNat<(fl (false,n)).length:=by have:=hF.len;omega
     show(fl (false,n))[((lg (false,n) a-lg (false,n) b)%((aa (false,n):Int)-1)).toNat]?=some (r:Int)
     rw[<-e]
     unfold pw
     rw[aL,aO hk];rfl
theorem VM(T:Txt K mg t)(m:Bool × Nat):ip P w K mg base 2 "over" (if m.1 then t.aI else t.aK) (VJ t P w K mg base):=by
 obtain⟨k,n⟩:=m
 cases k with
 | true=>exact⟨T.eU,_,_,_,T.Kt,VL T,T.J9.b⟩
 | false=>exact⟨T.fc,_,_,_,T.KA,VL T,T.J9.b⟩
noncomputable abbrev aR6(t:eI)(P:Program)(w:World)(K:Frag)(mg:Str->Option Value)(base:Heap):aX:=λds Q=>∃(m:Bool × Nat) (G:List (List Nat)),ds=[fD t.aI t.aK m,.lst false (aA false G)]/\m∈au/\G.length<=900/\RT (aa m) (ai G) G/\ai G<=900/\Q (.lst true (aA true (cu m G)))
theorem VN(T:Txt K mg t):aN P w K mg base aP 3 t.Te t.Tf ["field","table"] (bf (aR6 t P w K mg base)):=by
 refine bt T.zt.F qh ?_ ?_
 ·intro ds Q h
  obtain⟨m,G,rfl,hm,hG,hR,hw,q⟩:=h<;>rfl
 ·intro aE A outer s H E hr
  refine⟨_,(aC (aZ (i:=2) qh.nd rfl (ay rfl) (dQ cN))
   (aC (aZ (i:=3) qh.nd rfl (ay rfl) (da (bv 1)))
   (aC (gz eW rfl (i6 rfl T.gD (ag (ae (bA T.sM (DN T) hr (ag (bv 1) aq))) aq)) (jz (i:=4) qh.nd rfl (ay rfl))
    (FX 3 (aC (aZ (i:=5) qh.nd rfl (ay rfl) (bA T.UY (aM6 T) hr (ag (bv 3) (ag (bv 4) aq))))
    (aF (dm (b9 cB2 (bv 5) (ae FV) (bH _)) (aC (aZ (i:=6) qh.nd rfl (ay rfl) (fH (P:=P) (w:=w) (K:=K) (mg:=mg) (base:=base) (n:=1) (bv 0) (hr.mono (by decide)) (ag (ae (fH (P:=P) (w:=w) (K:=K) (mg:=mg) (base:=base) (n:=2) (bv 0) (hr.mono (by decide)) (ag (ae ak) (ag (bF (bF (bv 3) (bv 5) (λ_ _=>rfl)) (bv 4) (λ_ _=>rfl)) aq)))) (ag (bF (bv 3) (bv 5) (λ_ _=>rfl)) aq))))
     (aC (aZ (i:=3) qh.nd rfl (ay rfl) (bA T.J8 (VI T) hr (ag (bv 0) (ag (ae (az cC (ae (vB (bv 3) vm (vn (bv 5)))) (ae (vB (bv 3) (vn (ae (az cC (bv 5) (ae ak)))) vm)))) (ag (bv 6) (ag (bv 4) aq))))))
     (aF (aZ (i:=2) qh.nd rfl (ay rfl) (cE7 (bA T.J8 (VI T) hr (ag (bv 0) (ag (bv 2) (ag (bv 6) (ag (bv 4) aq))))) (dQ (cB (em 6) cN))))))) dk)))))
   (aF (aT (em 2)))))),λds Q h=>?_⟩
  obtain⟨m,G,rfl,hm,hG,hR,hw,q⟩:=h
  have cJ:=(cq hm).lo
  refine aB λU hU=>?_
  walk_at"l3"
  refine⟨by decide,hU _ ?_⟩
  clear hU U
  refine aB λU hU=>?_
  walk_at"l3"
  refine hU _ ?_
  clear hU U
  refine aB λU hU=>?_
  walk_at"l3"
  refine⟨G,rfl,by omega,λr bj=>?_,?_⟩
  ·rw[(hR r bj).1];omega
  refine⟨_,rfl,⟨by omega,by omega⟩,?_⟩
  refine yv (λk δ=>∃(o:Bool) (o1 o2 o3:Option D),δ=[some (fD t.aI t.aK m),some (D.lst false (aA false G)),some (D.lst true (aA true (j3 m G k).1)),some (D.lst o (aA o (j3 m G k).2)),o1,o2,o3]) ⟨false,none,none,none,rfl⟩ ?_ ?_
  ·rintro k δ hk ⟨o,o1,o2,o3,rfl⟩
   have I:=Cj hm hR k
   rw[Hg]
   generalize j3 m G k=s at I ⊢
   simp only[gN,rn,jL,jK,qC,qB,wV,exists_eq_left',eK,e7]
   clear hU
   have il:=I.l
   refine aB λU hU=>?_
   walk_at"l3"
   refine⟨s.2,k,rfl,by omega,λr bj=>by rw[(I.b r bj).1];omega,?_⟩
   cases e:jZ s.2 k with
   | none =>
    rw[show iM m s k=s by unfold iM;rw[e]]at hU
    refine hU _ ?_
    walk_at"l3"
    exact⟨false,_,_,_,⟨rfl,rfl⟩,rfl,rfl,rfl⟩
   | some i =>
    obtain⟨hi,h1,h2⟩:=Ci e
    have er:iM m s k=(g7 m s.1 (eP m s.2 i k) k++[eP m s.2 i k],g7 m (s.2.take i++s.2.drop (i+1)) (eP m s.2 i k) k):=by unfold iM;rw[e]
    rw[er]at hU
    refine hU _ ?_
    clear hU
    walk_at"l3"
    obtain⟨C,ns,xs,sp,e1,e2,e3,e4⟩:=ch6 (P:=P) (w:=w) (base:=base) T hm
    refine aB λU hU=>?_
    walk_at"l3"
    obtain⟨lw,lr⟩:=I.b _ (dz hi)
    have bk:=lr.getD (show 0<aa m by omega) k
    refine⟨C,ns,xs,sp,e1,e2,e3,_,_,_,_,vP _ _ m,VM T m,Qu m _ (by decide),.lst false (aj s.2[i]),yT false hi,?_⟩
    dsimp only
    refine⟨.int (s.2[i].getD k 0:Nat),by rw[ku (by omega) (by omega),fV],m,1,s.2[i].getD k 0,by rw[vP];rfl,hm,cJ,bk,λz=>absurd z h1,λ_ f hf hfo=>⟨rfl,.lst false (aj s.2[i]),yT false hi,?_⟩⟩
    have ef:mM m (s.2[i].getD k 0)=f:=Cg hm hf hfo
    rw[sr]
    refine e4 _ _ _ hf lr (by omega) ⟨by rw[gb,m6],hU _ ?_⟩
    have el:s.2[i].map (gm m f)=eP m s.2 i k:=by unfold eP;rw[h2,ef]
    rw[el]
    have ll:(eP m s.2 i k).length=ai G:=by rw[<-el,bw];exact lw
    have la:AllLt (aa m) (eP m s.2 i k):=λx hx=>by
     rw[<-el]at hx
     obtain⟨y,_,rfl⟩:=bB.mp hx
     exact bJ hm _ _
    generalize eP m s.2 i k=ld at ll la ⊢
    clear hU
    refine aB λU hU=>?_
    walk_at"l3"
    have K0:∀r∈s.2.take i++s.2.drop (i+1),r.length=ai G/\AllLt (aa m) r:=λr bj=>by
     rcases cE.mp bj with h | h
     ·exact I.b r (tJ h)
     ·exact I.b r (oV h)
    have VO:∀X:List (List Nat),(D.lst true (aA true X)).fr=true:=λX=>by rw[gv,vV];rfl
    rw[GD,show((i:Int)+1)=((i+1:Nat):Int) by omega,GF,sC,e7]
    refine⟨by rw[hE,ji];omega,m,_,ld,k,rfl,hm,by rw[dF,hE,ji];omega,la,λr bj=>⟨by rw[(K0 r bj).1];exact hk,by rw[(K0 r bj).1];omega,(K0 r bj).2⟩,VO _,hU _ ?_⟩
    clear hU
    walk_at"l3"
    refine⟨m,s.1,ld,k,rfl,hm,by omega,la,λr bj=>⟨by rw[(I.a r bj).1];exact hk,by rw[(I.a r bj).1];omega,(I.a r bj).2⟩,VO _,by decide,_,_,rfl,rfl,?_,true,_,_,_,sC true _ [ld],⟨rfl,rfl⟩,rfl,rfl,rfl⟩
    rw[lh,bw]
    show s.1.length+1<=_
    omega
  ·rintro δ ⟨o,o1,o2,o3,rfl⟩
   refine hU _ ?_
   walk_at"l3"
   exact q
noncomputable abbrev aS2:aX:=λds Q=>∃T:List (List Nat),ds=[.lst false (aA false T)]/\T.length<=1000/\Q (.lst true (aA true T))
theorem aS3(T:Txt K mg t):aN P w K mg base aP 1 t.Tg t.Th ["table"] (bf (aS2 )):=by
 refine bt T.C8.F aR9 ?_ ?_
 ·intro ds Q h
  obtain⟨G,rfl,hG,q⟩:=h<;>rfl
 ·intro aE A outer s H E hr
  refine⟨_,(aF (aT (du [] ["row"] rfl (ie (bv 0)) (λ_ _ _ _=>(eT (i:=0) (show(["row"]:List Str).Nodup by decide +kernel))) (λ_ _ _ _=>dD) (λ_ _ _ _=>(xT (xU) (by rfl) T.zH xC (ag (bv 0) aq))) rfl))),λds Q h=>?_⟩
  obtain⟨G,rfl,hG,q⟩:=h
  walk_at"l3"
  refine eN G (λr=>D.lst false (aj r)) (λr=>D.lst true (aj r)) (by rw[e7];rfl) (λa b h=>mK a b h) (λr bj=>?_) (.inr λr _=>gb r) (by rw[sL];omega) q
  walk_at"l3"
noncomputable abbrev ch9:aX:=λds Q=>∃T:List (List Nat),ds=[.lst false (aA false T)]/\T.length<=1000/\(∀r∈T,r.length<=1000/\∃x∈r,x≠0)/\Q (.lst true (aj (T.map bc)))
theorem VP(T:Txt K mg t):aN P w K mg base aP 1 t.Ti t.Tj ["rows"] (bf (ch9 )):=by
 refine bt T.Ka.F cf6 ?_ ?_
 ·intro ds Q h
  obtain⟨G,rfl,hG,hr,q⟩:=h<;>rfl
 ·intro aE A outer s H E hr
  refine⟨_,(aF (aT (du [] ["row"] rfl (ie (bv 0)) (λ_ _ _ _=>(eT (i:=0) (show(["row"]:List Str).Nodup by decide +kernel))) (λ_ _ _ _=>dD) (by exact λ_ _ _ _=>(da (bF (ae (du [] ["place","x"] rfl (nV rfl T.oK (ag (bv 0) aq)) (λ_ _ _ _=>(sI (i1:=0) (i2:=1) (show(["place","x"]:List Str).Nodup by decide +kernel))) (λ_ _ _ _=>(BC (b9 (ij (cW hr)) (bv 1) (ae ak) (bH _)))) (λ_ _ _ _=>(da (bv 0))) rfl)) (ae ak) (λ_ _=>rfl)))) rfl))),λds Q h=>?_⟩
  obtain⟨G,rfl,hG,hr,q⟩:=h
  walk_at"l3"
  refine eN G (λr=>D.lst false (aj r)) (λr=>D.int (bc r:Nat)) (by rw[e7];rfl) (λa b h=>mK a b h) (λr bj=>?_) (.inr λr _=>rfl) (by rw[sL];omega) ?_
  ·obtain⟨h1,x,hx,h3⟩:=hr r bj
   walk_at"l3"
   refine Cf (aD r.length) (λ(i:Nat)=>D.tup [.int (i:Int),.int ((r.getD i 0:Nat):Int)]) (λ(i:Nat)=>D.int (i:Int)) (λi=>r.getD i 0 != 0) (Hf r) (λa b h=>by injection h with h;simp at h;omega) (λi hi=>?_) (.inr λ_ _ _=>rfl) (by rw[bL,sL];omega) ?_
   ·walk_at"l3"
    refine⟨?_,λ_=>trivial⟩
    by_cases h0:r.getD i 0=0
    ·rw[h0];rfl
    ·rw[decide_eq_false (by omega),bne_iff_ne.mpr h0];rfl
   ·refine⟨.int (bc r:Nat),L3.GA (k:=0) ?_,rfl,rfl⟩
    rw[cI,QY ⟨x,hx,h3⟩];rfl
  ·rw[cH,cj]at q
   exact q
noncomputable abbrev aK6:aX:=λds Q=>∃(T:List (List Nat)) (w:Nat),ds=[.lst false (aA false T),.int w]/\T.length<=1000/\w<=1000/\(∀r∈T,r.length<=1000/\∃x∈r,x≠0)/\Q (.lst true (aj (gg T w)))
theorem VQ(T:Txt K mg t):aN P w K mg base aP 2 t.Tn t.To ["rows","width"] (bf (aK6 )):=by
 refine bt T.zu.F Si ?_ ?_
 ·intro ds Q h
  obtain⟨G,w,rfl,hG,hw,hr,q⟩:=h<;>rfl
 ·intro aE A outer s H E hr
  refine⟨_,(aC (aZ (i:=2) Si.nd rfl (bW rfl) (bA T.Ka (VP T) hr (ag (bv 0) aq)))
   (aF (aT (du [("taken",2)] ["place"] rfl (i6 rfl T.gD (ag (bv 1) aq)) (λ_ _ _ _=>(eT (i:=1) (show(["taken","place"]:List Str).Nodup by decide +kernel))) (λ_ _ _ _=>(BC (b9 cC8 (bv 1) (bv 0) (by with_unfolding_all rfl)))) (λ_ _ _ _=>(da (bv 1))) rfl)))),λds Q h=>?_⟩
  obtain⟨G,w,rfl,hG,hw,hr,q⟩:=h
  refine aB λU hU=>?_
  walk_at"l3"
  refine⟨G,rfl,hG,hr,?_⟩
  refine hU _ ?_
  clear hU U
  walk_at"l3"
  refine⟨⟨by omega,by omega⟩,Cf (aD w) (λ(i:Nat)=>D.int (i:Int)) (λ(i:Nat)=>D.int (i:Int)) (λj=>!(G.map bc).contains j) (mJ _ rfl) iG (λj hj=>?_) (.inr λ_ _ _=>rfl) (by rw[bL,sL];omega) ?_⟩
  ·walk_at"l3"
   exact⟨_,rfl,by rw[cb3],λ_=>trivial⟩
  ·rw[cH]at q
   exact q
noncomputable abbrev VR:aX:=λds Q=>∃(d:D) (a b:Nat),ds=[d,.int a,.int b]/\Q (.int (a ^^^ b:Nat))
theorem aE9(T:Txt K mg t):aN P w K mg base aP 1 t.JP t.Tp ["self","a","b"] (bf (VR )):=by
 refine bt T.U3.F aE2 ?_ ?_
 ·intro ds Q h
  obtain⟨d,a,b,rfl,q⟩:=h<;>rfl
 ·intro aE A outer s H E hr
  refine⟨_,(aF (aT (az uZ (bv 1) (bv 2)))),λds Q h=>?_⟩
  obtain⟨d,a,b,rfl,q⟩:=h
  walk_at"l3"
  rw[mm];exact q
noncomputable abbrev VS(K:Frag):aX:=λds Q=>∃(C:Addr) (p:Nat) (a b:Int),ds=[pY C p,.int a,.int b]/\cQ K C/\bq K C "prime"/\0<p/\Q (.int ((a-b)%p))
theorem aA3(T:Txt K mg t):aN P w K mg base aP 1 t.JQ t.Tq ["self","a","b"] (bf (VS K)):=by
 refine bt T.U4.F aA0 ?_ ?_
 ·intro ds Q h
  obtain⟨C,p,a,b,rfl,hC,hn,hp,q⟩:=h<;>rfl
 ·intro aE A outer s H E hr
  refine⟨_,(aF (aT (az dE (ae (az dR (bv 1) (bv 2))) (cZ (K:=K) (bv 0))))),λds Q h=>?_⟩
  obtain⟨C,p,a,b,rfl,hC,hn,hp,q⟩:=h
  walk_at"l3"
  refine⟨C,_,_,.int p,rfl,hC,hn,rfl,?_⟩
  exact⟨by omega,q⟩
theorem K1(T:Txt K mg t){m:Bool × Nat}(h0:0<m.2):∃C ns xs sp,fD t.aI t.aK m=.obj C ns xs/\ip P w K mg base 1 "minus" C sp/\("minus":Str) ∉ ns/\∀(a b:Nat) (Q:D->Prop),Q (.int (gl m a b))->sp [.obj C ns xs,.int a,.int b] Q:=by
 obtain⟨k,n⟩:=m
 cases k with
 | true=>exact⟨_,_,_,VR,rfl,⟨T.eU,_,_,_,T.aE7,aE9 T,T.U3.b⟩,by decide,λa b Q q=>⟨_,a,b,rfl,q⟩⟩
 | false=>exact⟨_,_,_,VS K,rfl,⟨T.fc,_,_,_,T.aA2,aA3 T,T.U4.b⟩,by decide,λa b Q q=>⟨_,n,a,b,rfl,T.fc,T.mR,h0,q⟩⟩
noncomputable abbrev ax1(cb cp:Addr):aX:=λds Q=>∃(m:Bool × Nat) (T:List (List Nat)) (w:Nat),ds=[fD cb cp m,.lst false (aA false T),.int w]/\m∈au/\T.length<=1000/\w<=1000/\RT (aa m) w T/\(∀r∈T,∃x∈r,x≠0)/\Q (.lst true (aA true (i8 m T w)))
theorem ax2(T:Txt K mg t):aN P w K mg base aP 3 t.Tr t.Ts ["field","rows","width"] (bf (ax1 t.aI t.aK)):=by
 refine bt T.C9.F wg ?_ ?_
 ·intro ds Q h
  obtain⟨m,G,wi,rfl,hm,hG,hw,hR,hr,q⟩:=h<;>rfl
 ·intro aE A outer s H E hr
  refine⟨_,(aC (aZ (i:=3) wg.nd rfl (ay rfl) (bA T.Ka (VP T) hr (ag (bv 1) aq)))
   (aC (aZ (i:=4) wg.nd rfl (ay rfl) (dQ cN))
   (FX 3 (aC (gz eW rfl (Bz (bA T.zu (VQ T) hr (ag (bv 1) (ag (bv 2) aq)))) (jz (i:=5) wg.nd rfl (ay rfl))
    (aC (aZ (i:=6) wg.nd rfl (ay rfl) (az fM (ae (dQ (cB ak cN))) (bv 2)))
    (aC (pP (i:=6) rfl (by first | exact ay rfl | exact bW (ay rfl)) ak (bv 5))
    (aC (gz eW rfl (vy rfl T.wt (ag (bv 3) (ag (bv 1) aq))) (mH (i1:=7) (i2:=8) rfl wg.nd rfl (ay rfl) rfl (ay rfl))
     (aF (pP (i:=6) rfl (by first | exact ay rfl | exact bW (ay rfl)) (fH (P:=P) (w:=w) (K:=K) (mg:=mg) (base:=base) (n:=1) (bv 0) (hr.mono (by decide)) (ag (ae ak) (ag (bF (bv 8) (bv 5) (λ_ _=>rfl)) aq))) (bv 7))))
    (aF (nQ (i:=4) rfl (by first | exact ay rfl | exact bW (ay rfl)) (em 6)))))))
   (aF (aT (em 4))))))),λds Q h=>?_⟩
  obtain⟨m,G,wi,rfl,hm,hG,hw,hR,hr,q⟩:=h
  have m0:=bC m hm
  have cJ:=(cq hm).lo
  refine aB λU hU=>?_
  walk_at"l3"
  refine⟨G,rfl,hG,λr bj=>⟨by rw[(hR r bj).1];exact hw,hr r bj⟩,hU _ ?_⟩
  clear hU U
  refine aB λU hU=>?_
  walk_at"l3"
  refine⟨by decide,hU _ ?_⟩
  clear hU U
  refine⟨_,rfl,?_⟩
  rw[sr]
  simp only[jL,jK]
  refine aB λU hU=>?_
  walk_at"l3"
  refine⟨G,wi,rfl,hG,hw,λr bj=>⟨by rw[(hR r bj).1];exact hw,hr r bj⟩,?_⟩
  refine⟨_,rfl,?_⟩
  have hfp:∀j∈gg G wi,j<wi:=λj hj=>bY.mp (qo.mp hj).1
  have lfp:(gg G wi).length<=wi:=by
   have:=Ys (λj=>!(G.map bc).contains j) (aD wi)
   rw[bL]at this
   exact this
  rw[rV]
  refine gy.mk (λi δ=>∃o1 o2 o3 o4,δ=[some (fD t.aI t.aK m),some (D.lst false (aA false G)),some (D.int wi),some (D.lst false (aj (G.map bc))),some (D.lst true (aA true (((gg G wi).take i).map (g8 m G wi)))),o1,o2,o3,o4]) ⟨_,_,_,_,rfl⟩ ?_ ?_
  ·rintro i d δ hd ⟨o1,o2,o3,o4,rfl⟩
   rw[cH,cI]at hd
   obtain⟨f,hf,rfl⟩:=An.mp hd
   have hfw:=hfp f (tD hf)
   clear hd
   refine aB λU hU=>?_
   walk_at"l3"
   have er:aJ (aQ wi 0)=aj (aQ wi 0):=by
    rw[cH,oW];unfold aJ;rw[oW];rfl
   rw[fV,er]
   refine⟨by decide,⟨by omega,by omega,by omega⟩,hU _ ?_⟩
   clear hU
   refine aB λU hU=>?_
   walk_at"l3"
   refine⟨_,f,rfl,?_,?_⟩
   ·rw[vT (by omega) (by rw[dY,dG];omega)];rfl
   rw[show(aj (aQ wi 0)).set f (D.int 1)=aj ((aQ wi 0).set f 1) from G8 _ _ 1]
   refine hU _ ?_
   clear hU
   refine aB λU hU=>?_
   walk_at"l3"
   refine⟨_,_,rfl,rfl,?_⟩
   refine gy.mk (λk δ=>∃o3 o4,δ=[some (fD t.aI t.aK m),some (D.lst false (aA false G)),some (D.int wi),some (D.lst false (aj (G.map bc))),some (D.lst true (aA true (((gg G wi).take i).map (g8 m G wi)))),some (D.int f),some (D.lst true (aj ((((G.map bc).zip G).take k).foldl (λx z=>x.set z.1 (bu m 0 (z.2.getD f 0))) ((aQ wi 0).set f 1)))),o3,o4]) ⟨_,_,rfl⟩ ?_ ?_
   ·rintro k d δ hd ⟨o3,o4,rfl⟩
    obtain⟨hk,rfl⟩:=cr8 hd
    clear hd
    obtain⟨lw,la⟩:=hR _ (dz hk)
    have xl:=Q0 (λz:Nat × List Nat=>z.1) (λz=>bu m 0 (z.2.getD f 0)) (((G.map bc).zip G).take k) ((aQ wi 0).set f 1)
    rw[jj,dG]at xl
    obtain⟨C,ns,xs,sp,e1,e2,e3,e4⟩:=K1 (P:=P) (w:=w) (base:=base) T m0
    have hld:bc G[k]<wi:=by
     rw[<-lw]
     obtain⟨x,hx,h0⟩:=hr _ (dz hk)
     exact M5 ⟨x,hx,by simpa using h0⟩
    have ga:=ir hm (a:=0) (b:=G[k].getD f 0) (by omega) (la.getD (by omega) f)
    walk_at"l3"
    refine⟨C,ns,xs,sp,e1,e2,e3,.int (G[k].getD f 0:Nat),by rw[ku (by omega) (by omega),fV],e4 0 (G[k].getD f 0) _ ⟨rfl,_,bc G[k],rfl,?_,_,_,?_,rfl,rfl⟩⟩
    ·rw[vT (by omega) (by rw[dY,xl];omega)];rfl
    ·rw[ga.1,G8,kH,EC]
     have ez:((G.map bc).zip G)[k]?=some (bc G[k],G[k]):=by
      rw[List.zip,tS,cI,aO hk];rfl
     rw[ez];rfl
   ·rintro δ ⟨o3,o4,rfl⟩
    refine hU _ ?_
    walk_at"l3"
    refine⟨⟨_,rfl⟩,by rw[bw,hE];omega,_,_,_,_,?_,rfl,rfl,rfl,rfl⟩
    rw[show((G.map bc).zip G).take (fP (aj (G.map bc)) (aA false G)).length=(G.map bc).zip G from Ew (by unfold fP;rw[EB,j9,dY,lh];exact bK _),kH,hf,fh]
    exact sC true _ [g8 m G wi f]
  ·rintro δ ⟨o1,o2,o3,o4,rfl⟩
   refine hU _ ?_
   walk_at"l3"
   rw[mY]
   exact q
noncomputable abbrev aP0(t:eI)(K:Frag):L2.Sp:=λvs H Q _=>∃(F H0:Hp) (x dx C:Addr) (vf vc:V) (m:Bool × Nat) (G:List (List Nat)) (pre:List (Str × V)),vs=[.ref x,vf,vc]/\L3.af F H0/\H0 x=none/\L3.af H0 H/\H x=some (.ins C dx (pre++[]))/\sH pre/\dr4 K C /\
 R F H0 [fD t.aI t.aK m] [vf] []/\R F H0 [.lst false (aA false G)] [vc] []/\m∈au/\RT (aa m) (ai G) G/\G.length<=64/\ai G<=64 /\
 ∀H' p1 p2 p3 A1 A2 A3,bO x H H'->H' x=some (.ins C dx (pre++oA.zip [vf,.int (ai G:Nat),.ref p1,.ref p2,.ref p3,.int ((gg (cu m G) (ai G)).length:Nat)]))->R (λ_=>none) H' [.lst true (aA true G)] [.ref p1] A1->R (λ_=>none) H' [.lst true (aA true (i8 m (cu m G) (ai G)))] [.ref p2] A2->R (λ_=>none) H' [.lst true (aj (gg (cu m G) (ai G)))] [.ref p3] A3->(A1++(A2++A3)).Nodup->(∀a∈A1++(A2++A3),H a=none)->Q .ax H'
theorem K2(T:Txt K mg t):aN P w K mg base aP 4 t.JR t.Tt ["self","field","checks"] (aP0 t K):=by
 refine T.Dc.F.ok Sj (λvs H Q E h=>?_) λaE A outer s H vs Q E hr h=>?_
 ·obtain⟨F,H0,x,dx,C,vf,vc,m,G,pre,rfl,_⟩:=h;rfl
 obtain⟨F,H0,x,dx,C,vf,vc,m,G,pre,rfl,e0,gI,s0,hx,hp,hC,rf,rc,hm,hG,hGl,hGw,q⟩:=h
 refine⟨_,fm (EU (i:=3) Sj.nd rfl (ay rfl) (jt ((VN T).mono (by decide)) hr rfl T.zt.g T.zt.F.kp T.zt.b .nil dB (cm (pv 1) (cm (pv 2) fw))))
  (fm (ib (pv 0) (pv 1) rfl)
  (fm (ib (pv 0) (jt ((DN T).mono (by decide)) hr rfl T.sM.g T.sM.F.kp T.sM.b .nil dB (cm (pv 2) fw)) rfl)
  (fm (ib (pv 0) (jt ((aS3 T).mono (by decide)) hr rfl T.C8.g T.C8.F.kp T.C8.b .nil dB (cm (pv 2) fw)) rfl)
  (fm (ib (pv 0) (jt ((ax2 T).mono (by decide)) hr rfl T.C9.g T.C9.F.kp T.C9.b .nil dB (cm (pv 1) (cm (pv 3) (cm (qV (pv 0) rfl) fw)))) rfl)
  (fm (ib (pv 0) (jt ((VQ T).mono (by decide)) hr rfl T.zu.g T.zu.F.kp T.zu.b .nil dB (cm (pv 3) (cm (qV (pv 0) rfl) fw))) rfl)
  (jo (ib (pv 0) (Be NW rfl T.eV eJ (cm (qV (pv 0) rfl) fw)) rfl))))))),?_⟩
 try dsimp only[kn,kq]
 have hn:=cC6 hm hG
 have hk:=HK hm hG
 obtain⟨_,iR,iL,_⟩:=mN hm hG
 have fR:∀X:List (List Nat),[D.lst true (aA true X)].all D.fr=true:=λX=>by rw[dy,gv,vV];rfl
 have fN:∀X:List Nat,[D.lst true (aj X)].all D.fr=true:=λX=>by rw[dy,gb];rfl
 refine⟨_,rfl,_,rfl,F,[fD t.aI t.aK m,.lst false (aA false G)],λd=>d=.lst true (aA true (cu m G)),e0.trans s0,R.cons (A:=[]) (rf.shared (L3.af.refl _) s0) (rc.shared (L3.af.refl _) s0),⟨m,G,rfl,hm,by omega,hG,by omega,rfl⟩,λd v F1 H1 A1 hd ff zP K3 VT r1 VU K4=>?_⟩
 subst hd
 obtain⟨p0,rfl⟩:=v9 r1
 have cM:=ff.get _ _ hx rfl
 have z1:bO x H H1:=ff.x
 have r1:=r1.q5 (fR _) zP
 have wz:∀X:List (List Nat),[D.lst true (aA true X)].map D.sh=[D.lst false (aA false X)]:=λX=>by rw[dw,eK,e7];rfl
 have ax:∀{F' H':Hp} {d:D} {v:V} {A':List Addr},R F' H' [d] [v] A'->[d].all D.fr=true->R (λ_=>none) H' [d] [v] A':=λr h=>r.q5 h (L3.af.of λb o e=>by cases e)
 have mv:∀{F' H' wA:Hp} {ds:List D} {vs:List V} {A':List Addr} {fs fs':List (Str × V)},R F' H' ds vs A'->L3.af H' wA->wA x=some (.ins C dx fs)->ds.all D.fr=true->R F' (upd wA x (.ins C dx fs')) ds vs A':=λr h dj hd=>(r.grow (L3.af.refl _) h λa ha=>(r.lists a ha).2).si dj hd
 refine⟨vf,rfl,.ref x,rfl,x,C,dx,_,rfl,cM,hC.cls,hC.field,hp.lt (by decide),?_⟩
 have r2:=mv r1 (L3.af.refl _) cM (fR _) (fs':=bE "field" vf (pre++[]))
 have z2:=z1.trans (bO.upd (C:=x) (dx:=dx) cM rfl (o':=.ins C dx (bE "field" vf (pre++[]))))
 have eE:upd H1 x (.ins C dx (bE "field" vf (pre++[]))) x=some (.ins C dx (pre++([("field",vf)]:List (Str × V)))):=by rw[bQ,hp.put _ _ _ (by decide)];rfl
 generalize upd H1 x (.ins C dx (bE "field" vf (pre++[])))=H2 at r2 z2 eE ⊢
 have t2:=bO.of0 gI s0 z2
 refine⟨_,rfl,F,[.lst false (aA false G)],λd=>d=.int (ai G:Nat),e0.trans t2,rc.shared (L3.af.refl _) t2,⟨G,rfl,by omega,λr bj=>by rw[(hG r bj).1];omega,rfl⟩,λd v F3 H3 A3 hd iu zO he3 h33 r3 nd3 EY=>?_⟩
 subst hd
 cases r3
 have fC:=iu.get _ _ eE rfl
 refine⟨.ref x,rfl,x,C,dx,_,rfl,fC,hC.cls,hC.length,hp.lt (by show 1<=6;decide),?_⟩
 have r4:=mv r2 iu fC (fR _) (fs':=bE "length" (.int (ai G:Nat)) (pre++([("field",vf)]:List (Str × V))))
 have z4:=(z2.trans (iu.x (x:=x))).trans (bO.upd (C:=x) (dx:=dx) fC rfl (o':=.ins C dx (bE "length" (.int (ai G:Nat)) (pre++([("field",vf)]:List (Str × V))))))
 have jH:upd H3 x (.ins C dx (bE "length" (.int (ai G:Nat)) (pre++([("field",vf)]:List (Str × V))))) x=some (.ins C dx (pre++([("field",vf),("length",.int (ai G:Nat))]:List (Str × V)))):=by rw[bQ,hp.put _ _ _ (by decide)];rfl
 generalize upd H3 x (.ins C dx (bE "length" (.int (ai G:Nat)) (pre++([("field",vf)]:List (Str × V)))))=H4 at r4 z4 jH ⊢
 have t4:=bO.of0 gI s0 z4
 refine⟨_,rfl,F,[.lst false (aA false G)],λd=>d=.lst true (aA true G),e0.trans t4,rc.shared (L3.af.refl _) t4,⟨G,rfl,by omega,rfl⟩,λd v F5 H5 A5 hd kD hf5 he5 h35 r5 nd5 xi=>?_⟩
 subst hd
 obtain⟨p1,rfl⟩:=v9 r5
 have jg:=kD.get _ _ jH rfl
 refine⟨.ref x,rfl,x,C,dx,_,rfl,jg,hC.cls,hC.dr5,hp.lt (by show 2<=6;decide),?_⟩
 have r6:=mv r4 kD jg (fR _) (fs':=bE "check_rows" (.ref p1) (pre++([("field",vf),("length",.int (ai G:Nat))]:List (Str × V))))
 have k6:=mv (ax r5 (fR _)) (L3.af.refl _) jg (fR _) (fs':=bE "check_rows" (.ref p1) (pre++([("field",vf),("length",.int (ai G:Nat))]:List (Str × V))))
 have z6:=(z4.trans (kD.x (x:=x))).trans (bO.upd (C:=x) (dx:=dx) jg rfl (o':=.ins C dx (bE "check_rows" (.ref p1) (pre++([("field",vf),("length",.int (ai G:Nat))]:List (Str × V))))))
 have ql:upd H5 x (.ins C dx (bE "check_rows" (.ref p1) (pre++([("field",vf),("length",.int (ai G:Nat))]:List (Str × V))))) x=some (.ins C dx (pre++([("field",vf),("length",.int (ai G:Nat)),("check_rows",.ref p1)]:List (Str × V)))):=by rw[bQ,hp.put _ _ _ (by decide)];rfl
 generalize upd H5 x (.ins C dx (bE "check_rows" (.ref p1) (pre++([("field",vf),("length",.int (ai G:Nat))]:List (Str × V)))))=H6 at r6 k6 z6 ql ⊢
 have n5:∀a∈A5,H a=none:=λa ha=>z4.free (by rw[jH];simp) (xi a ha)
 have t6:=bO.of0 gI s0 z6
 have e6:=e0.trans t6
 refine⟨_,rfl,_,rfl,.ref x,rfl,x,C,dx,_,.int (ai G:Nat),rfl,ql,hC.cls,hC.length,(hp.look _ _ (by decide)).trans rfl,L3.bx F H6 A1,[fD t.aI t.aK m,.lst false (aA false (cu m G)),.int (ai G:Nat)],λd=>d=.lst true (aA true (i8 m (cu m G) (ai G))),nE e6,R.cons (A:=[]) (rf.shared (iE e6) t6) (R.cons (A:=[]) (wz _ ▸ r6.bx e6 A1 λ_ h=>h) (.int .nil)),⟨m,cu m G,ai G,rfl,hm,by omega,by omega,iR,hn,rfl⟩,λd v F7 H7 A7 hd oM hf7 he7 h37 r7 nd7 VV=>?_⟩
 subst hd
 obtain⟨p2,rfl⟩:=v9 r7
 have mS:=oM.get _ _ ql rfl
 refine⟨.ref x,rfl,x,C,dx,_,rfl,mS,hC.cls,hC.dr6,hp.lt (by show 3<=6;decide),?_⟩
 have r8:=mv r6 oM mS (fR _) (fs':=bE "word_rows" (.ref p2) (pre++([("field",vf),("length",.int (ai G:Nat)),("check_rows",.ref p1)]:List (Str × V))))
 have k8:=mv k6 oM mS (fR _) (fs':=bE "word_rows" (.ref p2) (pre++([("field",vf),("length",.int (ai G:Nat)),("check_rows",.ref p1)]:List (Str × V))))
 have w8:=mv (ax r7 (fR _)) (L3.af.refl _) mS (fR _) (fs':=bE "word_rows" (.ref p2) (pre++([("field",vf),("length",.int (ai G:Nat)),("check_rows",.ref p1)]:List (Str × V))))
 have z8:=(z6.trans (oM.x (x:=x))).trans (bO.upd (C:=x) (dx:=dx) mS rfl (o':=.ins C dx (bE "word_rows" (.ref p2) (pre++([("field",vf),("length",.int (ai G:Nat)),("check_rows",.ref p1)]:List (Str × V))))))
 have DP:upd H7 x (.ins C dx (bE "word_rows" (.ref p2) (pre++([("field",vf),("length",.int (ai G:Nat)),("check_rows",.ref p1)]:List (Str × V))))) x=some (.ins C dx (pre++([("field",vf),("length",.int (ai G:Nat)),("check_rows",.ref p1),("word_rows",.ref p2)]:List (Str × V)))):=by rw[bQ,hp.put _ _ _ (by decide)];rfl
 generalize upd H7 x (.ins C dx (bE "word_rows" (.ref p2) (pre++([("field",vf),("length",.int (ai G:Nat)),("check_rows",.ref p1)]:List (Str × V)))))=H8 at r8 k8 w8 z8 DP ⊢
 have n7:∀a∈A7,H a=none:=λa ha=>z6.free (by rw[ql];simp) (VV a ha)
 have d57:∀a∈A5,a ∉ A7:=λa ha hb=>by
  obtain⟨⟨ws,e⟩,_⟩:=k6.lists a ha
  rw[VV a hb]at e;cases e
 have t8:=bO.of0 gI s0 z8
 have e8:=e0.trans t8
 refine⟨_,rfl,.ref x,rfl,x,C,dx,_,.int (ai G:Nat),rfl,DP,hC.cls,hC.length,(hp.look _ _ (by decide)).trans rfl,L3.bx F H8 A1,[.lst false (aA false (cu m G)),.int (ai G:Nat)],λd=>d=.lst true (aj (gg (cu m G) (ai G))),nE e8,R.cons (A:=[]) (wz _ ▸ r8.bx e8 A1 λ_ h=>h) (.int .nil),⟨cu m G,ai G,rfl,by omega,by omega,λr bj=>⟨by rw[(iR r bj).1];omega,hn r bj⟩,rfl⟩,λd v F9 H9 A9 hd DQ hf9 he9 h39 r9 nd9 K5=>?_⟩
 subst hd
 obtain⟨p3,rfl⟩:=v9 r9
 have zQ:=DQ.get _ _ DP rfl
 refine⟨.ref x,rfl,x,C,dx,_,rfl,zQ,hC.cls,hC.R1,hp.lt (by show 4<=6;decide),?_⟩
 have VW:=mv k8 DQ zQ (fR _) (fs':=bE "message_places" (.ref p3) (pre++([("field",vf),("length",.int (ai G:Nat)),("check_rows",.ref p1),("word_rows",.ref p2)]:List (Str × V))))
 have VX:=mv w8 DQ zQ (fR _) (fs':=bE "message_places" (.ref p3) (pre++([("field",vf),("length",.int (ai G:Nat)),("check_rows",.ref p1),("word_rows",.ref p2)]:List (Str × V))))
 have K6:=mv (ax r9 (fN _)) (L3.af.refl _) zQ (fN _) (fs':=bE "message_places" (.ref p3) (pre++([("field",vf),("length",.int (ai G:Nat)),("check_rows",.ref p1),("word_rows",.ref p2)]:List (Str × V))))
 have VY:=(z8.trans (DQ.x (x:=x))).trans (bO.upd (C:=x) (dx:=dx) zQ rfl (o':=.ins C dx (bE "message_places" (.ref p3) (pre++([("field",vf),("length",.int (ai G:Nat)),("check_rows",.ref p1),("word_rows",.ref p2)]:List (Str × V))))))
 have sT:upd H9 x (.ins C dx (bE "message_places" (.ref p3) (pre++([("field",vf),("length",.int (ai G:Nat)),("check_rows",.ref p1),("word_rows",.ref p2)]:List (Str × V))))) x=some (.ins C dx (pre++([("field",vf),("length",.int (ai G:Nat)),("check_rows",.ref p1),("word_rows",.ref p2),("message_places",.ref p3)]:List (Str × V)))):=by rw[bQ,hp.put _ _ _ (by decide)];rfl
 generalize upd H9 x (.ins C dx (bE "message_places" (.ref p3) (pre++([("field",vf),("length",.int (ai G:Nat)),("check_rows",.ref p1),("word_rows",.ref p2)]:List (Str × V)))))=H10 at VW VX K6 VY sT ⊢
 have n9:∀a∈A9,H a=none:=λa ha=>z8.free (by rw[DP];simp) (K5 a ha)
 have d59:∀a∈A5,a ∉ A9:=λa ha hb=>by
  obtain⟨⟨ws,e⟩,_⟩:=k8.lists a ha
  rw[K5 a hb]at e;cases e
 have d79:∀a∈A7,a ∉ A9:=λa ha hb=>by
  obtain⟨⟨ws,e⟩,_⟩:=w8.lists a ha
  rw[K5 a hb]at e;cases e
 obtain⟨ws,lw,ew⟩:∃ws,ws.length=(gg (cu m G) (ai G)).length/\H10 p3=some (.lst ws):=by
  cases K6 with
  | own h _ r _=>exact⟨_,by rw[<-r.length,dY],h⟩
 refine⟨.ref x,rfl,x,C,dx,_,.ref p3,rfl,sT,hC.cls,hC.R1,(hp.look _ _ (by decide)).trans rfl,p3,ws,rfl,.inl (bS.of ew),.ref x,rfl,x,C,dx,_,rfl,sT,hC.cls,hC.size,hp.lt (by show 5<=6;decide),?_⟩
 rw[lw]
 refine q _ p1 p2 p3 A5 A7 A9 (VY.trans (bO.upd (C:=x) (dx:=dx) sT rfl)) (by rw[bQ,hp.put _ _ _ (by decide)];rfl) (mv VW (L3.af.refl _) sT (fR _)) (mv VX (L3.af.refl _) sT (fR _)) (mv K6 (L3.af.refl _) sT (fN _)) ?_ ?_
 ·exact iZ.mpr ⟨nd5,iZ.mpr ⟨nd7,nd9,d79⟩,λa ha hb=>(cE.mp hb).elim (d57 a ha) (d59 a ha)⟩
 ·intro a ha
  rcases cE.mp ha with ha | ha
  ·exact n5 a ha
  ·exact(cE.mp ha).elim (n7 a) (n9 a)
noncomputable abbrev K7(K:Frag):aX:=λds Q=>∃(C:Addr) (ns:List Str) (xs:List D) (n:Nat) (x:D),ds=[.obj C ns xs,x]/\cQ K C/\bq K C "many"/\(ns.zip xs).lookup ("many":Str)=some (.int n)/\((∃i,x=.int i/\Q (.bl (decide (0<=i)&&decide (i<n))))\/(x=.ax/\Q (.bl false)))
theorem VZ(T:Txt K mg t):aN P w K mg base aP 1 t.CU t.Tu ["self","x"] (bf (K7 K)):=by
 refine bt T.Kb.F aK2 ?_ ?_
 ·intro ds Q h
  obtain⟨C,ns,xs,n,x,rfl,h1,h2,h3,q⟩:=h<;>rfl
 ·intro aE A outer s H E hr
  refine⟨_,(aF (aT (pH (ae (BH (by rfl) T.zG (by rfl) T.Vy Ov (bv 1))) (pH (ae (OP (ae (BH (by rfl) T.zG (by rfl) T.Vx Ow (bv 1))))) (tY (vb kT pK (ae ak) (bv 1) (cZ (K:=K) (bv 0)))))))),λds Q h=>?_⟩
  obtain⟨C,ns,xs,n,x,rfl,h1,h2,h3,q⟩:=h
  rcases q with⟨i,rfl,q⟩ | ⟨rfl,q⟩
  ·walk_at"l3"
   split
   ·rename_i h0
    refine⟨C,ns,xs,_,rfl,h1,h2,h3,?_⟩
    dsimp only
    rw[decide_eq_true h0,mX]at q
    exact q
   ·rename_i h0
    rw[decide_eq_false h0,s9]at q
    exact q
  ·walk_at"l3"
   exact q
theorem K8(T:Txt K mg t)(m:Bool × Nat){x:D}{Q:D->Prop}(h:(∃i,x=.int i/\Q (.bl (decide (0<=i)&&decide (i<aa m))))\/(x=.ax/\Q (.bl false))):G0 P w K mg base 1 t.aI t.aK m "holds" [x] Q:=by
 obtain⟨k,n⟩:=m
 cases k with
 | true=>exact⟨_,_,_,K7 K,rfl,⟨T.eU,_,_,_,T.Ks,VZ T,T.Kb.b⟩,by decide,_,_,_,aa (true,n),x,rfl,T.eU,T.sN,rfl,h⟩
 | false=>exact⟨_,_,_,K7 K,rfl,⟨T.fc,_,_,_,T.Kz,VZ T,T.Kb.b⟩,by decide,_,_,_,aa (false,n),x,rfl,T.fc,T.sO,rfl,h⟩
noncomputable abbrev aF0(t:eI):aX:=λds Q=>∃(m:Bool × Nat) (G:List (List Nat)),ds=[fD t.aI t.aK m,.lst false (aA false G)]/\m∈au/\RT (aa m) (ai G) G/\1<=G.length/\G.length<=12/\2<=ai G/\ai G<=12/\Q (.bl true)
theorem aF1(T:Txt K mg t):aN P w K mg base aP 2 t.Tv t.Tw ["field","table"] (bf (aF0 t)):=by
 refine bt T.De.F Sk ?_ ?_
 ·intro ds Q h
  obtain⟨m,G,rfl,hm,hR,g1,zR,w2,V0,q⟩:=h<;>rfl
 ·intro aE A outer s H E hr
  refine⟨_,(aC (dm (PW.pt (nG (b9 pK (ae (cK (eY) (by rfl) T.eV eJ (ag (bv 1) aq))) (ae ak) (bH _)) (qJ (b9 xP (ae (cK (eY) (by rfl) T.eV eJ (ag (bv 1) aq))) (ae ak) (bH _))))) (aF (aT jQ)) dk)
   (aC (aZ (i:=2) Sk.nd rfl (bW rfl) (cK (eY) (by rfl) T.eV eJ (ag (bF (bv 1) (ae ak) (λ_ _=>rfl)) aq)))
   (aC (dm (PW.pt (nG (b9 pK (bv 2) (ae ak) (bH _)) (nG (b9 xP (bv 2) (ae ak) (bH _)) (qJ (jR (ae (cK (cL8 rfl) (by rfl) T.dz6 cB1 (ag (ae (du [("width",2)] ["row"] rfl (ie (bv 1)) (λ_ _ _ _=>(eT (i:=1) (show(["width","row"]:List Str).Nodup by decide +kernel))) (λ_ _ _ _=>dD) (λ_ _ _ _=>(rh (ij (cW hr)) (ae (cK (eY) (by rfl) T.eV eJ (ag (bv 1) aq))) (bv 0) (bH _))) rfl)) aq)))))))) (aF (aT jQ)) dk)
   (aF (aT (cK (rM rfl) (by rfl) T.sP qY (ag (ae (du [("field",0)] ["row"] rfl (ie (bv 1)) (λ_ _ _ _=>(eT (i:=1) (show(["field","row"]:List Str).Nodup by decide +kernel))) (λ_ _ _ _=>dD) (by exact λ_ _ _ _=>(cK (rM rfl) (by rfl) T.sP qY (ag (ae (du [("field",0)] ["x"] rfl (ie (bv 1)) (λ_ _ _ _=>(eT (i:=1) (show(["field","x"]:List Str).Nodup by decide +kernel))) (λ_ _ _ _=>dD) (λ_ _ _ _=>(fH (P:=P) (w:=w) (K:=K) (mg:=mg) (base:=base) (n:=1) (bv 0) (hr.mono (by decide)) (ag (bv 1) aq))) rfl)) aq))) rfl)) aq))))))),λds Q h=>?_⟩
  obtain⟨m,G,rfl,hm,hR,g1,zR,w2,V0,q⟩:=h
  obtain⟨g,G',rfl⟩:∃g G',G=g::G':=by
   cases G with
   | nil=>exact absurd g1 (by decide)
   | cons g G'=>exact⟨g,G',rfl⟩
  refine aB λU hU=>?_
  walk_at"l3"
  rw[if_neg (by omega),if_neg (by rw[fF]at zR;omega)]
  refine hU _ ?_
  clear hU U
  refine aB λU hU=>?_
  walk_at"l3"
  refine⟨.lst false (aj g),yT false (T:=g::G') (i:=0) (Na _),?_⟩
  show U [some (fD t.aI t.aK m),some (.lst false (aA false (g::G'))),some (.int ((aj g).length:Nat))]
  have gl:(aj g).length=ai (g::G'):=by rw[dY];rfl
  rw[gl]
  generalize g::G'=G at hR g1 zR w2 V0 gl hU ⊢
  refine hU _ ?_
  clear hU U
  refine aB λU hU=>?_
  walk_at"l3"
  rw[if_neg (by omega),if_neg (by omega)]
  refine eN G (λr=>D.lst false (aj r)) (λ_=>D.bl false) (by rw[e7];rfl) (λa b h=>mK a b h) (λr bj=>?_) (.inr λr _=>rfl) (by rw[sL];omega) ?_
  ·have:=(hR r bj).1
   walk_at"l3"
   rw[decide_eq_true (by omega)];rfl
  refine⟨G.map λ_=>false,by unfold kY;rw[cj];rfl,?_⟩
  rw[if_neg (by simp)]
  refine hU _ ?_
  clear hU U
  walk_at"l3"
  refine eN G (λr=>D.lst false (aj r)) (λ_=>D.bl true) (by rw[e7];rfl) (λa b h=>mK a b h) (λr bj=>?_) (.inr λr _=>rfl) (by rw[sL];omega) ?_
  ·obtain⟨r1,r2⟩:=hR r bj
   walk_at"l3"
   refine eN r (λ(i:Nat)=>D.int (i:Int)) (λ_=>D.bl true) (rT _) iG (λi hi=>?_) (.inr λ_ _=>rfl) (by rw[sL];omega) ?_
   ·have:=r2 i hi
    walk_at"l3"
    refine K8 T m (.inl ⟨_,rfl,?_⟩)
    rw[decide_eq_true (by omega),decide_eq_true (by omega)];rfl
   ·refine⟨r.map λ_=>true,by unfold kY;rw[cj];rfl,?_⟩
    simp
  ·refine⟨G.map λ_=>true,by unfold kY;rw[cj];rfl,?_⟩
   rw[show(G.map λ_=>true).all id=true by simp]
   exact q
noncomputable abbrev cs6(t:eI)(P:Program)(w:World)(K:Frag)(mg:Str->Option Value)(base:Heap):aX:=λds Q=>∃(m:Bool × Nat) (G:List (List Nat)),ds=[fD t.aI t.aK m,.lst false (aA false G)]/\m∈au/\G.length<=900/\RT (aa m) (ai G) G/\ai G<=900/\Q (.int (cu m G).length)
theorem cr6(T:Txt K mg t):aN P w K mg base aP 4 t.Tx t.Tz ["field","table"] (bf (cs6 t P w K mg base)):=by
 refine bt T.Df.F ct0 ?_ ?_
 ·intro ds Q h
  obtain⟨m,G,rfl,hm,hG,hR,hw,q⟩:=h<;>rfl
 ·intro aE A outer s H E hr
  refine⟨_,(aF (aT (cK (eY) (by rfl) T.eV eJ (ag (ae (bA T.zt (VN T) hr (ag (bv 0) (ag (bv 1) aq)))) aq)))),λds Q h=>?_⟩
  obtain⟨m,G,rfl,hm,hG,hR,hw,q⟩:=h
  walk_at"l3"
  refine⟨m,G,rfl,hm,hG,hR,hw,?_⟩
  dsimp only
  rw[lh];exact q
noncomputable abbrev aS4:aX:=λds Q=>∃T:List (List Nat),ds=[.lst false (aA false T)]/\T.length<=1000/\(∀r∈T,r.length=ai T)/\ai T<=1000/\Q (.lst true (aA true (eQ T)))
theorem V1(T:Txt K mg t):aN P w K mg base aP 2 t.TB t.TC ["table"] (bf (aS4 )):=by
 refine bt T.Ke.F aS0 ?_ ?_
 ·intro ds Q h
  obtain⟨G,rfl,hG,hr,hw,q⟩:=h<;>rfl
 ·intro aE A outer s H E hr
  refine⟨_,(aF (aT (du [("table",0)] ["j"] rfl (i6 rfl T.gD (ag (ae (bA T.sM (DN T) hr (ag (bv 0) aq))) aq)) (λ_ _ _ _=>(eT (i:=1) (show(["table","j"]:List Str).Nodup by decide +kernel))) (λ_ _ _ _=>dD) (by exact λ_ _ _ _=>(du [("j",1)] ["row"] rfl (ie (bv 0)) (λ_ _ _ _=>(eT (i:=1) (show(["j","row"]:List Str).Nodup by decide +kernel))) (λ_ _ _ _=>dD) (λ_ _ _ _=>(da (bF (bv 1) (bv 0) (λ_ _=>rfl)))) rfl)) rfl))),λds Q h=>?_⟩
  obtain⟨G,rfl,hG,hr,hw,q⟩:=h
  walk_at"l3"
  refine⟨G,rfl,hG,λr bj=>by rw[hr r bj];exact hw,?_⟩
  dsimp only
  refine⟨_,rfl,⟨by omega,by omega⟩,?_⟩
  refine eN (aD (ai G)) (λ(i:Nat)=>D.int (i:Int)) (λj=>D.lst true (aj (G.map λr=>r.getD j 0))) (mJ _ rfl) iG (λj hj=>?_) (.inr λj _=>gb _) (by rw[bL,sL];omega) ?_
  ·have hj:=bY.mp hj
   walk_at"l3"
   refine eN G (λr=>D.lst false (aj r)) (λr=>D.int ((r.getD j 0:Nat):Int)) (by rw[e7];rfl) (λa b h=>mK a b h) (λr bj=>?_) (.inr λr _=>rfl) (by rw[sL];omega) ?_
   ·walk_at"l3"
    have hl:=hr r bj
    exact⟨.int (r.getD j 0:Nat),by rw[ku (by omega) (by omega),fV],rfl,rfl⟩
   ·rw[cH,cj];rfl
  ·unfold eQ aA at q
   rw[cj]at q
   exact q
noncomputable abbrev aP1:aX:=λds Q=>∃c:List Nat,ds=[.lst false (aj c)]/\c.length<=1000/\Q (.bl (nul c))
theorem aP2(T:Txt K mg t):aN P w K mg base aP 1 t.TF t.TH ["column"] (bf (aP1 )):=by
 refine bt T.U5.F aO0 ?_ ?_
 ·intro ds Q h
  obtain⟨c,rfl,hc,q⟩:=h<;>rfl
 ·intro aE A outer s H E hr
  refine⟨_,(aF (aT (cK (rM rfl) (by rfl) T.sP qY (ag (ae (du [] ["x"] rfl (ie (bv 0)) (λ_ _ _ _=>(eT (i:=0) (show(["x"]:List Str).Nodup by decide +kernel))) (λ_ _ _ _=>dD) (λ_ _ _ _=>(rh (gJ (cW hr)) (bv 0) (ae ak) (bH _))) rfl)) aq)))),λds Q h=>?_⟩
  obtain⟨c,rfl,hc,q⟩:=h
  walk_at"l3"
  refine eN c (λ(i:Nat)=>D.int (i:Int)) (λ(x:Nat)=>D.bl (x==0)) (rT _) iG (λx hx=>?_) (.inr λ_ _=>rfl) (by rw[sL];omega) ?_
  ·walk_at"l3"
   congr 1
   exact propext (by omega)
  dsimp only
  refine⟨c.map (·==0),by unfold kY;rw[cj];rfl,?_⟩
  rw[lY]
  exact q
noncomputable abbrev K9(K:Frag):aX:=λds Q=>∃(C:Addr) (p a b:Nat),ds=[sj C p,.int a,.int b]/\cQ K C/\bq K C "products"/\p∈gZ/\a<aa (true,p)/\b<aa (true,p)/\Q (.int (gm (true,p) a b:Nat))
theorem V2(T:Txt K mg t):aN P w K mg base aP 1 t.JS t.TJ ["self","a","b"] (bf (K9 K)):=by
 refine bt T.Kf.F aE3 ?_ ?_
 ·intro ds Q h
  obtain⟨C,p,a,b,rfl,hC,hn,hp,ha,hb,q⟩:=h<;>rfl
 ·intro aE A outer s H E hr
  refine⟨_,(aF (aT (da (bF (bF (cZ (K:=K) (bv 0)) (bv 1) (λ_ _=>rfl)) (bv 2) (λ_ _=>rfl))))),λds Q h=>?_⟩
  obtain⟨C,p,a,b,rfl,hC,hn,hp,ha,hb,q⟩:=h
  walk_at"l3"
  refine⟨C,_,_,_,rfl,hC,hn,rfl,?_⟩
  exact⟨_,B8 hp ha,_,B7 hp ha hb,rfl,q⟩
noncomputable abbrev La(K:Frag):aX:=λds Q=>∃(C:Addr) (p:Nat) (a b:Int),ds=[pY C p,.int a,.int b]/\cQ K C/\bq K C "prime"/\0<p/\IntMulOk a b/\Q (.int (a*b%p))
theorem V3(T:Txt K mg t):aN P w K mg base aP 1 t.JT t.TK ["self","a","b"] (bf (La K)):=by
 refine bt T.Kg.F aA1 ?_ ?_
 ·intro ds Q h
  obtain⟨C,p,a,b,rfl,hC,hn,hp,hm,q⟩:=h<;>rfl
 ·intro aE A outer s H E hr
  refine⟨_,(aF (aT (az dE (ae (az fM (bv 1) (bv 2))) (cZ (K:=K) (bv 0))))),λds Q h=>?_⟩
  obtain⟨C,p,a,b,rfl,hC,hn,hp,hm,q⟩:=h
  walk_at"l3"
  exact⟨hm,C,_,_,.int p,rfl,hC,hn,rfl,by omega,q⟩
theorem co9(T:Txt K mg t){m:Bool × Nat}(hm:m∈au){a b:Nat}(ha:a<aa m)(hb:b<aa m){Q:D->Prop}(q:Q (.int (gm m a b:Nat))):G0 P w K mg base 1 t.aI t.aK m "times" [.int a,.int b] Q:=by
 have hF:=cq hm
 obtain⟨k,n⟩:=m
 cases k with
 | true=>exact⟨_,_,_,K9 K,rfl,⟨T.eU,_,_,_,T.Vs,V2 T,T.Kf.b⟩,by decide,_,n,a,b,rfl,T.eU,T.qj,sk hm,ha,hb,q⟩
 | false =>
  have lR:n<=64:=hF.hi
  have V4:a<n:=ha
  have vH:b<n:=hb
  refine⟨_,_,_,La K,rfl,⟨T.fc,_,_,_,T.Vu,V3 T,T.Kg.b⟩,by decide,_,n,a,b,rfl,T.fc,T.mR,by omega,ia.ok (.inr ⟨by omega,by omega⟩),?_⟩
  have e:((gm (false,n) a b:Nat):Int)=(a:Int)*b%n:=by
   show((a*b%n:Nat):Int)=_
   rw[lZ,qA]
  rw[<-e];exact q
theorem ct1(T:Txt K mg t){m:Bool × Nat}(hm:m∈au):∃C ns xs sp,fD t.aI t.aK m=.obj C ns xs/\ip P w K mg base 1 "times" C sp/\("times":Str) ∉ ns/\∀(a b:Nat) (Q:D->Prop),a<aa m->b<aa m->Q (.int (gm m a b:Nat))->sp [.obj C ns xs,.int a,.int b] Q:=by
 have hF:=cq hm
 obtain⟨k,n⟩:=m
 cases k with
 | true=>exact⟨_,_,_,K9 K,rfl,⟨T.eU,_,_,_,T.Vs,V2 T,T.Kf.b⟩,by decide,λa b Q ha hb q=>⟨_,n,a,b,rfl,T.eU,T.qj,sk hm,ha,hb,q⟩⟩
 | false =>
  have lR:n<=64:=hF.hi
  refine⟨_,_,_,La K,rfl,⟨T.fc,_,_,_,T.Vu,V3 T,T.Kg.b⟩,by decide,λa b Q ha hb q=>?_⟩
  have V4:a<n:=ha
  have vH:b<n:=hb
  refine⟨_,n,a,b,rfl,T.fc,T.mR,by omega,ia.ok (.inr ⟨by omega,by omega⟩),?_⟩
  have e:((gm (false,n) a b:Nat):Int)=(a:Int)*b%n:=by
   show((a*b%n:Nat):Int)=_
   rw[lZ,qA]
  rw[<-e];exact q
noncomputable abbrev cw2(t:eI)(P:Program)(w:World)(K:Frag)(mg:Str->Option Value)(base:Heap):aX:=λds Q=>∃(m:Bool × Nat) (c:List Nat) (os:List (List Nat)),ds=[fD t.aI t.aK m,.lst false (aj c),.lst false (aA false os)]/\m∈au/\nul c=false/\c.length<=64/\AllLt (aa m) c/\RT (aa m) c.length os/\os.length<=1000/\Q (.lst true (aA true (gM m c os)))
theorem cv5(T:Txt K mg t):aN P w K mg base aP 3 t.TL t.TM ["field","column","others"] (bf (cw2 t P w K mg base)):=by
 refine bt T.U6.F wj ?_ ?_
 ·intro ds Q h
  obtain⟨m,c,os,rfl,hm,hn,hc,Lb,lH,hol,q⟩:=h<;>rfl
 ·intro aE A outer s H E hr
  refine⟨_,(aC (aZ (i:=3) wj.nd rfl (ay rfl) (da (bF (ae (du [] ["k","x"] rfl (nV rfl T.oK (ag (bv 1) aq)) (λ_ _ _ _=>(sI (i1:=0) (i2:=1) (show(["k","x"]:List Str).Nodup by decide +kernel))) (λ_ _ _ _=>(BC (b9 (ij (cW hr)) (bv 1) (ae ak) (bH _)))) (λ_ _ _ _=>(da (bv 0))) rfl)) (ae ak) (λ_ _=>rfl))))
   (aC (aZ (i:=4) wj.nd rfl (ay rfl) (fH (P:=P) (w:=w) (K:=K) (mg:=mg) (base:=base) (n:=2) (bv 0) (hr.mono (by decide)) (ag (ae ak) (ag (bF (bv 1) (bv 3) (λ_ _=>rfl)) aq))))
   (aC (aZ (i:=5) wj.nd rfl (ay rfl) (dQ cN))
   (aC (gz eW rfl (Bz (da (bv 2))) (jz (i:=6) wj.nd rfl (ay rfl))
    (aC (aZ (i:=7) wj.nd rfl (ay rfl) (fH (P:=P) (w:=w) (K:=K) (mg:=mg) (base:=base) (n:=1) (bv 0) (hr.mono (by decide)) (ag (bv 6) (ag (ae (fH (P:=P) (w:=w) (K:=K) (mg:=mg) (base:=base) (n:=1) (bv 0) (hr.mono (by decide)) (ag (bF (bv 6) (bv 3) (λ_ _=>rfl)) (ag (bv 4) aq)))) (ag (bv 1) aq)))))
    (aF (nQ (i:=5) rfl (by first | exact ay rfl | exact bW (ay rfl)) (az cC (ae (vB (bv 7) vm (vn (bv 3)))) (ae (vB (bv 7) (vn (ae (az cC (bv 3) (ae ak)))) vm)))))))
   (aF (aT (em 5))))))),λds Q h=>?_⟩
  obtain⟨m,c,os,rfl,hm,hn,hc,Lb,lH,hol,q⟩:=h
  have cJ:=(cq hm).lo
  obtain⟨pl,pn⟩:=Hx hn
  have cp:=Lb.getD (show 0<aa m by omega) (bc c)
  have cx:∃x∈c,x≠0:=⟨_,ft pl 0,pn⟩
  refine aB λU hU=>?_
  walk_at"l3"
  refine Cf (aD c.length) (λ(i:Nat)=>D.tup [.int (i:Int),.int ((c.getD i 0:Nat):Int)]) (λ(i:Nat)=>D.int (i:Int)) (λi=>c.getD i 0 != 0) (Hf c) (λa b h=>by injection h with h;simp at h;omega) (λi hi=>?_) (.inr λ_ _ _=>rfl) (by rw[bL,sL];omega) ?_
  ·walk_at"l3"
   refine⟨?_,λ_=>trivial⟩
   by_cases h0:c.getD i 0=0
   ·rw[h0];rfl
   ·rw[decide_eq_false (by omega),bne_iff_ne.mpr h0];rfl
  dsimp only
  refine⟨.int (bc c:Nat),L3.GA (k:=0) (by rw[cI,QY cx];rfl),rfl,hU _ ?_⟩
  clear hU U
  refine aB λU hU=>?_
  walk_at"l3"
  refine⟨_,_,_,_,vP _ _ m,VM T m,Qu m _ (by decide),.int (c.getD (bc c) 0:Nat),by rw[ku (by omega) (by omega),fV],m,1,c.getD (bc c) 0,by rw[vP];rfl,hm,cJ,cp,λz=>absurd z pn,λ_ iv V5 Hy=>?_⟩
  have ei:mM m (c.getD (bc c) 0)=iv:=Cg hm V5 Hy
  refine⟨rfl,hU _ ?_⟩
  clear hU U
  refine aB λU hU=>?_
  walk_at"l3"
  refine⟨by decide,hU _ ?_⟩
  clear hU U
  refine aB λU hU=>?_
  walk_at"l3"
  refine gy.mk (λi δ=>∃o6 o7,δ=[some (fD t.aI t.aK m),some (D.lst false (aj c)),some (D.lst false (aA false os)),some (D.int (bc c)),some (D.int iv),some (D.lst true (aA true (gM m c (os.take i)))),o6,o7]) ⟨_,_,rfl⟩ ?_ ?_
  ·rintro i d δ hd ⟨o6,o7,rfl⟩
   obtain⟨hi,rfl⟩:=cc1 hd
   clear hd hU
   obtain⟨ol,oa⟩:=lH _ (dz hi)
   have op:=oa.getD (show 0<aa m by omega) (bc c)
   obtain⟨C,ns,xs,sp,e1,e2,e3,e4⟩:=VH (P:=P) (w:=w) (base:=base) T hm
   refine aB λU hU=>?_
   walk_at"l3"
   obtain⟨C1,n1,x1,sp1,g1,g2,g3,g4⟩:=ct1 (P:=P) (w:=w) (base:=base) T hm
   refine⟨C,ns,xs,sp,e1,e2,e3,C1,n1,x1,sp1,g1,g2,g3,.int (os[i].getD (bc c) 0:Nat),by rw[ku (by omega) (by omega),fV],g4 _ iv _ op V5 ⟨rfl,e4 os[i] c (gm m (os[i].getD (bc c) 0) iv) _ (bJ hm _ _) Lb (by omega) ⟨rfl,hU _ ?_⟩⟩⟩
   clear hU
   have ep:gM m c (os.take (i+1))=gM m c (os.take i)++[(cO (λx y=>bu m x (gm m (gm m (os[i].getD (bc c) 0) iv) y)) os[i] c).take (bc c)++(cO (λx y=>bu m x (gm m (gm m (os[i].getD (bc c) 0) iv) y)) os[i] c).drop (bc c+1)]:=by
    unfold gM
    rw[kH,aO hi,ML,fh,dw,j7,ei]
   rw[ep]
   have ll:(cO (λx y=>bu m x (gm m (gm m (os[i].getD (bc c) 0) iv) y)) os[i] c).length<=64:=by rw[j9];omega
   generalize cO (λx y=>bu m x (gm m (gm m (os[i].getD (bc c) 0) iv) y)) os[i] c=lf at ll ⊢
   have pl2:(gM m c (os.take i)).length<=1000:=by rw[HA,hE];omega
   walk_at"l3"
   rw[GD,show((bc c:Int)+1)=((bc c+1:Nat):Int) by omega,GF]
   exact⟨⟨_,rfl⟩,by rw[hE,ji];omega,by omega,_,_,sC true _ [lf.take (bc c)++lf.drop (bc c+1)],rfl,rfl⟩
  ·rintro δ ⟨o6,o7,rfl⟩
   refine hU _ ?_
   walk_at"l3"
   rw[mY]
   exact q
noncomputable def fQ(o:Bool)(l:List Cs):List D:=l.map λs=>.tup [.lst o (aj s.1),.lst o (aA o s.2)]
theorem V6(o:Bool)(l:List Cs):(fQ o l).map D.sh=fQ false l:=by
 unfold fQ
 rw[cj]
 refine qy λs _=>?_
 show(D.tup [.lst o (aj s.1),.lst o (aA o s.2)]).sh=_
 rw[my,dw,dw,j7,sr,eK,e7]
theorem ct4(l:List Cs):(fQ false l).all D.pl=true:=by
 rw[c9]
 intro d hd
 obtain⟨s,_,rfl⟩:=bB.mp hd
 show(D.tup [.lst false (aj s.1),.lst false (aA false s.2)]).pl=true
 rw[kP,dy,dy,gu,gu,nW,p8];rfl
theorem ci5(o:Bool)(a b:List Cs):fQ o a++fQ o b=fQ o (a++b):=by unfold fQ;rw[fh]
theorem cv1{o:Bool}{l:List Cs}{i:Nat}{d:D}(hd:(fQ o l)[i]?=some d):∃hi:i<l.length,d=.tup [.lst o (aj l[i].1),.lst o (aA o l[i].2)]:=by
 unfold fQ at hd
 rw[cI]at hd
 by_cases hi:i<l.length
 ·rw[aO hi]at hd
  exact⟨hi,(de hd).symm⟩
 ·rw[hJ (by omega)]at hd;cases hd
theorem cb0(o:Bool)(l:List Cs):dX 6 (.lst o (fQ o l))=true:=by
 show(fQ o l).all (dX 5)=true
 rw[c9]
 intro d hd
 obtain⟨s,_,rfl⟩:=bB.mp hd
 show([D.lst o (aj s.1),.lst o (aA o s.2)]).all (dX 4)=true
 rw[dy,dy,Cd 3 o s.1,QV 2 o o s.2];rfl
theorem b44{m:Bool × Nat}{c:List Nat}{os:List (List Nat)}{N:Nat}(h:∀o∈os,o.length<=N):∀x∈gM m c os,x.length<=N:=λx hx=>by
 obtain⟨o,ho,rfl⟩:=bB.mp hx
 have:=h o ho
 rw[dF,hE,ji,j9]
 omega
noncomputable def j6(l:List Cs):Nat:=(l.map λs=>2 ^ s.2.length).sum
theorem Lc(a b:List Cs):j6 (a++b)=j6 a+j6 b:=by unfold j6;rw[fh,List.sum_append]
theorem V7:∀l:List Cs,(dN l).length<=j6 l
 | []=>jh _
 | s::l=>by
  have ih:=V7 l
  have h1:=Nat.lt_two_pow_self (n:=s.2.length)
  show(fI s++dN l).length<=2 ^ s.2.length+j6 l
  rw[dF,show(fI s).length=s.2.length by unfold fI;rw[bw,bL]]
  omega
theorem V8(m:Bool × Nat)(w:Nat)(s:Cs):∀i,i<=s.2.length->j6 (((aD i).map λi=>(s,i)).map (gO m w))+2 ^ (s.2.length-i)=2 ^ s.2.length
 | 0,_=>As _
 | i+1,h=>by
  have ih:=V8 m w s i (by omega)
  rw[Av,fh,fh,Lc]
  have e:j6 (([i].map λi=>(s,i)).map (gO m w))=2 ^ (s.2.length-(i+1)):=by
   show 2 ^ (gM m _ (s.2.drop (i+1))).length+0=_
   rw[HA,ji];rfl
  rw[e]
  have:2 ^ (s.2.length-i)=2 ^ (s.2.length-(i+1))*2:=by rw[<-oS];congr 1;omega
  omega
theorem V9(m:Bool × Nat)(w:Nat):∀l:List Cs,j6 ((dN l).map (gO m w))<=j6 l
 | []=>bK _
 | s::l=>by
  have ih:=V9 m w l
  have h1:=V8 m w s s.2.length (bK _)
  show j6 ((fI s++dN l).map (gO m w))<=2 ^ s.2.length+j6 l
  rw[fh,Lc]
  exact Nat.add_le_add (by rw[<-h1];exact Nat.le_add_right ..) ih
noncomputable def cT8:Option (List Nat)->D
 | some l=>.lst true (aj l)
 | none=>.ax
noncomputable abbrev aK7(t:eI)(P:Program)(w:World)(K:Frag)(mg:Str->Option Value)(base:Heap):aX:=λds Q=>∃(m:Bool × Nat) (G:List (List Nat)),ds=[fD t.aI t.aK m,.lst false (aA false G)]/\m∈au/\G.length<=64/\RT (aa m) (ai G) G/\0<ai G/\ai G<=12/\Q (cT8 (jF m G))
theorem aK8(T:Txt K mg t):aN P w K mg base aP 4 t.TN t.TQ ["field","table"] (bf (aK7 t P w K mg base)):=by
 refine bt T.Dg.F qi ?_ ?_
 ·intro ds Q h
  obtain⟨m,G,rfl,hm,hG,hR,DR,hw,q⟩:=h<;>rfl
 ·intro aE A outer s H E hr
  refine⟨_,(aC (aZ (i:=2) qi.nd rfl (ay rfl) (bA T.sM (DN T) hr (ag (bv 1) aq)))
   (aC (aZ (i:=3) qi.nd rfl (ay rfl) (dQ (cB (nH (cB (dQ cN) (cB (bA T.Ke (V1 T) hr (ag (bv 1) aq)) cN))) cN)))
   (aC (rz eW (b9 (ij (cW hr)) (bv 3) (ae (dQ cN)) (bH _))
    (aC (aZ (i:=4) qi.nd rfl (ay rfl) (dQ cN))
    (FX 3 (aC (gz eW rfl (Bz (da (bv 3))) (mH (i1:=5) (i2:=6) rfl qi.nd rfl (ay rfl) rfl (ay rfl))
     (aF (gz eW rfl (nV rfl T.oK (ag (bv 6) aq)) (mH (i1:=7) (i2:=8) rfl qi.nd rfl (ay rfl) rfl (ay rfl))
      (aC (aZ (i:=9) qi.nd rfl (ay rfl) (az cC (bv 5) (ae (dQ (cB (az cC (ae (az dR (bv 2) (ae (cK (eY) (by rfl) T.eV eJ (ag (bv 6) aq))))) (bv 7)) cN)))))
      (aC (dm (jR (ae (bA T.U5 (aP2 T) hr (ag (bv 8) aq)))) (aF (aT (em 9))) dk)
      (aF (nQ (i:=4) rfl (by first | exact ay rfl | exact bW (ay rfl)) (nH (cB (em 9) (cB (bA T.U6 (cv5 T) hr (ag (bv 0) (ag (bv 8) (ag (ae (vB (bv 6) (vn (ae (az cC (bv 7) (ae ak)))) vm)) aq)))) cN))))))))))
    (aF (aZ (i:=3) qi.nd rfl (ay rfl) (em 4)))))))
   (aF (aT FV))))),λds Q h=>?_⟩
  obtain⟨m,G,rfl,hm,hG,hR,DR,hw,q⟩:=h
  have cJ:=(cq hm).lo
  refine aB λU hU=>?_
  walk_at"l3"
  refine⟨G,rfl,by omega,λr bj=>by rw[(hR r bj).1];omega,hU _ ?_⟩
  clear hU U
  refine aB λU hU=>?_
  walk_at"l3"
  refine⟨by decide,G,rfl,by omega,λr bj=>(hR r bj).1,by omega,by decide,by decide,hU _ ?_⟩
  clear hU U
  have Ls:=Lv.start hm DR hR
  refine aB λU hU=>?_
  walk_at"l3"
  refine⟨λn δ=>∃(l:List Cs) (k:Nat) (o4 o5 o6 o7 o8 o9:Option D),δ=[some (fD t.aI t.aK m),some (D.lst false (aA false G)),some (D.int (ai G)),some (D.lst true (fQ true l)),o4,o5,o6,o7,o8,o9]/\Lv m (gC G) (ai G) k l/\k+n=ai G+1/\sF m (ai G) n l=jF m G/\j6 l<=4096/\∀s∈l,∀r∈s.2,r.length<=64,⟨ai G+1,[([],eQ G)],0,_,_,_,_,_,_,rfl,Ls,by omega,rfl,?_,λs hs r bj=>?_⟩,?_⟩
  ·show 2 ^ (eQ G).length+0<=4096
   rw[(Hu (by omega) DR hR).1]
   exact wK (by decide) hw
  ·rw[fW.mp hs]at bj
   have:=((Hu (by omega) DR hR).2.2 r bj).1
   omega
  rintro n δ ⟨l,k,o4,o5,o6,o7,o8,o9,rfl,L,hk,Ld,zS,mT⟩
  walk_at"l3"
  refine⟨by decide,⟨cb0 true l,rfl⟩,?_⟩
  by_cases l0:l=[]
  ·subst l0
   rw[show bR (D.lst true (fQ true [])) (D.lst true [])=true from rfl,if_neg (by decide)]
   refine hU _ ?_
   walk_at"l3"
   have e0:jF m G=none:=by
    rw[<-Ld]
    cases n with
    | zero=>rfl
    | succ n=>rfl
   rw[e0]at q
   exact q
  have d0:bR (D.lst true (fQ true l)) (D.lst true [])=false:=by
   cases l with
   | nil=>exact absurd rfl l0
   | cons s l=>rfl
  rw[d0,if_pos (by decide)]
  have Le:∀s∈l,gP (ai G) s.1/\s.2.length<=12:=λs hs=>by
   have g:=(L.gs s hs).1
   have gl:=g.le
   exact⟨⟨g.inc,λx hx=>by have:=g.off x hx;omega⟩,by omega⟩
  obtain⟨n,rfl⟩:∃n',n=n'+1:=by
   cases n with
   | succ n=>exact⟨n,rfl⟩
   | zero =>
    exfalso
    cases l with
    | nil=>exact l0 rfl
    | cons s l =>
     have h1:=(Le s (iO ..)).1.len
     have h2:=(L.gs s (iO ..)).2
     omega
  clear hU
  have dI9:∀a,(dN (l.take a)).length<=4096:=λa=>by
   have h1:=V7 (l.take a)
   have h2:=Lc (l.take a) (l.drop a)
   rw[Au]at h2
   omega
  refine aB λU hU=>?_
  walk_at"l3"
  refine⟨by decide,hU _ ?_⟩
  clear hU
  refine⟨_,rfl,?_⟩
  rw[eK,V6]
  simp only[jL,jK]
  refine aB λU hU=>?_
  walk_at"l3"
  refine⟨ct4 l,?_⟩
  rw[V6]
  refine gy.mk (λa δ=>(∀z∈dN (l.take a),ow z=false)/\∃o5 o6 o7 o8 o9,δ=[some (fD t.aI t.aK m),some (D.lst false (aA false G)),some (D.int (ai G)),some (D.lst false (fQ false l)),some (D.lst true (fQ true ((dN (l.take a)).map (gO m (ai G))))),o5,o6,o7,o8,o9]) ⟨λz hz=>absurd hz gR,_,_,_,_,_,rfl⟩ ?_ ?_
  ·rintro a d δ hd ⟨qe,o5,o6,o7,o8,o9,rfl⟩
   obtain⟨ha,rfl⟩:=cv1 hd
   clear hd hU
   have hs:=dz ha
   obtain⟨gs,gk⟩:=L.gs _ hs
   obtain⟨hh,Lf⟩:=gs.rt
   have g6:=(Le _ hs).2
   have et:dN (l.take (a+1))=dN (l.take a)++fI l[a]:=by
    unfold dN
    rw[kH,aO ha,ML,Yu,List.flatMap_cons,List.flatMap_nil,gn]
   rw[et]
   have Wa:=dI9 (a+1)
   rw[et,dF]at Wa
   generalize hS:l[a]=s0 at hs gs gk Lf g6 et Wa ⊢
   have l1:(fI s0).length=s0.2.length:=by unfold fI;rw[bw,bL]
   walk_at"l3"
   refine gy.mk (λi δ=>(∀z∈(fI s0).take i,ow z=false)/\∃o7 o8 o9,δ=[some (fD t.aI t.aK m),some (D.lst false (aA false G)),some (D.int (ai G)),some (D.lst false (fQ false l)),some (D.lst true (fQ true ((dN (l.take a)++(fI s0).take i).map (gO m (ai G))))),some (D.lst false (aj s0.1)),some (D.lst false (aA false s0.2)),o7,o8,o9]) ⟨λz hz=>absurd hz gR,_,_,_,by rw[List.take_zero,gn]⟩ ?_ ?_
   ·rintro i d δ hd ⟨zT,o7,o8,o9,rfl⟩
    obtain⟨hi,rfl⟩:=QX hd
    clear hd
    obtain⟨cl,ca⟩:=Lf _ (dz hi)
    have gc:s0.2.getD i []=s0.2[i]:=by rw[aL,aO hi];rfl
    have gle:=gs.le
    have ei:(fI s0).take (i+1)=(fI s0).take i++[(s0,i)]:=by
     rw[kH]
     congr 1
     unfold fI
     rw[cI,j8 hi];rfl
    have hh6:hh<=64:=by have:=mT _ hs _ (dz hi);omega
    have il1:=(Le _ hs).1.len
    simp only[jC,jL,jK]
    refine aB λU hU=>?_
    walk_at"l3"
    have eb:aj s0.1++[D.int ((ai G:Int)-(s0.2.length:Int)+(i:Int))]=aj (j4 (ai G) (s0,i)):=by
     unfold j4
     rw[cH,cH,fh]
     show _=_++[D.int ((ai G-s0.2.length+i:Nat):Int)]
     rw[show(ai G:Int)-(s0.2.length:Int)+(i:Int)=((ai G-s0.2.length+i:Nat):Int) by omega]
    rw[eb]
    refine⟨by decide,by omega,hU _ ?_⟩
    clear hU
    refine aB λU hU=>?_
    walk_at"l3"
    refine⟨s0.2[i],rfl,by omega,nul s0.2[i],rfl,?_⟩
    cases hz:nul s0.2[i]with
    | true =>
     rw[if_pos rfl]
     have ef:jF m G=some (j4 (ai G) (s0,i)):=by
      rw[<-Ld,sF,if_neg l0]
      have:(dN l).find? ow=some (s0,i):=by
       refine Yp.mpr ⟨by show nul (s0.2.getD i [])=true;rw[gc];exact hz,dN (l.take a)++(fI s0).take i,(fI s0).drop (i+1)++dN (l.drop (a+1)),?_,λz Lg=>?_⟩
       ·have e1:dN l=dN (l.take (a+1))++dN (l.drop (a+1)):=by
         conv=>lhs;rw[<-Au (a+1) l]
         unfold dN
         rw[Yu]
        have e2:fI s0=(fI s0).take i++(s0,i)::(fI s0).drop (i+1):=by
         conv=>lhs;rw[<-Au (i+1) (fI s0),ei,eC]
         rfl
        rw[e1,et]
        conv=>lhs;rw[e2]
        simp only[eC,tM]
       ·have:=(cE.mp Lg).elim (qe z) (zT z)
        rw[this];rfl
      rw[this];rfl
     rw[ef]at q
     exact q
    | false =>
     rw[if_neg (by decide)]
     refine hU _ ?_
     clear hU
     walk_at"l3"
     rw[show((i:Int)+1)=((i+1:Nat):Int) by omega,GF,ei]
     refine⟨⟨_,rfl⟩,m,s0.2[i],s0.2.drop (i+1),rfl,hm,hz,by omega,ca,λr bj=>by rw[cl];exact Lf r (oV bj),by rw[ji];omega,by rw[gv,vV];rfl,by decide,?_,λz Lg=>?_,_,_,_,?_,rfl,rfl,rfl⟩
     ·unfold fQ
      rw[bw,bw,dF,hE]
      omega
     ·rcases cE.mp Lg with y | y
      ·exact zT z y
      ·rw[fW.mp y]
       show nul (s0.2.getD i [])=false
       rw[gc];exact hz
     ·rw[<-eC,fh (l₁:=dN (l.take a)++(fI s0).take i),<- ci5]
      congr 1
      show _=[D.tup [.lst true (aj (gO m (ai G) (s0,i)).1),.lst true (aA true (gO m (ai G) (s0,i)).2)]]
      show _=[D.tup [.lst true (aj (j4 (ai G) (s0,i))),.lst true (aA true (gM m (s0.2.getD i []) (s0.2.drop (i+1))))]]
      rw[gc]
   ·rintro δ ⟨zT,o7,o8,o9,rfl⟩
    rw[show(fY (aA false s0.2)).length=(fI s0).length by rw[nU,lh,l1],mY]at zT ⊢
    exact⟨λz hz=>(cE.mp hz).elim (qe z) (zT z),_,_,_,_,_,rfl⟩
  ·rintro δ ⟨qe,o5,o6,o7,o8,o9,rfl⟩
   refine hU _ ?_
   clear hU
   rw[show(fQ false l).length=l.length by unfold fQ;rw[bw],mY]at qe ⊢
   walk_at"l3"
   have hf:(dN l).find? ow=none:=M6.mpr λz hz=>by rw[qe z hz];decide
   refine⟨n,by omega,_,k+1,_,_,_,_,_,_,⟨rfl,rfl,rfl,rfl,rfl,rfl,rfl⟩,L.next hm (HD hm hR) qe,by omega,?_,?_,λs hs r bj=>?_⟩
   ·rw[<-Ld,sF,if_neg l0,hf]
   ·exact fU (V9 m (ai G) l) zS
   ·obtain⟨z,hz,rfl⟩:=bB.mp hs
    exact b44 (λo ho=>mT _ (vX.mp hz).1 o (oV ho)) r bj
noncomputable abbrev bD1(t:eI):List D->List Str->List D->Prop:=λds ns xs=>∃(m:Bool × Nat) (G:List (List Nat)) (Fb:List Nat),ds=[fD t.aI t.aK m,.lst false (aA false G)]/\eo m G/\1<=G.length/\G.length<=12/\2<=ai G/\ai G<=12/\jF m G=some Fb/\ns=(["field","length","check_rows","word_rows","message_places","size","bound"]:List Str)/\xs=mQ t.aI t.aK true m G++[.int (Fb.length:Nat)]
theorem Wb(T:Txt K mg t)(hB:Bm mg base):aN P w K mg base aP 5 t.JU t.TR ["self","field","table"] (CD [t.je,t.jf] t.bU (bD1 t)):=by
 refine T.Kh.F.ok aE4 (λvs H Q E h=>?_) λaE A outer s H vs Q E hr h=>?_
 ·obtain⟨F,H0,x,dx,bX,ds,ns,xs,rfl,_,_,_,_,_,r,⟨m,G,Fb,rfl,_⟩,_⟩:=h
  have:=r.length
  simp at this
  simp[this]
 obtain⟨F,H0,x,dx,bX,ds,ns,xs,rfl,tb,e0,gI,s0,hx,r,⟨m,G,Fb,rfl,hc,g1,zR,w2,w6,hF,rfl,rfl⟩,q⟩:=h
 have hm:=hc.hm
 have hG:=hc.rt
 obtain⟨vf,DS,B1,B2,rfl,Lh,rf,r2⟩:=R.cY r
 obtain⟨rfl,rfl⟩:=qw.mp Lh.symm
 obtain⟨vc,FK,B1,B2,rfl,dJ1,rc,r3⟩:=R.cY r2
 obtain⟨rfl,rfl⟩:=qw.mp dJ1.symm
 cases r3
 refine⟨_,fm (qM (AW (AU (jt ((aF1 T).mono (by decide)) hr rfl T.De.g T.De.F.kp T.De.b .nil dB (cm (pv 1) (cm (pv 2) fw))))) (jo qN) qK)
  (fm (qM (b9 (gJ (cW hr)) (ae (uB ((cr6 T).mono (by decide)) hr rfl T.Df.g T.Df.F.kp T.Df.b dB (ag (bv 1) (ag (bv 2) aq)))) (ae (cK (eY) (by rfl) T.eV eJ (ag (bF (bv 2) (ae ak) (λ_ _=>rfl)) aq))) (bH _)) (jo qN) qK)
  (fm (qL (HL (E:=E0) T.KL ((K2 T).mono (by decide)) hr T.Dc.b dB rfl T.zJ (cm (pv 0) (cm (pv 1) (cm (pv 2) fw)))))
  (jo (ib (pv 0) (cK (eY) (by rfl) T.eV eJ (ag (ae (uB ((aK8 T).mono (by decide)) hr rfl T.Dg.g T.Dg.F.kp T.Dg.b dB (ag (bv 1) (ag (bv 2) aq)))) aq)) rfl)))),?_⟩
 try dsimp only[kn,kq]
 refine⟨_,rfl,_,rfl,F,[fD t.aI t.aK m,.lst false (aA false G)],λd=>d=.bl true,e0.trans s0,R.cons (A:=[]) (rf.shared (L3.af.refl _) s0) (rc.shared (L3.af.refl _) s0),⟨m,G,rfl,hm,hG,g1,zR,w2,by omega,rfl⟩,λd v F1 H1 A1 hd ff zP K3 VT r1 VU K4=>?_⟩
 subst hd
 cases r1
 refine⟨true,rfl,?_⟩
 refine iW ?_
 have s1:=s0.trans ff
 have cM:=ff.get _ _ hx rfl
 have nr:(cu m G).length≠ai G:=λz=>by
  obtain⟨⟨Hd,I⟩,iR⟩:=hc.red
  have:=I.Hv hm iR
  have h0:=hc.sz
  unfold bN at h0
  omega
 refine⟨⟨H1,F⟩,F,[none,some (fD t.aI t.aK m),some (.lst false (aA false G))],[],λb _=>b=false,av.self (e0.trans s1) (.dW (A:=[]) (C:=[]) (rf.shared (L3.af.refl _) s1) (.dW (A:=[]) (C:=[]) (rc.shared (L3.af.refl _) s1) .nil)),?_,λb ah F2 H2 hb hf2 fJ c2=>?_⟩
 ·walk_at"l3"
  refine⟨m,G,rfl,hm,by omega,hG,by omega,?_⟩
  obtain⟨g,G',rfl⟩:∃g G',G=g::G':=by
   cases G with
   | nil=>exact absurd g1 (by decide)
   | cons g G'=>exact⟨g,G',rfl⟩
  refine⟨.lst false (aj g),yT false (T:=g::G') (i:=0) (Na _),rR 5 ((cu m (g::G')).length:Nat),?_⟩
  rw[i7,dY]
  exact decide_eq_false λz=>nr (Int.ofNat.inj z)
 subst hb
 refine iW ?_
 have s2:=s1.trans fJ
 have eE:=fJ.get _ _ cM rfl
 refine⟨.ref x,rfl,vf,rfl,vc,rfl,F,H0,x,dx,t.bU,vf,vc,m,G,[],rfl,e0,gI,s2,eE,.nil,⟨T.qk,T.Dr,T.Ds,T.Dq,T.Du,T.Ku,T.Dt⟩,rf,rc,hm,hG,by omega,by omega,λH' p1 p2 p3 B1 B2 B3 sx dj k1 k2 k3 nd fr=>?_⟩
 have so:=bO.of0 gI s2 sx
 refine⟨⟨H',F⟩,F,[none,some (fD t.aI t.aK m),some (.lst false (aA false G))],[],λd _=>d=.int (Fb.length:Nat),av.self (e0.trans so) (.dW (A:=[]) (C:=[]) (rf.shared (L3.af.refl _) so) (.dW (A:=[]) (C:=[]) (rc.shared (L3.af.refl _) so) .nil)),?_,λd ah v F3 H3 hd zO iu c3=>?_⟩
 ·walk_at"l3"
  refine⟨m,G,rfl,hm,by omega,hG,by omega,w6,?_⟩
  rw[hF]
  show(((aj Fb).length:Nat):Int)=_
  rw[dY]
 subst hd
 obtain⟨A3,C3,r3,_,nd3,_⟩:=c3.own
 obtain rfl:v=.int (Fb.length:Nat):=by cases r3;rfl
 have fC:=iu.get _ _ dj rfl
 refine⟨.ref x,rfl,x,t.bU,dx,_,rfl,fC,T.qk,T.Dn,by show 6<1000;decide,?_⟩
 have mv:∀{ds:List D} {vs:List V} {A':List Addr} {fs':List (Str × V)},R (λ_=>none) H' ds vs A'->ds.all D.fr=true->R (λ_=>none) (upd H3 x (.ins t.bU dx fs')) ds vs A':=λr hd=>(r.grow (L3.af.refl _) iu λa ha=>(r.lists a ha).2).si fC hd
 have fR:∀X:List (List Nat),[D.lst true (aA true X)].all D.fr=true:=λX=>by rw[dy,gv,vV];rfl
 have fN:∀X:List Nat,[D.lst true (aj X)].all D.fr=true:=λX=>by rw[dy,gb];rfl
 have z:=((((ff.trans fJ).x (x:=x)).trans sx).trans (iu.x (x:=x))).trans (bO.upd (C:=x) (dx:=dx) fC rfl (o':=.ins t.bU dx (bE "bound" (.int (Fb.length:Nat)) ([]++oA.zip [vf,.int (ai G:Nat),.ref p1,.ref p2,.ref p3,.int ((bN m G).length:Nat)]))))
 refine q _ [vf,.int (ai G:Nat),.ref p1,.ref p2,.ref p3,.int ((bN m G).length:Nat),.int (Fb.length:Nat)] (B1++(B2++(B3++[]))) z (by rw[bQ];rfl) rfl ?_ ?_ ?_
 ·have e:=e0.trans s0
  have up:∀{wA:Hp} {ds:List D} {vs:List V} {B:List Addr},R (λ_=>none) wA ds vs B->(∀a∈B,H2 a=none)->R F wA ds vs B:=λr h=>r.keep (L3.af.of λb o e=>by cases e) (gw.same (L3.af.refl _)) gX.nil (λa ha=>e.free ((ff.trans fJ).free (h a ha))) (by simp)
  exact R.cons (A:=[]) (rf.shared (L3.af.refl _) (bO.of0 gI s0 z)) (.int (R.cons (up (mv k1 (fR _)) λa ha=>fr a (fE _ ha)) (R.cons (up (mv k2 (fR _)) λa ha=>fr a (df _ (fE _ ha))) (R.cons (up (mv k3 (fN _)) λa ha=>fr a (df _ (df _ ha))) (.int (.int .nil))))))
 ·rw[gn];exact nd
 ·rw[gn]
  intro a ha
  exact(ff.trans fJ).free (fr a ha)
noncomputable abbrev aM7:aX:=λds Q=>∃(m:Bool × Nat) (a b:Nat),ds=[dZ m,.int a,.int b]/\m∈au/\a<aa m/\b<aa m/\Q (.int (gm m a b:Nat))
theorem Wc(T:Txt K mg t):aN P w K mg base aP 1 t.TU t.TV ["_law_told_here","_law_a","_law_b"] (bf (aM7 )):=by
 refine bt T.Ki.F wk ?_ ?_
 ·intro ds Q h
  obtain⟨m,a,b,rfl,hm,ha,hb,q⟩:=h<;>rfl
 ·intro aE A outer s H E hr
  refine⟨_,(aC (dm (uu (jR (bF (bv 0) (ae ak) (λ_ _=>rfl)))) (aF (aT (az dE (ae (az fM (bv 1) (bv 2))) (bF (bv 0) (ae ak) (λ_ _=>rfl))))) dk)
   (aC (aZ (i:=3) wk.nd rfl (ay rfl) ak)
   (aC (rz eW (b9 xP (bv 2) (ae ak) (bH _))
    (aC (dm (b9 (gJ (cW hr)) (ae (az O2 (bv 2) (ae ak))) (ae ak) (bH _)) (aF (aZ (i:=3) wk.nd rfl (ay rfl) (az uZ (bv 3) (bv 1)))) dk)
    (aC (aZ (i:=1) wk.nd rfl (ay rfl) (az uV (bv 1) (ae ak)))
    (aC (dm (b9 (gJ (cW hr)) (ae (nO (bv 1))) (ae (nO (bF (bv 0) (ae ak) (λ_ _=>rfl)))) (bH _)) (aF (aZ (i:=1) wk.nd rfl (ay rfl) (az uZ (bv 1) (bF (bv 0) (ae ak) (λ_ _=>rfl))))) dk)
    (aF (aZ (i:=2) wk.nd rfl (ay rfl) (az O1 (bv 2) (ae ak))))))))
   (aF (aT (em 3)))))),λds Q h=>?_⟩
  obtain⟨m,a,b,rfl,hm,ha,hb,q⟩:=h
  unfold dZ at *
  obtain⟨k,n⟩:=m
  refine aB λU hU=>?_
  walk_at"l3"
  have hF:=cq hm
  cases k with
  | false =>
   refine⟨_,rfl,false,rfl,?_⟩
   have lR:n<=64:=hF.hi
   have l2:2<=n:=hF.lo
   have V4:a<n:=ha
   have vH:b<n:=hb
   rw[if_pos (by decide)]
   refine⟨ia.ok (.inr ⟨by omega,by omega⟩),_,rfl,by omega,?_⟩
   have e:((gm (false,n) a b:Nat):Int)=(a:Int)*b%n:=by
    show((a*b%n:Nat):Int)=_
    rw[lZ,qA]
   rw[<-e];exact q
  | true =>
   refine⟨_,rfl,true,rfl,?_⟩
   rw[if_neg (by decide)]
   have hp:=sk hm
   have bp:=Qi n hp
   have DM:=Qj n hp
   have p0:n≠0:=λz=>by rw[z,nD]at DM;omega
   have gI:bl a<bl n:=by
    have:=fB.mpr (show a<2 ^ (bl n-1) from ha)
    omega
   have hy0:bl b<bl n:=by
    have:=fB.mpr (show b<2 ^ (bl n-1) from hb)
    omega
   refine hU _ ?_
   clear hU U
   refine aB λU hU=>?_
   walk_at"l3"
   refine hU _ ?_
   clear hU U
   refine aB λU hU=>?_
   walk_at"l3"
   refine⟨λm δ=>∃(x y z:Nat),δ=[some (.tup [.bl true,.int n]),some (.int (x:Nat)),some (.int (y:Nat)),some (.int (z:Nat))]/\z ^^^ md (cl x y) n=gm (true,n) a b/\bl x<bl n/\bl y<bl n/\m=bl y,
    ⟨bl b,a,b,0,rfl,by rw[oU];rfl,gI,hy0,rfl⟩,?_⟩
   rintro m δ ⟨x,y,z,rfl,inv,hx,hy,rfl⟩
   walk_at"l3"
   split
   ·rename_i Li
    have VC:=iC (show y≠0 by omega)
    have DO:bl (y/2)=bl y-1:=cy0 y
    have e1:((x:Int)*2 ^ (1:Int).toNat)=((2*x:Nat):Int):=by
     show(x:Int)*(2:Int) ^ 1=_
     omega
    have e2:((y:Int)/2 ^ (1:Int).toNat)=((y/2:Nat):Int):=by
     show(y:Int)/(2:Int) ^ 1=_
     omega
    have a1:oO (y:Int) 1=((y%2:Nat):Int):=by
     rw[show(1:Int)=((1:Nat):Int) from rfl,Oo,Nat.and_one_is_mod]
    have tm:=cv4 (y:=y) p0 hx
    have tb:=cs5 p0 hx
    clear hU
    refine aB λU hU=>?_
    walk_at"l3"
    have fin:∀z':Nat,z'=z ^^^ (if y%2=1 then x else 0)->U [some (.tup [.bl true,.int n]),some (.int x),some (.int y),some (.int z')]:=by
     intro z' hz
     have dJ4:z' ^^^ md (cl (if bl (2*x)=bl n then 2*x ^^^ n else 2*x) (y/2)) n=gm (true,n) a b:=by
      rw[hz,qt,<- tm];exact inv
     refine hU _ ?_
     clear hU
     refine aB λU hU=>?_
     walk_at"l3"
     refine⟨⟨by decide,by simp only[jk];omega⟩,hU _ ?_⟩
     clear hU
     rw[e1]
     refine aB λU hU=>?_
     walk_at"l3"
     have last:∀x':Nat,x'=(if bl (2*x)=bl n then 2*x ^^^ n else 2*x)->U [some (.tup [.bl true,.int n]),some (.int (x':Nat)),some (.int y),some (.int z')]:=by
      intro x' dj
      refine hU _ ?_
      walk_at"l3"
      exact⟨by decide,bl (y/2),by omega,x',y/2,z',⟨rfl,e2,rfl⟩,by rw[dj];exact dJ4,by rw[dj];exact tb,by omega,rfl⟩
     refine⟨_,rfl,?_⟩
     show(if(((bl (((2*x:Nat):Int)).natAbs:Nat):Int)=((bl ((n:Int)).natAbs:Nat):Int))then _ else _)
     rw[jk,jk]
     split
     ·rename_i hc
      refine⟨_,rfl,?_⟩
      have g:=last (2*x ^^^ n) (by rw[if_pos (by omega)])
      rw[<-mm]at g
      exact g
     ·rename_i hc
      exact last (2*x) (by rw[if_neg (by omega)])
    rw[a1]
    split
    ·rename_i DL
     have odd:y%2=1:=by omega
     have g:=fin (z ^^^ x) (by rw[if_pos odd])
     rw[<-mm]at g
     exact g
    ·rename_i DL
     exact fin z (by rw[if_neg (by omega),lX])
   ·rename_i Li
    have hy:y=0:=by omega
    subst hy
    rw[cx1,yO (by rw[nD];exact iC p0),lX]at inv
    subst inv
    refine hU _ ?_
    walk_at"l3"
    exact q
noncomputable def oN(g:Nat->Nat->Nat)(a:Nat):Nat->List Int->Nat->Option (List Int)
 | 0,_,_=>none
 | f+1,l,p=>if g p a=1 then some l else oN g a f (l++[((g p a:Nat):Int)]) (g p a)
noncomputable def We(m:Bool × Nat):Bool:=decide (1<=(fst m).toNat)&&decide ((fst m).toNat<aa m)&&((aD ((fst m).toNat-1)).all λi=>match oN (gm m) (i+1) 64 [1] 1 with | none=>false | some l=>decide (l.length≠aa m-1))&&decide (oN (gm m) (fst m).toNat 64 [1] 1=some (fl m))
theorem cG6:au.all We=true:=by decide +kernel
theorem cP3{m:Bool × Nat}(hm:m∈au):∃s:Nat,1<=s/\s<aa m/\(∀i,i<s-1->∃l,oN (gm m) (i+1) 64 [1] 1=some l/\l.length≠aa m-1)/\oN (gm m) s 64 [1] 1=some (fl m):=by
 have h:=c9.mp cG6 m hm
 simp only[We,fg,c9,decide_eq_true_eq,bY]at h
 refine⟨_,h.1.1.1,h.1.1.2,λi hi=>?_,h.2⟩
 have h3:=h.1.2 i hi
 cases e:oN (gm m) (i+1) 64 [1] 1 with
 | none=>rw[e]at h3;cases h3
 | some l=>rw[e]at h3;exact⟨l,rfl,of_decide_eq_true h3⟩
noncomputable abbrev aK9:aX:=λds Q=>∃m:Bool × Nat,ds=[dZ m]/\m∈au/\Q (.lst true (aJ (fl m)))
theorem aL0(T:Txt K mg t):aN P w K mg base aP 2 t.TX t.TY ["_law_told_here"] (bf (aK9 )):=by
 refine bt T.U7.F I0 ?_ ?_
 ·intro ds Q h
  obtain⟨m,rfl,hm,q⟩:=h<;>rfl
 ·intro aE A outer s H E hr
  refine⟨_,(aC (gz eW rfl (xK rfl T.gD (ag (ae ak) (ag (ae (bA T.zo (DK T) hr (ag (bv 0) aq))) aq))) (jz (i:=1) I0.nd rfl (ay rfl))
    (aC (aZ (i:=2) I0.nd rfl (ay rfl) (dQ (cB ak cN)))
    (aC (rz eW (b9 (ij (cW hr)) (ae (bA T.Ki (Wc T) hr (ag (bv 0) (ag (bF (bv 2) (ae (Pc (ae ak))) (λ_ _=>rfl)) (ag (bv 1) aq))))) (ae ak) (bH _))
     (aF (nQ (i:=2) rfl (by first | exact ay rfl | exact bW (ay rfl)) (bA T.Ki (Wc T) hr (ag (bv 0) (ag (bF (bv 2) (ae (Pc (ae ak))) (λ_ _=>rfl)) (ag (bv 1) aq)))))))
    (aF (dm (b9 (gJ (cW hr)) (ae (cK (eY) (by rfl) T.eV eJ (ag (bv 2) aq))) (ae (az dR (ae (bA T.zo (DK T) hr (ag (bv 0) aq))) (ae ak))) (bH _)) (aF (aT (em 2))) dk)))))
   (aF (aT (dQ (cB ak cN))))),λds Q h=>?_⟩
  obtain⟨m,rfl,hm,q⟩:=h
  have hF:=cq hm
  have cJ:=hF.lo
  have zU:=hF.hi
  have Wf:=GZ m hm
  obtain⟨st,s1,s2,s3,s4⟩:=cP3 hm
  refine aB λU hU=>?_
  walk_at"l3"
  refine⟨m,rfl,by omega,by omega,1,_,⟨rfl,rfl⟩,⟨by decide,by decide,by omega,by omega⟩,?_⟩
  refine gy.mk (λi δ=>i<=st-1/\∃o1 o2,δ=[some (dZ m),o1,o2]) ⟨by omega,none,none,rfl⟩ ?_ ?_
  ·rintro i d δ hd ⟨hi,o1,o2,rfl⟩
   obtain⟨yy,rfl⟩:=cg3 hd
   rw[show(1:Int)+(i:Int)=((i+1:Nat):Int) by omega]
   clear hd
   obtain⟨L,eL,hL⟩:∃L,oN (gm m) (i+1) 64 [1] 1=some L/\((i=st-1/\L=fl m)\/(i<st-1/\L.length≠aa m-1)):=by
    by_cases Wg:i=st-1
    ·exact⟨_,by rw[Wg,show st-1+1=st by omega];exact s4,.inl ⟨Wg,rfl⟩⟩
    ·obtain⟨l,h1,h2⟩:=s3 i (by omega)
     exact⟨l,h1,.inr ⟨by omega,h2⟩⟩
   refine aB λU hU=>?_
   walk_at"l3"
   refine⟨by decide,hU _ ?_⟩
   clear hU
   refine aB λU hU=>?_
   walk_at"l3"
   refine⟨λn δ=>∃(l:List Int) (p:Nat),δ=[some (dZ m),some (.int ((i+1:Nat):Int)),some (.lst true (aJ (l++[(p:Int)])))]/\p<aa m/\l.length+n=64/\oN (gm m) (i+1) n (l++[(p:Int)]) p=some L,
    ⟨64,[],1,rfl,by omega,rfl,eL⟩,?_⟩
   rintro n δ ⟨l,p,rfl,hp,hl,he⟩
   walk_at"l3"
   have ea:fo (aJ (l++[(p:Int)])) (-1)=some (.int (p:Int)):=by rw[b24 (by rw[dF];show 0<l.length+1;omega),dF,lW,Nat.add_sub_cancel,aL,lV (bK _),wU];rfl
   cases n with
   | zero=>cases he
   | succ n =>
    rw[oN]at he
    refine⟨_,ea,m,p,i+1,rfl,hm,hp,by omega,rfl,rfl,?_⟩
    rw[i7]
    by_cases c:gm m p (i+1)=1
    ·rw[if_pos c]at he
     cases he
     rw[decide_eq_true (by omega),if_neg (by decide)]
     refine hU _ ?_
     walk_at"l3"
     refine⟨m,rfl,by omega,by omega,?_⟩
     dsimp only
     rcases hL with⟨h1,h2⟩ | ⟨h1,h2⟩
     ·have:=hF.len
      rw[h2,if_pos (by omega)]
      exact q
     ·rw[if_neg (by omega)]
      exact⟨by omega,_,_,rfl,rfl⟩
    ·rw[if_neg c]at he
     rw[decide_eq_false (by omega),if_pos (by decide)]
     exact⟨⟨_,rfl⟩,_,ea,m,p,i+1,rfl,hm,hp,by omega,rfl,by rw[dF];show l.length+1<_;omega,n,by omega,l++[(p:Int)],gm m p (i+1),by simp only[aJ,fh,dw,j7],bJ hm _ _,by rw[dF];show l.length+1+n=64;omega,he⟩
  ·rintro δ ⟨hi,_⟩
   simp at hi
   omega
noncomputable abbrev aD1:aX:=λds Q=>∃(m:Bool × Nat) (n e f:Nat),ds=[dZ m,.int n,.int e,.int f]/\m∈au/\n<=64/\e<=64/\f<=64/\Q (.lst true (aA true (dM m f (aD n) e)))
theorem Wh(T:Txt K mg t):aN P w K mg base aP 3 t.TZ t.T1 ["_law_told_here","_law_length","_law_extra","_law_first"] (bf (aD1 )):=by
 refine bt T.Kj.F CO ?_ ?_
 ·intro ds Q h
  obtain⟨m,n,e,f,rfl,hm,hn,he,hf,q⟩:=h<;>rfl
 ·intro aE A outer s H E hr
  refine⟨_,(aC (aZ (i:=4) CO.nd rfl (bW rfl) (bA T.U7 (aL0 T) hr (ag (bv 0) aq)))
   (aC (aZ (i:=5) CO.nd rfl (ay rfl) (dQ cN))
   (aC (gz eW rfl (i6 rfl T.gD (ag (bv 2) aq)) (jz (i:=6) CO.nd rfl (bW rfl))
    (aF (nQ (i:=5) rfl (by first | exact ay rfl | exact bW (ay rfl)) (du [("_law_powers_here",4),("_law_first",3),("_law_i",6)] ["_law_at"] rfl (i6 rfl T.gD (ag (bv 1) aq)) (λ_ _ _ _=>(eT (i:=3) (show(["_law_powers_here","_law_first","_law_i","_law_at"]:List Str).Nodup by decide +kernel))) (λ_ _ _ _=>dD) (λ_ _ _ _=>(da (bF (bv 0) (ae (az dE (ae (az fM (ae (az cC (bv 1) (bv 2))) (bv 3))) (ae (cK (eY) (by rfl) T.eV eJ (ag (bv 0) aq))))) (λ_ _=>rfl)))) rfl))))
   (aF (aT (em 5)))))),λds Q h=>?_⟩
  obtain⟨m,n,e,f,rfl,hm,hn,he,hf,q⟩:=h
  have hF:=cq hm
  have cJ:=hF.lo
  have zU:=hF.hi
  have hlen:=hF.len
  refine aB λU hU=>?_
  walk_at"l3"
  refine⟨m,rfl,hm,hU _ ?_⟩
  clear hU U
  refine aB λU hU=>?_
  walk_at"l3"
  refine⟨by decide,hU _ ?_⟩
  clear hU U
  refine aB λU hU=>?_
  walk_at"l3"
  refine⟨⟨by omega,by omega⟩,yv (λi δ=>∃(o1:Option D),δ=[some (dZ m),some (.int n),some (.int e),some (.int f),some (.lst true (aJ (fl m))),some (.lst true (aA true (dM m f (aD n) i))),o1]) ⟨_,rfl⟩ ?_ ?_⟩
  ·rintro i δ hi ⟨o1,rfl⟩
   simp only[gN,jL,jK]
   clear hU
   walk_at"l3"
   refine⟨⟨_,rfl⟩,⟨by omega,by omega⟩,eN (aD n) (λ(i:Nat)=>D.int (i:Int)) (λ(p:Nat)=>D.int ((eS m (((f:Int)+(i:Int))*(p:Int)):Nat):Int)) (mJ _ rfl) iG (λp hp=>?_) (.inr λ_ _=>rfl) (by rw[bL,sL];omega) ?_⟩
   ·have hp:=bY.mp hp
    have n0:=gT (((f:Int)+(i:Int))*(p:Int)) (show(aa m:Int)-1≠0 by omega)
    have el:(((fl m).length:Nat):Int)=(aa m:Int)-1:=by omega
    walk_at"l3"
    rw[el]
    refine⟨ia.ok (.inl ⟨by omega,by omega⟩),by omega,_,nq (d:=.int (eS m (((f:Int)+(i:Int))*(p:Int)):Nat)) n0 ?_,rfl,rfl⟩
    unfold aJ;rw[cI,QB hm];rfl
   ·refine⟨_,rfl,by rw[lh,(Cv hm f (aD n) i).2];omega,some (D.int i),?_⟩
    rw[show dM m f (aD n) (i+1)=dM m f (aD n) i++[(aD n).map λ(p:Nat)=>eS m (((f:Int)+(i:Int))*(p:Int))] by unfold dM;rw[Av,fh];rfl,<- sC,show((aD n).map λ(p:Nat)=>D.int ((eS m (((f:Int)+(i:Int))*(p:Int)):Nat):Int))=aj ((aD n).map λ(p:Nat)=>eS m (((f:Int)+(i:Int))*(p:Int))) by rw[cH,cj];rfl]
    rfl
  ·rintro δ ⟨o1,rfl⟩
   refine hU _ ?_
   walk_at"l3"
   exact q
noncomputable def sU(M n e f:Int):Prop:=2<=n/\n<=M-1/\1<=e/\e<=n-1/\0<=f/\f<=M-2
noncomputable instance (M n e f:Int):Decidable (sU M n e f):=by unfold sU;infer_instance
noncomputable abbrev aD2:aX:=λds Q=>∃(M n e f:Int),ds=[.int M,.int n,.int e,.int f]/\Q (.bl (decide (sU M n e f)))
theorem aD3(T:Txt K mg t):aN P w K mg base aP 1 t.T2 t.T3 ["many","length","extra","first"] (bf (aD2 )):=by
 refine bt T.Dh.F aA7 ?_ ?_
 ·intro ds Q h
  obtain⟨M,n,e,f,rfl,q⟩:=h<;>rfl
 ·intro aE A outer s H E hr
  refine⟨_,(aF (aT (pH (ae (vb kT kT (ae ak) (bv 1) (ae (az dR (bv 0) (ae ak))))) (pH (ae (vb kT kT (ae ak) (bv 2) (ae (az dR (bv 1) (ae ak))))) (tY (vb kT kT (ae ak) (bv 3) (ae (az dR (bv 0) (ae ak))))))))),λds Q h=>?_⟩
  obtain⟨M,n,e,f,rfl,q⟩:=h
  walk_at"l3"
  have z:∀b:Bool,(b=true↔sU M n e f)->Q (.bl b):=λb h=>by rw[show b=decide (sU M n e f) by rw[qu,decide_eq_true_eq];exact h];exact q
  unfold sU at z
  repeat' split
  all_goals exact z _ (by simp only[decide_eq_true_eq,qv,false_iff];omega)
noncomputable abbrev bE4(t:eI):List D->List Str->List D->Prop:=λds ns xs=>∃(m:Bool × Nat) (n e f:Nat),ds=[fD t.aI t.aK m,.int n,.int e,.int f]/\m∈au/\2<=n/\n+1<=aa m/\1<=e/\e+1<=n/\f+2<=aa m/\ns=(["extra","first","field","length","check_rows","word_rows","message_places","size"]:List Str)/\xs=[.int e,.int f]++mQ t.aI t.aK true m (dM m f (aD n) e)
theorem aH4(T:Txt K mg t)(hB:Bm mg base):aN P w K mg base aP 5 t.JV t.JW ["self","field","length","extra","first"] (CD [t.je,t.jf] t.bh (bE4 t)):=by
 refine T.dx1.ok Sl (λvs H Q E h=>?_) λaE A outer s H vs Q E hr h=>?_
 ·obtain⟨F,H0,x,dx,bX,ds,ns,xs,rfl,_,_,_,_,_,r,⟨m,n,e,f,rfl,_⟩,_⟩:=h
  have:=r.length
  simp at this
  simp[this]
 obtain⟨F,H0,x,dx,bX,ds,ns,xs,rfl,tb,e0,gI,s0,hx,r,⟨m,n,e,f,rfl,hm,h1,h2,h3,h4,h5,rfl,rfl⟩,q⟩:=h
 have zU:=(cq hm).hi
 obtain⟨vf,DS,B1,B2,rfl,Lh,rf,r2⟩:=R.cY r
 obtain⟨rfl,rfl⟩:=qw.mp Lh.symm
 obtain rfl:DS=[.int n,.int e,.int f]:=by
  cases r2 with
  | int r=>cases r with
   | int r=>cases r with
    | int r=>cases r;rfl
 refine⟨_,fm (qM (uu (jR (ae (uB ((aD3 T).mono (by decide)) hr rfl T.Dh.g T.Dh.F.kp T.Dh.b dB (ag (cZ (K:=K) (bv 1)) (ag (bv 2) (ag (bv 3) (ag (bv 4) aq)))))))) (jo qN) qK)
  (fm (ib (pv 0) (pv 3) rfl)
  (fm (ib (pv 0) (pv 4) rfl)
  (fm (cd1 (i:=5) Sl.nd rfl (ay rfl) [("field",1),("first",4),("length",2)] ["i"] rfl (i6 rfl T.gD (ag (bv 3) aq)) (λ_ _ _ _=>(jz (i:=3) (show(["field","first","length","i"]:List Str).Nodup by decide +kernel) rfl (bW rfl) (by decide) (ay rfl))) (λ_ _ _ _=>dD) (by exact λ_ _ _ _=>(du [("field",0),("first",1),("i",3)] ["j"] rfl (i6 rfl T.gD (ag (bv 2) aq)) (λ_ _ _ _=>(jz (i:=3) (show(["field","first","i","j"]:List Str).Nodup by decide +kernel) rfl (ay (lookup_relabel_local rfl)) (by decide) (bW (lookup_relabel_local rfl)))) (λ_ _ _ _=>dD) (λ_ _ _ _=>(fH (P:=P) (w:=w) (K:=K) (mg:=mg) (base:=base) (n:=1) (bv 0) (hr.mono (by decide)) (ag (ae (az fM (ae (az cC (bv 1) (bv 2))) (bv 3))) aq))) rfl)) rfl ⟨rfl,⟨rfl,⟨rfl,trivial⟩⟩⟩ (λ_=>by repeat' (first | exact trivial | refine⟨.inl rfl,?_⟩ | refine⟨.inr (.inl rfl),?_⟩ | refine⟨.inr (.inr ⟨_,rfl⟩),?_⟩)) (λ_=>⟨⟨rfl,.inl rfl,.inl rfl,_,rfl,rfl⟩,⟨⟨rfl,.inl rfl,.inl rfl,_,rfl,rfl⟩,⟨⟨rfl,.inl rfl,.inl rfl,_,rfl,rfl⟩,trivial⟩⟩⟩) rfl (by decide +kernel))
  (jo (qL (HL (E:=E0) T.KL ((K2 T).mono (by decide)) hr T.Dc.b dB rfl T.zJ (cm (pv 0) (cm (pv 1) (cm (pv 5) fw))))))))),?_⟩
 try dsimp only[kn,kq]
 refine⟨⟨H,F⟩,F,[none,some (fD t.aI t.aK m),some (.int n),some (.int e),some (.int f),none],[],λb _=>b=false,av.self (e0.trans s0) (.dW (A:=[]) (C:=[]) (rf.shared (L3.af.refl _) s0) (.dW (A:=[]) (C:=[]) (.int .nil) (.dW (A:=[]) (C:=[]) (.int .nil) (.dW (A:=[]) (C:=[]) (.int .nil) (.ax .nil))))),?_,λb ah F1 H1 hb zP ff c1=>?_⟩
 ·walk_at"l3"
  exact cF1 T m ⟨aa m,n,e,f,rfl,rfl,true,by rw[decide_eq_true (by unfold sU;omega)],rfl⟩
 subst hb
 refine iW ?_
 have s1:=s0.trans ff
 have cM:=ff.get _ _ hx rfl
 refine⟨.int e,rfl,.ref x,rfl,x,t.bh,dx,_,rfl,cM,T.kC,T.zE,by decide,?_⟩
 have eE:upd H1 x (.ins t.bh dx (bE "extra" (.int e) [])) x=some (.ins t.bh dx [("extra",.int e)]):=by rw[bQ];rfl
 have z2:=(ff.x (x:=x)).trans (bO.upd (C:=x) (dx:=dx) cM rfl (o':=.ins t.bh dx (bE "extra" (.int e) [])))
 generalize upd H1 x (.ins t.bh dx (bE "extra" (.int e) []))=H2 at z2 eE ⊢
 refine⟨.int f,rfl,.ref x,rfl,x,t.bh,dx,_,rfl,eE,T.kC,T.DC,by show 1<1000;decide,?_⟩
 have fC:upd H2 x (.ins t.bh dx (bE "first" (.int f) [("extra",.int e)])) x=some (.ins t.bh dx [("extra",.int e),("first",.int f)]):=by rw[bQ];rfl
 have z3:=z2.trans (bO.upd (C:=x) (dx:=dx) eE rfl (o':=.ins t.bh dx (bE "first" (.int f) [("extra",.int e)])))
 generalize upd H2 x (.ins t.bh dx (bE "first" (.int f) [("extra",.int e)]))=H3 at z3 fC ⊢
 have s3:=bO.of0 gI s0 z3
 obtain⟨g1,g2,g3⟩:=CJ hm f n (show 1<=e by omega)
 refine⟨⟨H3,F⟩,F,[none,some (fD t.aI t.aK m),some (.int n),some (.int e),some (.int f),none],[],λd _=>d=.lst true (aA true (dM m f (aD n) e)),av.self (e0.trans s3) (.dW (A:=[]) (C:=[]) (rf.shared (L3.af.refl _) s3) (.dW (A:=[]) (C:=[]) (.int .nil) (.dW (A:=[]) (C:=[]) (.int .nil) (.dW (A:=[]) (C:=[]) (.int .nil) (.ax .nil))))),?_,λd ah v F4 H4 hd hf4 zV c4=>?_⟩
 ·walk_at"l3"
  refine⟨⟨by omega,by omega⟩,eN (aD e) (λ(i:Nat)=>D.int (i:Int)) (λ(i:Nat)=>D.lst true (aj ((aD n).map λ(p:Nat)=>eS m (((f:Int)+(i:Int))*(p:Int))))) (mJ _ (by omega)) iG (λi hi=>?_) (.inr λ_ _=>gb _) (by rw[bL,sL];omega) ?_⟩
  ·have hi:=bY.mp hi
   walk_at"l3"
   refine⟨⟨by omega,by omega⟩,eN (aD n) (λ(i:Nat)=>D.int (i:Int)) (λ(p:Nat)=>D.int ((eS m (((f:Int)+(i:Int))*(p:Int)):Nat):Int)) (mJ _ (by omega)) iG (λp BB=>?_) (.inr λ_ _=>rfl) (by rw[bL,sL];omega) ?_⟩
   ·have:=bY.mp BB
    walk_at"l3"
    obtain⟨C,ns,xs,sp,e1,e2,e3,e4⟩:=VA (P:=P) (w:=w) (base:=base) T hm (n:=((f:Int)+(i:Int))*(p:Int)) (Q:=λr=>r=D.int ((eS m (((f:Int)+(i:Int))*(p:Int)):Nat):Int)) rfl
    exact⟨C,ns,xs,sp,e1,e2,e3,ia.ok (.inl ⟨by omega,by omega⟩),e4⟩
   ·rw[cH,cj];rfl
  ·unfold dM aA
   rw[cj];rfl
 subst hd
 obtain⟨A4,C4,r4,_,Wi,Lj⟩:=c4.own
 have r4:R F4 H4 [.lst true (aA true (dM m f (aD n) e))] [v] A4:=r4
 obtain⟨pc,rfl⟩:=v9 r4
 have jH:=zV.get _ _ fC rfl
 have fR:∀X:List (List Nat),[D.lst true (aA true X)].all D.fr=true:=λX=>by rw[dy,gv,vV];rfl
 have wz:∀X:List (List Nat),[D.lst true (aA true X)].map D.sh=[D.lst false (aA false X)]:=λX=>by rw[dw,eK,e7];rfl
 have r4:=r4.q5 (fR _) hf4
 have Lj:∀a∈A4,H3 a=none:=λa ha=>Lj a (fE _ ha)
 have Wi:=(iZ.mp Wi).1
 have Wj:=s3.trans zV
 have xA:x ∉ A4:=λz=>by rw[Lj x z]at fC;cases fC
 have s5:L3.af H0 (L3.bx H0 H4 A4):=iE Wj
 have e5:=e0.trans s5
 have r5:R F (L3.bx H0 H4 A4) [.lst true (aA true (dM m f (aD n) e))] [.ref pc] A4:=R0 r4 λa ha=>by unfold L3.bx;rw[if_pos ha]
 refine⟨.ref x,rfl,vf,rfl,.ref pc,rfl,L3.bx F (L3.bx H0 H4 A4) A4,L3.bx H0 H4 A4,x,dx,t.bh,vf,.ref pc,m,dM m f (aD n) e,[("extra",.int e),("first",.int f)],rfl,nE e5,by rw[pB xA];exact gI,nE Wj,jH,.two _ _,⟨T.kC,T.DB,T.DD,T.DA,T.DF,T.KI,T.DE⟩,rf.shared (iE e5) s5,wz _ ▸ r5.bx e5 A4 λ_ h=>h,hm,by rw[g3];exact g1,by omega,by omega,λH' p1 p2 p3 B1 B2 B3 sx dj k1 k2 k3 nd fr=>?_⟩
 have z:=(z3.trans (zV.x (x:=x))).trans sx
 have so:=bO.of0 gI s0 z
 have ee:=e0.trans s3
 refine q H' [.int e,.int f,vf,.int (ai (dM m f (aD n) e):Nat),.ref p1,.ref p2,.ref p3,.int ((bN m (dM m f (aD n) e)).length:Nat)] (B1++(B2++(B3++[]))) z dj rfl ?_ ?_ ?_
 ·have up:∀{ds:List D} {vs:List V} {B:List Addr},R (λ_=>none) H' ds vs B->(∀a∈B,H4 a=none)->R F H' ds vs B:=λr h=>r.keep (L3.af.of λb o e=>by cases e) (gw.same (L3.af.refl _)) gX.nil (λa ha=>ee.free (zV.free (h a ha))) (by simp)
  exact .int (.int (R.cons (A:=[]) (rf.shared (L3.af.refl _) so) (.int (R.cons (up k1 λa ha=>fr a (fE _ ha)) (R.cons (up k2 λa ha=>fr a (df _ (fE _ ha))) (R.cons (up k3 λa ha=>fr a (df _ (df _ ha))) (.int .nil)))))))
 ·rw[gn];exact nd
 ·rw[gn]
  intro a ha
  exact z3.free (by rw[fC];simp) (zV.free (fr a ha))
noncomputable abbrev Lk(t:eI):aX:=λds Q=>∃(m:Bool × Nat) (G:List (List Nat)) (b:Nat),ds=[gj t m G (.oB b)]/\Q (.int (b:Nat))
theorem Wk(T:Txt K mg t):aN P w K mg base aP 1 t.JX t.T4 ["self"] (bf (Lk t)):=by
 refine bt T.Kk.F av0 ?_ ?_
 ·intro ds Q h
  obtain⟨m,G,b,rfl,q⟩:=h<;>rfl
 ·intro aE A outer s H E hr
  refine⟨_,(aF (aT (da (cZ (K:=K) (bv 0))))),λds Q h=>?_⟩
  obtain⟨m,G,b,rfl,q⟩:=h
  walk_at"l3"
  exact⟨_,_,_,_,rfl,T.qk,T.Dn,rfl,rfl,q⟩
noncomputable abbrev Wl(t:eI):aX:=λds Q=>∃(m:Bool × Nat) (G:List (List Nat)),ds=[gj t m G .rep]/\Q (.int (ai G:Nat))
theorem au4(T:Txt K mg t):aN P w K mg base aP 1 t.JY t.T5 ["self"] (bf (Wl t)):=by
 refine bt T.U8.F at8 ?_ ?_
 ·intro ds Q h
  obtain⟨m,G,rfl,q⟩:=h<;>rfl
 ·intro aE A outer s H E hr
  refine⟨_,(aF (aT (da (cZ (K:=K) (bv 0))))),λds Q h=>?_⟩
  obtain⟨m,G,rfl,q⟩:=h
  walk_at"l3"
  exact DJ T m G .rep ⟨rfl,q⟩
noncomputable abbrev Wm(t:eI):aX:=λds Q=>∃(m:Bool × Nat) (G:List (List Nat)) (e f:Nat),ds=[gj t m G (.lJ e f)]/\Q (.int ((e+1:Nat):Int))
theorem ax3(T:Txt K mg t):aN P w K mg base aP 1 t.JZ t.T6 ["self"] (bf (Wm t)):=by
 refine bt T.U9.F aw0 ?_ ?_
 ·intro ds Q h
  obtain⟨m,G,e,f,rfl,q⟩:=h<;>rfl
 ·intro aE A outer s H E hr
  refine⟨_,(aF (aT (az cC (cZ (K:=K) (bv 0)) (ae ak)))),λds Q h=>?_⟩
  obtain⟨m,G,e,f,rfl,q⟩:=h
  walk_at"l3"
  exact⟨_,_,_,_,rfl,T.kC,T.zE,rfl,q⟩
noncomputable abbrev aH5(t:eI):aX:=λds Q=>∃(m:Bool × Nat) (n:Nat),ds=[fD t.aI t.aK m,.int n]/\m∈au/\2<=n/\n<=24/\Q (.lst true (aA true (fv m n)))
theorem aH6(T:Txt K mg t):aN P w K mg base aP 2 t.T7 t.T8 ["field","length"] (bf (aH5 t)):=by
 refine bt T.Di.F Sm ?_ ?_
 ·intro ds Q h
  obtain⟨m,n,rfl,hm,h2,zW,q⟩:=h<;>rfl
 ·intro aE A outer s H E hr
  refine⟨_,(aC (aZ (i:=2) Sm.nd rfl (bW rfl) (fH (P:=P) (w:=w) (K:=K) (mg:=mg) (base:=base) (n:=1) (bv 0) (hr.mono (by decide)) (ag (ae ak) (ag (ae ak) aq))))
   (aF (aT (du [("less_one",2),("length",1)] ["i"] rfl (i6 rfl T.gD (ag (ae (az dR (bv 1) (ae ak))) aq)) (λ_ _ _ _=>(eT (i:=2) (show(["less_one","length","i"]:List Str).Nodup by decide +kernel))) (λ_ _ _ _=>dD) (λ_ _ _ _=>(az cC (ae (az cC (ae (az cC (ae (az fM (ae (dQ (cB ak cN))) (bv 2))) (ae (dQ (cB ak cN))))) (ae (az fM (ae (dQ (cB ak cN))) (ae (az dR (ae (az dR (bv 1) (ae ak))) (bv 2))))))) (cK9 (ag (bv 0) aq)))) rfl)))),λds Q h=>?_⟩
  obtain⟨m,n,rfl,hm,h2,zW,q⟩:=h
  have m0:=bC m hm
  have cJ:=(cq hm).lo
  obtain⟨C,ns,zs,sp,e1,e2,e3,e4⟩:=K1 (P:=P) (w:=w) (base:=base) T m0
  refine aB λU hU=>?_
  walk_at"l3"
  refine⟨C,ns,zs,sp,e1,e2,e3,e4 0 1 _ ?_⟩
  rw[(ir hm (show 0<aa m by omega) (show 1<aa m by omega)).1]
  refine hU _ ?_
  clear hU U e1 e2 e3 e4
  walk_at"l3"
  refine⟨⟨by omega,by omega⟩,eN (aD (n-1)) (λ(i:Nat)=>D.int (i:Int)) (λi=>D.lst true (aj (iN m n i))) (mJ _ (by omega)) iG (λi hi=>?_) (.inr λ_ _=>gb _) (by rw[bL,sL];omega) ?_⟩
  ·have hi:=bY.mp hi
   walk_at"l3"
   unfold iN
   have zn:∀k:Nat,aJ (aQ k (0:Int))=aj (aQ k 0):=λk=>by unfold aj;rw[oW];rfl
   rw[fV,show((n:Int)-2-(i:Int)).toNat=n-2-i by omega,zn,zn,show [D.int 1]=aj [1] from rfl,show [D.int ((bu m 0 1:Nat):Int)]=aj [bu m 0 1] from rfl,pS,pS,pS,nW,nW,dY,dY]
   simp only[dF,dG,lW]
   exact⟨by decide,⟨by omega,by omega,by omega⟩,by decide,by omega,by decide,⟨by omega,by omega,by omega⟩,⟨by omega,trivial⟩,by decide,⟨by omega,trivial⟩,trivial⟩
  ·rw[show((aD (n-1)).map λi=>D.lst true (aj (iN m n i)))=aA true (fv m n) by unfold aA fv;rw[cj];rfl]
   exact q
noncomputable abbrev Wn(t:eI):List D->List Str->List D->Prop:=λds ns xs=>∃(m:Bool × Nat) (n:Nat),ds=[fD t.aI t.aK m,.int n]/\m∈au/\2<=n/\n<=24/\ns=oA/\xs=mQ t.aI t.aK true m (fv m n)
theorem aD4(T:Txt K mg t)(hB:Bm mg base):aN P w K mg base aP 5 t.J0 t.T9 ["self","field","length"] (CD [t.je,t.jf] t.cw (Wn t)):=by
 refine T.Va.F.ok aA8 (λvs H Q E h=>?_) λaE A outer s H vs Q E hr h=>?_
 ·obtain⟨F,H0,x,dx,bX,ds,ns,xs,rfl,_,_,_,_,_,r,⟨m,n,rfl,_⟩,_⟩:=h
  have:=r.length
  simp at this
  simp[this]
 obtain⟨F,H0,x,dx,bX,ds,ns,xs,rfl,tb,e0,gI,s0,hx,r,⟨m,n,rfl,hm,h2,zW,rfl,rfl⟩,q⟩:=h
 obtain⟨g1,g2,g3⟩:=zc hm h2
 obtain⟨vf,DS,B1,B2,rfl,hB,rf,r2⟩:=R.cY r
 obtain⟨rfl,rfl⟩:=qw.mp hB.symm
 obtain rfl:DS=[.int n]:=by
  cases r2 with
  | int r=>cases r;rfl
 refine⟨_,fm (qM (PW.pt (Nq (E5 NA (pv 2) qH (bH _)) (qJ (E5 NB (pv 2) qH (bH _))))) (jo qN) qK)
  (jo (qL (HL (E:=E0) T.KL ((K2 T).mono (by decide)) hr T.Dc.b dB rfl T.zJ (cm (pv 0) (cm (pv 1) (cm (jt ((aH6 T).mono (by decide)) hr rfl T.Di.g T.Di.F.kp T.Di.b .nil dB (cm (pv 1) (cm (pv 2) fw))) fw)))))),?_⟩
 try dsimp only[kn,kq]
 refine⟨.int n,rfl,_,_,rfl,rfl,_,rfl,?_⟩
 rw[decide_eq_false (by omega)]
 refine iW ?_
 refine⟨.int n,rfl,_,_,rfl,rfl,_,rfl,?_⟩
 rw[decide_eq_false (by omega)]
 refine iW ?_
 have e:=e0.trans s0
 refine⟨.ref x,rfl,vf,rfl,vf,rfl,.int n,rfl,F,[fD t.aI t.aK m,.int n],λd=>d=.lst true (aA true (fv m n)),e,R.cons (A:=[]) (rf.shared (L3.af.refl _) s0) (.int .nil),⟨m,n,rfl,hm,h2,zW,rfl⟩,λd v F1 H1 A1 hd ff zP K3 VT r1 VU K4=>?_⟩
 subst hd
 obtain⟨pc,rfl⟩:=v9 r1
 have cM:=ff.get _ _ hx rfl
 have fR:∀X:List (List Nat),[D.lst true (aA true X)].all D.fr=true:=λX=>by rw[dy,gv,vV];rfl
 have wz:∀X:List (List Nat),[D.lst true (aA true X)].map D.sh=[D.lst false (aA false X)]:=λX=>by rw[dw,eK,e7];rfl
 have r1:=r1.q5 (fR _) zP
 have Wo:=s0.trans ff
 have xA:x ∉ A1:=λz=>by rw[K4 x z]at hx;cases hx
 have s2:L3.af H0 (L3.bx H0 H1 A1):=iE Wo
 have e2:=e0.trans s2
 have r2:R F (L3.bx H0 H1 A1) [.lst true (aA true (fv m n))] [.ref pc] A1:=R0 r1 λa ha=>by unfold L3.bx;rw[if_pos ha]
 refine⟨L3.bx F (L3.bx H0 H1 A1) A1,L3.bx H0 H1 A1,x,dx,t.cw,vf,.ref pc,m,fv m n,[],rfl,nE e2,by rw[pB xA];exact gI,nE Wo,cM,.nil,⟨T.zC,T.Dw,T.Dx,T.Dv,T.Dz,T.KD,T.Dy⟩,rf.shared (iE e2) s2,wz _ ▸ r2.bx e2 A1 λ_ h=>h,hm,by rw[g3];exact g1,by omega,by omega,λH' p1 p2 p3 B1 B2 B3 sx dj k1 k2 k3 nd fr=>?_⟩
 have z:=(ff.x (x:=x)).trans sx
 have so:=bO.of0 gI s0 z
 refine q H' [vf,.int (ai (fv m n):Nat),.ref p1,.ref p2,.ref p3,.int ((bN m (fv m n)).length:Nat)] (B1++(B2++(B3++[]))) z dj rfl ?_ ?_ ?_
 ·have up:∀{ds:List D} {vs:List V} {B:List Addr},R (λ_=>none) H' ds vs B->(∀a∈B,H1 a=none)->R F H' ds vs B:=λr h=>r.keep (L3.af.of λb o e=>by cases e) (gw.same (L3.af.refl _)) gX.nil (λa ha=>e.free (ff.free (h a ha))) (by simp)
  exact R.cons (A:=[]) (rf.shared (L3.af.refl _) so) (.int (R.cons (up k1 λa ha=>fr a (fE _ ha)) (R.cons (up k2 λa ha=>fr a (df _ (fE _ ha))) (R.cons (up k3 λa ha=>fr a (df _ (df _ ha))) (.int .nil)))))
 ·rw[gn];exact nd
 ·rw[gn]
  intro a ha
  exact ff.free (fr a ha)
noncomputable abbrev Wq:aX:=λds Q=>∃(m:Bool × Nat) (n:Nat),ds=[dZ m,.int n]/\m∈au/\2<=n/\n<=24/\Q (.lst true (aA true (fv m n)))
theorem ax4(T:Txt K mg t):aN P w K mg base aP 1 t.Ua t.Ub ["_law_told_here","_law_length"] (bf (Wq )):=by
 refine bt T.Vb.F CP ?_ ?_
 ·intro ds Q h
  obtain⟨m,n,rfl,hm,h2,zW,q⟩:=h<;>rfl
 ·intro aE A outer s H E hr
  refine⟨_,(aC (aZ (i:=2) CP.nd rfl (ay rfl) (dQ cN))
   (aC (gz eW rfl (i6 rfl T.gD (ag (ae (az dR (bv 1) (ae ak))) aq)) (jz (i:=3) CP.nd rfl (ay rfl))
    (aC (aZ (i:=4) CP.nd rfl (ay rfl) (az fM (ae (dQ (cB ak cN))) (bv 1)))
    (aC (pP (i:=4) rfl (by first | exact ay rfl | exact bW (ay rfl)) ak (bv 3))
    (aC (pP (i:=4) rfl (by first | exact ay rfl | exact bW (ay rfl)) ak (ae (az dR (bv 1) (ae ak))))
    (aC (dm (uu (jR (bF (bv 0) (ae ak) (λ_ _=>rfl)))) (aF (pP (i:=4) rfl (by first | exact ay rfl | exact bW (ay rfl)) (az dR (bF (bv 0) (ae ak) (λ_ _=>rfl)) (ae ak)) (ae (az dR (bv 1) (ae ak))))) dk)
    (aF (nQ (i:=2) rfl (by first | exact ay rfl | exact bW (ay rfl)) (em 4))))))))
   (aF (aT (em 2))))),λds Q h=>?_⟩
  obtain⟨m,n,rfl,hm,h2,zW,q⟩:=h
  have hF:=cq hm
  have cJ:=hF.lo
  have zU:=hF.hi
  refine aB λU hU=>?_
  walk_at"l3"
  refine⟨by decide,hU _ ?_⟩
  clear hU U
  refine aB λU hU=>?_
  walk_at"l3"
  refine⟨⟨by omega,by omega⟩,?_⟩
  rw[show((n:Int)-1)=((n-1:Nat):Int) by omega]
  refine yv (λi δ=>∃(o1 o2:Option D),δ=[some (dZ m),some (.int n),some (.lst true (aA true ((aD i).map (iN m n)))),o1,o2]) ⟨_,_,rfl⟩ ?_ ?_
  ·rintro i δ hi ⟨o1,o2,rfl⟩
   simp only[gN,jL,jK]
   clear hU
   have up:∀v:Nat,v=bu m 0 1->((aQ n 0).set i 1).set (n-1) v=iN m n i:=λv hv=>by
    have l1:(((aQ n 0).set i 1).set (n-1) v).length=n:=by rw[jj,jj,dG]
    refine yZ l1 (by unfold iN;simp only[dF,dG,lW];omega) λk hk=>?_
    rw[sG hi]
    unfold cf
    rw[aL,M4,M4,jj,dG,kF,if_pos hk]
    by_cases c1:k=i
    ·rw[if_neg (by omega),if_pos c1.symm,if_pos (by omega),if_pos c1];rfl
    ·by_cases c2:k=n-1
     ·rw[if_pos c2.symm,if_pos (by omega),if_neg c1,if_pos c2,hv];rfl
     ·rw[if_neg (λz=>c2 z.symm),if_neg (λz=>c1 z.symm),if_neg c1,if_neg c2];rfl
   refine aB λU hU=>?_
   walk_at"l3"
   refine⟨by decide,⟨by omega,by omega,by omega⟩,hU _ ?_⟩
   clear hU
   rw[fV]
   refine aB λU hU=>?_
   walk_at"l3"
   refine⟨_,i,rfl,vT (by omega) (by rw[k7,dG];omega),hU _ ?_⟩
   clear hU
   refine aB λU hU=>?_
   walk_at"l3"
   have ix:∀v:Nat,iU (aj (((aQ n 0).set i 1).set (n-1) v)).length ((n:Int)-1)=some (n-1):=λv=>by
    rw[show((n:Int)-1)=((n-1:Nat):Int) by omega]
    exact vT (by omega) (by rw[dY,jj,jj,dG];omega)
   rw[show(aJ (aQ n 0)).set i (D.int 1)=aj ((aQ n 0).set i 1) by
    rw[cH];unfold aJ;rw[tR,oW,oW];rfl]
   refine⟨_,n-1,rfl,by rw[<-ix 0,dY,dY,jj (i:=n-1)],hU _ ?_⟩
   rw[show(aj ((aQ n 0).set i 1)).set (n-1) (D.int 1)=aj (((aQ n 0).set i 1).set (n-1) 1) by rw[cH,cH,tR (i:=n-1)];rfl]
   clear hU
   rw[show dZ m=D.tup [.bl m.1,.int (m.2:Nat)] from rfl]
   refine aB λU hU=>?_
   walk_at"l3"
   have fin:∀v:Nat,v=bu m 0 1->U [some (D.tup [.bl m.1,.int (m.2:Nat)]),some (D.int n),some (D.lst true (aA true ((aD i).map (iN m n)))),some (D.int i),some (D.lst true (aj (((aQ n 0).set i 1).set (n-1) v)))]:=λv hv=>by
    rw[up v hv]
    refine hU _ ?_
    walk_at"l3"
    refine⟨⟨_,rfl⟩,by rw[bw,bL];omega,_,_,?_,rfl,rfl⟩
    rw[Av,fh]
    exact sC true _ [iN m n i]
   refine⟨_,rfl,_,rfl,?_⟩
   cases e:m.1 with
   | true =>
    rw[if_neg (by decide)]
    rw[e]at fin
    exact fin 1 (by unfold bu gl;rw[e];rfl)
   | false =>
    have e2:aa m=m.2:=by unfold aa;rw[e];rfl
    rw[if_pos (by decide)]
    refine⟨_,rfl,?_⟩
    dsimp only
    refine⟨_,n-1,rfl,ix 1,?_⟩
    rw[show(aj (((aQ n 0).set i 1).set (n-1) 1)).set (n-1) (D.int ((m.2:Nat)-1:Int))=aj (((aQ n 0).set i 1).set (n-1) (m.2-1)) by
     rw[cH,cH,tR (i:=n-1),tR (i:=n-1),Eu,show((m.2-1:Nat):Int)=(m.2:Int)-1 by omega]]
    rw[e]at fin
    refine fin (m.2-1) ?_
    unfold bu gl
    rw[e,if_neg (by decide),show(((0:Nat):Int)-((1:Nat):Int))=((m.2:Int)-1)+(m.2:Int)*(-1) by omega,Int.add_mul_emod_self_left,Ar (by omega) (by omega)]
    omega
  ·rintro δ ⟨o1,o2,rfl⟩
   refine hU _ ?_
   walk_at"l3"
   exact q
theorem DT{m:Bool × Nat}(hm:m∈au){G:List (List Nat)}(hR:RT (aa m) (ai G) G)(h:G.length<ai G)(hw:ai G<=64):eo m G:=by
 refine⟨hm,hR,by omega,hw,?_⟩
 obtain⟨⟨H,I⟩,iR,_⟩:=mN hm hR
 have f:=I.Hv hm iR
 have r:=ct5 hm hR hR λi hi=>by
  rw[aL,aO hi]
  exact cS.of (dz hi)
 unfold bN
 omega
theorem cP0{m:Bool × Nat}(hm:m∈au){G:List (List Nat)}(hR:RT (aa m) (ai G) G)(h:G.length<ai G):∃Fb,jF m G=some Fb:=by
 cases e:jF m G with
 | some Fb=>exact⟨Fb,rfl⟩
 | none=>exact absurd (RM hm (by omega) hR e (aD (ai G)) (HF (bK _))) (HG hm hR (by rw[bL];exact h))
noncomputable abbrev aP3(t:eI):aX:=λds Q=>∃(m:Bool × Nat) (ns:List Int),ds=[.fz (aJ ns),dZ m]/\m∈au/\∀(G:List (List Nat)) (k:Kd),eo m G->1<=G.length->2<=ai G->ai G<=15->KdA m G k->Q (.tup [gj t m G k,.lst true (aA true G),.int (oF G k:Nat)])
theorem aP4(T:Txt K mg t)(hB:Bm mg base):aN P w K mg base aP 11 t.Uc t.Ud ["_law_script","_law_told_here"] (vD [t.je,t.jf] (bf (aP3 t))):=by
 refine GQ T.Dj.F jG ?_ ?_
 ·intro ds Q h
  obtain⟨m,ns,rfl,hm,q⟩:=h<;>rfl
 ·intro aE A outer s H E hT hr
  refine⟨_,(aC (aZ (i:=2) jG.nd rfl (ay rfl) (bA T.zo (DK T) hr (ag (bv 1) aq)))
   (aC (aZ (i:=3) jG.nd rfl (ay rfl) (P6 hT ((aM3 T hB).mono (by decide)) hr rfl T.C6.g T.C6.F.kp T.C6.b dB (ag (bv 1) aq)))
   (aC (aZ (i:=4) jG.nd rfl (ay rfl) (bA T.j5 (kE T) hr (ag (bv 0) (ag (ae ak) aq))))
   (aC (aZ (i:=5) jG.nd rfl (ay rfl) (az cC (ae ak) (ae (az dE (ae (bA T.j5 (kE T) hr (ag (bv 0) (ag (ae ak) aq)))) (ae ak)))))
   (aC (aZ (i:=6) jG.nd rfl (ay rfl) (az cC (ae ak) (ae (az dE (ae (bA T.j5 (kE T) hr (ag (bv 0) (ag (ae ak) aq)))) (ae (cK (xV rfl) (by rfl) T.zI xB (ag (ae ak) (ag (ae (az dR (bv 5) (ae ak))) aq))))))))
   (aC (dm (b9 (gJ (cW hr)) (ae (az dE (bv 4) (ae ak))) (ae ak) (bH _)) (aC (aZ (i:=7) jG.nd rfl (ay rfl) (bA T.UX (aC9 T) hr (ag (bv 2) (ag (bv 5) (ag (bv 6) (ag (ae (bA T.j5 (kE T) hr (ag (bv 0) (ag (ae ak) aq)))) (ag (ae (rh (gJ (cW hr)) (ae (az dE (ae (az rD (bv 4) (ae ak))) (ae ak))) (ae ak) (bH _))) aq)))))))
    (aC (aZ (i:=8) jG.nd rfl (ay rfl) (CF hT T.Dm ((Wb T hB).mono (by decide)) hr rfl T.DG T.Kh.b dB (ag (bv 3) (ag (RX (du [] ["_law_row"] rfl (ie (bv 7)) (λ_ _ _ _=>(eT (i:=0) (show(["_law_row"]:List Str).Nodup by decide +kernel))) (λ_ _ _ _=>dD) (λ_ _ _ _=>(xT (xU) (by rfl) T.zH xC (ag (bv 0) aq))) rfl)) aq))))
    (aF (aT (nH (cB (da (bv 8)) (cB (em 7) (cB (B9 (P:=P) (w:=w) (K:=K) (mg:=mg) (base:=base) (n:=1) (bv 8) (hr.mono (by decide))) cN)))))))) dk)
   (aC (dm (PW.pt (nG (b9 (gJ (cW hr)) (ae (az dE (bv 4) (ae ak))) (ae ak) (bH _)) (qJ (b9 (gJ (cW hr)) (bv 2) (ae ak) (bH _))))) (aF (aT (nH (cB (CF hT T.KC ((aD4 T hB).mono (by decide)) hr rfl T.KP T.Va.b dB (ag (bv 3) (ag (ae (az cC (bv 5) (ae ak))) aq))) (cB (bA T.Vb (ax4 T) hr (ag (bv 1) (ag (ae (az cC (bv 5) (ae ak))) aq))) (cB (az cC (bv 5) (ae ak)) cN)))))) dk)
   (aC (aZ (i:=9) jG.nd rfl (ay rfl) (az dE (ae (bA T.j5 (kE T) hr (ag (bv 0) (ag (ae ak) aq)))) (ae (az dR (bv 2) (ae ak)))))
   (aC (dm (b9 (gJ (cW hr)) (ae (az dE (bv 4) (ae ak))) (ae ak) (bH _)) (aC (aZ (i:=5) jG.nd rfl (ay rfl) (cK (xV rfl) (by rfl) T.zI xB (ag (bv 5) (ag (ae (az dR (bv 2) (ae ak))) aq))))
    (aC (aZ (i:=6) jG.nd rfl (ay rfl) (cK (xV rfl) (by rfl) T.zI xB (ag (bv 6) (ag (ae (az dR (bv 5) (ae ak))) aq))))
    (aC (aZ (i:=7) jG.nd rfl (ay rfl) (bA T.Kj (Wh T) hr (ag (bv 1) (ag (bv 5) (ag (bv 6) (ag (bv 9) aq))))))
    (aF (aT (nH (cB (CF hT T.Dm ((Wb T hB).mono (by decide)) hr rfl T.DG T.Kh.b dB (ag (bv 3) (ag (RX (du [] ["_law_row"] rfl (ie (bv 7)) (λ_ _ _ _=>(eT (i:=0) (show(["_law_row"]:List Str).Nodup by decide +kernel))) (λ_ _ _ _=>dD) (λ_ _ _ _=>(xT (xU) (by rfl) T.zH xC (ag (bv 0) aq))) rfl)) aq))) (cB (em 7) (cB (az cC (bv 6) (ae ak)) cN))))))))) dk)
   (aC (aZ (i:=5) jG.nd rfl (ay rfl) (az cC (ae ak) (ae (az dE (ae (bA T.j5 (kE T) hr (ag (bv 0) (ag (ae ak) aq)))) (ae (cK (xV rfl) (by rfl) T.zI xB (ag (ae ak) (ag (ae (az dR (bv 2) (ae ak))) aq))))))))
   (aC (aZ (i:=6) jG.nd rfl (ay rfl) (az cC (ae ak) (ae (az dE (ae (bA T.j5 (kE T) hr (ag (bv 0) (ag (ae ak) aq)))) (ae (cK (xV rfl) (by rfl) T.zI xB (ag (ae ak) (ag (ae (az dR (bv 5) (ae ak))) aq))))))))
   (aF (aT (nH (cB (CF hT T.KH ((aH4 T hB).mono (by decide)) hr rfl T.DI T.dx2 dB (ag (bv 3) (ag (bv 5) (ag (bv 6) (ag (bv 9) aq))))) (cB (bA T.Kj (Wh T) hr (ag (bv 1) (ag (bv 5) (ag (bv 6) (ag (bv 9) aq))))) (cB (az cC (bv 6) (ae ak)) cN))))))))))))))))),λds Q h=>?_⟩
  obtain⟨m,ns,rfl,hm,q⟩:=h
  have hF:=cq hm
  have cJ:=hF.lo
  have zU:=hF.hi
  have Wf:=GZ m hm
  refine aB λU hU=>?_
  walk_at"l3"
  refine⟨m,rfl,by omega,by omega,hU _ ?_⟩
  clear hU U
  refine aB λU hU=>?_
  walk_at"l3"
  refine⟨m,rfl,hm,hU _ ?_⟩
  clear hU U
  refine aB λU hU=>?_
  walk_at"l3"
  refine⟨ns,1,rfl,by decide,hU _ ?_⟩
  clear hU U
  generalize ns.getD (fi 1) 0=kd
  refine aB λU hU=>?_
  walk_at"l3"
  refine⟨ns,2,rfl,by decide,by decide,?_⟩
  obtain⟨n,en,t9,hn6⟩:∃k:Nat,2+ns.getD (fi 2) 0%5=k/\2<=k/\k<=6:=⟨(2+ns.getD (fi 2) 0%5).toNat,by omega,by omega,by omega⟩
  rw[en]
  refine hU _ ?_
  clear hU U en
  refine aB λU hU=>?_
  walk_at"l3"
  refine⟨ns,3,rfl,by decide,?_⟩
  dsimp only
  obtain⟨M,eM,M0,M1,M3⟩:∃M:Int,(if(n:Int)-1<3 then(n:Int)-1 else 3)=M/\0<M/\M<=(n:Int)-1/\M<=3:=⟨_,rfl,by split<;>omega,by split<;>omega,by split<;>omega⟩
  rw[eM]
  refine⟨M0,?_⟩
  obtain⟨e,ee,K3,hen,he3⟩:∃k:Nat,1+ns.getD (fi 3) 0%M=k/\1<=k/\k+1<=n/\k<=3:=by
   have n0:=gT (ns.getD (fi 3) 0) (show M≠0 by omega)
   have n1:=hV (ns.getD (fi 3) 0) M0
   exact⟨(1+ns.getD (fi 3) 0%M).toNat,by omega,by omega,by omega,by omega⟩
  rw[ee]
  refine hU _ ?_
  clear hU U ee eM M0 M1 M3 M
  refine aB λU hU=>?_
  walk_at"l3"
  refine⟨by decide,?_⟩
  split
  ·clear hU
   refine aB λU hU=>?_
   walk_at"l3"
   refine⟨ns,4,rfl,by decide,rC (by decide) (by decide),by decide,aa m,n,e,_,_,rfl,by omega,by omega,by omega,by omega,λG lG hG=>⟨rfl,hU _ ?_⟩⟩
   clear hU U
   have wG:ai G=n:=y8 hG λz=>by rw[z]at lG;exact absurd lG (by show ¬ 0=e;omega)
   rw[<-wG]at hG t9 hn6 hen
   refine aB λU hU=>?_
   walk_at"l3"
   refine eN G (λr=>D.lst false (aj r)) (λr=>D.lst true (aj r)) (by rw[e7];rfl) (λa b h=>mK a b h) (λr bj=>?_) (.inr λr _=>gb r) (by rw[sL];omega) ?_
   ·walk_at"l3"
   obtain⟨Fb,eF⟩:=cP0 hm hG (by omega)
   rw[show((D.lst true (tK (λr=>D.lst true (aj r)) G)).sh)=D.lst false (aA false G) from by rw[eK];exact congrArg _ (e7 true G)]
   have cG:=DT hm hG (by omega) (by omega)
   refine⟨by rw[gu,p8];rfl,_,_,⟨m,G,Fb,rfl,cG,by omega,by omega,by omega,by omega,eF,rfl,rfl⟩,?_⟩
   rw[fh,CH]
   show U [some (D.fz (aJ ns)),some (dZ m),some (D.int (aa m)),some (fD t.aI t.aK m),some (D.int kd),some (D.int n),some (D.int e),some (D.lst true (aA true G)),some (gj t m G (.oB Fb.length)),none]
   refine hU _ ?_
   clear hU U
   walk_at"l3"
   exact⟨rfl,_,_,_,Lk t,rfl,⟨T.qk,_,_,_,T.Vt,Wk T,T.Kk.b⟩,by decide,m,G,_,rfl,by decide,q G (.oB Fb.length) cG (by omega) (by omega) (by omega) ⟨R6 hm hG λS hS hl=>(HE hm (by omega) hG eF).2.2.2 S hS (.inl hl),(HE hm (by omega) hG eF).2.1,λ_ _ z=>nomatch z⟩⟩
  refine hU _ ?_
  clear hU U
  refine aB λU hU=>?_
  walk_at"l3"
  refine⟨by decide,?_⟩
  have rp:∃ns xs,Wn t [fD t.aI t.aK m,D.int ((n:Int)+1)] ns xs/\Wq [dZ m,D.int ((n:Int)+1)] λd=>0+1+1+1<=16777216/\Q (D.tup [D.obj t.cw ns (tK D.sh xs),d,D.int ((n:Int)+1)]):=by
   refine⟨_,_,⟨m,n+1,rfl,hm,by omega,by omega,rfl,rfl⟩,m,n+1,rfl,hm,by omega,by omega,by decide,?_⟩
   obtain⟨r1,r2,r3⟩:=zc hm (show 2<=n+1 by omega)
   rw[CH]
   have:=q (fv m (n+1)) .rep (DT hm (by rw[r3];exact r1) (by omega) (by omega)) (by omega) (by omega) (by omega) ⟨by show qg m (fv m (n+1)) (ai (fv m (n+1)));rw[r3];exact cp1 hm (by omega),by show 1<=ai (fv m (n+1));omega,λ_ _ z=>nomatch z⟩
   rw[show oF (fv m (n+1)) .rep=n+1 from r3]at this
   exact this
  split
  ·exact rp
  split
  ·exact rp
  refine hU _ ?_
  clear hU U rp
  rename_i QM
  have hM3:3<=aa m:=by omega
  refine aB λU hU=>?_
  walk_at"l3"
  refine⟨ns,4,rfl,by decide,?_⟩
  dsimp only
  obtain⟨f,ef,hf⟩:∃f:Nat,ns.getD (fi 4) 0%((aa m:Int)-1)=f/\f+2<=aa m:=by
   have n0:=gT (ns.getD (fi 4) 0) (show(aa m:Int)-1≠0 by omega)
   have n1:=hV (ns.getD (fi 4) 0) (show 0<(aa m:Int)-1 by omega)
   exact⟨(ns.getD (fi 4) 0%((aa m:Int)-1)).toNat,by omega,by omega⟩
  rw[ef]
  refine⟨by omega,hU _ ?_⟩
  clear hU U ef
  refine aB λU hU=>?_
  walk_at"l3"
  refine⟨by decide,?_⟩
  split
  ·clear hU
   refine aB λU hU=>?_
   walk_at"l3"
   obtain⟨n',en,dL6,hnM⟩:∃k:Nat,(if(aa m:Int)-1<n then(aa m:Int)-1 else n)=k/\2<=k/\k<=6/\k+1<=aa m:=⟨(if(aa m:Int)-1<n then(aa m:Int)-1 else n).toNat,by split<;>omega,by split<;>omega,by split<;>omega,by split<;>omega⟩
   rw[en]
   refine hU _ ?_
   clear hU U en
   refine aB λU hU=>?_
   walk_at"l3"
   obtain⟨e',ee,dL8,dL9⟩:∃k:Nat,(if(n':Int)-1<e then(n':Int)-1 else e)=k/\1<=k/\k+1<=n':=⟨(if(n':Int)-1<e then(n':Int)-1 else e).toNat,by split<;>omega,by split<;>omega,by split<;>omega⟩
   rw[ee]
   refine hU _ ?_
   clear hU U ee
   refine aB λU hU=>?_
   walk_at"l3"
   refine⟨m,n',e',f,rfl,hm,by omega,by omega,by omega,hU _ ?_⟩
   clear hU U
   obtain⟨g1,g2,g3⟩:=CJ hm f n' (show 1<=e' by omega)
   have g4:RT (aa m) (ai (dM m f (aD n') e')) (dM m f (aD n') e'):=by rw[g3];exact g1
   have eF:jF m (dM m f (aD n') e')=some (aD (e'+1)):=by rw[(HP hm (f:=f) (e:=e') (by omega)).first hm (by omega) g3,if_pos (by omega)]
   have cG:=DT hm g4 (by omega) (by omega)
   have aG:=HQ hm (f:=f) (e:=e') (n:=n') (by omega) g3
   generalize dM m f (aD n') e'=G at *
   walk_at"l3"
   refine eN G (λr=>D.lst false (aj r)) (λr=>D.lst true (aj r)) (by rw[e7];rfl) (λa b h=>mK a b h) (λr bj=>?_) (.inr λr _=>gb r) (by rw[sL];omega) ?_
   ·walk_at"l3"
   rw[show((D.lst true (tK (λr=>D.lst true (aj r)) G)).sh)=D.lst false (aA false G) from by rw[eK];exact congrArg _ (e7 true G)]
   refine⟨by rw[gu,p8];rfl,_,_,⟨m,G,aD (e'+1),rfl,cG,by omega,by omega,by omega,by omega,eF,rfl,rfl⟩,?_⟩
   dsimp only[qC,qB]
   rw[fh,CH]
   have:=q G (.oB (aD (e'+1)).length) cG (by omega) (by omega) (by omega) ⟨by show qg m G (aD (e'+1)).length;rw[bL];exact aG,by show 1<=(aD (e'+1)).length;rw[bL];omega,λ_ _ z=>nomatch z⟩
   rw[show oF G (.oB (aD (e'+1)).length)=e'+1 from bL]at this
   exact⟨by decide,this⟩
  refine hU _ ?_
  clear hU U
  refine aB λU hU=>?_
  walk_at"l3"
  refine⟨ns,2,rfl,by decide,?_⟩
  dsimp only
  obtain⟨M,eM,M0,M1,M3⟩:∃M:Int,(if(aa m:Int)-2<14 then(aa m:Int)-2 else 14)=M/\0<M/\M<=(aa m:Int)-2/\M<=14:=⟨_,rfl,by split<;>omega,by split<;>omega,by split<;>omega⟩
  rw[eM]
  refine⟨M0,?_⟩
  obtain⟨n',en,dL6,em3,hnM⟩:∃k:Nat,2+ns.getD (fi 2) 0%M=k/\2<=k/\k<=15/\k+1<=aa m:=by
   have n0:=gT (ns.getD (fi 2) 0) (show M≠0 by omega)
   have n1:=hV (ns.getD (fi 2) 0) M0
   exact⟨(2+ns.getD (fi 2) 0%M).toNat,by omega,by omega,by omega,by omega⟩
  rw[en]
  refine hU _ ?_
  clear hU U en eM M0 M1 M3 M
  refine aB λU hU=>?_
  walk_at"l3"
  refine⟨ns,3,rfl,by decide,?_⟩
  dsimp only
  obtain⟨M,eM,M0,M1⟩:∃M:Int,(if(n':Int)-1<6 then(n':Int)-1 else 6)=M/\0<M/\M<=(n':Int)-1:=⟨_,rfl,by split<;>omega,by split<;>omega⟩
  rw[eM]
  refine⟨M0,?_⟩
  obtain⟨e',ee,dL8,dL9⟩:∃k:Nat,1+ns.getD (fi 3) 0%M=k/\1<=k/\k+1<=n':=by
   have n0:=gT (ns.getD (fi 3) 0) (show M≠0 by omega)
   have n1:=hV (ns.getD (fi 3) 0) M0
   exact⟨(1+ns.getD (fi 3) 0%M).toNat,by omega,by omega,by omega⟩
  rw[ee]
  refine hU _ ?_
  clear hU U ee eM M0 M1 M
  walk_at"l3"
  refine⟨_,_,⟨m,n',e',f,rfl,hm,by omega,by omega,by omega,by omega,by omega,rfl,rfl⟩,m,n',e',f,rfl,hm,by omega,by omega,by omega,by decide,?_⟩
  rw[fh,CH]
  obtain⟨g1,g2,g3⟩:=CJ hm f n' (show 1<=e' by omega)
  exact q (dM m f (aD n') e') (.lJ e' f) (DT hm (by rw[g3];exact g1) (by omega) (by omega)) (by omega) (by omega) (by omega) ⟨HQ hm (by omega) g3,by show 1<=e'+1;omega,λ_ _ z=>by cases z;rw[g3];exact⟨rfl,by omega,by omega,by omega,by omega⟩⟩
noncomputable abbrev aJ7:aX:=λds Q=>∃(ns:List Int) (a s M:Nat),ds=[.fz (aJ ns),.int a,.int s,.int M]/\1<=a/\a<=1000/\s<=64/\1<=M/\∀l:List Nat,l.length=s->AllLt M l->Q (.lst true (aj l))
theorem Wr(T:Txt K mg t):aN P w K mg base aP 2 t.Ue t.Ug ["_law_script","_law_at","_law_size","_law_many_here"] (bf (aJ7 )):=by
 refine bt T.Kl.F aI5 ?_ ?_
 ·intro ds Q h
  obtain⟨ns,a,s,M,rfl,ha,ha2,hs,hM,q⟩:=h<;>rfl
 ·intro aE A outer s H E hr
  refine⟨_,(aF (aT (du [("_law_many_here",3),("_law_script",0),("_law_at",1)] ["_law_j"] rfl (i6 rfl T.gD (ag (bv 2) aq)) (λ_ _ _ _=>(eT (i:=3) (show(["_law_many_here","_law_script","_law_at","_law_j"]:List Str).Nodup by decide +kernel))) (λ_ _ _ _=>dD) (λ_ _ _ _=>(az dE (ae (az cC (ae (bA T.j5 (kE T) hr (ag (bv 1) (ag (ae (az cC (bv 2) (bv 3))) aq)))) (ae (bA T.C7 (KW T) hr (ag (ae (bA T.j5 (kE T) hr (ag (bv 1) (ag (ae (az dR (bv 2) (ae ak))) aq)))) (ag (bv 3) aq)))))) (bv 0))) rfl))),λds Q h=>?_⟩
  obtain⟨ns,a,s,M,rfl,ha,ha2,hs,hM,q⟩:=h
  have KY:∀z:Int,z%(M:Int)=(((z%(M:Int)).toNat:Nat):Int):=λz=>by
   have n0:=gT z (show(M:Int)≠0 by omega)
   omega
  have KZ:∀z:Int,(z%(M:Int)).toNat<M:=λz=>by
   have n1:=hV z (show(0:Int)<(M:Int) by omega)
   omega
  walk_at"l3"
  refine⟨⟨by omega,by omega⟩,eN (aD s) (λ(i:Nat)=>D.int (i:Int)) (λk=>D.int ((((ns.getD (((a:Int)+(k:Int)).toNat) 0+lQ (ns.getD ((a:Int)-1).toNat 0) (k:Int))%(M:Int)).toNat:Nat):Int)) (mJ _ rfl) iG (λk hk=>?_) (.inr λ_ _=>rfl) (by rw[bL,sL];omega) ?_⟩
  ·have hk:=bY.mp hk
   walk_at"l3"
   refine⟨ns,_,rfl,by omega,ns,_,rfl,by omega,_,_,rfl,by omega,by omega,?_⟩
   dsimp only
   exact⟨rfl,by omega,KY _⟩
  ·obtain⟨row,er,sR,sS⟩:∃wd:List Nat,((aD s).map λ(k:Nat)=>D.int ((((ns.getD (((a:Int)+(k:Int)).toNat) 0+lQ (ns.getD ((a:Int)-1).toNat 0) (k:Int))%(M:Int)).toNat:Nat):Int))=aj wd/\AllLt M wd/\wd.length=s:=by
    refine⟨(aD s).map λ(k:Nat)=>((ns.getD (((a:Int)+(k:Int)).toNat) 0+lQ (ns.getD ((a:Int)-1).toNat 0) (k:Int))%(M:Int)).toNat,by rw[cH,cj];rfl,λa ha=>?_,by simp⟩
    obtain⟨k,_,rfl⟩:=bB.mp ha
    exact KZ _
   rw[er]
   exact q _ sS sR
noncomputable abbrev aL1:aX:=λds Q=>∃(ns:List Int) (l:List Nat) (M:Nat),ds=[.fz (aJ ns),.lst false (aj l),.int M]/\1<=l.length/\l.length<=64/\1<=M/\AllLt M l/\∀c:List Nat,c.length=l.length->AllLt M c->Q (.lst true (aj c))
theorem aL2(T:Txt K mg t):aN P w K mg base aP 3 t.Uh t.Ui ["_law_script","_law_first","_law_many_here"] (bf (aL1 )):=by
 refine bt T.Vc.F Jl ?_ ?_
 ·intro ds Q h
  obtain⟨ns,l,M,rfl,l1,lR,hM,al,q⟩:=h<;>rfl
 ·intro aE A outer s H E hr
  refine⟨_,(aC (dm (b9 (ij (cW hr)) (ae (az dE (ae (az rD (ae (bA T.j5 (kE T) hr (ag (bv 0) (ag (ae ak) aq)))) (ae ak))) (ae ak))) (ae ak) (bH _)) (aF (aT (bA T.Kl (Wr T) hr (ag (bv 0) (ag (ae (az cC (ae ak) (ae (cK (eY) (by rfl) T.eV eJ (ag (bv 1) aq))))) (ag (ae (cK (eY) (by rfl) T.eV eJ (ag (bv 1) aq))) (ag (bv 2) aq))))))) dk)
   (aC (aZ (i:=3) Jl.nd rfl (ay rfl) (az fM (ae (dQ (cB ak cN))) (ae (cK (eY) (by rfl) T.eV eJ (ag (bv 1) aq)))))
   (aC (aZ (i:=4) Jl.nd rfl (ay rfl) (az dE (ae (bA T.j5 (kE T) hr (ag (bv 0) (ag (ae ak) aq)))) (ae (cK (eY) (by rfl) T.eV eJ (ag (bv 1) aq)))))
   (aC (pP (i:=3) rfl (by first | exact ay rfl | exact bW (ay rfl)) (da (bF (bv 1) (bv 4) (λ_ _=>rfl))) (bv 4))
   (aF (aT (em 3))))))),λds Q h=>?_⟩
  obtain⟨ns,l,M,rfl,l1,lR,hM,al,q⟩:=h
  refine aB λU hU=>?_
  walk_at"l3"
  refine⟨ns,1,rfl,by decide,rC (by decide) (by decide),by decide,?_⟩
  by_cases c:ns.getD (fi 1) 0/10%4=0
  ·rw[decide_eq_true c,if_neg (by decide)]
   refine hU _ ?_
   clear hU U
   refine aB λU hU=>?_
   walk_at"l3"
   refine⟨by decide,⟨by omega,by omega,by omega⟩,?_⟩
   rw[fV,show aJ (aQ l.length (0:Int))=aj (aQ l.length 0) by rw[cH];unfold aJ;rw[oW,oW];rfl]
   refine hU _ ?_
   clear hU U
   obtain⟨a,ea,ha⟩:∃a:Nat,ns.getD (fi 5) 0%(l.length:Int)=a/\a<l.length:=by
    have n0:=gT (ns.getD (fi 5) 0) (show(l.length:Int)≠0 by omega)
    have n1:=hV (ns.getD (fi 5) 0) (show 0<(l.length:Int) by omega)
    exact⟨_,(tP n0).symm,by omega⟩
   refine aB λU hU=>?_
   walk_at"l3"
   refine⟨ns,5,rfl,by decide,by omega,?_⟩
   rw[ea]
   refine hU _ ?_
   clear hU U
   refine aB λU hU=>?_
   walk_at"l3"
   refine⟨_,ku (by omega) (by rw[fV];omega),?_⟩
   refine⟨rfl,_,a,rfl,vT (by omega) (by rw[dY,dG,fV];exact ha),?_⟩
   rw[fV,show(aj (aQ l.length 0)).set a (D.int ((l.getD a 0:Nat):Int))=aj ((aQ l.length 0).set a (l.getD a 0)) by rw[cH,cH,tR]]
   refine hU _ ?_
   walk_at"l3"
   refine q _ (by rw[jj,dG]) λx hx=>?_
   rcases Aq hx with h | h
   ·rw[(m4.mp h).2];omega
   ·rw[h];exact al.getD (by omega) a
  ·rw[decide_eq_false c,if_pos (by decide)]
   exact⟨ns,8+l.length,l.length,M,by rw[tO];rfl,by omega,by omega,by omega,hM,q⟩
noncomputable abbrev aH7:aX:=λds Q=>∃(o:Bool) (xs:List D),ds=[.lst false xs,.int (xs.length:Nat)]/\Q .ax
theorem aH8(T:Txt K mg t):aN P w K mg base aP 1 t.Uj t.Uk ["signs","length"] (bf (aH7 )):=by
 refine bt T.Vd.F aG8 ?_ ?_
 ·intro ds Q h
  obtain⟨o,xs,rfl,q⟩:=h<;>rfl
 ·intro aE A outer s H E hr
  refine⟨_,(aF (dm (b9 (ij (cW hr)) (ae (cK (eY) (by rfl) T.eV eJ (ag (bv 0) aq))) (bv 1) (bH _)) (aF Bv) dk)),λds Q h=>?_⟩
  obtain⟨o,xs,rfl,q⟩:=h
  walk_at"l3"
  rw[if_neg (by decide)]
  exact q
noncomputable abbrev aF2(t:eI):aX:=λds Q=>∃(m:Bool × Nat) (l:List Nat),ds=[fD t.aI t.aK m,.lst false (aj l)]/\m∈au/\AllLt (aa m) l/\l.length<=64/\Q .ax
theorem aF3(T:Txt K mg t):aN P w K mg base aP 2 t.Ul t.Um ["field","signs"] (bf (aF2 t)):=by
 refine bt T.Ve.F Sn ?_ ?_
 ·intro ds Q h
  obtain⟨m,l,rfl,hm,hl,zS,q⟩:=h<;>rfl
 ·intro aE A outer s H E hr
  refine⟨_,(aF (gz eW rfl (nV rfl T.oK (ag (bv 1) aq)) (mH (i1:=2) (i2:=3) rfl Sn.nd rfl (ay rfl) rfl (ay rfl))
    (aF (dm (uu (jR (ae (fH (P:=P) (w:=w) (K:=K) (mg:=mg) (base:=base) (n:=1) (bv 0) (hr.mono (by decide)) (ag (bv 3) aq))))) (aF Bv) dk)))),λds Q h=>?_⟩
  obtain⟨m,l,rfl,hm,hl,zS,q⟩:=h
  walk_at"l3"
  refine gy.mk (λj δ=>∃o1 o2,δ=[some (fD t.aI t.aK m),some (D.lst false (aj l)),o1,o2]) ⟨_,_,rfl⟩ ?_ ?_
  ·rintro j d δ hd ⟨o1,o2,rfl⟩
   obtain⟨h1,rfl⟩:=G9 hd
   have:=hl _ (dz h1)
   walk_at"l3"
   refine K8 T m (.inl ⟨_,rfl,?_⟩)
   rw[decide_eq_true (by omega),decide_eq_true (by omega)]
   exact⟨true,rfl,by rw[if_neg (by decide)];exact⟨_,_,rfl,rfl⟩⟩
  ·rintro δ ⟨o1,o2,rfl⟩
   exact q
noncomputable abbrev Ws(K:Frag):aX:=λds Q=>∃(C:Addr) (p:Nat) (xs ys:List Nat),ds=[sj C p,.lst false (aj xs),.lst false (aj ys)]/\cQ K C/\bq K C "products"/\p∈gZ/\xs.length=ys.length/\xs.length<=64/\(∀x∈xs,x<aa (true,p))/\(∀y∈ys,y<aa (true,p))/\Q (.int ((cO (gm (true,p)) xs ys).foldl (· ^^^ ·) 0:Nat))
theorem aJ8(T:Txt K mg t):aN P w K mg base aP 1 t.J1 t.Uo ["self","xs","ys"] (bf (Ws K)):=by
 refine bt T.Vf.F zh ?_ ?_
 ·intro ds Q h
  obtain⟨C,p,xs,ys,rfl,hC,hn,hp,hl,mT,hx,hy,q⟩:=h<;>rfl
 ·intro aE A outer s H E hr
  refine⟨_,(aC (aZ (i:=3) zh.nd rfl (ay rfl) (da (cZ (K:=K) (bv 0))))
   (aC (aZ (i:=4) zh.nd rfl (ay rfl) ak)
   (aC (gz eW rfl (vy rfl T.wt (ag (bv 1) (ag (bv 2) aq))) (mH (i1:=5) (i2:=6) rfl zh.nd rfl (ay rfl) rfl (ay rfl))
    (aF (uH (i:=4) zh.nd rfl (ay rfl) (bF (bF (bv 3) (bv 5) (λ_ _=>rfl)) (bv 6) (λ_ _=>rfl)) BE)))
   (aF (aT (em 4)))))),λds Q h=>?_⟩
  obtain⟨C,p,xs,ys,rfl,hC,hn,hp,hl,mT,hx,hy,q⟩:=h
  refine aB λU hU=>?_
  walk_at"l3"
  refine⟨C,_,_,_,rfl,hC,hn,rfl,by rw[gu,bY1];rfl,hU _ ?_⟩
  clear hU U
  refine aB λU hU=>?_
  walk_at"l3"
  refine hU _ ?_
  clear hU U
  refine aB λU hU=>?_
  walk_at"l3"
  refine⟨_,_,rfl,rfl,?_⟩
  refine gy.mk (λi δ=>∃o1 o2,δ=[some (sj C p),some (.lst false (aj xs)),some (.lst false (aj ys)),some (.lst false (n8 (fl (true,p)) (eZ (fl (true,p))))),some (.int (((cO (gm (true,p)) xs ys).take i).foldl (· ^^^ ·) 0:Nat)),o1,o2]) ⟨none,none,rfl⟩ ?_ ?_
  ·rintro i d δ hd ⟨o1,o2,rfl⟩
   obtain⟨hi,hj,rfl⟩:∃(hi:i<xs.length) (hj:i<ys.length),d=.tup [.int (xs[i]:Nat),.int (ys[i]:Nat)]:=by
    unfold fP at hd
    rw[cH,cH,MV]at hd
    by_cases hi:i<xs.length
    ·have hj:i<ys.length:=by omega
     rw[tS,aO hi,aO hj]at hd
     exact⟨hi,hj,(de hd).symm⟩
    ·rw[hJ (by simp;omega)]at hd;cases hd
   have cM:=hx xs[i] (dz _)
   have Li:=hy ys[i] (dz _)
   walk_at"l3"
   refine⟨_,B8 hp cM,_,B7 hp cM Li,_,_,?_,rfl,rfl⟩
   rw[mm,List.take_succ,EC,tS,aO hi,aO hj];rfl
  ·rintro δ ⟨o1,o2,rfl⟩
   refine hU _ ?_
   walk_at"l3"
   have e:(fP (aj xs) (aj ys)).length=xs.length:=by unfold fP;rw[j9,dY,dY];omega
   rw[e,Ew (by rw[j9];omega)]
   exact q
noncomputable abbrev Wt(K:Frag):aX:=λds Q=>∃(C:Addr) (p:Nat) (xs ys:List Int),ds=[pY C p,.lst false (aJ xs),.lst false (aJ ys)]/\cQ K C/\bq K C "prime"/\0<p/\xs.length=ys.length/\xs.length<=64/\(∀x∈xs,0<=x/\x<64)/\(∀y∈ys,0<=y/\y<64)/\Q (.int ((cO (· * ·) xs ys).sum%p))
theorem aF4(T:Txt K mg t):aN P w K mg base aP 1 t.J2 t.Up ["self","xs","ys"] (bf (Wt K)):=by
 refine bt T.Vg.F aE5 ?_ ?_
 ·intro ds Q h
  obtain⟨C,p,xs,ys,rfl,hC,hn,hp,hl,mT,hx,hy,q⟩:=h<;>rfl
 ·intro aE A outer s H E hr
  refine⟨_,(aF (aT (az dE (ae (cK (cO9 rfl) (by rfl) T.dz7 cG9 (ag (ae (du [] ["x","y"] rfl (vy rfl T.wt (ag (bv 1) (ag (bv 2) aq))) (λ_ _ _ _=>(sI (i1:=0) (i2:=1) (show(["x","y"]:List Str).Nodup by decide +kernel))) (λ_ _ _ _=>dD) (λ_ _ _ _=>(az fM (bv 0) (bv 1))) rfl)) aq))) (cZ (K:=K) (bv 0))))),λds Q h=>?_⟩
  obtain⟨C,p,xs,ys,rfl,hC,hn,hp,hl,mT,hx,hy,q⟩:=h
  walk_at"l3"
  refine⟨_,_,rfl,rfl,?_⟩
  refine GX (xs.zip ys) (λz=>D.tup [.int z.1,.int z.2]) (λz=>D.int (z.1*z.2)) (Qs xs ys) (λa b h=>by injection h with h;simp at h;exact Prod.ext h.1 h.2) (λz hz=>?_) GY (.inr λ_ _=>rfl) (by rw[EB,sL];omega) ?_
  ·have z1:=hx z.1 (tw hz).1
   have z2:=hy z.2 (tw hz).2
   walk_at"l3"
   exact ia.ok (.inr ⟨by omega,by omega⟩)
  ·refine⟨(xs.zip ys).map λz=>z.1*z.2,?_,?_⟩
   ·unfold aJ;rw[cj];rfl
   ·walk_at"l3"
    refine⟨C,_,_,.int p,rfl,hC,hn,rfl,?_⟩
    refine⟨by omega,?_⟩
    rw[List.map_zip_eq_zipWith]
    exact q
theorem Wu(T:Txt K mg t){m:Bool × Nat}(hm:m∈au):∃C ns zs sp,fD t.aI t.aK m=.obj C ns zs/\ip P w K mg base 1 "dot" C sp/\("dot":Str) ∉ ns/\∀(xs ys:List Nat) (Q:D->Prop),xs.length=ys.length->xs.length<=64->(∀x∈xs,x<aa m)->(∀y∈ys,y<aa m)->Q (.int (gd m xs ys:Nat))->sp [.obj C ns zs,.lst false (aj xs),.lst false (aj ys)] Q:=by
 have hF:=cq hm
 obtain⟨k,n⟩:=m
 cases k with
 | true=>exact⟨_,_,_,Ws K,rfl,⟨T.eU,_,_,_,T.aI9,aJ8 T,T.Vf.b⟩,by decide,λxs ys Q hl mT hx hy q=>⟨_,n,xs,ys,rfl,T.eU,T.qj,sk hm,hl,mT,hx,hy,q⟩⟩
 | false =>
  have lR:n<=64:=hF.hi
  have l2:2<=n:=hF.lo
  have cx:∀l:List Nat,(∀x∈l,x<aa (false,n))->∀z∈l.map (λ(n:Nat)=>(n:Int)),0<=z/\z<64:=λl h z hz=>by
   obtain⟨x,hx,rfl⟩:=bB.mp hz
   have:x<n:=h x hx
   omega
  refine⟨_,_,_,Wt K,rfl,⟨T.fc,_,_,_,T.aE8,aF4 T,T.Vg.b⟩,by decide,λxs ys Q hl mT hx hy q=>⟨_,n,xs.map (λ(n:Nat)=>(n:Int)),ys.map (λ(n:Nat)=>(n:Int)),rfl,T.fc,T.mR,by omega,by rw[bw,bw];exact hl,by rw[bw];exact mT,cx xs hx,cx ys hy,?_⟩⟩
  have e:((gd (false,n) xs ys:Nat):Int)=(cO (· * ·) (xs.map λ(n:Nat)=>(n:Int)) (ys.map λ(n:Nat)=>(n:Int))).sum%n:=by
   unfold gd
   rw[Qw (by omega) _ _ (by omega),As,Qx,Qy,lZ]
  rw[<-e];exact q
noncomputable abbrev aS5(t:eI):aX:=λds Q=>∃(m:Bool × Nat) (xs:List Nat) (G:List (List Nat)),ds=[fD t.aI t.aK m,.lst false (aj xs),.lst false (aA false G)]/\m∈au/\AllLt (aa m) xs/\G.length=xs.length/\xs.length<=64/\RT (aa m) (ai G) G/\ai G<=64/\Q (.lst true (aj (ou m xs G (ai G))))
theorem aS6(T:Txt K mg t):aN P w K mg base aP 3 t.Uq t.Ur ["field","row","table"] (bf (aS5 t)):=by
 refine bt T.Vh.F aS1 ?_ ?_
 ·intro ds Q h
  obtain⟨m,xs,G,rfl,hm,hx,hG,xO,hR,hw,q⟩:=h<;>rfl
 ·intro aE A outer s H E hr
  refine⟨_,(aF (aT (du [("row",1),("field",0)] ["column"] rfl (ie (ae (bA T.Ke (V1 T) hr (ag (bv 2) aq)))) (λ_ _ _ _=>(eT (i:=2) (show(["row","field","column"]:List Str).Nodup by decide +kernel))) (λ_ _ _ _=>dD) (λ_ _ _ _=>(fH (P:=P) (w:=w) (K:=K) (mg:=mg) (base:=base) (n:=1) (bv 1) (hr.mono (by decide)) (ag (bv 0) (ag (bv 2) aq)))) rfl))),λds Q h=>?_⟩
  obtain⟨m,xs,G,rfl,hm,hx,hG,xO,hR,hw,q⟩:=h
  have cJ:=(cq hm).lo
  obtain⟨C,ns,zs,sp,e1,e2,e3,e4⟩:=Wu (P:=P) (w:=w) (base:=base) T hm
  walk_at"l3"
  refine⟨G,rfl,by omega,λr bj=>(hR r bj).1,by omega,?_⟩
  dsimp only
  refine⟨_,rfl,?_⟩
  refine eN (eQ G) (λr=>D.lst false (aj r)) (λr=>D.int ((gd m xs r:Nat):Int)) (e7 true _) (λa b h=>mK a b h) (λr bj=>?_) (.inr λr _=>rfl) (by unfold eQ;rw[bw,bL,sL];omega) ?_
  ·walk_at"l3"
   unfold eQ at bj
   obtain⟨j,hj,rfl⟩:=bB.mp bj
   exact⟨C,ns,zs,sp,e1,e2,e3,e4 _ _ _ (by rw[bw,hG]) xO hx (λy hy=>by
    obtain⟨r,bj,rfl⟩:=bB.mp hy
    exact(hR r bj).2.getD (by omega) j) rfl⟩
  ·unfold ou at q
   rw[cH,cj]at q
   unfold eQ
   rw[cj]
   exact q
noncomputable abbrev aJ9(t:eI):aX:=λds Q=>∃(m:Bool × Nat) (G:List (List Nat)) (k:Kd) (l:List Nat),ds=[gj t m G k,.lst false (aj l)]/\eo m G/\l.length=(bN m G).length/\AllLt (aa m) l/\Q (.lst true (aj (cT m G l)))
theorem Ll(T:Txt K mg t):aN P w K mg base aP 4 t.zj t.Us ["self","message"] (bf (aJ9 t)):=by
 refine bt T.Dk.F aI6 ?_ ?_
 ·intro ds Q h
  obtain⟨m,G,k,l,rfl,hc,hl,al,q⟩:=h<;>rfl
 ·intro aE A outer s H E hr
  refine⟨_,(aC (OR (ae (bA T.Vd (aH8 T) hr (ag (bv 1) (ag (cZ (K:=K) (bv 0)) aq)))))
   (aC (OR (ae (bA T.Ve (aF3 T) hr (ag (cZ (K:=K) (bv 0)) (ag (bv 1) aq)))))
   (aF (aT (bA T.Vh (aS6 T) hr (ag (cZ (K:=K) (bv 0)) (ag (bv 1) (ag (cZ (K:=K) (bv 0)) aq)))))))),λds Q h=>?_⟩
  obtain⟨m,G,k,l,rfl,hc,hl,al,q⟩:=h
  have hw:=hc.HM
  have hf:=hc.Ct
  refine aB λU hU=>?_
  walk_at"l3"
  refine KQ T m G k ⟨true,aj l,by rw[dY,hl];rfl,rfl,hU _ ?_⟩
  clear hU U
  refine aB λU hU=>?_
  walk_at"l3"
  refine wu T m G k ⟨m,l,by rw[vQ],hc.hm,al,by omega,by rw[Qv];rfl,hU _ ?_⟩
  clear hU U
  walk_at"l3"
  refine wu T m G k (cx8 T m G k ⟨m,l,lK m G,by rw[vQ,eK,e7],hc.hm,al,by rw[lM];exact hl.symm,by omega,by rw[hc.wide];exact hc.rows,by rw[hc.wide];omega,by rw[gb,m6],?_⟩)
  rw[hc.wide]
  exact q
noncomputable abbrev aP5:aX:=λds Q=>∃(m:Bool × Nat) (a b:Nat),ds=[dZ m,.int a,.int b]/\0<m.2/\Q (.int (gp m a b:Nat))
theorem aP6(T:Txt K mg t):aN P w K mg base aP 1 t.Ut t.Uu ["_law_told_here","_law_a","_law_b"] (bf (aP5 )):=by
 refine bt T.Vi.F aO1 ?_ ?_
 ·intro ds Q h
  obtain⟨m,a,b,rfl,h0,q⟩:=h<;>rfl
 ·intro aE A outer s H E hr
  refine⟨_,(aC (dm (jR (bF (bv 0) (ae ak) (λ_ _=>rfl))) (aF (aT (az uZ (bv 1) (bv 2)))) dk)
   (aF (aT (az dE (ae (az cC (bv 1) (bv 2))) (bF (bv 0) (ae ak) (λ_ _=>rfl)))))),λds Q h=>?_⟩
  obtain⟨m,a,b,rfl,h0,q⟩:=h
  unfold dZ at *
  obtain⟨k,n⟩:=m
  refine aB λU hU=>?_
  walk_at"l3"
  cases k with
  | true =>
   refine⟨_,rfl,true,rfl,?_⟩
   rw[if_pos rfl,mm]
   exact q
  | false =>
   refine⟨_,rfl,false,rfl,?_⟩
   rw[if_neg (by decide)]
   refine hU _ ?_
   walk_at"l3"
   refine⟨_,rfl,?_⟩
   refine⟨by omega,?_⟩
   have e:((gp (false,n) a b:Nat):Int)=((a:Int)+b)%n:=by
    show(((a+b)%n:Nat):Int)=_
    rw[lZ,tO]
   rw[<-e];exact q
noncomputable abbrev aQ5:aX:=λds Q=>∃(m:Bool × Nat) (a b:List Nat),ds=[dZ m,.lst false (aj a),.lst false (aj b)]/\m∈au/\a.length<=64/\Q (.lst true (aj (cO (gp m) a b)))
theorem Wv(T:Txt K mg t):aN P w K mg base aP 2 t.Uv t.Uw ["_law_told_here","_law_xs","_law_ys"] (bf (aQ5 )):=by
 refine bt T.Km.F aQ2 ?_ ?_
 ·intro ds Q h
  obtain⟨m,a,b,rfl,hm,ha,q⟩:=h<;>rfl
 ·intro aE A outer s H E hr
  refine⟨_,(aF (aT (du [("_law_told_here",0)] ["_law_x","_law_y"] rfl (vy rfl T.wt (ag (bv 1) (ag (bv 2) aq))) (λ_ _ _ _=>(sI (i1:=1) (i2:=2) (show(["_law_told_here","_law_x","_law_y"]:List Str).Nodup by decide +kernel))) (λ_ _ _ _=>dD) (λ_ _ _ _=>(bA T.Vi (aP6 T) hr (ag (bv 0) (ag (bv 1) (ag (bv 2) aq))))) rfl))),λds Q h=>?_⟩
  obtain⟨m,a,b,rfl,hm,ha,q⟩:=h
  have m0:=bC m hm
  walk_at"l3"
  refine⟨_,_,rfl,rfl,Hb (gp m) (λx hx y hy=>?_) (by omega) q⟩
  walk_at"l3"
  exact⟨m,x,y,rfl,m0,rfl⟩
noncomputable abbrev aM8:aX:=λds Q=>∃i:Int,ds=[.int i]/\Q (.bl true)
theorem aM9(T:Txt K mg t):aN P w K mg base aP 1 t.Ux t.Uy ["_law_x"] (bf (aM8 )):=by
 refine bt T.Vj.F aL8 ?_ ?_
 ·intro ds Q h
  obtain⟨i,rfl,q⟩:=h<;>rfl
 ·intro aE A outer s H E hr
  refine⟨_,(aF (aT (pH (ae (BH (by rfl) T.zG (by rfl) T.Vy Ov (bv 0))) (tY (OP (ae (BH (by rfl) T.zG (by rfl) T.Vx Ow (bv 0)))))))),λds Q h=>?_⟩
  obtain⟨i,rfl,q⟩:=h
  walk_at"l3"
  exact q
noncomputable abbrev aP7(t:eI):aX:=λds Q=>∃(m:Bool × Nat) (G:List (List Nat)) (c:List Nat),ds=[fD t.aI t.aK m,.lst false (aA false G),.lst false (aj c)]/\m∈au/\RT (aa m) c.length G/\AllLt (aa m) c/\c.length<=64/\G.length<=64/\Q (.lst true (aj (G.map λr=>gd m r c)))
theorem aP8(T:Txt K mg t):aN P w K mg base aP 2 t.Uz t.UA ["field","table","column"] (bf (aP7 t)):=by
 refine bt T.Vk.F aO2 ?_ ?_
 ·intro ds Q h
  obtain⟨m,G,c,rfl,hm,hR,hc,gB,hG,q⟩:=h<;>rfl
 ·intro aE A outer s H E hr
  refine⟨_,(aF (aT (du [("column",2),("field",0)] ["row"] rfl (ie (bv 1)) (λ_ _ _ _=>(eT (i:=2) (show(["column","field","row"]:List Str).Nodup by decide +kernel))) (λ_ _ _ _=>dD) (λ_ _ _ _=>(fH (P:=P) (w:=w) (K:=K) (mg:=mg) (base:=base) (n:=1) (bv 1) (hr.mono (by decide)) (ag (bv 2) (ag (bv 0) aq)))) rfl))),λds Q h=>?_⟩
  obtain⟨m,G,c,rfl,hm,hR,hc,gB,hG,q⟩:=h
  have cJ:=(cq hm).lo
  obtain⟨C,ns,xs,sp,e1,e2,e3,e4⟩:=Wu (P:=P) (w:=w) (base:=base) T hm
  walk_at"l3"
  refine eN G (λr=>D.lst false (aj r)) (λr=>D.int ((gd m r c:Nat):Int)) (by rw[e7];rfl) (λa b h=>mK a b h) (λr bj=>?_) (.inr λr _=>rfl) (by rw[sL];omega) ?_
  ·walk_at"l3"
   exact⟨C,ns,xs,sp,e1,e2,e3,e4 _ _ _ (hR r bj).1 (by rw[(hR r bj).1];exact gB) (hR r bj).2 hc rfl⟩
  ·rw[cH,cj]at q
   exact q
noncomputable def sgn(M:Nat):Option Nat->Bool
 | none=>false
 | some a=>decide (a<M)
noncomputable abbrev aK0(t:eI):aX:=λds Q=>∃(m:Bool × Nat) (G:List (List Nat)) (k:Kd) (y:List (Option Nat)),ds=[gj t m G k,.lst false (oy y)]/\eo m G/\y.length<=100/\((y.length≠ai G/\Q (.bl false))\/(y.length=ai G/\none∈y/\Q (.bl false))\/∃c:List Nat,y=c.map some/\c.length=ai G/\AllLt (aa m) c/\Q (.bl (G.all λr=>gd m r c==0)))
theorem aK1(T:Txt K mg t):aN P w K mg base aP 3 t.zk t.UB ["self","word"] (bf (aK0 t)):=by
 refine bt T.Vl.F aI7 ?_ ?_
 ·intro ds Q h
  obtain⟨m,G,k,y,rfl,hc,hy,q⟩:=h<;>rfl
 ·intro aE A outer s H E hr
  refine⟨_,(aC (dm (PW.pt (nG (b9 (ij (cW hr)) (ae (cK (eY) (by rfl) T.eV eJ (ag (bv 1) aq))) (cZ (K:=K) (bv 0)) (bH _)) (qJ (uu (jR (ae (cK (rM rfl) (by rfl) T.sP qY (ag (ae (du [("self",0)] ["sign"] rfl (ie (bv 1)) (λ_ _ _ _=>(eT (i:=1) (show(["self","sign"]:List Str).Nodup by decide +kernel))) (λ_ _ _ _=>dD) (λ_ _ _ _=>(fH (P:=P) (w:=w) (K:=K) (mg:=mg) (base:=base) (n:=1) (cZ (K:=K) (bv 0)) (hr.mono (by decide)) (ag (bv 1) aq))) rfl)) aq)))))))) (aF (aT jQ)) dk)
   (aF (aT (cK (rM rfl) (by rfl) T.sP qY (ag (ae (du [] ["x"] rfl (ie (ae (bA T.Vk (aP8 T) hr (ag (cZ (K:=K) (bv 0)) (ag (cZ (K:=K) (bv 0)) (ag (bv 1) aq)))))) (λ_ _ _ _=>(eT (i:=0) (show(["x"]:List Str).Nodup by decide +kernel))) (λ_ _ _ _=>dD) (λ_ _ _ _=>(rh (gJ (cW hr)) (bv 0) (ae ak) (bH _))) rfl)) aq))))),λds Q h=>?_⟩
  obtain⟨m,G,k,y,rfl,hc,hy,q⟩:=h
  have hw:=hc.HM
  have hl:=hc.len
  have yl:=ch7 y
  refine aB λU hU=>?_
  walk_at"l3"
  refine DJ T m G k ?_
  rw[yl,i7]
  refine⟨rfl,?_⟩
  rcases q with⟨h1,q⟩ | h
  ·rw[decide_eq_false (by omega),if_pos (by decide)];exact q
  have h0:y.length=ai G:=by
   rcases h with⟨h,_⟩ | ⟨c,rfl,h,_⟩
   ·exact h
   ·rw[bw,h]
  rw[decide_eq_true (by omega),if_neg (by decide)]
  refine eN y vZ (λa=>D.bl (sgn (aa m) a)) (cu7 y) cr0 (λa ha=>?_) (.inr λ_ _=>rfl) (by rw[sL];omega) ?_
  ·walk_at"l3"
   rw[R3,RW]
   refine wu T m G k ?_
   refine K8 T m ?_
   cases a with
   | none=>exact .inr ⟨rfl,rfl,rfl⟩
   | some a =>
    refine .inl ⟨_,rfl,rfl,?_⟩
    rw[decide_eq_true (show(0:Int)<=(a:Int) by omega),mX]
    show D.bl _=D.bl (decide (a<aa m))
    congr 1
    exact decide_eq_decide.mpr ⟨λh=>by omega,λh=>by omega⟩
  refine⟨y.map (sgn (aa m)),by unfold kY;rw[cj];rfl,?_⟩
  rcases h with⟨_,hn,q⟩ | ⟨c,rfl,lc,ac,q⟩
  ·rw[show(y.map (sgn (aa m))).all id=false by
    rw[List.all_eq_false]
    exact⟨_,tQ hn,iP⟩,if_pos (by decide)]
   exact q
  rw[show((c.map some).map (sgn (aa m))).all id=true by
   rw[c9]
   intro x hx
   rw[cj]at hx
   obtain⟨a,ha,rfl⟩:=bB.mp hx
   exact decide_eq_true (ac a ha),if_neg (by decide)]
  refine hU _ ?_
  clear hU U
  have ec:oy (c.map some)=aj c:=by unfold oy;rw[cj,cH];rfl
  rw[ec]
  walk_at"l3"
  refine wu T m G k (b13 T m G k ⟨m,G,c,by rw[vQ,eK,e7],hc.hm,by rw[lc];exact hc.rt,ac,by omega,hl,by rw[gb,m6],_,rfl,?_⟩)
  refine eN (G.map λr=>gd m r c) (λ(i:Nat)=>D.int (i:Int)) (λi=>D.bl (i==0)) (rT _) iG (λi hi=>?_) (.inr λ_ _=>rfl) (by rw[bw,sL];omega) ?_
  ·walk_at"l3"
   rw[show decide ((i:Int)=0)=(i==0) by
    by_cases z:i=0
    ·rw[z];rfl
    ·rw[decide_eq_false (by omega),beq_false_of_ne z]]
  ·refine⟨(G.map λr=>gd m r c).map (·==0),by unfold kY;rw[cj (g:=D.bl)];rfl,?_⟩
   rw[show((G.map λr=>gd m r c).map (·==0)).all id=G.all λr=>gd m r c==0 by rw[cj,lY];rfl]
   exact q
noncomputable abbrev aR7:aX:=λds Q=>∃l:List Nat,ds=[.lst false (aj l)]/\l.length<=1000/\Q (.lst true (aj (eO l)))
theorem aR8(T:Txt K mg t):aN P w K mg base aP 1 t.UC t.UD ["a"] (bf (aR7 )):=by
 refine bt T.Vm.F Jy ?_ ?_
 ·intro ds Q h
  obtain⟨l,rfl,hl,q⟩:=h<;>rfl
 ·intro aE A outer s H E hr
  refine⟨_,(aC (aZ (i:=1) Jy.nd rfl (ay rfl) (cK (eY) (by rfl) T.eV eJ (ag (bv 0) aq)))
   (aC (rz eW (PW.pt (OO (b9 xP (bv 1) (ae ak) (bH _)) (Np (b9 (gJ (cW hr)) (bF (bv 0) (ae (az dR (bv 1) (ae ak))) (λ_ _=>rfl)) (ae ak) (bH _)))))
    (aF (uH (i:=1) Jy.nd rfl (ay rfl) (ae ak) cF6)))
   (aF (aT (vB (bv 0) vm (vn (bv 1))))))),λds Q h=>?_⟩
  obtain⟨l,rfl,hl,q⟩:=h
  refine aB λU hU=>?_
  walk_at"l3"
  refine hU _ ?_
  clear hU U
  refine aB λU hU=>?_
  walk_at"l3"
  refine⟨λn δ=>∃k:Nat,δ=[some (.lst false (aj l)),some (.int (k:Nat))]/\k<=l.length/\(∀x∈l.drop k,x=0)/\n=k,⟨l.length,l.length,rfl,bK _,by simp,rfl⟩,?_⟩
  rintro n δ ⟨k,rfl,hk,hz,rfl⟩
  walk_at"l3"
  have fin:(n=0\/l.getD (n-1) 0≠0)->U [some (.lst false (aj l)),some (.int (n:Nat))]:=λh=>by
   refine hU _ ?_
   walk_at"l3"
   rw[QD hk hz h]at q
   rw[show fO l none (some (n:Int))=l.take n from GD l n]
   exact q
  split
  ·rename_i h1
   refine⟨_,ku (by omega) (by omega),rfl,?_⟩
   rw[i7,show((n:Int)-1).toNat=n-1 by omega]
   by_cases h0:l.getD (n-1) 0=0
   ·rw[if_pos (by rw[h0];rfl)]
    refine⟨n-1,by omega,n-1,by omega,by omega,b33 (by omega) hk hz h0,rfl⟩
   ·rw[if_neg (by simp only[decide_eq_true_eq];omega)]
    exact fin (.inr h0)
  ·rename_i h1
   exact fin (.inl (by omega))
noncomputable abbrev Ww:aX:=λds Q=>∃(d:D) (a b:Nat),ds=[d,.int a,.int b]/\Q (.int (a ^^^ b:Nat))
theorem aH9(T:Txt K mg t):aN P w K mg base aP 1 t.J3 t.UE ["self","a","b"] (bf (Ww )):=by
 refine bt T.Vn.F aG9 ?_ ?_
 ·intro ds Q h
  obtain⟨d,a,b,rfl,q⟩:=h<;>rfl
 ·intro aE A outer s H E hr
  refine⟨_,(aF (aT (az uZ (bv 1) (bv 2)))),λds Q h=>?_⟩
  obtain⟨d,a,b,rfl,q⟩:=h
  walk_at"l3"
  rw[mm];exact q
noncomputable abbrev Wx(K:Frag):aX:=λds Q=>∃(C:Addr) (p:Nat) (a b:Int),ds=[pY C p,.int a,.int b]/\cQ K C/\bq K C "prime"/\0<p/\Q (.int ((a+b)%p))
theorem aD5(T:Txt K mg t):aN P w K mg base aP 1 t.J4 t.UG ["self","a","b"] (bf (Wx K)):=by
 refine bt T.Vo.F aA9 ?_ ?_
 ·intro ds Q h
  obtain⟨C,p,a,b,rfl,hC,hn,hp,q⟩:=h<;>rfl
 ·intro aE A outer s H E hr
  refine⟨_,(aF (aT (az dE (ae (az cC (bv 1) (bv 2))) (cZ (K:=K) (bv 0))))),λds Q h=>?_⟩
  obtain⟨C,p,a,b,rfl,hC,hn,hp,q⟩:=h
  walk_at"l3"
  refine⟨C,_,_,.int p,rfl,hC,hn,rfl,?_⟩
  exact⟨by omega,q⟩
theorem cD5(T:Txt K mg t){m:Bool × Nat}(h0:0<m.2):∃C ns xs sp,fD t.aI t.aK m=.obj C ns xs/\ip P w K mg base 1 "plus" C sp/\("plus":Str) ∉ ns/\∀(a b:Nat) (Q:D->Prop),Q (.int (gp m a b:Nat))->sp [.obj C ns xs,.int a,.int b] Q:=by
 obtain⟨k,n⟩:=m
 cases k with
 | true=>exact⟨_,_,_,Ww,rfl,⟨T.eU,_,_,_,T.aH2,aH9 T,T.Vn.b⟩,by decide,λa b Q q=>⟨_,a,b,rfl,q⟩⟩
 | false =>
  refine⟨_,_,_,Wx K,rfl,⟨T.fc,_,_,_,T.aC3,aD5 T,T.Vo.b⟩,by decide,λa b Q q=>⟨_,n,a,b,rfl,T.fc,T.mR,h0,?_⟩⟩
  have e:((gp (false,n) a b:Nat):Int)=((a:Int)+b)%n:=by
   show(((a+b)%n:Nat):Int)=_
   rw[lZ,tO]
  rw[<-e];exact q
noncomputable abbrev aN0(cb cp:Addr):aX:=λds Q=>∃(m:Bool × Nat) (a b:List Nat),ds=[fD cb cp m,.lst false (aj a),.lst false (aj b)]/\m∈au/\AllLt (aa m) a/\AllLt (aa m) b/\a.length+b.length<=1000/\Q (.lst true (aj (oo m a b)))
theorem aN1(T:Txt K mg t):aN P w K mg base aP 2 t.UH t.UI ["field","a","b"] (bf (aN0 t.aI t.aK)):=by
 refine bt T.Vp.F CQ ?_ ?_
 ·intro ds Q h
  obtain⟨m,a,b,rfl,hm,ha,hb,hl,q⟩:=h<;>rfl
 ·intro aE A outer s H E hr
  refine⟨_,(aC (aZ (i:=3) CQ.nd rfl (ay rfl) (az fM (ae (dQ (cB ak cN))) (ae (az cC (ae (cK (eY) (by rfl) T.eV eJ (ag (bv 1) aq))) (ae (cK (eY) (by rfl) T.eV eJ (ag (bv 2) aq)))))))
   (aC (gz eW rfl (nV rfl T.oK (ag (bv 1) aq)) (mH (i1:=4) (i2:=5) rfl CQ.nd rfl (ay rfl) rfl (ay rfl))
    (aF (gz eW rfl (nV rfl T.oK (ag (bv 2) aq)) (mH (i1:=6) (i2:=7) rfl CQ.nd rfl (ay rfl) rfl (ay rfl))
     (aF (pP (i:=3) rfl (by first | exact ay rfl | exact bW (ay rfl)) (fH (P:=P) (w:=w) (K:=K) (mg:=mg) (base:=base) (n:=1) (bv 0) (hr.mono (by decide)) (ag (bF (bv 3) (ae (az cC (bv 4) (bv 6))) (λ_ _=>rfl)) (ag (ae (fH (P:=P) (w:=w) (K:=K) (mg:=mg) (base:=base) (n:=1) (bv 0) (hr.mono (by decide)) (ag (bv 5) (ag (bv 7) aq)))) aq))) (ae (az cC (bv 4) (bv 6))))))))
   (aF (aT (bA T.Vm (aR8 T) hr (ag (bv 3) aq)))))),λds Q h=>?_⟩
  obtain⟨m,a,b,rfl,hm,ha,hb,hl,q⟩:=h
  have m0:=bC m hm
  refine aB λU hU=>?_
  walk_at"l3"
  refine⟨by decide,⟨by omega,by omega,by omega⟩,?_⟩
  rw[show aJ (aQ ((a.length:Int)+(b.length:Int)).toNat 0)=aj (aQ (a.length+b.length) 0) by rw[cH,oW];unfold aJ;rw[oW];rfl]
  refine hU _ ?_
  clear hU U
  refine aB λU hU=>?_
  walk_at"l3"
  refine gy.mk (λi δ=>∃o4 o5 o6 o7,δ=[some (fD t.aI t.aK m),some (D.lst false (aj a)),some (D.lst false (aj b)),some (D.lst true (aj (iK m b (aQ (a.length+b.length) 0) 0 (a.take i)))),o4,o5,o6,o7]) ⟨_,_,_,_,rfl⟩ ?_ ?_
  ·rintro i d δ hd ⟨o4,o5,o6,o7,rfl⟩
   obtain⟨hi,rfl⟩:=G9 hd
   clear hd
   generalize hT:iK m b (aQ (a.length+b.length) 0) 0 (a.take i)=tt
   have lT:tt.length=a.length+b.length:=by rw[<-hT,G5,dG]
   have bT:AllLt (aa m) tt:=by rw[<-hT];exact G7 hm b _ _ _ (Cc hm _)
   walk_at"l3"
   refine gy.mk (λj δ=>∃o6 o7,δ=[some (fD t.aI t.aK m),some (D.lst false (aj a)),some (D.lst false (aj b)),some (D.lst true (aj (fZ m a[i] tt i (b.take j)))),some (D.int i),some (D.int (a[i]:Nat)),o6,o7]) ⟨_,_,rfl⟩ ?_ ?_
   ·rintro j d δ hd ⟨o6,o7,rfl⟩
    obtain⟨hj,rfl⟩:=G9 hd
    clear hd
    have lP:(fZ m a[i] tt i (b.take j)).length=a.length+b.length:=by rw[yP,lT]
    have bP:AllLt (aa m) (fZ m a[i] tt i (b.take j)):=yQ hm _ _ _ _ bT
    obtain⟨C,ns,xs,sp,e1,e2,e3,e4⟩:=cD5 (P:=P) (w:=w) (base:=base) T m0
    walk_at"l3"
    refine⟨C,ns,xs,sp,e1,e2,e3,_,ku (by omega) (by omega),co9 T hm (ha _ (dz _)) (hb _ (dz _)) (e4 _ _ _ ⟨rfl,_,((i:Int)+(j:Int)).toNat,rfl,vT (by omega) (by rw[dY];omega),_,_,?_,rfl,rfl⟩)⟩
    rw[ch8 m _ b tt i hj,G8,show((i:Int)+(j:Int)).toNat=i+j by omega];rfl
   ·rintro δ ⟨o6,o7,rfl⟩
    rw[nU,dY,mY,cf4 m b a _ 0 hi,hT,As]
    exact⟨_,_,_,_,rfl⟩
  ·rintro δ ⟨o4,o5,o6,o7,rfl⟩
   rw[nU,dY,mY]
   refine hU _ ?_
   walk_at"l3"
   have:=b60 m a b
   exact⟨om m a b,rfl,by rw[this];exact hl,by rw[gv,QL];rfl,q⟩
noncomputable abbrev aP9(cb cp:Addr):aX:=λds Q=>∃(m:Bool × Nat) (r:Nat),ds=[fD cb cp m,.int r]/\m∈au/\r<aa m/\Q (.lst true (aj [jc m r,1]))
theorem aQ0(T:Txt K mg t):aN P w K mg base aP 2 t.UJ t.UK ["field","r"] (bf (aP9 t.aI t.aK)):=by
 refine bt T.Vq.F aO3 ?_ ?_
 ·intro ds Q h
  obtain⟨m,r,rfl,hm,bj,q⟩:=h<;>rfl
 ·intro aE A outer s H E hr
  refine⟨_,(aF (aT (dQ (cB (fH (P:=P) (w:=w) (K:=K) (mg:=mg) (base:=base) (n:=1) (bv 0) (hr.mono (by decide)) (ag (ae ak) (ag (bv 1) aq))) (cB ak cN))))),λds Q h=>?_⟩
  obtain⟨m,r,rfl,hm,bj,q⟩:=h
  have cJ:=(cq hm).lo
  have m0:=bC m hm
  obtain⟨C,ns,xs,sp,e1,e2,e3,e4⟩:=K1 (P:=P) (w:=w) (base:=base) T m0
  have ga:=ir hm (a:=0) (b:=r) (by omega) bj
  walk_at"l3"
  refine⟨C,ns,xs,sp,e1,e2,e3,e4 0 r _ ⟨by decide,?_⟩⟩
  rw[ga.1,<- RO bj]
  exact q
noncomputable abbrev aQ6(t:eI):aX:=λds Q=>∃(m:Bool × Nat) (l:List Nat),ds=[fD t.aI t.aK m,.lst false (aj l)]/\m∈au/\AllLt (aa m) l/\l.length<=100/\∀L:List Nat,AllLt (aa m) L->L.length=l.length+1->(∀k,cf L k=PF m 1 l k)->Q (.lst true (aj L))
theorem aQ7(T:Txt K mg t):aN P w K mg base aP 3 t.UL t.UM ["field","some"] (bf (aQ6 t)):=by
 refine bt T.Vr.F CS ?_ ?_
 ·intro ds Q h
  obtain⟨m,l,rfl,hm,hl,zS,q⟩:=h<;>rfl
 ·intro aE A outer s H E hr
  refine⟨_,(aC (aZ (i:=2) CS.nd rfl (ay rfl) (dQ (cB ak cN)))
   (aC (gz eW rfl (Bz (da (bv 1))) (jz (i:=3) CS.nd rfl (ay rfl))
    (aF (aZ (i:=2) CS.nd rfl (ay rfl) (bA T.Vp (aN1 T) hr (ag (bv 0) (ag (bv 2) (ag (ae (bA T.Vq (aQ0 T) hr (ag (bv 0) (ag (bv 3) aq)))) aq)))))))
   (aF (aT (em 2))))),λds Q h=>?_⟩
  obtain⟨m,l,rfl,hm,hl,zS,q⟩:=h
  have cJ:=(cq hm).lo
  refine aB λU hU=>?_
  walk_at"l3"
  refine⟨by decide,hU _ ?_⟩
  clear hU U
  refine aB λU hU=>?_
  walk_at"l3"
  refine gy.mk (λi δ=>∃(L:List Nat) (o:Option D),δ=[some (fD t.aI t.aK m),some (D.lst false (aj l)),some (D.lst true (aj L)),o]/\AllLt (aa m) L/\L.length=i+1/\∀k,cf L k=PF m 1 (l.take i) k) ⟨[1],none,rfl,?_,rfl,λk=>?_⟩ ?_ ?_
  ·intro a ha
   rw[fW]at ha
   omega
  ·cases k<;>rfl
  ·rintro i d δ hd ⟨L,o,rfl,hL,lL,cL⟩
   obtain⟨hi,rfl⟩:=cg2 hd
   clear hd hU
   have vW:=hl _ (dz hi)
   have hn:=CA hm l[i]
   have h2:AllLt (aa m) [jc m l[i],1]:=λa ha=>by
    simp only[cA,gR,or_false]at ha
    rcases ha with rfl | rfl
    ·exact hn
    ·omega
   have ec:∀k,cf (oo m L [jc m l[i],1]) k=PF m 1 (l.take (i+1)) k:=λk=>by
    rw[QQ hm,CB hm hn hL,show cf L=_ from funext cL,kH,aO hi]
    show ky _ _ _ 1 (l[i]::l.take i) k=_
    exact congrFun (ch0 (rg hm) (by omega) (CA hm) (m3 (l₁:=[l[i]]) (l₂:=l.take i))) k
   have lt:(l.take (i+1)).length=i+1:=by rw[hE];omega
   have lp:(oo m L [jc m l[i],1]).length=i+1+1:=by
    refine cr4 (l:=om m L [jc m l[i],1]) ?_ λk hk=>?_
    ·rw[<-p5]
     have e:=ec (i+1)
     have tp:=HI (c:=1) (ng:=jc m) (rg hm) (by omega) (l.take (i+1))
     rw[lt]at tp
     rw[show cf (eO (om m L [jc m l[i],1])) (i+1)=_ from e.trans tp]
     decide
    ·rw[<-p5]
     exact(ec k).trans (zb (rg hm) _ k (by omega))
   walk_at"l3"
   exact⟨m,l[i],rfl,hm,vW,m,L,[jc m l[i],1],by rw[sr],hm,hL,h2,by rw[lL];simp;omega,gb _,_,_,⟨rfl,rfl⟩,co8 hm _ _,lp,ec⟩
  ·rintro δ ⟨L,o,rfl,hL,lL,cL⟩
   refine hU _ ?_
   walk_at"l3"
   rw[dY]at lL cL
   rw[mY]at cL
   exact q L hL lL cL
noncomputable abbrev Lm(t:eI)(P:Program)(w:World)(K:Frag)(mg:Str->Option Value)(base:Heap):aX:=λds Q=>∃(m:Bool × Nat) (G:List (List Nat)) (e f:Nat),ds=[gj t m G (.lJ e f)]/\m∈au/\e<=64/\f<=64/\∀L:List Nat,AllLt (aa m) L->L.length=e+1->(∀k,cf L k=PF m 1 ((aD e).map λ(i:Nat)=>eS m ((f:Int)+(i:Int))) k)->Q (.lst true (aj L))
theorem Wy(T:Txt K mg t):aN P w K mg base aP 4 t.J5 t.UN ["self"] (bf (Lm t P w K mg base)):=by
 refine bt T.Kn.F aE6 ?_ ?_
 ·intro ds Q h
  obtain⟨m,G,e,f,rfl,hm,he,hf,q⟩:=h<;>rfl
 ·intro aE A outer s H E hr
  refine⟨_,(aF (aT (bA T.Vr (aQ7 T) hr (ag (cZ (K:=K) (bv 0)) (ag (ae (du [("self",0)] ["i"] rfl (i6 rfl T.gD (ag (cZ (K:=K) (bv 0)) aq)) (λ_ _ _ _=>(eT (i:=1) (show(["self","i"]:List Str).Nodup by decide +kernel))) (λ_ _ _ _=>dD) (λ_ _ _ _=>(fH (P:=P) (w:=w) (K:=K) (mg:=mg) (base:=base) (n:=1) (cZ (K:=K) (bv 0)) (hr.mono (by decide)) (ag (ae (az cC (cZ (K:=K) (bv 0)) (bv 1))) aq))) rfl)) aq))))),λds Q h=>?_⟩
  obtain⟨m,G,e,f,rfl,hm,he,hf,q⟩:=h
  walk_at"l3"
  refine wu T m G (.lJ e f) ?_
  refine⟨_,_,_,_,rfl,T.kC,T.zE,rfl,_,rfl,⟨by omega,by omega⟩,?_⟩
  refine eN (aD e) (λ(i:Nat)=>D.int (i:Int)) (λ(i:Nat)=>D.int ((eS m ((f:Int)+(i:Int)):Nat):Int)) (mJ _ rfl) iG (λi hi=>?_) (.inr λ_ _=>rfl) (by rw[bL,sL];omega) ?_
  ·walk_at"l3"
   rw[R3]
   refine wu T m G (.lJ e f) ?_
   obtain⟨C,ns,xs,sp,e1,e2,e3,e4⟩:=VA (P:=P) (w:=w) (base:=base) T hm (n:=(f:Int)+(i:Int)) (Q:=λr=>r=D.int ((eS m ((f:Int)+(i:Int)):Nat):Int)) rfl
   refine⟨C,ns,xs,sp,e1,e2,e3,⟨_,_,_,_,rfl,T.kC,T.DC,rfl,e4⟩⟩
  ·refine⟨m,(aD e).map λ(i:Nat)=>eS m ((f:Int)+(i:Int)),?_,hm,λa ha=>?_,by rw[bw,bL];omega,λL h1 h2 h3=>⟨by rw[gb,m6],q L h1 (by rw[bw,bL]at h2;exact h2) h3⟩⟩
   ·rw[vQ,show((aD e).map λ(i:Nat)=>D.int ((eS m ((f:Int)+(i:Int)):Nat):Int))=aj ((aD e).map λ(i:Nat)=>eS m ((f:Int)+(i:Int))) by rw[cH,cj];rfl,sr]
   ·obtain⟨_,_,rfl⟩:=bB.mp ha
    exact vS hm _
theorem cs0(T:Txt K mg t)(m:Bool × Nat)(G:List (List Nat))(k:Kd){Q:D->Prop}(q:Q (.int (oF G k:Nat))):∃C ns zs sp,gj t m G k=.obj C ns zs/\ip P w K mg base 1 "distance" C sp/\("distance":Str) ∉ ns/\sp [.obj C ns zs] Q:=by
 cases k with
 | oB b=>exact⟨_,_,_,Lk t,rfl,⟨T.qk,_,_,_,T.Vt,Wk T,T.Kk.b⟩,by decide,m,G,b,rfl,q⟩
 | rep=>exact⟨_,_,_,Wl t,rfl,⟨T.zC,_,_,_,T.dz2,au4 T,T.U8.b⟩,by decide,m,G,rfl,q⟩
 | lJ e f=>exact⟨_,_,_,Wm t,rfl,⟨T.kC,_,_,_,T.dz5,ax3 T,T.U9.b⟩,by decide,m,G,e,f,rfl,q⟩
theorem cH6(T:Txt K mg t)(hB:Bm mg base):aN P w K mg base aP 12 t.UO t.UP ["_law_script"] (vD [t.je,t.jf] (bf (Pg ))):=by
 refine GQ T.dx3.F kA ?_ ?_
 ·intro ds Q h
  obtain⟨ns,rfl,hl,q⟩:=h<;>rfl
 ·intro aE A outer s H E hT hr
  refine⟨_,(aC (aZ (i:=1) kA.nd rfl (ay rfl) (bA T.US (aO5 T) hr (ag (ae (bA T.j5 (kE T) hr (ag (bv 0) (ag (ae ak) aq)))) aq)))
   (aC (aZ (i:=2) kA.nd rfl (ay rfl) (bA T.zo (DK T) hr (ag (bv 1) aq)))
   (aC (aZ (i:=3) kA.nd rfl (ay rfl) (P6 hT ((aP4 T hB).mono (by decide)) hr rfl T.Dj.g T.Dj.F.kp T.Dj.b dB (ag (bv 0) (ag (bv 1) aq))))
   (aC (aZ (i:=4) kA.nd rfl (ay rfl) (da (bF (bv 3) (ae ak) (λ_ _=>rfl))))
   (aC (aZ (i:=5) kA.nd rfl (ay rfl) (bA T.Kl (Wr T) hr (ag (bv 0) (ag (ae ak) (ag (cZ (K:=K) (bv 4)) (ag (bv 2) aq))))))
   (aC (aZ (i:=6) kA.nd rfl (ay rfl) (bA T.Vc (aL2 T) hr (ag (bv 0) (ag (bv 5) (ag (bv 2) aq)))))
   (aC (aZ (i:=7) kA.nd rfl (bW rfl) (fH (P:=P) (w:=w) (K:=K) (mg:=mg) (base:=base) (n:=4) (bv 4) (hr.mono (by decide)) (ag (ae (xT (xU) (by rfl) T.zH xC (ag (bv 5) aq))) aq)))
   (aC (aZ (i:=8) kA.nd rfl (bW rfl) (fH (P:=P) (w:=w) (K:=K) (mg:=mg) (base:=base) (n:=4) (bv 4) (hr.mono (by decide)) (ag (ae (xT (xU) (by rfl) T.zH xC (ag (bv 6) aq))) aq)))
   (aC (aZ (i:=9) kA.nd rfl (ay rfl) (B9 (P:=P) (w:=w) (K:=K) (mg:=mg) (base:=base) (n:=1) (bv 4) (hr.mono (by decide))))
   (aC (dm (PW.pt (nG (uu (jR (ae (bA T.Vj (aM9 T) hr (ag (bv 9) aq))))) (nG (b9 (ij (cW hr)) (bv 9) (bF (bv 3) (ae ak) (λ_ _=>rfl)) (bH _)) (nG (b9 pK (bv 9) (ae ak) (bH _)) (qJ (b9 xP (bv 9) (ae (az cC (ae (az dR (cZ (K:=K) (bv 4)) (cZ (K:=K) (bv 4)))) (ae ak))) (bH _))))))) (aF (aT jQ)) dk)
   (aC (aZ (i:=10) kA.nd rfl (ay rfl) (cK (eY) (by rfl) T.eV eJ (ag (ae (du [("_law_one",7),("_law_other",8)] ["_law_at"] rfl (i6 rfl T.gD (ag (cZ (K:=K) (bv 4)) aq)) (λ_ _ _ _=>(eT (i:=2) (show(["_law_one","_law_other","_law_at"]:List Str).Nodup by decide +kernel))) (λ_ _ _ _=>(BC (b9 (ij (cW hr)) (bF (bv 0) (bv 2) (λ_ _=>rfl)) (bF (bv 1) (bv 2) (λ_ _=>rfl)) (bH _)))) (λ_ _ _ _=>(da (bv 2))) rfl)) aq)))
   (aC (dm (PW.pt (OO (b9 (ij (cW hr)) (bv 5) (bv 6) (bH _)) (Np (b9 pK (bv 10) (bv 9) (bH _))))) (aF (aT jQ)) dk)
   (aC (aZ (i:=11) kA.nd rfl (ay rfl) (bA T.Km (Wv T) hr (ag (bv 1) (ag (bv 7) (ag (bv 8) aq)))))
   (aC (dm (PW.pt (nG (b9 cu2 (ae (fH (P:=P) (w:=w) (K:=K) (mg:=mg) (base:=base) (n:=3) (bv 4) (hr.mono (by decide)) (ag (bv 11) aq))) (ae jQ) (bH _)) (qJ (b9 (ij (cW hr)) (ae (fH (P:=P) (w:=w) (K:=K) (mg:=mg) (base:=base) (n:=4) (bv 4) (hr.mono (by decide)) (ag (ae (bA T.Km (Wv T) hr (ag (bv 1) (ag (bv 5) (ag (bv 6) aq))))) aq))) (bv 11) (bH _))))) (aF (aT jQ)) dk)
   (aC (dm (jR (ae (cF5 (by rfl) T.zG (by rfl) T.DI (bv 4)))) (aF (aT (pH (ae (cK (rM rfl) (by rfl) T.sP qY (ag (ae (du [] ["_law_a"] rfl (ie (ae (B9 (P:=P) (w:=w) (K:=K) (mg:=mg) (base:=base) (n:=4) (bv 4) (hr.mono (by decide))))) (λ_ _ _ _=>(eT (i:=0) (show(["_law_a"]:List Str).Nodup by decide +kernel))) (λ_ _ _ _=>dD) (λ_ _ _ _=>(rh (ij (cW hr)) (bv 0) (ae ak) (bH _))) rfl)) aq))) (tY (rh (gJ (cW hr)) (ae (cK (eY) (by rfl) T.eV eJ (ag (ae (B9 (P:=P) (w:=w) (K:=K) (mg:=mg) (base:=base) (n:=4) (bv 4) (hr.mono (by decide)))) aq))) (bv 9) (bH _)))))) dk)
   (aF (aT jQ))))))))))))))))),λds Q h=>?_⟩
  obtain⟨ns,rfl,hl,q⟩:=h
  refine aB λU hU=>?_
  walk_at"l3"
  refine⟨ns,0,rfl,by decide,_,rfl,rfl,hU _ ?_⟩
  clear hU U
  generalize hmm:pZ (ns.getD (fi 0) 0)=m
  have hm:m∈au:=by rw[<-hmm];exact cc9 _
  have hF:=cq hm
  have cJ:=hF.lo
  have zU:=hF.hi
  have Wf:=GZ m hm
  refine aB λU hU=>?_
  walk_at"l3"
  refine⟨m,rfl,by omega,by omega,hU _ ?_⟩
  clear hU U
  refine aB λU hU=>?_
  walk_at"l3"
  refine⟨m,ns,rfl,hm,λG k hc g1 w2 w15 hk=>hU _ ?_⟩
  clear hU U
  have hw:=hc.HM
  have hf:=hc.Ct
  have hz:=hc.sz
  refine aB λU hU=>?_
  walk_at"l3"
  refine⟨_,rfl,cE1 ..,hU _ ?_⟩
  clear hU U
  refine aB λU hU=>?_
  walk_at"l3"
  refine KQ T m G k ⟨ns,7,(bN m G).length,aa m,rfl,by decide,by decide,by omega,by omega,λl ll al=>⟨rfl,hU _ ?_⟩⟩
  clear hU U
  refine aB λU hU=>?_
  walk_at"l3"
  refine⟨ns,l,aa m,rfl,by omega,by omega,by omega,al,λl' DU zd=>⟨gb _,hU _ ?_⟩⟩
  clear hU U
  have wl:=oE m G l
  have wa:=hc.CI ll
  have wl':=oE m G l'
  have wa':=hc.CI (DU.trans ll)
  have kp:=hk.pos
  have sg:=hc.ds6 hk.R9
  refine aB λU hU=>?_
  walk_at"l3"
  refine KR T T.zx T.zD T.zF (Ll T) T.Dk.b (by decide) ⟨m,G,k,l,rfl,hc,ll,al,gb _,hU _ ?_⟩
  clear hU U
  refine aB λU hU=>?_
  walk_at"l3"
  refine KR T T.zx T.zD T.zF (Ll T) T.Dk.b (by decide) ⟨m,G,k,l',rfl,hc,DU.trans ll,zd,gb _,hU _ ?_⟩
  clear hU U
  refine aB λU hU=>?_
  walk_at"l3"
  refine cs0 T m G k ?_
  refine hU _ ?_
  clear hU U
  refine aB λU hU=>?_
  walk_at"l3"
  refine⟨_,rfl,true,rfl,?_⟩
  rw[if_neg (by decide)]
  refine⟨_,rfl,rfl,?_⟩
  rw[i7,decide_eq_true rfl,if_neg (by decide),if_neg (by omega)]
  refine DJ T m G k (KQ T m G k ?_)
  dsimp only
  rw[if_neg (by omega)]
  refine hU _ ?_
  clear hU U
  have wc:=λne=>hc.wc hk.R9 ll al (DU.trans ll) zd ne
  refine aB λU hU=>?_
  walk_at"l3"
  refine DJ T m G k ⟨_,rfl,⟨by omega,by omega⟩,Cf (aD (ai G)) (λ(i:Nat)=>D.int (i:Int)) (λ(i:Nat)=>D.int (i:Int)) (λj=>decide (cf (cT m G l) j≠cf (cT m G l') j)) (mJ _ rfl) iG (λj hj=>?_) (.inr λ_ _ _=>rfl) (by rw[bL,sL];omega) ?_⟩
  ·have hj:=bY.mp hj
   walk_at"l3"
   refine⟨_,ku (by omega) (by rw[fV];omega),_,ku (by omega) (by rw[fV];omega),?_⟩
   refine⟨⟨rfl,rfl⟩,?_,λ_=>trivial⟩
   rw[fV,i7,show decide (((List.getD (cT m G l) j 0:Nat):Int)=((List.getD (cT m G l') j 0:Nat):Int))=decide (cf (cT m G l) j=cf (cT m G l') j) from decide_eq_decide.mpr ⟨λh=>by unfold cf;omega,λh=>by unfold cf at h;omega⟩,<- decide_not]
  dsimp only[jL,jK]
  rw[bw,show((aD (ai G)).filter λj=>decide (cf (cT m G l) j≠cf (cT m G l') j)).length=(kz (ai G) (cT m G l) (cT m G l')).length from rfl]
  refine hU _ ?_
  clear hU U
  refine aB λU hU=>?_
  walk_at"l3"
  suffices h:U [some (D.fz (aJ ns)),some (dZ m),some (D.int (aa m)),some (D.tup [gj t m G k,D.lst true (aA true G),D.int (oF G k:Nat)]),some (gj t m G k),some (D.lst true (aj l)),some (D.lst true (aj l')),some (D.lst true (aj (cT m G l))),some (D.lst true (aj (cT m G l'))),some (D.int (oF G k:Nat)),some (D.int ((kz (ai G) (cT m G l) (cT m G l')).length:Nat)),none] by
   by_cases e:l=l'
   ·rw[decide_eq_true e,if_neg (by decide)];exact h
   ·have:=wc e
    rw[decide_eq_false e,if_pos (by decide),if_neg (by omega)];exact h
  refine hU _ ?_
  clear hU U wc
  refine aB λU hU=>?_
  walk_at"l3"
  refine⟨m,_,_,rfl,hm,by omega,gb _,?_⟩
  rw[<-hc.sum ll (DU.trans ll)]
  obtain⟨s,es⟩:∃s,cO (gp m) l l'=s:=⟨_,rfl⟩
  have ls:s.length=(bN m G).length:=by rw[<-es,j9];omega
  have as:AllLt (aa m) s:=λx hx=>by
   rw[<-es]at hx
   obtain⟨i,hi,rfl⟩:=iQ hx
   rw[Yf]
   exact oi hm (al _ (dz _)) (zd _ (dz _))
  rw[es]
  refine hU _ ?_
  clear hU U
  have sl:=oE m G s
  have sa:=hc.CI ls
  have sw:=hc.word ls
  have ec:oy ((cT m G s).map some)=aj (cT m G s):=by unfold oy;rw[cj,cH];rfl
  refine aB λU hU=>?_
  walk_at"l3"
  refine KR T T.Kv T.KG T.KJ (aK1 T) T.Vl.b (by decide) ⟨m,G,k,(cT m G s).map some,by rw[ec],hc,by rw[bw];omega,.inr (.inr ⟨_,rfl,sl,sa,rfl,?_⟩)⟩
  rw[show(G.all λr=>gd m r (cT m G s)==0)=true by
   rw[c9]
   intro r bj
   rw[sw r bj];rfl]
  dsimp only
  rw[if_neg (by decide)]
  obtain⟨C,Wz,Bq,pf,e1,e2,e3,e4⟩:=ce1 (P:=P) (w:=w) (base:=base) T m G k T.zx T.zD T.zF (Ll T) T.Dk.b (by decide)
  refine⟨C,Wz,Bq,pf,e1,e2,e3,m,l,l',rfl,hm,by omega,gb _,e4 _ _ ⟨m,G,k,s,by rw[sr,es],hc,ls,as,by rw[gb,m6],Cd 5 true _,?_⟩⟩
  rw[(yR true true (cT m G s) _).trans (decide_eq_true rfl),if_neg (by decide)]
  refine hU _ ?_
  clear hU U e1 e2 e3 e4 C Wz Bq pf
  refine aB λU hU=>?_
  walk_at"l3"
  cases k with
  | oB b =>
   refine⟨_,_,_,false,rfl,T.dy3,T.dy4,?_⟩
   rw[if_neg (by decide)]
   refine hU _ ?_
   walk_at"l3"
   exact q
  | rep =>
   refine⟨_,_,_,false,rfl,T.dz0,T.dz1,?_⟩
   rw[if_neg (by decide)]
   refine hU _ ?_
   walk_at"l3"
   exact q
  | lJ e f =>
   obtain⟨hG,k1,k2,k3,k4⟩:=hk.rt e f rfl
   refine⟨_,_,_,true,rfl,T.dz3,T.dz4,?_⟩
   rw[if_pos rfl]
   refine⟨_,_,_,Lm t P w K mg base,rfl,⟨T.kC,_,_,_,T.Vv,Wy T,T.Kn.b⟩,by decide,m,G,e,f,rfl,hm,by omega,by omega,λL h1 h2 h3=>?_⟩
   have nz:=cb6 hm k3 k2 k1 h1 h2 h3
   refine⟨_,rfl,eN L (λ(i:Nat)=>D.int (i:Int)) (λ_=>D.bl true) (rT _) iG (λi hi=>?_) (.inr λ_ _=>rfl) (by rw[sL];omega) ?_⟩
   ·have:=nz i hi
    walk_at"l3"
    rw[decide_eq_false (by omega)];rfl
   refine⟨L.map λ_=>true,by unfold kY;rw[cj];rfl,?_⟩
   rw[show(L.map λ_=>true).all id=true by simp,if_pos rfl]
   refine⟨_,_,_,Lm t P w K mg base,rfl,⟨T.kC,_,_,_,T.Vv,Wy T,T.Kn.b⟩,by decide,m,G,e,f,rfl,hm,by omega,by omega,λL' jO iX h3'=>?_⟩
   dsimp only[qC,qB]
   refine⟨rfl,?_⟩
   rw[dY,iX,i7,show oF G (.lJ e f)=e+1 from rfl,decide_eq_true rfl]
   exact q
end
set_option maxHeartbeats 0 in
theorem all_mk{l:PySem.W.OpenLaw}{w:World}{K:Frag}{h:Heap}{mg:Str->Option Value}{fa:Addr}{ts:List Addr}(X:K.In h)(G:h.Ns mainGlobals mg)(hfa:mg "law"=some (.ref fa))
  {od8 an8:Option Addr} {sl8:Array (Option Value)} {oc8 kV8 dc8 pm8 ct8:Value} {f8:Addr}
  {zX je:Addr} {aD6:Option Addr} {aD7:Array (Option Value)} {WA:Array Value} {aD8:Value}
  {dR0 dR3:Option Addr} {dR4:Array (Option Value)} {dR5 dR6 dR7 dR8 dR9:Value} {zY:Addr}
  {zZ jf:Addr} {aI0:Option Addr} {aI1:Array (Option Value)} {WB:Array Value} {aI2:Value}
  {dS3 WC:Option Addr} {dS4:Array (Option Value)} {dS5 WD WE WG Ln WH:Value} {z5:Addr}
  {Lo:Addr} {dS6:Value} {dS7:Value} {dS8:Option Addr} {dS9:Array (Option Value)} {dT0:Nat}
  {dT1 WI:Option Addr} {dT2:Array (Option Value)} {dT3 WJ WK WL Lp WM:Value} {Lq:Addr}
  {f0 f1 f2 f3 f4 f5 f6 f7 f9 Lr Lu nM Lw Lx Ly Lz LA LB LC DV DW DX uQ LD wB LF LG LH LJ DY DZ LK z7 wC LL LM LN LO D0 D1 LP LQ D2 LR LS LU LV D3 D4 D6 LW D7 LX LY LZ L4 L5 L6 D8 D9 L7 sV L8 L9 Ma Mb sW Mc Ea Eb Md Me Mg Ec:Addr} {fd0 fd1 fd2 fd3 fd4 fd5 fd6 fd7 fd9 dU3 dU4 dU5 dU6 dU7 dU8 dU9 dV0 dV1 dV2 dV3 dV4 dV5 dV6 dV7 dV8 dV9 dW0 dW1 dW2 dW3 dW4 dW5 dW6 dW7 dW8 dW9 dX0 dX1 dX2 dX3 dX4 dX5 dX6 dX7 dX8 dX9 dY0 dY1 dY2 dY3 dY4 dY5 dY6 dY7 dY8 dY9 dZ0 dZ1 dZ2 dZ3 dZ4 dZ5 dZ6 dZ7 dZ8 dZ9 d00 d01 d02 d03 d04 d05 d06 d07:FuncData}
  {aI bU lN kB aK cw bh:Addr}
  (KN:nsIn K mainGlobals "BitField"=some (some (.ref aI)))
  (DG:nsIn K mainGlobals "CheckCode"=some (some (.ref bU)))
  (zJ:nsIn K mainGlobals "Code"=some (some (.ref lN)))
  (DH:nsIn K mainGlobals "Field"=some (some (.ref kB)))
  (KO:nsIn K mainGlobals "PrimeField"=some (some (.ref aK)))
  (KP:nsIn K mainGlobals "RepeatCode"=some (some (.ref cw)))
  (DI:nsIn K mainGlobals "RootCode"=some (some (.ref bh)))
  (a0:nsIn K mainGlobals "_law_told"=some (some (.ref f0)))
  (a1:nsIn K mainGlobals "_law_many"=some (some (.ref f1)))
  (a2:nsIn K mainGlobals "powers_of"=some (some (.ref f2)))
  (a3:nsIn K mainGlobals "step_powers"=some (some (.ref f3)))
  (a4:nsIn K mainGlobals "logs_of"=some (some (.ref f4)))
  (a5:findIn K (.ref kB) "step_power"=some (some (.ref f5)))
  (WN:isFn K (.ref f5)=true)
  (a6:findIn K (.ref kB) "__init__"=some (some (.ref f6)))
  (mf6:isFn K (.ref f6)=true)
  (a7:nsIn K mainGlobals "makes_prime_field"=some (some (.ref f7)))
  (a8:findIn K (.ref aK) "__init__"=some (some (.ref f8)))
  (mf8:isFn K (.ref f8)=true)
  (a9:nsIn K mainGlobals "product_rows"=some (some (.ref f9)))
  (a10:nsIn K mainGlobals "bits_divided"=some (some (.ref Lr)))
  (a11:nsIn K mainGlobals "stands_alone"=some (some (.ref Lu)))
  (a12:nsIn K mainGlobals "makes_bit_field"=some (some (.ref nM)))
  (a13:nsIn K mainGlobals "bits_times"=some (some (.ref Lw)))
  (a14:findIn K (.ref aI) "__init__"=some (some (.ref zY)))
  (d15:isFn K (.ref zY)=true)
  (a15:nsIn K mainGlobals "_law_field"=some (some (.ref Lx)))
  (a16:nsIn K mainGlobals "_law_cell"=some (some (.ref Ly)))
  (a17:nsIn K mainGlobals "_law_mixed"=some (some (.ref Lz)))
  (a18:nsIn K mainGlobals "_law_free_table"=some (some (.ref LA)))
  (a19:nsIn K mainGlobals "width_of"=some (some (.ref LB)))
  (a20:nsIn K mainGlobals "first_with"=some (some (.ref LC)))
  (a21:findIn K (.ref aI) "scaled"=some (some (.ref DV)))
  (d23:isFn K (.ref DV)=true)
  (a22:findIn K (.ref aK) "scaled"=some (some (.ref DW)))
  (d25:isFn K (.ref DW)=true)
  (a23:findIn K (.ref aI) "lessened"=some (some (.ref DX)))
  (d27:isFn K (.ref DX)=true)
  (a24:findIn K (.ref aK) "lessened"=some (some (.ref uQ)))
  (d29:isFn K (.ref uQ)=true)
  (a25:nsIn K mainGlobals "cleared"=some (some (.ref LD)))
  (a26:findIn K (.ref kB) "over"=some (some (.ref wB)))
  (WO:isFn K (.ref wB)=true)
  (a27:nsIn K mainGlobals "reduced"=some (some (.ref LF)))
  (a28:nsIn K mainGlobals "copied"=some (some (.ref LG)))
  (a29:nsIn K mainGlobals "leads"=some (some (.ref LH)))
  (a30:nsIn K mainGlobals "free_places"=some (some (.ref LJ)))
  (a31:findIn K (.ref aI) "minus"=some (some (.ref DY)))
  (d36:isFn K (.ref DY)=true)
  (a32:findIn K (.ref aK) "minus"=some (some (.ref DZ)))
  (d38:isFn K (.ref DZ)=true)
  (a33:nsIn K mainGlobals "kernel_of_reduced"=some (some (.ref LK)))
  (a34:findIn K (.ref lN) "__init__"=some (some (.ref z7)))
  (en1:isFn K (.ref z7)=true)
  (a35:findIn K (.ref kB) "holds"=some (some (.ref wC)))
  (WQ:isFn K (.ref wC)=true)
  (a36:nsIn K mainGlobals "is_small_table"=some (some (.ref LL)))
  (a37:nsIn K mainGlobals "rank"=some (some (.ref LM)))
  (a38:nsIn K mainGlobals "turned"=some (some (.ref LN)))
  (a39:nsIn K mainGlobals "is_nought"=some (some (.ref LO)))
  (a40:findIn K (.ref aI) "times"=some (some (.ref D0)))
  (d45:isFn K (.ref D0)=true)
  (a41:findIn K (.ref aK) "times"=some (some (.ref D1)))
  (d47:isFn K (.ref D1)=true)
  (a42:nsIn K mainGlobals "past"=some (some (.ref LP)))
  (a43:nsIn K mainGlobals "first_bound"=some (some (.ref LQ)))
  (a44:findIn K (.ref bU) "__init__"=some (some (.ref D2)))
  (d51:isFn K (.ref D2)=true)
  (a45:nsIn K mainGlobals "_law_times"=some (some (.ref LR)))
  (a46:nsIn K mainGlobals "_law_powers"=some (some (.ref LS)))
  (a47:nsIn K mainGlobals "_law_root_table"=some (some (.ref LU)))
  (a48:nsIn K mainGlobals "makes_root_code"=some (some (.ref LV)))
  (a49:findIn K (.ref bh) "__init__"=some (some (.ref z5)))
  (d58:isFn K (.ref z5)=true)
  (a50:findIn K (.ref bU) "distance"=some (some (.ref D3)))
  (d61:isFn K (.ref D3)=true)
  (a51:findIn K (.ref cw) "distance"=some (some (.ref D4)))
  (d63:isFn K (.ref D4)=true)
  (a52:findIn K (.ref bh) "distance"=some (some (.ref D6)))
  (d65:isFn K (.ref D6)=true)
  (a53:nsIn K mainGlobals "repeat_checks"=some (some (.ref LW)))
  (a54:findIn K (.ref cw) "__init__"=some (some (.ref D7)))
  (d68:isFn K (.ref D7)=true)
  (a55:nsIn K mainGlobals "_law_repeat_table"=some (some (.ref LX)))
  (a56:nsIn K mainGlobals "_law_code"=some (some (.ref LY)))
  (a57:nsIn K mainGlobals "_law_message"=some (some (.ref LZ)))
  (a58:nsIn K mainGlobals "_law_second"=some (some (.ref L4)))
  (a59:nsIn K mainGlobals "refuse_length"=some (some (.ref L5)))
  (a60:nsIn K mainGlobals "refuse_no_sign"=some (some (.ref L6)))
  (a61:findIn K (.ref aI) "dot"=some (some (.ref D8)))
  (d76:isFn K (.ref D8)=true)
  (a62:findIn K (.ref aK) "dot"=some (some (.ref D9)))
  (d78:isFn K (.ref D9)=true)
  (a63:nsIn K mainGlobals "row_by"=some (some (.ref L7)))
  (a64:findIn K (.ref lN) "written"=some (some (.ref sV)))
  (Mh:isFn K (.ref sV)=true)
  (a65:nsIn K mainGlobals "_law_plus"=some (some (.ref L8)))
  (a66:nsIn K mainGlobals "_law_sum"=some (some (.ref L9)))
  (a67:nsIn K mainGlobals "_law_whole"=some (some (.ref Ma)))
  (a68:nsIn K mainGlobals "by_column"=some (some (.ref Mb)))
  (a69:findIn K (.ref lN) "is_word"=some (some (.ref sW)))
  (Mi:isFn K (.ref sW)=true)
  (a70:nsIn K mainGlobals "trimmed"=some (some (.ref Mc)))
  (a71:findIn K (.ref aI) "plus"=some (some (.ref Ea)))
  (d87:isFn K (.ref Ea)=true)
  (a72:findIn K (.ref aK) "plus"=some (some (.ref Eb)))
  (d89:isFn K (.ref Eb)=true)
  (a73:nsIn K mainGlobals "poly_times"=some (some (.ref Md)))
  (a74:nsIn K mainGlobals "less_root"=some (some (.ref Me)))
  (a75:nsIn K mainGlobals "by_roots"=some (some (.ref Mg)))
  (a76:findIn K (.ref bh) "maker"=some (some (.ref Ec)))
  (d94:isFn K (.ref Ec)=true)
  (WR:nsIn K mainGlobals "law"=some (some (.ref Lq)))
  (z9:specialIn K (.builtin "object.__class__") "__get__"=some (some (.builtin "getset_descriptor.__get__")))
  (Aa:PySem.W.takesIn K (.builtin "object.__class__")=some true)
  (WS:plainGet K aI wF=true)
  (WT:hasDictIn K aI=true)
  (WU:plainOver K aI=true)
  (WV:findIn K (.ref aI) "__setattr__"=some (some (.builtin "object.__setattr__")))
  (Ko:makesIn K aI=true)
  (aQ8:keepIn K (.ref aI)=true)
  (aQ9:findIn K (.ref aI) "__class__"=some (some (.builtin "object.__class__")))
  (aR0:mroIn K aI (.type "object")=some true)
  (ax5:typeIn K (.ref bh)=some (.type "type"))
  (ax6:subIn K (.ref aI) (.ref bh)=some false)
  (Kp:findIn K (.ref aI) "bits"=some none)
  (wo:findIn K (.ref aI) "logs"=some none)
  (sN:findIn K (.ref aI) "many"=some none)
  (wq:findIn K (.ref aI) "powers"=some none)
  (qj:findIn K (.ref aI) "products"=some none)
  (Kq:findIn K (.ref aI) "step"=some none)
  (Kr:findIn K (.ref aI) "wide"=some none)
  (Ks:findIn K (.ref aI) "holds"=some (some (.ref wC)))
  (Kt:findIn K (.ref aI) "over"=some (some (.ref wB)))
  (zw:findIn K (.ref aI) "step_power"=some (some (.ref f5)))
  (WW:plainGet K bU wF=true)
  (WX:hasDictIn K bU=true)
  (WY:plainOver K bU=true)
  (WZ:findIn K (.ref bU) "__setattr__"=some (some (.builtin "object.__setattr__")))
  (Dm:makesIn K bU=true)
  (ea0:keepIn K (.ref bU)=true)
  (ea1:findIn K (.ref bU) "__class__"=some (some (.builtin "object.__class__")))
  (ea2:mroIn K bU (.type "object")=some true)
  (ea3:typeIn K (.ref bh)=some (.type "type"))
  (ea4:subIn K (.ref bU) (.ref bh)=some false)
  (Dn:findIn K (.ref bU) "bound"=some none)
  (Dq:findIn K (.ref bU) "check_rows"=some none)
  (Dr:findIn K (.ref bU) "field"=some none)
  (Ds:findIn K (.ref bU) "length"=some none)
  (Ku:findIn K (.ref bU) "message_places"=some none)
  (Dt:findIn K (.ref bU) "size"=some none)
  (Du:findIn K (.ref bU) "word_rows"=some none)
  (Kv:findIn K (.ref bU) "is_word"=some (some (.ref sW)))
  (zx:findIn K (.ref bU) "written"=some (some (.ref sV)))
  (W0:plainGet K aK wF=true)
  (W2:hasDictIn K aK=true)
  (W3:plainOver K aK=true)
  (W4:findIn K (.ref aK) "__setattr__"=some (some (.builtin "object.__setattr__")))
  (Kw:makesIn K aK=true)
  (aN2:keepIn K (.ref aK)=true)
  (aN3:findIn K (.ref aK) "__class__"=some (some (.builtin "object.__class__")))
  (aN4:mroIn K aK (.type "object")=some true)
  (au5:typeIn K (.ref bh)=some (.type "type"))
  (au6:subIn K (.ref aK) (.ref bh)=some false)
  (zy:findIn K (.ref aK) "logs"=some none)
  (sO:findIn K (.ref aK) "many"=some none)
  (zA:findIn K (.ref aK) "powers"=some none)
  (mR:findIn K (.ref aK) "prime"=some none)
  (Kx:findIn K (.ref aK) "step"=some none)
  (Ky:findIn K (.ref aK) "wide"=some none)
  (Kz:findIn K (.ref aK) "holds"=some (some (.ref wC)))
  (KA:findIn K (.ref aK) "over"=some (some (.ref wB)))
  (zB:findIn K (.ref aK) "step_power"=some (some (.ref f5)))
  (W5:plainGet K cw wF=true)
  (W6:hasDictIn K cw=true)
  (W7:plainOver K cw=true)
  (W8:findIn K (.ref cw) "__setattr__"=some (some (.builtin "object.__setattr__")))
  (KC:makesIn K cw=true)
  (eb0:keepIn K (.ref cw)=true)
  (eb1:findIn K (.ref cw) "__class__"=some (some (.builtin "object.__class__")))
  (eb2:mroIn K cw (.type "object")=some true)
  (eb3:typeIn K (.ref bh)=some (.type "type"))
  (eb4:subIn K (.ref cw) (.ref bh)=some false)
  (Dv:findIn K (.ref cw) "check_rows"=some none)
  (Dw:findIn K (.ref cw) "field"=some none)
  (Dx:findIn K (.ref cw) "length"=some none)
  (KD:findIn K (.ref cw) "message_places"=some none)
  (Dy:findIn K (.ref cw) "size"=some none)
  (Dz:findIn K (.ref cw) "word_rows"=some none)
  (KG:findIn K (.ref cw) "is_word"=some (some (.ref sW)))
  (zD:findIn K (.ref cw) "written"=some (some (.ref sV)))
  (W9:plainGet K bh wF=true)
  (Xa:hasDictIn K bh=true)
  (Xb:plainOver K bh=true)
  (Xc:findIn K (.ref bh) "__setattr__"=some (some (.builtin "object.__setattr__")))
  (KH:makesIn K bh=true)
  (eb5:keepIn K (.ref bh)=true)
  (eb6:findIn K (.ref bh) "__class__"=some (some (.builtin "object.__class__")))
  (eb7:mroIn K bh (.type "object")=some true)
  (DA:findIn K (.ref bh) "check_rows"=some none)
  (zE:findIn K (.ref bh) "extra"=some none)
  (DB:findIn K (.ref bh) "field"=some none)
  (DC:findIn K (.ref bh) "first"=some none)
  (DD:findIn K (.ref bh) "length"=some none)
  (KI:findIn K (.ref bh) "message_places"=some none)
  (DE:findIn K (.ref bh) "size"=some none)
  (DF:findIn K (.ref bh) "word_rows"=some none)
  (KJ:findIn K (.ref bh) "is_word"=some (some (.ref sW)))
  (zF:findIn K (.ref bh) "written"=some (some (.ref sV)))
  (eb8:specialIn K (.ref lN) "__getattribute__"=some (some (.builtin "type.__getattribute__")))
  (eb9:PySem.W.readsIn K lN (.type "type")=true)
  (ec0:PySem.W.findCls K (.ref lN) (.type "type") "__init__"=some (.val (.ref z7)))
  (aN5:specialIn K (.ref kB) "__getattribute__"=some (some (.builtin "type.__getattribute__")))
  (aN6:PySem.W.readsIn K kB (.type "type")=true)
  (aN7:PySem.W.findCls K (.ref kB) (.type "type") "__init__"=some (.val (.ref f6)))
  (ec4:nsIn K mainGlobals "all"=some none)
  (ec5:nsIn K mainGlobals "any"=some none)
  (ec6:nsIn K mainGlobals "bool"=some none)
  (ec7:nsIn K mainGlobals "enumerate"=some none)
  (ec8:nsIn K mainGlobals "int"=some none)
  (ec9:nsIn K mainGlobals "isinstance"=some none)
  (ed0:nsIn K mainGlobals "len"=some none)
  (ed1:nsIn K mainGlobals "list"=some none)
  (ed2:nsIn K mainGlobals "min"=some none)
  (ed3:nsIn K mainGlobals "range"=some none)
  (ed4:nsIn K mainGlobals "sum"=some none)
  (ed5:nsIn K mainGlobals "zip"=some none)
  (F0:aY K "_law_told" "_law_told" HR f0 fd0)
  (F1:aY K "_law_many" "_law_many" HU f1 fd1)
  (F2:aY K "powers_of" "powers_of" HV f2 fd2)
  (F3:aY K "step_powers" "step_powers" HW f3 fd3)
  (F4:aY K "logs_of" "logs_of" HX f4 fd4)
  (F5:aY K "step_power" "Field.step_power" HZ f5 fd5)
  (F6:aY K "__init__" "Field.__init__" Ia f6 fd6)
  (F7:aY K "makes_prime_field" "makes_prime_field" Ib f7 fd7)
  (F9:aY K "product_rows" "product_rows" Ic f9 fd9)
  (Xd:aY K "bits_divided" "bits_divided" Ie Lr dU3)
  (Xe:aY K "stands_alone" "stands_alone" Ig Lu dU4)
  (Xf:aY K "makes_bit_field" "makes_bit_field" Ii nM dU5)
  (Xg:aY K "bits_times" "bits_times" Ij Lw dU6)
  (Xh:aY K "_law_field" "_law_field" Ik Lx dU7)
  (Xi:aY K "_law_cell" "_law_cell" Il Ly dU8)
  (Xj:aY K "_law_mixed" "_law_mixed" Im Lz dU9)
  (Xk:aY K "_law_free_table" "_law_free_table" Io LA dV0)
  (Xl:aY K "width_of" "width_of" Ip LB dV1)
  (Xm:aY K "first_with" "first_with" Iq LC dV2)
  (Mj:aY K "scaled" "BitField.scaled" Ir DV dV3)
  (Ml:aY K "scaled" "PrimeField.scaled" Iu DW dV4)
  (Mm:aY K "lessened" "BitField.lessened" Iw DX dV5)
  (Mn:aY K "lessened" "PrimeField.lessened" Iy uQ dV6)
  (Xn:aY K "cleared" "cleared" Iz LD dV7)
  (Ed:aY K "over" "Field.over" IA wB dV8)
  (Xo:aY K "reduced" "reduced" IB LF dV9)
  (Xp:aY K "copied" "copied" IC LG dW0)
  (Xq:aY K "leads" "leads" ID LH dW1)
  (Xr:aY K "free_places" "free_places" IE LJ dW2)
  (Mo:aY K "minus" "BitField.minus" IF DY dW3)
  (Mp:aY K "minus" "PrimeField.minus" IG DZ dW4)
  (Xs:aY K "kernel_of_reduced" "kernel_of_reduced" IH LK dW5)
  (Mq:aY K "__init__" "Code.__init__" II z7 dW6)
  (Ee:aY K "holds" "Field.holds" IJ wC dW7)
  (Xt:aY K "is_small_table" "is_small_table" IK LL dW8)
  (Xu:aY K "rank" "rank" IL LM dW9)
  (Xv:aY K "turned" "turned" IM LN dX0)
  (Xw:aY K "is_nought" "is_nought" IQ LO dX1)
  (Mr:aY K "times" "BitField.times" IS D0 dX2)
  (Ms:aY K "times" "PrimeField.times" IT D1 dX3)
  (Xx:aY K "past" "past" IU LP dX4)
  (Xy:aY K "first_bound" "first_bound" IV LQ dX5)
  (Xz:aY K "__init__" "CheckCode.__init__" IW D2 dX6)
  (XA:aY K "_law_times" "_law_times" IY LR dX7)
  (XB:aY K "_law_powers" "_law_powers" IZ LS dX8)
  (XC:aY K "_law_root_table" "_law_root_table" Ja LU dX9)
  (XD:aY K "makes_root_code" "makes_root_code" Jb LV dY0)
  (Mt:aY K "distance" "CheckCode.distance" Jc D3 dY1)
  (Mu:aY K "distance" "RepeatCode.distance" Jd D4 dY2)
  (Mv:aY K "distance" "RootCode.distance" Je D6 dY3)
  (XE:aY K "repeat_checks" "repeat_checks" Jf LW dY4)
  (XF:aY K "__init__" "RepeatCode.__init__" Jg D7 dY5)
  (XG:aY K "_law_repeat_table" "_law_repeat_table" Jh LX dY6)
  (XH:aY K "_law_code" "_law_code" Ji LY dY7)
  (XI:aY K "_law_message" "_law_message" Jj LZ dY8)
  (XJ:aY K "_law_second" "_law_second" Jk L4 dY9)
  (XM:aY K "refuse_length" "refuse_length" Jm L5 dZ0)
  (XN:aY K "refuse_no_sign" "refuse_no_sign" Jn L6 dZ1)
  (Mw:aY K "dot" "BitField.dot" Jo D8 dZ2)
  (Mx:aY K "dot" "PrimeField.dot" Jp D9 dZ3)
  (XO:aY K "row_by" "row_by" Jq L7 dZ4)
  (Ab:aY K "written" "Code.written" Jr sV dZ5)
  (XQ:aY K "_law_plus" "_law_plus" Js L8 dZ6)
  (XR:aY K "_law_sum" "_law_sum" Jt L9 dZ7)
  (XS:aY K "_law_whole" "_law_whole" Ju Ma dZ8)
  (XT:aY K "by_column" "by_column" Jv Mb dZ9)
  (Ac:aY K "is_word" "Code.is_word" Jw sW d00)
  (XU:aY K "trimmed" "trimmed" Jx Mc d01)
  (Mz:aY K "plus" "BitField.plus" Jz Ea d02)
  (MA:aY K "plus" "PrimeField.plus" JA Eb d03)
  (XW:aY K "poly_times" "poly_times" JB Md d04)
  (XX:aY K "less_root" "less_root" JC Me d05)
  (XY:aY K "by_roots" "by_roots" JE Mg d06)
  (MB:aY K "maker" "RootCode.maker" JF Ec d07)
  (l8:K.lookup f8=some ⟨oc8,od8,.func (fnOf "__init__" "PrimeField.__init__" (iV oG) (gr oG) (aM oG) .none kV8 dc8 pm8 an8 (.ref zX) ct8),sl8⟩)
  (c8:codeIn K (.ref zX) "PrimeField.__init__"=true)
  (k8:keepIn K (.ref f8)=true)
  (aS7:K.lookup zX=some ⟨aD8,aD6,.fields WA,aD7⟩)
  (aS8:WA[11]?=some (.ref je))
  (aD9:codeHdIn K zX je=true)
  (l14:K.lookup zY=some ⟨dR5,dR0,.func (fnOf "__init__" "BitField.__init__" (iV oH) (gr oH) (aM oH) .none dR6 dR7 dR8 dR3 (.ref zZ) dR9),dR4⟩)
  (c14:codeIn K (.ref zZ) "BitField.__init__"=true)
  (k14:keepIn K (.ref zY)=true)
  (aS9:K.lookup zZ=some ⟨aI2,aI0,.fields WB,aI1⟩)
  (aT0:WB[11]?=some (.ref jf))
  (aI3:codeHdIn K zZ jf=true)
  (l49:K.lookup z5=some ⟨dS5,dS3,.func (fnOf "__init__" "RootCode.__init__" (iV oI) (gr oI) (aM oI) (.ref Lo) WD WE WG WC Ln WH),dS4⟩)
  (ee2:K.lookup Lo=some ⟨dS6,dS8,.seq #[dS7] dT0,dS9⟩)
  (c49:codeIn K Ln "RootCode.__init__"=true)
  (k49:keepIn K (.ref z5)=true)
  (l77:K.lookup Lq=some ⟨dT3,dT1,.func (fnOf "law" "law" (iV oJ) (gr oJ) (aM oJ) .none WJ WK WL WI Lp WM),dT2⟩)
  (c77:codeIn K Lp "law"=true)
  (k77:keepIn K (.ref Lq)=true)
  (ax7:(eA aI==eA bh)=false)
  (ax8:(clsIn K bh).isSome=true)
  (ef0:(eA bU==eA bh)=false)
  (ef1:(clsIn K bh).isSome=true)
  (au7:(eA aK==eA bh)=false)
  (au8:(clsIn K bh).isSome=true)
  (ef4:(eA cw==eA bh)=false)
  (ef5:(clsIn K bh).isSome=true)
  (nl:K.all (λp=>Gp p.2)=true)
  (sub:∀P∈[je,jf],P∈ts) :
  ∃fd:FuncData,(∀(s:Shared) (v:Value),BindsTo s fd ⟨[v],[]⟩ [("_law_script",v)])/\∀base:Heap,K.In base->base.Ns mainGlobals mg->Bm mg base->aN l.prog w K mg base aP 12 fa fd ["_law_script"] (BN ts K):=by
 have e:=hfa.symm.trans (mg_of X G WR)
 cases e
 have F8:=Bk (st:=oG) l8 c8 k8
 have b8:=F8.binds (ps:=["self","prime"]) λ_ _ _ _ _ _=>eR (λ_ _=>rfl)
 have XZ:=Bk (st:=oH) l14 c14 k14
 have b14:=XZ.binds (ps:=["self","bits"]) λ_ _ _ _ _ _=>eR (λ_ _=>rfl)
 have F49:=cx9 (st:=oI) l49 c49 k49
 have b49:=cK3 (ps:=["self","field","length","extra","first"]) (fd:=fnOf "__init__" "RootCode.__init__" (iV oI) (gr oI) (aM oI) (.ref Lo) WD WE WG WC Ln WH) rfl ee2 rfl (Ru (λ_ _ _ _ _=>⟨_,rfl,rfl⟩))
 have X0:=Bk (st:=oJ) l77 c77 k77
 have b77:=X0.binds (ps:=["_law_script"]) λ_ _ _ _ _ _=>gh (λ_=>rfl)
 have T:Txt K mg ⟨f0,_,f1,_,f2,_,f3,_,f4,_,f5,_,f6,_,f7,_,f8,_,f9,_,Lr,_,Lu,_,nM,_,Lw,_,zY,_,Lx,_,Ly,_,Lz,_,LA,_,LB,_,LC,_,DV,_,DW,_,DX,_,uQ,_,LD,_,wB,_,LF,_,LG,_,LH,_,LJ,_,DY,_,DZ,_,LK,_,z7,_,wC,_,LL,_,LM,_,LN,_,LO,_,D0,_,D1,_,LP,_,LQ,_,D2,_,LR,_,LS,_,LU,_,LV,_,z5,_,D3,_,D4,_,D6,_,LW,_,D7,_,LX,_,LY,_,LZ,_,L4,_,L5,_,L6,_,D8,_,D9,_,L7,_,sV,_,L8,_,L9,_,Ma,_,Mb,_,sW,_,Mc,_,Ea,_,Eb,_,Md,_,Me,_,Mg,_,Ec,_,fa,_,zX,je,zZ,jf,aI,bU,lN,kB,aK,cw,bh⟩:=⟨⟨F0,mg_of X G a0,F0.binds λ_ _ _ _ _ _=>gh λ_=>rfl⟩,⟨F1,mg_of X G a1,F1.binds λ_ _ _ _ _ _=>gh λ_=>rfl⟩,⟨F2,mg_of X G a2,F2.binds λ_ _ _ _ _ _=>eR λ_ _=>rfl⟩,⟨F3,mg_of X G a3,F3.binds λ_ _ _ _ _ _=>eR λ_ _=>rfl⟩,⟨F4,mg_of X G a4,F4.binds λ_ _ _ _ _ _=>gh λ_=>rfl⟩,⟨F5,F5.binds λ_ _ _ _ _ _=>eR λ_ _=>rfl⟩,⟨F6,F6.binds λ_ _ _ _ _ _=>fu λ_ _ _=>rfl⟩,⟨F7,mg_of X G a7,F7.binds λ_ _ _ _ _ _=>gh λ_=>rfl⟩,⟨F8,b8⟩,⟨F9,mg_of X G a9,F9.binds λ_ _ _ _ _ _=>eR λ_ _=>rfl⟩,⟨Xd,mg_of X G a10,Xd.binds λ_ _ _ _ _ _=>eR λ_ _=>rfl⟩,⟨Xe,mg_of X G a11,Xe.binds λ_ _ _ _ _ _=>gh λ_=>rfl⟩,⟨Xf,mg_of X G a12,Xf.binds λ_ _ _ _ _ _=>gh λ_=>rfl⟩,⟨Xg,mg_of X G a13,Xg.binds λ_ _ _ _ _ _=>eR λ_ _=>rfl⟩,⟨XZ,b14⟩,⟨Xh,mg_of X G a15,Xh.binds λ_ _ _ _ _ _=>gh λ_=>rfl⟩,⟨Xi,mg_of X G a16,Xi.binds λ_ _ _ _ _ _=>eR λ_ _=>rfl⟩,⟨Xj,mg_of X G a17,Xj.binds λ_ _ _ _ _ _=>eR λ_ _=>rfl⟩,⟨Xk,mg_of X G a18,Xk.binds λ_ _ _ _ _ _=>Ru λ_ _ _ _ _=>rfl⟩,⟨Xl,mg_of X G a19,Xl.binds λ_ _ _ _ _ _=>gh λ_=>rfl⟩,⟨Xm,mg_of X G a20,Xm.binds λ_ _ _ _ _ _=>eR λ_ _=>rfl⟩,⟨Mj,Mj.binds λ_ _ _ _ _ _=>fu λ_ _ _=>rfl⟩,⟨Ml,Ml.binds λ_ _ _ _ _ _=>fu λ_ _ _=>rfl⟩,⟨Mm,Mm.binds λ_ _ _ _ _ _=>sE λ_ _ _ _=>rfl⟩,⟨Mn,Mn.binds λ_ _ _ _ _ _=>sE λ_ _ _ _=>rfl⟩,⟨Xn,mg_of X G a25,Xn.binds λ_ _ _ _ _ _=>sE λ_ _ _ _=>rfl⟩,⟨Ed,Ed.binds λ_ _ _ _ _ _=>fu λ_ _ _=>rfl⟩,⟨Xo,mg_of X G a27,Xo.binds λ_ _ _ _ _ _=>eR λ_ _=>rfl⟩,⟨Xp,mg_of X G a28,Xp.binds λ_ _ _ _ _ _=>gh λ_=>rfl⟩,⟨Xq,mg_of X G a29,Xq.binds λ_ _ _ _ _ _=>gh λ_=>rfl⟩,⟨Xr,mg_of X G a30,Xr.binds λ_ _ _ _ _ _=>eR λ_ _=>rfl⟩,⟨Mo,Mo.binds λ_ _ _ _ _ _=>fu λ_ _ _=>rfl⟩,⟨Mp,Mp.binds λ_ _ _ _ _ _=>fu λ_ _ _=>rfl⟩,⟨Xs,mg_of X G a33,Xs.binds λ_ _ _ _ _ _=>fu λ_ _ _=>rfl⟩,⟨Mq,Mq.binds λ_ _ _ _ _ _=>fu λ_ _ _=>rfl⟩,⟨Ee,Ee.binds λ_ _ _ _ _ _=>eR λ_ _=>rfl⟩,⟨Xt,mg_of X G a36,Xt.binds λ_ _ _ _ _ _=>eR λ_ _=>rfl⟩,⟨Xu,mg_of X G a37,Xu.binds λ_ _ _ _ _ _=>eR λ_ _=>rfl⟩,⟨Xv,mg_of X G a38,Xv.binds λ_ _ _ _ _ _=>gh λ_=>rfl⟩,⟨Xw,mg_of X G a39,Xw.binds λ_ _ _ _ _ _=>gh λ_=>rfl⟩,⟨Mr,Mr.binds λ_ _ _ _ _ _=>fu λ_ _ _=>rfl⟩,⟨Ms,Ms.binds λ_ _ _ _ _ _=>fu λ_ _ _=>rfl⟩,⟨Xx,mg_of X G a42,Xx.binds λ_ _ _ _ _ _=>fu λ_ _ _=>rfl⟩,⟨Xy,mg_of X G a43,Xy.binds λ_ _ _ _ _ _=>eR λ_ _=>rfl⟩,⟨Xz,Xz.binds λ_ _ _ _ _ _=>fu λ_ _ _=>rfl⟩,⟨XA,mg_of X G a45,XA.binds λ_ _ _ _ _ _=>fu λ_ _ _=>rfl⟩,⟨XB,mg_of X G a46,XB.binds λ_ _ _ _ _ _=>gh λ_=>rfl⟩,⟨XC,mg_of X G a47,XC.binds λ_ _ _ _ _ _=>sE λ_ _ _ _=>rfl⟩,⟨XD,mg_of X G a48,XD.binds λ_ _ _ _ _ _=>sE λ_ _ _ _=>rfl⟩,F49,b49,⟨Mt,Mt.binds λ_ _ _ _ _ _=>gh λ_=>rfl⟩,⟨Mu,Mu.binds λ_ _ _ _ _ _=>gh λ_=>rfl⟩,⟨Mv,Mv.binds λ_ _ _ _ _ _=>gh λ_=>rfl⟩,⟨XE,mg_of X G a53,XE.binds λ_ _ _ _ _ _=>eR λ_ _=>rfl⟩,⟨XF,XF.binds λ_ _ _ _ _ _=>fu λ_ _ _=>rfl⟩,⟨XG,mg_of X G a55,XG.binds λ_ _ _ _ _ _=>eR λ_ _=>rfl⟩,⟨XH,mg_of X G a56,XH.binds λ_ _ _ _ _ _=>eR λ_ _=>rfl⟩,⟨XI,mg_of X G a57,XI.binds λ_ _ _ _ _ _=>sE λ_ _ _ _=>rfl⟩,⟨XJ,mg_of X G a58,XJ.binds λ_ _ _ _ _ _=>fu λ_ _ _=>rfl⟩,⟨XM,mg_of X G a59,XM.binds λ_ _ _ _ _ _=>eR λ_ _=>rfl⟩,⟨XN,mg_of X G a60,XN.binds λ_ _ _ _ _ _=>eR λ_ _=>rfl⟩,⟨Mw,Mw.binds λ_ _ _ _ _ _=>fu λ_ _ _=>rfl⟩,⟨Mx,Mx.binds λ_ _ _ _ _ _=>fu λ_ _ _=>rfl⟩,⟨XO,mg_of X G a63,XO.binds λ_ _ _ _ _ _=>fu λ_ _ _=>rfl⟩,⟨Ab,Ab.binds λ_ _ _ _ _ _=>eR λ_ _=>rfl⟩,⟨XQ,mg_of X G a65,XQ.binds λ_ _ _ _ _ _=>fu λ_ _ _=>rfl⟩,⟨XR,mg_of X G a66,XR.binds λ_ _ _ _ _ _=>fu λ_ _ _=>rfl⟩,⟨XS,mg_of X G a67,XS.binds λ_ _ _ _ _ _=>gh λ_=>rfl⟩,⟨XT,mg_of X G a68,XT.binds λ_ _ _ _ _ _=>fu λ_ _ _=>rfl⟩,⟨Ac,Ac.binds λ_ _ _ _ _ _=>eR λ_ _=>rfl⟩,⟨XU,mg_of X G a70,XU.binds λ_ _ _ _ _ _=>gh λ_=>rfl⟩,⟨Mz,Mz.binds λ_ _ _ _ _ _=>fu λ_ _ _=>rfl⟩,⟨MA,MA.binds λ_ _ _ _ _ _=>fu λ_ _ _=>rfl⟩,⟨XW,mg_of X G a73,XW.binds λ_ _ _ _ _ _=>fu λ_ _ _=>rfl⟩,⟨XX,mg_of X G a74,XX.binds λ_ _ _ _ _ _=>eR λ_ _=>rfl⟩,⟨XY,mg_of X G a75,XY.binds λ_ _ _ _ _ _=>eR λ_ _=>rfl⟩,⟨MB,MB.binds λ_ _ _ _ _ _=>gh λ_=>rfl⟩,⟨X0,mg_of X G WR,b77⟩,rfl,aD9,rfl,aI3,⟨WS,WT,WU,WV⟩,⟨Ko,a14,d15,aQ8⟩,⟨⟨WS,WT,WU,WV⟩,aQ9,z9,Aa,aR0⟩,BJ ax7 ax8 ax5 ax6,Kp,wo,sN,wq,qj,Kq,Kr,⟨a61,d76,Mw.kp⟩,⟨Ks,WQ,Ee.kp⟩,⟨a23,d27,Mm.kp⟩,⟨a31,d36,Mo.kp⟩,⟨Kt,WO,Ed.kp⟩,⟨a71,d87,Mz.kp⟩,⟨a21,d23,Mj.kp⟩,⟨zw,WN,F5.kp⟩,⟨a40,d45,Mr.kp⟩,⟨WW,WX,WY,WZ⟩,⟨Dm,a44,d51,ea0⟩,⟨⟨WW,WX,WY,WZ⟩,ea1,z9,Aa,ea2⟩,BJ ef0 ef1 ea3 ea4,Dn,Dq,Dr,Ds,Ku,Dt,Du,⟨a50,d61,Mt.kp⟩,⟨Kv,Mi,Ac.kp⟩,⟨zx,Mh,Ab.kp⟩,⟨W0,W2,W3,W4⟩,⟨Kw,a8,mf8,aN2⟩,⟨⟨W0,W2,W3,W4⟩,aN3,z9,Aa,aN4⟩,BJ au7 au8 au5 au6,zy,sO,zA,mR,Kx,Ky,⟨a62,d78,Mx.kp⟩,⟨Kz,WQ,Ee.kp⟩,⟨a24,d29,Mn.kp⟩,⟨a32,d38,Mp.kp⟩,⟨KA,WO,Ed.kp⟩,⟨a72,d89,MA.kp⟩,⟨a22,d25,Ml.kp⟩,⟨zB,WN,F5.kp⟩,⟨a41,d47,Ms.kp⟩,⟨W5,W6,W7,W8⟩,⟨KC,a54,d68,eb0⟩,⟨⟨W5,W6,W7,W8⟩,eb1,z9,Aa,eb2⟩,BJ ef4 ef5 eb3 eb4,Dv,Dw,Dx,KD,Dy,Dz,⟨a51,d63,Mu.kp⟩,⟨KG,Mi,Ac.kp⟩,⟨zD,Mh,Ab.kp⟩,⟨W9,Xa,Xb,Xc⟩,⟨KH,a49,d58,eb5⟩,⟨⟨W9,Xa,Xb,Xc⟩,eb6,z9,Aa,eb7⟩,cG3,DA,zE,DB,DC,DD,KI,DE,DF,⟨a52,d65,Mv.kp⟩,⟨KJ,Mi,Ac.kp⟩,⟨a76,d94,MB.kp⟩,⟨zF,Mh,Ab.kp⟩,⟨eb8,eb9,ec0,Mq.kp⟩,⟨aN5,aN6,aN7,F6.kp⟩,mg_none_of X G ec4,mg_none_of X G ec5,mg_none_of X G ec6,mg_none_of X G ec7,mg_none_of X G ec8,mg_none_of X G ec9,mg_none_of X G ed0,mg_none_of X G ed1,mg_none_of X G ed2,mg_none_of X G ed3,mg_none_of X G ed4,mg_none_of X G ed5,mg_of X G KN,mg_of X G DG,mg_of X G zJ,mg_of X G DH,mg_of X G KO,mg_of X G KP,mg_of X G DI⟩
 exact⟨fnOf "law" "law" (iV oJ) (gr oJ) (aM oJ) .none WJ WK WL WI Lp WM,λs v=>.of_eq rfl,λbase _ _ hB=>(cH6 T hB).imp λvs H Q E h=>let z:=ci4 nl h;⟨λP hP=>z.1 P (sub P hP),z.2⟩⟩
theorem aE0{K:Frag}{h:Heap}{c f k P:Addr}{od an:Option Addr}{sl:Array (Option Value)}{oc kV dc pm ct kt:Value}{ko:Option Addr}{ks:Array (Option Value)}{kf:Array Value}(X:K.In h)(a:nsIn K mainGlobals "PrimeField"=some (some (.ref c)))(b:findIn K (.ref c) "__init__"=some (some (.ref f)))
  (l:K.lookup f=some ⟨oc,od,.func (fnOf "__init__" "PrimeField.__init__" (iV oG) (gr oG) (aM oG) .none kV dc pm an (.ref k) ct),sl⟩) (lk:K.lookup k=some ⟨kt,ko,.fields kf,ks⟩) (lp:kf[11]?=some (.ref P)) (n:K.lookup P=none) (e:codeHdIn K k P=true):K.lookup P=none/\∃c,CodeHd h c P:=⟨n,k,PySem.W.codeHd_of_K X e⟩
theorem aI4{K:Frag}{h:Heap}{c f k P:Addr}{od an:Option Addr}{sl:Array (Option Value)}{oc kV dc pm ct kt:Value}{ko:Option Addr}{ks:Array (Option Value)}{kf:Array Value}(X:K.In h)(a:nsIn K mainGlobals "BitField"=some (some (.ref c)))(b:findIn K (.ref c) "__init__"=some (some (.ref f)))
  (l:K.lookup f=some ⟨oc,od,.func (fnOf "__init__" "BitField.__init__" (iV oH) (gr oH) (aM oH) .none kV dc pm an (.ref k) ct),sl⟩) (lk:K.lookup k=some ⟨kt,ko,.fields kf,ks⟩) (lp:kf[11]?=some (.ref P)) (n:K.lookup P=none) (e:codeHdIn K k P=true):K.lookup P=none/\∃c,CodeHd h c P:=⟨n,k,PySem.W.codeHd_of_K X e⟩
theorem walk{l:PySem.W.OpenLaw}{q:Program}{loose:List Str}{XP:(Str->Option Value)->Heap->Prop}{YP:World->Heap->Prop}{d:DefRec}{K:Params->Frag}{ts:List Addr}(hn:l.most=some 63)(xt:d.params.defaults=[])
  (hY:∀(w:World) (h:Heap),YP w h->(K w.params).In h/\∀P∈ts,h.get? P=some (PySem.W.tabObj #[]))
  (hC:∀(w:World) (h:Heap),(K w.params).In h->∀P∈ts,(K w.params).lookup P=none/\∃c,CodeHd h c P)
  (F:∀(w:World) (mg:Str->Option Value) (fa:Addr) (h:Heap),(K w.params).In h->h.Ns mainGlobals mg->mg d.name=some (.ref fa) ->
   ∃fd:FuncData,(∀(s:Shared) (u:Value),BindsTo s fd ⟨[u],[]⟩ [("_law_script",u)])/\∀base:Heap,(K w.params).In base->base.Ns mainGlobals mg->Bm mg base->aN l.prog w (K w.params) mg base aP 12 fa fd ["_law_script"] (BN ts (K w.params))) :
  PySem.W.WalkO q loose XP YP l.row.toRowW d [] (λf vs=>PySem.call f vs) :=
 L2.dc3 (n:=63) (k:=12) (x:="_law_script") (CX:=λ_=>aP) (sp:=λw=>BN ts (K w.params)) hn (by decide) xt ⟨rfl,by decide,by decide⟩ hY hC F (λ_ _ a ns hl hO hS=>⟨a,ns,rfl,hO,hS,hl,λ_=>rfl⟩) λ_ _ _ _ _ z=>z
end HK38
set_option genInjectivity false in
set_option genSizeOf false in
structure PySem.W.Fast:Prop where
 (tw12770320105917812736 tw10733084250323658784 tw17083872286407970848 tw14965802236024250400 tw14755212204672059456 tw1897892772040102976 tw6480242789842545728 tw6314582892589359264 tw12372171765688911040 tw16856768843839935712 tw11294748206771686656 tw14109104873282465024 tw755804919238615328 tw17148162439028464960 tw12459780788647695776 tw9421864240559819200 tw3164958782781416928 tw1829404115680042496 tw4359752468456220160 tw8218111811950230016 tw10029005103930428928 tw17153127840506891776 tw12602295542048960128 tw16895242984654222976 tw5566246409788543648 tw2584685590286085824 tw1920428874267959008 tw7741808345222865632 tw2923720043495395072 tw6335693940273428224 tw7222192743747873536 tw1401695529287777024 tw17191807929418390304 tw7123873531900796768 tw17111743491850015616 tw12197844568529088384 tw2771612906072344480 tw4057202301775854496 tw5226039222333648864 tw10489107208039532609:True)
 (tw2853206783533780033 tw7784804331749553249 tw17325264110356065409 tw8877172946522760353 tw1981534984502599937 tw13281785689870638401 tw9470694850722779457 tw12209047299228324161 tw16090564523141303649 tw7218133898286817633 tw2712692333786112385 tw14578670998347626881 tw9643657629578424769 tw16576079773125097985 tw1745103928906724897 tw17184300264487093857 tw2922149857677739649 tw1702221508882181793 tw10784841979356989089 tw10180344937526449825 tw8392883484748975809 tw2808858086632377057 tw10609651095104516833 tw1757826178357719905 tw17923995635567983489 tw7206125266684027809 tw13400698539441394657 tw18254466166782688225 tw11329102810451380226 tw12253197423359137890 tw16763721730535479426 tw4098175875605567650 tw12949443266510839970 tw1953941152575205570 tw5870186570743015618 tw7005163655662451938 tw17795695680832815330 tw1652471940102508770 tw438239844234176770 tw12290643084278094082:True)
 (tw13920112241164477730 tw6130972292081299810 tw13575361469358338434 tw7465978746056951202 tw16603013955600333250 tw17254539917504908770 tw7155688983110152706 tw5447009315040120354 tw5081523216736807490 tw5555722288360809058 tw15293305498398787202 tw12169351548832920258 tw8976625074021250754 tw9573757825270006498 tw12828344457010877186 tw5754827307769308930 tw13683746959145972482 tw10514495311812062018 tw15694028254772530018 tw11394265737517370210 tw7818956950593878946 tw11312162019958522818 tw1688380145123104706 tw11539409725058668514 tw13435445863427347459 tw7322399566957920259 tw11565692781105335299 tw6884972813724901379 tw12570360684106425379 tw9994810804985279555 tw10633205941848659011 tw3575047727096573027 tw15048692843298964579 tw6334964864728298627 tw6888662971053586595 tw3685760583350439075 tw11141454293257043139 tw4679995117606748355 tw4633459541053795523 tw12963432841290610883:True)
 (tw9555897858176809155 tw11670397332892909795 tw13610837255119607011 tw666187204507154659 tw7336856314377222371 tw17727917924760374531 tw16165730733233920291 tw10873057736061242691 tw8942860854437441859 tw5253955795351004579 tw8232196849423733187 tw5404511224541403619 tw4075415550999589347 tw2777232965917884963 tw508511837193003555 tw14232258800006206019 tw13532610132215343683 tw17331633337837277795 tw2606719472517341891 tw6974328613347390147 tw3603042903804886755 tw3143592916475181795 tw18290907533369235203 tw11032570357520520995 tw11971372812878124867 tw9347280769063541603 tw13884458402888215395 tw9823611118485790595 tw4300518895432593283 tw12574065627702134691 tw2945635096319365059 tw9585489468571265987 tw14550908772034672611 tw3568156721276464196 tw14673662880495094884 tw17619359886424507556 tw17613210275510790340 tw12615898715380774116 tw13961686997425649892 tw15395308541041325380:True)
 (tw7090844065004810564 tw13250904796125697444 tw3838777296771824100 tw7921991844063010276 tw11331092225652402692 tw7440805842481164804 tw1830463739945797316 tw10672473158891133668 tw3874560126683603684 tw6920668557362458340 tw2142816988378504964 tw3107541039332638468 tw14686134008225617700 tw9146946051726915396 tw476014629285154628 tw5475718165720695716 tw11522377392513140644 tw4602797458654099364 tw11642685931494795269 tw5218990933019674661 tw10176939139591113797 tw15697273164424157285 tw5480101749043671141 tw9388718565029658757 tw12700922583338826917 tw6828094047078268069 tw3759383049485898917 tw11947962800549526693 tw12054937724375939301 tw2502222294750163173 tw17740947600999654661 tw8220811537808815365 tw16616302118593924421 tw11796929637095904613 tw8450989685989156197 tw1247263019369506213 tw15841612393749168549 tw228133807885105605 tw9934913073679321541 tw16928511932845321669:True)
 (tw13262573338725393989 tw5150705712163306053 tw10134584945677125189 tw13687866310595137093 tw8823389677479255621 tw15277186864434769477 tw4380660392824373893 tw8376071135575574149 tw15778852708005601925 tw9752673481826675397 tw16449186114922949317 tw201449264458807045 tw16387689644660027173 tw6614455309691993989 tw15862661677490061189 tw14047905641153119109 tw3717919184387046277 tw3386908212472989605 tw13129671046106815429 tw2409384142353887173 tw16708660731440808966 tw981549707563061254 tw3303441228635969574 tw379567469363716166 tw13865001089220314214 tw6282331570218896486 tw8350994846691039334 tw9988513236388851878 tw6500600564487958726 tw13253484778453275910 tw754396325144115462 tw10819816165566414150 tw198099680687436134 tw12260747883014548838 tw203525578498966950 tw909934505691994534 tw611274287576664518 tw6378674057742125542 tw11175146581405611494 tw4013776781845576198:True)
 (tw766031616640869062 tw4238926511129518790 tw605346167796525798 tw12546793087108942598 tw11567801156817096454 tw6297747919654662918 tw5647630628201187142 tw5279996965774617478 tw1463671923591646118 tw8775415382499520454 tw9571695171369774087 tw6010539535426173959 tw10409308658851636231 tw8380599086234253383 tw13278075045183068295 tw13579578492944786567 tw15143221825098272903 tw17641819009387746439 tw16256950853117505799 tw14729930966013987111 tw13650240714627027271 tw8628973337994859847 tw13800985343778410823 tw5881269666270507335 tw15416746844096126311 tw2238167107039777159 tw3869647481183160743 tw16651103036144427527 tw13303532895596248583 tw2430338844629578311 tw15611763831947960935 tw5153287231892471399 tw5156652971205635751 tw2392419209949792935 tw2973123636315937447 tw8632539009427889863 tw3499805383383128807 tw8810678958901468903 tw11422421584748790631 tw5564394678293612391:True)
 (tw11357893405676179367 tw8552763592183323591 tw12499723897167203271 tw2019295604800124871 tw5581010914686832615 tw553338392131372040 tw7623981009786756104 tw671079499034793064 tw16698219354252418152 tw5559508544402854056 tw6202237216661226696 tw441123548070928712 tw842155364679398760 tw7085204810877982056 tw1334632015163014536 tw15855615837057032616 tw5980222051929704936 tw3222869143456220680 tw1639916719491089928 tw18096212358165473800 tw16087584249746757160 tw5295484001452602952 tw1948153782407566952 tw2904397810486555240 tw3989683985416539784 tw2382622731853716136 tw17612423913630869192 tw17183780499428863688 tw8842360760818880232 tw11819252497313047304 tw148583915430127368 tw2868466802035849992 tw18294192218593600296 tw6916338037083800424 tw12974222342133909384 tw6952068348078234504 tw17354673512436564904 tw3596456185898525608 tw12198837104110794664 tw6619982183428560840:True)
 (tw5763477100060277736 tw13663614688127699977 tw9489568367392187497 tw18175345289530361065 tw1880827527026149673 tw6953405024249575721 tw695187278162958665 tw12278820306092148073 tw2739084213321348489 tw9988331940218723753 tw2419508606247080425 tw8154788665519138281 tw8172412531585478121 tw17164665265096685033 tw6574299931801014825 tw11949102499875026473 tw10798480301402690121 tw4281745348852066889 tw2280904551792151145 tw8402250964849687273 tw10252587981339319113 tw10585178688176717673 tw8891225993634649993 tw15132542293396498313 tw8602203263661635497 tw11613572196384723945 tw12907771235504449546 tw4474282617551563818 tw16566196468621036586 tw9755892349476143178 tw8208050542794557514 tw15626391205836873834 tw13805324816870610058 tw1879189362547022986 tw14649318301658025130 tw11692749212040502442 tw4395742683110534346 tw11188972818964681962 tw11251637084519427306 tw17816200880824900874:True)
 (tw9446854652349391146 tw1962279175245178186 tw15628979229928305994 tw14194192160212947370 tw1895341653510173130 tw5913105002378230218 tw4857269266975747594 tw7284940865739017770 tw14466888969795473002 tw6656464932108024458 tw14690592638736004746 tw15973948650108180170 tw13168428233971267274 tw12904936560520756938 tw4629018896846117642 tw14701044366056768298 tw16389340691105552202 tw12420990288571368298 tw6660562079704174442 tw7472021163715134346 tw11738547556136520586 tw14265541771831532426 tw5748824018159113130 tw11953664351507914698 tw4889232154992497675 tw17419682708287505515 tw11254515655099335819 tw484239468968736907 tw18409611671983075499 tw61995264480409803 tw17937851488264532203 tw9119137130863206699 tw15011099596768688427 tw5179623936405554507 tw5203829671821959499 tw1886365615774596459 tw13467115109187704235 tw18127460444445321675 tw10461055163886988747 tw13258323317927509451:True)
 (tw16362247580708188651 tw2040401767603226091 tw14015359424241388075 tw17637669842972934731 tw13029620821594534507 tw13036086759697091211 tw18211320984017447595 tw15722549056524745387 tw15312400640530570955 tw11049350116363181803 tw6931256455494660843 tw6119350207035545355 tw15972508393209450283 tw7347179044090280747 tw4172831523189809995 tw16952498156814877579 tw16288831500234676107 tw2099376479074970539 tw2450937316348444748 tw10861280038562349132 tw14445056561634199660 tw12624643834348795020 tw7146014523665754284 tw3924401302529664172 tw14306971784118733004 tw2468128704003773644 tw17779705693040709964 tw10032340079332976972 tw10011630570138404236 tw12573249966541681036 tw890583241533490796 tw4214899148084191852 tw1004602634099867244 tw6886724050468499052 tw4905757158241174188 tw14564430462081440428 tw13332935516478808780 tw14764554594602505932 tw17253763835131348716 tw15398447849443571468:True)
 (tw10314711443976496972 tw16993815115637243724 tw16563475428324908908 tw17486850191752808300 tw366392763558380460 tw14384325654162314188 tw15872556084526007244 tw14714871887714469836 tw13010727858665556972 tw10659460569680166892 tw978412151710538732 tw16652042475678306381 tw5255039926437321837 tw3089532457185387661 tw5579197175997335725 tw2537655494029143309 tw3277918050223880461 tw10108356137588327725 tw7649677625448977773 tw13558312201686182253 tw4024318284571679117 tw13036400769301519757 tw15357077719325751693 tw1386516004657504717 tw6752880930370479565 tw11634598679707184589 tw7113091353403045357 tw17051835484089277933 tw10637970356093245997 tw18361624802795165293 tw10438568557887625869 tw6146845988388319885 tw6799587289663513261 tw6228517657530094285 tw6667879534385980109 tw14089048818078822125 tw17677592017430799213 tw18375182181909104525 tw12245341681902000045 tw5709564803130855373:True)
 (tw18169670027585599437 tw6739664843421655021 tw10107012048885370861 tw13141465979686984718 tw7599172688740988942 tw12756129394329435150 tw723588657808559118 tw9895976709666553934 tw6570557872250138766 tw14421741182446689422 tw6317727409359549678 tw14351761043740656942 tw11652481325769867566 tw8247273407817703726 tw10327928362851567950 tw9965979330626087246 tw11961117988405514606 tw9437015786627215726 tw4402798426523828622 tw14981964902546220430 tw16420497905063200174 tw2489257884894079406 tw396473287517917614 tw17522181468368513486 tw9472938340349228526 tw8031409023544019438 tw2629705927395611150 tw13066303018051751438 tw12679639912800666222 tw8317361798806950510 tw7045759802936011406 tw3451122163162844846 tw904135365012086446 tw10292533129797853870 tw4903989332499922606 tw3682125109972074158 tw8767821558092698318 tw1055872673108964078 tw13057489836996366126 tw11970919611306577710:True)
 (tw9985878919204938542 tw12647583918312173390 tw7105212411073134414 tw15211511991026274158 tw9274757313251001230 tw8900669977617450926 tw17473713096490457038 tw10221461228350537678 tw5420422898899573742 tw16163936327917355023 tw16165139696123822095 tw8198963828249515023 tw12021001686900450351 tw10500854404140975151 tw5481590851585314895 tw13464744793180112015 tw17948655058036479119 tw10375039986573305999 tw16481919001283151055 tw5704817808400539855 tw6282040857175285967 tw16322144908419857679 tw10808202498699109743 tw8218360982452493679 tw922768833164770703 tw10326631936795547119 tw10454798018245952047 tw6760591644742138415 tw9006374787897803311 tw2179027967203168815 tw18093137328359429679 tw18021406618988541487 tw1435930702704579183 tw14574589258804987535 tw15958317162040386191 tw7667935299461504687 tw14557329470423428783 tw3936911514729969359 tw401903104119929551 tw16618155775562080015:True)
 (tw4303941489603723055 tw5431283116811844399 tw8776218295345110895 tw6214132008331674543 tw4033774393305801647 tw8891489093704864687 tw9904616040696338351 tw15104054378532961199 tw10602707126555049903 tw12884537139061966799 tw8163360870278662127 tw2933417910146640879 tw11325274661736260624 tw6459371717343233072 tw9697585347189900368 tw9933083315265646704 tw4421010356865932432 tw3703013778307933392 tw17167730150778439888 tw15918405323512158480 tw2251048378022822224 tw13408377188214507856 tw17819383627455811920 tw17259550756392705456 tw16802151679328471504 tw15020230926509061616 tw4253742199424137776 tw6652508994840326736 tw12207239538737911408 tw15613261426758822512 tw3324214076479814256 tw8911259111090157168 tw11346953657068088016 tw6115401851858541360 tw6272500268326039376 tw18047432159152518992 tw9302640098686897008 tw4005264502863536016 tw14151786847805911984 tw17375662216042523600:True)
 (tw4848552755569319920 tw11589057838169104401 tw16448033460112245809 tw4961069857185016913 tw4247502201363863665 tw15178400453082929297 tw3670269648766613681 tw11838295460046052561 tw11843608850890761489 tw1905786577757235505 tw8882086450809363825 tw943041204785195409 tw2504594034441517457 tw9556730983942931889 tw5557961128522927569 tw3393060998742233553 tw4208114076464452081 tw14259079763468637681 tw1706561753600565777 tw16537006900857951761 tw1785550863256456753 tw18372260723655421489 tw13996495571707893329 tw5044568375165403729 tw5943663247750526577 tw16596742575110665905 tw10134350582889113265 tw7983644852543142641 tw2124898267848758033 tw10050052254242266897 tw11182529286005949233 tw18269786420999239473 tw18299717021172540241 tw3971093153330683761 tw12404300696452074385 tw3930454710354154385 tw10415432547609511857 tw12653152171092215729 tw14173477368175219633 tw16941106403125011441:True)
 (tw5670141574508053522 tw8436622455107377202 tw13934537059013850226 tw4911641466129720466 tw15992691039093758130 tw1924396780730042546 tw3763207409252461746 tw18343042565324110002 tw16226621435262539986 tw14131868885667348754 tw4342637945741444370 tw2720930109727843602 tw1428810695427496242 tw8756697564385334610 tw4753865099600356690 tw10197031729509333330 tw16182218904066237810 tw7384031574359999890 tw16734072073470486930 tw18366530492892282258 tw11868535879008721330 tw12766758234961751474 tw1522721499117727282 tw14345704855239481970 tw8667781200061482642 tw8103082302417432210 tw15386951175622262418 tw7889144983749497522 tw18328248160904332978 tw4177846513058373298 tw11466832073396064978 tw13684915565652976402 tw5479958083623828242 tw2760698234251406098 tw3188550145743238002 tw11780481669570552722 tw12739044908333524914 tw5159674815386067922 tw5222214626329519090 tw8454673411599396850:True)
 (tw2320334365243801619 tw8150316639869800467 tw9649742367949690899 tw16488986068404289555 tw10413305874961001587 tw9274240878737834163 tw12633212879386366131 tw10863813158450990291 tw1631990289235172563 tw15473108106762973395 tw12690090055707992307 tw11159075412089258355 tw8703402837187761555 tw10831997713186870675 tw6147957930646687155 tw624827810921962931 tw1021547334693186003 tw11510740245624090067 tw3947060382280904147 tw16367300296689270323 tw15391809930478423667 tw15544383835479718579 tw2425480420978247347 tw14542378812362313395 tw3998204431072135923 tw12199968704445699859 tw8693387776819168083 tw3919494766887065427 tw9601996174904940371 tw5579842062565096371 tw10161962315797121971 tw10590172849245096915 tw6361035684636813267 tw3160339098623798259 tw8028036884360216596 tw10795696053762472980 tw4852990780857562164 tw12189725209883714644 tw15232801497182862420 tw8568474317120217236:True)
 (tw2986194019248651412 tw15587026781619849396 tw15837926300185575604 tw6019390323981866228 tw6123004477825192212 tw9602729718226853140 tw15945923246849424660 tw7971052919932553588 tw16462698257846112628 tw5210638956883813748 tw18218567069582222708 tw15297961107949031924 tw1508094625556544084 tw12773202170125476436 tw11589573194492707444 tw1189223985934653044 tw4275958850693626484 tw10541647873891962516 tw6318934501655427732 tw4364507823253013140 tw4853418197672710804 tw14434322953661361844 tw6645175594869996212 tw6275601733380891348 tw12660747009755115220 tw9881859402430864116 tw17795859050558483188 tw15165911371910319924 tw17433887588483707700 tw1896372502142018356 tw17431068877093758772 tw14071363769376554868 tw3040802381300816820 tw8701891482348257204 tw9180642310457715700 tw16779335342141114389 tw11254131440218970165 tw4377283538642105397 tw9596491886199439477 tw9550871217828628629:True)
 (tw14581090583299591317 tw6339069811137981589 tw10898820477213312181 tw3474786070630724789 tw6420630902421912789 tw4588087821873139957 tw1727920106174039349 tw208301182445428053 tw15520279012855884149 tw13304620698822445525 tw1662145641332868629 tw9888088689738661397 tw6360155977220119061 tw3974339770152847029 tw3628740129601332917 tw12039390423210551029 tw13281373349596358389 tw5569248635449211637 tw12094100237015662389 tw7019785837319902005 tw3071871387688335157 tw4288218212470019957 tw15211336054269714325 tw11567905271214269333 tw16700216975191057333 tw9702484609749749717 tw12035250581293936597 tw4806173594058915797 tw1609863138482882549 tw3708084361914639349 tw11519089340793389045 tw7308620814022776854 tw3056622827417757718 tw15026680510773490774 tw2018007636007344246 tw17124622779193384118 tw10527828677744224438 tw2009860817095357622 tw15657633133253531894 tw6735099763123460374:True)
 (tw3870702538429863222 tw1529030772934358326 tw16084919660799529366 tw70521025873393046 tw1458776175762467254 tw12114846541217398198 tw1642360454739665366 tw8436627780232098358 tw1449232356919326262 tw198221191830152790 tw11567057696035043062 tw2330114705221364502 tw1251384105106800406 tw11864224780103350070 tw4280713103502769974 tw16929890200166971286 tw1763837978402763702 tw11390625093267115958 tw1536207146913043414 tw13847786213616557014 tw16461117777625626647 tw1244139749961724983 tw5986819819903517815 tw2664589370657221847 tw11547753762874947927 tw10054248132587096439 tw11928253501833646455 tw17342446610385864119 tw11559821179163719127 tw8270282094601806327 tw9961011372013346295 tw12825018310334524951 tw8892439412567367287 tw7605851534465178263 tw15480797897249377943 tw8580206939170957975 tw10274722724284345047 tw9475407094718178071 tw10477866237797524247 tw1935788806737614647:True)
 (tw18185681569989437271 tw15800252428681523095 tw4178106067528989591 tw16592266857313193879 tw12172020630825330583 tw5662237553295531032 tw7874375679395362904 tw8933217513775334488 tw11277690768697135224 tw8458674567990514872 tw11404658576496043256 tw17890778637249530136 tw12043948899890203992 tw95842252440382808 tw7921315412149812568 tw6308647065294843256 tw14398447356772332920 tw15166101563968814552 tw2904962349763496536 tw10327910800381835864 tw12308275181458725624 tw14203620851377738552 tw15271485044122470200 tw15745407783121156920 tw16505718851659177816 tw14073271034263445336 tw15787043880829822808 tw13879993663279155032 tw8340110415700690808 tw7681725344509816728 tw16790141101353116632 tw431715231719232569 tw10175457686033083449 tw4991645362908124217 tw2823041385816644697 tw4631327172297720953 tw16945626114605965433 tw14337010878870825113 tw17667859198900891801 tw1494592251326990521:True)
 (tw2976675218710939833 tw16265633390991209657 tw11208322636854657273 tw8592642990065892601 tw6613131853481394489 tw13696202802805844313 tw4837544123869150585 tw14177342853925648857 tw11532921326858078745 tw14317714988380532249 tw13023782273179498073 tw15463826330595583577 tw17368715355631923833 tw13905446377477600889 tw4516305156658370201 tw15239685449725328089 tw2699193594740513529 tw11398708744095711993 tw11749547832286412601 tw7345127137735334745 tw5307164947962365817 tw567386565898875801 tw16585558914425487257 tw3668976740016443321 tw18420288452026061817 tw17051730622058854393 tw2675727177479130202 tw4557948540819740762 tw2196274354864707706 tw9742306928520329338 tw4455102873262225530 tw14416490264872483962 tw1781698616582186138 tw1086148467139061946 tw17677814017285834970 tw7691153307608042714 tw18087105057999018266 tw1107734000022696250 tw12730866955812715834 tw10584014393738006874:True)
 (tw11827733085513633114 tw7623349534381274458 tw16994594724373650810 tw11683542300892796346 tw6920227840616692154 tw16813129408375071194 tw7887393359978273274 tw758967963766447610 tw5660379684907761178 tw9666675476027069018 tw6604921557502763642 tw10661659733161206426 tw10703493020147889882 tw162148495145507610 tw9001885732862262042 tw7231886746777559898 tw4432262440077501306 tw15823460782952561562 tw14658946147723919290 tw4586202858019940314 tw9294061381367358458 tw4168299051116347419 tw3026894316341620763 tw12509248765384664187 tw16045917844073811131 tw177880519037985979 tw11898140677327478971 tw13030429316689388731 tw8703766031656851739 tw7269097338067472667 tw3950364223657379131 tw15999550972390895995 tw14986114185834815867 tw13017733654567211419 tw14796454654466224603 tw15388142057849599483 tw10307061099193170427 tw15920070940891386395 tw16104016890201132635 tw8695199042469361243:True)
 (tw5231336473030974107 tw8872160646514989723 tw13904102542377381563 tw14070047770940115675 tw1763686572981203675 tw16409733858121994971 tw2289261425889196827 tw6593526777341772603 tw6090223638668235579 tw8707573902441832283 tw7023449208291091323 tw11555398814821524379 tw11314304196965753755 tw15101634621390103612 tw89379847644521596 tw704873682549705916 tw5429608466835815612 tw17408563666481675484 tw16062090258684903676 tw679864377933275388 tw6060752125798139132 tw8960755511067696380 tw14866531736688602396 tw17653414941813223708 tw9704231856285801756 tw16147825994532223260 tw16205989619331070364 tw4195704269993351612 tw14534747825313658300 tw7621784845965838780 tw13535976814360556988 tw2723296130422439356 tw7817921170577141212 tw13111300551904724476 tw9226368941557689852 tw801867538759564828 tw7815502836520636956 tw1689588344377207324 tw7865540092297176732 tw16656767990288717532:True)
 (tw5393230471559530236 tw9487218845726179100 tw11207211091385042780 tw4467449940719744892 tw11830285250836469660 tw3361958766623470492 tw990761759219649468 tw11571127864165398460 tw13723739244327658460 tw1645624780176311292 tw17817242335901280285 tw773812100326093853 tw11607912744267611165 tw16680233937098453053 tw12519161963056733309 tw9877952067301980317 tw12192410877326256285 tw17691271869105650909 tw7954191843706496253 tw12660454608340551997 tw974332698537869629 tw10947144913656124765 tw6768552489147816285 tw16370307343194236285 tw1794904788156773757 tw17537979820004389341 tw15212751399010570781 tw18126659899548285469 tw1394760552179722781 tw11504020208578012765 tw8357235147537677949 tw15143003575159728797 tw1747108563168050845 tw9126426604639485597 tw4608440205514156733 tw1530787795809720029 tw3784587246847543037 tw6398192336262889213 tw7498310521290824477 tw7351268491951564637:True)
 (tw2256888931675672445 tw15351066539677020093 tw13468780563128777693 tw15699931294844733405 tw3817494193370169341 tw15799670016129338430 tw6095249731242770526 tw8981450918336531582 tw13182855322764751998 tw13104078585536689310 tw6937392179391704254 tw478249311707994302 tw7141793777907747038 tw11134690710931365118 tw4319819736811527422 tw7493935829912609022 tw7554966348708962558 tw17030747238861656350 tw17586579224972382526 tw2710097434705996126 tw17592912772422008158 tw11393879341978026398 tw3583025695030878622 tw14762964298302574014 tw7515281335337940446 tw10140743468941900254 tw9647888357548859966 tw12724782260935383614 tw12596801924739566174 tw7065056803307233886 tw2453481075251002974 tw2187898635473514078 tw8893537247287537246 tw7005822040076908158 tw15804655036115718846 tw14855162347292931774 tw6828440393231689406 tw2976841073209436862 tw18105703310626331358 tw11039696398958018334:True)
 (tw11187343330196793150 tw12513499410209375070 tw7419670389502624638 tw1514578010299979646 tw15439937552762732414 tw3004896003829435326 tw2257818901415311294 tw1374477654354426814 tw12336047102750829663 tw11999047970750484575 tw10374237125636241535 tw9925538075149899935 tw3772827725674132639 tw6402931638353274047 tw6653875716896162047 tw4627657470888972575 tw8135907840365009183 tw11207108294559418687 tw10745727543316265343 tw1452010469195621919 tw5647556045375751807 tw3373497467862333055 tw11769033981760510751 tw15317354228155882271 tw7095475611658317599 tw4460997938074238815 tw15729516584591512415 tw15181414906183718815 tw11637967007276853061:True)
open PySem PySem.W PyProof.Rows
set_option maxRecDepth 100000 in
set_option maxHeartbeats 0 in
theorem PySem.Challenge.cw_mendfield_k38_words_far_apart_holds : PySem.Challenge.rw_mendfield_k38_words_far_apart.Holds := by
 w_on;o_law;k_head;(case hw=>w_witness2)
 k_fill
 refine HK38.walk (l:=PySem.Challenge.rw_mendfield_k38_words_far_apart) rfl rfl (λw h Y=>⟨PySem.W.km_in_of Y,PySem.W.km_tabs_of Y⟩) ?C ?F
 case C =>
  intro w h hX
  repeat' (first | exact List.forall_mem_nil _ | refine List.forall_mem_cons.mpr ⟨?_,?_⟩)
  all_goals first | (refine' HK38.aE0 hX ?a ?b ?l ?lk ?lp ?n ?e;(case a=>k_is);(case b=>k_is);(case l=>k_is);(case lk=>k_is);(case lp=>first | rfl | with_unfolding_all rfl);(case n=>kernel_rfl);(case e=>kernel_rfl)) | (refine' HK38.aI4 hX ?a ?b ?l ?lk ?lp ?n ?e;(case a=>k_is);(case b=>k_is);(case l=>k_is);(case lk=>k_is);(case lp=>first | rfl | with_unfolding_all rfl);(case n=>kernel_rfl);(case e=>kernel_rfl))
 case F =>
  intro w mg fa h KX G xu
  apply HK38.all_mk KX G xu
  iterate 227 (k_is)
  iterate 74 (apply L2.Bk<;>k_is)
  iterate 4 (k_is)
  (first | rfl | with_unfolding_all rfl)
  (kernel_rfl)
  iterate 4 (k_is)
  (first | rfl | with_unfolding_all rfl)
  (kernel_rfl)
  iterate 7 (k_is)
  iterate 9 (first | k_is | rfl | decide)
  (decide)
