import PyProof.Rows.All
import Wide.All
import OpenK.AllK
import Wide.FinOn
import Lean
import PyProof.EqAt
import PyProof.EqKinds
import PyProof.TupleCall
import PyProof.NeKinds
import PyProof.Rows.Range3
import PyProof.FitsBits
import PyProof.StationsW
import PyProof.NsDelKeeps
import PyProof.Rows.CatchOwn
import KE.KTryMore
import PyProof.ExcArgsOwn
import PyProof.ExcAttrAll.ValueError
import OpenK.KOwn
import PyProof.ZipIter
import PyProof.WalksEnum
import PyProof.EnumMake
import KE.KIntText
import PyProof.Conv_int
import PyProof.StrWalks
import PyProof.StrLawsFirst
import KE.KLam
import KE.KNestM
import KE.KRevIter
import PyProof.ListRange
import PyProof.Rows.SortWalk
import PyProof.Rows.SetFrom
import PyProof.FactsAll.set
import PyProof.Rows.SeqMore
import PySem.Challenge.RW_mendfield_k19_solved_or_a_reason
open Array renaming append_assoc→u5,length_toList→u6,getElem?_eq_some_iff→Ka,toList_append→Sr
open Bool renaming and_eq_true→dm,or_true→fo,false_ne_true→jA,and_true→jG,true_and→kC,false_and→pS,or_false→pU,true_or→qg,false_or→qh,eq_iff_iff→sD,not_false→sI,not_true→sJ,false_eq_true→sM
open Classical renaming byContradiction→J7
open False renaming elim→dX
open ForInStep renaming yield→Bq
open Int renaming natAbs_natCast→gq,toNat_natCast→g5,emod_nonneg→kF,emod_lt_of_pos→kG,natCast_emod→sF,toNat_of_nonneg→xY,natCast_mul→ya,natCast_nonneg→J3,zero_add→Ki,natCast_add→Kk,fdiv_eq_ediv_of_nonneg→Sd
open List renaming range→aP,getElem?_eq_getElem→aQ,getD_eq_getElem?_getD→aR,replicate→aT,length_map→bV,mem_cons→cg,mem_append→cw,mem_map→cx,map_cons→cH,getElem?_map→cI,getElem_mem→cN,mem_append_right→cR,map_map→cS,all_cons→dh,all_eq_true→dn,size_toArray→dv,mem_range→dE,length_range→dQ,append_assoc→dY,mem_append_left→eG,lookup_cons→eV,zipWith→eY,getElem_of_mem→fe,mem_cons_of_mem→fm,length_cons→gZ,getElem?_eq_some_iff→iA,getElem?_eq_none→iB,set_cons_zero→iD,set_cons_succ→iE,length_append→iQ,map_nil→iS,mem_singleton→iU,not_mem_nil→iV,mem_cons_self→jz,nodup_cons→jD,length_replicate→jE,getElem_map→jH,lookup→ky,replicate_succ→kz,map_append→kD,getElem?_range→kE,append_nil→m9,nil_append→ni,perm_append_comm→nq,all_nil→nr,cons_append→nt,getElem?_set_ne→pQ,flatten_cons→pW,cons.inj→p9,all_map→qa,length_zipWith→qe,contains_iff_mem→qf,length_nil→qi,getElem?_cons_zero→qj,getElem?_cons_succ→qk,cons.injEq→qm,filterMap_cons→sq,getElem?_set_self→sr,getElem?_append_right→su,foldl_cons→sA,map_zipWith→sE,getElem?_zipWith→sG,of_mem_zip→u9,getElem?_replicate→va,getElem?_append_left→vb,mem_of_getElem?→vd,length_set→ve,map_congr_left→vh,ext_getElem→vm,find?_cons→vo,mem_filter→xM,length_take→xP,length_drop→xQ,any_cons→xS,zip→xZ,length_zip→x6,length→Bg,append_eq_nil_iff→Bv,append_inj→Bw,take_of_length_le→Bz,mem_replicate→BA,mem_of_mem_drop→BB,mem_of_mem_take→BC,ext_getElem?→BD,map→BE,zipWith_map→BF,getElem?_mapIdx→BG,mem_or_eq_of_mem_set→BJ,mem_map_of_mem→BL,map_replicate→BM,foldl_append→BP,getElem_range→BR,getElem?_eq_none_iff→J1,Sublist.refl→Kd,set_set→Ke,take_add_one→Kf,drop_eq_nil_of_le→Kh,findIdx_lt_length_of_exists→Km,range_succ→Kn,pairwise_iff_getElem→Ko,mem_filterMap→Sb,set_eq_of_length_le→Sj,eq_nil_iff_forall_not_mem→Sk,filter_eq_self→Sl,range_succ_eq_map→Sm,mem_of_find?_eq_some→Sn,getElem?_take→So,getElem_zipWith→Sq,zip_cons_cons→Ss,sublist_cons_self→Su,findIdx_getElem→Sw,not_of_lt_findIdx→Sx,findIdx?_eq_some_iff_getElem→Sy,findIdx?_eq_none_iff→SA,countP_eq_length_filter→SD,getElem_toArray→SE
open Nat renaming le_refl→bD,lt_of_lt_of_le→ck,lt_irrefl→dO,ne_of_lt→dU,le_trans→dW,shiftLeft_eq→iT,zero_le→jC,xor_zero→jF,mul_comm→kA,testBit_xor→kB,zero_xor→nj,lt_of_le_of_lt→nk,pow_succ→pX,xor_assoc→pY,le_of_lt→sk,mul_assoc→sC,two_pow_pos→vf,min_self→vg,not_lt→vi,mul_mod→vj,mod_lt→vk,succ.inj→vn,lt_succ_self→xO,pow_le_pow_right→xT,eq_of_testBit_eq→xU,testBit_zero→xV,xor_self→xW,mod_eq_of_lt→xX,le_of_succ_le→x8,lt_or_ge→x9,le_of_eq→Bf,le_of_not_lt→Bj,testBit_lt_two_pow→Bl,testBit_succ→Bo,strongRecOn→Bp,sub_self→BH,mod_add_mod→BK,add_sub_cancel_left→BO,one_shiftLeft→BS,ne_of_gt→J2,xor_comm→J6,testBit_and→J8,mod_mod→Kj,not_lt_zero→Kl,testBit_eq_decide_div_mod_eq→Se,shiftLeft_xor_distrib→Sf,mul_lt_mul_right→Sg,testBit_shiftLeft→Sh,shiftRight_eq_div_pow→Si,exists_eq_add_of_le→Sv
open Ne renaming symm→dF
open Option renaming some.inj→cu,map_some→iC,getD_none→nh,getD_some→pZ,some.injEq→ql,map_none→sH,none→Bk,isSome_iff_exists→J4,map_eq_some_iff→Kg,isSome_some→Sz
open Or renaming inl→ay,inr→bg
open Prod renaming ext→BN
open PyProof renaming Rows.callWith_type1→xN
open PySem renaming Heap.lt_size→bH,Value.ref→du,Heap.get?_push_of_some→dP,Heap.get?_push_size→fR,PassesOwn.never→g6,Builtin.bitAnd→m6,Builtin.bitXor→m8,Value.none→pP,Heap.get?_update_other→pV,Value.int→si,Heap.size_push→u7,Value.str→xK,Obj.mapSeq→xR,Value.bool→Bd,Heap.SameBut→Be,Heap.get?_update_self→Bh,SeqAt.EqAt→Bi,Obj.data_mapFields→Br,Value.type.inj→Bt,Builtin.Str.strSliceIndices→Bu,NameKind.cell→BQ,Builtin.List.listTooLong→J5,Obj.isFreed_of_fields→J9,Heap.MadeExcOf→Kb,Calls.Name_function_global→Sa
open Sum renaming inl→se,inr→sj
open True renaming intro→jB
set_option Elab.async false
set_option linter.all false
set_option maxRecDepth 100000
namespace L2
open PySem PySem.Spec PyProof.Rows
noncomputable abbrev Key:=Sum Int Str
noncomputable def sN:Key->Value->Bool
 | .inl k,v=>Value.isInt k v
 | .inr x,v=>Value.isStrOf x v
noncomputable def SF(w:World):Key->Int
 | .inl k=>hashInt k
 | .inr x=>hashStr w x
theorem kH:∀{k:Key} {v:Value},sN k v=true->(∃i t,k=se i/\v=si i t)\/(∃x t,k=sj x/\v=xK x t)
 | .inl i,v,h=>by
  obtain⟨t,e⟩:=Value.isInt_shape (k:=i) (v:=v) h
  exact .inl ⟨i,t,rfl,e⟩
 | .inr x,v,h=>by
  obtain⟨t,e⟩:=Value.isStrOf_shape (x:=x) (v:=v) h
  exact .inr ⟨x,t,rfl,e⟩
theorem SG(i:Int)(t:Tok):sN (.inl i) (.int i t)=true:=by simp[sN,Value.isInt]
theorem SH(x:Str)(t:Tok):sN (.inr x) (.str x t)=true:=by simp[sN,Value.isStrOf]
theorem SI(a b:Int):decide ((se a:Key)=se b)=(a==b):=by
 by_cases e:a=b
 ·subst e;simp
 ·have h:¬ (se a:Key)=se b:=λq=>e (Sum.inl.inj q)
  rw[decide_eq_false h]
  exact(beq_eq_false_iff_ne.mpr e).symm
theorem SJ(a b:Str):decide ((sj a:Key)=sj b)=decide (a=b):=by
 by_cases e:a=b
 ·subst e;simp
 ·have h:¬ (sj a:Key)=sj b:=λq=>e (Sum.inr.inj q)
  rw[decide_eq_false h,decide_eq_false e]
theorem SK(a:Int)(b:Str):decide ((se a:Key)=sj b)=false:=decide_eq_false (λq=>nomatch q)
theorem SM(a:Str)(b:Int):decide ((sj a:Key)=se b)=false:=decide_eq_false (λq=>nomatch q)
noncomputable def gr(prog:Program)(w:World):PySem.KeyKind prog w Key where
 is:=sN
 hash:=SF w
 inj:=λv a b ha hb=>by
  rcases kH ha with⟨i,t,rfl,rfl⟩ | ⟨x,t,rfl,rfl⟩
  ·rcases kH hb with⟨j,u,rfl,e⟩ | ⟨y,u,rfl,e⟩
   ·injection e with e1 _;rw[e1]
   ·exact nomatch e
  ·rcases kH hb with⟨j,u,rfl,e⟩ | ⟨y,u,rfl,e⟩
   ·exact nomatch e
   ·injection e with e1 _;rw[e1]
 byValue:=λk v h=>by
  rcases kH h with⟨i,t,rfl,rfl⟩ | ⟨x,t,rfl,rfl⟩<;>rfl
 pyHash:=λhv h=>by
  rcases kH hv with⟨i,t,rfl,rfl⟩ | ⟨x,t,rfl,rfl⟩
  ·exact wpAny_pyHash_int h
  ·exact wpAny_pyHash_str h
 eqBool:=λhu hv h=>by
  rcases kH hu with⟨i,t,rfl,rfl⟩ | ⟨x,t,rfl,rfl⟩
  ·rcases kH hv with⟨j,u,rfl,rfl⟩ | ⟨y,u,rfl,rfl⟩
   ·rw[SI]at h;exact wpAny_eqBool_int h
   ·rw[SK]at h;exact SeqAt.EqAt.int_str i t y u _ _ _ _ h
  ·rcases kH hv with⟨j,u,rfl,rfl⟩ | ⟨y,u,rfl,rfl⟩
   ·rw[SM]at h;exact SeqAt.EqAt.str_int x t j u _ _ _ _ h
   ·rw[SJ]at h;exact wpAny_eqBool_str h
 «strs»:=λk x t v h=>by
  rcases kH h with⟨i,u,rfl,e⟩ | ⟨y,u,rfl,e⟩
  ·exact nomatch e
  ·injection e with e1 _
   subst e1
   cases v<;>rfl
theorem SN(prog:Program)(w:World)(i:Int)(t:Tok):(gr prog w).is (.inl i) (.int i t)=true:=SG i t
theorem SO(prog:Program)(w:World)(x:Str)(t:Tok):(gr prog w).is (.inr x) (.str x t)=true:=SH x t
end L2
namespace L2
open PySem PySem.Spec PyProof.Rows
inductive V where
 | ak | bl (b:Bool) | int (i:Int) | str (x:Str) | yb (b:Array UInt8) | qo (b:UInt64) | ref (a:Addr) | ty (n:String)
 deriving DecidableEq
noncomputable def RelV:V->Value->Prop
 | .ak,u=>u=pP
 | .bl b,u=>u=Bd b
 | .int i,u=>∃t,u=si i t
 | .str x,u=>∃t,u=xK x t
 | .yb b,u=>∃t,u=Value.bytes b t
 | .qo b,u=>∃t,u=Value.float b t
 | .ref a,u=>u=du a
 | .ty n,u=>u=Value.type n
noncomputable abbrev Vals:List V->List Value->Prop:=Paired RelV
theorem Vals.length{xs:List V}{us:List Value}(r:Vals xs us):xs.length=us.length:=Paired.length r
theorem Vals.get:∀{xs:List V} {us:List Value} {i:Nat} {x:V},Vals xs us->xs[i]?=some x->∃u,us[i]?=some u/\RelV x u
 | _,_,_,_,.nil,e=>by simp at e
 | _,_,0,_,.cons r _,e=>by simp at e;subst e;exact⟨_,rfl,r⟩
 | _,_,i+1,x,.cons _ t,e=>by
  obtain⟨u,h1,h2⟩:=Vals.get (i:=i) (x:=x) t (by simpa using e)
  exact⟨u,by simpa using h1,h2⟩
theorem Vals.set{x:V}{u:Value}(r:RelV x u):∀{xs:List V} {us:List Value} (i:Nat),Vals xs us->Vals (xs.set i x) (us.set i u)
 | _,_,_,.nil=>.nil
 | _,_,0,.cons _ t=>.cons r t
 | _,_,i+1,.cons q t=>.cons q (Vals.set r i t)
theorem Vals.append:∀{xs ys:List V} {us ws:List Value},Vals xs us->Vals ys ws->Vals (xs++ys) (us++ws)
 | _,_,_,_,.nil,s=>s
 | _,_,_,_,.cons r t,s=>.cons r (Vals.append t s)
theorem Vals.take:∀{xs:List V} {us:List Value} (n:Nat),Vals xs us->Vals (xs.take n) (us.take n)
 | _,_,0,_=>.nil
 | _,_,_+1,.nil=>.nil
 | _,_,n+1,.cons r t=>.cons r (Vals.take n t)
theorem Vals.drop:∀{xs:List V} {us:List Value} (n:Nat),Vals xs us->Vals (xs.drop n) (us.drop n)
 | _,_,0,r=>r
 | _,_,_+1,.nil=>.nil
 | _,_,n+1,.cons _ t=>Vals.drop n t
theorem Vals.none_of:∀{xs:List V} {us:List Value} {i:Nat},Vals xs us->xs[i]?=none->us[i]?=none:=λ{xs us i} r e=>by
 have h1:=r.length
 have h2:xs.length<=i:=J1.mp e
 exact J1.mpr (by omega)
noncomputable def fq:Option V->Option Value->Prop
 | some v,some u=>RelV v u
 | none,none=>True
 | _,_=>False
noncomputable def KV{κ:Type}:List (κ × V)->List (κ × Value)->Prop:=Paired λ(p:κ × V) (q:κ × Value)=>p.1=q.1/\RelV p.2 q.2
noncomputable def kV:Key->V
 | .inl i=>.int i
 | .inr x=>.str x
inductive HO where
 | lst (xs:List V)
 | tup (xs:List V)
 | dK (ao:List (Key × V)) | dT (ao:List (List Key × V))
 | set (S:Int->Bool) (n:Nat)
 | ins (C dx:Addr) (fs:List (Str × V))
 | own (x:Addr)
 | xd (fs:List (Str × V))
 | met (f x:Addr)
 | vp (lo hi:Int)
 | bR (o:Obj) (u:HO)
 | cO (ps:Array Value)
 | ext (φ:Heap->Prop)
noncomputable abbrev Hp:=Addr->Option HO
noncomputable def upd(H:Hp)(a:Addr)(o:HO):Hp:=λb=>if b=a then some o else H b
theorem bM{H:Hp}{a:Addr}{o:HO}:upd H a o a=some o:=by unfold upd;rw[if_pos rfl]
theorem aN{H:Hp}{a b:Addr}{o:HO}(h:b≠a):upd H a o b=H b:=by unfold upd;rw[if_neg h]
theorem SQ{H:Hp}{a b:Addr}{o u:HO}(h:H a=some o)(h':H b=some u)(d:o≠u):a≠b:=by
 intro e;subst e;rw[h]at h';exact d (cu h')
theorem dR{H:Hp}{a b:Addr}{o:HO}(h:H a=some o)(h':H b=none):a≠b:=by
 intro e;subst e;rw[h]at h';cases h'
section
variable(P:Program)(w:World)
noncomputable def cy(H:Hp)(h:Heap)(a:Addr):HO->Prop
 | .lst xs=>xs.length<=sizeLine/\∃(its:List Value) (n:Nat),Vals xs its/\h.get? a=some { cls:=.type "list",data:=.seq its.toArray n }
 | .tup xs=>xs.length<=sizeLine/\∃its:List Value,Vals xs its/\IsTup h a its.toArray
 | .dK ao=>ao.length<=sizeLine/\(a==sysModules)=false/\∃vs,KV ao vs/\h.DictOf (gr P w) a vs
 | .dT ao=>ao.length<=sizeLine/\(a==sysModules)=false/\∃xs:List (List Key × Addr × Value),
   Paired (λ(p:List Key × V) (q:List Key × Addr × Value)=>p.1=q.1/\H q.2.1=some (.tup (p.1.map kV))/\RelV p.2 q.2.2) ao xs /\
   ∃o es ep,h.get? a=some o/\o.ExactDict/\o.data=.dict es ep/\es.toList=xs.map (entryOfKey (tupleKind (gr P w)))/\(xs.map (·.1)).Nodup
 | .set S n=>h.SetOf (intKind P w) a S n
 | .ins C dx fs=>H dx=some (.own a)/\fs.length<=1000/\dx≠a/\h.get? a=some (PySem.W.instObj C dx) /\
   ∃mA,h.Ns1 dx mA/\(∀f,fq (fs.lookup f) (mA f))/\PySem.Within mA (fs.map (·.1))
 | .own _=>∃o,h.get? a=some o
 | .xd fs=>∃mA,h.Ns1 a mA/\∀f,fq (fs.lookup f) (mA f)
 | .vp lo hi=>∃t u v,h.get? a=some { cls:=.type "range",data:=.fields #[.int lo t,.int hi u,.int 1 v] }
 | .bR o u=>h.get? a=some o/\cy H h a u
 | .cO ps=>h.get? a=some { cls:=.none,data:=.fields ps }/\TriplesOk ps.toList/\∀pos cv,codeAmong pos ps.toList=some cv->∃c φ,cv=.ref c/\H c=some (.ext φ)/\∀h',φ h'->∃q,h'.CodeRec (.ref c) q
 | .met f x=>h.get? a=some (PySem.W.methodObj (.ref f) (.ref x))
 | .ext φ=>φ h/\(∃o,h.get? a=some o)/\∀h1 h2:Heap,φ h1->(∀b o,(b=a\/H b=some (.own a))->h1.get? b=some o->h2.get? b=some o)->φ h2
noncomputable def bS(H:Hp)(h:Heap):Prop:=∀a o,H a=some o->cy P w H h a o
end
section
variable{P:Program}{w:World}{H H':Hp}{h h':Heap}{a:Addr}{o:HO}
theorem cy.lt(x:cy P w H h a o):a<h.objs.size:=by
 cases o with
 | lst xs=>obtain⟨_,_,_,_,e⟩:=x;exact bH e
 | tup xs=>obtain⟨_,_,_,p⟩:=x;exact p.lt
 | dK ao=>obtain⟨_,_,_,_,o,_,_,e,_⟩:=x;exact bH e
 | dT ao=>obtain⟨_,_,_,_,o,_,_,e,_⟩:=x;exact bH e
 | set S n=>obtain⟨o,_,_,_,e,_⟩:=x;exact bH e
 | ins C dx fs=>obtain⟨_,_,_,e,_⟩:=x;exact bH e
 | own y=>obtain⟨_,e⟩:=x;exact bH e
 | xd fs=>obtain⟨_,⟨_,_,_,e,_⟩,_⟩:=x;exact bH e
 | vp lo hi=>obtain⟨_,_,_,e⟩:=x;exact bH e
 | bR ob u=>obtain⟨e,_⟩:=x;exact bH e
 | cO ps=>exact bH (show h.get? a=some _ from x.1)
 | met f y=>exact bH (show h.get? a=some _ from x)
 | ext φ=>obtain⟨_,⟨_,e⟩,_⟩:=x;exact bH e
theorem Paired.yc{α β:Type}{F G:α->β->Prop}:∀{l₁:List α} {l₂:List β},Paired F l₁ l₂->(∀a b,F a b->G a b)->Paired G l₁ l₂
 | _,_,.nil,_=>.nil
 | _,_,.cons r t,f=>.cons (f _ _ r) (Paired.yc t f)
theorem cy.gu(x:cy P w H h a o)(k:∀b u,(b=a\/H b=some (.own a))->h.get? b=some u->h'.get? b=some u)
  (ho:∀b,H b=some (.own a)->H' b=some (.own a)) (ht:∀b xs,H b=some (.tup xs)->H' b=some (.tup xs)) (hx:∀b φ,H b=some (.ext φ)->H' b=some (.ext φ)):cy P w H' h' a o:=by
 induction o with
 | lst xs=>obtain⟨z,its,n,r,e⟩:=x;exact⟨z,its,n,r,k _ _ (.inl rfl) e⟩
 | tup xs=>obtain⟨z,its,r,ob,e,c⟩:=x;exact⟨z,its,r,ob,k _ _ (.inl rfl) e,c⟩
 | dK ao=>obtain⟨z,y,vs,r,ob,es,ep,e,c⟩:=x;exact⟨z,y,vs,r,ob,es,ep,k _ _ (.inl rfl) e,c⟩
 | dT ao =>
  obtain⟨z,y,xs,r,ob,es,ep,e,c⟩:=x
  exact⟨z,y,xs,Paired.yc r λp q z=>⟨z.1,ht _ _ z.2.1,z.2.2⟩,ob,es,ep,k _ _ (.inl rfl) e,c⟩
 | set S n=>obtain⟨ob,es,ep,t,e,c⟩:=x;exact⟨ob,es,ep,t,k _ _ (.inl rfl) e,c⟩
 | ins C dx fs =>
  obtain⟨d,z,ne,e,mA,⟨od,es,ep,e2,c⟩,r⟩:=x
  exact⟨ho _ d,z,ne,k _ _ (.inl rfl) e,mA,⟨od,es,ep,k _ _ (.inr d) e2,c⟩,r⟩
 | own y=>obtain⟨ob,e⟩:=x;exact⟨ob,k _ _ (.inl rfl) e⟩
 | xd fs=>obtain⟨mA,⟨od,es,ep,e,c⟩,r⟩:=x;exact⟨mA,⟨od,es,ep,k _ _ (.inl rfl) e,c⟩,r⟩
 | vp lo hi=>obtain⟨t,u,v,e⟩:=x;exact⟨t,u,v,k _ _ (.inl rfl) e⟩
 | bR ob u ih=>obtain⟨e,q⟩:=x;exact⟨k _ _ (.inl rfl) e,ih q⟩
 | cO ps =>
  obtain⟨e,t,c⟩:=x
  refine⟨k a _ (.inl rfl) e,t,λpos cv q=>?_⟩
  obtain⟨d,φ,e1,e2,e3⟩:=c pos cv q
  exact⟨d,φ,e1,hx _ _ e2,e3⟩
 | met f y =>
  have e:h.get? a=some (PySem.W.methodObj (.ref f) (.ref y)):=x
  show h'.get? a=some (PySem.W.methodObj (.ref f) (.ref y))
  exact k a _ (.inl rfl) e
 | ext φ=>obtain⟨p,⟨o,e⟩,st⟩:=x;exact⟨st _ _ p λb o hb q=>k _ _ hb q,⟨o,k _ _ (.inl rfl) e⟩,λh1 h2 p1 kk=>st h1 h2 p1 λb o hb q=>kk b o (hb.imp id (ho b)) q⟩
theorem bS.lt(x:bS P w H h)(e:H a=some o):a<h.objs.size:=(x a o e).lt
theorem bS.fresh(x:bS P w H h)(e:h.objs.size<=a):H a=none:=by
 cases q:H a with
 | none=>rfl
 | some u=>exact absurd (ck (x.lt q) e) (dO _)
theorem bS.kept(x:bS P w H h)(k:∀b u,h.get? b=some u->h'.get? b=some u):bS P w H h':=λa o e =>
 (x a o e).gu (λb u _ q=>k b u q) (λ_ q=>q) (λ_ _ q=>q) λ_ _ q=>q
theorem bS.laid(x:bS P w H h)(k:∀b u,h.get? b=some u->h'.get? b=some u)(hp:h.objs.size<=a)(new:cy P w (upd H a o) h' a o):bS P w (upd H a o) h':=λb u e=>by
 have hn:=x.fresh hp
 by_cases hb:b=a
 ·subst hb;rw[bM]at e;cases e;exact new
 ·rw[aN hb]at e
  exact(x b u e).gu (λc v _ q=>k c v q) (λc q=>by rw[aN (dR q hn)];exact q) (λc xs q=>by rw[aN (dR q hn)];exact q) λc xs q=>by rw[aN (dR q hn)];exact q
end
noncomputable def Rd(H:Hp)(a:Addr)(u:HO):Prop:=H a=some u\/∃o,H a=some (.bR o u)
theorem Rd.of{H:Hp}{a:Addr}{u:HO}(h:H a=some u):Rd H a u:=.inl h
theorem Rd.ok{P:Program}{w:World}{H:Hp}{h:Heap}{a:Addr}{u:HO}(r:Rd H a u)(x:bS P w H h):cy P w H h a u:=by
 rcases r with r | ⟨o,r⟩
 ·exact x a u r
 ·obtain⟨_,q⟩:=x a _ r
  exact q
noncomputable def vq:Option HO->Prop
 | some (.lst _)=>True
 | some (.dK _)=>True
 | some (.dT _)=>True
 | some (.set _ _)=>True
 | some (.ins _ _ _)=>True
 | _=>False
section
variable{P:Program}{w:World}{H:Hp}{h h':Heap}{x e:Addr}{o':HO}
theorem bS.write(ok:bS P w H h)(mu:vq (H x))(he:e=x\/H e=some (.own x))(k:∀b u,b≠e->h.get? b=some u->h'.get? b=some u)(sO:∃u,h'.get? e=some u)
  (new:cy P w (upd H x o') h' x o'):bS P w (upd H x o') h':=λb u q=>by
 have Kp:∀c y,H c=some (.own y)->c≠x:=λc y r z=>by subst z;rw[r]at mu;exact mu
 have SR:∀c xs,H c=some (.tup xs)->c≠x:=λc xs r z=>by subst z;rw[r]at mu;exact mu
 by_cases hb:b=x
 ·subst hb;rw[bM]at q;cases q;exact new
 ·rw[aN hb]at q
  by_cases qp:b=e
  ·have q':H b=some (.own x):=by
    rcases he with z | z
    ·exact absurd (qp.trans z) hb
    ·rw[qp];exact z
   rw[q]at q';cases q'
   obtain⟨v,hv⟩:=sO
   exact⟨v,by rw[qp];exact hv⟩
  ·refine(ok b u q).gu (λc v hc r=>k c v ?_ r) (λc r=>by rw[aN (Kp c b r)];exact r) (λc xs r=>by rw[aN (SR c xs r)];exact r) λc φ r=>by rw[aN (λz=>by rw[z]at r;rw[r]at mu;exact mu)];exact r
   rcases hc with rfl | hc
   ·exact qp
   ·rintro rfl
    rcases he with z | z
    ·exact Kp c b hc z
    ·rw[hc]at z;cases z;exact hb rfl
end
structure Un(fs ex:List Addr)(H H':Hp)(h h':Heap):Prop where
 keep:∀b o,h.get? b=some o->H b=none->b ∉ fs->b ∉ ex->h'.get? b=some o
 slot:∀b o,h.get? b=some o->H b=none->b∈fs->b ∉ ex->∃sl,h'.get? b=some { o with slots:=sl }
 free:∀b o,h.get? b=some o->H b=none->b ∉ ex->H' b=none
 there:∀b o,h.get? b=some o->b ∉ ex->∃o',h'.get? b=some o'
 eP:∀b xs,H b=some (.tup xs)->H' b=some (.tup xs)
 eI:∀b o u,H b=some (.bR o u)->H' b=some (.bR o u)
 dS:∀b ps,H b=some (.cO ps)->∃more,H' b=some (.cO (ps++more))
section
variable{fs BU ex Kq:List Addr}{H H1 H2:Hp}{h h1 h2 h':Heap}{a x e:Addr}{o:HO}
theorem Un.any(u:Un fs ex H H1 h h1){b:Addr}{ob:Obj}(q:h.get? b=some ob)(n:H b=none)(hx:b ∉ ex):∃sl,h1.get? b=some { ob with slots:=sl }:=by
 by_cases hb:b∈fs
 ·exact u.slot b ob q n hb hx
 ·exact⟨ob.slots,u.keep b ob q n hb hx⟩
theorem Un.trans(a:Un fs ex H H1 h h1)(b:Un fs ex H1 H2 h1 h2):Un fs ex H H2 h h2 where
 keep:=λc ob q n hc hx=>b.keep c ob (a.keep c ob q n hc hx) (a.free c ob q n hx) hc hx
 slot:=λc ob q n hc hx=>by
  obtain⟨sl,e1⟩:=a.slot c ob q n hc hx
  obtain⟨vt,e2⟩:=b.slot c _ e1 (a.free c ob q n hx) hc hx
  exact⟨vt,e2⟩
 free:=λc ob q n hx=>by
  obtain⟨o',e1⟩:=a.there c ob q hx
  exact b.free c o' e1 (a.free c ob q n hx) hx
 there:=λc ob q hx=>by
  obtain⟨o',e1⟩:=a.there c ob q hx
  exact b.there c o' e1 hx
 eP:=λc xs q=>b.eP c xs (a.eP c xs q)
 eI:=λc ob xs q=>b.eI c ob xs (a.eI c ob xs q)
 dS:=λc ps q=>by
  obtain⟨m1,e1⟩:=a.dS c ps q
  obtain⟨m2,e2⟩:=b.dS c _ e1
  exact⟨m1++m2,by rw[e2,u5]⟩
theorem Un.kept(k:∀b u,h.get? b=some u->h'.get? b=some u):Un fs ex H H h h' :=
 ⟨λb ob q _ _ _=>k b ob q,λb ob q _ _ _=>⟨ob.slots,k b ob q⟩,λ_ _ _ n _=>n,λb ob q _=>⟨ob,k b ob q⟩,λ_ _ q=>q,λ_ _ _ q=>q,λ_ ps q=>⟨#[],by rw[q];simp⟩⟩
theorem Un.refl:Un fs ex H H h h:=Un.kept λ_ _ q=>q
theorem Un.laid(k:∀b u,h.get? b=some u->h'.get? b=some u)(hp:h.objs.size<=a)(hn:H a=none):Un fs ex H (upd H a o) h h' where
 keep:=λb u q _ _ _=>k b u q
 slot:=λb u q _ _ _=>⟨u.slots,k b u q⟩
 free:=λb u q n _=>by rw[aN (dU (ck (bH q) hp))];exact n
 there:=λb u q _=>⟨u,k b u q⟩
 eP:=λb xs q=>by rw[aN (dR q hn)];exact q
 eI:=λb u xs q=>by rw[aN (dR q hn)];exact q
 dS:=λb ps q=>⟨#[],by rw[aN (dR q hn),q];simp⟩
theorem Un.write(mu:vq (H x))(he:e=x\/H e=some (.own x))(k:∀b u,b≠e->h.get? b=some u->h'.get? b=some u)(sO:∃u,h'.get? e=some u):Un fs ex H (upd H x o) h h':=by
 have hx:∀b,H b=none->b≠x:=λb n z=>by subst z;rw[n]at mu;exact mu
 have hb:∀b,H b=none->b≠e:=λb n z=>by
  subst z
  rcases he with r | r
  ·exact hx b n r
  ·rw[n]at r;cases r
 have hm:∀b u,H b=some u->¬ vq (some u)->b≠x:=λb u q nm z=>by subst z;rw[q]at mu;exact nm mu
 refine⟨λb u q n _ _=>k b u (hb b n) q,λb u q n _ _=>⟨u.slots,k b u (hb b n) q⟩,λb u q n _=>by rw[aN (hx b n)];exact n,λb u q _=>?_,
  λb xs q=>by rw[aN (hm b _ q λz=>z)];exact q,λb u xs q=>by rw[aN (hm b _ q λz=>z)];exact q,λb ps q=>⟨#[],by rw[aN (hm b _ q λz=>z),q];simp⟩⟩
 by_cases qp:b=e
 ·subst qp;exact sO
 ·exact⟨u,k b u qp q⟩
theorem Un.mono(u:Un fs ex H H1 h h1)(hs:∀b∈fs,b∈BU)(hx:∀b∈ex,b∈Kq):Un BU Kq H H1 h h1 :=
 ⟨λb ob q n hb he=>u.keep b ob q n (λz=>hb (hs b z)) λz=>he (hx b z),λ_ _ q n _ he=>u.any q n λz=>he (hx _ z),λb ob q n he=>u.free b ob q n λz=>he (hx b z),λb ob q he=>u.there b ob q λz=>he (hx b z),u.eP,u.eI,u.dS⟩
end
noncomputable def yd(h:Heap)(H:Hp):List Addr:=(aP h.objs.size).filter λa=>(H a).isSome
noncomputable def jI(h:Heap)(H:Hp):Heap:=PySem.W.hideAll h (yd h H)
theorem SS(h:Heap)(H:Hp):(jI h H).objs.size=h.objs.size:=PySem.W.hideAll_size _ _
theorem SU{h:Heap}{H:Hp}{b:Addr}{o:Obj}(e:h.get? b=some o)(n:H b=none):(jI h H).get? b=some o :=
 PySem.W.hideAll_get _ e λhm=>by
  have q:(H b).isSome=true:=(xM.mp hm).2
  rw[n]at q;simp at q
theorem SV{h:Heap}{H:Hp}{b:Addr}{o:Obj}(e:(jI h H).get? b=some o):h.get? b=some o/\H b=none:=by
 have e':h.get? b=some o:=PySem.W.of_hideAll (yd h H) e
 refine⟨e',?_⟩
 cases q:H b with
 | none=>rfl
 | some x =>
  have hm:b∈yd h H:=xM.mpr ⟨dE.mpr (bH e'),by simp[q]⟩
  have z:(jI h H).get? b=none:=PySem.W.hideAll_none (yd h H) hm
  rw[z]at e;cases e
noncomputable def SW(g h:Heap)(L:Addr):List (Addr × Obj):=(aP h.objs.size).filterMap λa=>if a=L\/(g.get? a).isSome=true then none else(h.get? a).map λo=>(a,o)
noncomputable def cA(g h:Heap)(L d:Addr):List (Addr × Obj):=(SW g h L).filter λp=>decide (p.1≠d)
end L2
namespace L2
open PySem PySem.Spec PyProof.Rows
structure Mod(K:PySem.W.Frag)(mg:Str->Option Value)(base:Heap):Prop where
 kI:K.In base
 glob:base.Ns mainGlobals mg
 blt:∃mb,base.Ns builtinsNs mb/\∀x:Str,x≠"__name__"->mb x=bootBuiltins x
 nolimit:base.NoLimit
structure Cx where
 prog:Program
 w:World
 K:PySem.W.Frag
 mg:Str->Option Value
 base:Heap
 A:Around
 N:List Str
 bP:Shared
 iW:Hp
 env:Env
 outer:List Env
 stack:List Env
 ex:List Addr
 fn:Str->Bool
 calm:Bool
 pn:List (Addr × Obj)
 xe:Value->Shared->Prop
noncomputable def cT(l:List Env):List Addr:=l.filterMap (·.frame)
noncomputable abbrev Cx.fs(X:Cx):List Addr:=cT X.outer
noncomputable def jJ(sc:Scope)(x:Str):Prop:=sc.names.lookup x=some .local\/sc.names.lookup x=some .cell\/sc.names.lookup x=some .free
noncomputable def Loc(sc:Scope)(x:Str):Prop:=sc.names.lookup x=some .local\/sc.names.lookup x=some .cell
noncomputable def SX(env:Env)(h:Heap)(m:Str->Option Value)(x:Str)(u:Value):Prop :=
 (env.kindOf x=some .local/\m x=some u)\/((env.kindOf x=some .cell\/env.kindOf x=some .free)/\∃c,env.cells.lookup x=some c/\h.IsCell c (some u))
structure Cx.Ok(X:Cx):Prop where
 mod:Mod X.K X.mg X.base
 kind:X.env.scope.kind=.function
 glob:X.env.globals=mainGlobals
 blt:X.env.builtins=builtinsNs
 above:X.bP.heap.objs.size<=X.env.locals
 inj:∀x y c,X.env.cells.lookup x=some c->X.env.cells.lookup y=some c->x=y
 has:∀x,(X.env.kindOf x=some .cell\/X.env.kindOf x=some .free)->∃c,X.env.cells.lookup x=some c
 qq:∀x c,X.fn x=true->X.env.cells.lookup x=some c->X.bP.heap.objs.size<=c
 hd:X.calm=true->X.A.handled=none
 frames:X.A.frames=some X.stack
 vv:X.stack=X.outer\/(X.stack=X.env::X.outer/\X.env.frame=some X.env.locals)
 vw:∀b∈X.ex,b≠X.env.locals/\∀x c,X.env.cells.lookup x=some c->c≠b
 bs:∀b o,X.base.get? b=some o->X.bP.heap.get? b=some o/\X.iW b=none
 gv:X.base.objs.size<=X.bP.heap.objs.size
 sP:∀b o,X.base.get? b=some o->b ∉ X.ex
 sQ:∀b∈X.ex,b ∉ X.fs
 eQ:X.bP.heap.FunFrames X.base X.outer
 g7:∀b∈X.fs,X.iW b=none
structure Inv(X:Cx)(pins:List (Addr × Obj))(σ:List (Option V))(H:Hp)(s:Shared):Prop where
 ok:X.Ok
 os:s.os=X.bP.os
 bare:AllBare s.gens
 base:Un X.fs X.ex X.iW H X.bP.heap s.heap
 loc:∃m,s.heap.Ns X.env.locals m/\∀(i:Nat) (x:Str) (v:V),X.N[i]?=some x->σ[i]?=some (some v)->jJ X.env.scope x->∃u,RelV v u/\SX X.env s.heap m x u
 cell:∀x c,X.env.cells.lookup x=some c->∃v,s.heap.IsCell c v
 free:H X.env.locals=none
 fu:∀x c,X.env.cells.lookup x=some c->H c=none
 pin:∀p∈X.pn++pins,s.heap.get? p.1=some p.2/\H p.1=none/\p.1≠X.env.locals/\p.1 ∉ X.fs/\∀v,p.2.data≠.cell v
 az:bS X.prog X.w H s.heap
 len:σ.length=X.N.length
section
variable{X:Cx}{pins:List (Addr × Obj)}{σ:List (Option V)}{H H':Hp}{s:Shared}{h':Heap}
theorem Cx.Ok.SY(ok:X.Ok){b:Addr}{o:Obj}(e:X.base.get? b=some o):b ∉ X.fs:=λhb=>by
 have:=(ok.eQ.mem hb).1
 rw[e]at this;cases this
theorem Inv.bs(I:Inv X pins σ H s):∀b o,X.base.get? b=some o->s.heap.get? b=some o/\H b=none:=λb o e =>
 ⟨I.base.keep b o (I.ok.bs b o e).1 (I.ok.bs b o e).2 (I.ok.SY e) (I.ok.sP b o e),I.base.free b o (I.ok.bs b o e).1 (I.ok.bs b o e).2 (I.ok.sP b o e)⟩
theorem Inv.bk(I:Inv X pins σ H s):∀b o,X.base.get? b=some o->s.heap.get? b=some o:=λb o e=>(I.bs b o e).1
theorem Inv.mod(I:Inv X pins σ H s):Mod X.K X.mg X.base:=I.ok.mod
theorem Inv.cJ(I:Inv X pins σ H s):X.K.In s.heap:=I.ok.mod.kI.keeps I.bk
theorem Inv.nolimit(I:Inv X pins σ H s):s.heap.NoLimit:=I.ok.mod.nolimit.keeps I.bk
theorem Inv.fr(I:Inv X pins σ H s):∃m,Fr X.base X.env.locals s.heap m :=
 let⟨m,hn,_⟩:=I.loc
 ⟨m,hn,I.bk,dW I.ok.gv I.ok.above⟩
theorem Inv.lt(I:Inv X pins σ H s):X.env.locals<s.heap.objs.size:=let⟨_,hn,_⟩:=I.loc;hn.lt
theorem Inv.sz(I:Inv X pins σ H s):X.bP.heap.objs.size<=s.heap.objs.size:=dW I.ok.above (sk I.lt)
theorem Inv.Kr(I:Inv X pins σ H s){a:Addr}(h:s.heap.objs.size<=a):a ∉ X.fs:=λhb=>by
 obtain⟨_,o,ho,_⟩:=I.ok.eQ.mem hb
 exact absurd (ck (bH ho) (dW I.sz h)) (dO _)
theorem Inv.nu(I:Inv X pins σ H s):∀x c,X.env.cells.lookup x=some c->c≠X.env.locals:=λx c e z=>by
 obtain⟨v,o,ho,hd⟩:=I.cell x c e
 obtain⟨m,⟨o',es,ep,iX,vx,_⟩,_⟩:=I.loc
 rw[z,iX]at ho;cases ho;rw[vx]at hd;cases hd
theorem Inv.eQ(I:Inv X pins σ H s):s.heap.FunFrames X.base X.outer:=by
 have all:∀(l:List Env),(∀b∈cT l,b∈X.fs)->X.bP.heap.FunFrames X.base l->s.heap.FunFrames X.base l:=by
  intro l
  induction l with
  | nil=>intro _ _;trivial
  | cons env r ih =>
   intro hs hl
   obtain⟨hk,⟨L,o,hf,hn,ho,hd⟩,hr⟩:=hl
   have hL:L∈X.fs:=hs L (by unfold cT;rw[sq,hf];exact jz)
   obtain⟨sl,e⟩:=I.base.slot L o ho (I.ok.g7 L hL) hL λz=>I.ok.sQ L z hL
   exact⟨hk,⟨L,_,hf,hn,e,hd⟩,ih (λb hb=>hs b (by unfold cT;rw[sq,hf];exact fm _ hb)) hr⟩
 exact all X.outer (λ_ hb=>hb) I.ok.eQ
theorem Inv.stack(I:Inv X pins σ H s):s.heap.FunFrames X.base X.stack:=by
 rcases I.ok.vv with e | ⟨e,hf⟩
 ·rw[e];exact I.eQ
 ·rw[e]
  obtain⟨m,hn,_⟩:=I.loc
  refine .cons (by rw[I.ok.kind];decide) hf hn ?_ I.eQ
  exact Heap.get?_none_of_le (dW I.ok.gv I.ok.above)
theorem Inv.vy(I:Inv X pins σ H s):∀b∈cT X.stack,b∈X.env.locals::X.fs:=λb hb=>by
 rcases I.ok.vv with e | ⟨e,hf⟩
 ·rw[e]at hb;exact fm _ hb
 ·rw[e]at hb
  unfold cT at hb
  rw[sq,hf]at hb
  exact hb
theorem Inv.ye(I:Inv X pins σ H s):∀b∈cT X.stack,H b=none:=λb hb=>by
 rcases cg.mp (I.vy b hb)with e | hb
 ·rw[e];exact I.free
 ·obtain⟨_,o,ho,_⟩:=I.ok.eQ.mem hb
  exact I.base.free b o ho (I.ok.g7 b hb) λz=>I.ok.sQ b z hb
theorem Inv.step{g':Array GenState}{t':Nat}{d':Drawn}{ch:List Addr}(I:Inv X pins σ H s)
  (jK:∀b∈ch,(b∈X.ex\/X.bP.heap.objs.size<=b)/\b≠X.env.locals/\(∀x c,X.env.cells.lookup x=some c->c≠b)/\∀p∈X.pn++pins,p.1≠b)
  (keep:∀b o,b≠X.env.locals->b ∉ X.fs->b ∉ ch->s.heap.get? b=some o->H b=none->h'.get? b=some o)
  (slot:∀b o,b≠X.env.locals->b∈X.fs->b ∉ ch->s.heap.get? b=some o->H b=none->∃sl,h'.get? b=some { o with slots:=sl }) (free:∀b o,b ∉ ch->s.heap.get? b=some o->H b=none->H' b=none)
  (there:∀b o,b ∉ ch->s.heap.get? b=some o->∃o',h'.get? b=some o')
  (eP:∀b xs,H b=some (.tup xs)->H' b=some (.tup xs)) (eI:∀b o u,H b=some (.bR o u)->H' b=some (.bR o u)) (dS:∀b ps,H b=some (.cO ps)->∃more,H' b=some (.cO (ps++more)))
  (ns:∀m,s.heap.Ns X.env.locals m->h'.Ns X.env.locals m) (az:bS X.prog X.w H' h') (hg:AllBare g') :
  Inv X pins σ H' { s with heap:=h',gens:=g',drawn:=d',toks:=t' }:=by
 have sR:∀b o,X.bP.heap.get? b=some o->b≠X.env.locals:=λb o e=>dU (ck (bH e) I.ok.above)
 have sS:∀b o,X.bP.heap.get? b=some o->b ∉ X.ex->b ∉ ch:=λb o e hx hb=>by
  rcases(jK b hb).1 with z | z
  ·exact hx z
  ·exact absurd (ck (bH e) z) (dO _)
 have cellK:∀x c,X.env.cells.lookup x=some c->∀v,s.heap.IsCell c v->h'.IsCell c v:=λx c e v ⟨o,ho,hd⟩=>by
  have vz:c ∉ ch:=λz=>(jK c z).2.2.1 x c e rfl
  by_cases hc:c∈X.fs
  ·obtain⟨sl,q⟩:=slot c o (I.nu x c e) hc vz ho (I.fu x c e)
   exact⟨_,q,hd⟩
  ·exact⟨o,keep c o (I.nu x c e) hc vz ho (I.fu x c e),hd⟩
 refine⟨I.ok,I.os,hg,⟨λb o e n hb hx=>?_,λb o e n hb hx=>?_,λb o e n hx=>?_,λb o e hx=>?_,λb xs e=>eP b xs (I.base.eP b xs e),λb o xs e=>eI b o xs (I.base.eI b o xs e),λb ps e=>?_⟩,?_,λx c e=>?_,?_,λx c e=>?_,λp hp=>?_,az,I.len⟩
 ·exact keep b o (sR b o e) hb (sS b o e hx) (I.base.keep b o e n hb hx) (I.base.free b o e n hx)
 ·obtain⟨sl,e1⟩:=I.base.slot b o e n hb hx
  obtain⟨vt,e2⟩:=slot b _ (sR b o e) hb (sS b o e hx) e1 (I.base.free b o e n hx)
  exact⟨vt,e2⟩
 ·obtain⟨o',e1⟩:=I.base.there b o e hx
  exact free b o' (sS b o e hx) e1 (I.base.free b o e n hx)
 ·obtain⟨o',e1⟩:=I.base.there b o e hx
  exact there b o' (sS b o e hx) e1
 ·obtain⟨m1,e1⟩:=I.base.dS b ps e
  obtain⟨m2,e2⟩:=dS b _ e1
  exact⟨m1++m2,by rw[e2,u5]⟩
 ·obtain⟨m,hn,hl⟩:=I.loc
  refine⟨m,ns m hn,λi x v e1 e2 e3=>?_⟩
  obtain⟨u,r,l⟩:=hl i x v e1 e2 e3
  refine⟨u,r,?_⟩
  rcases l with l | ⟨k,c,e,z⟩
  ·exact .inl l
  ·exact .inr ⟨k,c,e,cellK x c e _ z⟩
 ·obtain⟨v,z⟩:=I.cell x c e
  exact⟨v,cellK x c e v z⟩
 ·obtain⟨m,⟨o,_,_,ho,_⟩,_⟩:=I.loc
  exact free _ o (λz=>(jK _ z).2.1 rfl) ho I.free
 ·obtain⟨v,o,ho,hd⟩:=I.cell x c e
  exact free c o (λz=>(jK c z).2.2.1 x c e rfl) ho (I.fu x c e)
 ·obtain⟨e,n,ne,nf,d⟩:=I.pin p hp
  have vz:p.1 ∉ ch:=λz=>(jK p.1 z).2.2.2 p hp rfl
  exact⟨keep p.1 p.2 ne nf vz e n,free p.1 p.2 vz e n,ne,nf,d⟩
theorem Inv.un{t':Nat}(I:Inv X pins σ H s)(u:Un X.fs [] H H' s.heap h')(az:bS X.prog X.w H' h'):Inv X pins σ H' { s with heap:=h',toks:=t' }:=by
 obtain⟨m,⟨o,es,ep,ho,r⟩,_⟩:=id I.loc
 obtain⟨sl,hL⟩:=u.any ho I.free (by simp)
 exact I.step (g':=s.gens) (d':=s.drawn) (ch:=[]) (λ_ z=>nomatch z) (λb o _ hb _ e n=>u.keep b o e n hb (by simp)) (λb o _ hb _ e n=>u.slot b o e n hb (by simp)) (λb o _ e n=>u.free b o e n (by simp)) (λb o _ e=>u.there b o e (by simp)) u.eP u.eI u.dS (λm' hm=>by
  obtain⟨o',BV,BW,iX,r'⟩:=hm
  rw[ho]at iX;cases iX
  exact⟨_,BV,BW,hL,r'⟩) az I.bare
theorem Inv.call{g':Array GenState}{t':Nat}{d':Drawn}{ch:List Addr}(I:Inv X pins σ H s)(u:Un (cT X.stack) ch H H' s.heap h')(az:bS X.prog X.w H' h')(hg:AllBare g')
  (jK:∀b∈ch,(b∈X.ex\/X.bP.heap.objs.size<=b)/\b≠X.env.locals/\(∀x c,X.env.cells.lookup x=some c->c≠b)/\∀p∈X.pn++pins,p.1≠b) :
  Inv X pins σ H' { s with heap:=h',gens:=g',drawn:=d',toks:=t' }:=by
 obtain⟨m,⟨o,es,ep,ho,r⟩,_⟩:=id I.loc
 obtain⟨sl,hL⟩:=u.any ho I.free λz=>(jK _ z).2.1 rfl
 exact I.step (ch:=ch) jK (λb o hL hb hc e n=>u.keep b o e n (λz=>(cg.mp (I.vy b z)).elim hL hb) hc) (λb o _ _ hc e n=>u.any e n hc) (λb o hc e n=>u.free b o e n hc) (λb o hc e=>u.there b o e hc) u.eP u.eI u.dS (λm' hm=>by
  obtain⟨o',BV,BW,iX,r'⟩:=hm
  rw[ho]at iX;cases iX
  exact⟨_,BV,BW,hL,r'⟩) az hg
theorem Inv.turned{t':Nat}{it:Addr}(I:Inv X pins σ H s)(k:∀b o,b≠it->s.heap.get? b=some o->h'.get? b=some o)(hn:H it=none)(hL:it≠X.env.locals)
  (h1:it∈X.ex\/X.bP.heap.objs.size<=it) (h2:∀x c,X.env.cells.lookup x=some c->c≠it) (h3:∀p∈X.pn++pins,p.1≠it):Inv X pins σ H { s with heap:=h',toks:=t' }:=by
 have nv:∀b u,H b=some u->b≠it:=λb u e z=>by rw[z,hn]at e;cases e
 refine I.step (g':=s.gens) (d':=s.drawn) (ch:=[it]) (λb hb=>?_) (λb o _ _ hc e _=>k b o (λz=>hc (by simp[z])) e) (λb o _ _ hc e _=>⟨o.slots,k b o (λz=>hc (by simp[z])) e⟩) (λ_ _ _ _ n=>n)
  (λb o hc e=>⟨o,k b o (λz=>hc (by simp[z])) e⟩) (λ_ _ e=>e) (λ_ _ _ e=>e) (λb ps e=>⟨#[],by rw[e];simp⟩) (λm hm=>?_) (λb u e=>?_) I.bare
 ·have e:b=it:=by simpa using hb
  subst e
  exact⟨h1,hL,h2,h3⟩
 ·obtain⟨o,es,ep,ho,r⟩:=hm
  exact⟨o,es,ep,k _ o (dF hL) ho,r⟩
 ·refine(I.az b u e).gu (λc v hc q=>k c v ?_ q) (λ_ q=>q) (λ_ _ q=>q) λ_ _ q=>q
  rcases hc with z | z
  ·rw[z];exact nv b u e
  ·exact nv c _ z
theorem Inv.tok(I:Inv X pins σ H s)(t:Nat):Inv X pins σ H { s with toks:=t }:=I.un (h':=s.heap) (t':=t) Un.refl I.az
theorem Inv.kept{t':Nat}(I:Inv X pins σ H s)(k:∀b u,s.heap.get? b=some u->h'.get? b=some u):Inv X pins σ H { s with heap:=h',toks:=t' }:=I.un (Un.kept k) (I.az.kept k)
theorem Inv.laid{a:Addr}{o:HO}{t':Nat}(I:Inv X pins σ H s)(k:∀b u,s.heap.get? b=some u->h'.get? b=some u)(hp:s.heap.objs.size<=a)(new:cy X.prog X.w (upd H a o) h' a o) :
  Inv X pins σ (upd H a o) { s with heap:=h',toks:=t' }:=I.un (Un.laid k hp (I.az.fresh hp)) (I.az.laid k hp new)
theorem Inv.write{x e:Addr}{o:HO}{t':Nat}(I:Inv X pins σ H s)(mu:vq (H x))(he:e=x\/H e=some (.own x))(k:∀b u,b≠e->s.heap.get? b=some u->h'.get? b=some u)(sO:∃u,h'.get? e=some u)
  (new:cy X.prog X.w (upd H x o) h' x o):Inv X pins σ (upd H x o) { s with heap:=h',toks:=t' }:=I.un (Un.write mu he k sO) (I.az.write mu he k sO new)
theorem Inv.weak{av:List (Option V)}(I:Inv X pins σ H s)(hl:av.length=σ.length)(w:∀(i:Nat) v,av[i]?=some (some v)->σ[i]?=some (some v)):Inv X pins av H s :=
 ⟨I.ok,I.os,I.bare,I.base,let⟨m,hn,yf⟩:=I.loc;⟨m,hn,λi x v e1 e2 e3=>yf i x v e1 (w i v e2) e3⟩,I.cell,I.free,I.fu,I.pin,I.az,hl.trans I.len⟩
theorem Inv.Ks{BX:List (Addr × Obj)}(I:Inv X pins σ H s)(h:∀p∈BX,s.heap.get? p.1=some p.2/\H p.1=none/\p.1≠X.env.locals/\p.1 ∉ X.fs/\∀v,p.2.data≠.cell v):Inv X BX σ H s :=
 ⟨I.ok,I.os,I.bare,I.base,I.loc,I.cell,I.free,I.fu,λp hp=>(cw.mp hp).elim (λz=>I.pin p (eG _ z)) (h p),I.az,I.len⟩
theorem Kt{N:List Str}(hN:N.Nodup){i j:Nat}{x:Str}(a:N[i]?=some x)(b:N[j]?=some x):i=j:=by
 obtain⟨h1,e1⟩:=iA.mp a
 obtain⟨h2,e2⟩:=iA.mp b
 exact(List.getElem_inj hN).mp (e1.trans e2.symm)
theorem S0{M:Model}{A:Around}{E:Value->Shared->Prop}{i:Nat}{x:Str}{v:V}{u:Value}{Q:Unit->Shared->Prop}(I:Inv X pins σ H s)(hN:X.N.Nodup)(hi:X.N[i]?=some x)(hx:Loc X.env.scope x)(r:RelV v u)
  (h:∀s',Inv X pins (σ.set i (some v)) H s'->(∃a,Be a s.heap s'.heap/\(a=X.env.locals\/X.env.cells.lookup x=some a))->Q () s') (hf:X.fn x=true\/X.env.scope.names.lookup x=some .local:=by first | exact .inl rfl | exact .inr rfl | assumption):wpAny M A (storeName X.env x u) Q E s:=by
 obtain⟨m,hn,hl⟩:=id I.loc
 have S1:(X.env.scope.kind==.class||(X.env.scope.kind==.module&&X.env.locals != X.env.globals))=false:=by rw[I.ok.kind];rfl
 have Ku:i<σ.length:=by rw[I.len];exact(iA.mp hi).1
 have nu:=I.nu
 have tracked:∀{a:Addr} {h':Heap},(∃o,s.heap.get? a=some o/\H a=none)->Be a s.heap h'->bS X.prog X.w H h':=λ{a h'} ha hs b ob e=>by
  obtain⟨_,_,Kv⟩:=ha
  refine(I.az b ob e).gu (λc w' hc q=>(hs.2 c ?_).trans q) (λ_ q=>q) (λ_ _ q=>q) λ_ _ q=>q
  rintro rfl
  rcases hc with rfl | hc
  ·rw[Kv]at e;cases e
  ·rw[Kv]at hc;cases hc
 rcases hx with hk | hk
 ·refine wpAny_storeName_local hk hn (λh' S2 hs=>?_) S1
  obtain⟨oL,_,_,S3,_⟩:=id hn
  refine h _ ⟨I.ok,I.os,I.bare,⟨λb o e n hb hx=>?_,λb o e n hb hx=>?_,I.base.free,λb o e hx=>?_,I.base.eP,I.base.eI,I.base.dS⟩,⟨_,S2,λj y v' e1 e2 e3=>?_⟩,λy c e=>?_,I.free,I.fu,λp hp=>?_,tracked ⟨oL,S3,I.free⟩ hs,by simpa using I.len⟩ ⟨_,hs,.inl rfl⟩
  ·exact(hs.2 b (dU (ck (bH e) I.ok.above))).trans (I.base.keep b o e n hb hx)
  ·obtain⟨sl,e1⟩:=I.base.slot b o e n hb hx
   exact⟨sl,(hs.2 b (dU (ck (bH e) I.ok.above))).trans e1⟩
  ·obtain⟨o',e1⟩:=I.base.there b o e hx
   exact⟨o',(hs.2 b (dU (ck (bH e) I.ok.above))).trans e1⟩
  ·by_cases hj:j=i
   ·subst hj
    rw[hi]at e1;cases e1
    rw[sr Ku]at e2
    cases e2
    exact⟨u,r,.inl ⟨hk,by simp⟩⟩
   ·rw[pQ (dF hj)]at e2
    obtain⟨u',r',q⟩:=hl j y v' e1 e2 e3
    refine⟨u',r',?_⟩
    rcases q with⟨k,e⟩ | ⟨k,c,e,z⟩
    ·refine .inl ⟨k,?_⟩
     have:y≠x:=λe=>hj (Kt hN e1 (e ▸ hi))
     simp[this,e]
    ·exact .inr ⟨k,c,e,z.sameBut hs (nu y c e)⟩
  ·obtain⟨w',z⟩:=I.cell y c e
   exact⟨w',z.sameBut hs (nu y c e)⟩
  ·obtain⟨e,n,ne,nf,d⟩:=I.pin p hp
   exact⟨(hs.2 p.1 ne).trans e,n,ne,nf,d⟩
 ·have vA:X.fn x=true:=by
   rcases hf with z | z
   ·exact z
   ·rw[z]at hk;cases hk
  obtain⟨c,hc⟩:=I.ok.has x (.inl hk)
  obtain⟨w',z⟩:=I.cell x c hc
  refine wpAny_storeName_cell I.ok.kind hk hc z (λh' vB hs=>?_)
  obtain⟨oc,gw,S4⟩:=id z
  refine h { s with heap:=h' } ⟨I.ok,I.os,I.bare,⟨λb o e n hb hx=>?_,λb o e n hb hx=>?_,I.base.free,λb o e hx=>?_,I.base.eP,I.base.eI,I.base.dS⟩,⟨m,hn.sameBut hs (dF (nu x c hc)),λj y v' e1 e2 e3=>?_⟩,λy c' e=>?_,I.free,I.fu,λp hp=>?_,tracked ⟨oc,gw,I.fu x c hc⟩ hs,by simpa using I.len⟩ ⟨c,hs,.inr hc⟩
  ·exact(hs.2 b (dU (ck (bH e) (I.ok.qq x c vA hc)))).trans (I.base.keep b o e n hb hx)
  ·obtain⟨sl,e1⟩:=I.base.slot b o e n hb hx
   exact⟨sl,(hs.2 b (dU (ck (bH e) (I.ok.qq x c vA hc)))).trans e1⟩
  ·obtain⟨o',e1⟩:=I.base.there b o e hx
   exact⟨o',(hs.2 b (dU (ck (bH e) (I.ok.qq x c vA hc)))).trans e1⟩
  ·by_cases hj:j=i
   ·subst hj
    rw[hi]at e1;cases e1
    rw[sr Ku]at e2
    cases e2
    exact⟨u,r,.inr ⟨.inl hk,c,hc,vB⟩⟩
   ·rw[pQ (dF hj)]at e2
    obtain⟨u',r',q⟩:=hl j y v' e1 e2 e3
    refine⟨u',r',?_⟩
    rcases q with q | ⟨k,c',e,z'⟩
    ·exact .inl q
    ·refine .inr ⟨k,c',e,z'.sameBut hs ?_⟩
     rintro rfl
     exact hj (Kt hN e1 (I.ok.inj _ _ _ e hc ▸ hi))
  ·by_cases Kw:c'=c
   ·subst Kw;exact⟨_,vB⟩
   ·obtain⟨w2,z2⟩:=I.cell y c' e
    exact⟨w2,z2.sameBut hs Kw⟩
  ·obtain⟨e,n,ne,nf,d⟩:=I.pin p hp
   refine⟨(hs.2 p.1 ?_).trans e,n,ne,nf,d⟩
   intro q
   rw[q,gw]at e
   have q':oc=p.2:=cu e
   exact d w' (by rw[<-q'];exact S4)
theorem BY{M:Model}{A:Around}{E:Value->Shared->Prop}{i:Nat}{x:Str}{v:V}{u:Value}{Q:Unit->Shared->Prop}(I:Inv X pins σ H s)(hN:X.N.Nodup)(hi:X.N[i]?=some x)(hx:Loc X.env.scope x)(r:RelV v u)
  (h:∀s',Inv X pins (σ.set i (some v)) H s'->Q () s') (hf:X.fn x=true\/X.env.scope.names.lookup x=some .local:=by first | exact .inl rfl | exact .inr rfl | assumption):wpAny M A (storeName X.env x u) Q E s :=
 S0 I hN hi hx r (λs' I' _=>h s' I') hf
theorem Inv.S5{s':Shared}{ch:List Addr}(I:Inv X pins σ H s)(ho:s'.os=s.os)(u:Un (cT X.stack) ch H H' s.heap s'.heap)(az:bS X.prog X.w H' s'.heap)(hg:AllBare s'.gens)
  (jK:∀b∈ch,(b∈X.ex\/X.bP.heap.objs.size<=b)/\b≠X.env.locals/\(∀x c,X.env.cells.lookup x=some c->c≠b)/\∀p∈X.pn++pins,p.1≠b):Inv X pins σ H' s':=by
 obtain⟨h',g',d',t',o'⟩:=s'
 have e:o'=s.os:=ho
 subst e
 exact I.call (g':=g') (t':=t') (d':=d') u az hg jK
end
noncomputable abbrev XK:=Value->Option Addr->Hp->Prop
noncomputable abbrev St:=List (Option V)
noncomputable abbrev VK:=V->Hp->Prop
noncomputable abbrev TE:=St->Hp->VK->Prop
noncomputable abbrev TT:=St->Hp->(Bool->Hp->Prop)->Prop
noncomputable abbrev TA:=St->Hp->(List V->Hp->Prop)->Prop
structure Ends where
 nx:St->Hp->Prop
 rt:VK
 bk:St->Hp->Prop:=λ_ _=>False
 ct:St->Hp->Prop:=λ_ _=>False
noncomputable abbrev TS:=Ends->St->Hp->Prop
noncomputable def EP(X:Cx)(pins:List (Addr × Obj))(σ:St)(Q:VK)(u:Value)(s':Shared):Prop:=∃v H',Inv X pins σ H' s'/\RelV v u/\Q v H'
noncomputable def TP(X:Cx)(pins:List (Addr × Obj))(σ:St)(Q:Bool->Hp->Prop)(b:Bool)(s':Shared):Prop:=∃H',Inv X pins σ H' s'/\Q b H'
noncomputable def AP(X:Cx)(pins:List (Addr × Obj))(σ:St)(Q:List V->Hp->Prop)(us:List Value)(s':Shared):Prop:=∃vs H',Inv X pins σ H' s'/\Vals vs us/\Q vs H'
noncomputable def SP(X:Cx)(pins:List (Addr × Obj))(D:Ends)(f:Flow)(s':Shared):Prop :=
 match f with
 | .next=>∃av H',Inv X pins av H' s'/\D.nx av H'
 | .brk=>∃av H',Inv X pins av H' s'/\D.bk av H'
 | .cont=>∃av H',Inv X pins av H' s'/\D.ct av H'
 | .ret u=>∃v av H',Inv X pins av H' s'/\RelV v u/\D.rt v H'
noncomputable def PE(X:Cx)(e:Expr)(t:TE):Prop :=
 ∀(pins:List (Addr × Obj)) (s:Shared) (σ:St) (H:Hp) (Q:VK),Inv X pins σ H s->t σ H Q->wpAny (model X.prog X.w) X.A (eval e X.env) (EP X pins σ Q) X.xe s
noncomputable def PT(X:Cx)(e:Expr)(t:TT):Prop :=
 ∀(pins:List (Addr × Obj)) (s:Shared) (σ:St) (H:Hp) (Q:Bool->Hp->Prop),Inv X pins σ H s->t σ H Q->wpAny (model X.prog X.w) X.A (isTrue e X.env (eval e X.env)) (TP X pins σ Q) X.xe s
noncomputable def PW(X:Cx)(e:Expr)(t:TT):Prop :=
 ∀(whole:Sem Value) (pins:List (Addr × Obj)) (s:Shared) (σ:St) (H:Hp) (Q:Bool->Hp->Prop),Inv X pins σ H s->t σ H Q->wpAny (model X.prog X.w) X.A (isTrue e X.env whole) (TP X pins σ Q) X.xe s
theorem PW.pt{X:Cx}{e:Expr}{t:TT}(h:PW X e t):PT X e t:=h _
noncomputable def PA(X:Cx)(es:List Expr)(t:TA):Prop :=
 ∀(pos:Pos) (pins:List (Addr × Obj)) (s:Shared) (σ:St) (H:Hp) (Q:List V->Hp->Prop),Inv X pins σ H s->t σ H Q->wpAny (model X.prog X.w) X.A (spliced (backTo pos (starEach es X.env))) (AP X pins σ Q) X.xe s
noncomputable def PS(X:Cx)(st:Stmt)(t:TS):Prop :=
 ∀(pins:List (Addr × Obj)) (s:Shared) (σ:St) (H:Hp) (D:Ends),Inv X pins σ H s->t D σ H->wpAny (model X.prog X.w) X.A (exec st X.env) (SP X pins D) X.xe s
noncomputable def PSs(X:Cx)(st:List Stmt)(t:TS):Prop :=
 ∀(pins:List (Addr × Obj)) (s:Shared) (σ:St) (H:Hp) (D:Ends),Inv X pins σ H s->t D σ H->wpAny (model X.prog X.w) X.A (execs st X.env) (SP X pins D) X.xe s
theorem aE{α:Type}{t:Sem α}{Q Q':α->Shared->Prop}{M:Model}{A:Around}{E:Value->Shared->Prop}{s:Shared}(h:wpAny M A t Q E s)(hQ:∀a s,Q a s->Q' a s):wpAny M A t Q' E s:=wpAny_mono h hQ λ_ _ x=>x
end L2
namespace L2
open PySem PySem.Spec PyProof.Rows
section
variable{X:Cx}
noncomputable def Kx(i:Nat):TE:=λσ H Q=>∃v,σ[i]?=some (some v)/\Q v H
noncomputable def tC(v:V):TE:=λ_ H Q=>Q v H
theorem qt{i:Nat}{x:Str}{pos:Pos}(hN:X.N[i]?=some x)(hv:jJ X.env.scope x)(hd:(x==("__debug__":Str))=false:=by decide)(cn:(x==("__classdict__":Str))=false:=by decide):PE X (.Name x pos) (Kx i):=by
 intro pins s σ H Q I h
 obtain⟨v,e,h⟩:=h
 obtain⟨m,hn,hl⟩:=I.loc
 obtain⟨u,r,l⟩:=hl i x v hN e hv
 have fin:EP X pins σ Q u s:=⟨v,H,I,r,h⟩
 rcases l with⟨hk,hm⟩ | ⟨hk,c,hc,yg⟩
 ·exact wpAny_Name (wpAny_loadName_local I.ok.kind hk hn hm fin) hd
 ·rcases hk with hk | hk
  ·exact wpAny_Name (wpAny_loadName_cell I.ok.kind hk hc yg fin) hd
  ·exact wpAny_Name (wpAny_loadName_free I.ok.kind hk hc yg fin cn) hd
theorem vC{i j pos}:PE X (.Constant (.int i) j pos) (tC (.int i)):=λ_ _ _ H _ I h=>wpAny_Constant_int ⟨.int i,H,I.tok _,⟨_,rfl⟩,h⟩
theorem Ky{b j pos}:PE X (.Constant (.bool b) j pos) (tC (.bl b)):=λ_ _ _ H _ I h=>Constant_bool ⟨.bl b,H,I,rfl,h⟩
theorem S6{j pos}:PE X (.Constant .none j pos) (tC .ak):=λ_ _ _ H _ I h=>Constant_none ⟨.ak,H,I,rfl,h⟩
theorem S7{x j pos}:PE X (.Constant (.str x) j pos) (tC (.str x)):=λ_ _ _ H _ I h=>Calls.Constant_str ⟨.str x,H,I.tok _,⟨_,rfl⟩,h⟩
noncomputable def Gl(X:Cx)(x:Str):Prop:=X.env.kindOf x=some .globalImplicit
theorem yh{E:Value->Shared->Prop}{pins:List (Addr × Obj)}{s:Shared}{σ:St}{H:Hp}{x:Str}{u:Value}{pos:Pos}{Q:Value->Shared->Prop}(I:Inv X pins σ H s)(hg:Gl X x)(hm:X.mg x=some u)(h:Q u s)
  (hd:(x==("__debug__":Str))=false:=by decide):wpAny (model X.prog X.w) X.A (eval (.Name x pos) X.env) Q E s :=
 Sa I.ok.kind hg (Calls.loadGlobal_global (by rw[I.ok.glob];exact I.mod.glob.keeps I.bk) hm h) hd
theorem qu{E:Value->Shared->Prop}{pins:List (Addr × Obj)}{s:Shared}{σ:St}{H:Hp}{x:Str}{u:Value}{pos:Pos}{Q:Value->Shared->Prop}(I:Inv X pins σ H s)(hg:Gl X x)(hm:X.mg x=none)(hv:bootBuiltins x=some u)(h:Q u s)
  (hn:x≠"__name__":=by decide) (hd:(x==("__debug__":Str))=false:=by decide):wpAny (model X.prog X.w) X.A (eval (.Name x pos) X.env) Q E s:=by
 obtain⟨mb,h1,h2⟩:=I.mod.blt
 exact Sa I.ok.kind hg (Calls.loadGlobal_builtin (by rw[I.ok.glob];exact I.mod.glob.keeps I.bk) hm (by rw[I.ok.blt];exact h1.keeps I.bk) ((h2 x hn).trans hv) h) hd
theorem S8{x:Str}{v:V}{u:Value}{pos:Pos}(hg:Gl X x)(hm:X.mg x=none)(hv:bootBuiltins x=some u)(r:RelV v u)(hn:x≠"__name__":=by decide)(hd:(x==("__debug__":Str))=false:=by decide):PE X (.Name x pos) (tC v) :=
 λ_ _ _ H _ I h=>qu I hg hm hv ⟨v,H,I,r,h⟩ hn hd
variable{a b:Expr}{ta tb:TE}{pos:Pos}
noncomputable def tB(t:TE):TT:=λσ H Q=>t σ H λx H1=>∃c,x=.bl c/\Q c H1
theorem BZ{e:Expr}{t:TE}(h:PE X e t)(he:∀whole,isTrue e X.env whole=(do let v<-whole;standAt e.pos;holding [v] (truthy v)):=by intro _;rfl):PT X e (tB t):=by
 intro pins s σ H Q I hw
 refine isTrue_plain (aE (h pins s σ H _ I hw) λv s1 ⟨x,H1,I1,r1,q1⟩=>?_) (he _)
 obtain⟨d,rfl,q⟩:=q1
 cases r1
 exact wpAny_truthy_bool ⟨H1,I1,q⟩
variable{tA yi:TT}{cA:List Expr}
noncomputable def S9(t u:TT):TT:=λσ H Q=>t σ H λc H1=>if c=true then u σ H1 Q else Q false H1
noncomputable def Ta(t u:TT):TT:=λσ H Q=>t σ H λc H1=>if c=true then Q true H1 else u σ H1 Q
noncomputable def Tc(t:TT):TT:=λσ H Q=>t σ H λc H1=>Q (!c) H1
theorem Td(ha:PT X a tA):PW X (.BoolOp .And [a] pos) tA:=by
 intro wh pins s σ H Q I h
 refine isTrue_and (aE (ha pins s σ H Q I h) λc s1 e=>?_)
 cases c with
 | true=>exact isTrue_and_nil e
 | false=>exact e
theorem Kz(ha:PT X a tA):PW X (.BoolOp .Or [a] pos) tA:=by
 intro wh pins s σ H Q I h
 refine isTrue_or (aE (ha pins s σ H Q I h) λc s1 e=>?_)
 cases c with
 | false=>exact isTrue_or_nil e
 | true=>exact e
theorem Te(ha:PT X a tA)(hb:PW X (.BoolOp .And (b::cA) pos) yi):PW X (.BoolOp .And (a::b::cA) pos) (S9 tA yi):=by
 intro wh pins s σ H Q I h
 refine isTrue_and (aE (ha pins s σ H _ I h) λc s1 ⟨H1,I1,q1⟩=>?_)
 cases c with
 | true=>exact hb wh pins s1 σ H1 Q I1 q1
 | false=>exact⟨H1,I1,q1⟩
theorem Tf(ha:PT X a tA)(hb:PW X (.BoolOp .Or (b::cA) pos) yi):PW X (.BoolOp .Or (a::b::cA) pos) (Ta tA yi):=by
 intro wh pins s σ H Q I h
 refine isTrue_or (aE (ha pins s σ H _ I h) λc s1 ⟨H1,I1,q1⟩=>?_)
 cases c with
 | true=>exact⟨H1,I1,q1⟩
 | false=>exact hb wh pins s1 σ H1 Q I1 q1
theorem B0(ha:PT X a tA):PT X (.UnaryOp .Not a pos) (Tc tA):=by
 intro pins s σ H Q I h
 exact isTrue_not (ha pins s σ H (λc H1=>Q (!c) H1) I h)
noncomputable def Tg(ta tb:TE):TE:=λσ H Q=>ta σ H λx H1=>∃c,x=.bl c/\if c=true then tb σ H1 Q else Q (.bl false) H1
noncomputable def Th(ta tb:TE):TE:=λσ H Q=>ta σ H λx H1=>∃c,x=.bl c/\if c=true then Q (.bl true) H1 else tb σ H1 Q
noncomputable def Ti(ta:TE):TE:=λσ H Q=>ta σ H λx H1=>∃c,x=.bl c/\Q (.bl (!c)) H1
theorem qv{op}{t:TE}(h:PE X a t):PE X (.BoolOp op [a] pos) t:=λpins s σ H Q I hw=>BoolOp_one (h pins s σ H Q I hw)
theorem Tj(ha:PE X a ta)(hb:PE X (.BoolOp .And (b::cA) pos) tb):PE X (.BoolOp .And (a::b::cA) pos) (Tg ta tb):=by
 intro pins s σ H Q I h
 refine BoolOp_and (aE (ha pins s σ H _ I h) λv s1 ⟨x,H1,I1,r1,q1⟩=>?_)
 obtain⟨c,rfl,q1⟩:=q1
 cases r1
 refine wpAny_truthy_bool ?_
 cases c with
 | true=>exact hb pins s1 σ H1 Q I1 q1
 | false=>exact⟨.bl false,H1,I1,rfl,q1⟩
theorem Tn(ha:PE X a ta)(hb:PE X (.BoolOp .Or (b::cA) pos) tb):PE X (.BoolOp .Or (a::b::cA) pos) (Th ta tb):=by
 intro pins s σ H Q I h
 refine BoolOp_or (aE (ha pins s σ H _ I h) λv s1 ⟨x,H1,I1,r1,q1⟩=>?_)
 obtain⟨c,rfl,q1⟩:=q1
 cases r1
 refine wpAny_truthy_bool ?_
 cases c with
 | false=>exact hb pins s1 σ H1 Q I1 q1
 | true=>exact⟨.bl true,H1,I1,rfl,q1⟩
theorem To(ha:PE X a ta):PE X (.UnaryOp .Not a pos) (Ti ta):=by
 intro pins s σ H Q I h
 refine UnaryOp_ (aE (ha pins s σ H _ I h) λv s1 ⟨x,H1,I1,r1,q1⟩=>?_)
 obtain⟨c,rfl,q1⟩:=q1
 cases r1
 exact not_of (wpAny_truthy_bool ⟨.bl (!c),H1,I1,rfl,q1⟩)
noncomputable def Tp(t:TT)(ta tb:TE):TE:=λσ H Q=>t σ H λc H1=>if c=true then ta σ H1 Q else tb σ H1 Q
theorem Tq{c:Expr}(hc:PT X c tA)(ha:PE X a ta)(hb:PE X b tb):PE X (.IfExp c a b pos) (Tp tA ta tb):=by
 intro pins s σ H Q I h
 refine wpAny_IfExp (aE (hc pins s σ H _ I h) λd s1 ⟨H1,I1,q1⟩=>?_)
 cases d with
 | true=>exact ha pins s1 σ H1 Q I1 q1
 | false=>exact hb pins s1 σ H1 Q I1 q1
end
end L2
namespace L2
open PySem PySem.Spec PyProof.Rows
noncomputable def bt(K:PySem.W.Frag)(H:Hp)(a:Addr)(xs:List V):Prop :=
 Rd H a (.lst xs) \/
  ∃(o:Obj) (its:Array Value) (n:Nat),K.lookup a=some o/\o.cls=.type "list"/\o.dict=none/\o.data=.seq its n/\its.size<=sizeLine/\Vals xs its.toList
noncomputable def eR(K:PySem.W.Frag)(H:Hp)(a:Addr)(xs:List V):Prop :=
 Rd H a (.tup xs) \/
  ∃(o:Obj) (its:Array Value) (n:Nat),K.lookup a=some o/\o.cls=.type "tuple"/\o.data=.seq its n/\its.size<=sizeLine/\Vals xs its.toList
noncomputable def Tr:Value->Option V
 | .none=>some .ak
 | .bool b=>some (.bl b)
 | .int i _=>some (.int i)
 | .str x _=>some (.str x)
 | .bytes b _=>some (.yb b)
 | .float b _=>some (.qo b)
 | .ref a=>some (.ref a)
 | .type n=>some (.ty n)
 | _=>none
theorem RelV.abs{x:V}{u:Value}(r:RelV x u):Tr u=some x:=by
 cases x with
 | ak=>cases r;rfl
 | bl _=>cases r;rfl
 | int _=>obtain⟨t,rfl⟩:=r;rfl
 | str _=>obtain⟨t,rfl⟩:=r;rfl
 | yb _=>obtain⟨t,rfl⟩:=r;rfl
 | qo _=>obtain⟨t,rfl⟩:=r;rfl
 | ref _=>cases r;rfl
 | ty _=>cases r;rfl
theorem RelV.inj{x y:V}{u:Value}(r:RelV x u)(q:RelV y u):x=y:=cu (r.abs.symm.trans q.abs)
theorem Vals.inj:∀{xs ys:List V} {us:List Value},Vals xs us->Vals ys us->xs=ys
 | _,_,_,.nil,.nil=>rfl
 | _,_,_,.cons r t,.cons r' t'=>by rw[r.inj r',Vals.inj t t']
section
variable{X:Cx}{pins:List (Addr × Obj)}{σ:St}{H:Hp}{s:Shared}{a:Addr}{xs ys:List V}
theorem bt.of{K:PySem.W.Frag}(h:H a=some (.lst xs)):bt K H a xs:=.inl (.inl h)
theorem eR.of{K:PySem.W.Frag}(h:H a=some (.tup xs)):eR K H a xs:=.inl (.inl h)
theorem Inv.list(I:Inv X pins σ H s)(h:bt X.K H a xs):∃its:List Value,Vals xs its/\PlainL s.heap a its.toArray/\xs.length<=sizeLine:=by
 rcases h with h | ⟨o,its,n,hk,hc,hd,hs,hz,r⟩
 ·obtain⟨z,its,n,r,e⟩:=h.ok I.az
  exact⟨its,r,⟨_,n,e,rfl,rfl,rfl⟩,z⟩
 ·refine⟨its.toList,r,⟨o,n,I.cJ a o hk,hc,hd,by simpa using hs⟩,?_⟩
  have e:=r.length
  simp only[u6]at e
  omega
theorem Inv.tuple(I:Inv X pins σ H s)(h:eR X.K H a xs):∃its:List Value,Vals xs its/\IsTup s.heap a its.toArray/\xs.length<=sizeLine:=by
 rcases h with h | ⟨o,its,n,hk,hc,hs,hz,r⟩
 ·obtain⟨z,its,r,p⟩:=h.ok I.az
  exact⟨its,r,p,z⟩
 ·refine⟨its.toList,r,⟨o,I.cJ a o hk,hc,n,by simpa using hs⟩,?_⟩
  have e:=r.length
  simp only[u6]at e
  omega
theorem Inv.yj(I:Inv X pins σ H s)(h:bt X.K H a xs)(h':bt X.K H a ys):xs=ys:=by
 obtain⟨its,r,⟨o,n,e,_,_,d⟩,_⟩:=I.list h
 obtain⟨its',r',⟨o',n',e',_,_,d'⟩,_⟩:=I.list h'
 rw[e]at e';cases e'
 rw[d]at d'
 injection d' with d1 _
 have:its=its':=by simpa using congrArg Array.toList d1
 subst this
 exact r.inj r'
end
noncomputable abbrev Cx.g8(X:Cx)(E:Value->Shared->Prop):Cx:={ X with xe:=E }
noncomputable abbrev Cx.eS(X:Cx):Cx:=X.g8 λ_ _=>False
theorem Cx.Ok.g8{X:Cx}(ok:X.Ok)(E:Value->Shared->Prop):(X.g8 E).Ok :=
 ⟨ok.mod,ok.kind,ok.glob,ok.blt,ok.above,ok.inj,ok.has,ok.qq,ok.hd,ok.frames,ok.vv,ok.vw,ok.bs,ok.gv,ok.sP,ok.sQ,ok.eQ,ok.g7⟩
theorem Cx.Ok.iY{X:Cx}{E:Value->Shared->Prop}(ok:(X.g8 E).Ok):X.Ok :=
 ⟨ok.mod,ok.kind,ok.glob,ok.blt,ok.above,ok.inj,ok.has,ok.qq,ok.hd,ok.frames,ok.vv,ok.vw,ok.bs,ok.gv,ok.sP,ok.sQ,ok.eQ,ok.g7⟩
section
variable{X:Cx}{pins:List (Addr × Obj)}{σ:St}{H:Hp}{s:Shared}{E:Value->Shared->Prop}
theorem Inv.g8(I:Inv X pins σ H s)(E:Value->Shared->Prop):Inv (X.g8 E) pins σ H s:=⟨I.ok.g8 E,I.os,I.bare,I.base,I.loc,I.cell,I.free,I.fu,I.pin,I.az,I.len⟩
theorem Inv.iY(I:Inv (X.g8 E) pins σ H s):Inv X pins σ H s:=⟨I.ok.iY,I.os,I.bare,I.base,I.loc,I.cell,I.free,I.fu,I.pin,I.az,I.len⟩
theorem SP.iY{D:Ends}{f:Flow}{s':Shared}(h:SP (X.g8 E) pins D f s'):SP X pins D f s':=by
 cases f with
 | next=>obtain⟨av,H',I,q⟩:=h;exact⟨av,H',I.iY,q⟩
 | brk=>obtain⟨av,H',I,q⟩:=h;exact⟨av,H',I.iY,q⟩
 | cont=>obtain⟨av,H',I,q⟩:=h;exact⟨av,H',I.iY,q⟩
 | ret u=>obtain⟨v,av,H',I,r,q⟩:=h;exact⟨v,av,H',I.iY,r,q⟩
theorem PE.eS{e:Expr}{t:TE}(h:PE X.eS e t):PE X e t:=λpins s σ H Q I hw =>
 wpAny_mono (h pins s σ H Q (I.g8 _) hw) (λ_ _ ⟨v,H',I',r,q⟩=>⟨v,H',I'.iY,r,q⟩) λ_ _ z=>dX z
theorem PT.eS{e:Expr}{t:TT}(h:PT X.eS e t):PT X e t:=λpins s σ H Q I hw =>
 wpAny_mono (h pins s σ H Q (I.g8 _) hw) (λ_ _ ⟨H',I',q⟩=>⟨H',I'.iY,q⟩) λ_ _ z=>dX z
theorem PSs.eS{st:List Stmt}{t:TS}(h:PSs X.eS st t):PSs X st t:=λpins s σ H D I hw =>
 wpAny_mono (h pins s σ H D (I.g8 _) hw) (λ_ _ q=>q.iY) λ_ _ z=>dX z
end
section
variable{X:Cx}{st:Stmt}{cA:List Stmt}{t u:TS}{e:Expr}{te:TE}{pos:Pos}
noncomputable def Ts:TS:=λD σ H=>D.nx σ H
noncomputable def Tt(t u:TS):TS:=λD σ H=>t { D with nx:=u D } σ H
theorem B3:PSs X [] Ts:=λ_ _ σ H _ I h=>wpAny_execs_nil ⟨σ,H,I,h⟩
theorem g9(h1:PS X st t)(h2:PSs X cA u):PSs X (st::cA) (Tt t u):=by
 intro pins s σ H D I h
 refine wpAny_execs_cons (aE (h1 pins s σ H { D with nx:=u D } I h) λf s1 q=>?_)
 cases f with
 | next =>
  obtain⟨av,H',I',q⟩:=q
  exact h2 pins s1 av H' D I' q
 | ret v=>exact q
 | brk=>exact q
 | cont=>exact q
theorem qw(h1:PS X st t):PSs X [st] t:=by
 intro pins s σ H D I h
 refine wpAny_execs_cons (aE (h1 pins s σ H D I h) λf s1 q=>?_)
 cases f with
 | next=>exact wpAny_execs_nil q
 | ret v=>exact q
 | brk=>exact q
 | cont=>exact q
theorem Inv.quiet{pins:List (Addr × Obj)}{σ:St}{H:Hp}{s:Shared}(I:Inv X pins σ H s):interactive X.env=false:=by simp[interactive,I.ok.kind]
noncomputable def Tu(te:TE):TS:=λD σ H=>te σ H λ_ H1=>D.nx σ H1
theorem B4(he:PE X e te)(hs:swapsWith e none pos.line X.env=pure false:=by rfl):PS X (.Expr e pos) (Tu te):=by
 intro pins s σ H D I h
 exact wpAny_Expr_any (aE (he pins s σ H _ I h) λv s1 ⟨x,H1,I1,r1,q1⟩=>⟨σ,H1,I1,q1⟩) I.quiet hs
noncomputable def Tv(te:TE):TS:=λD σ H=>te σ H D.rt
theorem Tw(he:PE X e te):PS X (.Return (some e) pos) (Tv te):=by
 intro pins s σ H D I h
 exact wpAny_Return_some (aE (he pins s σ H _ I h) λv s1 ⟨x,H1,I1,r1,q1⟩=>⟨x,σ,H1,I1,r1,q1⟩)
noncomputable def Tx(c:TT)(t u:TS):TS:=λD σ H=>c σ H λb H1=>if b=true then t D σ H1 else u D σ H1
theorem B5{c:Expr}{a b:List Stmt}{tc:TT}(hc:PT X c tc)(ha:PSs X a t)(hb:PSs X b u):PS X (.If c a b pos) (Tx tc t u):=by
 intro pins s σ H D I h
 refine wpAny_If (aE (hc pins s σ H _ I h) λd s1 ⟨H1,I1,q1⟩=>?_)
 cases d with
 | true=>exact ha pins s1 σ H1 D I1 q1
 | false=>exact hb pins s1 σ H1 D I1 q1
noncomputable def Tz:TS:=λ_ _ _=>False
theorem KA:PS X st Tz:=λ_ _ _ _ _ _ h=>h.elim
end
noncomputable abbrev TG:=V->St->Hp->(St->Hp->Prop)->Prop
noncomputable abbrev qy:=List V->St->Hp->(St->Hp->Prop)->Prop
noncomputable def PG(X:Cx)(target:Expr)(t:TG):Prop :=
 ∀(pins:List (Addr × Obj)) (s:Shared) (σ:St) (H:Hp) (v:V) (u:Value) (Q:St->Hp->Prop),Inv X pins σ H s->RelV v u->t v σ H Q ->
  wpAny (model X.prog X.w) X.A (assign target X.env u) (λ_ s'=>∃av H',Inv X pins av H' s'/\Q av H') X.xe s
noncomputable def yk(X:Cx)(ts:List Expr)(t:qy):Prop :=
 ∀(pins:List (Addr × Obj)) (s:Shared) (σ:St) (H:Hp) (vs:List V) (us:List Value) (Q:St->Hp->Prop),Inv X pins σ H s->Vals vs us->t vs σ H Q ->
  wpAny (model X.prog X.w) X.A (assignInOrder ((assignEach ts X.env).map (·.2)) us) (λ_ s'=>∃av H',Inv X pins av H' s'/\Q av H') X.xe s
noncomputable abbrev B6:=V->V->V->Hp->(Hp->Prop)->Prop
noncomputable def KC(X:Cx)(t:B6):Prop :=
 ∀(pins:List (Addr × Obj)) (s:Shared) (σ:St) (H:Hp) (o i v:V) (ov iv u:Value) (Q:Hp->Prop),Inv X pins σ H s->RelV o ov->RelV i iv->RelV v u->t o i v H Q ->
  wpAny (model X.prog X.w) X.A (setItem ov iv u) (λ_ s'=>∃H',Inv X pins σ H' s'/\Q H') X.xe s
noncomputable abbrev B7:=V->V->Hp->VK->Prop
noncomputable def TB(X:Cx)(op:Operator)(t:B7):Prop :=
 ∀(pins:List (Addr × Obj)) (s:Shared) (σ:St) (H:Hp) (x y:V) (v u:Value) (Q:VK),Inv X pins σ H s->RelV x v->RelV y u->t x y H Q ->
  wpAny (model X.prog X.w) X.A (inplaceOp op v u) (EP X pins σ Q) X.xe s
section
variable{X:Cx}{pos:Pos}
noncomputable def yl(i:Nat):TG:=λv σ H Q=>Q (σ.set i (some v)) H
theorem ym{i:Nat}{x:Str}(hN:X.N.Nodup)(hi:X.N[i]?=some x)(hx:Loc X.env.scope x)(hf:X.fn x=true\/X.env.scope.names.lookup x=some .local:=by first | exact .inl rfl | exact .inr rfl | assumption):PG X (.Name x pos) (yl i):=by
 intro pins s σ H v u Q I r h
 exact wpAny_assign_Name (BY I hN hi hx r (λs' I'=>⟨_,H,I',h⟩) hf)
noncomputable def TC:qy:=λvs σ H Q=>vs=[]/\Q σ H
noncomputable def TF(t:TG)(u:qy):qy:=λvs σ H Q=>∃v r,vs=v::r/\t v σ H λav H'=>u r av H' Q
theorem TH:yk X [] TC:=by
 intro pins s σ H vs us Q I r h
 obtain⟨e,h⟩:=h
 subst e
 cases r
 exact assignInOrder_nil ⟨σ,H,I,h⟩
theorem KD{e:Expr}{es:List Expr}{t:TG}{u:qy}(h1:PG X e t)(h2:yk X es u)
  (hs:(assignEach (e::es) X.env).map (·.2)=assign e X.env::(assignEach es X.env).map (·.2):=by rfl):yk X (e::es) (TF t u):=by
 intro pins s σ H vs us Q I r h
 obtain⟨v,vr,e1,h⟩:=h
 subst e1
 cases r with
 | cons r rr =>
  rw[hs]
  refine assignInOrder_cons (aE (h1 pins s σ H _ _ _ I r h) λ_ s1 ⟨ff,H1,I1,q1⟩=>?_)
  exact h2 pins s1 ff H1 _ _ Q I1 rr q1
noncomputable def TJ(K:PySem.W.Frag)(n:Nat)(t:qy):TG:=λv σ H Q=>∃a xs,v=.ref a/\eR K H a xs/\xs.length=n/\t xs σ H Q
theorem TK{es:List Expr}{k:Nat}{t:qy}{n:Nat}(hc:X.calm=true)(h:yk X es t)
  (hn:(assignEach es X.env).length=n:=by rfl) (cK:(assignEach es X.env).findIdx? (·.1)=none:=by rfl):PG X (.Tuple es k pos) (TJ X.K n t):=by
 intro pins s σ H v u Q I r hw
 obtain⟨a,xs,e1,hq,hl,hw⟩:=hw
 subst e1
 cases r
 obtain⟨its,rv,ht,hz⟩:=I.tuple hq
 refine assign_Tuple_tuple (I.ok.hd hc) ht (by simp[hn,<- hl,rv.length]) cK λh' hx=>?_
 have I1:Inv X pins σ H { s with heap:=h' }:=I.kept (t':=s.toks) λb o e=>hx b o (dU (bH e)) e
 exact h pins _ σ H xs _ Q I1 (by simpa using rv) hw
noncomputable def TL(to ti:TE)(t:B6):TG:=λv σ H Q=>to σ H λo H1=>ti σ H1 λi H2=>t o i v H2 λH3=>Q σ H3
theorem TM{o i:Expr}{to ti:TE}{t:B6}(ho:PE X o to)(hi:PE X i ti)(hs:KC X t)
  (ha:∀v,assign (.Subscript o i pos) X.env v=(do
   let ov<-holding [v] (eval o X.env)
   let iv<-holding [v,ov] (eval i X.env)
   standAt pos
   holding [v,ov,iv] (setItem ov iv v)
   release [v,ov,iv] []):=by intro _;rfl):PG X (.Subscript o i pos) (TL to ti t):=by
 intro pins s σ H v u Q I r h
 rw[ha]
 refine wpAny_bind (wpAny_holding (aE (ho pins s σ H _ I h) λov s1 ⟨x,H1,I1,r1,q1⟩=>?_))
 refine wpAny_bind (wpAny_holding (aE (hi pins s1 σ H1 _ I1 q1) λiv s2 ⟨y,H2,I2,r2,q2⟩=>?_))
 refine wpAny_bind (wpAny_standAt (wpAny_bind (wpAny_holding (aE (hs pins s2 σ H2 x y v ov iv u _ I2 r1 r2 r q2) λ_ s3 ⟨H3,I3,q3⟩=>?_))))
 exact wpAny_release ⟨σ,H3,I3,q3⟩
noncomputable def B8(te:TE)(g:TG):TS:=λD σ H=>te σ H λx H1=>g x σ H1 D.nx
theorem TN{tg e:Expr}{te:TE}{g:TG}(he:PE X e te)(hg:PG X tg g)(hs:swapsWithSole [tg] e pos.line X.env=pure false:=by rfl)(hw:swappedStores [tg] e X.env=pure none:=by rfl)
  (h1:(assignEach [tg] X.env).map (·.2)=[assign tg X.env]:=by rfl):PS X (.Assign [tg] e pos) (B8 te g):=by
 intro pins s σ H D I h
 refine wpAny_Assign_stores (aE (he pins s σ H _ I h) λv s1 ⟨x,H1,I1,r1,q1⟩=>?_) hs hw
 rw[h1]
 exact aE (hg pins s1 σ H1 x v _ I1 r1 q1) λ_ s2 q=>q
theorem B9{i:Nat}{x:Str}{e:Expr}{te:TE}{pos':Pos}(hN:X.N.Nodup)(hi:X.N[i]?=some x)(hx:Loc X.env.scope x)(he:PE X e te)(hs:swapsWith e (some (.Name x pos')) pos.line X.env=pure false:=by rfl)(hf:X.fn x=true\/X.env.scope.names.lookup x=some .local:=by first | exact .inl rfl | exact .inr rfl | assumption) :
  PS X (.Assign [.Name x pos'] e pos) (B8 te (yl i)):=by
 intro pins s σ H D I h
 refine wpAny_Assign_Name (aE (he pins s σ H _ I h) λv s1 ⟨y,H1,I1,r1,q1⟩=>?_) hs
 exact BY I1 hN hi hx r1 (λs2 I2=>⟨_,H1,I2,q1⟩) hf
noncomputable def TQ(i:Nat)(te:TE)(ti:B7):TS:=λD σ H=>∃x,σ[i]?=some (some x)/\te σ H λy H1=>ti x y H1 λz H2=>D.nx (σ.set i (some z)) H2
theorem TR{i:Nat}{x:Str}{e:Expr}{te:TE}{op:Operator}{ti:B7}{pos':Pos}(hN:X.N.Nodup)(hi:X.N[i]?=some x)(hx:Loc X.env.scope x)(he:PE X e te)(ho:TB X op ti)(hf:X.fn x=true\/X.env.scope.names.lookup x=some .local:=by first | exact .inl rfl | exact .inr rfl | assumption) :
  PS X (.AugAssign (.Name x pos') op e pos) (TQ i te ti):=by
 intro pins s σ H D I h
 obtain⟨v,e1,h⟩:=h
 obtain⟨m,hn,hl⟩:=I.loc
 have TU:jJ X.env.scope x:=by rcases hx with k | k;exact .inl k;exact .inr (.inl k)
 obtain⟨u,r,l⟩:=hl i x v hi e1 TU
 refine wpAny_AugAssign_Name ?_
 have go:wpAny (model X.prog X.w) X.A (eval e X.env) (λw iZ=>wpAny (model X.prog X.w) X.A (inplaceOp op u w) (λr TV=>wpAny (model X.prog X.w) X.A (storeName X.env x r) (λ_=>SP X pins D .next) X.xe TV) X.xe iZ) X.xe s:=by
  refine aE (he pins s σ H _ I h) λw s1 ⟨y,H1,I1,r1,q1⟩=>?_
  refine aE (ho pins s1 σ H1 v y u w _ I1 r r1 q1) λz s2 ⟨zv,H2,I2,r2,q2⟩=>?_
  exact BY I2 hN hi hx r2 (λs3 I3=>⟨_,H2,I3,q2⟩) hf
 rcases l with⟨hk,hm⟩ | ⟨hk,c,hc,yg⟩
 ·exact wpAny_loadName_local I.ok.kind hk hn hm go
 ·rcases hk with hk | hk
  ·exact wpAny_loadName_cell I.ok.kind hk hc yg go
  ·rcases hx with k | k
   ·have:X.env.scope.names.lookup x=some .free:=hk
    rw[k]at this;cases this
   ·have:X.env.scope.names.lookup x=some .free:=hk
    rw[k]at this;cases this
end
section
variable{X:Cx}{pos:Pos}
noncomputable def TX(c:TT)(tb:TS):TS:=λD σ H=>∃W:Nat->St->Hp->Prop,(∃m,W m σ H)/\∀m σ H,W m σ H ->
 c σ H λb H1=>if b=true then ∃N:St->Hp->Prop,(∀av H',N av H'->∃m',m'<m/\W m' av H')/\tb { D with nx:=N,ct:=N,bk:=D.nx } σ H1 else D.nx σ H1
theorem TY{c:Expr}{body:List Stmt}{tc:TT}{tb:TS}(hp:PassesOwn (model X.prog X.w) X.A X.env X.xe)(hc:PT X c tc)(hb:PSs X body tb):PS X (.While c body [] pos) (TX tc tb):=by
 intro pins s σ H D I h
 obtain⟨W,⟨m0,w0⟩,turn⟩:=h
 refine wpAny_While (codeAny_whileLoop (λn s'=>∃av H',Inv X pins av H' s'/\W n av H') ?_ m0 ⟨σ,H,I,w0⟩)
 rintro n s1 ⟨ff,H1,I1,w1⟩
 refine wpAny_passesOwn hp (aE (hc pins s1 ff H1 _ I1 (turn n ff H1 w1)) λb s2 ⟨H2,I2,q2⟩=>?_)
 cases b with
 | true =>
  obtain⟨N,hN,q2⟩:=q2
  rw[if_pos rfl]
  refine wpAny_passesOwn hp (aE (hb pins s2 ff H2 _ I2 q2) λf s3 q3=>?_)
  cases f with
  | next =>
   obtain⟨i3,H3,I3,n3⟩:=q3
   obtain⟨m',hm,w3⟩:=hN i3 H3 n3
   exact⟨m',hm,i3,H3,I3,w3⟩
  | cont =>
   obtain⟨i3,H3,I3,n3⟩:=q3
   obtain⟨m',hm,w3⟩:=hN i3 H3 n3
   exact⟨m',hm,i3,H3,I3,w3⟩
  | brk=>exact q3
  | ret v=>exact q3
 | false =>
  rw[if_neg jA]
  exact wpAny_execs_nil ⟨ff,H2,I2,q2⟩
end
structure It where
 go:Nat->Hp->Prop
 hE:Nat->Hp->V->Hp->Prop
 stop:Nat->Hp->Prop
noncomputable def gx(X:Cx)(pins:List (Addr × Obj))(H:Hp)(b:Addr):Prop :=
 H b=none/\b≠X.env.locals/\b ∉ X.fs/\(b∈X.ex\/X.bP.heap.objs.size<=b)/\(∀x c,X.env.cells.lookup x=some c->c≠b)/\∀p∈X.pn++pins,p.1≠b
theorem Inv.yn{X:Cx}{pins:List (Addr × Obj)}{σ:St}{H H':Hp}{s:Shared}{b:Addr}(I:Inv X pins σ H s)(hb:s.heap.objs.size<=b)(hn:H' b=none):gx X pins H' b:=by
 refine⟨hn,J2 (ck I.lt hb),I.Kr hb,.inr (dW I.sz hb),λx c e z=>?_,λp hp z=>?_⟩
 ·obtain⟨v,q⟩:=I.cell x c e
  exact absurd (ck q.lt (by rw[z];exact hb)) (dO _)
 ·exact absurd (ck (bH (I.pin p hp).1) (by rw[z];exact hb)) (dO _)
structure Turn(P:Program)(w:World)(K:PySem.W.Frag)(tg:Expr)(J:It)(fp:List Addr)(it:Addr)(tn:Nat->Heap->Prop):Prop where
 mem:it∈fp
 obj:∀i h,tn i h->∀b∈fp,∃o,h.get? b=some o/\∀v,o.data≠.cell v
 keep:∀i h h',tn i h->(∀b∈fp,∀o,h.get? b=some o->h'.get? b=some o)->tn i h'
 item:∀(X:Cx),X.prog=P->X.w=w->X.K=K->X.calm=true->∀(i:Nat) (pins:List (Addr × Obj)) (s:Shared) (σ:St) (H:Hp) (E:Value->Shared->Prop),Inv X pins σ H s->(∀b∈fp,gx X pins H b)->tn i s.heap->J.go i H ->
  wpAny (model P w) X.A (pyNext (.ref it)) (λr s1=>∃u,r=some u /\
   wpAny (model P w) X.A (letOwnedTupleGo tg (.ref it) u) (λ_ s2=>∃x H',Inv X pins σ H' s2/\RelV x u/\J.hE i H x H'/\tn (i+1) s2.heap/\∀b∈fp,H' b=none) E s1) E s
 done:∀(X:Cx),X.prog=P->X.w=w->X.K=K->X.calm=true->∀(i:Nat) (pins:List (Addr × Obj)) (s:Shared) (σ:St) (H:Hp) (E:Value->Shared->Prop),Inv X pins σ H s->(∀b∈fp,gx X pins H b)->tn i s.heap->J.stop i H ->
  wpAny (model P w) X.A (pyNext (.ref it)) (λr s1=>r=none/\Inv X pins σ H s1) E s
 self:∀(A:Around) (i:Nat) (s:Shared) (Q:Value->Shared->Prop) (E:Value->Shared->Prop),tn i s.heap->Q (.ref it) s->wpAny (model P w) A (pyIter (.ref it)) Q E s
noncomputable abbrev TI:=St->Hp->(It->Hp->Prop)->Prop
noncomputable def KG(X:Cx)(pins:List (Addr × Obj))(σ:St)(tg:Expr)(R:It->Hp->Prop)(yo:Value)(s2:Shared):Prop :=
 ∃(it:Addr) (fp:List Addr) (tn:Nat->Heap->Prop) (J:It) (H':Hp),yo=.ref it/\Inv X pins σ H' s2/\Turn X.prog X.w X.K tg J fp it tn/\tn 0 s2.heap/\(∀b∈fp,gx X pins H' b)/\R J H'
noncomputable def PI(X:Cx)(tg iter:Expr)(wi:TI):Prop :=
 ∀(pins:List (Addr × Obj)) (s:Shared) (σ:St) (H:Hp) (R:It->Hp->Prop),Inv X pins σ H s->wi σ H R ->
  wpAny (model X.prog X.w) X.A (eval iter X.env) (λv s1=>wpAny (model X.prog X.w) X.A (pyIter v) (KG X pins σ tg R) X.xe s1) X.xe s
theorem KH{M:Model}{A:Around}{E:Value->Shared->Prop}{s:Shared}{tg:Expr}{it:Addr}{u:Value}{o:Obj}{n:String}{vs:Array Value}{Q:Unit->Shared->Prop}(ho:s.heap.get? it=some o)(hc:o.cls=.type n)(hd:o.data=.fields vs)
  (hn:["enumerate","zip","dict_itemiterator","dict_reverseitemiterator","odict_iterator","itertools.zip_longest","itertools.pairwise"].contains n=false) (hQ:Q () s):wpAny M A (letOwnedTupleGo tg (.ref it) u) Q E s:=by
 unfold letOwnedTupleGo
 cases tg<;>first
  | exact wpAny_pure hQ
  | (cases u<;>first
    | exact wpAny_pure hQ
    | (refine wpAny_bind (wpAny_load ho ?_)
       rw[hc,hd]
       show wpAny M A (if(["enumerate","zip","dict_itemiterator","dict_reverseitemiterator","odict_iterator","itertools.zip_longest","itertools.pairwise"].contains n&&vs[0]?==some (rawInt _))=true then _ else _) Q E s
       rw[if_neg (by intro h;rw[hn,pS]at h;cases h)]
       exact wpAny_pure hQ))
noncomputable def Ca(K:PySem.W.Frag)(a:Addr):It :=
 ⟨λi H=>∃xs x,bt K H a xs/\xs[i]?=some x,λi H x H'=>H'=H/\∀xs,bt K H a xs->xs[i]?=some x,λi H=>∃xs,bt K H a xs/\xs.length<=i⟩
noncomputable def vD(lo:Int)(n:Nat):It:=⟨λi _=>i<n,λi H x H'=>H'=H/\x=.int (lo+i),λi _=>n<=i⟩
theorem TZ{P:Program}{w:World}{K:PySem.W.Frag}{tg:Expr}(a it:Addr):Turn P w K tg (Ca K a) [it] it (λi h=>h.IsListIter it a i) where
 mem:=by simp
 obj:=λi h st b hb=>by
  have e:b=it:=by simpa using hb
  subst e
  obtain⟨o,e,c,d⟩:=st
  exact⟨o,e,λv z=>by rw[d]at z;cases z⟩
 keep:=λi h h' st k=>st.at λo e=>k it (by simp) o e
 item:=by
  intro X hP hw hK hc i pins s σ H E I hf st hg
  subst hP hw hK
  obtain⟨xs,x,hq,hx⟩:=hg
  obtain⟨its,rv,p,hz⟩:=I.list hq
  obtain⟨u,hu,ru⟩:=rv.get hx
  obtain⟨f0,f1,f2,f3,f4,f5⟩:=hf it (by simp)
  refine wpAny_pyNext_list_item st p.isList (x:=u) (by simpa using hu) λh' ny sb=>?_
  have I1:Inv X pins σ H { s with heap:=h' }:=I.turned (t':=s.toks) (λb o hb e=>(sb.2 b hb).trans e) f0 f1 f3 f4 f5
  obtain⟨o,e,c,d⟩:=id ny
  exact⟨u,rfl,KH (s:={ s with heap:=h' }) e c d (by decide) ⟨x,H,I1,ru,⟨rfl,λys hy=>by rw[I.yj hy hq];exact hx⟩,ny,λb hb=>(hf b hb).1⟩⟩
 done:=by
  intro X hP hw hK hc i pins s σ H E I hf st hg
  subst hP hw hK
  obtain⟨xs,hq,hx⟩:=hg
  obtain⟨its,rv,p,hz⟩:=I.list hq
  obtain⟨f0,f1,f2,f3,f4,f5⟩:=hf it (by simp)
  have hl:=rv.length
  exact wpAny_pyNext_list_end (I.ok.hd hc) st p.isList (by simp;omega) λh' eb=>⟨rfl,I.turned (t':=s.toks) (λb o hb e=>eb b o hb e) f0 f1 f3 f4 f5⟩
 self:=λ_ _ _ _ _ st h=>wpAny_pyIter_listiter st h
theorem T1{P:Program}{w:World}{K:PySem.W.Frag}{tg:Expr}(it:Addr)(lo:Int)(n:Nat):Turn P w K tg (vD lo n) [it] it (λi h=>IsRangeIter h it (lo+(i:Nat)*1) ((n:Int)-(i:Nat)) 1) where
 mem:=by simp
 obj:=λi h st b hb=>by
  have e:b=it:=by simpa using hb
  subst e
  exact⟨_,st,λv z=>by
   have z':Data.fields _=Data.cell v:=z
   cases z'⟩
 keep:=λi h h' st k=>k it (by simp) _ st
 item:=by
  intro X hP hw hK hc i pins s σ H E I hf st hg
  subst hP hw hK
  obtain⟨f0,f1,f2,f3,f4,f5⟩:=hf it (by simp)
  have W:=Walks.range (prog:=X.prog) (w:=X.w) (I.ok.hd hc) it lo 1 n
  refine W.item i s _ _ hg st λv h' tk hv ny kk=>?_
  obtain⟨t,rfl⟩:=hv
  have I1:Inv X pins σ H { s with heap:=h',toks:=tk }:=I.turned (λb o hb e=>kk b o (by simpa using hb) e) f0 f1 f3 f4 f5
  refine⟨_,rfl,KH (s:={ s with heap:=h',toks:=tk }) (n:="range_iterator") ny rfl rfl (by decide) ⟨.int (lo+i),H,I1,⟨t,?_⟩,⟨rfl,rfl⟩,ny,λb hb=>(hf b hb).1⟩⟩
  rw[Int.mul_one]
 done:=by
  intro X hP hw hK hc i pins s σ H E I hf st hg
  subst hP hw hK
  obtain⟨f0,f1,f2,f3,f4,f5⟩:=hf it (by simp)
  exact wpAny_pyNext_range_end (I.ok.hd hc) st (by have:n<=i:=hg;omega) λh' eb=>⟨rfl,I.turned (t':=s.toks) (λb o hb e=>eb b o hb e) f0 f1 f3 f4 f5⟩
 self:=λ_ _ _ _ _ st h=>wpAny_pyIter_rangeiter st h
end L2
namespace L2
open PySem PySem.Spec PyProof.Rows
section
variable{X:Cx}{tg:Expr}
noncomputable def T2(K:PySem.W.Frag)(tl:TE):TI:=λσ H R=>tl σ H λx H1=>∃a,x=.ref a/\(∃xs,bt K H1 a xs)/\R (Ca K a) H1
theorem KI{l:Expr}{tl:TE}(hl:PE X l tl):PI X tg l (T2 X.K tl):=by
 intro pins s σ H R I h
 refine aE (hl pins s σ H _ I h) λv s1 ⟨x,H1,I1,r1,q1⟩=>?_
 obtain⟨a,e,⟨xs,hq⟩,q⟩:=q1
 subst e
 cases r1
 obtain⟨its,rv,p,hz⟩:=I1.list hq
 refine wpAny_pyIter_list p.isList ?_
 refine⟨s1.heap.objs.size,[s1.heap.objs.size],_,_,H1,rfl,I1.kept (t':=s1.toks) λb o e=>dP _ e,TZ a _,⟨_,fR _ rfl,rfl,rfl⟩,λb hb=>?_,q⟩
 have e:b=s1.heap.objs.size:=by simpa using hb
 subst e
 exact I1.yn (bD _) (I1.az.fresh (bD _))
theorem KJ{pins:List (Addr × Obj)}{σ:St}{H:Hp}{s:Shared}{R:It->Hp->Prop}{E:Value->Shared->Prop}{lo hi:Int}{t u v:Tok}{tk:Nat}(I:Inv X pins σ H s)(h1:-(2 ^ 62)<=lo)(h2:lo<2 ^ 62)(h3:-(2 ^ 62)<=hi)(h4:hi<2 ^ 62)
  (q:R (vD lo (hi-lo).toNat) H):wpAny (model X.prog X.w) X.A (pyIter (.ref s.heap.objs.size)) (KG X pins σ tg R) E { s with heap:=s.heap.push { cls:=.type "range",data:=.fields #[.int lo t,.int hi u,.int 1 v] },toks:=tk }:=by
 refine wpAny_pyIter_range (IsRange.new ..) (small_one h1 h2 h3 h4) ?_
 have I1:Inv X pins σ H { s with heap:=s.heap.push { cls:=.type "range",data:=.fields #[.int lo t,.int hi u,.int 1 v] },toks:=tk }:=I.kept λb o e=>dP _ e
 refine⟨(s.heap.push { cls:=.type "range",data:=.fields #[.int lo t,.int hi u,.int 1 v] }).objs.size,[(s.heap.push { cls:=.type "range",data:=.fields #[.int lo t,.int hi u,.int 1 v] }).objs.size],_,_,H,rfl,
  I1.kept (t':=tk) λb o e=>dP _ e,T1 _ lo (hi-lo).toNat,?_,λb hb=>?_,q⟩
 ·have e1:lo+((0:Nat):Int)*1=lo:=by simp
  have e2:(((hi-lo).toNat:Nat):Int)-((0:Nat):Int)=Builtin.Range.rangeSize lo hi 1:=by rw[rangeSize_one];split<;>omega
  show IsRangeIter _ _ (lo+((0:Nat):Int)*1) ((((hi-lo).toNat:Nat):Int)-((0:Nat):Int)) 1
  rw[e1,e2]
  exact fR _ rfl
 ·have e:b=(s.heap.push { cls:=.type "range",data:=.fields #[.int lo t,.int hi u,.int 1 v] }).objs.size:=by simpa using hb
  subst e
  exact I1.yn (bD _) (I1.az.fresh (bD _))
noncomputable def T3(ta:TA):TI:=λσ H R=>ta σ H λvs H1=>∃j:Int,vs=[.int j]/\-(2 ^ 62)<=j/\j<2 ^ 62/\R (vD 0 j.toNat) H1
noncomputable def T4(ta:TA):TI:=λσ H R=>ta σ H λvs H1=>∃i j:Int,vs=[.int i,.int j]/\(-(2 ^ 62)<=i/\i<2 ^ 62/\-(2 ^ 62)<=j/\j<2 ^ 62)/\R (vD i (j-i).toNat) H1
theorem T5{a:Expr}{ta:TA}{p pos:Pos}(hg:Gl X "range")(hm:X.mg "range"=none)(ha:PA X [a] ta)(hs:starEach [a] X.env=[(false,eval a X.env)]:=by rfl):PI X tg (.Call (.Name "range" p) [a] [] pos) (T3 ta):=by
 intro pins s σ H R I h
 refine Call_ (qu I hg hm boot_range (xN (aE (ha pos pins s σ H _ I h) λus s1 ⟨vs,H1,I1,r1,q1⟩=>?_) hs rfl))
 obtain⟨j,e,q1,q2,q⟩:=q1
 subst e
 cases r1 with
 | cons r rr =>
  cases rr
  obtain⟨t,rfl⟩:=r
  exact call_range_1 (KJ I1 (by omega) (by omega) q1 q2 (by simpa using q))
theorem T6{a b:Expr}{ta:TA}{p pos:Pos}(hg:Gl X "range")(hm:X.mg "range"=none)(ha:PA X [a,b] ta)(hs:starEach [a,b] X.env=[(false,eval a X.env),(false,eval b X.env)]:=by rfl)(fv:starEach [b] X.env=[(false,eval b X.env)]:=by rfl) :
  PI X tg (.Call (.Name "range" p) [a,b] [] pos) (T4 ta):=by
 intro pins s σ H R I h
 refine Call_ (qu I hg hm boot_range (xN (aE (ha pos pins s σ H _ I h) λus s1 ⟨vs,H1,I1,r1,q1⟩=>?_) (by rw[hs,fv]) (by rw[fv];rfl)))
 obtain⟨i,j,e,⟨q1,q2,q3,q4⟩,q⟩:=q1
 subst e
 cases r1 with
 | cons r rr =>
  cases rr with
  | cons r' rr =>
   cases rr
   obtain⟨t,rfl⟩:=r
   obtain⟨t',rfl⟩:=r'
   exact call_range_2 (KJ I1 q1 q2 q3 q4 q)
noncomputable def T7(wi:TI)(g:TG)(tb:TS):TS:=λD σ H=>wi σ H λJ H1=>∃W:Nat->Nat->St->Hp->Prop,(∃m,W 0 m σ H1)/\∀i m σ H,W i m σ H ->
 (J.stop i H/\D.nx σ H)\/(J.go i H/\∃N:St->Hp->Prop,(∀av H',N av H'->∃m',m'<m/\W (i+1) m' av H')/\∀x H',J.hE i H x H'->g x σ H' λi4 H2=>tb { D with nx:=N,ct:=N,bk:=D.nx } i4 H2)
noncomputable def vE(fp:List Addr)(h:Heap):List (Addr × Obj):=fp.filterMap λb=>(h.get? b).map λo=>(b,o)
theorem yp{fp:List Addr}{h:Heap}{b:Addr}{o:Obj}(hb:b∈fp)(e:h.get? b=some o):(b,o)∈vE fp h:=Sb.mpr ⟨b,hb,by rw[e];rfl⟩
theorem T8{fp:List Addr}{h:Heap}{p:Addr × Obj}(hp:p∈vE fp h):p.1∈fp/\h.get? p.1=some p.2:=by
 obtain⟨b,hb,e⟩:=Sb.mp hp
 cases q:h.get? b with
 | none=>rw[q]at e;cases e
 | some o =>
  rw[q]at e
  have e':(b,o)=p:=cu e
  subst e'
  exact⟨hb,q⟩
theorem Inv.pinned{pins:List (Addr × Obj)}{σ:St}{H:Hp}{s:Shared}{fp:List Addr}(I:Inv X pins σ H s)(hf:∀b∈fp,gx X pins H b)(ho:∀b∈fp,∃o,s.heap.get? b=some o/\∀v,o.data≠.cell v):Inv X (pins++vE fp s.heap) σ H s :=
 I.Ks λp hp=>(cw.mp hp).elim (λz=>I.pin p (cR _ z)) λz=>by
  obtain⟨hb,e⟩:=T8 z
  obtain⟨f0,f1,f2,_⟩:=hf p.1 hb
  obtain⟨o,e',d⟩:=ho p.1 hb
  rw[e]at e';cases e'
  exact⟨e,f0,f1,f2,d⟩
theorem Inv.vF{pins pl:List (Addr × Obj)}{σ:St}{H:Hp}{s:Shared}(I:Inv X (pins++pl) σ H s):Inv X pins σ H s:=I.Ks λp hp=>I.pin p (cR _ (eG _ hp))
theorem KL{iter:Expr}{body:List Stmt}{wi:TI}{g:TG}{tb:TS}{pos:Pos}(hp:PassesOwn (model X.prog X.w) X.A X.env X.xe)(hc:X.calm=true)(hi:PI X tg iter wi)(hg:PG X tg g)(hb:PSs X body tb)
  (hs:∀x,foldedSetIterable iter X.env x=pure x:=by intro _;rfl):PS X (.For tg iter body [] pos) (T7 wi g tb):=by
 intro pins s σ H D I h
 refine wpAny_For (aE (hi pins s σ H _ I h) λv s1 h1=>aE h1 λyo s2 h2=>?_) hs
 obtain⟨it,fp,tn,J,H2,e,I2,T,vG,f2,W,⟨m0,w0⟩,turn⟩:=h2
 subst e
 have Cb:∀{H':Hp},(∀b∈fp,H' b=none)->∀b∈fp,gx X pins H' b:=λhn b hb=>⟨hn b hb,(f2 b hb).2⟩
 refine codeAny_forLoop_any (λn s'=>∃i av H',Inv X pins av H' s'/\tn i s'.heap/\(∀b∈fp,H' b=none)/\W i n av H') ?_ m0 ⟨0,σ,H2,I2,vG,λb hb=>(f2 b hb).1,w0⟩
 rintro n s3 ⟨i,i3,H3,I3,KN,KO,w3⟩
 rcases turn i n i3 H3 w3 with⟨stop,qn⟩ | ⟨go,N,hN,step⟩
 ·refine wpAny_passesOwn hp (aE (T.done X rfl rfl rfl hc i pins s3 i3 H3 X.xe I3 (Cb KO) KN stop) λr s4 ⟨hr,I4⟩=>?_)
  subst hr
  exact wpAny_execs_nil ⟨i3,H3,I4,qn⟩
 ·refine wpAny_passesOwn hp (aE (T.item X rfl rfl rfl hc i pins s3 i3 H3 X.xe I3 (Cb KO) KN go) λr s4 ⟨u,hr,h4⟩=>?_)
  subst hr
  refine wpAny_passesOwn hp (aE h4 λ_ s5 ⟨x,H5,I5,r5,y5,qA,Cc⟩=>?_)
  have Cd:=I5.pinned (Cb Cc) (T.obj _ _ qA)
  refine wpAny_passesOwn hp (aE (hg _ s5 i3 H5 x u _ Cd r5 (step x H5 y5)) λ_ s6 ⟨Ce,H6,I6,q6⟩=>?_)
  refine wpAny_passesOwn hp (aE (hb _ s6 Ce H6 _ I6 q6) λf s7 q7=>?_)
  have again:∀{i5:St} {H7:Hp},Inv X (pins++vE fp s5.heap) i5 H7 s7->N i5 H7->∃m,m<n/\∃i av H',Inv X pins av H' s7/\tn i s7.heap/\(∀b∈fp,H' b=none)/\W i m av H':=λ{i5 H7} I7 n7=>by
   obtain⟨m',hm,w7⟩:=hN i5 H7 n7
   refine⟨m',hm,i+1,i5,H7,I7.vF,T.keep _ _ _ qA λb hb o e=>(I7.pin (b,o) (cR _ (cR _ (yp hb e)))).1,λb hb=>?_,w7⟩
   obtain⟨o,e,d⟩:=T.obj _ _ qA b hb
   exact(I7.pin (b,o) (cR _ (cR _ (yp hb e)))).2.1
  cases f with
  | next=>obtain⟨i5,H7,I7,n7⟩:=q7;exact again I7 n7
  | cont=>obtain⟨i5,H7,I7,n7⟩:=q7;exact again I7 n7
  | brk=>obtain⟨i5,H7,I7,q7⟩:=q7;exact⟨i5,H7,I7.vF,q7⟩
  | ret v=>obtain⟨x7,i5,H7,I7,r7,q7⟩:=q7;exact⟨x7,i5,H7,I7.vF,r7,q7⟩
end
end L2
namespace L2
open PySem PySem.Spec PyProof.Rows
noncomputable abbrev R2:=V->V->Hp->VK->Prop
noncomputable def bY(X:Cx)(f:Value->Value->Sem Value)(r:R2):Prop :=
 ∀(pins:List (Addr × Obj)) (s:Shared) (σ:St) (H:Hp) (x y:V) (v u:Value) (Q:VK),Inv X pins σ H s->RelV x v->RelV y u->r x y H Q ->
  wpAny (model X.prog X.w) X.A (f v u) (EP X pins σ Q) X.xe s
noncomputable def gy(X:Cx)(f:Value)(r:List V->Hp->VK->Prop):Prop :=
 ∀(pins:List (Addr × Obj)) (s:Shared) (σ:St) (H:Hp) (xs:List V) (us:List Value) (Q:VK),Inv X pins σ H s->Vals xs us->r xs H Q ->
  wpAny (model X.prog X.w) X.A (call f us) (EP X pins σ Q) X.xe s
noncomputable def vH(r:R2)(ta tb:TE):TE:=λσ H Q=>ta σ H λx H1=>tb σ H1 λy H2=>r x y H2 Q
noncomputable def rI(C:Int->Int->Prop)(g:Int->Int->V):R2:=λx y H Q=>∃i j,x=.int i/\y=.int j/\C i j/\Q (g i j) H
noncomputable def hJ(g:Int->Int->V):R2:=λx y H Q=>∃i j,x=.int i/\y=.int j/\Q (g i j) H
section
variable{X:Cx}{a b c:Expr}{ta tb tc:TE}{pos:Pos}
theorem Cf(ha:PE X a ta)(hb:PE X b tb){pins:List (Addr × Obj)}{s:Shared}{σ:St}{H:Hp}{R:V->V->Hp->Prop}(I:Inv X pins σ H s)
  (h:ta σ H λx H1=>tb σ H1 λy H2=>R x y H2) {Q:Value->Shared->Prop} {f:Value->Value->Sem Value}
  (hf:∀v u s2 x y H2,Inv X pins σ H2 s2->RelV x v->RelV y u->R x y H2->wpAny (model X.prog X.w) X.A (f v u) Q X.xe s2) :
  wpAny (model X.prog X.w) X.A (eval a X.env) (λv bj=>wpAny (model X.prog X.w) X.A (eval b X.env) (λu iZ=>wpAny (model X.prog X.w) X.A (f v u) Q X.xe iZ) X.xe bj) X.xe s:=by
 refine aE (ha pins s σ H _ I h) λv s1 ⟨x,H1,I1,r1,q1⟩=>?_
 refine aE (hb pins s1 σ H1 _ I1 q1) λu s2 ⟨y,H2,I2,r2,q2⟩=>?_
 exact hf v u s2 x y H2 I2 r1 r2 q2
theorem vI{op:Operator}{r:R2}(ho:bY X (binaryOp op) r)(ha:PE X a ta)(hb:PE X b tb):PE X (.BinOp a op b pos) (vH r ta tb):=by
 intro pins s σ H Q I h
 exact wpAny_BinOp (Cf ha hb I h λv u s2 x y H2 I2 rx ry q=>ho pins s2 σ H2 x y v u Q I2 rx ry q)
theorem vJ{f:Value->Value->Sem Value}{C:Int->Int->Prop}{g:Int->Int->Int}
  (rule:∀(i j:Int) (t u:Tok) (s:Shared) (Q:Value->Shared->Prop) (E:Value->Shared->Prop),C i j->Q (.int (g i j) s.toks) { s with toks:=s.toks+1 }->wpAny (model X.prog X.w) X.A (f (.int i t) (.int j u)) Q E s) :
  bY X f (rI C λi j=>.int (g i j)):=by
 intro pins s σ H x y v u Q I rx ry h
 obtain⟨i,j,rfl,rfl,hc,q⟩:=h
 obtain⟨t,rfl⟩:=rx
 obtain⟨t',rfl⟩:=ry
 exact rule i j t t' s _ _ hc ⟨.int (g i j),H,I.tok _,⟨_,rfl⟩,q⟩
theorem sT{f:Value->Value->Sem Value}{g:Int->Int->Int}
  (rule:∀(i j:Int) (t u:Tok) (s:Shared) (Q:Value->Shared->Prop) (E:Value->Shared->Prop),Q (.int (g i j) s.toks) { s with toks:=s.toks+1 }->wpAny (model X.prog X.w) X.A (f (.int i t) (.int j u)) Q E s) :
  bY X f (hJ λi j=>.int (g i j)):=by
 intro pins s σ H x y v u Q I rx ry h
 obtain⟨i,j,rfl,rfl,q⟩:=h
 obtain⟨t,rfl⟩:=rx
 obtain⟨t',rfl⟩:=ry
 exact rule i j t t' s _ _ ⟨.int (g i j),H,I.tok _,⟨_,rfl⟩,q⟩
theorem yq{f:Value->Value->Sem Value}{g:Int->Int->Bool}
  (rule:∀(i j:Int) (t u:Tok) (s:Shared) (Q:Value->Shared->Prop) (E:Value->Shared->Prop),Q (.bool (g i j)) s->wpAny (model X.prog X.w) X.A (f (.int i t) (.int j u)) Q E s) :
  bY X f (hJ λi j=>.bl (g i j)):=by
 intro pins s σ H x y v u Q I rx ry h
 obtain⟨i,j,rfl,rfl,q⟩:=h
 obtain⟨t,rfl⟩:=rx
 obtain⟨t',rfl⟩:=ry
 exact rule i j t t' s _ _ ⟨.bl (g i j),H,I,rfl,q⟩
noncomputable def i6(i j:Int):Prop:=(-(2 ^ 64)<i/\i<2 ^ 64)\/(-(2 ^ 64)<j/\j<2 ^ 64)
theorem i6.ok{i j:Int}(h:i6 i j):IntMulOk i j:=by
 rcases h with⟨h1,h2⟩ | ⟨h1,h2⟩
 ·exact .of_left (intBits_le_64 h1 h2)
 ·exact .of_right (intBits_le_64 h1 h2)
theorem T9(k:Nat):(0:Int)<=2 ^ k:=by
 rw[two_pow_cast]
 exact J3 _
theorem Ua:bY X (binaryOp .Add) (hJ λi j=>.int (i+j)):=sT λ_ _ _ _ _ _ _ q=>add_int q
theorem Cg:bY X (binaryOp .Sub) (hJ λi j=>.int (i-j)):=sT λ_ _ _ _ _ _ _ q=>sub_int q
theorem Ub:bY X (binaryOp .Mod) (rI (λ_ j=>0<j) λi j=>.int (i%j)):=vJ λi j _ _ _ _ _ hc q=>by
 have h1:(0:Int)<j:=hc
 exact mod_int' (by omega) (by rw[Int.fmod_eq_emod_of_nonneg i (by omega)];exact q)
theorem Uc:bY X (binaryOp .RShift) (rI (λ_ j=>0<=j) λi j=>.int (i/2 ^ j.toNat)):=vJ λi j _ _ _ _ _ hc q =>
 rshift_int hc (by rw[Sd i (T9 _)];exact q)
theorem Ud:bY X (binaryOp .BitAnd) (hJ λi j=>.int (m6 i j)):=sT λ_ _ _ _ _ _ _ q=>and_int q
theorem Ue:bY X (binaryOp .BitXor) (hJ λi j=>.int (m8 i j)):=sT λ_ _ _ _ _ _ _ q=>xor_int q
theorem Ug:bY X (inplaceOp .Add) (hJ λi j=>.int (i+j)):=sT λ_ _ _ _ _ _ _ q=>iadd_int q
theorem Uh:bY X (inplaceOp .BitXor) (hJ λi j=>.int (m8 i j)):=sT λ_ _ _ _ _ _ _ q=>ixor_int q
end
section
variable{X:Cx}{a b c:Expr}{ta tb tc:TE}{pos:Pos}
theorem KP{pins:List (Addr × Obj)}{σ:St}{H:Hp}{s:Shared}{Q:VK}{k k':Bool}(I:Inv X pins σ H s)(q:Q (.bl k) H)(e:k=k'):EP X pins σ Q (.bool k') s:=by
 subst e
 exact⟨.bl k,H,I,rfl,q⟩
theorem Ui:bY X (compareOp .Lt) (hJ λi j=>.bl (decide (i<j))):=yq λ_ _ _ _ _ _ _ q=>lt_int q
theorem Uj:bY X (compareOp .LtE) (hJ λi j=>.bl (decide (i<=j))):=yq λ_ _ _ _ _ _ _ q=>le_int q
theorem Uk:bY X (compareOp .Gt) (hJ λi j=>.bl (decide (j<i))):=yq λ_ _ _ _ _ _ _ q=>gt_int q
theorem Ul:bY X (compareOp .GtE) (hJ λi j=>.bl (decide (j<=i))):=yq λ_ _ _ _ _ _ _ q=>ge_int q
theorem Um:bY X (compareOp .Is) (λx y H Q=>y=.ak/\Q (.bl (decide (x=.ak))) H):=by
 intro pins s σ H x y v u Q I rx ry h
 obtain⟨rfl,q⟩:=h
 cases ry
 refine is_none_gen (KP I q ?_)
 cases x<;>first
  | (cases rx;rfl)
  | (obtain⟨t,rfl⟩:=rx;rfl)
theorem Uo:bY X (compareOp .IsNot) (λx y H Q=>y=.ak/\Q (.bl (!decide (x=.ak))) H):=by
 intro pins s σ H x y v u Q I rx ry h
 obtain⟨rfl,q⟩:=h
 cases ry
 refine isnot_none_gen (KP I q ?_)
 cases x<;>first
  | (cases rx;rfl)
  | (obtain⟨t,rfl⟩:=rx;rfl)
theorem bY.or{f:Value->Value->Sem Value}{r r':R2}(h:bY X f r)(h':bY X f r'):bY X f (λx y H Q=>r x y H Q\/r' x y H Q):=by
 intro pins s σ H x y v u Q I rx ry q
 rcases q with q | q
 ·exact h pins s σ H x y v u Q I rx ry q
 ·exact h' pins s σ H x y v u Q I rx ry q
theorem cB(b:Expr){op:CmpOp}(h:op≠.In:=by decide)(h2:op≠.NotIn:=by decide):behindInMarks op b=false:=by
 have e1:(op==CmpOp.In)=false:=by cases op<;>first | rfl | exact absurd rfl h
 have e2:(op==CmpOp.NotIn)=false:=by cases op<;>first | rfl | exact absurd rfl h2
 cases b<;>simp[behindInMarks,e1,e2]
theorem Up{op:CmpOp}{r:R2}(ho:bY X (compareOp op) r)(ha:PE X a ta)(hb:PE X b tb)(hm:behindInMarks op b=false):PE X (.Compare a [op] [b] pos) (vH r ta tb):=by
 intro pins s σ H Q I h
 exact wpAny_Compare1 (Cf ha hb I h λv u s2 x y H2 I2 rx ry q=>ho pins s2 σ H2 x y v u Q I2 rx ry q) hm
noncomputable def KQ(t:TE):TT:=λσ H Q=>t σ H λx H'=>∃k,x=.bl k/\Q k H'
theorem Uq{op:CmpOp}{r:R2}(ho:bY X (compareOp op) r)(ha:PE X a ta)(hb:PE X b tb)(hm:behindInMarks op b=false):PT X (.Compare a [op] [b] pos) (KQ (vH r ta tb)):=by
 intro pins s σ H Q I h
 refine wpAny_isTrue_Compare1 (aE (ha pins s σ H _ I h) λv s1 ⟨x,H1,I1,r1,q1⟩=>aE (hb pins s1 σ H1 _ I1 q1) λu s2 ⟨y,H2,I2,r2,q2⟩ =>
  aE (ho pins s2 σ H2 x y v u _ I2 r1 r2 q2) λc s3 ⟨z,H3,I3,r3,k,e,q3⟩=>?_) hm
 subst e
 cases r3
 exact wpAny_truthy_bool ⟨H3,I3,q3⟩
noncomputable def KR(r r':R2)(ta tb tc:TE):TE:=λσ H Q=>ta σ H λx H1=>tb σ H1 λy H2=>r x y H2 λz H3=>∃k,z=.bl k /\
 (if k=true then tc σ H3 λw' H4=>r' y w' H4 Q else Q (.bl false) H3)
theorem Ur{op qB:CmpOp}{r r':R2}(ho:bY X (compareOp op) r)(iX:bY X (compareOp qB) r')(ha:PE X a ta)(hb:PE X b tb)(hc:PE X c tc)
  (hm:lastMarks [op,qB] [b,c]=false:=by with_unfolding_all rfl):PE X (.Compare a [op,qB] [b,c] pos) (KR r r' ta tb tc):=by
 intro pins s σ H Q I h
 refine Compare_chain (aE (ha pins s σ H _ I h) λv s1 ⟨x,H1,I1,r1,q1⟩=>chain_link (aE (hb pins s1 σ H1 _ I1 q1) λu s2 ⟨y,H2,I2,r2,q2⟩ =>
  aE (ho pins s2 σ H2 x y v u _ I2 r1 r2 q2) λd s3 ⟨z,H3,I3,r3,k,e,q3⟩=>?_)) hm
 subst e
 cases r3
 refine wpAny_truthy_bool ?_
 cases k with
 | false=>exact ite_ff ⟨.bl false,H3,I3,rfl,q3⟩
 | true=>exact ite_tt (chain_last (aE (hc pins s3 σ H3 _ I3 q3) λw' s4 ⟨z',H4,I4,r4,q4⟩=>iX pins s4 σ H4 y z' u w' Q I4 r2 r4 q4))
theorem qC:(sizeLine:Nat)<2 ^ 63:=by rw[sizeLine_eq];decide
theorem Us:bY X (binaryOp .Add) (λx y H Q=>∃i j,x=.str i/\y=.str j/\i.length+j.length<=sizeLine/\Q (.str (i++j)) H):=by
 intro pins s σ H x y v u Q I rx ry h
 obtain⟨i,j,rfl,rfl,hz,q⟩:=h
 obtain⟨t,rfl⟩:=rx
 obtain⟨t',rfl⟩:=ry
 exact add_str (λt' tk=>⟨.str (i++j),H,I.tok _,⟨_,rfl⟩,q⟩) hz
theorem vK{x:V}{us:List Value}(r:Vals [x] us):∃u,us=[u]/\RelV x u:=by
 cases r with
 | cons r1 r2=>cases r2;exact⟨_,rfl,r1⟩
theorem Ut:gy X (.type "int") (λxs H Q=>(∃i,xs=[.int i]/\Q (.int i) H)\/∃k,xs=[.bl k]/\Q (.int (if k then 1 else 0)) H):=by
 intro pins s σ H xs us Q I r h
 rcases h with⟨i,rfl,q⟩ | ⟨k,rfl,q⟩
 ·obtain⟨u,rfl,t,rfl⟩:=vK r
  exact call_int_int ⟨.int i,H,I,⟨_,rfl⟩,q⟩
 ·obtain⟨u,rfl,r1⟩:=vK r
  cases r1
  exact call_int_bool ⟨.int (if k then 1 else 0),H,I.tok _,⟨_,rfl⟩,q⟩
end
end L2
namespace L2
open PySem PySem.Spec PyProof.Rows
structure qD(h:Heap)(x dx C:Addr)(mA:Str->Option Value):Prop where
 obj:h.get? x=some (PySem.W.instObj C dx)
 ns:h.Ns1 dx mA
 ne:dx≠x
theorem Uu{h:Heap}{dx:Addr}{mA:Str->Option Value}(n:h.Ns1 dx mA):∃od,h.get? dx=some od/\∀name,PySem.W.lookIn name od=some (mA name):=by
 obtain⟨o,es,ep,ho,hd,hk,_,hm⟩:=n
 refine⟨o,ho,λname=>?_⟩
 have e:=hm name
 unfold nsFind findBy at e
 rw[<-Array.find?_toList]at e
 unfold PySem.W.lookIn
 rw[hd]
 dsimp only
 split
 ·rename_i y q
  rw[q]at e
  exact congrArg some e
 ·rename_i q
  rw[q]at e
  have a:es.toList.any (·.refKey)=false:=by
   rw[List.any_eq_false]
   intro y hy
   obtain⟨z,t,Uv⟩:=hk y (Array.mem_toList_iff.mp hy)
   simp[DictEntry.refKey,Uv]
  have a':¬ es.toList.any (·.refKey)=true:=by rw[a];exact jA
  rw[if_neg a']
  exact congrArg some e
theorem qD.look{h:Heap}{x dx C:Addr}{mA:Str->Option Value}(I:qD h x dx C mA):∃od,PySem.W.InstAt h x (PySem.W.instObj C dx) C (some od)/\∀name,PySem.W.lookIn name od=some (mA name) :=
 let⟨od,ho,hl⟩:=Uu I.ns
 ⟨od,⟨I.obj,rfl,rfl,ho⟩,hl⟩
section
variable{prog:Program}{w:World}{A:Around}{E:Value->Shared->Prop}{s:Shared}{K:PySem.W.Frag}{x dx C f:Addr}{mA:Str->Option Value}{name:Str}{v:Value}
theorem Uw{expr:Bool}{Q:Value->Shared->Prop}(X:K.In s.heap)(I:qD s.heap x dx C mA)(hg:PySem.W.plainGet K C name=true)(hh:PySem.W.hasDictIn K C=true)
  (ha:PySem.W.findIn K (.ref C) name=some none) (hv:mA name=some v) (Ux:PySem.W.handedIn v=true) (h:Q v { s with toks:=s.toks+1 }) :
  wpAny (model prog w) A (getAttr (.ref x) name expr) Q E s:=by
 obtain⟨od,J,hl⟩:=I.look
 exact PySem.W.get_value X J (PySem.W.plainGet_of hg).1 (PySem.W.findObj_own hh ha rfl (by rw[hl,hv])) Ux h
theorem Uy{pl:Sem Bool}{Q:Value × List Value->Shared->Prop}(X:K.In s.heap)(I:qD s.heap x dx C mA)(hg:PySem.W.plainGet K C name=true)
  (hf:PySem.W.findIn K (.ref C) name=some (some (.ref f))) (ht:PySem.W.isFn K (.ref f)=true) (hv:mA name=none) (h:Q (.ref f,[.ref x]) s) :
  wpAny (model prog w) A (getMethod (.ref x) name pl) Q E s:=by
 obtain⟨od,J,hl⟩:=I.look
 exact PySem.W.method_fn X J (PySem.W.plainGet_of hg).1 (PySem.W.plainGet_of hg).2 hf (beq_iff_eq.mp ht) (by show(PySem.W.lookIn name od).map (·.isSome)=some false;rw[hl,hv];rfl) h
theorem Uz{ns:List Str}{Q:Unit->Shared->Prop}(X:K.In s.heap)(I:qD s.heap x dx C mA)
  (hs:PySem.W.findIn K (.ref C) "__setattr__"=some (some (.builtin "object.__setattr__"))) (hp:PySem.W.plainOver K C=true) (ht:PySem.W.takerIn K C name=some none) (hh:PySem.W.hasDictIn K C=true)
  (hw:PySem.Within mA ns) (hsz:ns.length<=sizeLine)
  (h:∀h',qD h' x dx C (λy=>if y=name then some v else mA y)->Be dx s.heap h'->Q () { s with heap:=h',toks:=s.toks+2 }) :
  wpAny (model prog w) A (setAttr (.ref x) name v) Q E s:=by
 obtain⟨od,J,hl⟩:=I.look
 refine PySem.W.set_plain X J hs (PySem.W.osa_open (s:={ s with toks:=s.toks+1 }) (r:=none) X J hp ht λb=>?_)
 obtain⟨cd,hc,vx⟩:=PySem.W.any_some hh
 have hx:s.heap.get? x=some ⟨.ref C,some dx,.plain,#[]⟩:=I.obj
 refine wpAny_bind (wpAny_pure (wpAny_bind (wpAny_bind (wpAny_loadPart hx (wpAny_bind (PySem.W.Looks.here (s:={ s with toks:=s.toks+1 }) (PySem.W.looks_clsIn X hc) ?_))))))
 rw[vx]
 refine wpAny_pure (a:=some dx) (wpAny_bind (wpAny_pure (wpAny_bind ?_)))
 refine wpAny_nsSet1 (s:={ s with toks:=s.toks+1 }) I.ns λh' yr fv=>?_
 obtain⟨oD,esD,epD,UA,UB,UC⟩:=yr.count (PySem.Within.cons name v hw)
 refine wpAny_bind (wpAny_lookBehind UA (by rw[UB];exact pastItsLine_dict (dW UC (by rw[gZ];omega))) ?_)
 exact wpAny_pure (h _ ⟨(fv.2 _ (dF I.ne)).trans I.obj,yr,I.ne⟩ fv)
theorem UD{R:Result->Shared->Prop}{vs:List Value}{kw:List (Str × Value)}(X:K.In s.heap)(hm:PySem.W.makesIn K C=true)
  (hi:PySem.W.findIn K (.ref C) "__init__"=some (some (.ref f))) (hf:PySem.W.typeIn K (.ref f)=some (.type "function"))
  (h:codeAny (model prog w) (A.under (.builtin "type.__call__" ⟨.ref C::vs,kw⟩)) (.call (.ref f) ⟨.ref (s.heap.objs.size+1)::vs,kw⟩) (PySem.W.InitBack (s.heap.objs.size+1) R)
   { s with heap:=(s.heap.push PySem.W.emptyDict).push (PySem.W.instObj C s.heap.objs.size) }) :
  codeAny (model prog w) A (.call (.ref C) ⟨vs,kw⟩) R s:=by
 obtain⟨hh,g,d,t,os⟩:=s
 exact PySem.W.make_core (PySem.W.makes_of X hm) (PySem.W.looks_findIn X hi) (λself=>PySem.W.bind_fn X self hf) (.inl rfl) h
end
noncomputable def eJ(f:Str)(v:V):List (Str × V)->List (Str × V)
 | []=>[(f,v)]
 | (g,x)::r=>if g=f then(g,v)::r else(g,x)::eJ f v r
theorem KS(f g:Str)(v:V):∀fs:List (Str × V),(eJ f v fs).lookup g=if g=f then some v else fs.lookup g
 | []=>by
  show ky g [(f,v)]=_
  by_cases h:g=f
  ·have hb:(g==f)=true:=beq_iff_eq.mpr h
   simp only[ky,hb,if_pos h]
  ·have hb:(g==f)=false:=beq_eq_false_iff_ne.mpr h
   simp only[ky,hb,if_neg h]
 | (k,x)::r=>by
  have ih:=KS f g v r
  rw[show eJ f v ((k,x)::r)=(if k=f then(k,v)::r else(k,x)::eJ f v r) from rfl]
  by_cases hk:k=f
  ·rw[if_pos hk]
   by_cases h:g=k
   ·have hb:(g==k)=true:=beq_iff_eq.mpr h
    simp only[ky,hb,if_pos (h.trans hk)]
   ·have hb:(g==k)=false:=beq_eq_false_iff_ne.mpr h
    simp only[ky,hb,if_neg (λe:g=f=>h (e.trans hk.symm))]
  ·rw[if_neg hk]
   by_cases h:g=k
   ·have hb:(g==k)=true:=beq_iff_eq.mpr h
    simp only[ky,hb,if_neg (λe:g=f=>hk (h.symm.trans e))]
   ·have hb:(g==k)=false:=beq_eq_false_iff_ne.mpr h
    simp only[ky,hb]
    exact ih
theorem Ci(f:Str)(v:V):∀fs:List (Str × V),f∈(eJ f v fs).map (·.1)/\∀g,g∈fs.map (·.1)->g∈(eJ f v fs).map (·.1)
 | []=>⟨by simp[eJ],λg h=>by simp at h⟩
 | (k,x)::r=>by
  obtain⟨i1,i2⟩:=Ci f v r
  rw[show eJ f v ((k,x)::r)=(if k=f then(k,v)::r else(k,x)::eJ f v r) from rfl]
  by_cases hk:k=f
  ·rw[if_pos hk]
   subst hk
   exact⟨by simp,λg h=>by simpa using h⟩
  ·rw[if_neg hk]
   refine⟨?_,λg h=>?_⟩
   ·rw[cH]
    exact fm _ i1
   ·rw[cH]at h ⊢
    rcases cg.mp h with e | e
    ·exact cg.mpr (.inl e)
    ·exact fm _ (i2 g e)
theorem KU(f:Str)(v:V):∀fs:List (Str × V),(eJ f v fs).length<=fs.length+1
 | []=>by simp[eJ]
 | (k,x)::r=>by
  have ih:=KU f v r
  rw[show eJ f v ((k,x)::r)=(if k=f then(k,v)::r else(k,x)::eJ f v r) from rfl]
  by_cases hk:k=f
  ·rw[if_pos hk,gZ,gZ];omega
  ·rw[if_neg hk,gZ,gZ];omega
theorem fq.some_of{v:V}{o:Option Value}(r:fq (some v) o):∃u,o=some u/\RelV v u:=by
 cases o with
 | none=>exact(show False from r).elim
 | some u=>exact⟨u,rfl,r⟩
theorem fq.none_of{o:Option Value}(r:fq none o):o=none:=by
 cases o with
 | none=>rfl
 | some u=>exact(show False from r).elim
theorem UE{v:V}{u:Value}(r:RelV v u):PySem.W.handedIn u=true:=by
 cases v with
 | ak=>cases(show u=pP from r);rfl
 | bl b=>cases(show u=Bd b from r);rfl
 | int i=>obtain⟨t,e⟩:=(show ∃t,u=si i t from r);cases e;rfl
 | str x=>obtain⟨t,e⟩:=(show ∃t,u=xK x t from r);cases e;rfl
 | yb b=>obtain⟨t,e⟩:=(show ∃t,u=Value.bytes b t from r);cases e;rfl
 | qo b=>obtain⟨t,e⟩:=(show ∃t,u=Value.float b t from r);cases e;rfl
 | ref a=>cases(show u=du a from r);rfl
 | ty n=>cases(show u=Value.type n from r);rfl
section
variable{P:Program}{w:World}{H H':Hp}{h h':Heap}{a C dx:Addr}{fs BU:List (Str × V)}
theorem yt(az:bS P w H h)(e:H a=some (.ins C dx fs)):∃mA,qD h a dx C mA/\(∀f,fq (fs.lookup f) (mA f))/\PySem.Within mA (fs.map (·.1))/\fs.length<=1000/\H dx=some (.own a):=by
 obtain⟨d,z,ne,ob,mA,n,r,q⟩:=(show cy P w H h a (.ins C dx fs) from az a _ e)
 exact⟨mA,⟨ob,n,ne⟩,r,q,z,d⟩
end
structure dZ(K:PySem.W.Frag)(C:Addr):Prop where
 pg:PySem.W.plainGet K C Str.empty=true
 hd:PySem.W.hasDictIn K C=true
 po:PySem.W.plainOver K C=true
 sa:PySem.W.findIn K (.ref C) "__setattr__"=some (some (.builtin "object.__setattr__"))
theorem dZ.get{K:PySem.W.Frag}{C:Addr}(c:dZ K C)(f:Str):PySem.W.plainGet K C f=true:=c.pg
noncomputable def cC(K:PySem.W.Frag)(C:Addr)(f:Str):Prop:=PySem.W.findIn K (.ref C) f=some none
theorem cC.UG{K:PySem.W.Frag}{C:Addr}{f:Str}(n:cC K C f):PySem.W.takerIn K C f=some none:=by
 unfold PySem.W.takerIn
 rw[show PySem.W.findIn K (.ref C) f=some none from n]
 rfl
structure Meth(K:PySem.W.Frag)(C:Addr)(m:Str)(f:Addr):Prop where
 at_:PySem.W.findIn K (.ref C) m=some (some (.ref f))
 fn:PySem.W.isFn K (.ref f)=true
 kp:PySem.W.keepIn K (.ref f)=true
section
variable{X:Cx}{pins:List (Addr × Obj)}{σ:St}{H:Hp}{s:Shared}{a C dx:Addr}{fs:List (Str × V)}{f:Str}{v:V}{A:Around}{E:Value->Shared->Prop}
theorem UH{b:Bool}{Q:Value->Shared->Prop}(I:Inv X pins σ H s)(e:H a=some (.ins C dx fs))(c:dZ X.K C)(n:cC X.K C f)(l:fs.lookup f=some v)
  (h:∀u s',Inv X pins σ H s'->RelV v u->Q u s'):wpAny (model X.prog X.w) A (getAttr (.ref a) f b) Q E s:=by
 obtain⟨mA,O,r,_,_,_⟩:=yt I.az e
 obtain⟨u,hu,ru⟩:=fq.some_of (v:=v) (o:=mA f) (by rw[<-l];exact r f)
 exact Uw I.cJ O (c.get f) c.hd n hu (UE ru) (h u _ (I.tok _) ru)
theorem Cj{m:Str}{g:Addr}{pl:Sem Bool}{Q:Value × List Value->Shared->Prop}(I:Inv X pins σ H s)(e:H a=some (.ins C dx fs))(c:dZ X.K C)(k:Meth X.K C m g)(l:fs.lookup m=none)
  (h:Q (.ref g,[.ref a]) s):wpAny (model X.prog X.w) A (getMethod (.ref a) m pl) Q E s:=by
 obtain⟨mA,O,r,_,_,_⟩:=yt I.az e
 have hn:mA m=none:=fq.none_of (by rw[<-l];exact r m)
 exact Uy I.cJ O (c.get m) k.at_ k.fn hn h
theorem UI{y:V}{u:Value}{Q:Unit->Shared->Prop}(I:Inv X pins σ H s)(e:H a=some (.ins C dx fs))(c:dZ X.K C)(n:cC X.K C f)(hl:fs.length<1000)(ry:RelV y u)
  (h:∀s',Inv X pins σ (upd H a (.ins C dx (eJ f y fs))) s'->Q () s'):wpAny (model X.prog X.w) A (setAttr (.ref a) f u) Q E s:=by
 obtain⟨mA,O,r,wi,_,ho⟩:=yt I.az e
 have hz:(fs.map (·.1)).length<=sizeLine:=by rw[bV,sizeLine_eq];omega
 refine Uz I.cJ O c.sa c.po n.UG c.hd wi hz λh' O' sb=>h _ ?_
 have hd:∃o,h'.get? dx=some o:=let⟨o,_,_,e',_⟩:=O'.ns;⟨o,e'⟩
 refine I.write (x:=a) (e:=dx) (by rw[e];exact jB) (.inr ho) (λb q hb z=>(sb.2 b hb).trans z) hd ?_
 refine⟨by rw[aN O.ne];exact ho,?_,O.ne,O'.obj,_,O'.ns,λg=>?_,λg hg=>?_⟩
 ·have:=KU f y fs;omega
 ·show fq ((eJ f y fs).lookup g) (if g=f then some u else mA g)
  rw[KS]
  by_cases q:g=f
  ·rw[if_pos q,if_pos q];exact ry
  ·rw[if_neg q,if_neg q];exact r g
 ·by_cases q:g=f
  ·rw[q];exact(Ci f y fs).1
  ·refine(Ci f y fs).2 g (wi g λz=>hg ?_)
   show(if g=f then some u else mA g)=none
   rw[if_neg q];exact z
theorem Inv.made(I:Inv X pins σ H s):Inv X pins σ (upd (upd H s.heap.objs.size (.own (s.heap.objs.size+1))) (s.heap.objs.size+1) (.ins C s.heap.objs.size []))
  { s with heap:=(s.heap.push PySem.W.emptyDict).push (PySem.W.instObj C s.heap.objs.size) }:=by
 have e1:(s.heap.push PySem.W.emptyDict).get? s.heap.objs.size=some PySem.W.emptyDict:=fR s.heap rfl
 have e2:((s.heap.push PySem.W.emptyDict).push (PySem.W.instObj C s.heap.objs.size)).get? (s.heap.objs.size+1)=some (PySem.W.instObj C s.heap.objs.size):=by
  have:=fR (s.heap.push PySem.W.emptyDict) (o:=PySem.W.instObj C s.heap.objs.size) rfl
  rwa [u7]at this
 have e3:(s.heap.push PySem.W.emptyDict).Ns s.heap.objs.size (λ_=>none):=⟨PySem.W.emptyDict,#[],_,e1,rfl,(λe he=>absurd he (by simp)),λ_=>rfl⟩
 have I1:=I.laid (a:=s.heap.objs.size) (o:=.own (s.heap.objs.size+1)) (h':=s.heap.push PySem.W.emptyDict) (t':=s.toks) (λb u q=>dP _ q) (bD _) ⟨_,e1⟩
 refine I1.laid (a:=s.heap.objs.size+1) (o:=.ins C s.heap.objs.size []) (t':=s.toks) (λb u q=>dP _ q) (Bf (u7 _ _)) ?_
 have ne:s.heap.objs.size≠s.heap.objs.size+1:=dU (xO _)
 refine⟨by rw[aN ne,bM],jC _,ne,e2,λ_=>none,(Heap.Ns1.of_empty e3).at λo q=>dP _ q,λ_=>jB,λy hy=>absurd rfl hy⟩
theorem UJ{prog:Program}{w:World}{env:Env}{e:Expr}{f:Str}{pos:Pos}{s:Shared}{Q:Value->Shared->Prop}(hb:attributeBase e f env (eval e env)=eval e env)
  (h:wpAny (model prog w) A (eval e env) (λo bj=>wpAny (model prog w) A (getAttr o f true) Q E bj) E s):wpAny (model prog w) A (eval (.Attribute e f pos) env) Q E s :=
 Attribute_any_ h (by rw[arm_eval_Attribute,hb])
end
noncomputable def UK(K:PySem.W.Frag)(ta:TE)(f:Str):TE:=λσ H Q=>ta σ H λx H1=>∃a C dx fs v,x=.ref a/\H1 a=some (.ins C dx fs)/\dZ K C/\cC K C f/\fs.lookup f=some v/\Q v H1
noncomputable def UL(K:PySem.W.Frag)(ta tv:TE)(f:Str):TS:=λD σ H=>tv σ H λy H1=>ta σ H1 λx H2=>∃a C dx fs,x=.ref a/\H2 a=some (.ins C dx fs)/\dZ K C/\cC K C f/\fs.length<1000 /\
 D.nx σ (upd H2 a (.ins C dx (eJ f y fs)))
section
variable{X:Cx}{o e value:Expr}{f:Str}{pos pos' jL:Pos}{ta tv:TE}
theorem yu(he:PE X e ta)(hb:attributeBase e f X.env (eval e X.env)=eval e X.env):PE X (.Attribute e f pos) (UK X.K ta f):=by
 intro pins s σ H Q I h
 refine UJ hb (aE (he pins s σ H _ I h) λu s1 ⟨x,H1,I1,rx,a,C,dx,fs,v,ex,ea,c,n,l,q⟩=>?_)
 subst ex
 obtain rfl:u=du a:=rx
 exact UH I1 ea c n l λu' s2 I2 ru=>⟨v,H1,I2,ru,q⟩
theorem nC(ha:PE X o ta)(hv:PE X value tv)(hs:swapsWith value (some (.Attribute o f pos')) pos.line X.env=pure false):PS X (.Assign [.Attribute o f pos'] value pos) (UL X.K ta tv f):=by
 intro pins s σ H D I h
 refine plainObj_wpAny_Assign_Attribute (aE (hv pins s σ H _ I h) λu s1 ⟨y,H1,I1,ry,q⟩=>aE (ha pins s1 σ H1 _ I1 q) λov s2 ⟨x,H2,I2,rx,a,C,dx,fs,ex,ea,c,n,l,q2⟩=>?_) hs
 subst ex
 obtain rfl:ov=du a:=rx
 exact UI I2 ea c n l ry λs3 I3=>⟨σ,_,I3,q2⟩
end
section
variable{X:Cx}{pins:List (Addr × Obj)}{σ:St}{H:Hp}{s:Shared}{A:Around}{E:Value->Shared->Prop}{Q:Value->Shared->Prop}{c:Value}{b:Bool}
inductive fS(K:PySem.W.Frag)(H:Hp):V->Value->Prop where
 | ak:fS K H .ak (.type "NoneType")
 | bl (x:Bool):fS K H (.bl x) (.type "bool")
 | int (i:Int):fS K H (.int i) (.type "int")
 | str (x:Str):fS K H (.str x) (.type "str")
 | qo (x:UInt64):fS K H (.qo x) (.type "float")
 | lst {a:Addr} {xs:List V} (e:H a=some (.lst xs)):fS K H (.ref a) (.type "list")
 | bR {a:Addr} {o:Obj} {xs:List V} (e:H a=some (.bR o (.lst xs))):fS K H (.ref a) (.type "list")
 | tup {a:Addr} {xs:List V} (e:H a=some (.tup xs)):fS K H (.ref a) (.type "tuple")
 | dK {a:Addr} {ao:List (Key × V)} (e:H a=some (.dK ao)):fS K H (.ref a) (.type "dict")
 | dT {a:Addr} {ao:List (List Key × V)} (e:H a=some (.dT ao)):fS K H (.ref a) (.type "dict")
 | ins {a C dx:Addr} {fs:List (Str × V)} (e:H a=some (.ins C dx fs)) (cl:dZ K C) (ha:PySem.W.findIn K (.ref C) "__class__"=some (some (.builtin "object.__class__")))
   (hn:PySem.W.specialIn K (.builtin "object.__class__") "__get__"=some (some (.builtin "getset_descriptor.__get__"))) (Ck:PySem.W.takesIn K (.builtin "object.__class__")=some true)
   (hm:PySem.W.mroIn K C (.type "object")=some true):fS K H (.ref a) (.ref C)
theorem UM{x:V}{u t:Value}(I:Inv X pins σ H s)(rx:RelV x u)(ty:fS X.K H x t)(e:PySem.W.kitOne X.K t c=some b)(h:∀tk,Q (.bool b) { s with toks:=tk }) :
  wpAny (model X.prog X.w) A (call (.builtin "isinstance") [u,c]) Q E s:=by
 cases ty with
 | ak=>cases(show u=pP from rx);exact PySem.W.kia_one PySem.W.kitx_none I.cJ jB e (λz=>nomatch z) h
 | bl y=>cases(show u=Bd y from rx);exact PySem.W.kia_one PySem.W.kitx_bool I.cJ jB e (λz=>nomatch z) h
 | int i=>obtain⟨t,q⟩:=(show ∃t,u=si i t from rx);cases q;exact PySem.W.kia_one PySem.W.kitx_int I.cJ jB e (λz=>nomatch z) h
 | str y=>obtain⟨t,q⟩:=(show ∃t,u=xK y t from rx);cases q;exact PySem.W.kia_one PySem.W.kitx_str I.cJ jB e (λz=>nomatch z) h
 | qo y=>obtain⟨t,q⟩:=(show ∃t,u=Value.float y t from rx);cases q;exact PySem.W.kia_one PySem.W.kitx_float I.cJ jB e (λz=>nomatch z) h
 | @lst a xs ea =>
  cases(show u=du a from rx)
  obtain⟨_,_,n,_,h1⟩:=(show cy X.prog X.w H s.heap a (.lst xs) from I.az a _ ea)
  exact PySem.W.kia_one PySem.W.kitx_list I.cJ ⟨_,h1,rfl⟩ e (λz=>nomatch z) h
 | @bR a ob xs ea =>
  cases(show u=du a from rx)
  obtain⟨_,_,_,n,_,h1⟩:=(show cy X.prog X.w H s.heap a (.bR ob (.lst xs)) from I.az a _ ea)
  exact PySem.W.kia_one PySem.W.kitx_list I.cJ ⟨_,h1,rfl⟩ e (λz=>nomatch z) h
 | @tup a xs ea =>
  cases(show u=du a from rx)
  obtain⟨_,_,_,p⟩:=(show cy X.prog X.w H s.heap a (.tup xs) from I.az a _ ea)
  obtain⟨o,h1,h2,_⟩:=p
  exact PySem.W.kia_one PySem.W.kitx_tuple I.cJ ⟨o,h1,h2⟩ e (λz=>nomatch z) h
 | @dK a ao ea =>
  cases(show u=du a from rx)
  obtain⟨_,_,vs,_,p⟩:=(show cy X.prog X.w H s.heap a (.dK ao) from I.az a _ ea)
  obtain⟨o,es,ep,h1,h2,_⟩:=p
  exact PySem.W.kia_one PySem.W.kitx_dict I.cJ ⟨o,h1,h2.1⟩ e (λz=>nomatch z) h
 | @dT a ao ea =>
  cases(show u=du a from rx)
  obtain⟨_,_,xs,_,o,es,ep,h1,h2,_⟩:=(show cy X.prog X.w H s.heap a (.dT ao) from I.az a _ ea)
  exact PySem.W.kia_one PySem.W.kitx_dict I.cJ ⟨o,h1,h2.1⟩ e (λz=>nomatch z) h
 | @ins a C dx fs ea cl ha hn Ck hm =>
  cases(show u=du a from rx)
  obtain⟨mA,O,_⟩:=yt I.az ea
  obtain⟨od,J,_⟩:=O.look
  exact PySem.W.kia_one (PySem.W.kitx_own (cl.get _) cl.hd ha hn Ck hm) I.cJ J e (λz=>nomatch z) h
end
end L2
namespace L2
open PySem PySem.Spec PyProof.Rows
structure bN(k:Nat)(A:Around):Prop where
 hd:A.handled=none
 dp:A.depth+3*k+5<recursionLimit
 un:A.units+16*k+200<cLine
theorem bN.mono{j k:Nat}{A:Around}(r:bN k A)(h:j<=k):bN j A:=⟨r.hd,by have:=r.dp;omega,by have:=r.un;omega⟩
theorem bN.deeper{k:Nat}{A:Around}(r:bN (k+1) A)(env:Env):bN k (A.deeper env) :=
 ⟨r.hd,by have:=r.dp;show A.depth+1+3*k+5<_;omega,by have:=r.un;show A.units+3+16*k+200<_;omega⟩
theorem bN.in1{k:Nat}{A:Around}(r:bN (k+1) A):bN k A.in1 :=
 ⟨r.hd,by have:=r.dp;show A.depth+3*k+5<_;omega,by have:=r.un;show A.units+1+16*k+200<_;omega⟩
theorem UN{A:Around}{C:Addr}{us:List Value}{kw:List (Str × Value)}:(A.under (.builtin "type.__call__" ⟨.ref C::us,kw⟩)).depth=A.depth+1:=by
 first | rfl | simp[Around.under,Code.weight,Code.isCreation,Code.isGuard,Code.isCaller,Code.frames,Code.isFrame,guardIds]
theorem UO{A:Around}{C:Addr}{us:List Value}{kw:List (Str × Value)}:(A.under (.builtin "type.__call__" ⟨.ref C::us,kw⟩)).units=A.units+1:=by
 first | rfl | simp[Around.under,Code.cUnits,Code.frames,Code.isFrame]
theorem bN.make{k:Nat}{A:Around}(r:bN (k+1) A)(C:Addr)(us:List Value)(kw:List (Str × Value)):bN k (A.under (.builtin "type.__call__" ⟨.ref C::us,kw⟩)) :=
 ⟨r.hd,by have:=r.dp;rw[UN];omega,by have:=r.un;rw[UO];omega⟩
theorem bN.depth{k:Nat}{A:Around}(r:bN k A):A.depth<recursionLimit:=by have:=r.dp;omega
theorem bN.units{k:Nat}{A:Around}(r:bN k A):A.units+64<cLine:=by have:=r.un;omega
noncomputable def UP:TA:=λ_ H Q=>Q [] H
noncomputable def UQ(ta:TE)(tr:TA):TA:=λσ H Q=>ta σ H λx H1=>tr σ H1 λxs H2=>Q (x::xs) H2
section
variable{X:Cx}{e:Expr}{es:List Expr}{te:TE}{t:TA}{pos:Pos}
theorem hV:PA X [] UP:=λ_ _ _ _ H Q I h=>Calls.spliced_nil ⟨[],H,I,.nil,h⟩
theorem eK(ha:PE X e te)(hr:PA X es t)(hs:starEach (e::es) X.env=(false,eval e X.env)::starEach es X.env:=by rfl):PA X (e::es) (UQ te t):=by
 intro pos pins s σ H Q I h
 rw[hs]
 show wpAny _ _ (spliced ((false,eval e X.env)::backTo pos (starEach es X.env))) _ _ s
 refine Calls.spliced_cons (aE (ha pins s σ H _ I h) λu s1 ⟨x,H1,I1,r1,q1⟩=>?_)
 exact aE (hr pos pins s1 σ H1 _ I1 q1) λus s2 ⟨xs,H2,I2,r2,q2⟩=>⟨x::xs,H2,I2,.cons r1 r2,q2⟩
noncomputable def UR(t:TA):TE:=λσ H Q=>t σ H λxs H1=>xs.length<=sizeLine/\∀p,H1 p=none->Q (.ref p) (upd H1 p (.tup xs))
noncomputable def US(t:TA):TE:=λσ H Q=>t σ H λxs H1=>xs.length<=sizeLine/\∀p,H1 p=none->Q (.ref p) (upd H1 p (.lst xs))
theorem UT{x1}(h:PA X es t):PE X (.Tuple es x1 pos) (UR t):=by
 intro pins s σ H Q I hq
 refine wpAny_Tuple_spliced (aE (h pos pins s σ H _ I hq) λus s1 ⟨xs,H1,I1,r,z,q⟩=>⟨by rw[<-r.length];exact z,?_⟩)
 have hf:H1 s1.heap.objs.size=none:=I1.az.fresh (bD _)
 refine⟨.ref s1.heap.objs.size,upd H1 s1.heap.objs.size (.tup xs),I1.laid (t':=s1.toks) (λb u e=>dP _ e) (bD _) ?_,rfl,q _ hf⟩
 exact⟨z,us,r,⟨_,fR _ rfl,rfl,_,rfl⟩⟩
theorem KW(h:PA X es t):PE X (.List es pos) (US t):=by
 intro pins s σ H Q I hq
 refine wpAny_List_spliced (aE (h pos pins s σ H _ I hq) λus s1 ⟨xs,H1,I1,r,z,q⟩=>⟨by rw[<-r.length];exact z,?_⟩)
 have hf:H1 s1.heap.objs.size=none:=I1.az.fresh (bD _)
 refine⟨.ref s1.heap.objs.size,upd H1 s1.heap.objs.size (.lst xs),I1.laid (t':=s1.toks) (λb u e=>dP _ e) (bD _) ?_,rfl,q _ hf⟩
 exact⟨z,us,0,r,fR _ rfl⟩
end
noncomputable abbrev Sp:=List V->Hp->VK->XK->Prop
noncomputable abbrev dG:=List Env->Hp->Shared->XK->Value->Shared->Prop
structure fg(P:Program)(w:World)(K:PySem.W.Frag)(mg:Str->Option Value)(base:Heap)(A:Around)(outer:List Env)(s:Shared)(H:Hp):Prop where
 frames:A.frames=some outer
 mod:Mod K mg base
 bs:∀b o,base.get? b=some o->s.heap.get? b=some o/\H b=none
 gv:base.objs.size<=s.heap.objs.size
 eQ:s.heap.FunFrames base outer
 g7:∀b∈cT outer,H b=none
 az:bS P w H s.heap
 bare:AllBare s.gens
noncomputable def CE(outer:List Env)(P:Program)(w:World)(H:Hp)(s:Shared)(Q:VK)(u:Value)(s':Shared):Prop :=
 ∃v H',s'.os=s.os/\AllBare s'.gens/\Un (cT outer) [] H H' s.heap s'.heap/\bS P w H' s'.heap/\RelV v u/\Q v H'
noncomputable def CR(CX:dG)(outer:List Env)(P:Program)(w:World)(H:Hp)(s:Shared)(Q:VK)(E:XK)(r:Result)(s':Shared):Prop :=
 match r with
 | .ok (.ret u)=>CE outer P w H s Q u s'
 | .ok _=>False
 | .error e=>CX outer H s E e s'
structure aS(P:Program)(w:World)(K:PySem.W.Frag)(mg:Str->Option Value)(base:Heap)(CX:dG)(k:Nat)(f:Addr)(fd:FuncData)(ps:List Str)(sp:Sp):Prop where
 len:∀vs H Q E,sp vs H Q E->vs.length=ps.length
 run:∀(A:Around) (outer:List Env) (s:Shared) (H:Hp) (args:Args) (us:List Value) (vs:List V) (Q:VK) (E:XK),bN k A->fg P w K mg base A outer s H->BindsTo s fd args (ps.zip us)->Vals vs us->sp vs H Q E ->
  codeAny (model P w) A (.call (.ref f) args) (CR CX outer P w H s Q E) s
theorem aS.mono{P:Program}{w:World}{K:PySem.W.Frag}{mg:Str->Option Value}{base:Heap}{CX:dG}{j k:Nat}{f:Addr}{fd:FuncData}{ps:List Str}{sp:Sp}(F:aS P w K mg base CX j f fd ps sp)(h:j<=k) :
  aS P w K mg base CX k f fd ps sp:=⟨F.len,λA outer s H args us vs Q E hr=>F.run A outer s H args us vs Q E (hr.mono h)⟩
theorem aS.imp{P:Program}{w:World}{K:PySem.W.Frag}{mg:Str->Option Value}{base:Heap}{CX:dG}{k:Nat}{f:Addr}{fd:FuncData}{ps:List Str}{sp yv:Sp}(F:aS P w K mg base CX k f fd ps sp)
  (h:∀vs H Q E,yv vs H Q E->sp vs H Q E):aS P w K mg base CX k f fd ps yv :=
 ⟨λvs H Q E q=>F.len vs H Q E (h _ _ _ _ q),λA outer s H args us vs Q E hr he hb hv hs=>F.run A outer s H args us vs Q E hr he hb hv (h _ _ _ _ hs)⟩
theorem fg.make{P:Program}{w:World}{K:PySem.W.Frag}{mg:Str->Option Value}{base:Heap}{A:Around}{outer:List Env}{s:Shared}{H:Hp}(e:fg P w K mg base A outer s H)(C:Addr)(us:List Value)(kw:List (Str × Value)) :
  fg P w K mg base (A.under (.builtin "type.__call__" ⟨.ref C::us,kw⟩)) outer s H:=⟨by first | exact e.frames | (simpa[Around.under,Code.envs,Code.isFrame,pushEnvs]using e.frames),e.mod,e.bs,e.gv,e.eQ,e.g7,e.az,e.bare⟩
theorem fg.in1{P:Program}{w:World}{K:PySem.W.Frag}{mg:Str->Option Value}{base:Heap}{A:Around}{outer:List Env}{s:Shared}{H:Hp}(e:fg P w K mg base A outer s H) :
  fg P w K mg base A.in1 outer s H:=⟨e.frames,e.mod,e.bs,e.gv,e.eQ,e.g7,e.az,e.bare⟩
section
variable{X:Cx}{pins:List (Addr × Obj)}{σ:St}{H:Hp}{s s':Shared}
theorem Inv.vL(I:Inv X pins σ H s):fg X.prog X.w X.K X.mg X.base X.A X.stack s H :=
 ⟨I.ok.frames,I.ok.mod,I.bs,dW I.ok.gv I.sz,I.stack,I.ye,I.az,I.bare⟩
theorem Inv.after{Q:VK}{u:Value}(I:Inv X pins σ H s)(h:CE X.stack X.prog X.w H s Q u s'):EP X pins σ Q u s':=by
 obtain⟨v,H',os,bare,un,az,r,q⟩:=h
 obtain⟨hh,g,d,t,UU⟩:=s'
 obtain rfl:UU=s.os:=os
 exact⟨v,H',I.call (h':=hh) (g':=g) (d':=d) (t':=t) (ch:=[]) un az bare (λb z=>absurd z (by simp)),r,q⟩
end
noncomputable def UW(sp:Sp)(eo:List V)(E:XK)(t:TA):TE:=λσ H Q=>t σ H λvs H1=>sp (vs++eo) H1 Q E
noncomputable def UX(C:Addr)(m:Str)(sp:Sp)(eo:List V)(E:XK)(ta:TE)(t:TA):TE:=λσ H Q=>ta σ H λx H1=>∃a dx fs,x=.ref a/\H1 a=some (.ins C dx fs)/\fs.lookup m=none /\
 t σ H1 λvs H2=>sp (x::(vs++eo)) H2 Q E
noncomputable def UY(C:Addr)(sp:Sp)(eo:List V)(E:XK)(t:TA):TE:=λσ H Q=>t σ H λvs H1=>∀x dx,H1 x=none->H1 dx=none->dx≠x ->
 sp (.ref x::(vs++eo)) (upd (upd H1 dx (.own x)) x (.ins C dx [])) (λv H2=>v=.ak/\Q (.ref x) H2) E
noncomputable def Binds(K:PySem.W.Frag)(fd:FuncData)(ps:List Str)(ds:List Value):Prop :=
 ∀(s:Shared) (us:List Value),K.In s.heap->(us++ds).length=ps.length->BindsTo s fd ⟨us,[]⟩ (ps.zip (us++ds))
theorem Binds.all{K:PySem.W.Frag}{fd:FuncData}{ps:List Str}(h:∀us:List Value,us.length=ps.length->bindArgs fd ⟨us,[]⟩=pure (ps.zip us)):Binds K fd ps []:=λs us _ hl=>by
 rw[m9]at hl ⊢
 exact .of_eq (h us hl)
noncomputable def jM(CX:dG)(X:Cx)(E:XK):Prop:=∀(pins:List (Addr × Obj)) (σ:St) (H:Hp) (s:Shared) (e:Value) (s':Shared),Inv X pins σ H s->CX X.stack H s E e s'->X.xe e s'
section
variable{X:Cx}{CX:dG}{k:Nat}{f C:Addr}{fd:FuncData}{ps:List Str}{sp:Sp}{eo:List V}{ds:List Value}{E:XK}{x m:Str}{p pos apos:Pos}{e o:Expr}{es:List Expr}{ta:TE}{t:TA}
theorem yw{pins:List (Addr × Obj)}{σ:St}{H:Hp}{s:Shared}{Q:VK}{us:List Value}{vs:List V}(F:aS X.prog X.w X.K X.mg X.base CX k f fd ps sp)(hr:bN k X.A)(hb:Binds X.K fd ps ds)(hd:Vals eo ds)(hx:jM CX X E)
  (I:Inv X pins σ H s) (r:Vals vs us) (h:sp (vs++eo) H Q E):wpAny (model X.prog X.w) X.A (call (.ref f) us) (EP X pins σ Q) X.xe s:=by
 have r2:Vals (vs++eo) (us++ds):=r.append hd
 have hl:(us++ds).length=ps.length:=by rw[<-r2.length];exact F.len _ _ _ _ h
 refine wpAny_call (codeAny_mono (F.run X.A X.stack s H ⟨us,[]⟩ (us++ds) (vs++eo) Q E hr I.vL (hb s us I.cJ hl) r2 h) λr s' hq=>?_)
 cases r with
 | error e=>exact hx pins σ H s e s' I hq
 | ok fl =>
  cases fl with
  | ret u=>exact I.after hq
  | next=>exact dX hq
  | brk=>exact dX hq
  | cont=>exact dX hq
theorem qE(F:aS X.prog X.w X.K X.mg X.base CX k f fd ps sp)(hr:bN k X.A)(hg:Gl X x)(hm:X.mg x=some (.ref f))(hk:PySem.W.keepIn X.K (.ref f)=true)(hb:Binds X.K fd ps ds)(hd:Vals eo ds)(hx:jM CX X E)
  (ha:PA X (e::es) t) (dH:(x==("__debug__":Str))=false:=by decide) (he:starEach (e::es) X.env=(false,eval e X.env)::starEach es X.env:=by rfl) (bO:(backTo pos (starEach es X.env)).any (·.1)=false:=by rfl) :
  PE X (.Call (.Name x p) (e::es) [] pos) (UW sp eo E t):=by
 intro pins s σ H Q I h
 refine wpAny_Call_Name_kw (yh I hg hm ?_ dH)
 refine PySem.W.callWith_K (h₀:=X.base) I.ok.mod.kI hk (aE (ha pos pins s σ H _ I h) λus s1 ⟨vs,H1,I1,r,q⟩=>⟨I1.cJ,?_⟩) he bO
 exact yw F hr hb hd hx I1 r q
theorem UZ{pl:Sem Bool}(he:PE X o ta)(c:dZ X.K C)(hm:Meth X.K C m f)(F:aS X.prog X.w X.K X.mg X.base CX k f fd ps sp)(hr:bN k X.A)(hb:Binds X.K fd ps ds)(hd:Vals eo ds)(hx:jM CX X E)(ha:PA X (e::es) t)
  (cK:starEach (e::es) X.env=(false,eval e X.env)::starEach es X.env:=by rfl) (bO:(backTo pos (starEach es X.env)).any (·.1)=false:=by rfl)
  (ht:eval (.Call (.Attribute o m apos) (e::es) [] pos) X.env=(do
   let ov<-eval o X.env
   standAt apos.atName
   let (f,first)<-holding [ov] (getMethod ov m pl)
   callWith pos f first (backTo pos (starEach (e::es) X.env)) (backToKw pos (keywordEach [] X.env))):=by rfl) :
  PE X (.Call (.Attribute o m apos) (e::es) [] pos) (UX C m sp eo E ta t):=by
 intro pins s σ H Q I h
 refine PySem.W.methodCall_KW (pl:=pl) (aE (he pins s σ H _ I h) λu s1 ⟨x,H1,I1,rx,a,dx,fs,ex,ea,l,q⟩=>?_) ht
 subst ex
 obtain rfl:u=du a:=rx
 refine Cj I1 ea c hm l ?_
 refine PySem.W.callWith_K (first:=[.ref a]) (h₀:=X.base) I.ok.mod.kI hm.kp (aE (ha pos pins s1 σ H1 _ I1 q) λus s2 ⟨vs,H2,I2,r,q2⟩=>⟨I2.cJ,?_⟩) cK bO
 exact yw (us:=.ref a::us) (vs:=.ref a::vs) F hr hb hd hx I2 (.cons rfl r) q2
structure Mk(K:PySem.W.Frag)(C f:Addr):Prop where
 makes:PySem.W.makesIn K C=true
 init:PySem.W.findIn K (.ref C) "__init__"=some (some (.ref f))
 fn:PySem.W.isFn K (.ref f)=true
 kp:PySem.W.keepIn K (.ref C)=true
theorem U0{pins:List (Addr × Obj)}{σ:St}{H:Hp}{s:Shared}{Q:VK}{us:List Value}{vs:List V}(M:Mk X.K C f)(F:aS X.prog X.w X.K X.mg X.base CX k f fd ps sp)(hr:bN (k+1) X.A)(hb:Binds X.K fd ps ds)(hd:Vals eo ds)
  (hx:jM CX X E) (I:Inv X pins σ H s) (r:Vals vs us)
  (h:∀x dx,H x=none->H dx=none->dx≠x->sp (.ref x::(vs++eo)) (upd (upd H dx (.own x)) x (.ins C dx [])) (λv H2=>v=.ak/\Q (.ref x) H2) E) :
  wpAny (model X.prog X.w) X.A (call (.ref C) us) (EP X pins σ Q) X.xe s:=by
 have hq:=h (s.heap.objs.size+1) s.heap.objs.size (I.az.fresh (Nat.le_succ _)) (I.az.fresh (bD _)) (dU (xO _))
 have I2:=Inv.made (C:=C) I
 have r2:Vals (V.ref (s.heap.objs.size+1)::(vs++eo)) (du (s.heap.objs.size+1)::(us++ds)):=.cons rfl (r.append hd)
 have hl:(du (s.heap.objs.size+1)::us++ds).length=ps.length:=by
  have e:=r2.length
  rw[F.len _ _ _ _ hq]at e
  exact e.symm
 refine wpAny_call (UD (f:=f) I.cJ M.makes M.init (beq_iff_eq.mp M.fn) (codeAny_mono (F.run _ X.stack _ _ ⟨du (s.heap.objs.size+1)::us,[]⟩ (du (s.heap.objs.size+1)::(us++ds)) _ _ E (hr.make C us [])
  (I2.vL.make C us []) (hb _ (du (s.heap.objs.size+1)::us) I2.cJ hl) r2 hq) λr s' gz=>?_))
 cases r with
 | error e=>exact hx pins σ _ _ e s' I2 gz
 | ok fl =>
  cases fl with
  | ret u =>
   obtain⟨v,H',I3,rv,ev,q3⟩:=I2.after gz
   subst ev
   exact⟨rv,⟨V.ref (s.heap.objs.size+1),H',I3,rfl,q3⟩⟩
  | next=>exact dX gz
  | brk=>exact dX gz
  | cont=>exact dX gz
theorem U1(M:Mk X.K C f)(F:aS X.prog X.w X.K X.mg X.base CX k f fd ps sp)(hr:bN (k+1) X.A)(hg:Gl X x)(hm:X.mg x=some (.ref C))(hb:Binds X.K fd ps ds)(hd:Vals eo ds)(hx:jM CX X E)
  (ha:PA X (e::es) t) (dH:(x==("__debug__":Str))=false:=by decide) (he:starEach (e::es) X.env=(false,eval e X.env)::starEach es X.env:=by rfl) (bO:(backTo pos (starEach es X.env)).any (·.1)=false:=by rfl) :
  PE X (.Call (.Name x p) (e::es) [] pos) (UY C sp eo E t):=by
 intro pins s σ H Q I h
 refine wpAny_Call_Name_kw (yh I hg hm ?_ dH)
 refine PySem.W.callWith_K (h₀:=X.base) I.ok.mod.kI M.kp (aE (ha pos pins s σ H _ I h) λus s1 ⟨vs,H1,I1,r,q⟩=>⟨I1.cJ,?_⟩) he bO
 exact U0 M F hr hb hd hx I1 r q
end
section
variable{X:Cx}{CX:dG}{k:Nat}{f C:Addr}{fd:FuncData}{ps ks:List Str}{sp:Sp}{E:XK}{x m:Str}{p pos apos du1:Pos}{e o:Expr}{es:List Expr}{kws:List Keyword}{te ta:TE}{t tk:TA}{nm:Option Str}
variable{g:List Value->List Value->List Value}{gV:List V->List V->List V}
end
structure bE(N P:List Str)(sc:Scope):Prop where
 kind:sc.kind=.function
 co:sc.isCoroutine=false
 gen:sc.isGenerator=false
 nd:N.Nodup
 pre:N.take P.length=P
 par:∀x∈P,sc.names.lookup x=some .local\/sc.names.lookup x=some .cell
 U2:∀y∈sc.names,y.2≠.free
theorem KY{kindOf:Str->Option NameKind}{x:Str}:∀{binds:List (Str × Value)} {m:Str->Option Value},(∀v,(x,v) ∉ binds)->bindL kindOf binds m x=m x
 | [],_,_=>rfl
 | (n,v)::r,m,h=>by
  unfold bindL
  rw[KY λw hw=>h w (fm _ hw)]
  split
  ·have:x≠n:=by rintro rfl;exact h v jz
   simp[this]
  ·rfl
theorem KZ{kindOf:Str->Option NameKind}{x:Str}:∀{binds:List (Str × Value)} {m:Str->Option Value},(∀v,(x,v) ∉ binds)->bindC kindOf binds m x=m x
 | [],_,_=>rfl
 | (n,v)::r,m,h=>by
  unfold bindC
  rw[KZ λw hw=>h w (fm _ hw)]
  split
  ·rfl
  ·have:x≠n:=by rintro rfl;exact h v jz
   simp[this]
theorem K0{kindOf:Str->Option NameKind}{x:Str}{v:Value}:∀{P:List Str} {vs:List Value} {i:Nat} {m:Str->Option Value},P.Nodup->P[i]?=some x->vs[i]?=some v->kindOf x=some .local ->
  bindL kindOf (P.zip vs) m x=some v
 | [],_,_,_,_,h,_,_=>by simp at h
 | _::_,[],_,_,_,_,h,_=>by simp at h
 | p::P,w::vs,0,m,nd,h1,h2,hk=>by
  simp at h1 h2;subst h1;subst h2
  show bindL kindOf ((p,w)::P.zip vs) m p=_
  unfold bindL
  rw[KY λv hv=>(jD.mp nd).1 (u9 hv).1,if_pos hk]
  simp
 | p::P,w::vs,i+1,m,nd,h1,h2,hk=>by
  show bindL kindOf ((p,w)::P.zip vs) m x=_
  unfold bindL
  exact K0 (i:=i) (jD.mp nd).2 (by simpa using h1) (by simpa using h2) hk
theorem K1{kindOf:Str->Option NameKind}{x:Str}{v:Value}:∀{P:List Str} {vs:List Value} {i:Nat} {m:Str->Option Value},P.Nodup->P[i]?=some x->vs[i]?=some v->kindOf x≠some .local ->
  bindC kindOf (P.zip vs) m x=some v
 | [],_,_,_,_,h,_,_=>by simp at h
 | _::_,[],_,_,_,_,h,_=>by simp at h
 | p::P,w::vs,0,m,nd,h1,h2,hk=>by
  simp at h1 h2;subst h1;subst h2
  show bindC kindOf ((p,w)::P.zip vs) m p=_
  unfold bindC
  rw[KZ λv hv=>(jD.mp nd).1 (u9 hv).1,if_neg hk]
  simp
 | p::P,w::vs,i+1,m,nd,h1,h2,hk=>by
  show bindC kindOf ((p,w)::P.zip vs) m x=_
  unfold bindC
  exact K1 (i:=i) (jD.mp nd).2 (by simpa using h1) (by simpa using h2) hk
noncomputable def start(N:List Str)(vs:List V):St:=vs.map some++aT (N.length-vs.length) none
noncomputable def gA(CX:dG)(P:Program)(w:World)(K:PySem.W.Frag)(mg:Str->Option Value)(base:Heap)(N:List Str)(qual:Str)(scope:Scope)(f:Addr)(cd:Value)(A:Around)(outer:List Env)(s:Shared)(H:Hp)(E:XK):Cx where
 prog:=P
 w:=w
 K:=K
 mg:=mg
 base:=base
 A:=A.deeper (envOfC qual scope s.heap.objs.size f cd)
 N:=N
 bP:=s
 iW:=H
 env:=envOfC qual scope s.heap.objs.size f cd
 outer:=outer
 stack:=envOfC qual scope s.heap.objs.size f cd::outer
 ex:=[]
 calm:=true
 fn:=λ_=>true
 pn:=[]
 xe:=λe s'=>wpAny (model P w) (A.deeper (envOfC qual scope s.heap.objs.size f cd)) (leaving (envOfC qual scope s.heap.objs.size f cd) e) (λ_ qF=>CX outer H s E e qF) (λe' qF=>CX outer H s E e' qF) s'
theorem K2{sc:Scope}{n:Nat}{x:Str}(h:sc.names.lookup x=some .cell):∃c,(cellsFrom n sc.names []).lookup x=some c:=by
 have q:=PySem.W.cellsFrom_some sc.names n [] (.inl h)
 exact J4.mp q
theorem U3{CX:dG}{P:Program}{w:World}{K:PySem.W.Frag}{mg:Str->Option Value}{base:Heap}{N ps:List Str}{qual:Str}{scope:Scope}{f:Addr}{cd:Value}{A:Around}{outer:List Env}{s s1:Shared}{H:Hp}{E:XK}{us:List Value}{vs:List V}
  (S:bE N ps scope) (hd:A.handled=none) (e0:fg P w K mg base A outer s H) (hl:vs.length=ps.length) (r:Vals vs us)
  (x:InCallC s s.heap.objs.size (bindL (envOfC qual scope s.heap.objs.size f cd).kindOf (ps.zip us) λ_=>none) (cellsFrom (s.heap.objs.size+1) scope.names []) (bindC (envOfC qual scope s.heap.objs.size f cd).kindOf (ps.zip us) λ_=>none) s1) :
  Inv (gA CX P w K mg base N qual scope f cd A outer s H E) [] (start N vs) H s1:=by
 have bO:ps.length<=N.length:=by have:=congrArg Bg S.pre;rw[xP]at this;omega
 obtain⟨h1,tk,rfl,hk⟩:=x.done
 have vM:∀b:Addr,b ∉ (gA CX P w K mg base N qual scope f cd A outer s H E).ex:=λb z=>absurd (show b∈([]:List Addr) from z) (by simp)
 refine⟨⟨e0.mod,S.kind,rfl,rfl,bD _,λy z c h1 h2=>?_,λy hy=>?_,λy c _ h=>?_,λ_=>hd,Around.frames_deeper e0.frames,.inr ⟨rfl,rfl⟩,λb z=>absurd z (vM b),e0.bs,e0.gv,λb _ _=>vM b,λb z=>absurd z (vM b),e0.eQ,e0.g7⟩,
  rfl,e0.bare,Un.kept hk,⟨_,x.toInCall.ns,λi y v h1 h2 h3=>?_⟩,λy c h=>⟨_,x.cell y c h⟩,e0.az.fresh (bD _),λy c h=>?_,λp hp=>absurd (show p∈([]:List (Addr × Obj)) from hp) (by simp),e0.az.kept hk,?_⟩
 ·exact name_of_addr x.apart (PySem.mem_of_lookup h1) (PySem.mem_of_lookup h2)
 ·have hy:scope.names.lookup y=some .cell\/scope.names.lookup y=some .free:=hy
  rcases hy with hy | hy
  ·exact K2 hy
  ·exact absurd rfl (S.U2 _ (PySem.mem_of_lookup hy))
 ·exact sk (x.above y c (PySem.mem_of_lookup h))
 ·have hi:i<vs.length:=by
   unfold start at h2
   by_cases hi:i<vs.length
   ·exact hi
   ·rw[su (by simpa using hi)]at h2
    rw[va]at h2
    split at h2<;>cases h2
  have ha:vs[i]?=some v:=by
   unfold start at h2
   rw[vb (by simpa using hi),cI]at h2
   cases e:vs[i]? with
   | none=>rw[e]at h2;cases h2
   | some a=>rw[e]at h2;cases h2;rfl
  obtain⟨u,hu,rv⟩:=r.get ha
  have hp:ps[i]?=some y:=by
   rw[<-S.pre,List.getElem?_take_of_lt (by omega)];exact h1
  have K3:ps.Nodup:=by rw[<-S.pre];exact S.nd.sublist (List.take_sublist _ _)
  refine⟨u,rv,?_⟩
  rcases S.par y (vd hp)with k | k
  ·exact .inl ⟨k,K0 K3 hp hu k⟩
  ·obtain⟨c,e⟩:=K2 (n:=s.heap.objs.size+1) k
   refine .inr ⟨.inl k,c,e,?_⟩
   have q:=x.cell y c e
   rw[K1 K3 hp hu (by show scope.names.lookup y≠_;rw[k];decide)]at q
   exact q
 ·exact e0.az.fresh (sk (x.above y c (PySem.mem_of_lookup h)))
 ·unfold start
  show _=N.length
  rw[iQ,bV,jE]
  omega
theorem Cm{CX:dG}{P:Program}{w:World}{K:PySem.W.Frag}{mg:Str->Option Value}{base:Heap}{k:Nat}{f:Addr}{name qual:Str}{params:Arguments}{body:List Stmt}{scope:Scope}{dV kV doc pm aG ct oc:Value}{an od:Option Addr}
  {jN:Array (Option Value)} {N ps:List Str} {sp:Sp} (lk:K.lookup f=some ⟨oc,od,.func (PySem.W.fnOf name qual params body scope dV kV doc pm an aG ct),jN⟩) (cn:PySem.W.codeIn K aG qual=true) (S:bE N ps scope)
  (len:∀vs H Q E,sp vs H Q E->vs.length=ps.length)
  (fU:∀(A:Around) (outer:List Env) (s:Shared) (H:Hp) (vs:List V) (Q:VK) (E:XK),bN k (A.deeper (envOfC qual scope s.heap.objs.size f aG))->sp vs H Q E ->
   ∃t,PSs (gA CX P w K mg base N qual scope f aG A outer s H E) body t/\t { nx:=λ_ H'=>Q .ak H',rt:=Q } (start N vs) H) :
  aS P w K mg base CX (k+1) f (PySem.W.fnOf name qual params body scope dV kV doc pm an aG ct) ps sp:=by
 refine⟨len,λA outer s H args us vs Q E hr e0 hb r gB=>?_⟩
 have hl:=len _ _ _ _ gB
 have KX:K.In s.heap:=e0.mod.kI.keeps λb o e=>(e0.bs b o e).1
 have lim:s.heap.NoLimit:=e0.mod.nolimit.keeps λb o e=>(e0.bs b o e).1
 have gC:∀y∈ps.zip us,scope.names.lookup y.1=some .local\/(scope.names.lookup y.1=some .cell/\((cellsFrom (s.heap.objs.size+1) scope.names []).lookup y.1).isSome=true):=λ⟨n,v⟩ hy=>by
  rcases S.par n (u9 hy).1 with q | q
  ·exact .inl q
  ·exact .inr ⟨q,PySem.W.cellsFrom_some _ _ _ (.inl q)⟩
 refine codeAny_call_function hr.depth (KX _ _ lk) rfl S.co S.gen rfl (PySem.W.codeRec_of KX cn) (hb _ _ _ _ ?_)
 refine wpAny_newFunctionEnv_cells S.kind gC λenv he s1 x=>?_
 subst he
 refine⟨lim.keeps x.toInCall.keep,codeAny_func ?_⟩
 obtain⟨t,ht,hq⟩:=fU A outer s H vs Q E (hr.deeper _) gB
 have I:Inv (gA CX P w K mg base N qual scope f aG A outer s H E) [] (start N vs) H s1:=U3 S hr.hd e0 hl r x
 refine wpAny_mono (ht [] s1 (start N vs) H _ I hq) (λfl s' hs=>?_) λe s' hs=>hs
 have fin:∀{av:St} {H':Hp} {v:V} {u:Value},Inv (gA CX P w K mg base N qual scope f aG A outer s H E) [] av H' s'->RelV v u->Q v H'->CE outer P w H s Q u s' :=
  λ{av H' v u} J rv q=>⟨v,H',J.os,J.bare,J.base,J.az,rv,q⟩
 cases fl with
 | ret u =>
  obtain⟨v,av,H',J,rv,q⟩:=hs
  exact fin J rv q
 | next =>
  obtain⟨av,H',J,q⟩:=hs
  exact fin (v:=V.ak) (u:=pP) J rfl q
 | brk =>
  obtain⟨_,_,_,q⟩:=hs
  exact dX q
 | cont =>
  obtain⟨_,_,_,q⟩:=hs
  exact dX q
end L2
namespace L2
open PySem PySem.Spec PyProof.Rows
section
variable{X:Cx}{x:Str}{p pos:Pos}{e:Expr}{es:List Expr}{t:TA}{id T:String}{r:List V->Hp->VK->Prop}
noncomputable def Cn(r:List V->Hp->VK->Prop)(t:TA):TE:=λσ H Q=>t σ H λvs H1=>r vs H1 Q
theorem K4(hc:gy X (.builtin id) r)(hg:Gl X x)(hm:X.mg x=none)(hv:bootBuiltins x=some (.builtin id))(ha:PA X (e::es) t)(hn:x≠"__name__":=by decide)(dH:(x==("__debug__":Str))=false:=by decide)
  (he:starEach (e::es) X.env=(false,eval e X.env)::starEach es X.env:=by rfl) (bO:(backTo pos (starEach es X.env)).any (·.1)=false:=by rfl):PE X (.Call (.Name x p) (e::es) [] pos) (Cn r t):=by
 intro pins s σ H Q I h
 refine wpAny_Call_Name_kw (qu I hg hm hv ?_ hn dH)
 exact PyProof.Rows.callWith_builtin1 (aE (ha pos pins s σ H _ I h) λus s1 ⟨vs,H1,I1,r1,q1⟩=>hc pins s1 σ H1 vs us Q I1 r1 q1) he bO
theorem U4(hc:gy X (.type T) r)(hg:Gl X x)(hm:X.mg x=none)(hv:bootBuiltins x=some (.type T))(ha:PA X (e::es) t)(hn:x≠"__name__":=by decide)(dH:(x==("__debug__":Str))=false:=by decide)
  (he:starEach (e::es) X.env=(false,eval e X.env)::starEach es X.env:=by rfl) (bO:(backTo pos (starEach es X.env)).any (·.1)=false:=by rfl):PE X (.Call (.Name x p) (e::es) [] pos) (Cn r t):=by
 intro pins s σ H Q I h
 refine wpAny_Call_Name_kw (qu I hg hm hv ?_ hn dH)
 exact xN (aE (ha pos pins s σ H _ I h) λus s1 ⟨vs,H1,I1,r1,q1⟩=>hc pins s1 σ H1 vs us Q I1 r1 q1) he bO
end
end L2
namespace HT
open PySem PyProof.Rows
section
open PySem.SeqAt
open PySem.AutoSeq1 (wpAny_loadPart')
open PySem.MeetsSeq PySem.MeetsSeq2 PySem.MeetsSeq3
end
section
variable{prog:Program}{w:World}{A:Around}{E:Value->Shared->Prop}{s:Shared}
noncomputable def cE(n d:Nat):Option Int->Nat
 | none=>d
 | some v=>if v<0 then(v+(n:Int)).toNat else min v.toNat n
theorem Co(n d k:Nat):cE n d (some (k:Int))=min k n:=by
 show(if(k:Int)<0 then((k:Int)+(n:Int)).toNat else min (k:Int).toNat n)=min k n
 rw[if_neg (by omega),g5]
end
end HT
namespace L2
open PySem PySem.Spec PyProof.Rows
noncomputable abbrev TO:=St->Hp->(Option Int->Hp->Prop)->Prop
noncomputable def PO(X:Cx)(e:Option Expr)(t:TO):Prop :=
 ∀(pins:List (Addr × Obj)) (s:Shared) (σ:St) (H:Hp) (Q:Option Int->Hp->Prop),Inv X pins σ H s->t σ H Q ->
  wpAny (model X.prog X.w) X.A (evalPart e X.env) (λu s'=>∃o H',Inv X pins σ H' s'/\IsPart u o/\Q o H') X.xe s
noncomputable def U5:TO:=λ_ H Q=>Q none H
noncomputable def U6(t:TE):TO:=λσ H Q=>t σ H λx H1=>∃i,x=.int i/\Q (some i) H1
theorem U7{ns:List Int}:∀{us:List Value},Vals (ns.map V.int) us->IntsAre us ns:=by
 induction ns with
 | nil=>intro us r;rw[iS]at r;cases r;exact .nil
 | cons n ns ih =>
  intro us r
  rw[cH]at r
  cases r with
  | cons r1 r2 =>
   obtain⟨t,e⟩:=r1
   subst e
   exact .cons n t (ih r2)
section
variable{X:Cx}{e:Expr}{te:TE}{lo hi:Option Expr}{tl th:TO}{pos p2:Pos}
theorem U8:PO X none U5:=by
 intro pins s σ H Q I h
 rw[evalPart_none]
 exact wpAny_pure ⟨none,H,I,.none,h⟩
theorem U9(h:PE X e te):PO X (some e) (U6 te):=by
 intro pins s σ H Q I hw
 rw[evalPart_some]
 refine aE (h pins s σ H _ I hw) λu s1 ⟨x,H1,I1,r1,q1⟩=>?_
 obtain⟨i,rfl,q⟩:=q1
 obtain⟨t,rfl⟩:=r1
 exact⟨some i,H1,I1,.int i t,q⟩
noncomputable def qG(X:Cx)(r:V->Option Int->Option Int->Hp->VK->Prop):Prop :=
 ∀(pins:List (Addr × Obj)) (s:Shared) (σ:St) (H:Hp) (x:V) (v vl vu:Value) (lo hi:Option Int) (sl:Addr) (Q:VK),Inv X pins σ H s->RelV x v->s.heap.IsSliceOf sl vl vu .none->IsPart vl lo->IsPart vu hi->r x lo hi H Q ->
  ∃T id,typeLookup (.type T) "__getitem__"=pure (some (.builtin id))/\s.TypeIs v T/\wpAny (model X.prog X.w) X.A (getItem v (.ref sl)) (EP X pins σ Q) X.xe s
theorem qG.or{r r':V->Option Int->Option Int->Hp->VK->Prop}(h:qG X r)(h':qG X r'):qG X (λx lo hi H Q=>r x lo hi H Q\/r' x lo hi H Q):=by
 intro pins s σ H x v vl vu lo hi sl Q I rx hs pl pu q
 rcases q with q | q
 ·exact h pins s σ H x v vl vu lo hi sl Q I rx hs pl pu q
 ·exact h' pins s σ H x v vl vu lo hi sl Q I rx hs pl pu q
noncomputable def Va(r:V->Option Int->Option Int->Hp->VK->Prop)(te:TE)(tl th:TO):TE:=λσ H Q=>te σ H λx H1=>tl σ H1 λl H2=>th σ H2 λu H3=>r x l u H3 Q
theorem Vb{r:V->Option Int->Option Int->Hp->VK->Prop}(hr:qG X r)(he:PE X e te)(hl:PO X lo tl)(hu:PO X hi th):PE X (.Subscript e (.Slice lo hi none p2) pos) (Va r te tl th):=by
 intro pins s σ H Q I h
 refine Subscript_ (aE (he pins s σ H _ I h) λv s1 ⟨x,H1,I1,r1,q1⟩=>?_)
 refine wpAny_Slice (aE (hl pins s1 σ H1 _ I1 q1) λvl s2 ⟨l,H2,I2,pl,q2⟩=>aE (hu pins s2 σ H2 _ I2 q2) λvu s3 ⟨u,H3,I3,pu,q3⟩=>?_)
 rw[evalPart_none]
 refine wpAny_pure ?_
 have I4:Inv X pins σ H3 { s3 with heap:=s3.heap.push { cls:=.type "slice",data:=.fields #[vl,vu,.none] } }:=I3.kept (t':=s3.toks) λb ob q=>dP _ q
 obtain⟨T,id,hT,ht,hg⟩:=hr pins { s3 with heap:=s3.heap.push { cls:=.type "slice",data:=.fields #[vl,vu,.none] } } σ H3 x v vl vu l u s3.heap.objs.size Q I4 r1 (Heap.IsSliceOf.new ..) pl pu q3
 show wpAny (model X.prog X.w) X.A (subscriptTail e (.Slice lo hi none p2) v (.ref s3.heap.objs.size)) (EP X pins σ Q) X.xe { s3 with heap:=s3.heap.push { cls:=.type "slice",data:=.fields #[vl,vu,.none] } }
 exact tail_any (ops:=[.ref s3.heap.objs.size,v]) ht hT hg (by with_unfolding_all rfl)
noncomputable def sU(xs:List V)(lo hi:Option Int):List V:=(xs.drop (HT.cE xs.length 0 lo)).take (HT.cE xs.length xs.length hi-HT.cE xs.length 0 lo)
theorem Vc(xs:List V)(lo hi:Option Int):(sU xs lo hi).length<=xs.length:=by
 unfold sU
 rw[xP,xQ]
 omega
end
end L2
namespace L2
open PySem PySem.Spec PyProof.Rows
noncomputable def fV(n:Nat)(i:Int):Option Nat:=if 0<=i then(if i<n then some i.toNat else none)else if -(n:Int)<=i then some (i+n).toNat else none
noncomputable def dw{α:Type}(xs:List α)(i:Int):Option α:=(fV xs.length i).bind λj=>xs[j]?
theorem K5{n:Nat}{i:Int}{j:Nat}(h:fV n i=some j):seqIndex? i n=some j/\j<n/\-(n:Int)<=i/\i<n:=by
 unfold fV at h
 by_cases h0:0<=i
 ·rw[if_pos h0]at h
  by_cases h1:i<n
  ·rw[if_pos h1]at h
   have e:i.toNat=j:=cu h
   exact⟨by rw[seqIndex_of h0 h1,e],by omega,by omega,h1⟩
  ·rw[if_neg h1]at h;cases h
 ·rw[if_neg h0]at h
  by_cases h1:-(n:Int)<=i
  ·rw[if_pos h1]at h
   have e:(i+n).toNat=j:=cu h
   exact⟨by rw[seqIndex_neg (by omega) h1,e],by omega,h1,by omega⟩
  ·rw[if_neg h1]at h;cases h
theorem nD{α:Type}{xs:List α}{i:Int}{v:α}(h:dw xs i=some v):∃j,seqIndex? i xs.length=some j/\xs[j]?=some v/\j<xs.length/\-(xs.length:Int)<=i/\i<xs.length:=by
 unfold dw at h
 cases e:fV xs.length i with
 | none=>rw[e]at h;cases h
 | some j =>
  rw[e]at h
  obtain⟨h1,h2,h3,h4⟩:=K5 e
  exact⟨j,h1,h,h2,h3,h4⟩
theorem Cp{α:Type}{xs:List α}{j:Nat}{v:α}(h:xs[j]?=some v):dw xs (j:Int)=some v:=by
 have hj:j<xs.length:=(iA.mp h).1
 have e:fV xs.length (j:Int)=some j:=by
  unfold fV
  rw[if_pos (by omega),if_pos (by omega)];simp
 unfold dw;rw[e];exact h
noncomputable def K6(b:Expr):Prop:=∀o i,subscripted b false o i=operate [o,i] (getItem o i)
noncomputable def kJ(X:Cx)(r:R2):Prop :=
 ∀(value slice:Expr) (pins:List (Addr × Obj)) (s:Shared) (σ:St) (H:Hp) (x y:V) (v u:Value) (Q:VK),Inv X pins σ H s->RelV x v->RelV y u->r x y H Q ->
  subscripted slice false v u=operate [v,u] (getItem v u)->wpAny (model X.prog X.w) X.A (subscriptTail value slice v u) (EP X pins σ Q) X.xe s
noncomputable def kK(X:Cx)(id:String)(r:V->List V->Hp->VK->Prop):Prop :=
 ∀(pins:List (Addr × Obj)) (s:Shared) (σ:St) (H:Hp) (x:V) (xs:List V) (v:Value) (us:List Value) (Q:VK),Inv X pins σ H s->RelV x v->Vals xs us->r x xs H Q ->
  wpAny (model X.prog X.w) X.A (call (.builtin id) (v::us)) (EP X pins σ Q) X.xe s
section
variable{X:Cx}{a b:Expr}{ta tb:TE}{pos:Pos}
theorem kJ.or{r r':R2}(h:kJ X r)(h':kJ X r'):kJ X (λx y H Q=>r x y H Q\/r' x y H Q):=by
 intro value slice pins s σ H x y v u Q I rx ry q hs
 rcases q with q | q
 ·exact h value slice pins s σ H x y v u Q I rx ry q hs
 ·exact h' value slice pins s σ H x y v u Q I rx ry q hs
theorem kK.or{id:String}{r r':V->List V->Hp->VK->Prop}(h:kK X id r)(h':kK X id r'):kK X id (λx xs H Q=>r x xs H Q\/r' x xs H Q):=by
 intro pins s σ H x xs v us Q I rx rs q
 rcases q with q | q
 ·exact h pins s σ H x xs v us Q I rx rs q
 ·exact h' pins s σ H x xs v us Q I rx rs q
theorem Vd{r:R2}(hr:kJ X r)(ha:PE X a ta)(hb:PE X b tb)(hs:K6 b):PE X (.Subscript a b pos) (vH r ta tb):=by
 intro pins s σ H Q I h
 exact Subscript_ (Cf ha hb I h λv u s2 x y H2 I2 rx ry q=>hr a b pins s2 σ H2 x y v u Q I2 rx ry q (hs _ _))
noncomputable def K7(K:PySem.W.Frag):R2:=λx y H Q=>∃p xs i v,x=.ref p/\y=.int i/\bt K H p xs/\dw xs i=some v/\Q v H
noncomputable def K8(K:PySem.W.Frag):R2:=λx y H Q=>∃p xs i v,x=.ref p/\y=.int i/\eR K H p xs/\dw xs i=some v/\Q v H
noncomputable def K9:R2:=λx y H Q=>∃z i c,x=.str z/\y=.int i/\z.length<=sizeLine/\dw z.cps.toList i=some c/\Q (.str ⟨#[c]⟩) H
theorem Ve:kJ X (K7 X.K):=by
 intro value slice pins s σ H x y v u Q I rx ry h hs
 obtain⟨p,xs,i,z,rfl,rfl,hq,he,q⟩:=h
 cases rx
 obtain⟨t,rfl⟩:=ry
 obtain⟨its,r,pl,hz⟩:=I.list hq
 obtain⟨j,h1,h2,h3,h4,h5⟩:=nD he
 obtain⟨w,ew,aZ⟩:=r.get h2
 have hl:=r.length
 have hn:=qC
 have fin:EP X pins σ Q w s:=⟨z,H,I,aZ,q⟩
 by_cases h0:0<=i
 ·have hj:i.toNat=j:=by
   rw[seqIndex_of h0 h5]at h1
   exact cu h1
  exact item_listR pl.isList h0 (by omega) (by rw[hj];simpa using ew) fin hs
 ·have hj:(i+(its.toArray.size:Int)).toNat=j:=by
   rw[seqIndex_neg (by omega) h4]at h1
   rw[dv,<- hl]
   exact cu h1
  exact subscriptTail_builtinR (x:=w) pl.isList.typeIs slot_list_getitem.lookup
   (wpAny_getItem_list_neg (Q:=λr s'=>r=w/\EP X pins σ Q r s') pl.isList (by omega) (by rw[dv]<;>omega) (by omega) (by rw[hj];simpa using ew) ⟨rfl,fin⟩) hs
theorem Vf:kJ X (K8 X.K):=by
 intro value slice pins s σ H x y v u Q I rx ry h hs
 obtain⟨p,xs,i,z,rfl,rfl,hq,he,q⟩:=h
 cases rx
 obtain⟨t,rfl⟩:=ry
 obtain⟨its,r,pl,hz⟩:=I.tuple hq
 obtain⟨j,h1,h2,h3,h4,h5⟩:=nD he
 obtain⟨w,ew,aZ⟩:=r.get h2
 have hl:=r.length
 have hn:=qC
 have fin:EP X pins σ Q w s:=⟨z,H,I,aZ,q⟩
 exact subscriptTail_builtinR (x:=w) pl.typeIs slot_tuple_getitem.lookup
  (getItem_tuple (j:=j) (Q:=λr s'=>r=w/\EP X pins σ Q r s') pl (by omega) (by omega) (by rw[dv,<- hl];exact h1) (by simpa using ew) ⟨rfl,fin⟩) hs
theorem Vg:kJ X K9:=by
 intro value slice pins s σ H x y v u Q I rx ry h hs
 obtain⟨z,i,c,rfl,rfl,hz,he,q⟩:=h
 obtain⟨t,rfl⟩:=rx
 obtain⟨t',rfl⟩:=ry
 obtain⟨j,h1,h2,h3,h4,h5⟩:=nD he
 have hl:z.cps.toList.length=z.length:=by simp[Str.length]
 rw[hl]at h1 h4 h5
 have hn:=qC
 exact tail_any (typeIs_str s z t) slot_str_getitem.lookup (getItem_str (c:=c) (by
  have e1:decide (i < -(2 ^ 63:Int))=false:=decide_eq_false (by omega)
  have e2:decide (i ≥ 2 ^ 63)=false:=decide_eq_false (by omega)
  rw[e1,e2,pU]) (by rw[h1];simpa using h2) ⟨.str ⟨#[c]⟩,H,I.tok _,⟨_,rfl⟩,q⟩) hs
noncomputable def Vh(K:PySem.W.Frag):R2:=λx y H Q=>K7 K x y H Q\/K8 K x y H Q\/K9 x y H Q
theorem Vi:kJ X (Vh X.K):=Ve.or (Vf.or Vg)
theorem Vj(its:List Value)(n j:Nat)(u:Value):xR (·.setIfInBounds j u) { cls:=.type "list",data:=.seq its.toArray n }={ cls:=.type "list",data:=.seq (its.set j u).toArray n }:=by
 simp[xR]
theorem Inv.lst{pins:List (Addr × Obj)}{σ:St}{H:Hp}{s:Shared}{p:Addr}{xs:List V}(I:Inv X pins σ H s)(h:H p=some (.lst xs)) :
  ∃(its:List Value) (n:Nat),Vals xs its/\s.heap.get? p=some { cls:=.type "list",data:=.seq its.toArray n }/\xs.length<=sizeLine:=by
 obtain⟨z,its,n,r,e⟩:=I.az p _ h
 exact⟨its,n,r,e,z⟩
theorem Inv.Vk{pins:List (Addr × Obj)}{σ:St}{H:Hp}{s:Shared}{p:Addr}{xs ys:List V}{its its':List Value}{n n':Nat}{f:Obj->Obj}(I:Inv X pins σ H s)(h:H p=some (.lst xs))
  (ho:s.heap.get? p=some { cls:=.type "list",data:=.seq its.toArray n }) (hf:f { cls:=.type "list",data:=.seq its.toArray n }={ cls:=.type "list",data:=.seq its'.toArray n' }) (r:Vals ys its') (hz:ys.length<=sizeLine) (t:Nat) :
  Inv X pins σ (upd H p (.lst ys)) { s with heap:=s.heap.update p f,toks:=t }:=by
 have e:(s.heap.update p f).get? p=some { cls:=.type "list",data:=.seq its'.toArray n' }:=by
  rw[Bh f ho (by rw[hf]<;>rfl),hf]
 refine I.write (x:=p) (e:=p) (by rw[h];trivial) (.inl rfl) (λb u hb q=>(pV _ _ (dF hb)).trans q) ⟨_,e⟩ ?_
 exact⟨hz,its',n',r,e⟩
noncomputable def Vl:V->V->V->Hp->(Hp->Prop)->Prop:=λo i v H Q=>∃p xs k j,o=.ref p/\i=.int k/\H p=some (.lst xs)/\fV xs.length k=some j/\Q (upd H p (.lst (xs.set j v)))
theorem Vm:KC X Vl:=by
 intro pins s σ H o i v ov iv u Q I ro ri rv h
 obtain⟨p,xs,k,j,rfl,rfl,hp,hj,q⟩:=h
 cases ro
 obtain⟨t,rfl⟩:=ri
 obtain⟨its,n,r,ho,hz⟩:=I.lst hp
 obtain⟨h1,h2,h3,h4⟩:=K5 hj
 have hl:=r.length
 have hn:=qC
 have I':Inv X pins σ (upd H p (.lst (xs.set j v))) { s with heap:=s.heap.update p (xR (·.setIfInBounds j u)) } :=
  I.Vk hp ho (Vj its n j u) (r.set rv j) (by rw[ve];exact hz) s.toks
 by_cases h0:0<=k
 ·have hk:k.toNat=j:=by
   rw[seqIndex_of h0 h4]at h1
   exact cu h1
  exact PySem.W.ki_setAt ho h0 (by omega) (by rw[dv,<- hl];exact h4) (by rw[hk];exact⟨_,I',q⟩)
 ·have hk:(k+(its.toArray.size:Int)).toNat=j:=by
   rw[seqIndex_neg (by omega) h3]at h1
   rw[dv,<- hl]
   exact cu h1
  exact PySem.W.ki_setBack ho (by omega) (by rw[dv,<- hl];exact h3) (by omega) (by rw[hk];exact⟨_,I',q⟩)
theorem Cq(lo hi:Option Int)(n:Nat):(sliceBounds lo hi none n).1=((HT.cE n 0 lo:Nat):Int)/\(sliceBounds lo hi none n).2.1=((HT.cE n n hi:Nat):Int)/\(sliceBounds lo hi none n).2.2=1:=by
 refine⟨?_,?_,rfl⟩
 ·cases lo with
  | none=>simp[sliceBounds,HT.cE]
  | some i =>
   simp only[sliceBounds,HT.cE,nh,show(1:Int)>0 by decide,if_true]
   by_cases h:i<0
   ·simp only[h,if_true]<;>omega
   ·simp only[h,if_false]<;>omega
 ·cases hi with
  | none=>simp[sliceBounds,HT.cE]
  | some i =>
   simp only[sliceBounds,HT.cE,nh,show(1:Int)>0 by decide,if_true]
   by_cases h:i<0
   ·simp only[h,if_true]<;>omega
   ·simp only[h,if_false]<;>omega
theorem Vn(its:List Value)(lo hi:Option Int):slicePick its.toArray lo hi none=((its.drop (HT.cE its.length 0 lo)).take (HT.cE its.length its.length hi-HT.cE its.length 0 lo)).toArray:=by
 obtain⟨h1,h2,h3⟩:=Cq lo hi its.toArray.size
 unfold slicePick
 rw[h1,h2,h3]
 simp only[sliceRange_one,pick_run,dv]<;>rfl
noncomputable def Vo(K:PySem.W.Frag):V->Option Int->Option Int->Hp->VK->Prop:=λx lo hi H Q=>∃a xs,x=.ref a/\bt K H a xs/\∀p,H p=none->Q (.ref p) (upd H p (.lst (sU xs lo hi)))
theorem Vp:qG X (Vo X.K):=by
 intro pins s σ H x v vl vu lo hi sl Q I rx hs pl pu h
 obtain⟨a,xs,rfl,hx,q⟩:=h
 cases rx
 obtain⟨its,r,ht,hz⟩:=I.list hx
 have hlen:=r.length
 refine⟨"list",_,slot_list_getitem.lookup,ht.isList.typeIs,?_⟩
 refine wpAny_getItem_list_slice ht.isList hs pl pu .none (by simp) ?_ (by rw[dv]<;>omega)
 rw[Vn,<- hlen]
 refine⟨.ref s.heap.objs.size,_,I.laid (t':=s.toks) (o:=.lst (sU xs lo hi)) (λb ob q=>dP _ q) (bD _) ?_,rfl,q _ (I.az.fresh (bD _))⟩
 exact⟨dW (Vc xs lo hi) hz,_,0,(r.drop (HT.cE xs.length 0 lo)).take (HT.cE xs.length xs.length hi-HT.cE xs.length 0 lo),fR _ rfl⟩
noncomputable def kL:V->Bool
 | .ak=>true
 | .bl _=>true
 | .int _=>true
 | .str _=>true
 | _=>false
noncomputable def jO:V->V->Bool
 | .ak,.ak=>true
 | .bl a,.bl b=>a==b
 | .bl a,.int b=>(if a then 1 else 0)==b
 | .int a,.bl b=>a==(if b then 1 else 0)
 | .int a,.int b=>a==b
 | .str a,.str b=>a==b
 | _,_=>false
theorem Vq{A:Around}{s:Shared}{y x:V}{u v:Value}(ry:RelV y u)(rx:RelV x v)(fy:kL y=true)(fx:kL x=true):Bi A s u v (jO y x):=by
 cases y with
 | ak =>
  cases ry
  cases x with
  | ak=>cases rx;exact SeqAt.EqAt.same _
  | bl b=>cases rx;exact SeqAt.EqAt.none_bool b
  | int b=>obtain⟨t,rfl⟩:=rx;exact SeqAt.EqAt.none_int b t
  | str b=>obtain⟨t,rfl⟩:=rx;exact SeqAt.EqAt.none_str b t
  | _=>exact absurd (show false=true from fx) jA
 | bl a =>
  cases ry
  cases x with
  | ak=>cases rx;exact SeqAt.EqAt.bool_none a
  | bl b=>cases rx;exact SeqAt.EqAt.bool_bool a b
  | int b=>obtain⟨t,rfl⟩:=rx;exact SeqAt.EqAt.bool_int a b t
  | str b=>obtain⟨t,rfl⟩:=rx;exact SeqAt.EqAt.bool_str a b t
  | _=>exact absurd (show false=true from fx) jA
 | int a =>
  obtain⟨t',rfl⟩:=ry
  cases x with
  | ak=>cases rx;exact SeqAt.EqAt.int_none a t'
  | bl b=>cases rx;exact SeqAt.EqAt.int_bool a t' b
  | int b=>obtain⟨t,rfl⟩:=rx;exact SeqAt.EqAt.int_int a t' b t
  | str b=>obtain⟨t,rfl⟩:=rx;exact SeqAt.EqAt.int_str a t' b t
  | _=>exact absurd (show false=true from fx) jA
 | str a =>
  obtain⟨t',rfl⟩:=ry
  cases x with
  | ak=>cases rx;exact SeqAt.EqAt.str_none a t'
  | bl b=>cases rx;exact SeqAt.EqAt.str_bool a t' b
  | int b=>obtain⟨t,rfl⟩:=rx;exact SeqAt.EqAt.str_int a t' b t
  | str b=>obtain⟨t,rfl⟩:=rx;exact SeqAt.EqAt.str_str a t' b t
  | _=>exact absurd (show false=true from fx) jA
 | _=>exact absurd (show false=true from fy) jA
noncomputable def kM(x:V)(u:Value):Bool:=match u with
 | .none=>jO .ak x
 | .bool b=>jO (.bl b) x
 | .int i _=>jO (.int i) x
 | .str z _=>jO (.str z) x
 | _=>false
theorem La{x y:V}{u:Value}(r:RelV y u)(f:kL y=true):kM x u=jO y x:=by
 cases y with
 | ak=>cases r;rfl
 | bl b=>cases r;rfl
 | int i=>obtain⟨t,rfl⟩:=r;rfl
 | str z=>obtain⟨t,rfl⟩:=r;rfl
 | _=>exact absurd (show false=true from f) jA
theorem Cr{x:V}:∀{xs:List V} {us:List Value},Vals xs us->xs.all kL=true->us.any (kM x)=xs.any λy=>jO y x
 | _,_,.nil,_=>rfl
 | y::xs,u::us,.cons r t,f=>by
  rw[dh,dm]at f
  rw[xS,xS,La r f.1,Cr t f.2]
theorem Cs{A:Around}{s:Shared}{x:V}{v:Value}(rx:RelV x v)(fx:kL x=true):∀{xs:List V} {us:List Value},Vals xs us->xs.all kL=true->∀u∈us,Bi A s u v (kM x u)
 | _,_,.nil,_=>λu hu=>by cases hu
 | y::xs,u::us,.cons r t,f=>λu' hu=>by
  rw[dh,dm]at f
  rcases cg.mp hu with rfl | hu
  ·rw[La r f.1];exact Vq r rx f.1 fx
  ·exact Cs rx fx t f.2 u' hu
noncomputable def vN(x:V)(xs:List V):Bool:=xs.any λy=>jO y x
noncomputable def Vr(K:PySem.W.Frag)(neg:Bool):R2:=λx y H Q=>∃p xs,y=.ref p/\(bt K H p xs\/eR K H p xs)/\kL x=true/\xs.all kL=true/\Q (.bl (if neg then !vN x xs else vN x xs)) H
theorem Vs:bY X (compareOp .In) (Vr X.K false):=by
 intro pins s σ H x y v u Q I rx ry h
 obtain⟨p,xs,rfl,hq,fx,fs,q⟩:=h
 cases ry
 rcases hq with hq | hq
 ·obtain⟨its,r,pl,hz⟩:=I.list hq
  refine SeqAt.in_listAt (kM x) pl.isList (λw hw=>Cs rx fx r fs w (by simpa using hw)) ⟨.bl _,H,I,rfl,?_⟩
  rw[show its.toArray.any (kM x)=its.any (kM x) by simp,Cr r fs]
  exact q
 ·obtain⟨its,r,pl,hz⟩:=I.tuple hq
  refine SeqAt.in_tupleAt (kM x) pl (λw hw=>Cs rx fx r fs w (by simpa using hw)) ⟨.bl _,H,I,rfl,?_⟩
  rw[show its.toArray.any (kM x)=its.any (kM x) by simp,Cr r fs]
  exact q
theorem Vt:gy X (.builtin "len") (λxs H Q=>∃p ys,xs=[.ref p]/\(bt X.K H p ys\/eR X.K H p ys)/\Q (.int ys.length) H):=by
 intro pins s σ H xs us Q I r h
 obtain⟨p,ys,rfl,hq,q⟩:=h
 obtain⟨u,rfl,rx⟩:=vK r
 cases rx
 have hn:=qC
 rcases hq with hq | hq
 ·obtain⟨its,r',pl,hz⟩:=I.list hq
  have hlen:=r'.length
  exact Calls.call_len_list pl.isList (by simp only[dv]<;>omega) ⟨.int ys.length,H,I.tok _,⟨s.toks+1,by rw[dv,hlen]⟩,q⟩
 ·obtain⟨its,r',pl,hz⟩:=I.tuple hq
  have hlen:=r'.length
  exact len_tuple pl (by simp only[dv]<;>omega) ⟨.int ys.length,H,I.tok _,⟨s.toks+1,by rw[dv,hlen]⟩,q⟩
theorem Vu:gy X (.builtin "len") (λxs H Q=>∃z,xs=[.str z]/\z.length<=sizeLine/\Q (.int z.length) H):=by
 intro pins s σ H xs us Q I r h
 obtain⟨z,rfl,hz,q⟩:=h
 obtain⟨u,rfl,t,rfl⟩:=vK r
 have hn:=qC
 exact len_str (by omega) ⟨.int z.length,H,I.tok _,⟨_,rfl⟩,q⟩
theorem gy.or{f:Value}{r r':List V->Hp->VK->Prop}(h:gy X f r)(h':gy X f r'):gy X f (λxs H Q=>r xs H Q\/r' xs H Q):=by
 intro pins s σ H xs us Q I rs q
 rcases q with q | q
 ·exact h pins s σ H xs us Q I rs q
 ·exact h' pins s σ H xs us Q I rs q
theorem Vv:gy X (.type "list") (λxs H Q=>∃p ys,xs=[.ref p]/\(bt X.K H p ys\/eR X.K H p ys)/\∀l,H l=none->Q (.ref l) (upd H l (.lst ys))):=by
 intro pins s σ H xs us Q I r h
 obtain⟨p,ys,rfl,hq,q⟩:=h
 obtain⟨u,rfl,rx⟩:=vK r
 cases rx
 have fin:∀(its:List Value),Vals ys its->ys.length<=sizeLine->∀(h':Heap) (c':Nat),(∀b o',s.heap.get? b=some o'->h'.get? b=some o') ->
   h'.get? s.heap.objs.size=some { cls:=.type "list",dict:=none,data:=.seq its.toArray c',slots:=#[] }->EP X pins σ Q (.ref s.heap.objs.size) { s with heap:=h' }:=λits r' hz h' c' kp e =>
  ⟨.ref s.heap.objs.size,_,I.laid (t':=s.toks) kp (bD _) (show cy X.prog X.w _ h' _ (.lst ys) from⟨hz,its,c',r',e⟩),rfl,q _ (I.az.fresh (bD _))⟩
 rcases hq with hq | hq
 ·obtain⟨its,r',pl,hz⟩:=I.list hq
  have hlen:=r'.length
  obtain⟨o,ho,hc,n,hd⟩:=pl.isList
  exact call_list_seq p (.inl rfl) ho hc hd (λh' c' kp e=>fin its r' hz h' c' kp e) (by simp only[dv]<;>omega)
 ·obtain⟨its,r',pl,hz⟩:=I.tuple hq
  have hlen:=r'.length
  obtain⟨o,ho,hc,n,hd⟩:=pl
  exact call_list_seq p (.inr rfl) ho hc hd (λh' c' kp e=>fin its r' hz h' c' kp e) (by simp only[dv]<;>omega)
noncomputable def Ct(K:PySem.W.Frag)(T:String)(x:V)(H:Hp):Prop:=match x with
 | .str _=>T="str"
 | .int _=>T="int"
 | .ref p=>(T="list"/\∃xs,bt K H p xs)\/(T="tuple"/\∃o,K.lookup p=some o/\o.cls=.type "tuple"/\o.dict=none) \/
   (T="dict"/\((∃ao,H p=some (.dK ao))\/∃ao,H p=some (.dT ao)))\/(T="set"/\∃S n,H p=some (.set S n))
 | _=>False
theorem Lb{pins:List (Addr × Obj)}{σ:St}{H:Hp}{s:Shared}{T:String}{x:V}{v:Value}(I:Inv X pins σ H s)(r:RelV x v)(ty:Ct X.K T x H) :
  s.TypeIs v T/\∀a,v=.ref a->∃ob,s.heap.get? a=some ob/\ob.dict=none:=by
 cases x with
 | str z =>
  obtain⟨t,rfl⟩:=r
  cases(show T="str" from ty)
  exact⟨typeIs_str s z t,λ_ e=>nomatch e⟩
 | int i =>
  obtain⟨t,rfl⟩:=r
  cases(show T="int" from ty)
  exact⟨typeIs_int s i t,λ_ e=>nomatch e⟩
 | ref p =>
  cases r
  rcases ty with⟨rfl,xs,hq⟩ | ⟨rfl,o,hk,hc,hd⟩ | ⟨rfl,hk⟩ | ⟨rfl,S,n,hk⟩
  ·obtain⟨its,_,pl,_⟩:=I.list hq
   refine⟨pl.isList.typeIs,λa e=>?_⟩
   cases e
   obtain⟨o,n,e,c,hd,_⟩:=pl
   exact⟨o,e,hd⟩
  ·refine⟨⟨o,I.cJ p o hk,hc⟩,λa e=>?_⟩
   cases e
   exact⟨o,I.cJ _ o hk,hd⟩
  ·have z:∃o,s.heap.get? p=some o/\o.ExactDict:=by
    rcases hk with⟨ao,hk⟩ | ⟨ao,hk⟩
    ·obtain⟨_,_,_,_,o,_,_,e,ex,_⟩:=I.az p _ hk
     exact⟨o,e,ex⟩
    ·obtain⟨_,_,_,_,o,_,_,e,ex,_⟩:=I.az p _ hk
     exact⟨o,e,ex⟩
   obtain⟨o,e,ex⟩:=z
   refine⟨⟨o,e,ex.1⟩,λa e2=>?_⟩
   cases e2
   exact⟨o,e,ex.2.1⟩
  ·obtain⟨o,_,_,_,e,ex,_⟩:=I.az p _ hk
   refine⟨⟨o,e,ex.1⟩,λa e2=>?_⟩
   cases e2
   exact⟨o,e,ex.2.1⟩
 | _=>exact dX ty
noncomputable def Lc(K:PySem.W.Frag)(T:String)(r:V->List V->Hp->VK->Prop)(to:TE):TE:=λσ H Q=>to σ H λx H1=>Ct K T x H1/\r x [] H1 Q
noncomputable def Vw(K:PySem.W.Frag)(T:String)(r:V->List V->Hp->VK->Prop)(to:TE)(t:TA):TE:=λσ H Q=>to σ H λx H1=>Ct K T x H1/\t σ H1 λxs H2=>r x xs H2 Q
variable{o e:Expr}{es:List Expr}{to:TE}{t:TA}{name:Str}{apos bI:Pos}{T id:String}{r:V->List V->Hp->VK->Prop}
theorem Vx(pa:PlainAttrs T)(slot:Slot T name id)(Cu:typeOf (.builtin id)=pure (.type "method_descriptor"))(hm:kK X id r)(ho:PE X o to)
  (i7:attributeBase o name X.env (eval o X.env)=eval o X.env:=by rfl) (i8:(apos.endLine==bI.line)=true:=by rfl):PE X (.Call (.Attribute o name apos) [] [] bI) (Lc X.K T r to):=by
 intro pins s σ H Q I h
 refine wpAny_Call_method0_late i7 i8 (aE (ho pins s σ H _ I h) λv s1 ⟨x,H1,I1,r1,ty,q1⟩=>?_)
 obtain⟨h1,h2⟩:=Lb I1 r1 ty
 exact⟨T,id,pa,slot,Cu,h1,h2,Calls.callWith_builtin rfl (PySem.evalArgs_none (hm pins s1 σ H1 x [] v [] Q I1 r1 .nil q1))⟩
theorem Ld(pa:PlainAttrs T)(slot:Slot T name id)(Cu:typeOf (.builtin id)=pure (.type "method_descriptor"))(hm:kK X id r)(ho:PE X o to)(ha:PA X (e::es) t)
  (i7:attributeBase o name X.env (eval o X.env)=eval o X.env:=by rfl)
  (vO:((backTo bI (starEach (e::es) X.env)).all (λx=>!x.1)&&(backToKw bI (keywordEach [] X.env)).all (λx=>x.1.isSome)
   && decide ((e::es).length+([]:List Keyword).length+(if([]:List Keyword).isEmpty then 0 else 1)<30))=true:=by rfl)
  (i8:(apos.endLine==bI.line)=true:=by rfl) (hs:starEach (e::es) X.env=(false,eval e X.env)::starEach es X.env:=by rfl) (vP:(backTo bI (starEach es X.env)).any (·.1)=false:=by rfl) :
  PE X (.Call (.Attribute o name apos) (e::es) [] bI) (Vw X.K T r to t):=by
 intro pins s σ H Q I h
 refine wpAny_Call_method_late i7 vO i8 rfl (aE (ho pins s σ H _ I h) λv s1 ⟨x,H1,I1,r1,ty,q1⟩=>?_)
 obtain⟨h1,h2⟩:=Lb I1 r1 ty
 refine⟨T,id,pa,slot,Cu,h1,h2,?_⟩
 have hA:=ha bI pins s1 σ H1 _ I1 q1
 rw[hs]at hA ⊢
 refine Calls.callWith_builtin (by show(false||(backTo bI (starEach es X.env)).any (·.1))=false;rw[vP]<;>rfl) (Calls.evalArgs_plain ?_)
 exact aE hA λus s2 ⟨vs,H2,I2,r2,q2⟩=>hm pins s2 σ H2 x vs v us Q I2 r1 r2 q2
/- xs.append(e),list.index on a du3 tuple .. are kK facts of 06m -/
end
end L2
namespace L2
open PySem PySem.Spec PyProof.Rows
noncomputable def Vy(X:Cx)(id:String)(r:V->List V->Hp->VK->Prop):Prop :=
 ∀(pins:List (Addr × Obj)) (s:Shared) (σ:St) (H:Hp) (x:V) (xs:List V) (v:Value) (us:List Value) (Q:VK),Inv X pins σ H s->RelV x v->Vals xs us->r x xs H Q ->
  wpAny (model X.prog X.w) X.A (call (.builtin id) (v::us)) (EP X pins σ Q) X.xe s
theorem Vals.one:∀{x:V} {us:List Value},Vals [x] us->∃u,us=[u]/\RelV x u
 | _,_,.cons r .nil=>⟨_,rfl,r⟩
theorem Vals.two:∀{x y:V} {us:List Value},Vals [x,y] us->∃u v,us=[u,v]/\RelV x u/\RelV y v
 | _,_,_,.cons r (.cons q .nil)=>⟨_,_,rfl,r,q⟩
theorem Vals.zero:∀{us:List Value},Vals [] us->us=[]
 | _,.nil=>rfl
theorem Vals.eraseIdx:∀{xs:List V} {us:List Value} (i:Nat),Vals xs us->Vals (xs.eraseIdx i) (us.eraseIdx i)
 | _,_,_,.nil=>.nil
 | _,_,0,.cons _ t=>t
 | _,_,i+1,.cons r t=>.cons r (Vals.eraseIdx i t)
theorem Vals.reverse{xs:List V}{us:List Value}(h:Vals xs us):Vals xs.reverse us.reverse:=by
 induction h with
 | nil=>exact .nil
 | cons r t ih=>rw[List.reverse_cons,List.reverse_cons];exact Vals.append ih (.cons r .nil)
theorem Vals.rep{xs:List V}{us:List Value}(h:Vals xs us):∀k:Nat,Vals (aT k xs).flatten (aT k us).flatten
 | 0=>.nil
 | k+1=>by
  rw[kz,kz,pW,pW]
  exact Vals.append h (Vals.rep h k)
theorem Le(its:List Value):∀(k:Nat) (acc:List Value),
  List.foldl (λx1 x2=>x1++x2) acc.toArray (aT k its.toArray)=(acc++(aT k its).flatten).toArray
 | 0,acc=>by simp
 | k+1,acc=>by
  have e:acc.toArray++its.toArray=(acc++its).toArray:=by simp
  have e2:(acc++its)++(aT k its).flatten=acc++(aT (k+1) its).flatten:=by
   rw[kz,pW,dY]
  rw[<-e2,<- Le its k (acc++its),<- e,kz,sA]
section
variable{X:Cx}{pins:List (Addr × Obj)}{σ:St}{H:Hp}{s:Shared}{l b:Addr}{xs ys zs:List V}
theorem Inv.Vz{its its':List Value}{n:Nat}{f:Array Value->Array Value}{t':Nat}(I:Inv X pins σ H s)(hH:H l=some (.lst xs))
  (e:s.heap.get? l=some { cls:=.type "list",data:=.seq its.toArray n }) (hf:f its.toArray=its'.toArray) (hv:Vals ys its') (hz:ys.length<=sizeLine) :
  Inv X pins σ (upd H l (.lst ys)) { s with heap:=s.heap.update l (xR f),toks:=t' }:=by
 have q:=PySem.IsL.update e f
 rw[hf]at q
 refine I.write (x:=l) (e:=l) (by rw[hH];exact trivial) (.inl rfl) (λb' u hb hu=>(pV s.heap (xR f) (dF hb)).trans hu) ⟨_,q⟩ ?_
 exact⟨hz,its',_,hv,q⟩
theorem Inv.Lf{its:List Value}{t':Nat}(I:Inv X pins σ H s)(hv:Vals ys its)(hz:ys.length<=sizeLine) :
  Inv X pins σ (upd H s.heap.objs.size (.lst ys)) { s with heap:=s.heap.push { cls:=.type "list",data:=.seq its.toArray },toks:=t' } :=
 I.laid (λ_ _ q=>dP _ q) (bD _) ⟨hz,its,0,hv,fR _ rfl⟩
theorem Inv.fresh(I:Inv X pins σ H s):H s.heap.objs.size=none:=I.az.fresh (bD _)
theorem Inv.yx(I:Inv X pins σ H s)(hH:H l=some (.lst xs)):xs.length<=sizeLine/\∃(its:List Value) (n:Nat),Vals xs its/\xs.length=its.length/\s.heap.get? l=some { cls:=.type "list",data:=.seq its.toArray n }:=by
 obtain⟨z,its,n,r,e⟩:=I.az l _ hH
 exact⟨z,its,n,r,r.length,e⟩
theorem VA{n:Nat}(h:n<=sizeLine):J5 n=false:=by
 unfold J5
 exact decide_eq_false (by omega)
end
section
variable{X:Cx}
noncomputable def VB:V->List V->Hp->VK->Prop:=λx vs H Q=>∃l xs y,x=.ref l/\vs=[y]/\H l=some (.lst xs)/\xs.length<sizeLine/\Q .ak (upd H l (.lst (xs++[y])))
theorem Lg:Vy X "list.append" VB:=by
 intro pins s σ H x vs v us Q I rx rv h
 obtain⟨l,xs,y,rfl,rfl,hH,hz,q⟩:=h
 cases rx
 obtain⟨u,rfl,ru⟩:=rv.one
 obtain⟨z,its,n,r,hl,e⟩:=I.yx hH
 refine call_meets F.slot_list_append ⟨_,e,rfl⟩ F.entry_list_append (F.args_list_append_2 _ _) (PySem.list_append l its.toArray n u (by rw[dv];omega)) ⟨e,?_⟩
 refine⟨.ak,_,I.Vz (its':=its++[u]) hH e (by simp) (r.append (.cons ru .nil)) ?_,rfl,q⟩
 rw[iQ,List.length_singleton]
 omega
noncomputable def VC:R2:=λx y H Q=>∃l b xs zs,x=.ref l/\y=.ref b/\H l=some (.lst xs)/\H b=some (.lst zs)/\xs.length+zs.length<=sizeLine/\∀p,H p=none->Q (.ref p) (upd H p (.lst (xs++zs)))
theorem Lh:bY X (binaryOp .Add) VC:=by
 intro pins s σ H x y v u Q I rx ry h
 obtain⟨l,b,xs,zs,rfl,rfl,hH,hB,hz,q⟩:=h
 cases rx
 cases ry
 obtain⟨z,its,n,r,hl,e⟩:=I.yx hH
 obtain⟨z2,Li,n2,r2,yy,e2⟩:=I.yx hB
 refine PySem.P.add_list e e2 ?_ (by rw[dv,dv];omega)
 have ea:its.toArray++Li.toArray=(its++Li).toArray:=by simp
 rw[ea]
 exact⟨.ref _,_,I.Lf (t':=s.toks) (r.append r2) (by rw[iQ];omega),rfl,q _ I.fresh⟩
noncomputable def VD:R2:=λx y H Q=>∃l k xs,x=.ref l/\y=.int k/\H l=some (.lst xs)/\-(2 ^ 63)<=k/\k<2 ^ 63/\xs.length*k.toNat<=sizeLine /\
 ∀p,H p=none->Q (.ref p) (upd H p (.lst (aT k.toNat xs).flatten))
theorem VE{α:Type}(xs:List α)(k:Nat):(aT k xs).flatten.length=k*xs.length:=by
 induction k with
 | zero=>simp
 | succ k ih=>rw[kz,pW,iQ,ih,Nat.succ_mul,Nat.add_comm]
theorem VF:bY X (binaryOp .Mult) VD:=by
 intro pins s σ H x y v u Q I rx ry h
 obtain⟨l,k,xs,rfl,rfl,hH,h1,h2,hz,q⟩:=h
 cases rx
 obtain⟨t,rfl⟩:=ry
 obtain⟨z,its,n,r,hl,e⟩:=I.yx hH
 have hlen:its.toArray.size*k.toNat<=sizeLine:=by rw[dv,<- hl];exact hz
 have VG:¬ its.toArray.size*k.toNat>(2 ^ 63-1)/8:=by
  have:(sizeLine:Nat)<=(2 ^ 63-1)/8:=by decide
  omega
 have VH:¬ (!Builtin.List.listFitsIndex k)=true:=by
  rw[fitsIndex_both h1 h2]
  exact jA
 have VI:¬ J5 (its.toArray.size*k.toNat)=true:=by
  rw[VA hlen]
  exact jA
 have VJ:List.foldl (λx1 x2=>x1++x2) #[] (aT (if its.toArray.isEmpty=true then 0 else k.toNat) its.toArray)=(aT k.toNat its).flatten.toArray:=by
  have f0:∀m:Nat,List.foldl (λx1 x2=>x1++x2) #[] (aT m its.toArray)=(aT m its).flatten.toArray:=λm=>by
   have:=Le its m []
   rw[ni]at this
   exact this
  rw[f0]
  cases its with
  | nil=>simp
  | cons a r'=>rw[if_neg (by simp)]
 refine wpAny_binaryOp_repeat_ref (T:="list") (U:="int") (by decide) ⟨_,e,rfl⟩ (λs'=>typeIs_int s' k t) noFill_list_mul F.fills_int_mul F.slot_int_rmul repeat_list F.slot_int_index.lookup
  (call_meets F.slot_int_rmul (typeIs_int s k t) F.entry_int_rmul (F.args_int_rmul_2 _ _) (int___rmul___int_list k t l its.toArray n)
   ⟨e,rfl,⟨_,e,rfl⟩,call_meets F.slot_list_mul ⟨_,e,rfl⟩ F.entry_list_mul (F.args_list_mul_2 _ _) (AutoListH.list___mul___list_int_3 l its.toArray n k t VH VG VI) ⟨e,?_⟩⟩)
 rw[VJ]
 exact⟨.ref _,_,I.Lf (t':=s.toks) (r.rep k.toNat) (by rw[VE,kA];exact hz),rfl,q _ I.fresh⟩
end
section
variable{prog:Program}{w:World}{A:Around}{E:Value->Shared->Prop}{s:Shared}
end
section
variable{X:Cx}
end
end L2
namespace Att
open PySem PySem.W PySem.Calls PyProof.Rows
theorem VL{P:Params}{h:Heap}:∀(ns:List Int) (vs:List Value),WellAll P h vs (ns.map WData.int)->IntsAre vs ns:=by
 intro ns
 induction ns with
 | nil =>
  intro vs w
  rw[iS]at w
  cases w
  exact .nil
 | cons n ns ih =>
  intro vs w
  rw[cH]at w
  cases w with
  | cons a b =>
   cases a
   exact .cons _ _ (ih _ b)
theorem VM{l:OpenLaw}{n:Nat}(hn:l.most=some n){P:Params}{h:Heap}{args:List WData}{vals:List Value}
  (yz:l.row.toRowW.claim.pre args=true) (Cv:WellAll P h vals args) :
  ∃a vs ns,vals=[du a]/\args=[WData.list (ns.map WData.int)]/\h.get? a=some { cls:=.type "list",data:=.seq vs.toArray }/\IntsAre vs ns/\ns.length<=n:=by
 have jP:WShape.hasAll [] args [.list .int]=true:=(pre_splitW yz).1
 have hc:l.pre.holds [] { args:=args }=true:=(pre_splitW yz).2
 obtain⟨d,r,rfl,h1,h2⟩:=hasAllW_cons jP
 obtain rfl:=hasAllW_nil h2
 obtain⟨xs,rfl,h3⟩:=hasW_list h1
 obtain⟨ns,rfl⟩:=items_int h3
 have hlen:ns.length<=n:=by
  unfold OpenLaw.pre at hc
  have h4:(WTm.not (.lt (.lit (.int (n:Int))) (.len (.arg 0)))).holds [] { args:=[.list (ns.map .int)] }=true:=by
   have h4:=(holds_andW hc).1
   rw[hn]at h4
   exact h4
  have h5:=condW_of h4 (w_not (w_lt w_lit (w_len_list (w_arg rfl))))
  rw[bV]at h5
  refine Bj λq=>?_
  have q':(n:Int)<((ns.length:Nat):Int):=by omega
  first
   | (rw[decide_eq_true q']at h5;exact absurd h5 (by decide))
   | (simp at h5;omega)
 cases Cv with
 | cons w1 w2 =>
  cases w2
  cases w1 with
  | list ho VN=>exact⟨_,_,ns,rfl,rfl,ho,VL ns _ VN,hlen⟩
theorem VO(l:OpenLaw)(args:List WData):l.row.toRowW.claim.post args (.bool true) args=true :=
 postW_of (r:=l.row.toRowW) (X:=(true==true))
  (show WShape.has [] (.bool true) .bool=true by first | rfl | decide | simp[WShape.has,WShape.arms,WShape.armsAll])
  (show(WTm.eq .res (.lit (.bool true))).value [] { args:=args,res:=some (.bool true),after:=args }=some (.bool (true==true)) from w_eq_bool (w_res rfl) w_lit) rfl
theorem VP{l:OpenLaw}{n:Nat}{q:Program}{loose:List Str}{XP:(Str->Option Value)->Heap->Prop}{YP:World->Heap->Prop}{d:DefRec}
  (hn:l.most=some n) (vQ:d.params.defaults=[])
  (call:∀(w:World) (bP bj:Shared) (mg mb:Str->Option Value) (fa:Addr) (o:Obj) (pm cd doc:Value) (a:Addr) (vs:List Value) (ns:List Int),
   Ground q loose [] XP w bP mg mb bj.heap->YP w bj.heap ->
   bj.heap.get? fa=some o->o.data=.func (docDef d.name d.params d.body d.scope pm cd doc)->bj.heap.CodeRec cd d.name->mg d.name=some (.ref fa) ->
   bj.heap.get? a=some { cls:=.type "list",data:=.seq vs.toArray }->IntsAre vs ns->ns.length<=n->bj.gens=#[] ->
   codeAny (model l.prog w) callerA (.call (.ref fa) ⟨[.ref a],[]⟩) (λr s'=>r=.ok (.ret (.bool true))/\OldK bj.heap s'.heap/\s'.os=bj.os/\AllBare s'.gens) bj) :
  WalkO q loose XP YP l.row.toRowW d [] (λf vs=>PySem.call f vs):=by
 intro w bP bj mg mb G Y fa o pm cd doc dV kV ho hd cn hD vR hg args vals as yz du4 hrd Cv iF
 obtain rfl:dV=.none:=Dflts.none hD vQ
 obtain rfl:kV=.none:=Dflts.noKw hD
 obtain⟨a,vs,ns,rfl,rfl,Cw,hints,hlen⟩:=VM hn yz Cv
 refine enter_call (codeAny_mono (call w bP bj mg mb fa o pm cd doc a vs ns G Y ho (fd_plain hd) cn vR Cw hints hlen hg) λr s' hq=>?_)
 obtain⟨rfl,h2,h3,h4⟩:=hq
 exact⟨.inl ⟨.bool true,.bool true,[],rfl,λ_=>rfl,.bool true,VO l _,λ_=>⟨List.Pairwise.nil,λ_ hm=>(nomatch hm)⟩⟩,h2,h3,h4⟩
section
variable{prog:Program}{w:World}{A:Around}{E:Value->Shared->Prop}{s:Shared}{K:Frag}
noncomputable def cr2(h:Heap)(L d:Addr):List (Addr × Obj):=(aP h.objs.size).filterMap λa=>if a=L\/a=d then none else(h.get? a).map λo=>(a,o)
end
end Att
namespace L2
open PySem PySem.Spec PyProof.Rows
theorem Lj:∀{vs:List Value} {ns:List Int},IntsAre vs ns->Vals (ns.map V.int) vs
 | _,_,.nil=>.nil
 | _,_,.cons n t h=>.cons ⟨t,rfl⟩ (Lj h)
end L2
namespace L2
open PySem PySem.Spec PyProof.Rows
end L2
/- THE du8 du9 (shape;LID,My.* are dv1):
   My.kN: a structure of Lk addresses dv2 dv3 dv4 names (classes,dv5);My.Txt K t: a structure (Prop) of Lk equations over K;
   My.dv6:{K} {implicit addresses ..} (e1:nsIn K mainGlobals "law"=some (some (.ref f))) (e2:K.lookup f=some ⟨oc,od,.func (fnOf "law" "law" params body scope dV kV doc pm an aG ct),sl⟩) (e3:codeIn K aG "law"=true) ..:∃t,My.Txt K t
(Lk tactic k_is has no namespace: write k_is) -/
namespace L2
open PySem PySem.Spec PyProof.Rows
noncomputable def kO(s:Stmt)(j:Nat):Stmt:=match s with
 | .ClassDef _ _ _ body _ _ _ _ _ _ _=>body.getD j (.Pass ⟨0,0,0,0⟩)
 | _=>.Pass ⟨0,0,0,0⟩
noncomputable def bF(s:Stmt):Arguments:=match s with
 | .FunctionDef _ a _ _ _ _ _ _ _ _=>a
 | _=>{ posonlyargs:=[],args:=[],vararg:=none,kwonlyargs:=[],kw_defaults:=[],kwarg:=none,defaults:=[] }
noncomputable def bq(s:Stmt):List Stmt:=match s with
 | .FunctionDef _ _ b _ _ _ _ _ _ _=>b
 | _=>[]
noncomputable def aA(s:Stmt):Scope:=match s with
 | .FunctionDef _ _ _ _ _ _ sc _ _ _=>sc
 | _=>{ kind:=.function,names:=[],isGenerator:=false,isCoroutine:=false }
noncomputable abbrev bc:dG:=λ_ _ _ _ _ _=>False
noncomputable abbrev E0:XK:=λ_ _ _=>False
theorem aX{X:Cx}:jM bc X E0:=λ_ _ _ _ _ _ _ h=>h.elim
structure bB(K:PySem.W.Frag)(x qual:Str)(st:Stmt)(f:Addr)(fd:FuncData):Prop where
 ex:∃(oc:Value) (od:Option Addr) (kV doc pm:Value) (an:Option Addr) (aG ct:Value) (jN:Array (Option Value)),
  fd=PySem.W.fnOf x qual (bF st) (bq st) (aA st) .none kV doc pm an aG ct/\K.lookup f=some ⟨oc,od,.func fd,jN⟩/\PySem.W.codeIn K aG qual=true
 kp:PySem.W.keepIn K (.ref f)=true
section
variable{P:Program}{w:World}{K:PySem.W.Frag}{mg:Str->Option Value}{base:Heap}
theorem bB.ok{x qual:Str}{st:Stmt}{f:Addr}{fd:FuncData}{N ps:List Str}{k:Nat}{sp:Sp}(F:bB K x qual st f fd)(S:bE N ps (aA st))(len:∀vs H Q E,sp vs H Q E->vs.length=ps.length)
  (fU:∀(aG:Value) (A:Around) (outer:List Env) (s:Shared) (H:Hp) (vs:List V) (Q:VK) (E:XK),bN k (A.deeper (envOfC qual (aA st) s.heap.objs.size f aG))->sp vs H Q E ->
   ∃t,PSs (gA bc P w K mg base N qual (aA st) f aG A outer s H E).eS (bq st) t/\t { nx:=λ_ H'=>Q .ak H',rt:=Q } (start N vs) H):aS P w K mg base bc (k+1) f fd ps sp:=by
 obtain⟨oc,od,kV,doc,pm,an,aG,ct,jN,rfl,lk,cn⟩:=F.ex
 refine Cm lk cn S len λA outer s H vs Q E hr gB=>?_
 obtain⟨t,h,q⟩:=fU aG A outer s H vs Q E hr gB
 exact⟨t,h.eS,q⟩
theorem bB.binds{x qual:Str}{st:Stmt}{f:Addr}{fd:FuncData}{ps:List Str}(F:bB K x qual st f fd)
  (h:∀(kV doc pm:Value) (an:Option Addr) (aG ct:Value) (us:List Value),us.length=ps.length->bindArgs (PySem.W.fnOf x qual (bF st) (bq st) (aA st) .none kV doc pm an aG ct) ⟨us,[]⟩=pure (ps.zip us)):Binds K fd ps []:=by
 obtain⟨oc,od,kV,doc,pm,an,aG,ct,jN,rfl,lk,cn⟩:=F.ex
 exact .all (h kV doc pm an aG ct)
theorem bU{x qual:Str}{st:Stmt}{f:Addr}{oc:Value}{od an:Option Addr}{jN:Array (Option Value)}{kV doc pm aG ct:Value}(l:K.lookup f=some ⟨oc,od,.func (PySem.W.fnOf x qual (bF st) (bq st) (aA st) .none kV doc pm an aG ct),jN⟩)
  (c:PySem.W.codeIn K aG qual=true) (k:PySem.W.keepIn K (.ref f)=true):bB K x qual st f (PySem.W.fnOf x qual (bF st) (bq st) (aA st) .none kV doc pm an aG ct):=⟨⟨oc,od,kV,doc,pm,an,aG,ct,jN,rfl,l,c⟩,k⟩
end
section
variable{X:Cx}
theorem pv(i:Nat){x:Str}{pos:Pos}(hN:X.N[i]?=some x:=by rfl)(hv:jJ X.env.scope x:=by first | exact ay rfl | exact bg (ay rfl) | exact bg (bg rfl))(hd:(x==("__debug__":Str))=false:=by decide)
  (cn:(x==("__classdict__":Str))=false:=by decide):PE X (.Name x pos) (Kx i):=qt hN hv hd cn
end
theorem i9{A B:Prop}(h:B):if false=true then A else B:=by
 rw[if_neg jA]
 exact h
theorem kP{A B:Prop}(h:A):if true=true then A else B:=by
 rw[if_pos rfl]
 exact h
noncomputable def aa(H H':Hp):Prop:=∀b o,H b=some o->H' b=some o
theorem aa.refl(H:Hp):aa H H:=λ_ _ h=>h
theorem aa.trans{H H1 H2:Hp}(a:aa H H1)(b:aa H1 H2):aa H H2:=λc o h=>b c o (a c o h)
theorem aa.free{H H':Hp}(e:aa H H'){l:Addr}(h:H' l=Bk):H l=Bk:=by
 cases q:H l with
 | none=>rfl
 | some o =>
  rw[e l o q]at h
  cases h
theorem aa.seq{K:PySem.W.Frag}{H H':Hp}{a:Addr}{xs:List V}(e:aa H H')(h:bt K H a xs):bt K H' a xs:=by
 rcases h with (h | ⟨o,h⟩) | h
 ·exact .inl (.inl (e _ _ h))
 ·exact .inl (.inr ⟨o,e _ _ h⟩)
 ·exact .inr h
end L2
namespace Mf
noncomputable def bl(n:Nat):Nat:=if n=0 then 0 else n.log2+1
theorem dy{n m:Nat}:bl n<=m↔n<2 ^ m:=by
 unfold bl
 by_cases h:n=0
 ·simp[h,vf]
 ·rw[if_neg h]
  rw[<-Nat.log2_lt h]
  omega
theorem Cy{n m:Nat}:m<bl n↔2 ^ m<=n:=by
 have:=@dy n m
 omega
theorem gD(n:Nat):n<2 ^ bl n:=dy.mp (bD _)
theorem Ll{n:Nat}(h:n≠0):2 ^ (bl n-1)<=n:=by
 have:0<bl n:=by unfold bl;rw[if_neg h];omega
 exact Cy.mp (by omega)
theorem fw{n:Nat}(h:n≠0):0<bl n:=by
 unfold bl;rw[if_neg h];omega
theorem kQ:bl 0=0:=rfl
theorem sV{n:Nat}(h:n≠0):n.testBit (bl n-1)=true:=by
 have h1:=Ll h
 have h2:=gD n
 have hp:=fw h
 have e:bl n=(bl n-1)+1:=by omega
 rw[e,pX]at h2
 rw[Se]
 have:n/2 ^ (bl n-1)=1:=by
  apply Nat.div_eq_of_lt_le
  ·omega
  ·omega
 rw[this];rfl
theorem VQ{x n:Nat}(h:∀i,n<=i->x.testBit i=false):x<2 ^ n:=by
 apply Nat.lt_pow_two_of_testBit
 intro i hi
 exact h i hi
theorem Lm{x y n:Nat}(hx:x<2 ^ (n+1))(hy:y<2 ^ (n+1))(tx:x.testBit n=true)(ty:y.testBit n=true):x ^^^ y<2 ^ n:=by
 apply VQ
 intro i hi
 rw[kB]
 by_cases e:i=n
 ·rw[e,tx,ty];rfl
 ·have gE:n+1<=i:=by omega
  have p:2 ^ (n+1)<=2 ^ i:=xT (by decide) gE
  rw[Bl (ck hx p),Bl (ck hy p)]
  rfl
theorem Ln(x y z:Nat):(x ^^^ y) ^^^ (z ^^^ y)=x ^^^ z:=by
 apply xU;intro i;simp only[kB]
 cases x.testBit i<;>cases y.testBit i<;>cases z.testBit i<;>rfl
theorem Lo(x y z t:Nat):(x ^^^ y) ^^^ (z ^^^ t)=(x ^^^ z) ^^^ (y ^^^ t):=by
 apply xU;intro i;simp only[kB]
 cases x.testBit i<;>cases y.testBit i<;>cases z.testBit i<;>cases t.testBit i<;>rfl
noncomputable def P(a b:Nat):Nat->Nat
 | 0=>0
 | k+1=>P a b k ^^^ (if b.testBit k then a <<< k else 0)
noncomputable def cl(a b:Nat):Nat:=P a b (bl b)
theorem Lp{a b k:Nat}(h:b<2 ^ k):∀j,P a b (k+j)=P a b k
 | 0=>rfl
 | j+1=>by
  show P a b (k+j) ^^^ (if b.testBit (k+j)then a <<< (k+j)else 0)=_
  rw[Lp h j]
  have p:2 ^ k<=2 ^ (k+j):=xT (by decide) (by omega)
  rw[Bl (ck h p)]
  simp
theorem sW{a b k:Nat}(h:b<2 ^ k):P a b k=cl a b:=by
 have h1:=dy.mpr h
 have e:k=bl b+(k-bl b):=by omega
 rw[e,Lp (gD b)]
 rfl
theorem Lq(a a' b:Nat):∀k,P (a ^^^ a') b k=P a b k ^^^ P a' b k
 | 0=>(jF 0).symm
 | k+1=>by
  show P (a ^^^ a') b k ^^^ _=(P a b k ^^^ _) ^^^ (P a' b k ^^^ _)
  rw[Lq a a' b k]
  by_cases t:b.testBit k=true
  ·rw[if_pos t,if_pos t,if_pos t,Sf]
   ac_rfl
  ·rw[if_neg t,if_neg t,if_neg t]
   simp
theorem Lr(a b b':Nat):∀k,P a (b ^^^ b') k=P a b k ^^^ P a b' k
 | 0=>(jF 0).symm
 | k+1=>by
  show P a (b ^^^ b') k ^^^ _=(P a b k ^^^ _) ^^^ (P a b' k ^^^ _)
  rw[Lr a b b' k,kB]
  cases b.testBit k<;>cases b'.testBit k<;>simp
  ·ac_rfl
  ·ac_rfl
  ·exact(Ln _ _ _).symm
theorem nE(a a' b:Nat):cl (a ^^^ a') b=cl a b ^^^ cl a' b:=Lq a a' b _
theorem sX{x y n:Nat}(hx:x<2 ^ n)(hy:y<2 ^ n):x ^^^ y<2 ^ n:=Nat.xor_lt_two_pow hx hy
theorem VR(a b b':Nat):cl a (b ^^^ b')=cl a b ^^^ cl a b':=by
 let k:=bl b+bl b'
 have h1:b<2 ^ k:=dy.mp (by omega)
 have h2:b'<2 ^ k:=dy.mp (by omega)
 rw[<-sW (sX h1 h2),<- sW h1,<- sW h2,Lr]
theorem VS(a:Nat):cl a 0=0:=rfl
theorem Ls(b:Nat):∀k,P 0 b k=0
 | 0=>rfl
 | k+1=>by
  show P 0 b k ^^^ _=0
  rw[Ls b k];simp
theorem nF(b:Nat):cl 0 b=0:=Ls b _
theorem VT(b k:Nat):(b/2).testBit k=b.testBit (k+1):=by
 rw[Bo]
theorem Lu(a b:Nat):∀k,P a b (k+1)=(if b%2=1 then a else 0) ^^^ P (2*a) (b/2) k
 | 0=>by
  show 0 ^^^ _=_ ^^^ 0
  rw[nj,jF,xV]
  simp
 | k+1=>by
  show P a b (k+1) ^^^ _=_ ^^^ (P (2*a) (b/2) k ^^^ _)
  rw[Lu a b k,VT,pY]
  have e:a <<< (k+1)=(2*a) <<< k:=by
   rw[iT,iT,pX]
   rw[kA 2 a,sC,kA 2]
  rw[e]
theorem Lv{b k:Nat}(h:b<2 ^ (k+1)):b/2<2 ^ k:=by
 rw[pX]at h;omega
theorem Lw(a b:Nat):cl a b=(if b%2=1 then a else 0) ^^^ cl (2*a) (b/2):=by
 have h:b<2 ^ (bl b+1):=Nat.lt_trans (gD b) (by rw[pX];have:=vf (bl b);omega)
 rw[<-sW h,Lu,sW (Lv h)]
theorem Lx(a b:Nat):∀k,P (2*a) b k=2*P a b k
 | 0=>rfl
 | k+1=>by
  show P (2*a) b k ^^^ _=2*(P a b k ^^^ _)
  rw[Lx a b k]
  have d:∀x y:Nat,2*(x ^^^ y)=2*x ^^^ 2*y:=by
   intro x y
   have h:=@Sf 1 x y
   rw[iT,iT,iT,Nat.pow_one]at h
   rw[kA 2 (x ^^^ y),kA 2 x,kA 2 y]
   exact h
  rw[d]
  by_cases t:b.testBit k=true
  ·rw[if_pos t,if_pos t,iT,iT,sC]
  ·rw[if_neg t,if_neg t]
theorem Cz(a b:Nat):cl (2*a) b=2*cl a b:=Lx a b _
theorem vS(a c t:Nat)(ht:t<2):cl a (2*c+t)=2*cl a c ^^^ (if t=1 then a else 0):=by
 rw[Lw,Cz,J6]
 have e1:(2*c+t)/2=c:=by omega
 have e2:(2*c+t)%2=t:=by omega
 rw[e1,e2]
theorem VU(a c:Nat):cl a (2*c)=2*cl a c:=by
 have h:=vS a c 0 (by decide)
 simpa using h
theorem Ly(c t:Nat)(ht:t<2):2*c ^^^ t=2*c+t:=by
 apply xU
 intro i
 cases i with
 | zero =>
  rw[kB,xV,xV,xV]
  have:t=0\/t=1:=by omega
  rcases this with h | h<;>subst h<;>simp<;>omega
 | succ i =>
  rw[kB,Bo,Bo,Bo]
  have e1:2*c/2=c:=by omega
  have e2:t/2=0:=by omega
  have e3:(2*c+t)/2=c:=by omega
  rw[e1,e2,e3];simp
theorem CA:∀b:Nat,cl 1 b=b:=by
 intro b
 induction b using Bp with
 | ind b ih =>
  by_cases h:b=0
  ·subst h;rfl
  ·have e:b=2*(b/2)+b%2:=by omega
   rw[e,vS 1 (b/2) (b%2) (by omega),ih (b/2) (by omega)]
   have:b%2=0\/b%2=1:=by omega
   rcases this with h | h
   ·rw[h];simp
   ·rw[h];rw[if_pos rfl];exact Ly _ _ (by decide)
theorem vT:∀b a:Nat,cl a b=cl b a:=by
 intro b
 induction b using Bp with
 | ind b ih =>
  intro a
  by_cases h:b=0
  ·subst h;rw[nF];rfl
  ·have e:b=2*(b/2)+b%2:=by omega
   have lt:b%2<2:=by omega
   have e':cl b a=cl (2*(b/2) ^^^ b%2) a:=by rw[Ly _ _ lt,<- e]
   rw[e',nE,Cz,<- ih (b/2) (by omega) a]
   have VV:cl a b=cl a (2*(b/2)+b%2):=by rw[<-e]
   rw[VV,vS _ _ _ lt]
   have:b%2=0\/b%2=1:=by omega
   rcases this with h | h
   ·rw[h,nF];rfl
   ·rw[h,CA];rfl
theorem CB{a m:Nat}(h:a<2 ^ m)(b:Nat):∀k,P a b (k+1)<2 ^ (m+k)
 | 0=>by
  show 0 ^^^ _<_
  rw[nj,Nat.add_zero]
  by_cases t:b.testBit 0=true
  ·rw[if_pos t];simpa using h
  ·rw[if_neg t];exact vf m
 | k+1=>by
  show P a b (k+1) ^^^ _<_
  have i:=CB h b k
  have p:2 ^ (m+k)<=2 ^ (m+(k+1)):=xT (by decide) (by omega)
  apply sX (ck i p)
  by_cases t:b.testBit (k+1)=true
  ·rw[if_pos t,iT,Nat.pow_add 2 m]
   exact(Sg (vf _)).mpr h
  ·rw[if_neg t];exact vf _
theorem VW{a b m n:Nat}(h:a<2 ^ m)(h':b<2 ^ (n+1)):cl a b<2 ^ (m+n):=by
 rw[<-sW h'];exact CB h b n
theorem VX{a b:Nat}(ha:a≠0)(hb:b≠0):2 ^ (bl a-1+(bl b-1))<=cl a b:=by
 have e:bl b=(bl b-1)+1:=by have:=fw hb;omega
 have ta:=sV ha
 have tb:=sV hb
 apply Nat.ge_two_pow_of_testBit
 unfold cl
 rw[e]
 show(P a b (bl b-1) ^^^ _).testBit _=true
 have e2:bl b-1+1-1=bl b-1:=by omega
 rw[e2,kB,if_pos tb]
 have f:(P a b (bl b-1)).testBit (bl a-1+(bl b-1))=false:=by
  cases q:bl b-1 with
  | zero=>show Nat.testBit 0 _=false;exact Nat.zero_testBit _
  | succ k =>
   apply Bl
   have l:=CB (gD a) b k
   have p:=fw ha
   have e3:bl a-1+(k+1)=bl a+k:=by omega
   rw[e3];exact l
 rw[f,Sh]
 have e4:bl a-1+(bl b-1)-(bl b-1)=bl a-1:=by omega
 rw[e4,ta]
 simp
theorem Lz{a b:Nat}(ha:a≠0)(hb:b≠0):bl (cl a b)=bl a+bl b-1:=by
 have p1:=fw ha
 have p2:=fw hb
 have h1:bl (cl a b)<=bl a+(bl b-1):=dy.mpr (VW (gD a) (by
  have e:bl b-1+1=bl b:=by omega
  rw[e];exact gD b))
 have h2:=Cy.mpr (VX ha hb)
 omega
theorem LA(s b:Nat):cl (2 ^ s) b=b <<< s:=by
 induction s with
 | zero=>rw[Nat.pow_zero,CA];rfl
 | succ s ih =>
  rw[pX,kA,Cz,ih,iT,iT,pX]
  rw[<-sC,kA 2,sC,kA 2,<- sC,sC]
theorem VY{a q b r s:Nat}(h:a=cl q b ^^^ r):a=cl (q ^^^ 2 ^ s) b ^^^ (r ^^^ b <<< s):=by
 rw[nE,LA,h,Ln]
theorem LB{b r:Nat}(hb:b≠0)(h:bl b<=bl r):bl (r ^^^ b <<< (bl r-bl b))<bl r:=by
 have p:=fw hb
 have hr:r≠0:=by
  intro z;rw[z,kQ]at h;omega
 have:r ^^^ b <<< (bl r-bl b)<2 ^ (bl r-1):=by
  apply Lm
  ·have e:bl r-1+1=bl r:=by omega
   rw[e];exact gD r
  ·have e:bl r-1+1=bl b+(bl r-bl b):=by omega
   rw[e,iT,Nat.pow_add]
   exact(Sg (vf _)).mpr (gD b)
  ·exact sV hr
  ·rw[Sh]
   have e:bl r-1-(bl r-bl b)=bl b-1:=by omega
   rw[e,sV hb]
   simp;omega
 have:=dy.mpr this
 omega
theorem VZ{x y z:Nat}(h:x ^^^ y=z):x=z ^^^ y:=by
 rw[<-h,pY,xW,jF]
theorem CC{x y:Nat}(h:x ^^^ y=0):x=y:=by
 have:=VZ h
 rwa [nj]at this
theorem V0{b q r q' r':Nat}(h:cl q b ^^^ r=cl q' b ^^^ r')(hr:bl r<bl b)(bh:bl r'<bl b):q=q'/\r=r':=by
 have hb:b≠0:=by intro z;rw[z,kQ]at hr;omega
 have e:cl (q ^^^ q') b=r ^^^ r':=by
  rw[nE]
  have z:(cl q b ^^^ r) ^^^ (cl q' b ^^^ r')=0:=by rw[h,xW]
  rw[Lo]at z
  exact CC z
 have lt:bl (r ^^^ r')<bl b:=by
  have h1:r<2 ^ (bl b-1):=dy.mp (by omega)
  have h2:r'<2 ^ (bl b-1):=dy.mp (by omega)
  have:=dy.mpr (sX h1 h2)
  have:=fw hb
  omega
 have z:q ^^^ q'=0:=by
  apply J7
  intro hq
  have h1:=Lz hq hb
  have h2:=fw hq
  rw[e]at h1
  omega
 have zq:=CC z
 subst zq
 rw[z,nF]at e
 exact⟨rfl,CC e.symm⟩
end Mf
namespace Mf
open PySem PySem.Builtin.Int
theorem V1(x y:Nat):(x ^^^ y)+2*(x &&& y)=x+y:=by
 induction x using Bp generalizing y with
 | ind x ih =>
  by_cases h:x=0
  ·subst h;simp
  ·have h1:=ih (x/2) (by omega) (y/2)
   have e1:(x ^^^ y)/2=x/2 ^^^ y/2:=Nat.xor_div_two
   have e2:(x &&& y)/2=x/2 &&& y/2:=Nat.and_div_two
   have t:∀n:Nat,n%2=if n.testBit 0=true then 1 else 0:=by
    intro n
    rw[xV]
    by_cases h:n%2=1
    ·simp[h]
    ·simp[h];omega
   have m1:(x ^^^ y)%2=(x%2+y%2)%2:=by
    rw[t (x ^^^ y),t x,t y,kB]
    cases x.testBit 0<;>cases y.testBit 0<;>rfl
   have m2:(x &&& y)%2=x%2*(y%2):=by
    rw[t (x &&& y),t x,t y,J8]
    cases x.testBit 0<;>cases y.testBit 0<;>rfl
   have d1:=Nat.div_add_mod (x ^^^ y) 2
   have d2:=Nat.div_add_mod (x &&& y) 2
   rw[e1]at d1
   rw[e2]at d2
   have hx:x%2=0\/x%2=1:=by omega
   have hy:y%2=0\/y%2=1:=by omega
   rcases hx with hx | hx<;>rcases hy with hy | hy<;>rw[hx,hy]at m1 m2<;>omega
theorem LC{x y:Int}(hx:0<=x)(hy:0<=y):m6 x y=((x.toNat &&& y.toNat:Nat):Int):=by
 unfold m6
 rw[decide_eq_true hx,decide_eq_true hy]
theorem V2{x y:Int}(hx:0<=x)(hy:0<=y):Builtin.bitOr x y=((x.toNat ||| y.toNat:Nat):Int):=by
 unfold Builtin.bitOr m6 Builtin.bitNot
 rw[decide_eq_false (by omega),decide_eq_false (by omega)]
 show-(-((((- (-x-1)-1).toNat ||| (-(-y-1)-1).toNat:Nat):Int))-1)-1=_
 have e1:(- (-x-1)-1).toNat=x.toNat:=by omega
 have e2:(- (-y-1)-1).toNat=y.toNat:=by omega
 rw[e1,e2]
 omega
theorem V3(x y:Nat):(x ||| y)=(x ^^^ y)+(x &&& y):=by
 have d:(x ^^^ y) &&& (x &&& y)=0:=by
  apply xU;intro i
  simp only[kB,J8,Nat.zero_testBit]
  cases x.testBit i<;>cases y.testBit i<;>rfl
 have e:(x ||| y)=(x ^^^ y) ^^^ (x &&& y):=by
  apply xU;intro i
  simp only[kB,J8,Nat.testBit_or]
  cases x.testBit i<;>cases y.testBit i<;>rfl
 have h:=V1 (x ^^^ y) (x &&& y)
 rw[d]at h
 rw[e];omega
theorem V4{x y:Int}(hx:0<=x)(hy:0<=y):m8 x y=((x.toNat ^^^ y.toNat:Nat):Int):=by
 unfold m8
 rw[V2 hx hy,LC hx hy,V3]
 omega
theorem qH(x y:Nat):m8 (x:Int) (y:Int)=((x ^^^ y:Nat):Int):=by
 rw[V4 (by omega) (by omega)];rfl
theorem LD(x y:Nat):m6 (x:Int) (y:Int)=((x &&& y:Nat):Int):=by
 rw[LC (by omega) (by omega)];rfl
theorem sY(x k:Nat):(x:Int)*2 ^ ((k:Int)).toNat=((x <<< k:Nat):Int):=by
 rw[iT]
 simp
theorem V5(x k:Nat):(x:Int)/2 ^ ((k:Int)).toNat=((x >>> k:Nat):Int):=by
 rw[Si]
 simp
theorem V6(x k:Nat):((x >>> k) &&& 1=1)↔x.testBit k=true:=by
 rw[Se,Si]
 have:(x/2 ^ k) &&& 1=(x/2 ^ k)%2:=Nat.and_two_pow_sub_one_eq_mod _ 1
 rw[this]
 simp
end Mf
namespace Mf
end Mf
namespace Mf
theorem LF(a b:Nat):∀c,cl (cl a b) c=cl a (cl b c):=by
 intro c
 induction c using Bp with
 | ind c ih =>
  by_cases h:c=0
  ·subst h;rfl
  ·have e:c=2*(c/2)+c%2:=by omega
   have lt:c%2<2:=by omega
   have i:=ih (c/2) (by omega)
   rw[e,vS _ _ _ lt,vS _ _ _ lt,i,VR,VU]
   have:c%2=0\/c%2=1:=by omega
   rcases this with h | h
   ·rw[h];rfl
   ·rw[h];rfl
noncomputable def sZ:Nat->Nat->Nat->Nat
 | 0,a,_=>a
 | n+1,a,b=>if bl a<bl b then a else sZ n (a ^^^ b <<< (bl a-bl b)) b
noncomputable def md(a b:Nat):Nat:=sZ (bl a+1) a b
theorem LG{b:Nat}(hb:b≠0):∀n a,bl a<n->(∃q,a=cl q b ^^^ sZ n a b)/\bl (sZ n a b)<bl b
 | 0,_,h=>absurd h (by omega)
 | n+1,a,h=>by
  unfold sZ
  by_cases l:bl a<bl b
  ·rw[if_pos l]
   exact⟨⟨0,by rw[nF,nj]⟩,l⟩
  ·rw[if_neg l]
   have CD:=LB hb (show bl b<=bl a by omega)
   obtain⟨⟨q,e⟩,l2⟩:=LG hb n (a ^^^ b <<< (bl a-bl b)) (by omega)
   refine⟨⟨q ^^^ 2 ^ (bl a-bl b),?_⟩,l2⟩
   rw[nE,LA]
   have e2:a=(a ^^^ b <<< (bl a-bl b)) ^^^ b <<< (bl a-bl b):=by rw[pY,xW,jF]
   rw[e]at e2
   refine e2.trans ?_
   generalize sZ n _ b=r
   rw[pY,J6 r,<- pY]
theorem vU{b:Nat}(hb:b≠0)(a:Nat):(∃q,a=cl q b ^^^ md a b)/\bl (md a b)<bl b:=LG hb _ a (by omega)
theorem vV{a b q r:Nat}(h:a=cl q b ^^^ r)(hr:bl r<bl b):md a b=r:=by
 have hb:b≠0:=by intro z;rw[z,kQ]at hr;omega
 obtain⟨⟨q',e⟩,l⟩:=vU hb a
 exact(V0 (e.symm.trans h) l hr).2
theorem V7(q:Nat){b:Nat}(hb:b≠0):md (cl q b) b=0 :=
 vV (q:=q) (by rw[jF]) (by rw[kQ];exact fw hb)
noncomputable def LH:Nat->Nat->Nat->Nat
 | 0,a,_=>a
 | n+1,a,b=>if b=0 then a else LH n b (md a b)
noncomputable def gc(a b:Nat):Nat:=LH (bl b+1) a b
end Mf
namespace Mf
theorem V8(y:Nat):bl (y/2)=bl y-1:=by
 by_cases h:y=0
 ·subst h;rfl
 ·have p:=fw h
  have h1:bl (y/2)<=bl y-1:=dy.mpr (Lv (by
   have e:bl y-1+1=bl y:=by omega
   rw[e];exact gD y))
  have h2:bl y<=bl (y/2)+1:=dy.mpr (by
   have:=gD (y/2)
   rw[pX];omega)
  omega
theorem V9(x:Nat):bl (2*x)<=bl x+1:=dy.mpr (by
 have:=gD x
 rw[pX];omega)
theorem CF{x y:Nat}(h:x<=y):bl x<=bl y:=dy.mpr (nk h (gD y))
end Mf
namespace Mf
noncomputable def al(a:Nat):Bool:=decide (2<=a)&&(aP (2 ^ ((bl a-1)/2+1)-2)).all λi=>md a (2+i) != 0
theorem Wa{a:Nat}(h:a<2):al a=false:=by
 unfold al;rw[decide_eq_false (by omega)];rfl
theorem Wb{a:Nat}(h:2<=a)(k:∀i,i<2 ^ ((bl a-1)/2+1)-2->md a (2+i)≠0):al a=true:=by
 unfold al
 rw[decide_eq_true h,kC,dn]
 intro i hi
 have:=k i (dE.mp hi)
 simpa using this
theorem Wc{a i:Nat}(k:i<2 ^ ((bl a-1)/2+1)-2)(z:md a (2+i)=0):al a=false:=by
 unfold al
 rw[Bool.and_eq_false_iff]
 right
 rw[List.all_eq_false]
 exact⟨i,dE.mpr k,by simp[z]⟩
theorem Wd{a:Nat}(h:2<=a){b:Nat}(hb:b<2 ^ ((bl a-1)/2+1)):b<a/\2*bl b<=bl a+1:=by
 have h2:2<=bl a:=by
  have:=Cy.mpr (show 2 ^ 1<=a by omega)
  omega
 have l:=dy.mpr hb
 refine⟨ck hb (dW (xT (by decide) ?_) (Ll (by omega))),by omega⟩
 omega
end Mf
namespace L2
open PySem PySem.Spec PyProof.Rows Mf
theorem jQ:bootBuiltins "len"=some (.builtin "len"):=by decide +kernel
theorem We:bootBuiltins "isinstance"=some (.builtin "isinstance"):=by decide +kernel
theorem CG:bootBuiltins "all"=some (.builtin "all"):=by decide +kernel
theorem LJ:bootBuiltins "int"=some (.type "int"):=by decide +kernel
theorem Wf:bootBuiltins "bool"=some (.type "bool"):=by decide +kernel
theorem yA:bootBuiltins "list"=some (.type "list"):=by decide +kernel
section
variable{X:Cx}{a b o:Expr}{ta tb to:TE}{pos apos bI:Pos}
theorem LK(i:Int):Builtin.Int.intBits i=bl i.natAbs:=by
 unfold Builtin.Int.intBits bl
 by_cases h:i=0
 ·subst h;rfl
 ·have h':¬ i.natAbs=0:=by omega
  rw[if_neg h',if_neg (by simpa using h)]
noncomputable def LL:V->List V->Hp->VK->Prop:=λx vs H Q=>∃i,x=.int i/\vs=[]/\Q (.int (bl i.natAbs:Nat)) H
theorem Wg:kK X "int.bit_length" LL:=by
 intro pins s σ H x xs v us Q I rx rs h
 obtain⟨i,rfl,rfl,q⟩:=h
 obtain⟨t,rfl⟩:=rx
 cases rs
 refine call_int_bit_length ?_
 rw[LK]
 exact⟨.int _,H,I.tok _,⟨_,rfl⟩,q⟩
theorem CH(ho:PE X o to)(i7:attributeBase o "bit_length" X.env (eval o X.env)=eval o X.env:=by rfl)(i8:(apos.endLine==bI.line)=true:=by rfl) :
  PE X (.Call (.Attribute o "bit_length" apos) [] [] bI) (Lc X.K "int" LL to) :=
 Vx PySem.F.plainAttrs_int PySem.F.slot_int_bit_length PySem.F.type_int_bit_length Wg ho i7 i8
noncomputable def LM(i j:Int):Prop:=0<=j/\((bl i.natAbs:Nat):Int)+j<=134217728
theorem LN:bY X (binaryOp .LShift) (rI LM λi j=>.int (i*2 ^ j.toNat)):=vJ λi j _ _ _ _ _ hc q =>
 lshift_int hc.1 (by rw[LK];exact Int.le_trans hc.2 (by decide)) q
theorem Wh{x:Str}{n:String}(hg:Gl X x)(hm:X.mg x=none)(hv:bootBuiltins x=some (.type n))(hn:x≠"__name__":=by decide)(hd:(x==("__debug__":Str))=false:=by decide):PE X (.Name x pos) (tC (.ty n)) :=
 S8 hg hm hv rfl hn hd
noncomputable def Wi(K:PySem.W.Frag):List V->Hp->VK->Prop:=λxs H Q=>∃x n t b,xs=[x,.ty n]/\fS K H x t/\PySem.W.kitOne K t (.type n)=some b/\Q (.bl b) H
theorem Wj:gy X (.builtin "isinstance") (Wi X.K):=by
 intro pins s σ H xs us Q I r h
 obtain⟨x,n,t,b,rfl,ty,e,q⟩:=h
 obtain⟨u,v,rfl,ru,rv⟩:=r.two
 cases(show v=Value.type n from rv)
 exact UM I ru ty e λtk=>⟨.bl b,H,I.tok _,rfl,q⟩
end
theorem Wk(b i:Nat):decide (V.int (m6 ((b:Int)/2 ^ ((0:Int)+(i:Int)).toNat) 1)=V.int 1)=b.testBit i:=by
 have e:((0:Int)+(i:Int)).toNat=((i:Int)).toNat:=by omega
 rw[e,V5,show(1:Int)=((1:Nat):Int) from rfl,LD,sD,decide_eq_true_iff,<- V6]
 constructor
 ·intro h;injection h with h;omega
 ·intro h;rw[h]
theorem Wl{a b i:Nat}(h:b.testBit i=true):m8 ((P a b i:Nat):Int) ((a:Int)*2 ^ ((0:Int)+(i:Int)).toNat)=((P a b (i+1):Nat):Int):=by
 have e:((0:Int)+(i:Int)).toNat=((i:Int)).toNat:=by omega
 rw[e,sY,qH]
 show _=((P a b i ^^^ (if b.testBit i then a <<< i else 0):Nat):Int)
 rw[if_pos h]
theorem Wm{a b i:Nat}(h:¬ b.testBit i=true):P a b (i+1)=P a b i:=by
 show P a b i ^^^ (if b.testBit i then a <<< i else 0)=_
 rw[if_neg h,jF]
theorem dI{i j:Int}:decide (V.int i=V.int j)=true↔i=j:=by
 rw[decide_eq_true_iff]
 exact⟨λh=>by injection h,λh=>by rw[h]⟩
end L2
namespace L2
open PySem PySem.Spec PyProof.Rows
section
variable{X:Cx}
end
end L2
namespace L2
open PySem PySem.Spec PyProof.Rows
noncomputable def yB(X:Cx)(scope:Scope)(N:List Str)(cl:List (Str × Addr))(C:Addr)(s:Shared)(H:Hp)(fp:List Addr):Cx where
 prog:=X.prog
 w:=X.w
 K:=X.K
 mg:=X.mg
 base:=X.base
 A:=X.A
 N:=N
 bP:=s
 iW:=H
 env:=compEnvC scope cl C X.env
 outer:=X.stack
 stack:=X.stack
 ex:=fp
 fn:=λ_=>false
 calm:=X.calm
 pn:=[]
 xe:=λ_ _=>False
noncomputable def kR(X:Cx)(scope:Scope)(cl:List (Str × Addr)):List (Str × Nat)->Prop
 | []=>True
 | (y,i)::r=>(X.N[i]?=some y/\(X.env.scope.names.lookup y=some .cell\/X.env.scope.names.lookup y=some .free)/\((relabel scope X.env).names.lookup y=some .cell\/(relabel scope X.env).names.lookup y=some .free)/\∃c,cl.lookup y=some c/\X.env.cells.lookup y=some c)/\kR X scope cl r
theorem kR.at{X:Cx}{scope:Scope}{cl:List (Str × Addr)}:∀{ax:List (Str × Nat)},kR X scope cl ax->∀p∈ax,X.N[p.2]?=some p.1/\(X.env.scope.names.lookup p.1=some .cell\/X.env.scope.names.lookup p.1=some .free)/\((relabel scope X.env).names.lookup p.1=some .cell\/(relabel scope X.env).names.lookup p.1=some .free)/\∃c,cl.lookup p.1=some c/\X.env.cells.lookup p.1=some c
 | [],_,p,hp=>absurd hp (by simp)
 | (y,i)::r,h,p,hp=>by
  rcases cg.mp hp with e | e
  ·subst e;exact h.1
  ·exact kR.at h.2 p e
noncomputable def kS(Y:Cx)(ifs:List Expr)(t:TT):Prop :=
 ∀(pins:List (Addr × Obj)) (s:Shared) (σ:St) (H:Hp) (Q:Bool->Hp->Prop),Inv Y pins σ H s->t σ H Q ->
  wpAny (model Y.prog Y.w) Y.A (forIn ifs true λc r=>if r=true then do let ok<-isTrue c Y.env (eval c Y.env);pure (Bq ok)else pure (Bq r)) (TP Y pins σ Q) Y.xe s
noncomputable def Wn:TT:=λ_ H Q=>Q true H
theorem Wo{Y:Cx}:kS Y [] Wn:=λ_ _ _ H _ I h=>wpAny_tests_nil ⟨H,I,h⟩
theorem Wq{Y:Cx}{c:Expr}{t:TT}(h:PT Y c t):kS Y [c] t:=λpins s σ H Q I q=>wpAny_tests_one (h pins s σ H Q I q)
section
variable{X:Cx}{elt iter:Expr}{x:Str}{px pos:Pos}{ifs:List Expr}{scope:Scope}{cl:List (Str × Addr)}{ax:List (Str × Nat)}{wi:TI}{tt:TT}{te:TE}
end
section
variable{prog:Program}{w:World}{A:Around}{R:Result->Shared->Prop}{s:Shared}
theorem Wr{elt target iter:Expr}{ifs:List Expr}{scope:Scope}{pos:Pos}{it acc:Value}{env:Env}(Iv:Nat->Shared->Prop)
  (turn:∀n s,Iv n s->wpAny (model prog w) A (pyNext it) (λr s1=>match r with
   | none=>R (.ok .next) s1
   | some v=>wpAny (model prog w) A (letOwnedTupleGo target it v) (λ_ t1=>wpAny (model prog w) A (assign target env v) (λ_ s2 =>
     wpAny (model prog w) A (forIn ifs true λc r=>if r=true then do let ok<-isTrue c env (eval c env);pure (Bq ok)else pure (Bq r)) (λok s3 =>
      if ok=true then wpAny (model prog w) A (eval elt env) (λy s4=>wpAny (model prog w) A (call (.builtin "list.append") [acc,y]) (λ_ s5=>∃m,m<n/\Iv m s5) (λ_ _=>False) s4) (λ_ _=>False) s3
      else ∃m,m<n/\Iv m s3) (λ_ _=>False) s2) (λ_ _=>False) t1) (λ_ _=>False) s1) (λ_ _=>False) s)
  (n:Nat) (h:Iv n s):codeAny (model prog w) A (.compLoop (.ListComp elt [⟨target,iter,ifs,0⟩] scope pos) 0 it acc env) R s:=by
 refine codeAny_loop rfl Iv (λn s hI=>?_) n h
 change wpAny _ A (Sem.onRaise (compTurn (.ListComp elt [⟨target,iter,ifs,0⟩] scope pos) 0 it acc env) λx=>do noteFrame x env;theTreesLotGoes x) _ _ s
 refine wpAny_noted (wpAny_mono (E:=λ_ _=>False) ?_ (λ_ _ q=>q) λ_ _ z=>z.elim)
 rw[compTurn_list]
 refine wpAny_bind (wpAny_standAt (wpAny_bind (aE (turn n s hI) λr s1 h1=>?_)))
 cases r with
 | none=>exact wpAny_pure h1
 | some v =>
  refine wpAny_bind (aE h1 λ_ t1 k1=>wpAny_bind (aE k1 λ_ s2 h2=>wpAny_bind (aE h2 λok s3 h3=>?_)))
  cases ok with
  | false=>exact wpAny_pure ⟨rfl,h3⟩
  | true=>exact wpAny_bind (wpAny_bind (aE h3 λy s4 h4=>wpAny_bind (aE h4 λ_ s5 h5=>wpAny_pure (wpAny_pure ⟨rfl,h5⟩))))
end
section
variable{X:Cx}{elt iter:Expr}{x:Str}{px pos:Pos}{ifs:List Expr}{scope:Scope}{cl:List (Str × Addr)}{ax:List (Str × Nat)}{wi:TI}{tt:TT}{te:TE}
end
end L2
namespace L2
open PySem PySem.Spec PyProof.Rows
section
variable{X:Cx}
theorem Ws{bs:List Bool}{us:List Value}(r:Vals (bs.map V.bl) us):bs.length=us.length/\∀(i:Nat) (v:Value),us[i]?=some v->∃b,bs[i]?=some b/\v=.bool b:=by
 have l:=r.length
 rw[bV]at l
 refine⟨l,λi v e=>?_⟩
 have hi:i<us.length:=(iA.mp e).1
 have hb:i<bs.length:=by omega
 obtain⟨u,e2,q⟩:=r.get (i:=i) (x:=V.bl bs[i]) (by rw[cI,aQ hb];rfl)
 rw[e]at e2
 cases e2
 exact⟨bs[i],aQ hb,q⟩
theorem Wt{s:Shared}{h':Heap}{o:Obj}(hk:∀b x,b ∉ [s.heap.objs.size]->(s.heap.push o).get? b=some x->h'.get? b=some x)(b:Addr)(x:Obj)(e:s.heap.get? b=some x):h'.get? b=some x :=
 hk b x (λhm=>dO _ (by have:=bH e;rw[iU.mp hm]at this;exact this)) (dP _ e)
theorem Wu(bs:List Bool):((aP bs.length).all λi=>(bs[i]?).getD true)=bs.all id:=by
 rw[sD,dn,dn]
 constructor
 ·intro h b hb
  obtain⟨i,hi,rfl⟩:=fe hb
  have:=h i (dE.mpr hi)
  rwa [aQ hi]at this
 ·intro h i hi
  have gE:=dE.mp hi
  rw[aQ gE]
  exact h _ (cN gE)
theorem Wv(hc:X.calm=true):gy X (.builtin "all") (λxs H Q=>∃(p:Addr) (bs:List Bool),xs=[.ref p]/\bt X.K H p (bs.map V.bl)/\Q (.bl (bs.all id)) H):=by
 intro pins s σ H xs us Q I r h
 obtain⟨p,bs,rfl,hS,q⟩:=h
 obtain⟨u,rfl,ru⟩:=r.one
 cases ru
 obtain⟨its,rv,pl,hz⟩:=I.list hS
 obtain⟨hlen,Ww⟩:=Ws rv
 have hl:=pl.isList
 have eZ:p<s.heap.objs.size:=by obtain⟨_,e,_⟩:=hl;exact bH e
 refine call_all_walk (wpAny_pyIter_list hl ?_)
 refine⟨s.heap.objs.size,[s.heap.objs.size,p],[s.heap.objs.size],its.toArray.size,_,_,λi=>(bs[i]?).getD true,rfl,Walks.list (A:=X.A.in1) (I.ok.hd hc) _ p (dU eZ) its.toArray,
  ⟨⟨_,fR _ rfl,rfl,rfl⟩,hl.push _⟩,λi v s' Q' E' hP hQ=>?_,λh' tk hk=>?_⟩
 ·obtain⟨b,e,rfl⟩:=Ww i v (by simpa using hP)
  simp only[e,pZ]at hQ
  exact wpAny_truthy_bool hQ
 ·have e:((aP its.toArray.size).all λi=>(bs[i]?).getD true)=bs.all id:=by
   rw[dv,<- hlen];exact Wu bs
  rw[e]
  exact⟨.bl _,H,I.kept (h':=h') (t':=tk) (Wt hk),rfl,q⟩
end
noncomputable def kT(X:Cx):List (Str × Addr)->Prop
 | []=>True
 | (y,c)::r=>X.env.cells.lookup y=some c/\kT X r
theorem kT.all{X:Cx}:∀{cl:List (Str × Addr)},kT X cl->∀y c,cl.lookup y=some c->X.env.cells.lookup y=some c
 | [],_,y,c,h=>by simp at h
 | (z,d)::r,h,y,c,e=>by
  rw[eV]at e
  cases q:y==z with
  | true =>
   rw[q]at e
   cases e
   rw[eq_of_beq q]
   exact h.1
  | false =>
   rw[q]at e
   exact kT.all h.2 y c e
noncomputable def kU(cl:List (Str × Addr)):List (Str × NameKind)->Prop
 | []=>True
 | (y,k)::r=>(k=.local\/k=.globalImplicit\/∃c,cl.lookup y=some c)/\kU cl r
theorem kU.all{cl:List (Str × Addr)}:∀{ns:List (Str × NameKind)},kU cl ns->∀y,(ns.lookup y=some .cell\/ns.lookup y=some .free)->∃c,cl.lookup y=some c
 | [],_,y,h=>by simp at h
 | (z,k)::r,h,y,e=>by
  rw[eV]at e
  cases q:y==z with
  | true =>
   rw[q]at e
   rw[eq_of_beq q]
   rcases h.1 with g | g | g
   ·rw[g]at e;rcases e with e | e<;>cases e
   ·rw[g]at e;rcases e with e | e<;>cases e
   ·exact g
  | false =>
   rw[q]at e
   exact kU.all h.2 y e
section
variable{X:Cx}{elt iter:Expr}{x:Str}{px pos:Pos}{ifs:List Expr}{scope:Scope}{cl:List (Str × Addr)}{wi:TI}{tt:TT}{te:TE}
end
end L2
namespace L2
open PySem PySem.Spec PyProof.Rows Mf
end L2
namespace L2
end L2
namespace L2
open PySem PySem.Spec PyProof.Rows
noncomputable def fA(ax:List (Str × Nat))(n:Nat)(σ:L2.St):St:=(ax.map λp=>(σ[p.2]?).getD none)++aT n none
noncomputable def LO(J:It)(ax:List (Str × Nat))(n:Nat)(g:TG)(tt:TT)(te:TE)(σ:L2.St)(H1:Hp)(Q:VK):Prop:=∀D,H1 D=none->∃W:Nat->Nat->List V->Hp->Prop,(∃m,W 0 m [] (upd H1 D (.lst []))) /\
 ∀i m acc H2,W i m acc H2->H2 D=some (.lst acc)/\((J.stop i H2/\Q (.ref D) H2)\/(J.go i H2/\∀x H3,J.hE i H2 x H3->H3 D=some (.lst acc)/\g x (fA ax n σ) H3 λff H4 =>
  (ff.length=(fA ax n σ).length/\∀j,j<ax.length->ff[j]?=(fA ax n σ)[j]?)/\tt ff H4 λb H5=>H5 D=some (.lst acc) /\
  if b=true then te ff H5 λy H6=>H6 D=some (.lst acc)/\acc.length<sizeLine/\∃m',m'<m/\W (i+1) m' (acc++[y]) (upd H6 D (.lst (acc++[y])))else ∃m',m'<m/\W (i+1) m' acc H5))
noncomputable def yC(wi:TI)(ax:List (Str × Nat))(n:Nat)(g:TG)(tt:TT)(te:TE):TE:=λσ H Q=>wi σ H λJ H1=>LO J ax n g tt te σ H1 Q
section
variable{X:Cx}{elt iter tg:Expr}{pos:Pos}{ifs:List Expr}{scope:Scope}{cl:List (Str × Addr)}{wi:TI}{tt:TT}{te:TE}{g:TG}
end
end L2
namespace L2
open PySem PySem.Spec PyProof.Rows
section
variable{X:Cx}{tg:Expr}
end
end L2
namespace L2
open PySem PySem.Spec PyProof.Rows
noncomputable def CI(h:Heap)(a T:Addr)(cls fl:Value):Prop :=
 ∃oe vs oT ts,h.get? a=some oe/\oe.cls=cls/\oe.dict=none/\oe.data=.fields vs/\vs[1]?=some (.ref T)/\T≠a/\h.get? T=some oT/\oT.data=.fields ts/\ts[3]?=some fl
noncomputable abbrev qI(h:Heap)(a T:Addr)(cls:Value):Prop:=CI h a T cls .none
theorem Wx(o:Obj)(f:Array Value->Array Value):(o.mapFields f).dict=o.dict:=by
 obtain⟨c,d,dt,sl⟩:=o
 cases dt<;>rfl
section
variable{M:Model}{A:Around}{E:Value->Shared->Prop}{s:Shared}{base:Heap}{env:Env}{outer:List Env}{L a T:Addr}{cls:Value}{oe:Obj}{vs:Array Value}{Q:Unit->Shared->Prop}
structure Ent(fs:List Addr)(h h':Heap)(a T:Addr)(oe:Obj)(L:Addr):Prop where
 new:h.get? T=none
 ne:T≠a
 keep:∀b o,b≠a->b ∉ fs->h.get? b=some o->h'.get? b=some o
 slot:∀b o,b≠a->h.get? b=some o->∃sl,h'.get? b=some { o with slots:=sl }
 exc:h'.get? a=some (oe.mapFields λz=>z.setIfInBounds 1 (.ref T))
 ent:∃oT ts,h'.get? T=some oT/\oT.data=.fields ts/\ts[3]?=some (rawInt L)
theorem LP{head:Value}{Wy:Bool}(dz:A.frames=some (env::outer))(hl:s.heap.FunFrames base (env::outer))(hf:env.frame=some L)(he:s.heap.get? a=some oe)(hd:oe.data=.fields vs)(hsz:1<vs.size)
  (na:a ∉ (env::outer).filterMap (·.frame)) (k:∀h' T',Ent ((env::outer).filterMap (·.frame)) s.heap h' a T' oe L->Q () { s with heap:=h' }) :
  wpAny M A (do let x<-frameOf env;let pl<-entryPlaceOf L Wy;let b<-EntryCells.newEntry head x .none (rawInt L) .none pl;setField (.ref a) 1 b) Q E s:=by
 refine wpAny_bind (wpAny_frameOf_fun dz hl hf λg1 so=>wpAny_bind (wpAny_entryPlaceOf λpl ip=>?_))
 unfold EntryCells.newEntry newFields
 have e1:g1.get? a=some oe:=(so.2.1 a na).trans he
 refine wpAny_bind (wpAny_newObj_type ?_ (ip.sizeOk5 _ _ _ _ _))
 generalize yD:({ cls:=.type "traceback",dict:=none,data:=.fields ([head,du L,.none,rawInt L,.none]++(if pl.isEmpty then aT 6 pP else pl)).toArray }:Obj)=te
 have e2:(g1.push te).get? a=some oe:=dP te e1
 have Wz:te.data=.fields ([head,du L,.none,rawInt L,.none]++(if pl.isEmpty then aT 6 pP else pl)).toArray:=by rw[<-yD]
 have nf:te.isFreed=false:=by rw[<-yD];rfl
 refine wpAny_setField e2 hd hsz ?_
 have d3:=Br hd λz=>z.setIfInBounds 1 (du g1.objs.size)
 have nT:g1.objs.size≠a:=J2 (bH e1)
 refine k _ g1.objs.size ⟨?_,nT,λb o hb hz q=>?_,λb o hb q=>?_,Bh _ e2 (J9 d3),⟨te,_,?_,Wz,?_⟩⟩
 ·cases q:s.heap.get? g1.objs.size with
  | none=>rfl
  | some o=>obtain⟨sl,z⟩:=so.2.2 _ _ q;exact absurd (bH z) (dO _)
 ·rw[pV _ _ (dF hb)]
  exact dP te ((so.2.1 b hz).trans q)
 ·obtain⟨sl,z⟩:=so.2.2 b o q
  refine⟨sl,?_⟩
  rw[pV _ _ (dF hb)]
  exact dP te z
 ·rw[pV _ _ (dF nT)]
  exact fR g1 nf
 ·first | (simp;done) | (rcases ip with rfl | ⟨_,_,_,_,_,_,_,rfl⟩<;>simp)
structure LQ(fs Z:List Addr)(h h':Heap)(a T:Addr)(cls:Value):Prop where
 new:h.get? T=none
 keep:∀b o,b ∉ Z->b ∉ fs->h.get? b=some o->h'.get? b=some o
 slot:∀b o,b ∉ Z->h.get? b=some o->∃sl,h'.get? b=some { o with slots:=sl }
 vW:qI h' a T cls
theorem LR{fl:Value}(tr:CI s.heap a T cls fl)(k:∀h',(∀b o,b≠T->s.heap.get? b=some o->h'.get? b=some o)->qI h' a T cls->Q () { s with heap:=h' }):wpAny M A (setFlight (.ref a) none) Q E s:=by
 obtain⟨oe,vs,oT,ts,h1,h2,h3,h4,h5,h6,h7,h8,h9⟩:=tr
 have sz:3<ts.size:=(Ka.mp h9).1
 unfold setFlight
 refine wpAny_bind (wpAny_field h1 h4 h5 ?_)
 rw[if_pos (by simp)]
 refine wpAny_setField h7 h8 sz (k _ (λb o hb q=>(pV _ _ (dF hb)).trans q) ?_)
 have d:=Br h8 λz=>z.setIfInBounds 3 ((none:Option Addr).elim pP λf=>rawInt f)
 exact⟨oe,vs,_,_,(pV _ _ h6).trans h1,h2,h3,h4,h5,h6,Bh _ h7 (J9 d),d,by simp[sz]⟩
theorem Ent.fin{fs:List Addr}{h h':Heap}{a T L:Addr}{oe:Obj}{vs:Array Value}(e:Ent fs h h' a T oe L)(hd:oe.data=.fields vs)(hsz:1<vs.size)(WA:oe.dict=none):CI h' a T oe.cls (rawInt L):=by
 obtain⟨oT,ts,e1,e2,e3⟩:=e.ent
 exact⟨_,_,oT,ts,e.exc,Obj.cls_mapFields _ _,by rw[Wx];exact WA,Br hd _,by simp[hsz],e.ne,e1,e2,e3⟩
theorem WB(dz:A.frames=some (env::outer))(hl:s.heap.FunFrames base (env::outer))(hf:env.frame=some L)(na:a ∉ (env::outer).filterMap (·.frame))(tr:qI s.heap a T cls)
  (k:∀h' T',LQ ((env::outer).filterMap (·.frame)) [a,T] s.heap h' a T' cls->Q () { s with heap:=h' }):wpAny M A (noteFrame (.ref a) env) (λ_ iZ=>wpAny M A (setFlight (.ref a) none) Q E iZ) E s:=by
 obtain⟨oe,vs,oT,ts,h1,h2,h3,h4,h5,h6,h7,h8,h9⟩:=tr
 have s1:1<vs.size:=(Ka.mp h5).1
 have s3:3<ts.size:=(Ka.mp h9).1
 unfold noteFrame
 simp only[hf]
 refine wpAny_bind (wpAny_field h1 h4 h5 ?_)
 rw[if_pos (by simp)]
 refine wpAny_bind (wpAny_field h7 h8 h9 ?_)
 rw[if_neg (by simp[rawInt])]
 refine wpAny_bind (wpAny_setField h7 h8 s3 ?_)
 generalize hg:s.heap.update T (Obj.mapFields λz=>z.setIfInBounds 3 pP)=g
 have qJ:∀b,b≠T->g.get? b=s.heap.get? b:=λb hb=>by rw[<-hg];exact pV _ _ (dF hb)
 have bT:∀b o,s.heap.get? b=some o->(∀ws,o.data≠.fields ws)->b≠T:=λb o q hn z=>by subst z;rw[h7]at q;cases q;exact hn ts h8
 have gT:∃WC,g.get? T=some WC:=⟨_,by rw[<-hg];exact Bh _ h7 (J9 (Br h8 _))⟩
 refine LP (s:={ s with heap:=g }) dz (hl.of_keeps λb o q hn=>⟨o,(qJ b (bT b o q hn)).trans q,rfl⟩) hf ((qJ a (dF h6)).trans h1) h4 s1 na λh' T' en=>?_
 have WD:T'≠T:=λz=>by subst z;obtain⟨o,q⟩:=gT;rw[en.new]at q;cases q
 refine LR (s:={ s with heap:=h' }) (h2 ▸ en.fin h4 s1 h3) λCJ kp CK=>?_
 refine k CJ T' ⟨(qJ T' WD).symm.trans en.new,λb o hz hb q=>?_,λb o hz q=>?_,CK⟩
 ·have z1:b≠a:=λz=>hz (by simp[z])
  have z2:b≠T:=λz=>hz (by simp[z])
  have z3:b≠T':=λz=>by have:=en.new;rw[<-z,qJ b z2,q]at this;cases this
  exact kp b o z3 (en.keep b o z1 hb ((qJ b z2).trans q))
 ·have z1:b≠a:=λz=>hz (by simp[z])
  have z2:b≠T:=λz=>hz (by simp[z])
  have z3:b≠T':=λz=>by have:=en.new;rw[<-z,qJ b z2,q]at this;cases this
  obtain⟨sl,r⟩:=en.slot b o z1 ((qJ b z2).trans q)
  exact⟨sl,kp b _ z3 r⟩
theorem WE{h1:Heap}{args:List Value}(dz:A.frames=some (env::outer))(hl:s.heap.FunFrames base (env::outer))(hf:env.frame=some L)(hx:Kb s.heap h1 a cls args)
  (k:∀h' T',LQ ((env::outer).filterMap (·.frame)) [] s.heap h' a T' cls->Q () { s with heap:=h' }):wpAny M A (noteFrame (.ref a) env) (λ_ iZ=>wpAny M A (setFlight (.ref a) none) Q E iZ) E { s with heap:=h1 }:=by
 obtain⟨t,e1,_,_⟩:=hx.there
 have na:a ∉ (env::outer).filterMap (·.frame):=λhb=>by obtain⟨_,o,ho,_⟩:=hl.mem hb;rw[hx.new]at ho;cases ho
 unfold noteFrame
 simp only[hf]
 refine wpAny_bind (wpAny_field (s:={ s with heap:=h1 }) e1 rfl (x:=.none) (by rfl) ?_)
 rw[if_neg (by decide)]
 refine LP (s:={ s with heap:=h1 }) dz (hl.of_keeps λb o q _=>⟨o,hx.keeps b o q,rfl⟩) hf e1 rfl (by simp) na λh' T' en=>?_
 refine LR (s:={ s with heap:=h' }) (en.fin rfl (by simp) rfl) λCJ kp CK=>?_
 have ba:∀b o,s.heap.get? b=some o->b≠a:=λb o q z=>by rw[z,hx.new]at q;cases q
 have bT:∀b o,s.heap.get? b=some o->b≠T':=λb o q z=>by have:=hx.keeps b o q;rw[z,en.new]at this;cases this
 refine k CJ T' ⟨?_,λb o _ hb q=>kp b o (bT b o q) (en.keep b o (ba b o q) hb (hx.keeps b o q)),λb o _ q=>?_,CK⟩
 ·cases q:s.heap.get? T' with
  | none=>rfl
  | some o=>exact absurd rfl (bT T' o q)
 ·obtain⟨sl,r⟩:=en.slot b o (ba b o q) (hx.keeps b o q)
  exact⟨sl,kp b _ (bT b o q) r⟩
end
end L2
namespace L2
open PySem PySem.Spec PyProof.Rows
theorem cy.there{P:Program}{w:World}{H:Hp}{h:Heap}{a:Addr}{o:HO}(x:cy P w H h a o):∃u,h.get? a=some u:=by
 cases o with
 | lst xs=>obtain⟨_,_,_,_,e⟩:=x;exact⟨_,e⟩
 | tup xs=>obtain⟨_,_,_,o,e,_⟩:=x;exact⟨o,e⟩
 | dK ao=>obtain⟨_,_,_,_,o,_,_,e,_⟩:=x;exact⟨_,e⟩
 | dT ao=>obtain⟨_,_,_,_,o,_,_,e,_⟩:=x;exact⟨_,e⟩
 | set S n=>obtain⟨o,_,_,_,e,_⟩:=x;exact⟨_,e⟩
 | ins C dx fs=>obtain⟨_,_,_,e,_⟩:=x;exact⟨_,e⟩
 | own y=>exact x
 | xd fs=>obtain⟨_,⟨_,_,_,e,_⟩,_⟩:=x;exact⟨_,e⟩
 | vp lo hi=>obtain⟨_,_,_,e⟩:=x;exact⟨_,e⟩
 | bR ob u=>obtain⟨e,_⟩:=x;exact⟨_,e⟩
 | cO ps=>exact⟨_,show h.get? a=some _ from x.1⟩
 | met f y=>exact⟨_,show h.get? a=some _ from x⟩
 | ext φ=>obtain⟨_,e,_⟩:=x;exact e
theorem bS.none{P:Program}{w:World}{H:Hp}{h:Heap}{a:Addr}(x:bS P w H h)(e:h.get? a=.none):H a=.none:=by
 cases q:H a with
 | none=>rfl
 | some u=>obtain⟨o,z⟩:=(x a u q).there;rw[e]at z;cases z
structure Apart(X:Cx)(pins:List (Addr × Obj))(H:Hp)(b:Addr):Prop where
 old:X.bP.heap.get? b=none
 free:H b=none
 loc:b≠X.env.locals
 cell:∀x c,X.env.cells.lookup x=some c->c≠b
 pin:∀p∈X.pn++pins,p.1≠b
 fr:b ∉ cT X.stack
section
variable{X:Cx}{pins:List (Addr × Obj)}{σ:St}{H H':Hp}{s:Shared}{a T b:Addr}{cls:Value}{M:Model}{Q:Unit->Shared->Prop}{E:Value->Shared->Prop}{h':Heap}
theorem WG(I:Inv X pins σ H s)(hb:b∈cT X.stack):∃o,s.heap.get? b=some o/\∀vs,o.data≠.fields vs:=(I.stack.mem hb).2
theorem Inv.old(I:Inv X pins σ H s)(hex:X.ex=[])(e:s.heap.get? b=none):X.bP.heap.get? b=none:=by
 cases q:X.bP.heap.get? b with
 | none=>rfl
 | some o=>obtain⟨o',z⟩:=I.base.there b o q (by rw[hex];simp);rw[e]at z;cases z
theorem Inv.apart(I:Inv X pins σ H s)(hex:X.ex=[])(e:s.heap.get? b=none)(n:H' b=none):Apart X pins H' b where
 old:=I.old hex e
 free:=n
 loc:=λz=>by obtain⟨m,⟨o,_,_,ho,_⟩,_⟩:=I.loc;rw[z,ho]at e;cases e
 cell:=λx c hc z=>by obtain⟨v,o,ho,_⟩:=I.cell x c hc;rw[z,e]at ho;cases ho
 pin:=λp hp z=>by have:=(I.pin p hp).1;rw[z,e]at this;cases this
 fr:=λhb=>by obtain⟨o,ho,_⟩:=WG I hb;rw[e]at ho;cases ho
theorem LS(I:Inv X pins σ H s)(cK:X.stack=X.env::X.outer)(hex:X.ex=[])(hf:X.env.frame=some X.env.locals)(Z:List Addr)(hZ:∀b∈Z,X.bP.heap.get? b=none/\H b=none)
  (keep:∀b o,b ∉ Z->b ∉ cT X.stack->s.heap.get? b=some o->h'.get? b=some o) (slots:∀b o,b ∉ Z->s.heap.get? b=some o->∃sl,h'.get? b=some { o with slots:=sl }) :
  Un (cT X.outer) [] X.iW H X.bP.heap h'/\bS X.prog X.w H h':=by
 have qK:∀b o,X.bP.heap.get? b=some o->b ∉ Z:=λb o e z=>by rw[(hZ b z).1]at e;cases e
 have sub:∀b,b∈cT X.stack->b=X.env.locals\/b∈cT X.outer:=λb hb=>by
  rw[cK]at hb
  unfold cT at hb
  rw[sq,hf]at hb
  exact cg.mp hb
 have sup:∀b,b∈cT X.outer->b∈cT X.stack:=λb hb=>by
  rw[cK]
  unfold cT
  rw[sq,hf]
  exact fm _ hb
 have sR:∀b o,X.bP.heap.get? b=some o->b≠X.env.locals:=λb o e=>dU (ck (bH e) I.ok.above)
 have nx:∀b:Addr,b ∉ X.ex:=λb=>by rw[hex];simp
 refine⟨⟨λb o e n hb _=>?_,λb o e n hb _=>?_,λb o e n _=>I.base.free b o e n (nx b),λb o e _=>?_,I.base.eP,I.base.eI,I.base.dS⟩,λb ob e=>?_⟩
 ·exact keep b o (qK b o e) (λz=>(sub b z).elim (sR b o e) hb) (I.base.keep b o e n hb (nx b))
 ·obtain⟨sl,e1⟩:=I.base.slot b o e n hb (nx b)
  exact(slots b _ (qK b o e) e1).imp λsl h=>h
 ·obtain⟨o',e1⟩:=I.base.there b o e (nx b)
  exact(slots b o' (qK b o e) e1).elim λsl q=>⟨_,q⟩
 ·refine(I.az b ob e).gu (λc u hc q=>keep c u (λz=>?_) (λz=>?_) q) (λ_ q=>q) (λ_ _ q=>q) λ_ _ q=>q
  ·have n:=(hZ c z).2
   rcases hc with rfl | hc
   ·rw[n]at e;cases e
   ·rw[n]at hc;cases hc
  ·have n:=I.ye c z
   rcases hc with rfl | hc
   ·rw[n]at e;cases e
   ·rw[n]at hc;cases hc
structure LU(X:Cx)(H:Hp)(h':Heap)(a T:Addr)(cls:Value):Prop where
 un:Un (cT X.outer) [] X.iW H X.bP.heap h'
 az:bS X.prog X.w H h'
 vW:qI h' a T cls
 a0:X.bP.heap.get? a=none
 a1:H a=none
 t0:X.bP.heap.get? T=none
 t1:H T=none
theorem WH(I:Inv X pins σ H s)(cK:X.stack=X.env::X.outer)(hex:X.ex=[])(hf:X.env.frame=some X.env.locals)(tr:qI s.heap a T cls)(pa:Apart X pins H a)(pT:Apart X pins H T)
  (hQ:∀h' T',LU X H h' a T' cls->Q () { s with heap:=h' }):wpAny M X.A (leaving X.env (.ref a)) Q E s:=by
 have hZ:∀b∈[a,T],X.bP.heap.get? b=none/\H b=none:=λb hb=>by
  rcases cg.mp hb with rfl | hb
  ·exact⟨pa.old,pa.free⟩
  ·rw[iU.mp hb];exact⟨pT.old,pT.free⟩
 have na:a ∉ (X.env::X.outer).filterMap (·.frame):=by have:=pa.fr;rw[cK]at this;exact this
 refine wpAny_bind (WB (base:=X.base) (by rw[I.ok.frames,cK]) (cK ▸ I.stack) hf na tr λh' T' st=>?_)
 have kp:∀b o,b ∉ [a,T]->b ∉ cT X.stack->s.heap.get? b=some o->h'.get? b=some o:=λb o hz hb q=>st.keep b o hz (by rw[cK]at hb;exact hb) q
 obtain⟨un,az⟩:=LS (h':=h') I cK hex hf [a,T] hZ kp st.slot
 exact hQ h' T' ⟨un,az,st.vW,pa.old,pa.free,I.old hex st.new,I.az.none st.new⟩
theorem WI{h1:Heap}{args:List Value}(I:Inv X pins σ H s)(cK:X.stack=X.env::X.outer)(hex:X.ex=[])(hf:X.env.frame=some X.env.locals)(hx:Kb s.heap h1 a cls args)
  (hQ:∀h' T',LU X H h' a T' cls->Q () { s with heap:=h' }):wpAny M X.A (leaving X.env (.ref a)) Q E { s with heap:=h1 }:=by
 refine wpAny_bind (WE (base:=X.base) (by rw[I.ok.frames,cK]) (cK ▸ I.stack) hf hx λh' T' st=>?_)
 have kp:∀b o,b ∉ ([]:List Addr)->b ∉ cT X.stack->s.heap.get? b=some o->h'.get? b=some o:=λb o hz hb q=>st.keep b o hz (by rw[cK]at hb;exact hb) q
 obtain⟨un,az⟩:=LS (h':=h') I cK hex hf [] (λb hb=>absurd hb (by simp)) kp st.slot
 exact hQ h' T' ⟨un,az,st.vW,I.old hex hx.new,I.az.none hx.new,I.old hex st.new,I.az.none st.new⟩
end
noncomputable def kW(P:Program)(w:World):dG:=λouter H s E e s'=>∃a T cls H',e=.ref a/\s'.os=s.os/\AllBare s'.gens/\Un (cT outer) [] H H' s.heap s'.heap/\bS P w H' s'.heap/\qI s'.heap a T cls /\
 s.heap.get? a=none/\H' a=none/\s.heap.get? T=none/\H' T=none/\E cls none H'
section
variable{X:Cx}{pins:List (Addr × Obj)}{σ:St}{H H':Hp}{s:Shared}{a T b:Addr}{cls:Value}{M:Model}{Q:Unit->Shared->Prop}{E:Value->Shared->Prop}{h':Heap}
theorem Inv.dv7(I:Inv X pins σ H s)(hex:X.ex=[])(Z:List Addr)(hZ:∀b∈Z,Apart X pins H b)
  (keep:∀b o,b ∉ Z->b ∉ cT X.stack->s.heap.get? b=some o->h'.get? b=some o) (slots:∀b o,b ∉ Z->s.heap.get? b=some o->∃sl,h'.get? b=some { o with slots:=sl }) (g':Array GenState) (t':Nat) (d':Drawn) (hg:AllBare g') :
  Inv X pins σ H { s with heap:=h',gens:=g',toks:=t',drawn:=d' }:=by
 have nx:∀b:Addr,b ∉ X.ex:=λb=>by rw[hex];simp
 have any:=slots
 have qK:∀b o,X.bP.heap.get? b=some o->b ∉ Z:=λb o e z=>by rw[(hZ b z).old]at e;cases e
 have sR:∀b o,X.bP.heap.get? b=some o->b≠X.env.locals:=λb o e=>dU (ck (bH e) I.ok.above)
 have cz:∀x c,X.env.cells.lookup x=some c->c ∉ Z:=λx c e z=>(hZ c z).cell x c e rfl
 have cellK:∀x c,X.env.cells.lookup x=some c->∀v,s.heap.IsCell c v->h'.IsCell c v:=λx c e v zz=>by
  obtain⟨o,ho,hd⟩:=zz
  obtain⟨sl,q⟩:=any c o (cz x c e) ho
  exact⟨_,q,hd⟩
 have LV:∀b,b ∉ X.fs->b≠X.env.locals->b ∉ cT X.stack:=λb h1 h2 h3=>(cg.mp (I.vy b h3)).elim h2 h1
 refine⟨I.ok,I.os,hg,⟨λb o e n hb hx=>?_,λb o e n hb hx=>?_,I.base.free,λb o e hx=>?_,I.base.eP,I.base.eI,I.base.dS⟩,?_,λx c e=>?_,I.free,I.fu,λp hp=>?_,λb ob e=>?_,I.len⟩
 ·exact keep b o (qK b o e) (LV b hb (sR b o e)) (I.base.keep b o e n hb hx)
 ·obtain⟨sl,e1⟩:=I.base.slot b o e n hb hx
  obtain⟨vt,e2⟩:=any b _ (qK b o e) e1
  exact⟨vt,e2⟩
 ·obtain⟨o',e1⟩:=I.base.there b o e hx
  obtain⟨sl,e2⟩:=any b o' (qK b o e) e1
  exact⟨_,e2⟩
 ·obtain⟨m,hn,hl⟩:=I.loc
  obtain⟨o,es,ep,ho,hd,r⟩:=id hn
  obtain⟨sl,q⟩:=slots _ o (λz=>(hZ _ z).loc rfl) ho
  refine⟨m,⟨_,es,ep,q,hd,r⟩,λi x v e1 e2 e3=>?_⟩
  obtain⟨u,r,l⟩:=hl i x v e1 e2 e3
  refine⟨u,r,?_⟩
  rcases l with l | ⟨k,c,e,z⟩
  ·exact .inl l
  ·exact .inr ⟨k,c,e,cellK x c e _ z⟩
 ·obtain⟨v,z⟩:=I.cell x c e
  exact⟨v,cellK x c e v z⟩
 ·obtain⟨e,n,ne,nf,d⟩:=I.pin p hp
  exact⟨keep p.1 p.2 (λz=>(hZ _ z).pin p hp rfl) (LV _ nf ne) e,n,ne,nf,d⟩
 ·refine(I.az b ob e).gu (λc u hc q=>keep c u (λz=>?_) (λz=>?_) q) (λ_ q=>q) (λ_ _ q=>q) λ_ _ q=>q
  ·have n:=(hZ c z).free
   rcases hc with rfl | hc
   ·rw[n]at e;cases e
   ·rw[n]at hc;cases hc
  ·have n:=I.ye c z
   rcases hc with rfl | hc
   ·rw[n]at e;cases e
   ·rw[n]at hc;cases hc
end
end L2
namespace L2
open PySem PySem.W PySem.Spec PySem.Calls PyProof.Rows
section
variable{prog:Program}{w:World}{A:Around}{E:Value->Shared->Prop}{s:Shared}{K:Frag}{x D:Addr}{ox:Obj}{WJ:Option Obj}
end
end L2
namespace L2
open PySem PySem.W PySem.Spec PySem.Calls PyProof.Rows
section
variable{prog:Program}{w:World}{A:Around}{E:Value->Shared->Prop}{s:Shared}{K:Frag}{x D:Addr}{ox:Obj}{WJ:Option Obj}
structure LW(K:Frag)(C:Addr):Prop where
 cls:(clsIn K C).isSome=true
 ga:findIn K (.ref C) "__getattribute__"=some (some (.builtin "BaseException.__getattribute__"))
 gt:findIn K (.ref C) "__getattr__"=some none
 ca:findIn K (.ref C) "__class__"=some (some (.builtin "object.__class__"))
 hn:specialIn K (.builtin "object.__class__") "__get__"=some (some (.builtin "getset_descriptor.__get__"))
 tk:takesIn K (.builtin "object.__class__")=some true
 mo:mroIn K C (.type "object")=some true
 mb:mroIn K C (.type "BaseException")=some true
noncomputable def LX(a C:Addr)(h:Heap):Prop:=∃o,h.get? a=some o/\o.cls=.ref C/\notCls o=true/\o.dict=none
end
end L2
namespace L2
open PySem PySem.Spec PyProof.Rows
section
variable{X:Cx}{pins:List (Addr × Obj)}{σ:St}{H:Hp}{s:Shared}{h':Heap}{its:List Addr}{T:Addr}{o:HO}{t':Nat}
theorem Inv.yE(I:Inv X pins σ H s)(k:∀b o,b ∉ its->s.heap.get? b=some o->h'.get? b=some o)(hf:∀b∈its,gx X pins H b):Inv X pins σ H { s with heap:=h',toks:=t' }:=by
 have nv:∀b u,H b=some u->b ∉ its:=λb u e z=>by have:=(hf b z).1;rw[this]at e;cases e
 refine I.step (g':=s.gens) (d':=s.drawn) (ch:=its) (λb hb=>?_) (λb o _ _ hc e _=>k b o hc e) (λb o _ _ hc e _=>⟨o.slots,k b o hc e⟩) (λ_ _ _ _ n=>n)
  (λb o hc e=>⟨o,k b o hc e⟩) (λ_ _ e=>e) (λ_ _ _ e=>e) (λb ps e=>⟨#[],by rw[e];simp⟩) (λm hm=>?_) (λb u e=>?_) I.bare
 ·obtain⟨_,h1,_,h2,h3,h4⟩:=hf b hb
  exact⟨h2,h1,h3,h4⟩
 ·obtain⟨o,es,ep,ho,r⟩:=hm
  exact⟨o,es,ep,k _ o (λz=>(hf _ z).2.1 rfl) ho,r⟩
 ·refine(I.az b u e).gu (λc v hc q=>k c v ?_ q) (λ_ q=>q) (λ_ _ q=>q) λ_ _ q=>q
  rcases hc with z | z
  ·rw[z];exact nv b u e
  ·exact nv c _ z
theorem Inv.LY(I:Inv X pins σ H s)(k:∀b o,b ∉ its->s.heap.get? b=some o->h'.get? b=some o)(hf:∀b∈its,gx X pins H b)(hT:s.heap.objs.size<=T)(new:cy X.prog X.w (upd H T o) h' T o) :
  Inv X pins σ (upd H T o) { s with heap:=h',toks:=t' }:=by
 have nv:∀b u,H b=some u->b ∉ its:=λb u e z=>by have:=(hf b z).1;rw[this]at e;cases e
 have fT:H T=none:=I.az.fresh hT
 have neT:∀b u,H b=some u->b≠T:=λb u e z=>by rw[z,fT]at e;cases e
 have WK:∀b u,s.heap.get? b=some u->b≠T:=λb u e z=>absurd (ck (bH e) hT) (by rw[z];exact dO _)
 refine I.step (g':=s.gens) (d':=s.drawn) (ch:=its) (λb hb=>?_) (λb o _ _ hc e _=>k b o hc e) (λb o _ _ hc e _=>⟨o.slots,k b o hc e⟩) (λb u _ e n=>by rw[aN (WK b u e)];exact n)
  (λb o hc e=>⟨o,k b o hc e⟩) (λb _ e=>by rw[aN (neT b _ e)];exact e) (λb _ _ e=>by rw[aN (neT b _ e)];exact e) (λb ps e=>⟨#[],by rw[aN (neT b _ e),e];simp⟩) (λm hm=>?_) (λb u e=>?_) I.bare
 ·obtain⟨_,h1,_,h2,h3,h4⟩:=hf b hb
  exact⟨h2,h1,h3,h4⟩
 ·obtain⟨o,es,ep,ho,r⟩:=hm
  exact⟨o,es,ep,k _ o (λz=>(hf _ z).2.1 rfl) ho,r⟩
 ·by_cases hb:b=T
  ·subst hb;rw[bM]at e;cases e;exact new
  ·rw[aN hb]at e
   refine(I.az b u e).gu (λc v hc q=>k c v ?_ q) (λc q=>by rw[aN (neT c _ q)];exact q) (λc _ q=>by rw[aN (neT c _ q)];exact q) λc _ q=>by rw[aN (neT c _ q)];exact q
   rcases hc with z | z
   ·rw[z];exact nv b u e
   ·exact nv c _ z
noncomputable def CL(K:PySem.W.Frag)(a b:Addr):It :=
 ⟨λi H=>∃xs ys x y,bt K H a xs/\bt K H b ys/\xs[i]?=some x/\ys[i]?=some y,
  λi H v H'=>∃T x y,v=.ref T/\H T=none/\H'=upd H T (.tup [x,y])/\(∀xs,bt K H a xs->xs[i]?=some x)/\∀ys,bt K H b ys->ys[i]?=some y,
  λi H=>∃xs ys,bt K H a xs/\bt K H b ys/\(xs.length<=i\/ys.length<=i)⟩
theorem nG{K:PySem.W.Frag}{a c:Addr}{xs:List V}(hk:X.K=K)(I:Inv X pins σ H s)(h:bt K H a xs)(hf:gx X pins H c)(ho:∃o,s.heap.get? c=some o/\o.cls≠.type "list"):a≠c:=by
 subst hk
 obtain⟨its,rv,p,hz⟩:=I.list h
 obtain⟨o,e,d⟩:=ho
 obtain⟨o',e',c',_⟩:=p.isList
 intro z
 subst z
 rw[e]at e';cases e'
 exact d c'
theorem WL{P:Program}{w:World}{K:PySem.W.Frag}{elts:List Expr}{k:Nat}{pos:Pos}(a b z TI TO i1 i2:Addr)(D5:[z,TI,TO,i1,i2].Nodup) :
  Turn P w K (.Tuple elts k pos) (CL K a b) [z,TI,TO,i1,i2] z (λi h=>IsZip h z TI TO .none/\IsPair h TI (.ref i1) (.ref i2)/\(∃u v,IsPair h TO u v)/\h.IsListIter i1 a i/\h.IsListIter i2 b i):=by
 have ap:∀(X:Cx) (pins:List (Addr × Obj)) (s:Shared) (σ:St) (H:Hp) (i:Nat) (xs ys:List V),X.K=K->Inv X pins σ H s->(∀b∈[z,TI,TO,i1,i2],gx X pins H b)->IsZip s.heap z TI TO .none->(∃u v,IsPair s.heap TO u v)->s.heap.IsListIter i1 a i->s.heap.IsListIter i2 b i ->
   bt K H a xs->bt K H b ys->ZipApart z TI TO i1 i2 a b:=by
  intro X pins s σ H i xs ys hK I hf hz gF h1 h2 hx hy
  simp only[jD,cg,not_or,iV,not_false_eq_true,and_true]at D5
  obtain⟨⟨d1,d2,d3,d4⟩,⟨d5,d6,d7⟩,⟨d8,d9⟩,WM,_⟩:=D5
  have oz:∃o,s.heap.get? z=some o/\o.cls≠.type "list":=⟨_,hz,by intro q;exact absurd (Bt q) (by decide)⟩
  have LZ:∃o,s.heap.get? TO=some o/\o.cls≠.type "list":=by obtain⟨u,v,e⟩:=gF;exact⟨_,e,by intro q;exact absurd (Bt q) (by decide)⟩
  have o1:∃o,s.heap.get? i1=some o/\o.cls≠.type "list":=by obtain⟨o,e,c,d⟩:=h1;exact⟨_,e,by rw[c];intro q;exact absurd (Bt q) (by decide)⟩
  have o2:∃o,s.heap.get? i2=some o/\o.cls≠.type "list":=by obtain⟨o,e,c,d⟩:=h2;exact⟨_,e,by rw[c];intro q;exact absurd (Bt q) (by decide)⟩
  exact⟨dF d1,dF d2,dF d3,dF d4,d5,d6,d7,d8,d9,WM,
   nG hK I hx (hf z (by simp)) oz,nG hK I hx (hf TO (by simp)) LZ,nG hK I hx (hf i1 (by simp)) o1,nG hK I hx (hf i2 (by simp)) o2,
   nG hK I hy (hf z (by simp)) oz,nG hK I hy (hf TO (by simp)) LZ,nG hK I hy (hf i1 (by simp)) o1,nG hK I hy (hf i2 (by simp)) o2⟩
 refine⟨by simp,λi h st c hc=>?_,λi h h' st kk=>?_,?_,?_,λ_ _ _ _ _ st h=>wpAny_pyIter_zip st.1 h⟩
 ·obtain⟨hz,jc,⟨u,v,gF⟩,⟨o1,e1,c1,d1⟩,⟨o2,e2,c2,d2⟩⟩:=st
  simp only[cg,iV,or_false]at hc
  rcases hc with rfl | rfl | rfl | rfl | rfl
  ·exact⟨_,hz,λv q=>by cases q⟩
  ·exact⟨_,jc,λv q=>by cases q⟩
  ·exact⟨_,gF,λv q=>by cases q⟩
  ·exact⟨_,e1,λv q=>by rw[d1]at q;cases q⟩
  ·exact⟨_,e2,λv q=>by rw[d2]at q;cases q⟩
 ·obtain⟨hz,jc,⟨u,v,gF⟩,h1,h2⟩:=st
  exact⟨kk _ (by simp) _ hz,kk _ (by simp) _ jc,⟨u,v,kk _ (by simp) _ gF⟩,h1.at λo e=>kk _ (by simp) o e,h2.at λo e=>kk _ (by simp) o e⟩
 ·intro X hP hw hK hc i pins s σ H E I hf st hg
  obtain⟨xs,ys,x,y,hx,hy,ex,ey⟩:=hg
  obtain⟨hz,jc,⟨u,v,gF⟩,h1,h2⟩:=st
  have D:=ap X pins s σ H i xs ys hK I hf hz ⟨u,v,gF⟩ h1 h2 hx hy
  subst hP hw hK
  obtain⟨as,ra,pa,_⟩:=I.list hx
  obtain⟨bs,rb,pb,_⟩:=I.list hy
  obtain⟨ux,CM,rx⟩:=ra.get ex
  obtain⟨uy,WN,ry⟩:=rb.get ey
  refine wpAny_pyNext_zip_item D hz jc gF h1 h2 pa.isList pb.isList (x:=ux) (y:=uy) (by simpa using CM) (by simpa using WN) λh' z' WO iG hW T' sz kk=>?_
  have fT:H s.heap.objs.size=none:=I.az.fresh (bD _)
  have I1:Inv X pins σ (upd H s.heap.objs.size (.tup [x,y])) { s with heap:=h',toks:=s.toks }:=I.LY (its:=[z,TO,i1,i2]) (λc o hc e=>kk c o (λq=>hc (by simp[q])) (λq=>hc (by simp[q])) (λq=>hc (by simp[q])) (λq=>hc (by simp[q])) e)
   (λc hc=>hf c (by simp only[cg,iV,or_false]at hc ⊢;rcases hc with rfl | rfl | rfl | rfl<;>simp)) (bD _) ⟨by show 2<=sizeLine;decide,[ux,uy],.cons rx (.cons ry .nil),⟨_,T',rfl,_,rfl⟩⟩
  have nT:∀c∈[z,TI,TO,i1,i2],c≠s.heap.objs.size:=λc hc q=>by
   have:∃o,s.heap.get? c=some o:=by
    simp only[cg,iV,or_false]at hc
    rcases hc with rfl | rfl | rfl | rfl | rfl
    ·exact⟨_,hz⟩
    ·exact⟨_,jc⟩
    ·exact⟨_,gF⟩
    ·obtain⟨o,e,_⟩:=h1;exact⟨o,e⟩
    ·obtain⟨o,e,_⟩:=h2;exact⟨o,e⟩
   obtain⟨o,e⟩:=this
   exact absurd (bH e) (by rw[q];exact dO _)
  refine⟨_,rfl,wpAny_letOwnedTupleGo_zip z' λCN CO sb=>?_⟩
  have CP:∀c∈[z],gx X pins (upd H s.heap.objs.size (.tup [x,y])) c:=λc hc=>by
   have e:c=z:=by simpa using hc
   subst e
   obtain⟨f0,fr⟩:=hf c (by simp)
   exact⟨by rw[aN (nT c (by simp))];exact f0,fr⟩
  have I2:=Inv.yE (h':=CN) (its:=[z]) (t':=s.toks) I1 (λc o hc e=>sb.extBut _ _ (λq=>hc (by simp[q])) e) CP
  refine⟨.ref s.heap.objs.size,_,I2,rfl,⟨_,x,y,rfl,fT,rfl,λWQ cW=>by rw[I.yj cW hx];exact ex,λL0 WR=>by rw[I.yj WR hy];exact ey⟩,⟨CO,sb.extBut _ _ D.TIz (kk _ _ D.TIz D.TITO D.TIi1 D.TIi2 jc),⟨ux,uy,sb.extBut _ _ D.TOz WO⟩,iG.extBut sb.extBut D.i1z,hW.extBut sb.extBut D.i2z⟩,λc hc=>?_⟩
  rw[aN (nT c hc)]
  exact(hf c hc).1
 ·intro X hP hw hK hc i pins s σ H E I hf st hg
  obtain⟨xs,ys,hx,hy,hl⟩:=hg
  obtain⟨hz,jc,⟨u,v,gF⟩,h1,h2⟩:=st
  have D:=ap X pins s σ H i xs ys hK I hf hz ⟨u,v,gF⟩ h1 h2 hx hy
  subst hP hw hK
  obtain⟨as,ra,pa,_⟩:=I.list hx
  obtain⟨bs,rb,pb,_⟩:=I.list hy
  have la:=ra.length
  have lb:=rb.length
  refine wpAny_pyNext_zip_end (I.ok.hd hc) D hz jc gF h1 h2 pa.isList pb.isList (hl.imp (λq=>by simp;omega) λq=>by simp;omega) λh' kk=>⟨rfl,?_⟩
  exact I.yE (its:=[z,TO,i1,i2]) (t':=s.toks) (λc o hc e=>kk c o (λq=>hc (by simp[q])) (λq=>hc (by simp[q])) (λq=>hc (by simp[q])) (λq=>hc (by simp[q])) e)
   (λc hc=>hf c (by simp only[cg,iV,or_false]at hc ⊢;rcases hc with rfl | rfl | rfl | rfl<;>simp))
noncomputable def CQ(K:PySem.W.Frag)(a:Addr):It :=
 ⟨λi H=>∃xs x,bt K H a xs/\xs[i]?=some x,
  λi H v H'=>∃T x,v=.ref T/\H T=none/\H'=upd H T (.tup [.int i,x])/\∀xs,bt K H a xs->xs[i]?=some x,
  λi H=>∃xs,bt K H a xs/\xs.length<=i⟩
theorem WS{P:Program}{w:World}{K:PySem.W.Frag}{elts:List Expr}{k:Nat}{pos:Pos}(a z it:Addr)(qL:z≠it) :
  Turn P w K (.Tuple elts k pos) (CQ K a) [z,it] z (λi h=>(∃old,IsEnum h z it i old)/\h.IsListIter it a i):=by
 refine⟨by simp,λi h st c hc=>?_,λi h h' st kk=>?_,?_,?_,λ_ _ _ _ _ st h=>by obtain⟨⟨old,e⟩,_⟩:=st;exact wpAny_pyIter_enum e h⟩
 ·obtain⟨⟨old,hz⟩,⟨o1,e1,c1,d1⟩⟩:=st
  simp only[cg,iV,or_false]at hc
  rcases hc with rfl | rfl
  ·exact⟨_,hz,λv q=>by cases q⟩
  ·exact⟨_,e1,λv q=>by rw[d1]at q;cases q⟩
 ·obtain⟨⟨old,hz⟩,h1⟩:=st
  exact⟨⟨old,kk _ (by simp) _ hz⟩,h1.at λo e=>kk _ (by simp) o e⟩
 ·intro X hP hw hK hc i pins s σ H E I hf st hg
  subst hP hw hK
  obtain⟨xs,x,hx,ex⟩:=hg
  obtain⟨⟨old,hz⟩,h1⟩:=st
  obtain⟨as,ra,pa,_⟩:=I.list hx
  obtain⟨ux,CM,rx⟩:=ra.get ex
  refine wpAny_pyNext_enum_item hz h1 pa.isList (x:=ux) (by simpa using CM) qL λh' z' iG T' sz kk=>?_
  have fT:H s.heap.objs.size=none:=I.az.fresh (bD _)
  have I1:Inv X pins σ (upd H s.heap.objs.size (.tup [.int i,x])) { s with heap:=h',toks:=s.toks+1 }:=I.LY (its:=[z,it]) (λc o hc e=>kk c o (λq=>hc (by simp[q])) (λq=>hc (by simp[q])) e)
   (λc hc=>hf c hc) (bD _) ⟨by show 2<=sizeLine;decide,[.int i s.toks,ux],.cons ⟨_,rfl⟩ (.cons rx .nil),⟨_,T',rfl,_,rfl⟩⟩
  have nT:∀c∈[z,it],c≠s.heap.objs.size:=λc hc q=>by
   have:∃o,s.heap.get? c=some o:=by
    simp only[cg,iV,or_false]at hc
    rcases hc with rfl | rfl
    ·exact⟨_,hz⟩
    ·obtain⟨o,e,_⟩:=h1;exact⟨o,e⟩
   obtain⟨o,e⟩:=this
   exact absurd (bH e) (by rw[q];exact dO _)
  refine⟨_,rfl,wpAny_letOwnedTupleGo_enum z' λCN CO sb=>?_⟩
  have CP:∀c∈[z],gx X pins (upd H s.heap.objs.size (.tup [.int i,x])) c:=λc hc=>by
   have e:c=z:=by simpa using hc
   subst e
   obtain⟨f0,fr⟩:=hf c (by simp)
   exact⟨by rw[aN (nT c (by simp))];exact f0,fr⟩
  have I2:=Inv.yE (h':=CN) (its:=[z]) (t':=s.toks+1) I1 (λc o hc e=>sb.extBut _ _ (λq=>hc (by simp[q])) e) CP
  refine⟨.ref s.heap.objs.size,_,I2,rfl,⟨_,x,rfl,fT,rfl,λWQ cW=>by rw[I.yj cW hx];exact ex⟩,⟨⟨ux,by simpa using CO⟩,iG.extBut sb.extBut (dF qL)⟩,λc hc=>?_⟩
  rw[aN (nT c hc)]
  exact(hf c hc).1
 ·intro X hP hw hK hc i pins s σ H E I hf st hg
  subst hP hw hK
  obtain⟨xs,hx,hl⟩:=hg
  obtain⟨⟨old,hz⟩,h1⟩:=st
  obtain⟨as,ra,pa,_⟩:=I.list hx
  have la:=ra.length
  refine wpAny_pyNext_enum_end (I.ok.hd hc) hz h1 pa.isList (by simp;omega) λh' kk=>⟨rfl,?_⟩
  exact I.yE (its:=[it]) (t':=s.toks) (λc o hc e=>kk c o (λq=>hc (by simp[q])) e) (λc hc=>hf c (by simp at hc ⊢;simp[hc]))
end
section
variable{X:Cx}{a b:Expr}{ta:TA}{p pos jL:Pos}{elts:List Expr}{x1:Nat}
noncomputable def WT(K:PySem.W.Frag)(ta:TA):TI:=λσ H R=>ta σ H λvs H1=>∃a b,vs=[.ref a,.ref b]/\(∃xs,bt K H1 a xs)/\(∃ys,bt K H1 b ys)/\R (CL K a b) H1
theorem WU:bootBuiltins "zip"=some (.type "zip"):=by decide +kernel
theorem WV(hg:Gl X "zip")(hm:X.mg "zip"=none)(ha:PA X [a,b] ta)(hs:starEach [a,b] X.env=[(false,eval a X.env),(false,eval b X.env)]:=by rfl)(fv:starEach [b] X.env=[(false,eval b X.env)]:=by rfl) :
  PI X (.Tuple elts x1 jL) (.Call (.Name "zip" p) [a,b] [] pos) (WT X.K ta):=by
 intro pins s σ H R I h
 refine Call_ (qu I hg hm WU (xN (aE (ha pos pins s σ H _ I h) λus s1 ⟨vs,H1,I1,r1,q1⟩=>?_) (by rw[hs,fv]) (by rw[fv];rfl)))
 obtain⟨a,b,e,⟨xs,hx⟩,⟨ys,hy⟩,q⟩:=q1
 subst e
 cases r1 with
 | cons r rr =>
  cases rr with
  | cons r2 rr =>
   cases rr
   cases r
   cases r2
   obtain⟨as,ra,pa,_⟩:=I1.list hx
   obtain⟨bs,rb,pb,_⟩:=I1.list hy
   refine call_zip_2 pa.isList pb.isList λh' hz jc gF h1 h2 sz kk=>wpAny_pyIter_zip hz ?_
   refine⟨_,[s1.heap.objs.size+4,s1.heap.objs.size+2,s1.heap.objs.size+3,s1.heap.objs.size,s1.heap.objs.size+1],_,_,H1,rfl,I1.kept (t':=s1.toks) kk,WL a b _ _ _ _ _ (by simp),⟨hz,jc,⟨_,_,gF⟩,h1,h2⟩,λc hc=>?_,q⟩
   have hle:s1.heap.objs.size<=c:=by
    simp only[cg,iV,or_false]at hc
    rcases hc with rfl | rfl | rfl | rfl | rfl<;>omega
   exact I1.yn hle (I1.az.fresh hle)
noncomputable def WW(K:PySem.W.Frag)(ta:TA):TI:=λσ H R=>ta σ H λvs H1=>∃a,vs=[.ref a]/\(∃xs,bt K H1 a xs)/\R (CQ K a) H1
theorem WX:bootBuiltins "enumerate"=some (.type "enumerate"):=by decide +kernel
theorem WY(hg:Gl X "enumerate")(hm:X.mg "enumerate"=none)(ha:PA X [a] ta)(hs:starEach [a] X.env=[(false,eval a X.env)]:=by rfl) :
  PI X (.Tuple elts x1 jL) (.Call (.Name "enumerate" p) [a] [] pos) (WW X.K ta):=by
 intro pins s σ H R I h
 refine Call_ (qu I hg hm WX (xN (aE (ha pos pins s σ H _ I h) λus s1 ⟨vs,H1,I1,r1,q1⟩=>?_) hs rfl))
 obtain⟨a,e,⟨xs,hx⟩,q⟩:=q1
 subst e
 cases r1 with
 | cons r rr =>
  cases rr
  cases r
  obtain⟨as,ra,pa,_⟩:=I1.list hx
  refine call_enumerate_list pa.isList λh' hz h1 sz kk=>wpAny_pyIter_enum hz ?_
  refine⟨_,[s1.heap.objs.size+1,s1.heap.objs.size],_,_,H1,rfl,I1.kept (t':=s1.toks) kk,WS a (s1.heap.objs.size+1) s1.heap.objs.size (Nat.succ_ne_self _),⟨⟨_,hz⟩,h1⟩,λc hc=>?_,q⟩
  have hle:s1.heap.objs.size<=c:=by
   simp only[cg,iV,or_false]at hc
   rcases hc with rfl | rfl<;>omega
  exact I1.yn hle (I1.az.fresh hle)
end
end L2
namespace L2
open PySem PySem.Spec PyProof.Rows PySem.W PySem.Calls
section
variable{X:Cx}
noncomputable def s8{α:Type}(xs:List α)(lo hi:Option Int):List α:=(xs.drop (HT.cE xs.length 0 lo)).take (HT.cE xs.length xs.length hi-HT.cE xs.length 0 lo)
theorem WZ(x:Str)(lo hi:Option Int):Txt.slice x lo hi=⟨(s8 x.cps.toList lo hi).toArray⟩:=by
 have hx:x.length=x.cps.size:=rfl
 have e:(Bu lo hi 1 x.length).filterMap (x.cps[·]?)=s8 x.cps.toList lo hi:=by
  obtain⟨h1,h2,h3⟩:=Cq lo hi x.length
  have e0:Bu lo hi 1 x.length=sliceRange (sliceBounds lo hi none x.length).1 (sliceBounds lo hi none x.length).2.1 1:=by
   cases lo<;>cases hi<;>rfl
  rw[e0,h1,h2]
  simp only[sliceRange_one,pick_run]
  unfold s8
  rw[hx,u6]
 unfold Txt.slice
 split
 ·rename_i h
  have hl:(Bu lo hi 1 x.length).length=x.length:=by
   rw[dm]at h;exact eq_of_beq h.2
  have hs:(s8 x.cps.toList lo hi)=x.cps.toList:=by
   have e2:HT.cE x.cps.toList.length x.cps.toList.length hi-HT.cE x.cps.toList.length 0 lo=x.length:=by
    obtain⟨h1,h2,h3⟩:=Cq lo hi x.length
    have e0:Bu lo hi 1 x.length=sliceRange (sliceBounds lo hi none x.length).1 (sliceBounds lo hi none x.length).2.1 1:=by
     cases lo<;>cases hi<;>rfl
    rw[e0,h1,h2]at hl
    simp only[sliceRange_one,bV,dQ]at hl
    rw[u6,<- hx]
    omega
   unfold s8
   have le:HT.cE x.cps.toList.length x.cps.toList.length hi<=x.cps.toList.length:=by
    cases hi with
    | none=>simp[HT.cE]
    | some i=>simp only[HT.cE];split<;>omega
   have W0:HT.cE x.cps.toList.length 0 lo<=x.cps.toList.length:=by
    cases lo with
    | none=>simp[HT.cE]
    | some i=>simp only[HT.cE];split<;>omega
   rw[u6,<- hx]at e2 le W0 ⊢
   have z:HT.cE x.length 0 lo=0:=by omega
   have z2:HT.cE x.length x.length hi=x.length:=by omega
   rw[z,z2,List.drop_zero,Nat.sub_zero,hx,<- u6,List.take_length]
  rw[hs]
 ·rw[e]
theorem W2:qG X (λx lo hi H Q=>∃z,x=.str z/\z.length<=sizeLine/\Q (.str ⟨(s8 z.cps.toList lo hi).toArray⟩) H):=by
 intro pins s σ H x v vl vu lo hi sl Q I rx hs pl pu h
 obtain⟨z,rfl,hz,q⟩:=h
 obtain⟨t,rfl⟩:=rx
 refine⟨"str",_,F.slot_str_getitem.lookup,typeIs_str _ _ _,?_⟩
 have fin:∀(l u:Option (Int × Tok)),l.map (·.1)=lo->u.map (·.1)=hi->partValue l=vl->partValue u=vu->wpAny (model X.prog X.w) X.A (getItem (.str z t) (.ref sl)) (EP X pins σ Q) X.xe s:=by
  intro l u h1 h2 h3 h4
  obtain⟨o,e1,e2,e3⟩:=hs
  refine wpAny_getItem_str_slice (l:=l) (u:=u) (st:=none) ⟨o,e1,e2,by rw[e3,h3,h4];rfl⟩ rfl ?_
  have e:Txt.slice z lo hi=(if(((none:Option (Int × Tok)).map (·.1)).getD 1==1&&(slicePicked z l u none).length==z.length)=true then z else⟨((slicePicked z l u none).filterMap (z.cps[·]?)).toArray⟩):=by
   unfold Txt.slice slicePicked;rw[h1,h2];rfl
  refine post_val_or_str ⟨?_,λt' k=>?_⟩
  ·rw[<-e];exact dW (Txt.slice_le z _ _) hz
  ·rw[<-e,WZ];exact⟨.str _,H,I.tok _,⟨_,rfl⟩,q⟩
 cases pl with
 | none =>
  cases pu with
  | none=>exact fin none none rfl rfl rfl rfl
  | int j tj=>exact fin none (some (j,tj)) rfl rfl rfl rfl
 | int i ti =>
  cases pu with
  | none=>exact fin (some (i,ti)) none rfl rfl rfl rfl
  | int j tj=>exact fin (some (i,ti)) (some (j,tj)) rfl rfl rfl rfl
end
end L2
namespace L3
open PySem L2
noncomputable def gG:HO->Bool
 | .cO _=>false
 | _=>true
structure aa(H H':Hp):Prop where
 get:∀b o,H b=some o->(h:gG o=true:=by rfl)->H' b=some o
 tb:∀b ps,H b=some (.cO ps)->∃more,H' b=some (.cO (ps++more))
noncomputable instance {H H':Hp}:CoeFun (aa H H') λ_=>∀b o,H b=some o->(h:gG o=true:=by rfl)->H' b=some o:=⟨λs=>@aa.get _ _ s⟩
theorem CS{o:HO}(h:gG o=false):∃ps,o=.cO ps:=by
 cases o with
 | cO ps=>exact⟨ps,rfl⟩
 | _=>cases h
theorem aa.of{H H':Hp}(h:∀b o,H b=some o->H' b=some o):aa H H':=⟨λb o e _=>h b o e,λb ps e=>⟨#[],by rw[h b _ e];simp⟩⟩
theorem aa.refl(H:Hp):aa H H:=.of λ_ _ h=>h
theorem aa.trans{H H1 H2:Hp}(a:aa H H1)(b:aa H1 H2):aa H H2 :=
 ⟨λc o h n=>b.get c o (a.get c o h n) n,λc ps h=>by
  obtain⟨m1,e1⟩:=a.tb c ps h
  obtain⟨m2,e2⟩:=b.tb c _ e1
  exact⟨m1++m2,by rw[e2,u5]⟩⟩
theorem aa.any{H H':Hp}(e:aa H H'){l:Addr}{o:HO}(h:H l=some o):∃o',H' l=some o':=by
 cases n:gG o with
 | true=>exact⟨o,e.get l o h n⟩
 | false =>
  obtain⟨ps,rfl⟩:=CS n
  obtain⟨m,q⟩:=e.tb l ps h
  exact⟨_,q⟩
theorem aa.free{H H':Hp}(e:aa H H'){l:Addr}(h:H' l=Bk):H l=Bk:=by
 cases q:H l with
 | none=>rfl
 | some o =>
  obtain⟨o',z⟩:=e.any q
  rw[z]at h
  cases h
theorem aa.seq{K:PySem.W.Frag}{H H':Hp}{a:Addr}{xs:List V}(e:aa H H')(h:bt K H a xs):bt K H' a xs:=by
 rcases h with (h | ⟨o,h⟩) | h
 ·exact .inl (.inl (e _ _ h))
 ·exact .inl (.inr ⟨o,e _ _ h⟩)
 ·exact .inr h
inductive qM where
 | ext (φ:Addr->Heap->Prop)
 | lam (of oc:Obj) (c k:Addr)
noncomputable instance:Coe (Addr->Heap->Prop) qM:=⟨.ext⟩
noncomputable def CT(H:Hp)(k:Addr):Prop:=∃ψ,H k=some (.ext ψ)/\∀h,ψ h->∃q,h.CodeRec (.ref k) q
noncomputable def ib(of oc:Obj)(c p:Addr):Heap->Prop:=λh=>h.get? p=some of/\h.get? c=some oc
structure fW(H:Hp)(p:Addr)(of oc:Obj)(c k:Addr):Prop where
 fn:H p=some (.ext (ib of oc c p))
 cell:H c=some (.own p)
 yF:CT H k
noncomputable def iH(H:Hp)(p:Addr):qM->Prop
 | .ext φ=>H p=some (.ext (φ p))
 | .lam of oc c k=>fW H p of oc c k
theorem iH.mono{H H':Hp}{p:Addr}:∀{z:qM},iH H p z->(∀a o,H a=some o->(∀ws,o≠.lst ws)->gG o=true->H' a=some o)->iH H' p z
 | .ext φ,x,k=>k _ _ x (λws q=>by cases q) rfl
 | .lam of oc c k',x,k=>⟨k _ _ x.fn (λws q=>by cases q) rfl,k _ _ x.cell (λws q=>by cases q) rfl,let⟨ψ,e,h⟩:=x.yF;⟨ψ,k _ _ e (λws q=>by cases q) rfl,h⟩⟩
inductive D where
 | ak | bl (b:Bool) | int (i:Int) | str (x:Str)
 | lst (o:Bool) (xs:List D)
 | tup (xs:List D)
 | obj (C:Addr) (ns:List Str) (xs:List D)
 | fz (xs:List D)
 | aU (z:qM)
 deriving Inhabited
noncomputable def D.pl:D->Bool
 | .lst o xs=>!o&&vX xs
 | .tup xs=>vX xs
 | _=>true
where vX:List D->Bool
 | []=>true
 | d::ds=>d.pl&&vX ds
noncomputable def D.fr:D->Bool
 | .lst o xs=>o&&vY xs
 | .tup xs=>vY xs
 | .obj _ _ _=>false
 | .fz _=>false
 | _=>true
where vY:List D->Bool
 | []=>true
 | d::ds=>d.fr&&vY ds
noncomputable def D.sh:D->D
 | .lst _ xs=>.lst false (vZ xs)
 | .tup xs=>.tup (vZ xs)
 | d=>d
where vZ:List D->List D
 | []=>[]
 | d::ds=>d.sh::vZ ds
theorem L4(ds:List D):D.pl.vX ds=ds.all D.pl:=by induction ds with | nil=>rfl | cons d ds ih=>simp[D.pl.vX,ih]
theorem L5(ds:List D):D.fr.vY ds=ds.all D.fr:=by induction ds with | nil=>rfl | cons d ds ih=>simp[D.fr.vY,ih]
theorem L6(ds:List D):D.sh.vZ ds=ds.map D.sh:=by induction ds with | nil=>rfl | cons d ds ih=>simp[D.sh.vZ,ih]
theorem fB(o:Bool)(xs:List D):(D.lst o xs).pl=(!o&&xs.all D.pl):=by simp[D.pl,L4]
theorem iJ(xs:List D):(D.tup xs).pl=xs.all D.pl:=by simp[D.pl,L4]
theorem eL(o:Bool)(xs:List D):(D.lst o xs).fr=(o&&xs.all D.fr):=by simp[D.fr,L5]
theorem kX(xs:List D):(D.tup xs).fr=xs.all D.fr:=by simp[D.fr,L5]
theorem di(o:Bool)(xs:List D):(D.lst o xs).sh=.lst false (xs.map D.sh):=by simp[D.sh,L6]
theorem je(xs:List D):(D.tup xs).sh=.tup (xs.map D.sh):=by simp[D.sh,L6]
inductive R(F H:Hp):List D->List V->List Addr->Prop
 | nil:R F H [] [] []
 | ak {ds vs B}:R F H ds vs B->R F H (.ak::ds) (.ak::vs) B
 | bl {b ds vs B}:R F H ds vs B->R F H (.bl b::ds) (.bl b::vs) B
 | int {i ds vs B}:R F H ds vs B->R F H (.int i::ds) (.int i::vs) B
 | str {x ds vs B}:R F H ds vs B->R F H (.str x::ds) (.str x::vs) B
 | shr {p ws xs ds vs B}:F p=some (.lst ws)->R F H xs ws []->R F H ds vs B->R F H (.lst false xs::ds) (.ref p::vs) B
 | own {p ws xs A ds vs B}:H p=some (.lst ws)->F p=none->R F H xs ws A->R F H ds vs B->R F H (.lst true xs::ds) (.ref p::vs) (p::(A++B))
 | tup {p ws xs A ds vs B}:H p=some (.tup ws)->R F H xs ws A->R F H ds vs B->R F H (.tup xs::ds) (.ref p::vs) (A++B)
 | obj {p C dx ns ws xs ds vs B}:H p=some (.ins C dx (ns.zip ws))->ns.length=ws.length->R F H xs ws []->R F H ds vs B->R F H (.obj C ns xs::ds) (.ref p::vs) B
 | fz {p o ws xs ds vs B}:F p=some (.bR o (.lst ws))->R F H xs ws []->R F H ds vs B->R F H (.fz xs::ds) (.ref p::vs) B
 | aU {p z ds vs B}:iH H p z->R F H ds vs B->R F H (.aU z::ds) (.ref p::vs) B
inductive S(F H:Hp):List D->List V->Prop
 | nil:S F H [] []
 | ak {ds vs}:S F H ds vs->S F H (.ak::ds) (.ak::vs)
 | bl {b ds vs}:S F H ds vs->S F H (.bl b::ds) (.bl b::vs)
 | int {i ds vs}:S F H ds vs->S F H (.int i::ds) (.int i::vs)
 | str {x ds vs}:S F H ds vs->S F H (.str x::ds) (.str x::vs)
 | shr {p ws xs ds vs}:F p=some (.lst ws)->R F H xs ws []->S F H ds vs->S F H (.lst false xs::ds) (.ref p::vs)
 | own {p ws xs ds vs}:H p=some (.lst ws)->S F H xs ws->S F H ds vs->S F H (.lst true xs::ds) (.ref p::vs)
 | tup {p ws xs ds vs}:H p=some (.tup ws)->S F H xs ws->S F H ds vs->S F H (.tup xs::ds) (.ref p::vs)
 | obj {p C dx ns ws xs ds vs}:H p=some (.ins C dx (ns.zip ws))->ns.length=ws.length->R F H xs ws []->S F H ds vs->S F H (.obj C ns xs::ds) (.ref p::vs)
 | fz {p o ws xs ds vs}:F p=some (.bR o (.lst ws))->R F H xs ws []->S F H ds vs->S F H (.fz xs::ds) (.ref p::vs)
 | aU {p z ds vs}:iH H p z->S F H ds vs->S F H (.aU z::ds) (.ref p::vs)
section
variable{F F' H H':Hp}{d:D}{ds es:List D}{v:V}{vs ws:List V}{A B:List Addr}
theorem R.length(r:R F H ds vs A):ds.length=vs.length:=by
 induction r<;>simp_all
theorem S.length(r:S F H ds vs):ds.length=vs.length:=by
 induction r<;>simp_all
theorem R.cons(r:R F H [d] [v] A)(q:R F H ds vs B):R F H (d::ds) (v::vs) (A++B):=by
 cases r with
 | ak r=>cases r;exact .ak q
 | bl r=>cases r;exact .bl q
 | int r=>cases r;exact .int q
 | str r=>cases r;exact .str q
 | shr h x r=>cases r;exact .shr h x q
 | own h f x r=>cases r;simpa using R.own h f x q
 | tup h x r=>cases r;simpa using R.tup h x q
 | obj h l x r=>cases r;exact .obj h l x q
 | fz h x r=>cases r;exact .fz h x q
 | aU h r=>cases r;exact .aU h q
theorem R.cP(r:R F H (d::ds) vs A):∃v cm A1 A2,vs=v::cm/\A=A1++A2/\R F H [d] [v] A1/\R F H ds cm A2:=by
 cases r with
 | ak r=>exact⟨_,_,[],_,rfl,rfl,.ak .nil,r⟩
 | bl r=>exact⟨_,_,[],_,rfl,rfl,.bl .nil,r⟩
 | int r=>exact⟨_,_,[],_,rfl,rfl,.int .nil,r⟩
 | str r=>exact⟨_,_,[],_,rfl,rfl,.str .nil,r⟩
 | shr h x r=>exact⟨_,_,[],_,rfl,rfl,.shr h x .nil,r⟩
 | @own p _ _ A1 _ _ B1 h f x r=>exact⟨_,_,p::A1,B1,rfl,rfl,by simpa using R.own h f x .nil,r⟩
 | @tup p _ _ A1 _ _ B1 h x r=>exact⟨_,_,A1,B1,rfl,rfl,by simpa using R.tup h x .nil,r⟩
 | obj h l x r=>exact⟨_,_,[],_,rfl,rfl,.obj h l x .nil,r⟩
 | fz h x r=>exact⟨_,_,[],_,rfl,rfl,.fz h x .nil,r⟩
 | aU h r=>exact⟨_,_,[],_,rfl,rfl,.aU h .nil,r⟩
theorem S.cons(r:S F H [d] [v])(q:S F H ds vs):S F H (d::ds) (v::vs):=by
 cases r with
 | ak r=>exact .ak q
 | bl r=>exact .bl q
 | int r=>exact .int q
 | str r=>exact .str q
 | shr h x r=>exact .shr h x q
 | own h x r=>exact .own h x q
 | tup h x r=>exact .tup h x q
 | obj h l x r=>exact .obj h l x q
 | fz h x r=>exact .fz h x q
 | aU h r=>exact .aU h q
theorem S.cP(r:S F H (d::ds) vs):∃v cm,vs=v::cm/\S F H [d] [v]/\S F H ds cm:=by
 cases r with
 | ak r=>exact⟨_,_,rfl,.ak .nil,r⟩
 | bl r=>exact⟨_,_,rfl,.bl .nil,r⟩
 | int r=>exact⟨_,_,rfl,.int .nil,r⟩
 | str r=>exact⟨_,_,rfl,.str .nil,r⟩
 | shr h x r=>exact⟨_,_,rfl,.shr h x .nil,r⟩
 | own h x r=>exact⟨_,_,rfl,.own h x .nil,r⟩
 | tup h x r=>exact⟨_,_,rfl,.tup h x .nil,r⟩
 | obj h l x r=>exact⟨_,_,rfl,.obj h l x .nil,r⟩
 | fz h x r=>exact⟨_,_,rfl,.fz h x .nil,r⟩
 | aU h r=>exact⟨_,_,rfl,.aU h .nil,r⟩
theorem R.append:∀{ds:List D} {vs:List V} {A:List Addr},R F H ds vs A->R F H es ws B->R F H (ds++es) (vs++ws) (A++B)
 | [],_,_,r,q=>by cases r;exact q
 | d::ds,_,_,r,q=>by
  obtain⟨v,cm,A1,A2,rfl,rfl,h1,h2⟩:=r.cP
  simpa using h1.cons (R.append h2 q)
theorem S.append:∀{ds:List D} {vs:List V},S F H ds vs->S F H es ws->S F H (ds++es) (vs++ws)
 | [],_,r,q=>by cases r;exact q
 | d::ds,_,r,q=>by
  obtain⟨v,cm,rfl,h1,h2⟩:=r.cP
  exact h1.cons (S.append h2 q)
theorem R.split:∀{ds:List D} {vs:List V} {A:List Addr},R F H (ds++es) vs A->∃v1 v2 A1 A2,vs=v1++v2/\A=A1++A2/\R F H ds v1 A1/\R F H es v2 A2
 | [],vs,A,r=>⟨[],vs,[],A,rfl,rfl,.nil,r⟩
 | d::ds,_,_,r=>by
  obtain⟨v,cm,A1,A2,rfl,rfl,h1,h2⟩:=R.cP (ds:=ds++es) r
  obtain⟨v1,v2,B1,B2,rfl,rfl,h3,h4⟩:=R.split (ds:=ds) h2
  exact⟨v::v1,v2,A1++B1,B2,rfl,by simp,h1.cons h3,h4⟩
theorem R.get:∀{ds:List D} {vs:List V} {A:List Addr} {i:Nat},R F H ds vs A->ds[i]?=some d->∃v A1,vs[i]?=some v/\R F H [d] [v] A1/\A1 ⊆ A
 | [],_,_,_,_,e=>by simp at e
 | d'::ds,_,_,i,r,e=>by
  obtain⟨v,cm,A1,A2,rfl,rfl,h1,h2⟩:=r.cP
  cases i with
  | zero=>simp at e;subst e;exact⟨v,A1,rfl,h1,by simp⟩
  | succ i =>
   obtain⟨w,B1,e2,q,sb⟩:=R.get (ds:=ds) (i:=i) h2 (by simpa using e)
   exact⟨w,B1,by simpa using e2,q,λx hx=>cR _ (sb hx)⟩
theorem S.get:∀{ds:List D} {vs:List V} {i:Nat},S F H ds vs->ds[i]?=some d->∃v,vs[i]?=some v/\S F H [d] [v]
 | [],_,_,_,e=>by simp at e
 | d'::ds,_,i,r,e=>by
  obtain⟨v,cm,rfl,h1,h2⟩:=r.cP
  cases i with
  | zero=>simp at e;subst e;exact⟨v,rfl,h1⟩
  | succ i =>
   obtain⟨w,e2,q⟩:=S.get (ds:=ds) (i:=i) h2 (by simpa using e)
   exact⟨w,by simpa using e2,q⟩
theorem S.get':∀{ds:List D} {vs:List V} {i:Nat},S F H ds vs->vs[i]?=some v->∃d,ds[i]?=some d/\S F H [d] [v]
 | [],_,_,r,e=>by cases r;simp at e
 | d'::ds,_,i,r,e=>by
  obtain⟨v,cm,rfl,h1,h2⟩:=r.cP
  cases i with
  | zero=>simp at e;subst e;exact⟨d',rfl,h1⟩
  | succ i =>
   obtain⟨w,e2,q⟩:=S.get' (ds:=ds) (i:=i) h2 (by simpa using e)
   exact⟨w,by simpa using e2,q⟩
theorem S.take:∀{ds:List D} {vs:List V} (n:Nat),S F H ds vs->S F H (ds.take n) (vs.take n)
 | _,_,0,r=>by simpa using S.nil
 | [],_,n+1,r=>by cases r;exact .nil
 | d::ds,_,n+1,r=>by
  obtain⟨v,cm,rfl,h1,h2⟩:=r.cP
  exact h1.cons (S.take n h2)
theorem S.drop:∀{ds:List D} {vs:List V} (n:Nat),S F H ds vs->S F H (ds.drop n) (vs.drop n)
 | _,_,0,r=>by simpa using r
 | [],_,n+1,r=>by cases r;exact .nil
 | d::ds,_,n+1,r=>by
  obtain⟨v,cm,rfl,h1,h2⟩:=r.cP
  exact S.drop n h2
theorem fX{p:Addr}{o:HO}(h:Rd F p o)(s:aa F F')(n:gG o=true:=by rfl):Rd F' p o:=by
 rcases h with h | ⟨u,h⟩
 ·exact .inl (s.get _ _ h n)
 ·exact .inr ⟨u,s _ _ h⟩
theorem R.s(r:R F H ds vs A):S F H ds vs:=by
 induction r with
 | nil=>exact .nil
 | ak _ ih=>exact .ak ih
 | bl _ ih=>exact .bl ih
 | int _ ih=>exact .int ih
 | str _ ih=>exact .str ih
 | shr h x _ _ ih=>exact .shr h x ih
 | own h f _ _ i1 i2=>exact .own h i1 i2
 | tup h _ _ i1 i2=>exact .tup h i1 i2
 | obj h l x _ _ ih=>exact .obj h l x ih
 | fz h x _ _ ih=>exact .fz h x ih
 | aU h _ ih=>exact .aU h ih
structure fC(W:List Addr)(H H':Hp):Prop where
 get:∀a o,H a=some o->a ∉ W->(h:gG o=true:=by rfl)->H' a=some o
noncomputable instance {W:List Addr} {H H':Hp}:CoeFun (fC W H H') λ_=>∀a o,H a=some o->a ∉ W->(h:gG o=true:=by rfl)->H' a=some o:=⟨λs=>@fC.get _ _ _ s⟩
noncomputable def gH(W:List Addr)(H:Hp):Prop:=∀a∈W,∃ws,H a=some (.lst ws)
theorem R.keep{W:List Addr}(hf:aa F F')(hb:fC W H H')(hl:gH W H)(r:R F H ds vs A)(hn:∀a∈A,F' a=none)(hd:∀a∈A,a ∉ W):R F' H' ds vs A:=by
 induction r with
 | nil=>exact .nil
 | ak _ ih=>exact .ak (ih hn hd)
 | bl _ ih=>exact .bl (ih hn hd)
 | int _ ih=>exact .int (ih hn hd)
 | str _ ih=>exact .str (ih hn hd)
 | shr h x _ i1 ih=>exact .shr (hf _ _ h) (i1 (by simp) (by simp)) (ih hn hd)
 | own h f _ _ i1 i2 =>
  refine .own (hb _ _ h (hd _ (by simp))) (hn _ (by simp)) (i1 (λa ha=>hn a ?_) λa ha=>hd a ?_) (i2 (λa ha=>hn a ?_) λa ha=>hd a ?_)<;>simp[ha]
 | @tup p ws _ _ _ _ _ h _ _ i1 i2 =>
  refine .tup (hb _ _ h λz=>?_) (i1 (λa ha=>hn a ?_) λa ha=>hd a ?_) (i2 (λa ha=>hn a ?_) λa ha=>hd a ?_)<;>try simp[ha]
  obtain⟨q,e⟩:=hl _ z
  rw[h]at e;cases e
 | obj h l x _ i1 ih =>
  refine .obj (hb _ _ h λz=>?_) l (i1 (by simp) (by simp)) (ih hn hd)
  obtain⟨q,e⟩:=hl _ z
  rw[h]at e;cases e
 | fz h x _ i1 ih=>exact .fz (hf _ _ h) (i1 (by simp) (by simp)) (ih hn hd)
 | aU h _ ih =>
  exact .aU (h.mono λa o e n t=>hb.get a o e (λz=>by
   obtain⟨q,e'⟩:=hl _ z
   rw[e]at e';cases e';exact n _ rfl) t) (ih hn hd)
theorem fC.same(h:aa H H'):fC [] H H':=⟨λa o e _ n=>h.get a o e n⟩
theorem gH.nil:gH [] H:=λa h=>absurd h (by simp)
theorem R.grow(hf:aa F F')(hb:aa H H')(r:R F H ds vs A)(hn:∀a∈A,F' a=none):R F' H' ds vs A :=
 r.keep hf (fC.same hb) gH.nil hn (by simp)
theorem R.shared(hf:aa F F')(hb:aa H H')(r:R F H ds vs []):R F' H' ds vs []:=r.grow hf hb (by simp)
theorem S.mono(hf:aa F F')(hb:aa H H')(r:S F H ds vs):S F' H' ds vs:=by
 induction r with
 | nil=>exact .nil
 | ak _ ih=>exact .ak ih
 | bl _ ih=>exact .bl ih
 | int _ ih=>exact .int ih
 | str _ ih=>exact .str ih
 | shr h x _ ih=>exact .shr (hf _ _ h) (x.shared hf hb) ih
 | own h _ _ i1 i2=>exact .own (hb _ _ h) i1 i2
 | tup h _ _ i1 i2=>exact .tup (hb _ _ h) i1 i2
 | obj h l x _ ih=>exact .obj (hb _ _ h) l (x.shared hf hb) ih
 | fz h x _ ih=>exact .fz (hf _ _ h) (x.shared hf hb) ih
 | aU h _ ih=>exact .aU (h.mono λa o e _ t=>hb.get a o e t) ih
theorem S.r(s:S F H ds vs)(p:ds.all D.pl=true):R F H ds vs []:=by
 induction s with
 | nil=>exact .nil
 | ak _ ih=>exact .ak (ih (by simpa[D.pl]using p))
 | bl _ ih=>exact .bl (ih (by simpa[D.pl]using p))
 | int _ ih=>exact .int (ih (by simpa[D.pl]using p))
 | str _ ih=>exact .str (ih (by simpa[D.pl]using p))
 | shr h x _ ih=>exact .shr h x (ih (by simp[fB]at p;simpa using p.2))
 | own h _ _ i1 i2=>simp[fB]at p
 | tup h _ _ i1 i2 =>
  rw[dh,iJ,dm]at p
  simpa using R.tup h (i1 p.1) (i2 p.2)
 | obj h l x _ ih=>exact .obj h l x (ih (by simpa[D.pl]using p))
 | fz h x _ ih=>exact .fz h x (ih (by simpa[D.pl]using p))
 | aU h _ ih=>exact .aU h (ih (by simpa[D.pl]using p))
theorem R.pl(r:R F H ds vs []):ds.all D.pl=true:=by
 generalize e:([]:List Addr)=A at r
 induction r with
 | nil=>rfl
 | ak _ ih=>simp[D.pl];simpa using ih e
 | bl _ ih=>simp[D.pl];simpa using ih e
 | int _ ih=>simp[D.pl];simpa using ih e
 | str _ ih=>simp[D.pl];simpa using ih e
 | shr h x _ i1 ih=>simp only[dh,fB,i1 rfl,ih e];rfl
 | own h f _ _ i1 i2=>cases e
 | tup h _ _ i1 i2 =>
  obtain⟨e1,e2⟩:=Bv.mp e.symm
  simp only[dh,iJ,i1 e1.symm,i2 e2.symm];rfl
 | obj h l x _ i1 ih=>simp[D.pl];simpa using ih e
 | fz h x _ i1 ih=>simp[D.pl];simpa using ih e
 | aU h _ ih=>simp[D.pl];simpa using ih e
theorem D.yG:∀{d:D},d.pl=true->d.sh=d
 | .ak,_=>rfl
 | .bl _,_=>rfl
 | .int _,_=>rfl
 | .str _,_=>rfl
 | .obj _ _ _,_=>rfl
 | .fz _,_=>rfl
 | .aU _,_=>rfl
 | .lst o xs,h=>by
  rw[fB,dm]at h
  have:∀(l:List D),(∀x∈l,x∈xs)->l.all D.pl=true->l.map D.sh=l:=by
   intro l hl hp
   induction l with
   | nil=>rfl
   | cons x l ih =>
    simp only[dh,dm]at hp
    have hx:x∈xs:=hl x (by simp)
    rw[cH,D.yG hp.1,ih (λy hy=>hl y (by simp[hy])) hp.2]
  rw[di,this xs (λ_ h=>h) h.2]
  cases o<;>simp_all
 | .tup xs,h=>by
  rw[iJ]at h
  have:∀(l:List D),(∀x∈l,x∈xs)->l.all D.pl=true->l.map D.sh=l:=by
   intro l hl hp
   induction l with
   | nil=>rfl
   | cons x l ih =>
    simp only[dh,dm]at hp
    have hx:x∈xs:=hl x (by simp)
    rw[cH,D.yG hp.1,ih (λy hy=>hl y (by simp[hy])) hp.2]
  rw[je,this xs (λ_ h=>h) h]
termination_by d=>sizeOf d
theorem jR{l:List D}(h:l.all D.pl=true):l.map D.sh=l:=by
 induction l with
 | nil=>rfl
 | cons x l ih =>
  simp only[dh,dm]at h
  rw[cH,D.yG h.1,ih h.2]
theorem S.frozen(e:aa F H)(s:S F H ds vs):R H H (ds.map D.sh) vs []:=by
 induction s with
 | nil=>exact .nil
 | ak _ ih=>exact .ak ih
 | bl _ ih=>exact .bl ih
 | int _ ih=>exact .int ih
 | str _ ih=>exact .str ih
 | shr h x _ ih =>
  rw[cH,di,jR x.pl]
  exact .shr (e _ _ h) (x.shared e (aa.refl _)) ih
 | own h _ _ i1 i2=>rw[cH,di];exact .shr h i1 i2
 | tup h _ _ i1 i2=>rw[cH,je];simpa using R.tup h i1 i2
 | obj h l x _ ih=>exact .obj h l (x.shared e (aa.refl _)) ih
 | fz h x _ ih=>exact .fz (e _ _ h) (x.shared e (aa.refl _)) ih
 | aU h _ ih=>exact .aU h ih
noncomputable def bR(F H:Hp)(A:List Addr):Hp:=λa=>if a∈A then H a else F a
theorem jS(e:aa F H):aa F (bR F H A):=⟨λa o h n=>by unfold bR;split;exact e.get _ _ h n;exact h,λa ps h=>by unfold bR;split;exact e.tb _ _ h;exact⟨#[],by rw[h];simp⟩⟩
theorem L7(e:aa F H):aa (bR F H A) H:=⟨λa o h n=>by unfold bR at h;split at h;exact h;exact e.get _ _ h n,λa ps h=>by unfold bR at h;split at h;exact⟨#[],by rw[h];simp⟩;exact e.tb _ _ h⟩
theorem yH{a:Addr}(h:a ∉ A):bR F H A a=F a:=by unfold bR;rw[if_neg h]
theorem W3{a:Addr}(h:a∈A):bR F H A a=H a:=by unfold bR;rw[if_pos h]
theorem R.bR(e:aa F H)(r:R F H ds vs A):∀A',A ⊆ A'->R (L3.bR F H A') H (ds.map D.sh) vs []:=by
 induction r with
 | nil=>exact λ_ _=>.nil
 | ak _ ih=>exact λA' h=>.ak (ih A' h)
 | bl _ ih=>exact λA' h=>.bl (ih A' h)
 | int _ ih=>exact λA' h=>.int (ih A' h)
 | str _ ih=>exact λA' h=>.str (ih A' h)
 | shr h x _ i1 ih =>
  intro A' hA
  rw[cH,di,jR x.pl]
  exact .shr (jS e _ _ h) (x.shared (jS e) (aa.refl _)) (ih A' hA)
 | own h f _ _ i1 i2 =>
  intro A' hA
  rw[cH,di]
  exact .shr ((W3 (hA (by simp))).trans h) (i1 A' λa ha=>hA (by simp[ha])) (i2 A' λa ha=>hA (by simp[ha]))
 | tup h _ _ i1 i2 =>
  intro A' hA
  rw[cH,je]
  simpa using R.tup h (i1 A' λa ha=>hA (by simp[ha])) (i2 A' λa ha=>hA (by simp[ha]))
 | obj h l x _ i1 ih=>exact λA' hA=>.obj h l (x.shared (jS e) (aa.refl _)) (ih A' hA)
 | fz h x _ i1 ih=>exact λA' hA=>.fz (jS e _ _ h) (x.shared (jS e) (aa.refl _)) (ih A' hA)
 | aU h _ ih=>exact λA' hA=>.aU h (ih A' hA)
theorem R.lists(r:R F H ds vs A):∀a∈A,(∃ws,H a=some (.lst ws))/\F a=none:=by
 induction r with
 | nil=>simp
 | ak _ ih=>exact ih
 | bl _ ih=>exact ih
 | int _ ih=>exact ih
 | str _ ih=>exact ih
 | shr h x _ i1 ih=>exact ih
 | own h f _ _ i1 i2 =>
  intro a ha
  rcases cg.mp ha with rfl | ha
  ·exact⟨⟨_,h⟩,f⟩
  ·exact(cw.mp ha).elim (i1 a) (i2 a)
 | tup h _ _ i1 i2=>exact λa ha=>(cw.mp ha).elim (i1 a) (i2 a)
 | obj h l x _ i1 ih=>exact ih
 | fz h x _ i1 ih=>exact ih
 | aU h _ ih=>exact ih
theorem R.CU(r:R F H ds vs A)(hd:ds.all D.fr=true)(e:aa F' F):R F' H ds vs A:=by
 induction r with
 | nil=>exact .nil
 | ak _ ih=>exact .ak (ih (by simpa[D.fr]using hd))
 | bl _ ih=>exact .bl (ih (by simpa[D.fr]using hd))
 | int _ ih=>exact .int (ih (by simpa[D.fr]using hd))
 | str _ ih=>exact .str (ih (by simpa[D.fr]using hd))
 | shr h x _ i1 ih=>simp[eL]at hd
 | own h f _ _ i1 i2 =>
  rw[dh,eL,dm,kC]at hd
  exact .own h (e.free f) (i1 hd.1) (i2 hd.2)
 | tup h _ _ i1 i2 =>
  rw[dh,kX,dm]at hd
  exact .tup h (i1 hd.1) (i2 hd.2)
 | obj h l x _ i1 ih=>simp[D.fr]at hd
 | fz h x _ i1 ih=>simp[D.fr]at hd
 | aU h _ ih=>exact .aU h (ih (by simpa[D.fr]using hd))
theorem R.inj(r:R F H ds vs A):∀{B:List Addr},R F H ds vs B->A=B:=by
 induction r with
 | nil=>intro B q;cases q;rfl
 | ak _ ih=>intro B q;cases q with | ak q=>exact ih q
 | bl _ ih=>intro B q;cases q with | bl q=>exact ih q
 | int _ ih=>intro B q;cases q with | int q=>exact ih q
 | str _ ih=>intro B q;cases q with | str q=>exact ih q
 | shr h x _ i1 ih=>intro B q;cases q with | shr _ _ q=>exact ih q
 | own h f _ _ i1 i2 =>
  intro B q
  cases q with
  | own h' f' x' q =>
   rw[h]at h';cases h'
   rw[i1 x',i2 q]
 | tup h _ _ i1 i2 =>
  intro B q
  cases q with
  | tup h' x' q =>
   rw[h]at h';cases h'
   rw[i1 x',i2 q]
 | obj h l x _ i1 ih=>intro B q;cases q with | obj _ _ _ q=>exact ih q
 | fz h x _ i1 ih=>intro B q;cases q with | fz _ _ q=>exact ih q
 | aU h _ ih=>intro B q;cases q with | aU _ q=>exact ih q
theorem R.perm{ps qs:List (D × V)}(hp:ps.Perm qs):∀{A:List Addr},R F H (ps.map (·.1)) (ps.map (·.2)) A->∃A',R F H (qs.map (·.1)) (qs.map (·.2)) A'/\A.Perm A':=by
 induction hp with
 | nil=>exact λr=>⟨_,r,.refl _⟩
 | cons x _ ih =>
  intro A r
  obtain⟨v,cm,A1,A2,e,rfl,h1,h2⟩:=R.cP r
  obtain⟨rfl,rfl⟩:=p9 e
  obtain⟨A',r',p⟩:=ih h2
  exact⟨A1++A',h1.cons r',p.append_left _⟩
 | swap x y l =>
  intro A r
  obtain⟨v,cm,A1,A2,e,rfl,h1,h2⟩:=R.cP r
  obtain⟨rfl,rfl⟩:=p9 e
  obtain⟨v2,L8,B1,B2,e,rfl,h3,h4⟩:=R.cP h2
  obtain⟨rfl,rfl⟩:=p9 e
  exact⟨B1++(A1++B2),h3.cons (h1.cons h4),by rw[<-dY,<- dY];exact nq.append_right _⟩
 | trans _ _ i1 i2 =>
  intro A r
  obtain⟨A',r',p⟩:=i1 r
  obtain⟨A2,r2,p2⟩:=i2 r'
  exact⟨A2,r2,p.trans p2⟩
noncomputable def Full(F H:Hp):Prop:=∀a o,H a=some o->(∀ws,o≠.lst ws)->F a=some o
theorem Full.refl(H:Hp):Full H H:=λ_ _ h _=>h
theorem R.full(hF:Full F H)(hs:aa F H')(r:R F H ds vs A)(e:A=[]):R F H' ds vs []:=by
 induction r with
 | nil=>exact .nil
 | ak _ ih=>exact .ak (ih e)
 | bl _ ih=>exact .bl (ih e)
 | int _ ih=>exact .int (ih e)
 | str _ ih=>exact .str (ih e)
 | shr h x _ i1 ih=>exact .shr h (i1 rfl) (ih e)
 | own h f _ _ i1 i2=>cases e
 | tup h _ _ i1 i2 =>
  obtain⟨e1,e2⟩:=Bv.mp e
  exact R.tup (A:=[]) (B:=[]) (hs _ _ (hF _ _ h (by intro ws z;cases z))) (i1 e1) (i2 e2)
 | obj h l x _ i1 ih=>exact .obj (hs _ _ (hF _ _ h (by intro ws z;cases z))) l (i1 rfl) (ih e)
 | fz h x _ i1 ih=>exact .fz h (i1 rfl) (ih e)
 | aU h _ ih=>exact .aU (h.mono λa o e n t=>hs.get a o (hF a o e n) t) (ih e)
open Classical in
noncomputable def snap(F H:Hp):Hp:=λa=>if(∃o,H a=some o/\∀ws,o≠.lst ws)then H a else F a
theorem s9:Full (snap F H) H:=λa o h n=>by unfold snap;rw[if_pos ⟨o,h,n⟩];exact h
theorem qN(e:aa F H):aa F (snap F H):=⟨λa o h n=>by
 unfold snap;split
 ·exact e.get a o h n
 ·exact h,λa ps h=>by
 unfold snap;split
 ·exact e.tb a ps h
 ·exact⟨#[],by rw[h];simp⟩⟩
theorem W4(e:aa F H):aa (snap F H) H:=⟨λa o h n=>by
 unfold snap at h;split at h
 ·exact h
 ·exact e.get a o h n,λa ps h=>by
 unfold snap at h;split at h
 ·exact⟨#[],by rw[h];simp⟩
 ·exact e.tb a ps h⟩
theorem W5(e:aa F H){a:Addr}{ws:List V}(h:snap F H a=some (.lst ws)):F a=some (.lst ws):=by
 unfold snap at h;split at h
 ·rename_i z
  obtain⟨o,h1,h2⟩:=z
  rw[h]at h1;exact absurd (cu h1).symm (h2 ws)
 ·exact h
theorem by4{a:Addr}{ws:List V}(h:H a=some (.lst ws))(n:F a=none):snap F H a=none:=by
 unfold snap;split
 ·rename_i z
  obtain⟨o,h1,h2⟩:=z
  rw[h]at h1;exact absurd (cu h1).symm (h2 ws)
 ·exact n
end
end L3
namespace L3
open PySem L2
noncomputable abbrev Dl:=List (Option D)
inductive RS(F H:Hp):Dl->St->List Addr->Prop
 | nil:RS F H [] [] []
 | ak {δ σ o C}:RS F H δ σ C->RS F H (none::δ) (o::σ) C
 | eM {d v A δ σ C}:R F H [d] [v] A->RS F H δ σ C->RS F H (some d::δ) (some v::σ) (A++C)
theorem fY{A B:List Addr}:(A++B).Nodup↔A.Nodup/\B.Nodup/\∀a∈A,a ∉ B:=by
 rw[List.nodup_append]
 constructor
 ·rintro⟨h1,h2,h3⟩;exact⟨h1,h2,λa ha hb=>h3 a ha a hb rfl⟩
 ·rintro⟨h1,h2,h3⟩;exact⟨h1,h2,λa ha b hb e=>h3 a ha (e ▸ hb)⟩
section
variable{F F' H H':Hp}{d:D}{v:V}{δ:Dl}{σ:St}{A C:List Addr}{i:Nat}
theorem RS.length(r:RS F H δ σ C):δ.length=σ.length:=by induction r<;>simp_all
theorem RS.pick:∀{δ:Dl} {σ:St} {C:List Addr} {i:Nat},RS F H δ σ C->δ[i]?=some (some d)->∃v A C',σ[i]?=some (some v)/\R F H [d] [v] A/\RS F H (δ.set i none) σ C'/\C.Perm (A++C')
 | _,_,_,_,.nil,e=>by simp at e
 | _,_,_,i,.ak r,e=>by
  cases i with
  | zero=>simp at e
  | succ i =>
   obtain⟨v,A,C',e1,h1,h2,p⟩:=RS.pick r (by simpa using e)
   exact⟨v,A,C',by simpa using e1,h1,.ak h2,p⟩
 | _,_,_,i,.eM (A:=A0) (C:=C0) h r,e=>by
  cases i with
  | zero =>
   simp at e;subst e
   exact⟨_,A0,C0,rfl,h,.ak r,.refl _⟩
  | succ i =>
   obtain⟨v,A,C',e1,h1,h2,p⟩:=RS.pick r (by simpa using e)
   refine⟨v,A,A0++C',by simpa using e1,h1,.eM h h2,(p.append_left A0).trans ?_⟩
   rw[<-dY,<- dY]
   exact nq.append_right _
theorem RS.fill:∀{δ:Dl} {σ:St} {C:List Addr} {i:Nat},RS F H δ σ C->δ[i]?=some none->σ[i]?=some (some v)->R F H [d] [v] A->∃C',RS F H (δ.set i (some d)) σ C'/\C'.Perm (A++C)
 | _,_,_,_,.nil,e,_,_=>by simp at e
 | _,_,_,i,.ak r,e,e2,h=>by
  cases i with
  | zero=>simp at e2;subst e2;exact⟨_,.eM h r,.refl _⟩
  | succ i =>
   obtain⟨C',h1,p⟩:=RS.fill r (by simpa using e) (by simpa using e2) h
   exact⟨C',.ak h1,p⟩
 | _,_,_,i,.eM (A:=A0) (C:=C0) h0 r,e,e2,h=>by
  cases i with
  | zero=>simp at e
  | succ i =>
   obtain⟨C',h1,p⟩:=RS.fill r (by simpa using e) (by simpa using e2) h
   refine⟨A0++C',.eM h0 h1,(p.append_left A0).trans ?_⟩
   rw[<-dY,<- dY]
   exact nq.append_right _
theorem RS.drop:∀{δ:Dl} {σ:St} {C:List Addr} (i:Nat),RS F H δ σ C->∃C',RS F H (δ.set i none) σ C'/\C'.Sublist C
 | _,_,_,_,.nil=>⟨_,.nil,.refl _⟩
 | _,_,_,i,.ak r=>by
  cases i with
  | zero=>exact⟨_,.ak r,.refl _⟩
  | succ i=>obtain⟨C',h,s⟩:=RS.drop i r;exact⟨C',.ak h,s⟩
 | _,_,_,i,.eM (A:=A0) h0 r=>by
  cases i with
  | zero=>exact⟨_,.ak r,List.sublist_append_right _ _⟩
  | succ i=>obtain⟨C',h,s⟩:=RS.drop i r;exact⟨_,.eM h0 h,(Kd A0).append s⟩
theorem RS.tf:∀{δ:Dl} {σ:St} {C:List Addr} {i:Nat} (o:Option V),RS F H δ σ C->(δ[i]?=some none\/δ[i]?=none)->RS F H δ (σ.set i o) C
 | _,_,_,_,_,.nil,_=>.nil
 | _,_,_,i,_,.ak r,e=>by
  cases i with
  | zero=>exact .ak r
  | succ i=>exact .ak (RS.tf _ r (by simpa using e))
 | _,_,_,i,_,.eM h0 r,e=>by
  cases i with
  | zero=>simp at e
  | succ i=>exact .eM h0 (RS.tf _ r (by simpa using e))
theorem RS.keep{W:List Addr}(hf:aa F F')(hb:fC W H H')(hl:gH W H)(r:RS F H δ σ C)(hn:∀a∈C,F' a=none)(hd:∀a∈C,a ∉ W):RS F' H' δ σ C:=by
 induction r with
 | nil=>exact .nil
 | ak _ ih=>exact .ak (ih hn hd)
 | eM h _ ih=>exact .eM (h.keep hf hb hl (λa ha=>hn a (by simp[ha])) λa ha=>hd a (by simp[ha])) (ih (λa ha=>hn a (by simp[ha])) λa ha=>hd a (by simp[ha]))
theorem RS.lists(r:RS F H δ σ C):∀a∈C,(∃ws,H a=some (.lst ws))/\F a=none:=by
 induction r with
 | nil=>simp
 | ak _ ih=>exact ih
 | eM h _ ih=>exact λa ha=>(cw.mp ha).elim (h.lists a) (ih a)
theorem RS.none_of:∀{δ:Dl} {σ:St} {C:List Addr} {av:St},RS F H δ σ C->av.length=σ.length->RS F H (av.map λ_=>none) av []
 | _,_,_,[],_,_=>.nil
 | _,_,_,o::av,.nil,e=>by simp at e
 | _,_,_,o::av,.ak r,e=>.ak (RS.none_of r (by simpa using e))
 | _,_,_,o::av,.eM _ r,e=>.ak (RS.none_of r (by simpa using e))
end
structure Bs where
 H0:Hp
 F0:Hp
structure aj(B:Bs)(F H:Hp)(σ:St)(δ:Dl)(ts:List (D × V)):Prop where
 ext:aa F H
 b1:aa B.H0 H
 b2:aa B.F0 F
 b3:∀a ws,F a=some (.lst ws)->B.F0 a=some (.lst ws)\/B.H0 a=none
 own:∃A C,R F H (ts.map (·.1)) (ts.map (·.2)) A/\RS F H δ σ C/\(A++C).Nodup/\∀a∈A++C,B.H0 a=none
section
variable{B:Bs}{F F' H H':Hp}{d:D}{v:V}{δ:Dl}{σ:St}{ts ps:List (D × V)}{A C W:List Addr}{i:Nat}{p:Addr}{xs ys:List D}{vs ws:List V}
theorem aj.look(c:aj B F H σ δ ts)(e:δ[i]?=some (some d)):∃v,σ[i]?=some (some v)/\S F H [d] [v]:=by
 obtain⟨A,C,r,s,nd,fr⟩:=c.own
 obtain⟨v,A',C',e1,h1,h2,p⟩:=s.pick e
 exact⟨v,e1,h1.s⟩
theorem aj.len(c:aj B F H σ δ ts):δ.length=σ.length:=let⟨_,_,_,s,_⟩:=c.own;s.length
theorem aj.grow(c:aj B F H σ δ ts)(h:aa H H'):aj B F H' σ δ ts:=by
 obtain⟨A,C,r,s,nd,fr⟩:=c.own
 exact⟨c.ext.trans h,c.b1.trans h,c.b2,c.b3,A,C,r.grow (aa.refl _) h λa ha=>(r.lists a ha).2,s.keep (aa.refl _) (fC.same h) gH.nil (λa ha=>(s.lists a ha).2) (by simp),nd,fr⟩
theorem aj.pop(c:aj B F H σ δ ((d,v)::ts)):aj B F H σ δ ts:=by
 obtain⟨A,C,r,s,nd,fr⟩:=c.own
 obtain⟨w,cm,A1,A2,e,rfl,h1,h2⟩:=R.cP r
 obtain⟨rfl,rfl⟩:=p9 e
 refine⟨c.ext,c.b1,c.b2,c.b3,A2,C,h2,s,?_,λa ha=>fr a (by simp at ha ⊢;exact .inr ha)⟩
 rw[dY]at nd
 exact(fY.mp nd).2.1
theorem aj.top(c:aj B F H σ δ ((d,v)::ts)):S F H [d] [v]:=by
 obtain⟨A,C,r,s,nd,fr⟩:=c.own
 obtain⟨w,cm,A1,A2,e,rfl,h1,h2⟩:=R.cP r
 obtain⟨rfl,rfl⟩:=p9 e
 exact h1.s
theorem aj.pushS(c:aj B F H σ δ ts)(s:S F H [d] [v])(pl:d.pl=true):aj B F H σ δ ((d,v)::ts):=by
 obtain⟨A,C,r,q,nd,fr⟩:=c.own
 exact⟨c.ext,c.b1,c.b2,c.b3,A,C,(s.r (by simp[pl])).cons r,q,nd,fr⟩
theorem aa.upd{o:HO}(h:H p=none):aa H (upd H p o):=.of λb u e=>by rw[aN (dR e h)];exact e
theorem aj.pack(c:aj B F H σ δ (ps++ts))(hs:aa H H')(k:∀A1,R F H' (ps.map (·.1)) (ps.map (·.2)) A1->A1.Nodup->∃A',R F H' [d] [v] A'/\A'.Nodup/\∀a∈A',a∈A1\/H a=none):aj B F H' σ δ ((d,v)::ts):=by
 obtain⟨A,C,r,s,nd,fr⟩:=c.own
 rw[kD,kD]at r
 obtain⟨v1,v2,A1,A2,e,rfl,h1,h2⟩:=R.split r
 have l1:(ps.map (·.2)).length=v1.length:=by rw[<-h1.length];simp
 obtain⟨rfl,rfl⟩:=Bw e l1
 rw[dY]at nd fr
 obtain⟨n1,n2,n3⟩:=fY.mp nd
 have g1:=h1.grow (aa.refl F) hs λa ha=>(h1.lists a ha).2
 have g2:=h2.grow (aa.refl F) hs λa ha=>(h2.lists a ha).2
 have gs:=s.keep (aa.refl F) (fC.same hs) gH.nil (λa ha=>(s.lists a ha).2) (by simp)
 obtain⟨A',r',CV,sub⟩:=k A1 g1 n1
 refine⟨c.ext.trans hs,c.b1.trans hs,c.b2,c.b3,A'++A2,C,r'.cons g2,gs,?_,?_⟩
 ·rw[dY]
  refine fY.mpr ⟨CV,n2,λa ha hb=>?_⟩
  rcases sub a ha with z | z
  ·exact n3 a z hb
  ·rcases cw.mp hb with y | y
   ·obtain⟨⟨_,q⟩,_⟩:=h2.lists a y;rw[z]at q;cases q
   ·obtain⟨⟨_,q⟩,_⟩:=s.lists a y;rw[z]at q;cases q
 ·intro a ha
  rw[dY]at ha
  rcases cw.mp ha with y | y
  ·rcases sub a y with z | z
   ·exact fr a (by simp[z])
   ·exact c.b1.free z
  ·exact fr a (cR _ y)
theorem aj.CW(c:aj B F H σ δ ts)(hs:aa H H')(r:R F H' [d] [v] A)(nd:A.Nodup)(fr:∀a∈A,H a=none):aj B F H' σ δ ((d,v)::ts) :=
 aj.pack (ps:=[]) c hs λ_ _ _=>⟨A,r,nd,λa ha=>.inr (fr a ha)⟩
theorem aj.nH(c:aj B F H σ δ ts)(hp:H p=none)(s:S F H xs vs)(pl:xs.all D.pl=true):aj B F (upd H p (.lst vs)) σ δ ((.lst true xs,.ref p)::ts) :=
 c.CW (aa.upd hp) (A:=[p]) (by simpa using R.own bM (c.ext.free hp) ((s.r pl).shared (aa.refl _) (aa.upd hp)) .nil) (by simp) (by simp[hp])
theorem aj.W6(c:aj B F H σ δ (ps++ts))(hp:H p=none):aj B F (upd H p (.lst (ps.map (·.2)))) σ δ ((.lst true (ps.map (·.1)),.ref p)::ts):=by
 refine c.pack (aa.upd hp) λA1 r nd=>⟨p::A1,by simpa using R.own bM (c.ext.free hp) r .nil,jD.mpr ⟨λh=>?_,nd⟩,λa ha=>?_⟩
 ·obtain⟨A,C,r0,_,_,_⟩:=c.own
  rw[kD,kD]at r0
  obtain⟨v1,v2,B1,B2,e,rfl,h1,h2⟩:=R.split r0
  have l1:(ps.map (·.2)).length=v1.length:=by rw[<-h1.length];simp
  obtain⟨rfl,rfl⟩:=Bw e l1
  have g1:=h1.grow (aa.refl F) (aa.upd (o:=.lst (ps.map (·.2))) hp) λa ha=>(h1.lists a ha).2
  have:A1=B1:=R.inj r g1
  subst this
  obtain⟨⟨_,q⟩,_⟩:=h1.lists p h
  rw[hp]at q;cases q
 ·rcases cg.mp ha with rfl | h
  ·exact .inr hp
  ·exact .inl h
theorem aj.W7(c:aj B F H σ δ (ps++ts))(hp:H p=none):aj B F (upd H p (.tup (ps.map (·.2)))) σ δ ((.tup (ps.map (·.1)),.ref p)::ts) :=
 c.pack (aa.upd hp) λA1 r nd=>⟨A1,by simpa using R.tup (F:=F) bM r .nil,nd,λa ha=>.inl ha⟩
theorem aj.perm(c:aj B F H σ δ ps)(h:ps.Perm ts):aj B F H σ δ ts:=by
 obtain⟨A,C,r,s,nd,fr⟩:=c.own
 obtain⟨A',r',p⟩:=r.perm h
 have pp:=p.append_right C
 exact⟨c.ext,c.b1,c.b2,c.b3,A',C,r',s,pp.nodup_iff.mp nd,λa ha=>fr a (pp.mem_iff.mpr ha)⟩
theorem aj.move(c:aj B F H σ δ ts)(e:δ[i]?=some (some d)):∃v,σ[i]?=some (some v)/\aj B F H σ (δ.set i none) ((d,v)::ts):=by
 obtain⟨A,C,r,s,nd,fr⟩:=c.own
 obtain⟨v,A',C',e1,h1,h2,p⟩:=s.pick e
 have pp:(A++C).Perm ((A'++A)++C'):=by
  refine(p.append_left A).trans ?_
  rw[<-dY]
  exact nq.append_right _
 exact⟨v,e1,c.ext,c.b1,c.b2,c.b3,A'++A,C',h1.cons r,h2,pp.nodup_iff.mp nd,λa ha=>fr a (pp.mem_iff.mpr ha)⟩
theorem aj.forget(c:aj B F H σ δ ts)(i:Nat):aj B F H σ (δ.set i none) ts:=by
 obtain⟨A,C,r,s,nd,fr⟩:=c.own
 obtain⟨C',h,sb⟩:=s.drop i
 exact⟨c.ext,c.b1,c.b2,c.b3,A,C',r,h,nd.sublist ((Kd A).append sb),λa ha=>fr a (((Kd A).append sb).subset ha)⟩
theorem aj.fill(c:aj B F H σ δ ((d,v)::ts))(e:δ[i]?=some none)(e2:σ[i]?=some (some v)):aj B F H σ (δ.set i (some d)) ts:=by
 obtain⟨A,C,r,s,nd,fr⟩:=c.own
 obtain⟨w,cm,A1,A2,e',rfl,h1,h2⟩:=R.cP r
 obtain⟨rfl,rfl⟩:=p9 e'
 obtain⟨C',s',p⟩:=s.fill e e2 h1
 have pp:((A1++A2)++C).Perm (A2++C'):=by
  refine((nq (l₁:=A1) (l₂:=A2)).append_right C).trans ?_
  rw[dY]
  exact(p.symm).append_left A2
 exact⟨c.ext,c.b1,c.b2,c.b3,A2,C',h2,s',pp.nodup_iff.mp nd,λa ha=>fr a (pp.mem_iff.mpr ha)⟩
theorem aj.tf(c:aj B F H σ δ ts)(o:Option V)(e:δ[i]?=some none\/δ[i]?=none):aj B F H (σ.set i o) δ ts:=by
 obtain⟨A,C,r,s,nd,fr⟩:=c.own
 exact⟨c.ext,c.b1,c.b2,c.b3,A,C,r,s.tf o e,nd,fr⟩
theorem aj.store(c:aj B F H σ δ ((d,v)::ts))(i:Nat):aj B F H (σ.set i (some v)) (δ.set i (some d)) ts:=by
 by_cases hi:i<δ.length
 ·have c1:=c.forget i
  have hs:i<σ.length:=by rw[<-c.len];exact hi
  have e:(δ.set i none)[i]?=some none:=by simp[hi]
  have c2:=(c1.tf (some v) (.inl e)).fill (i:=i) e (by simp[hs])
  rwa [Ke]at c2
 ·have hs:¬ i<σ.length:=by rw[<-c.len];exact hi
  rw[Sj (by omega),Sj (by omega)]
  exact c.pop
theorem aj.mut(c:aj B F H σ δ (ps++ts))(e:δ[i]?=some (some (.lst true xs)))(e2:σ[i]?=some (some (.ref p)))
  (k:∀ws A1 A2,H p=some (.lst ws)->R F H xs ws A1->R F H (ps.map (·.1)) (ps.map (·.2)) A2->(A1++A2).Nodup->∃A',R F H ys vs A'/\A'.Nodup/\∀a∈A',a∈A1++A2) :
  aj B F (upd H p (.lst vs)) σ (δ.set i (some (.lst true ys))) ts:=by
 have hi:i<δ.length:=(iA.mp e).1
 obtain⟨v,e3,c1⟩:=c.move e
 rw[e2]at e3;cases e3
 obtain⟨A,C,r,s,nd,fr⟩:=c1.own
 have r':R F H (([.lst true xs]++ps.map (·.1))++ts.map (·.1)) ((.ref p::ps.map (·.2))++ts.map (·.2)) A:=by simpa using r
 obtain⟨v1,v2,A1,A2,e4,rfl,h1,h2⟩:=R.split r'
 have l1:(V.ref p::ps.map (·.2)).length=v1.length:=by rw[<-h1.length];simp
 obtain⟨rfl,rfl⟩:=Bw e4 l1
 cases h1 with
 | @own _ CY _ B1 _ _ B2 hH hF hx hr =>
  rw[dY]at nd fr
  obtain⟨n1,n2,n3⟩:=fY.mp nd
  obtain⟨m1,m2⟩:=jD.mp n1
  obtain⟨A',ra,W8,sub⟩:=k CY B1 B2 hH hx hr m2
  have pA:p ∉ A':=λz=>m1 (sub _ z)
  have pR:p ∉ A2++C:=λz=>n3 p (by simp) z
  have but:fC [p] H (upd H p (.lst vs)):=⟨λa o q z _=>by rw[aN (by simpa using z)];exact q⟩
  have hl:gH [p] H:=λa ha=>by rw[iU.mp ha];exact⟨_,hH⟩
  have g1:=ra.keep (aa.refl F) but hl (λa ha=>(ra.lists a ha).2) λa ha z=>pA (by rw[<-iU.mp z];exact ha)
  have g2:=h2.keep (aa.refl F) but hl (λa ha=>(h2.lists a ha).2) λa ha z=>pR (by rw[<-iU.mp z];exact eG _ ha)
  have gs:=s.keep (aa.refl F) but hl (λa ha=>(s.lists a ha).2) λa ha z=>pR (by rw[<-iU.mp z];exact cR _ ha)
  have fp:B.H0 p=none:=fr p (by simp)
  have b1:aa B.H0 (upd H p (.lst vs)):=⟨λa o q n=>by
   rw[aN (λz=>by rw[z,fp]at q;cases q)]
   exact c1.b1.get a o q n,λa ps q=>by
   rw[aN (λz=>by rw[z,fp]at q;cases q)]
   exact c1.b1.tb a ps q⟩
  have ext:aa F (upd H p (.lst vs)):=⟨λa o q n=>by
   rw[aN (λz=>by rw[z,hF]at q;cases q)]
   exact c1.ext.get a o q n,λa ps q=>by
   rw[aN (λz=>by rw[z,hF]at q;cases q)]
   exact c1.ext.tb a ps q⟩
  have c2:aj B F (upd H p (.lst vs)) σ (δ.set i none) ((.lst true ys,.ref p)::ts):=by
   refine⟨ext,b1,c1.b2,c1.b3,(p::A')++A2,C,R.cons (by simpa using R.own bM hF g1 .nil) g2,gs,?_,?_⟩
   ·rw[dY]
    refine fY.mpr ⟨jD.mpr ⟨pA,W8⟩,n2,λa ha hb=>?_⟩
    rcases cg.mp ha with rfl | ha
    ·exact pR hb
    ·exact n3 a (fm _ (sub a ha)) hb
   ·intro a ha
    rw[dY]at ha
    rcases cw.mp ha with z | z
    ·rcases cg.mp z with rfl | z
     ·exact fp
     ·exact fr a (eG _ (fm _ (sub a z)))
    ·exact fr a (cR _ z)
  have c3:=c2.fill (i:=i) (by simp[hi]) e2
  rwa [Ke]at c3
theorem aj.L9(c:aj B F H σ δ ((d,v)::ts)):∃F',aa F F'/\aj B F' H σ δ ((d.sh,v)::ts):=by
 obtain⟨A,C,r,s,nd,fr⟩:=c.own
 obtain⟨w,cm,A1,A2,e',rfl,h1,h2⟩:=R.cP r
 obtain⟨rfl,rfl⟩:=p9 e'
 rw[dY]at nd fr
 obtain⟨n1,n2,n3⟩:=fY.mp nd
 have out:∀a∈A2++C,bR F H A1 a=F a:=λa ha=>yH λz=>n3 a z ha
 have b3:∀a o,bR F H A1 a=some (.lst o)->B.F0 a=some (.lst o)\/B.H0 a=none:=λa o q=>by
  by_cases z:a∈A1
  ·exact .inr (fr a (eG _ z))
  ·rw[yH z]at q;exact c.b3 a o q
 refine⟨bR F H A1,jS c.ext,L7 c.ext,c.b1,c.b2.trans (jS c.ext),b3,A2,C,?_,?_,n2,λa ha=>fr a (cR _ ha)⟩
 ·have g1:=h1.bR c.ext A1 (λ_ h=>h)
  exact R.cons (A:=[]) g1 (h2.keep (jS c.ext) (fC.same (aa.refl H)) gH.nil (λa ha=>by rw[out a (eG _ ha)];exact(h2.lists a ha).2) (by simp))
 ·exact s.keep (jS c.ext) (fC.same (aa.refl H)) gH.nil (λa ha=>by rw[out a (cR _ ha)];exact(s.lists a ha).2) (by simp)
theorem aj.freeze(c:aj B F H σ δ ts)(e:δ[i]?=some (some d)):∃F',aa F F'/\aj B F' H σ (δ.set i (some d.sh)) ts:=by
 have hi:i<δ.length:=(iA.mp e).1
 obtain⟨v,e2,c1⟩:=c.move e
 obtain⟨F',s,c2⟩:=c1.L9
 refine⟨F',s,?_⟩
 have c3:=c2.fill (i:=i) (by simp[hi]) e2
 rwa [Ke]at c3
theorem aj.rebase(c:aj B F H σ δ ts):aj ⟨B.H0,F⟩ F H σ δ ts:=⟨c.ext,c.b1,aa.refl _,λ_ _ q=>.inl q,c.own⟩
theorem aj.Ma{F1:Hp}(c:aj ⟨B.H0,F1⟩ F H σ δ ts)(h:aa B.F0 F1)(h3:∀a ws,F1 a=some (.lst ws)->B.F0 a=some (.lst ws)\/B.H0 a=none):aj B F H σ δ ts :=
 ⟨c.ext,c.b1,h.trans c.b2,λa o q=>(c.b3 a o q).elim (h3 a o) .inr,c.own⟩
theorem aj.only(c:aj B F H σ δ ts){av:St}{ag:Dl}(h:RS F H ag av []):aj B F H av ag ts:=by
 obtain⟨A,C,r,s,nd,fr⟩:=c.own
 exact⟨c.ext,c.b1,c.b2,c.b3,A,[],r,h,by simpa using(fY.mp nd).1,λa ha=>fr a (by simp at ha;simp[ha])⟩
theorem aj.call(c:aj B F H σ δ ts)(hs:aa H H')(hf:aa F F')(he:aa F' H')(h3:∀a ws,F' a=some (.lst ws)->F a=some (.lst ws)\/H a=none)(r:R F' H' [d] [v] A)(nd:A.Nodup)(fr:∀a∈A,H a=none) :
  aj B F' H' σ δ ((d,v)::ts):=by
 obtain⟨A0,C,r0,s,W9,Xa⟩:=c.own
 have no:∀a,(∃ws,H a=some (.lst ws))/\F a=none->F' a=none:=λa zz=>by
  obtain⟨⟨ws,e⟩,n⟩:=zz
  cases q:F' a with
  | none=>rfl
  | some o =>
   have q2:H' a=some o:=by
    cases n:gG o with
    | true=>exact he.get a o q n
    | false =>
     obtain⟨ps,rfl⟩:=CS n
     obtain⟨m,z⟩:=he.tb a ps q
     rw[hs a _ e]at z
     cases z
   rw[hs a _ e]at q2
   cases q2
   rcases h3 a ws q with z | z
   ·rw[n]at z;cases z
   ·rw[e]at z;cases z
 refine⟨he,c.b1.trans hs,c.b2.trans hf,λa o q=>(h3 a o q).elim (c.b3 a o) λz=>.inr (c.b1.free z),A++A0,C,R.cons r (r0.grow hf hs λa ha=>no a (r0.lists a ha)),
  s.keep hf (fC.same hs) gH.nil (λa ha=>no a (s.lists a ha)) (by simp),?_,?_⟩
 ·rw[dY]
  refine fY.mpr ⟨nd,W9,λa ha hb=>?_⟩
  have z:=fr a ha
  rcases cw.mp hb with y | y
  ·obtain⟨⟨_,q⟩,_⟩:=r0.lists a y;rw[z]at q;cases q
  ·obtain⟨⟨_,q⟩,_⟩:=s.lists a y;rw[z]at q;cases q
 ·intro a ha
  rw[dY]at ha
  rcases cw.mp ha with y | y
  ·exact c.b1.free (fr a y)
  ·exact Xa a y
theorem aj.Mb(c:aj B F H σ δ ((d,v)::ts)):aj B F H (some v::σ) (some d::δ) ts:=by
 obtain⟨A,C,r,s,nd,fr⟩:=c.own
 obtain⟨w,cm,A1,A2,e',rfl,h1,h2⟩:=R.cP r
 obtain⟨rfl,rfl⟩:=p9 e'
 have pp:((A1++A2)++C).Perm (A2++(A1++C)):=by
  rw[<-dY];exact nq.append_right C
 exact⟨c.ext,c.b1,c.b2,c.b3,A2,A1++C,h2,.eM h1 s,pp.nodup_iff.mp nd,λa ha=>fr a (pp.mem_iff.mpr ha)⟩
theorem aj.Xb{w:V}(c:aj B F H (some w::σ) (some d::δ) ts):aj B F H σ δ ((d,w)::ts):=by
 obtain⟨A,C,r,s,nd,fr⟩:=c.own
 cases s with
 | @eM _ _ A1 _ _ C1 h1 s =>
  have pp:(A++(A1++C1)).Perm ((A1++A)++C1):=by
   rw[<-dY];exact nq.append_right C1
  exact⟨c.ext,c.b1,c.b2,c.b3,A1++A,C1,R.cons h1 r,s,pp.nodup_iff.mp nd,λa ha=>fr a (pp.mem_iff.mpr ha)⟩
theorem aj.Xc(c:aj B F H σ δ ((d,v)::(.lst true xs,.ref p)::ts))(hp:H p=some (.lst ws)):aj B F (upd H p (.lst (ws++[v]))) σ δ ((.lst true (xs++[d]),.ref p)::ts):=by
 have c1:=(c.perm (List.Perm.swap _ _ _)).Mb
 refine(aj.mut (ps:=[(d,v)]) (i:=0) (ys:=xs++[d]) (vs:=ws++[v]) c1 rfl rfl λdA A1 A2 h r1 r2 nd=>?_).Xb
 rw[hp]at h;cases h
 exact⟨A1++A2,r1.append r2,nd,λa ha=>ha⟩
theorem aj.app(c:aj B F H σ δ ((d,v)::ts))(e:δ[i]?=some (some (.lst true xs)))(e2:σ[i]?=some (some (.ref p)))(hp:H p=some (.lst ws)) :
  aj B F (upd H p (.lst (ws++[v]))) σ (δ.set i (some (.lst true (xs++[d])))) ts :=
 aj.mut (ps:=[(d,v)]) c e e2 λdA A1 A2 h r1 r2 nd=>by
  rw[hp]at h;cases h
  exact⟨A1++A2,r1.append r2,nd,λa ha=>ha⟩
theorem R.Mc:∀{xs:List D} {ws:List V} {A1 A2:List Addr} (j:Nat),R F H xs ws A1->R F H [d] [v] A2->(A1++A2).Nodup->∃A',R F H (xs.set j d) (ws.set j v) A'/\A'.Nodup/\∀a∈A',a∈A1++A2
 | [],_,A1,A2,j,r,q,nd=>by cases r;exact⟨[],.nil,by simp,by simp⟩
 | x::xs,_,A1,A2,j,r,q,nd=>by
  obtain⟨w,dA,B1,B2,rfl,rfl,h1,h2⟩:=r.cP
  rw[dY]at nd
  obtain⟨n1,n2,n3⟩:=fY.mp nd
  cases j with
  | zero =>
   refine⟨A2++B2,q.cons h2,(nq (l₁:=B2) (l₂:=A2)).nodup_iff.mp n2,λa ha=>?_⟩
   simp only[cw]at ha ⊢
   rcases ha with z | z
   ·exact .inr z
   ·exact .inl (.inr z)
  | succ j =>
   obtain⟨A',r',CV,sub⟩:=R.Mc j h2 q n2
   refine⟨B1++A',h1.cons r',fY.mpr ⟨n1,CV,λa ha hb=>n3 a ha (sub a hb)⟩,λa ha=>?_⟩
   rcases cw.mp ha with z | z
   ·simp[z]
   ·have:=sub a z
    simp only[cw]at this ⊢
    rcases this with z | z
    ·exact .inl (.inr z)
    ·exact .inr z
theorem aj.Xd(c:aj B F H σ δ ((d,v)::ts))(e:δ[i]?=some (some (.lst true xs)))(e2:σ[i]?=some (some (.ref p)))(hp:H p=some (.lst ws))(j:Nat) :
  aj B F (upd H p (.lst (ws.set j v))) σ (δ.set i (some (.lst true (xs.set j d)))) ts :=
 aj.mut (ps:=[(d,v)]) c e e2 λdA A1 A2 h r1 r2 nd=>by
  rw[hp]at h;cases h
  exact r1.Mc j r2 nd
theorem aj.ownAt(c:aj B F H σ δ ts)(e:δ[i]?=some (some (.lst true xs))):∃p ws,σ[i]?=some (some (.ref p))/\H p=some (.lst ws)/\xs.length=ws.length:=by
 obtain⟨v,e1,s⟩:=c.look e
 cases s with
 | own h x _=>exact⟨_,_,e1,h,x.length⟩
theorem RS.start{ds:List D}{vs:List V}(r:R F H ds vs [])(n:Nat):RS F H (ds.map some++aT n none) (vs.map some++aT n none) []:=by
 have z:∀n,RS F H (aT n none) (aT n none) []:=λn=>by
  induction n with
  | zero=>exact .nil
  | succ n ih=>exact .ak ih
 have:∀(ds:List D) (vs:List V),R F H ds vs []->RS F H (ds.map some++aT n none) (vs.map some++aT n none) []:=by
  intro ds
  induction ds with
  | nil=>intro vs r;cases r;exact z n
  | cons d ds ih =>
   intro vs r
   obtain⟨v,cm,A1,A2,rfl,e,h1,h2⟩:=r.cP
   obtain⟨rfl,rfl⟩:=Bv.mp e.symm
   exact .eM (A:=[]) h1 (ih _ h2)
 exact this ds vs r
theorem aj.start{ds:List D}{vs:List V}(e:aa F H)(r:R F H ds vs [])(n:Nat):aj ⟨H,F⟩ F H (vs.map some++aT n none) (ds.map some++aT n none) [] :=
 ⟨e,aa.refl _,aa.refl _,λ_ _ q=>.inl q,[],[],.nil,RS.start r n,by simp,by simp⟩
theorem aj.snap(c:aj B F H σ δ ts):aj B (L3.snap F H) H σ δ ts:=by
 obtain⟨A,C,r,s,nd,fr⟩:=c.own
 have no:∀a,(∃ws,H a=some (.lst ws))/\F a=none->L3.snap F H a=none:=λa ⟨⟨ws,e⟩,n⟩=>by4 e n
 exact⟨W4 c.ext,c.b1,c.b2.trans (qN c.ext),λa ws q=>c.b3 a ws (W5 c.ext q),A,C,r.grow (qN c.ext) (aa.refl _) λa ha=>no a (r.lists a ha),
  s.keep (qN c.ext) (fC.same (aa.refl _)) gH.nil (λa ha=>no a (s.lists a ha)) (by simp),nd,fr⟩
end
end L3
namespace L3
open PySem L2 PySem.Spec PyProof.Rows
noncomputable abbrev aC:=Dl->(D->Dl->Prop)->Prop
noncomputable abbrev et:=Dl->(Bool->Dl->Prop)->Prop
noncomputable abbrev cj:=Dl->(List D->Dl->Prop)->Prop
structure qO where
 nx:Dl->Prop
 rt:D->Prop
 bk:Dl->Prop:=λ_=>False
 ct:Dl->Prop:=λ_=>False
 xc:Addr->Dl->Prop:=λ_ _=>False
 xr:Addr->Dl->Prop:=λ_ _=>False
noncomputable abbrev bX:=qO->Dl->Prop
noncomputable def lE(t:aC):TE:=λσ H Q=>∃B F δ ts Qd,aj B F H σ δ ts/\t δ Qd/\∀d ag v F' H',Qd d ag->aa F F'->aa H H'->aj B F' H' σ ag ((d,v)::ts)->Q v H'
noncomputable def lB(t:aC):TE:=λσ H Q=>∃B F δ ts Qd,aj B F H σ δ ts/\t δ Qd/\∀d ag v F' H',Qd d ag->aa F F'->aa H H'->aj B F' H' σ ag ts->S F' H' [d] [v]->Q v H'
noncomputable def lT(t:et):TT:=λσ H Q=>∃B F δ ts Qd,aj B F H σ δ ts/\t δ Qd/\∀b ag F' H',Qd b ag->aa F F'->aa H H'->aj B F' H' σ ag ts->Q b H'
noncomputable def lA(t:cj):TA:=λσ H Q=>∃B F δ ts Qd,aj B F H σ δ ts/\t δ Qd/\∀ds ag vs F' H',Qd ds ag->aa F F'->aa H H'->aj B F' H' σ ag ts->S F' H' ds vs->Q vs H'
noncomputable def lO(t:cj):TA:=λσ H Q=>∃B F δ ts Qd,aj B F H σ δ ts/\t δ Qd/\∀(ps:List (D × V)) ag F' H',Qd (ps.map (·.1)) ag->aa F F'->aa H H'->aj B F' H' σ ag (ps++ts)->Q (ps.map (·.2)) H'
noncomputable def XL(X:Cx)(B:Bs)(Dd:qO):Prop :=
 (∀C ag pins av F' H' s' a T,Dd.xc C ag->aj B F' H' av ag []->Inv X pins av H' s'->qI s'.heap a T (.ref C)->Apart X pins H' a->Apart X pins H' T->X.xe (.ref a) s') /\
 (∀C ag pins av F' H' s' h' e vs,Dd.xr C ag->aj B F' H' av ag []->Inv X pins av H' s'->Kb s'.heap h' e (.ref C) vs->X.xe (.ref e) { s' with heap:=h' })
theorem XL.none{X:Cx}{B:Bs}{Dd:qO}(h1:∀C δ,¬ Dd.xc C δ)(h2:∀C δ,¬ Dd.xr C δ):XL X B Dd:=⟨λC δ _ _ _ _ _ _ _ h=>absurd h (h1 C δ),λC δ _ _ _ _ _ _ _ _ h=>absurd h (h2 C δ)⟩
noncomputable def lS(X:Cx)(t:bX):TS:=λD σ H=>∃B F δ Dd,aj B F H σ δ []/\t Dd δ/\(∀ag av F' H',Dd.nx ag->aj B F' H' av ag []->D.nx av H')/\(∀d v ag av F' H',Dd.rt d->aj B F' H' av ag [(d,v)]->D.rt v H') /\
 (∀ag av F' H',Dd.bk ag->aj B F' H' av ag []->D.bk av H')/\(∀ag av F' H',Dd.ct ag->aj B F' H' av ag []->D.ct av H')/\XL X B Dd
section
variable{X:Cx}{e a b c:Expr}{es:List Expr}{pos:Pos}{st:Stmt}{v3:List Stmt}
theorem cQ{t t':TE}(h:PE X e t)(m:∀σ H Q,t' σ H Q->t σ H Q):PE X e t':=λpins s σ H Q I q=>h pins s σ H Q I (m σ H Q q)
theorem CZ{t t':TT}(h:PT X e t)(m:∀σ H Q,t' σ H Q->t σ H Q):PT X e t':=λpins s σ H Q I q=>h pins s σ H Q I (m σ H Q q)
theorem Md{t t':TT}(h:PW X e t)(m:∀σ H Q,t' σ H Q->t σ H Q):PW X e t':=λwh pins s σ H Q I q=>h wh pins s σ H Q I (m σ H Q q)
theorem v7{t t':TA}(h:PA X es t)(m:∀σ H Q,t' σ H Q->t σ H Q):PA X es t':=λp pins s σ H Q I q=>h p pins s σ H Q I (m σ H Q q)
theorem kY{t t':TS}(h:PS X st t)(m:∀D σ H,t' D σ H->t D σ H):PS X st t':=λpins s σ H D I q=>h pins s σ H D I (m D σ H q)
theorem yI{t t':TS}(h:PSs X v3 t)(m:∀D σ H,t' D σ H->t D σ H):PSs X v3 t':=λpins s σ H D I q=>h pins s σ H D I (m D σ H q)
variable{t u ta tb tc:aC}
theorem af(h:PE X e (lE t)):PE X e (lB t):=cQ h λσ H Q ⟨B,F,δ,ts,Qd,c,q,k⟩=>⟨B,F,δ,ts,Qd,c,q,λd ag v F' H' hd sf sh c'=>k d ag v F' H' hd sf sh c'.pop c'.top⟩
noncomputable def kZ(t:aC):aC:=λδ Q=>t δ λd ag=>d.pl=true/\Q d ag
theorem eA(h:PE X e (lB t)):PE X e (lE (kZ t)):=cQ h λσ H Q ⟨B,F,δ,ts,Qd,c,q,k⟩=>⟨B,F,δ,ts,_,c,q,λd ag v F' H' hd sf sh c' s=>k d ag v F' H' hd.2 sf sh (c'.pushS s hd.1)⟩
noncomputable def jT(i:Nat):aC:=λδ Q=>match δ[i]? with
 | some (some d)=>Q d δ
 | _=>False
noncomputable def jU(i:Nat):aC:=λδ Q=>match δ[i]? with
 | some (some d)=>Q d (δ.set i none)
 | _=>False
theorem Xe{i:Nat}{δ:Dl}{Q:D->Dl->Prop}(h:jT i δ Q):∃d,δ[i]?=some (some d)/\Q d δ:=by
 unfold jT at h
 split at h
 ·rename_i d e;exact⟨d,e,h⟩
 ·exact h.elim
theorem Xf{i:Nat}{δ:Dl}{Q:D->Dl->Prop}(h:jU i δ Q):∃d,δ[i]?=some (some d)/\Q d (δ.set i none):=by
 unfold jU at h
 split at h
 ·rename_i d e;exact⟨d,e,h⟩
 ·exact h.elim
noncomputable def dC(d:D):aC:=λδ Q=>Q d δ
theorem bv(i:Nat){x:Str}(hN:X.N[i]?=some x:=by rfl)(hv:jJ X.env.scope x:=by first | exact ay rfl | exact bg (ay rfl) | exact bg (bg rfl))(hd:(x==("__debug__":Str))=false:=by decide)
  (cn:(x==("__classdict__":Str))=false:=by decide):PE X (.Name x pos) (lB (jT i)):=cQ (qt hN hv hd cn) λσ H Q ⟨B,F,δ,ts,Qd,c,q,k⟩=>by
 obtain⟨d,e,q⟩:=Xe q
 obtain⟨v,e1,s⟩:=c.look e
 exact⟨v,e1,k d δ v F H q (aa.refl _) (aa.refl _) c s⟩
theorem em(i:Nat){x:Str}(hN:X.N[i]?=some x:=by rfl)(hv:jJ X.env.scope x:=by first | exact ay rfl | exact bg (ay rfl) | exact bg (bg rfl))(hd:(x==("__debug__":Str))=false:=by decide)
  (cn:(x==("__classdict__":Str))=false:=by decide):PE X (.Name x pos) (lE (jU i)):=cQ (qt hN hv hd cn) λσ H Q ⟨B,F,δ,ts,Qd,c,q,k⟩=>by
 obtain⟨d,e,q⟩:=Xf q
 obtain⟨v,e1,c'⟩:=c.move e
 exact⟨v,e1,k d _ v F H q (aa.refl _) (aa.refl _) c'⟩
theorem yJ{B:Bs}{F H:Hp}{σ:L2.St}{δ:Dl}{ts:List (D × V)}{Qd:D->Dl->Prop}{Q:VK}{d:D}{v:V}(c:aj B F H σ δ ts)(q:Qd d δ)(s:S F H [d] [v])(p:d.pl=true)
  (k:∀d ag v F' H',Qd d ag->aa F F'->aa H H'->aj B F' H' σ ag ((d,v)::ts)->Q v H'):Q v H:=k d δ v F H q (aa.refl _) (aa.refl _) (c.pushS s p)
theorem aw{i j}:PE X (.Constant (.int i) j pos) (lE (dC (.int i))):=cQ vC λσ H Q ⟨B,F,δ,ts,Qd,c,q,k⟩=>yJ c q (.int .nil) rfl k
theorem jf{i j}:PE X (.Constant (.bool i) j pos) (lE (dC (.bl i))):=cQ Ky λσ H Q ⟨B,F,δ,ts,Qd,c,q,k⟩=>yJ c q (.bl .nil) rfl k
theorem v9{j}:PE X (.Constant .none j pos) (lE (dC .ak)):=cQ S6 λσ H Q ⟨B,F,δ,ts,Qd,c,q,k⟩=>yJ c q (.ak .nil) rfl k
theorem Me{x j}:PE X (.Constant (.str x) j pos) (lE (dC (.str x))):=cQ S7 λσ H Q ⟨B,F,δ,ts,Qd,c,q,k⟩=>yJ c q (.str .nil) rfl k
noncomputable abbrev bZ:=D->D->(D->Prop)->Prop
noncomputable def yK(r:R2)(rd:bZ):Prop:=∀{B:Bs} {F H:Hp} {σ:L2.St} {δ:Dl} {ts:List (D × V)} {x y:D} {v w:V} {Q:VK} {Qd:D->Prop},aj B F H σ δ ts->S F H [x] [v]->S F H [y] [w]->rd x y Qd ->
 (∀d z H',Qd d->aa H H'->aj B F H' σ δ ((d,z)::ts)->Q z H')->r v w H Q
noncomputable def bJ(X:Cx)(f:Value->Value->Sem Value)(rd:bZ):Prop:=∃r,bY X f r/\yK r rd
theorem bJ.or{f:Value->Value->Sem Value}{r1 r2:bZ}(h1:bJ X f r1)(h2:bJ X f r2):bJ X f λx y Q=>r1 x y Q\/r2 x y Q:=by
 obtain⟨q1,a1,b1⟩:=h1
 obtain⟨q2,a2,b2⟩:=h2
 refine⟨_,a1.or a2,λ{B F H σ δ ts x y v w Q Qd} c sx sy h k=>?_⟩
 rcases h with h | h
 ·exact .inl (b1 c sx sy h k)
 ·exact .inr (b2 c sx sy h k)
theorem bJ.imp{f:Value->Value->Sem Value}{r1 r2:bZ}(h1:bJ X f r1)(h:∀x y Q,r2 x y Q->r1 x y Q):bJ X f r2:=by
 obtain⟨q1,a1,b1⟩:=h1
 exact⟨q1,a1,λ{B F H σ δ ts x y v w Q Qd} c sx sy h2 k=>b1 c sx sy (h _ _ _ h2) k⟩
noncomputable def jg(rd:bZ)(ta tb:aC):aC:=λδ Q=>ta δ λx ai=>tb ai λy aF=>rd x y λd=>Q d aF
theorem C2{r:R2}{rd:bZ}(hl:yK r rd):∀σ H Q,lE (jg rd ta tb) σ H Q->vH r (lB ta) (lB tb) σ H Q:=λσ H Q ⟨B,F,δ,ts,Qd,c,q,k⟩ =>
 ⟨B,F,δ,ts,_,c,q,λx ai v F1 H1 q1 f1 h1 c1 s1=>⟨B,F1,ai,ts,_,c1,q1,λy aF w F2 H2 q2 f2 h2 c2 s2 =>
  hl c2 (s1.mono f2 h2) s2 q2 λd z H' hd hs c3=>k d aF z F2 H' hd (f1.trans f2) ((h1.trans h2).trans hs) c3⟩⟩
theorem aL{op:Operator}{rd:bZ}(ho:bJ X (binaryOp op) rd)(ha:PE X a (lB ta))(hb:PE X b (lB tb)):PE X (.BinOp a op b pos) (lE (jg rd ta tb)):=by
 obtain⟨r,h1,h2⟩:=ho
 exact cQ (vI h1 ha hb) (C2 h2)
theorem nI{op:CmpOp}{rd:bZ}(ho:bJ X (compareOp op) rd)(ha:PE X a (lB ta))(hb:PE X b (lB tb))(hm:behindInMarks op b=false):PE X (.Compare a [op] [b] pos) (lE (jg rd ta tb)):=by
 obtain⟨r,h1,h2⟩:=ho
 exact cQ (Up h1 ha hb hm) (C2 h2)
noncomputable def dT(t:aC):et:=λδ Q=>t δ λd ag=>∃k,d=.bl k/\Q k ag
theorem Xg{te:TE}(h:∀σ H Q,lE t σ H Q->te σ H Q):∀σ H Q,lT (dT t) σ H Q->KQ te σ H Q:=λσ H Q zz=>by
 obtain⟨B,F,δ,ts,Qd,c,q,k⟩:=zz
 refine h σ H _ ⟨B,F,δ,ts,_,c,q,λd ag v F' H' hd sf sh c'=>?_⟩
 obtain⟨b,rfl,qb⟩:=hd
 have s:=c'.top
 cases s with
 | bl _=>exact⟨b,rfl,k b ag F' H' qb sf sh c'.pop⟩
theorem cU{op:CmpOp}{rd:bZ}(ho:bJ X (compareOp op) rd)(ha:PE X a (lB ta))(hb:PE X b (lB tb))(hm:behindInMarks op b=false):PT X (.Compare a [op] [b] pos) (lT (dT (jg rd ta tb))):=by
 obtain⟨r,h1,h2⟩:=ho
 exact CZ (Uq h1 ha hb hm) (Xg (C2 h2))
noncomputable def lh(r r':bZ)(ta tb tc:aC):aC:=λδ Q=>ta δ λx ai=>tb ai λy aF=>r x y λd=>∃k,d=.bl k/\if k=true then tc aF λz fZ=>r' y z λd'=>Q d' fZ else Q (.bl false) aF
theorem lj(h:PE X e (lB t))(he:∀whole,isTrue e X.env whole=(do let v<-whole;standAt e.pos;holding [v] (truthy v)):=by intro _;rfl):PT X e (lT (dT t)) :=
 CZ (BZ h he) λσ H Q ⟨B,F,δ,ts,Qd,c,q,k⟩=>⟨B,F,δ,ts,_,c,q,λd ag v F' H' hd sf sh c' s=>by
  obtain⟨b,rfl,qb⟩:=hd
  cases s with
  | bl _=>exact⟨b,rfl,k b ag F' H' qb sf sh c'⟩⟩
variable{tA tB:et}{cA:List Expr}
noncomputable def nJ(t u:et):et:=λδ Q=>t δ λc ai=>if c=true then u ai Q else Q false ai
noncomputable def nK(t u:et):et:=λδ Q=>t δ λc ai=>if c=true then Q true ai else u ai Q
noncomputable def nL(t:et):et:=λδ Q=>t δ λc ai=>Q (!c) ai
theorem Mg(ha:PT X a (lT tA))(hb:PW X (.BoolOp .And (b::cA) pos) (lT tB)):PW X (.BoolOp .And (a::b::cA) pos) (lT (nJ tA tB)) :=
 Md (Te ha hb) λσ H Q ⟨B,F,δ,ts,Qd,c,q,k⟩=>⟨B,F,δ,ts,_,c,q,λb ai F1 H1 q1 f1 h1 c1=>by
  cases b with
  | true=>exact kP ⟨B,F1,ai,ts,Qd,c1,by simpa using q1,λb ag F' H' hd sf sh c'=>k b ag F' H' hd (f1.trans sf) (h1.trans sh) c'⟩
  | false=>exact i9 (k false ai F1 H1 (by simpa using q1) f1 h1 c1)⟩
theorem Mh(ha:PT X a (lT tA))(hb:PW X (.BoolOp .Or (b::cA) pos) (lT tB)):PW X (.BoolOp .Or (a::b::cA) pos) (lT (nK tA tB)) :=
 Md (Tf ha hb) λσ H Q ⟨B,F,δ,ts,Qd,c,q,k⟩=>⟨B,F,δ,ts,_,c,q,λb ai F1 H1 q1 f1 h1 c1=>by
  cases b with
  | true=>exact kP (k true ai F1 H1 (by simpa using q1) f1 h1 c1)
  | false=>exact i9 ⟨B,F1,ai,ts,Qd,c1,by simpa using q1,λb ag F' H' hd sf sh c'=>k b ag F' H' hd (f1.trans sf) (h1.trans sh) c'⟩⟩
theorem wa(ha:PT X a (lT tA)):PT X (.UnaryOp .Not a pos) (lT (nL tA)) :=
 CZ (B0 ha) λσ H Q ⟨B,F,δ,ts,Qd,c,q,k⟩=>⟨B,F,δ,ts,_,c,q,λb ai F1 H1 q1 f1 h1 c1=>k _ ai F1 H1 q1 f1 h1 c1⟩
noncomputable def nM(ta tb:aC):aC:=λδ Q=>ta δ λx ai=>∃c,x=.bl c/\if c=true then tb ai Q else Q (.bl false) ai
noncomputable def nN(ta tb:aC):aC:=λδ Q=>ta δ λx ai=>∃c,x=.bl c/\if c=true then Q (.bl true) ai else tb ai Q
noncomputable def nO(ta:aC):aC:=λδ Q=>ta δ λx ai=>∃c,x=.bl c/\Q (.bl (!c)) ai
theorem tu(ha:PE X a (lB ta))(hb:PE X (.BoolOp .And (b::cA) pos) (lE tb)):PE X (.BoolOp .And (a::b::cA) pos) (lE (nM ta tb)) :=
 cQ (Tj ha hb) λσ H Q ⟨B,F,δ,ts,Qd,c,q,k⟩=>⟨B,F,δ,ts,_,c,q,λd ai v F1 H1 q1 f1 h1 c1 s1=>by
  obtain⟨b,rfl,qb⟩:=q1
  cases s1 with
  | bl _ =>
   refine⟨b,rfl,?_⟩
   cases b with
   | true=>exact kP ⟨B,F1,ai,ts,Qd,c1,by simpa using qb,λd ag v F' H' hd sf sh c'=>k d ag v F' H' hd (f1.trans sf) (h1.trans sh) c'⟩
   | false=>exact i9 (k _ ai _ F1 H1 (by simpa using qb) f1 h1 (c1.pushS (.bl .nil) rfl))⟩
theorem Xh(ha:PE X a (lB ta))(hb:PE X (.BoolOp .Or (b::cA) pos) (lE tb)):PE X (.BoolOp .Or (a::b::cA) pos) (lE (nN ta tb)) :=
 cQ (Tn ha hb) λσ H Q ⟨B,F,δ,ts,Qd,c,q,k⟩=>⟨B,F,δ,ts,_,c,q,λd ai v F1 H1 q1 f1 h1 c1 s1=>by
  obtain⟨b,rfl,qb⟩:=q1
  cases s1 with
  | bl _ =>
   refine⟨b,rfl,?_⟩
   cases b with
   | true=>exact kP (k _ ai _ F1 H1 (by simpa using qb) f1 h1 (c1.pushS (.bl .nil) rfl))
   | false=>exact i9 ⟨B,F1,ai,ts,Qd,c1,by simpa using qb,λd ag v F' H' hd sf sh c'=>k d ag v F' H' hd (f1.trans sf) (h1.trans sh) c'⟩⟩
theorem Mi(ha:PE X a (lB ta)):PE X (.UnaryOp .Not a pos) (lE (nO ta)) :=
 cQ (To ha) λσ H Q ⟨B,F,δ,ts,Qd,c,q,k⟩=>⟨B,F,δ,ts,_,c,q,λd ai v F1 H1 q1 f1 h1 c1 s1=>by
  obtain⟨b,rfl,qb⟩:=q1
  cases s1 with
  | bl _=>exact⟨b,rfl,k _ ai _ F1 H1 qb f1 h1 (c1.pushS (.bl .nil) rfl)⟩⟩
noncomputable def nQ(t:et)(ta tb:aC):aC:=λδ Q=>t δ λc ai=>if c=true then ta ai Q else tb ai Q
theorem Xi(hc:PT X c (lT tA))(ha:PE X a (lE ta))(hb:PE X b (lE tb)):PE X (.IfExp c a b pos) (lE (nQ tA ta tb)) :=
 cQ (Tq hc ha hb) λσ H Q ⟨B,F,δ,ts,Qd,c,q,k⟩=>⟨B,F,δ,ts,_,c,q,λb ai F1 H1 q1 f1 h1 c1=>by
  cases b with
  | true=>exact kP ⟨B,F1,ai,ts,Qd,c1,by simpa using q1,λd ag v F' H' hd sf sh c'=>k d ag v F' H' hd (f1.trans sf) (h1.trans sh) c'⟩
  | false=>exact i9 ⟨B,F1,ai,ts,Qd,c1,by simpa using q1,λd ag v F' H' hd sf sh c'=>k d ag v F' H' hd (f1.trans sf) (h1.trans sh) c'⟩⟩
noncomputable def ly:cj:=λδ Q=>Q [] δ
noncomputable def lC(t:aC)(r:cj):cj:=λδ Q=>t δ λd ai=>r ai λds aF=>Q (d::ds) aF
theorem aB:PA X [] (lA ly):=v7 hV λσ H Q ⟨B,F,δ,ts,Qd,c,q,k⟩=>k [] δ [] F H q (aa.refl _) (aa.refl _) c .nil
variable{tr:cj}
theorem ah(ha:PE X e (lB t))(hr:PA X es (lA tr))(hs:starEach (e::es) X.env=(false,eval e X.env)::starEach es X.env:=by rfl):PA X (e::es) (lA (lC t tr)) :=
 v7 (eK ha hr hs) λσ H Q ⟨B,F,δ,ts,Qd,c,q,k⟩=>⟨B,F,δ,ts,_,c,q,λd ai v F1 H1 q1 f1 h1 c1 s1=>⟨B,F1,ai,ts,_,c1,q1,λds aF vs F2 H2 q2 f2 h2 c2 s2 =>
  k (d::ds) aF (v::vs) F2 H2 q2 (f1.trans f2) (h1.trans h2) c2 ((s1.mono f2 h2).cons s2)⟩⟩
theorem fh:PA X [] (lO ly):=v7 hV λσ H Q ⟨B,F,δ,ts,Qd,c,q,k⟩=>k [] δ F H q (aa.refl _) (aa.refl _) c
theorem e5(ha:PE X e (lE t))(hr:PA X es (lO tr))(hs:starEach (e::es) X.env=(false,eval e X.env)::starEach es X.env:=by rfl):PA X (e::es) (lO (lC t tr)) :=
 v7 (eK ha hr hs) λσ H Q ⟨B,F,δ,ts,Qd,c,q,k⟩=>⟨B,F,δ,ts,_,c,q,λd ai v F1 H1 q1 f1 h1 c1=>⟨B,F1,ai,(d,v)::ts,_,c1,q1,λps aF F2 H2 q2 f2 h2 c2 =>
  k ((d,v)::ps) aF F2 H2 q2 (f1.trans f2) (h1.trans h2) (c2.perm (List.perm_middle))⟩⟩
noncomputable def lD(t:cj):aC:=λδ Q=>t δ λds ag=>ds.length<=sizeLine/\Q (.lst true ds) ag
noncomputable def nR(t:cj):aC:=λδ Q=>t δ λds ag=>ds.length<=sizeLine/\Q (.tup ds) ag
theorem gI(h:PA X es (lO tr)):PE X (.List es pos) (lE (lD tr)) :=
 cQ (KW h) λσ H Q ⟨B,F,δ,ts,Qd,c,q,k⟩=>⟨B,F,δ,ts,_,c,q,λps ai F1 H1 q1 f1 h1 c1=>⟨by simpa using q1.1,λp hp=>k _ ai _ F1 _ q1.2 f1 (h1.trans (aa.upd hp)) (c1.W6 hp)⟩⟩
theorem C3{x1}(h:PA X es (lO tr)):PE X (.Tuple es x1 pos) (lE (nR tr)) :=
 cQ (UT h) λσ H Q ⟨B,F,δ,ts,Qd,c,q,k⟩=>⟨B,F,δ,ts,_,c,q,λps ai F1 H1 q1 f1 h1 c1=>⟨by simpa using q1.1,λp hp=>k _ ai _ F1 _ q1.2 f1 (h1.trans (aa.upd hp)) (c1.W7 hp)⟩⟩
end
end L3
namespace L3
open PySem L2 PySem.Spec PyProof.Rows
noncomputable abbrev bG:=List D->(D->Prop)->Prop
noncomputable def bK(sp:bG):Sp:=λvs H Q _=>∃F ds Qd,aa F H/\R F H ds vs []/\sp ds Qd/\∀d v F' H' A,Qd d->aa H H'->aa F F'->aa F' H'->(∀a ws,F' a=some (.lst ws)->F a=some (.lst ws)\/H a=none)->R F' H' [d] [v] A->A.Nodup->(∀a∈A,H a=none)->Q v H'
noncomputable def lF(sp:bG)(t:cj):aC:=λδ Q=>t δ λds ag=>sp (ds.map D.sh) λd=>(ds.all D.pl||d.fr)=true/\Q d ag
theorem yL{B:Bs}{F H:Hp}{σ:L2.St}{δ:Dl}{ts:List (D × V)}{Qd:D->Prop}{Q:VK}{E:XK}{ds:List D}{vs:List V}{sp:bG}(c:aj B F H σ δ ts)(s:S F H ds vs)(q:sp (ds.map D.sh) λd=>(ds.all D.pl||d.fr)=true/\Qd d)
  (k:∀d v F' H',Qd d->aa F F'->aa H H'->aj B F' H' σ δ ((d,v)::ts)->Q v H'):bK sp vs H Q E:=by
 by_cases hp:ds.all D.pl=true
 ·rw[jR hp]at q
  exact⟨F,ds,_,c.ext,s.r hp,q,λd v F' H' A hd hs hf he h3 r nd fr=>k d v F' H' hd.2 hf hs (c.call hs hf he h3 r nd fr)⟩
 ·refine⟨H,ds.map D.sh,_,aa.refl _,s.frozen c.ext,q,λd v F' H' A hd hs hf he h3 r nd fr=>?_⟩
  have dz:d.fr=true:=by
   have:=hd.1
   rw[Bool.or_eq_true]at this
   exact this.resolve_left hp
  exact k d v F H' hd.2 (aa.refl _) hs (c.CW hs (r.CU (by simp[dz]) (c.ext.trans hf)) nd fr)
section
variable{X:Cx}{CX:dG}{n:Nat}{f:Addr}{fd:FuncData}{ps:List Str}{sp:bG}{E:XK}{x:Str}{p pos:Pos}{e:Expr}{es:List Expr}{t:cj}
theorem br(F:aS X.prog X.w X.K X.mg X.base CX n f fd ps (bK sp))(hr:bN n X.A)(hg:Gl X x)(hm:X.mg x=some (.ref f))(hk:PySem.W.keepIn X.K (.ref f)=true)(hb:Binds X.K fd ps [])(hx:jM CX X E)
  (ha:PA X (e::es) (lA t)) (dH:(x==("__debug__":Str))=false:=by decide) (he:starEach (e::es) X.env=(false,eval e X.env)::starEach es X.env:=by rfl) (bO:(backTo pos (starEach es X.env)).any (·.1)=false:=by rfl) :
  PE X (.Call (.Name x p) (e::es) [] pos) (lE (lF sp t)) :=
 cQ (qE F hr hg hm hk hb .nil hx ha dH he bO) λσ H Q ⟨B,F,δ,ts,Qd,c,q,k⟩=>⟨B,F,δ,ts,_,c,q,λds ai vs F1 H1 q1 f1 h1 c1 s1=>by
  show bK sp (vs++[]) H1 Q E
  rw[m9]
  exact yL c1 s1 q1 λd v F' H' hd hf hs c'=>k d ai v F' H' hd (f1.trans hf) (h1.trans hs) c'⟩
end
noncomputable def ie(N:List Str)(ds:List D):Dl:=ds.map some++aT (N.length-ds.length) none
section
variable{P:Program}{w:World}{K:PySem.W.Frag}{mg:Str->Option Value}{base:Heap}
theorem cq{x qual:Str}{st:Stmt}{f:Addr}{fd:FuncData}{N ps:List Str}{k:Nat}{sp:bG}(F:bB K x qual st f fd)(S:bE N ps (aA st))(len:∀ds Q,sp ds Q->ds.length=ps.length)
  (fU:∀(aG:Value) (A:Around) (outer:List Env) (s:Shared) (H:Hp) (E:XK),bN k (A.deeper (envOfC qual (aA st) s.heap.objs.size f aG)) ->
   ∃t:bX,PSs (gA bc P w K mg base N qual (aA st) f aG A outer s H E).eS (bq st) (lS (gA bc P w K mg base N qual (aA st) f aG A outer s H E).eS t)/\∀ds Q,sp ds Q->t { nx:=λ_=>Q .ak,rt:=Q } (ie N ds)):aS P w K mg base bc (k+1) f fd ps (bK sp):=by
 refine F.ok S (λvs H Q E ⟨F,ds,Qd,e,r,h,_⟩=>by rw[<-r.length];exact len ds Qd h) λaG A outer s H vs Q E hr zz=>?_
 obtain⟨F,ds,Qd,e,r,h,k⟩:=zz
 obtain⟨t,ht,hq⟩:=fU aG A outer s H E hr
 have fin:∀d v ag av F' H',Qd d->aj ⟨H,F⟩ F' H' av ag [(d,v)]->Q v H':=λd v ag av F' H' hd c=>by
  obtain⟨A,C,r',s',nd,fr⟩:=c.own
  exact k d v F' H' A hd c.b1 c.b2 c.ext c.b3 r' (fY.mp nd).1 λa ha=>fr a (eG _ ha)
 have e1:L2.start N vs=vs.map some++aT (N.length-ds.length) none:=by unfold L2.start;rw[r.length]
 refine⟨_,ht,⟨H,F⟩,F,ie N ds,_,?_,hq ds Qd h,λag av F' H' hd c=>fin .ak .ak ag av F' H' hd (c.pushS (.ak .nil) rfl),fin,λ_ _ _ _ z=>z.elim,λ_ _ _ _ z=>z.elim,XL.none (λ_ _ z=>z) λ_ _ z=>z⟩
 rw[e1]
 exact aj.start e r _
end
section
variable{X:Cx}{e a b c:Expr}{es:List Expr}{pos:Pos}{st:Stmt}{v3 cA:List Stmt}{t u:bX}{te:aC}{tt:et}
noncomputable def nS:bX:=λD δ=>D.nx δ
noncomputable def Mj(t u:bX):bX:=λD δ=>t { D with nx:=u D } δ
theorem aH{t u:bX}{En:qO}{δ:Dl}(h:∀U:Dl->Prop,(∀ag,u En ag->U ag)->t { En with nx:=U } δ):Mj t u En δ:=h (u En) λ_ z=>z
theorem cX:PSs X [] (lS X nS):=yI B3 λD σ H ⟨B,F,δ,Dd,c,q,k1,_⟩=>k1 δ σ F H q c
theorem aK(h1:PS X st (lS X t))(h2:PSs X cA (lS X u)):PSs X (st::cA) (lS X (Mj t u)) :=
 yI (g9 h1 h2) λD σ H ⟨B,F,δ,Dd,c,q,k1,k2,k3,k4⟩=>⟨B,F,δ,{ Dd with nx:=u Dd },c,q,λag av F' H' hq c'=>⟨B,F',ag,Dd,c',hq,k1,k2,k3,k4⟩,k2,k3,k4⟩
theorem aO(h1:PS X st (lS X t)):PSs X [st] (lS X t):=qw h1
noncomputable def lH(i:Nat)(t:bX):bX:=λD δ=>∃d,δ[i]?=some (some d)/\t D (δ.set i (some d.sh))
theorem C4(i:Nat)(h:PSs X v3 (lS X t)):PSs X v3 (lS X (lH i t)):=yI h λD σ H zz=>by
 obtain⟨B,F,δ,Dd,c,⟨d,e,q⟩,k⟩:=zz
 obtain⟨F',s,c'⟩:=c.freeze e
 exact⟨B,F',_,Dd,c',q,k⟩
noncomputable def lJ(i:Nat)(t:aC):bX:=λD δ=>t δ λd ag=>D.nx (ag.set i (some d))
theorem bw{i:Nat}{x:Str}{pos':Pos}(hN:X.N.Nodup)(hi:X.N[i]?=some x)(hx:Loc X.env.scope x)(he:PE X e (lE te))(hs:swapsWith e (some (.Name x pos')) pos.line X.env=pure false:=by rfl)
  (hf:X.fn x=true\/X.env.scope.names.lookup x=some .local:=by first | exact .inl rfl | exact .inr rfl | assumption):PS X (.Assign [.Name x pos'] e pos) (lS X (lJ i te)) :=
 kY (B9 hN hi hx he hs hf) λD σ H ⟨B,F,δ,Dd,c,q,k1,k2,k3,k4⟩=>⟨B,F,δ,[],_,c,q,λd ag v F' H' hd sf sh c'=>k1 _ _ F' H' hd (c'.store i)⟩
noncomputable def nU(t:aC):bX:=λD δ=>t δ λd _=>D.rt d
theorem bf(he:PE X e (lE te)):PS X (.Return (some e) pos) (lS X (nU te)) :=
 kY (Tw he) λD σ H ⟨B,F,δ,Dd,c,q,k1,k2,k3,k4⟩=>⟨B,F,δ,[],_,c,q,λd ag v F' H' hd sf sh c'=>k2 d v ag σ F' H' hd c'⟩
noncomputable def lK(tc:et)(t u:bX):bX:=λD δ=>tc δ λb ag=>if b=true then t D ag else u D ag
theorem cY{l r:List Stmt}(hc:PT X c (lT tt))(ha:PSs X l (lS X t))(hb:PSs X r (lS X u)):PS X (.If c l r pos) (lS X (lK tt t u)) :=
 kY (B5 hc ha hb) λD σ H ⟨B,F,δ,Dd,c,q,k⟩=>⟨B,F,δ,[],_,c,q,λb ag F' H' hq sf sh c'=>by
  cases b with
  | true=>exact kP ⟨B,F',ag,Dd,c',by simpa using hq,k⟩
  | false=>exact i9 ⟨B,F',ag,Dd,c',by simpa using hq,k⟩⟩
noncomputable def nV(i:Nat)(rd:bZ)(t:aC):bX:=λD δ=>∃x,δ[i]?=some (some x)/\t δ λy ai=>rd x y λz=>D.nx (ai.set i (some z))
theorem yM{i:Nat}{x:Str}{op:Operator}{rd:bZ}{pos':Pos}(hN:X.N.Nodup)(hi:X.N[i]?=some x)(hx:Loc X.env.scope x)(he:PE X e (lB te))(ho:bJ X (inplaceOp op) rd)
  (hf:X.fn x=true\/X.env.scope.names.lookup x=some .local:=by first | exact .inl rfl | exact .inr rfl | assumption):PS X (.AugAssign (.Name x pos') op e pos) (lS X (nV i rd te)):=by
 obtain⟨r,h1,h2⟩:=ho
 refine kY (TR hN hi hx he (ti:=r) h1 hf) λD σ H zz=>?_
 obtain⟨B,F,δ,Dd,c,⟨d0,e0,q⟩,k1,k2,k3,k4⟩:=zz
 obtain⟨v0,e1,s0⟩:=c.look e0
 exact⟨v0,e1,B,F,δ,[],_,c,q,λd ag v F' H' hd sf sh c' s=>h2 c' (s0.mono sf sh) s hd λz w H2 hz h3 c3=>k1 _ _ F' H2 hz (c3.store i)⟩
noncomputable def nW(tc:et)(tb:bX):bX:=λD δ=>∃W:Nat->Dl->Prop,(∃m,W m δ)/\∀m δ,W m δ->tc δ λb ag=>if b=true then tb { D with nx:=λag=>∃m',m'<m/\W m' ag,ct:=λag=>∃m',m'<m/\W m' ag,bk:=D.nx } ag else D.nx ag
theorem yN{body:List Stmt}(hp:PassesOwn (model X.prog X.w) X.A X.env X.xe)(hc:PT X c (lT tt))(hb:PSs X body (lS X t)):PS X (.While c body [] pos) (lS X (nW tt t)) :=
 kY (TY hp hc hb) λD σ H zz=>by
  obtain⟨B,F,δ,Dd,c,⟨W,⟨m0,w0⟩,hw⟩,k1,k2,k3,k4⟩:=zz
  refine⟨λm σ H=>∃F δ,aj B F H σ δ []/\W m δ,⟨m0,F,δ,c,w0⟩,λm σ H ⟨F,δ,c,w⟩=>⟨B,F,δ,[],_,c,hw m δ w,λb ag F' H' hq sf sh c'=>?_⟩⟩
  cases b with
  | true =>
   refine kP ⟨λav H'=>∃m',m'<m/\∃F δ,aj B F H' av δ []/\W m' δ,λav H' z=>z,B,F',ag,{ Dd with nx:=λag=>∃m',m'<m/\W m' ag,ct:=λag=>∃m',m'<m/\W m' ag,bk:=Dd.nx },c',by simpa using hq,λaF i4 F2 H2 ⟨m',hm,w2⟩ c2=>⟨m',hm,F2,aF,c2,w2⟩,k2,λaF i4 F2 H2 z c2=>k1 aF i4 F2 H2 z c2,λaF i4 F2 H2 ⟨m',hm,w2⟩ c2=>⟨m',hm,F2,aF,c2,w2⟩,k4.2⟩
  | false=>exact i9 (k1 ag σ F' H' (by simpa using hq) c')
end
structure JD(J:It)(F:Hp)(xs:List D):Prop where
 go:∀i H,aa F H->i<xs.length->J.go i H
 hE:∀i H x H',aa F H->i<xs.length->J.hE i H x H'->∃d,xs[i]?=some d/\aa H H'/\R F H' [d] [x] []
 stop:∀i H,aa F H->xs.length<=i->J.stop i H
noncomputable abbrev gb:=Dl->(Bool->List D->Dl->Prop)->Prop
noncomputable def lI(t:gb):TI:=λσ H Rr=>∃B F δ ts Qd,aj B F H σ δ ts/\t δ Qd/\∀g xs ag J F' H',Qd g xs ag->aa F F'->aa H H'->aj B F' H' σ ag ts->JD J H' (xs.map D.sh)->(g=true->xs.all D.pl=true/\JD J F' xs)->Rr J H'
noncomputable abbrev e7:=D->Dl->(Dl->Prop)->Prop
noncomputable def lG(m:Nat)(t:e7):TG:=λv σ H Q=>∃B F δ ts d Qd,aj B F H σ δ ((d,v)::ts)/\t d δ Qd/\∀ag av,Qd ag->av.length=σ.length->(∀j,j<m->av[j]?=σ[j]?)->aj B F H av ag ts->Q av H
noncomputable def gJ:D->Option (List D)
 | .lst _ xs=>some xs
 | .fz xs=>some xs
 | _=>none
section
variable{B:Bs}{F H F1:Hp}{σ:L2.St}{δ:Dl}{ts:List (D × V)}
end
section
variable{X:Cx}{e a b c tg l iter:Expr}{es:List Expr}{pos:Pos}{t u:bX}{te:aC}{tt:et}{ta:cj}{m:Nat}
theorem tw{w w':TI}(h:PI X tg iter w)(m:∀σ H Q,w' σ H Q->w σ H Q):PI X tg iter w':=λpins s σ H Q I q=>h pins s σ H Q I (m σ H Q q)
theorem Ml{w w':TG}(h:PG X tg w)(m:∀v σ H Q,w' v σ H Q->w v σ H Q):PG X tg w':=λpins s σ H v u Q I r q=>h pins s σ H v u Q I r (m v σ H Q q)
noncomputable def gN(i:Nat):e7:=λd δ Q=>Q (δ.set i (some d))
theorem cZ{i:Nat}{x:Str}(hN:X.N.Nodup)(hi:X.N[i]?=some x)(hx:Loc X.env.scope x)(hm:m<=i:=by decide)(hf:X.fn x=true\/X.env.scope.names.lookup x=some .local:=by first | exact .inl rfl | exact .inr rfl | assumption):PG X (.Name x pos) (lG m (gN i)) :=
 Ml (ym hN hi hx hf) λv σ H Q ⟨B,F,δ,ts,d,Qd,c,q,k⟩=>k _ _ q (by simp) (λj hj=>by rw[pQ (by omega)]) (c.store i)
theorem lL{K:PySem.W.Frag}{F H:Hp}{p:Addr}{xs:List D}{ws:List V}(hp:Rd F p (.lst ws))(r:R F H xs ws [])(hF:Full F H):JD (Ca K p) F xs where
 go:=λi H' hs hi=>by
  have l:=r.length
  have gE:i<ws.length:=by omega
  exact⟨ws,ws[i],.inl (fX hp hs),aQ gE⟩
 hE:=λi H' x H2 hs hi zz=>by
  obtain⟨e,y⟩:=zz
  subst e
  have hx:=y ws (.inl (fX hp hs))
  obtain⟨v,A1,e2,r1,sub⟩:=(r.full hF hs rfl).get (aQ hi)
  rw[hx]at e2;cases e2
  have:A1=[]:=Sk.mpr λa ha=>by simpa using sub ha
  subst this
  exact⟨_,aQ hi,aa.refl _,r1⟩
 stop:=λi H' hs hi=>⟨ws,.inl (fX hp hs),by have:=r.length;omega⟩
theorem yO{F:Hp}(lo:Int)(n:Nat):JD (vD lo n) F ((aP n).map λ(k:Nat)=>D.int (lo+(k:Int))) where
 go:=λi H' hs hi=>by
  have gE:i<n:=by simpa using hi
  exact gE
 hE:=λi H' x H2 hs hi zz=>by
  obtain⟨e,y⟩:=zz
  subst e y
  have gE:i<n:=by simpa using hi
  exact⟨.int (lo+i),by simp[kE gE],aa.refl _,.int .nil⟩
 stop:=λi H' hs hi=>by
  have gE:n<=i:=by simpa using hi
  exact gE
noncomputable def nX(t:aC):gb:=λδ Q=>t δ λd ag=>∃xs,gJ d=some xs/\Q true (xs.map D.sh) ag
theorem Xj(xs:List D){F H:Hp}{ws:List V}(r:R F H (xs.map D.sh) ws []):(xs.map D.sh).map D.sh=xs.map D.sh:=jR r.pl
theorem Xk(h:PE X l (lE te)):PI X tg l (lI (nX te)) :=
 tw (KI h) λσ H Q ⟨B,F,δ,ts,Qd,c,q,k⟩=>⟨B,F,δ,ts,_,c,q,λd ai v F1 H1 hd f1 h1 c1=>by
  obtain⟨xs,e,hq⟩:=hd
  obtain⟨F2,f2,c2⟩:=c1.L9
  have tp:=c2.top
  have c3:=c2.pop.snap
  have e2:=c2.ext
  have sn:=qN e2
  cases d with
  | lst o ys =>
   obtain rfl:=cu e
   rw[di]at tp
   cases tp with
   | @shr p ws _ _ _ hp r _ =>
    have r3:=r.shared sn (aa.refl _)
    refine⟨p,rfl,⟨ws,bt.of (e2 _ _ hp)⟩,k true _ ai _ _ H1 hq ((f1.trans f2).trans sn) h1 c3 ?_ λ_=>⟨r.pl,lL (.inl (sn _ _ hp)) r3 s9⟩⟩
    rw[Xj _ r]
    exact lL (.inl (e2 _ _ hp)) (r.shared e2 (aa.refl _)) (Full.refl _)
  | fz ys =>
   obtain rfl:=cu e
   cases tp with
   | @fz p o ws _ _ _ hp r _ =>
    have r3:=r.shared sn (aa.refl _)
    have es:=jR r.pl
    rw[es]at hq
    refine⟨p,rfl,⟨ws,.inl (.inr ⟨o,e2 _ _ hp⟩)⟩,k true _ ai _ _ H1 hq ((f1.trans f2).trans sn) h1 c3 ?_ λ_=>⟨r.pl,lL (.inr ⟨o,sn _ _ hp⟩) r3 s9⟩⟩
    rw[es]
    exact lL (.inr ⟨o,e2 _ _ hp⟩) (r.shared e2 (aa.refl _)) (Full.refl _)
  | ak=>cases e
  | bl _=>cases e
  | int _=>cases e
  | str _=>cases e
  | tup _=>cases e
  | obj _ _ _=>cases e
  | aU _=>cases e⟩
noncomputable def nY(t:aC):gb:=λδ Q=>t δ λd ag=>∃xs,gJ d=some xs/\Q d.pl xs ag
theorem iK(h:PE X l (lB te)):PI X tg l (lI (nY te)) :=
 tw (KI h) λσ H Q ⟨B,F,δ,ts,Qd,c,q,k⟩=>⟨B,F,δ,ts,_,c,q,λd ai v F1 H1 hd f1 h1 c1 s=>by
  obtain⟨xs,e,hq⟩:=hd
  have c3:=c1.snap
  have e2:=c1.ext
  have sn:=qN e2
  cases s with
  | @shr p ws ys _ _ hp r _ =>
   obtain rfl:=cu e
   refine⟨p,rfl,⟨ws,bt.of (e2 _ _ hp)⟩,k _ _ ai _ _ H1 hq (f1.trans sn) h1 c3 ?_ λ_=>⟨r.pl,lL (.inl (sn _ _ hp)) (r.shared sn (aa.refl _)) s9⟩⟩
   rw[jR r.pl]
   exact lL (.inl (e2 _ _ hp)) (r.shared e2 (aa.refl _)) (Full.refl _)
  | @own p ws ys _ _ hp r _ =>
   obtain rfl:=cu e
   refine⟨p,rfl,⟨ws,bt.of hp⟩,k _ _ ai _ _ H1 hq (f1.trans sn) h1 c3 (lL (.inl hp) (r.frozen e2) (Full.refl _)) λz=>by simp[fB]at z⟩
  | @fz p o ws ys _ _ hp r _ =>
   obtain rfl:=cu e
   refine⟨p,rfl,⟨ws,.inl (.inr ⟨o,e2 _ _ hp⟩)⟩,k _ _ ai _ _ H1 hq (f1.trans sn) h1 c3 ?_ λ_=>⟨r.pl,lL (.inr ⟨o,sn _ _ hp⟩) (r.shared sn (aa.refl _)) s9⟩⟩
   rw[jR r.pl]
   exact lL (.inr ⟨o,e2 _ _ hp⟩) (r.shared e2 (aa.refl _)) (Full.refl _)
  | ak _=>cases e
  | bl _=>cases e
  | int _=>cases e
  | str _=>cases e
  | tup _ _ _=>cases e
  | obj _ _ _ _=>cases e
  | aU _ _=>cases e⟩
theorem wb(f:Nat->Int)(l:List Nat):(l.map λk=>D.int (f k)).map D.sh=l.map λk=>D.int (f k):=by simp[D.sh]
theorem Mm(f:Nat->Int)(l:List Nat):(l.map λk=>D.int (f k)).all D.pl=true:=by simp[D.pl]
noncomputable def nZ(t:cj):gb:=λδ Q=>t δ λds ag=>∃j:Int,ds=[.int j]/\(-(2 ^ 62)<=j/\j<2 ^ 62)/\Q true ((aP j.toNat).map λ(k:Nat)=>D.int (0+(k:Int))) ag
theorem jV{p:Pos}(hg:Gl X "range")(hm:X.mg "range"=none)(ha:PA X [a] (lA ta))(hs:starEach [a] X.env=[(false,eval a X.env)]:=by rfl):PI X tg (.Call (.Name "range" p) [a] [] pos) (lI (nZ ta)) :=
 tw (T5 hg hm ha hs) λσ H Q ⟨B,F,δ,ts,Qd,c,q,k⟩=>⟨B,F,δ,ts,_,c,q,λds ai vs F1 H1 hd f1 h1 c1 s=>by
  obtain⟨j,rfl,⟨b1,b2⟩,hq⟩:=hd
  cases s with
  | int s =>
   cases s
   refine⟨j,rfl,b1,b2,k true _ ai _ _ H1 hq f1 h1 c1 ?_ λ_=>⟨Mm _ _,yO 0 _⟩⟩
   rw[wb]
   exact yO 0 _⟩
noncomputable def n5(t:cj):gb:=λδ Q=>t δ λds ag=>∃i j:Int,ds=[.int i,.int j]/\(-(2 ^ 62)<=i/\i<2 ^ 62/\-(2 ^ 62)<=j/\j<2 ^ 62)/\Q true ((aP (j-i).toNat).map λ(k:Nat)=>D.int (i+(k:Int))) ag
theorem yP{p:Pos}(hg:Gl X "range")(hm:X.mg "range"=none)(ha:PA X [a,b] (lA ta))(hs:starEach [a,b] X.env=[(false,eval a X.env),(false,eval b X.env)]:=by rfl)(fv:starEach [b] X.env=[(false,eval b X.env)]:=by rfl) :
  PI X tg (.Call (.Name "range" p) [a,b] [] pos) (lI (n5 ta)) :=
 tw (T6 hg hm ha hs fv) λσ H Q ⟨B,F,δ,ts,Qd,c,q,k⟩=>⟨B,F,δ,ts,_,c,q,λds ai vs F1 H1 hd f1 h1 c1 s=>by
  obtain⟨i,j,rfl,bd,hq⟩:=hd
  cases s with
  | int s =>
   cases s with
   | int s =>
    cases s
    refine⟨i,j,rfl,bd,k true _ ai _ _ H1 hq f1 h1 c1 ?_ λ_=>⟨Mm _ _,yO i _⟩⟩
    rw[wb]
    exact yO i _⟩
noncomputable def jh(xs:List D)(g:e7)(tb:bX):bX:=λEn ai=>∃Iv:Nat->Dl->Prop,Iv 0 ai /\
 (∀i d ag,xs[i]?=some d->Iv i ag->g d ag λaF=>tb { En with nx:=Iv (i+1),ct:=Iv (i+1),bk:=En.nx } aF)/\∀ag,Iv xs.length ag->En.nx ag
theorem jh.mk{xs:List D}{g:e7}{tb:bX}{En:qO}{δ:Dl}(Iv:Nat->Dl->Prop)(h0:Iv 0 δ)(ht:∀i d ag,xs[i]?=some d->Iv i ag->g d ag λaF=>tb { En with nx:=Iv (i+1),ct:=Iv (i+1),bk:=En.nx } aF)
  (hf:∀ag,Iv xs.length ag->En.nx ag):jh xs g tb En δ:=⟨Iv,h0,ht,hf⟩
noncomputable def n6(ti:gb)(g:e7)(tb:bX):bX:=λEn δ=>ti δ λsh xs ai=>sh=true/\jh xs g tb En ai
theorem lM{ti:gb}{g:e7}{body:List Stmt}(hp:PassesOwn (model X.prog X.w) X.A X.env X.xe)(hc:X.calm=true)(hi:PI X tg iter (lI ti))(hg:PG X tg (lG 0 g))(hb:PSs X body (lS X t))
  (hs:∀x,foldedSetIterable iter X.env x=pure x:=by intro _;rfl):PS X (.For tg iter body [] pos) (lS X (n6 ti g t)) :=
 kY (KL hp hc hi hg hb hs) λEn σ H ⟨B,F,δ,Dd,c,q,k1,k2,k3,k4⟩=>⟨B,F,δ,[],_,c,q,λsh xs ai J F1 H1 hq f1 h1 c1 _ jd=>by
  obtain⟨jP,Iv,i0,turn,fin⟩:=hq
  obtain⟨bO,jd⟩:=jd jP
  have un:∀{F' H':Hp} {av:L2.St} {ag:Dl} {ts:List (D × V)},aj ⟨B.H0,F1⟩ F' H' av ag ts->aj B F' H' av ag ts:=λc'=>c'.Ma c1.b2 c1.b3
  refine⟨λi m σ H=>m=xs.length-i/\i<=xs.length/\∃F δ,aj ⟨B.H0,F1⟩ F H σ δ []/\Iv i δ,⟨_,rfl,jC _,F1,ai,c1.rebase,i0⟩,?_⟩
  rintro i m i4 H2 ⟨rfl,hi,F2,aF,c2,iv⟩
  have s2:aa F1 H2:=c2.b2.trans c2.ext
  by_cases eZ:i<xs.length
  ·refine .inr ⟨jd.go i H2 s2 eZ,λav H'=>∃F δ,aj ⟨B.H0,F1⟩ F H' av δ []/\Iv (i+1) δ,λav H' z=>⟨xs.length-(i+1),by omega,rfl,eZ,z⟩,λx H3 y=>?_⟩
   obtain⟨d,e,s3,r⟩:=jd.hE i H2 x H3 s2 eZ y
   have c3:=(c2.grow s3).pushS (d:=d) (v:=x) ((r.s).mono c2.b2 (aa.refl _)) (by have:=r.pl;simpa using this)
   refine⟨⟨B.H0,F1⟩,F2,aF,[],d,_,c3,turn i d aF e iv,λag av hq _ _ c4=>?_⟩
   exact⟨⟨B.H0,F1⟩,F2,ag,_,c4,hq,λgK lN F5 H5 h5 c5=>⟨F5,gK,c5,h5⟩,λd5 v5 gK lN F5 H5 h5 c5=>k2 d5 v5 gK lN F5 H5 h5 (un c5),λgK lN F5 H5 h5 c5=>k1 gK lN F5 H5 h5 (un c5),λgK lN F5 H5 h5 c5=>⟨F5,gK,c5,h5⟩,⟨λC gK pins lN F5 H5 s5 a T h5 c5=>k4.2.1 C gK pins lN F5 H5 s5 a T h5 (un c5),λC gK pins lN F5 H5 s5 h' e vs h5 c5=>k4.2.2 C gK pins lN F5 H5 s5 h' e vs h5 (un c5)⟩⟩
  ·have e:i=xs.length:=by omega
   subst e
   exact .inl ⟨jd.stop _ H2 s2 (bD _),k1 aF i4 F2 H2 (fin aF iv) (un c2)⟩⟩
end
end L3
namespace L3
open PySem L2 PySem.Spec PyProof.Rows
noncomputable def gg(δ:Dl)(q:Str × Nat):Option D:=(δ[q.2]?).getD none
noncomputable def fE(δ:Dl)(q:Str × Nat):Bool:=match gg δ q with
 | some d=>d.pl
 | none=>true
noncomputable def eB(ax:List (Str × Nat))(n:Nat)(δ:Dl):Dl:=(ax.map λq=>(gg δ q).map D.sh)++aT n none
noncomputable def qP(sh:Bool)(xs:List D)(ax:List (Str × Nat))(n:Nat)(g:e7)(tt:et)(te:aC)(ai:Dl)(Q:D->Dl->Prop):Prop:=∃(p:D->Bool) (f:D->D),
 (∀x∈xs.map D.sh,g x (eB ax n ai) λaF=>tt aF λb fZ=>b=p x/\(p x=true->te fZ λd _=>d=f x)) /\
 ((sh&&ax.all (fE ai))=true\/∀x∈xs.map D.sh,p x=true->(f x).fr=true)/\xs.length<=sizeLine/\Q (.lst true (((xs.map D.sh).filter p).map f)) ai
noncomputable def lQ(ti:gb)(ax:List (Str × Nat))(n:Nat)(g:e7)(tt:et)(te:aC):aC:=λδ Q=>ti δ λsh xs ai=>qP sh xs ax n g tt te ai Q
noncomputable def ig:et:=λδ Q=>Q true δ
theorem Xl{sh:Bool}{xs:List D}{ax:List (Str × Nat)}{n m:Nat}{te:aC}{ai:Dl}{Q:D->Dl->Prop}(f:D->D)(hx:∀x∈xs.map D.sh,te ((eB ax n ai).set m (some x)) λd _=>d=f x)
  (dz:(sh&&ax.all (fE ai))=true\/∀x∈xs.map D.sh,(f x).fr=true) (hl:xs.length<=sizeLine) (hq:Q (.lst true ((xs.map D.sh).map f)) ai):qP sh xs ax n (gN m) ig te ai Q :=
 ⟨λ_=>true,f,λx h=>⟨rfl,λ_=>hx x h⟩,dz.imp id λh x hx _=>h x hx,hl,by rw[Sl.mpr (λ_ _=>rfl)];exact hq⟩
section
variable{B:Bs}{F H:Hp}{σ:L2.St}{δ:Dl}{ts:List (D × V)}
theorem Mn(c:aj B F H σ δ ts)(n:Nat):∀(ax:List (Str × Nat)),ax.all (fE δ)=true->RS F H (eB ax n δ) (fA ax n σ) []
 | [],_=>by
  have z:∀n,RS F H (aT n none) (aT n none) []:=λn=>by
   induction n with
   | zero=>exact .nil
   | succ n ih=>exact .ak ih
  exact z n
 | q::r,h=>by
  rw[dh,dm]at h
  have ih:=Mn c n r h.2
  show RS F H ((gg δ q).map D.sh::eB r n δ) ((σ[q.2]?).getD none::fA r n σ) []
  cases e:gg δ q with
  | none=>exact .ak ih
  | some d =>
   have e2:δ[q.2]?=some (some d):=by
    unfold gg at e
    cases z:δ[q.2]? with
    | none=>rw[z]at e;cases e
    | some o=>rw[z]at e;exact congrArg some e
   have hp:d.pl=true:=by have:=h.1;unfold fE at this;rw[e]at this;exact this
   obtain⟨v,e3,s⟩:=c.look e2
   rw[e3]
   show RS F H (some d.sh::_) (some v::_) []
   rw[D.yG hp]
   exact .eM (A:=[]) (s.r (by simp[hp])) ih
theorem Mo(c:aj B F H σ δ ts)(n:Nat):∀(ax:List (Str × Nat)),RS H H (eB ax n δ) (fA ax n σ) []
 | []=>by
  have z:∀n,RS H H (aT n none) (aT n none) []:=λn=>by
   induction n with
   | zero=>exact .nil
   | succ n ih=>exact .ak ih
  exact z n
 | q::r=>by
  have ih:=Mo c n r
  show RS H H ((gg δ q).map D.sh::eB r n δ) ((σ[q.2]?).getD none::fA r n σ) []
  cases e:gg δ q with
  | none=>exact .ak ih
  | some d =>
   have e2:δ[q.2]?=some (some d):=by
    unfold gg at e
    cases z:δ[q.2]? with
    | none=>rw[z]at e;cases e
    | some o=>rw[z]at e;exact congrArg some e
   obtain⟨v,e3,s⟩:=c.look e2
   rw[e3]
   exact .eM (A:=[]) (s.frozen c.ext) ih
theorem Mp{α:Type}(xs:List α)(p:α->Bool)(i:Nat)(x:α)(h:xs[i]?=some x):(xs.take (i+1)).filter p=(xs.take i).filter p++(if p x=true then [x]else []):=by
 rw[Kf,h,List.filter_append]
 simp only[Option.toList_some]
 by_cases hp:p x=true<;>simp[hp]
end
section
variable{X:Cx}{elt iter tg:Expr}{pos:Pos}{ifs:List Expr}{scope:Scope}{cl:List (Str × Addr)}{ti:gb}{tt:et}{te:aC}{g:e7}
theorem Mq{B:Bs}{F1 H1:Hp}{σ:L2.St}{ai:Dl}{ts:List (D × V)}{J:It}{Qd:D->Dl->Prop}{Q:VK}{xs:List D}{sh:Bool}{ax:List (Str × Nat)}{n:Nat}(c1:aj B F1 H1 σ ai ts)
  (qQ:JD J H1 (xs.map D.sh)) (wc:sh=true->xs.all D.pl=true/\JD J F1 xs) (p:D->Bool) (f:D->D)
  (hx:∀x∈xs.map D.sh,g x (eB ax n ai) λaF=>tt aF λb fZ=>b=p x/\(p x=true->te fZ λd _=>d=f x))
  (dz:(sh&&ax.all (fE ai))=true\/∀x∈xs.map D.sh,p x=true->(f x).fr=true) (hlen:xs.length<=sizeLine) (hq:Qd (.lst true (((xs.map D.sh).filter p).map f)) ai)
  (k:∀d ag v F' H',Qd d ag->aa F1 F'->aa H1 H'->aj B F' H' σ ag ((d,v)::ts)->Q v H'):LO J ax n (lG ax.length g) (lT tt) (lE te) σ H1 Q:=by
 intro Dp hD
 have cD:aj B F1 (upd H1 Dp (.lst [])) σ ai ((.lst true [],.ref Dp)::ts):=c1.nH hD .nil rfl
 refine⟨λi m acc H2=>m=xs.length-i/\i<=xs.length/\H2 Dp=some (.lst acc)/\aa H1 H2/\acc.length<=i/\∃F2,aa F1 F2 /\
  aj B F2 H2 σ ai ((.lst true ((((xs.map D.sh).take i).filter p).map f),.ref Dp)::ts),⟨xs.length,rfl,jC _,bM,aa.upd hD,bD _,F1,aa.refl _,by simpa using cD⟩,?_⟩
 rintro i m acc H2 ⟨rfl,hi,C5,we,Xm,F2,jW,c2⟩
 refine⟨C5,?_⟩
 by_cases eZ:i<xs.length
 case neg =>
  have e:i=xs.length:=by omega
  subst e
  refine .inl ⟨qQ.stop _ H2 we (by simp),k _ ai _ F2 H2 ?_ jW we c2⟩
  have:(xs.map D.sh).take xs.length=xs.map D.sh:=by rw[Bz (by simp)]
  rw[this]
  exact hq
 case pos =>
  refine .inr ⟨qQ.go i H2 we (by simpa using eZ),λx H3 y=>?_⟩
  obtain⟨d0,e0,C6,r0⟩:=qQ.hE i H2 x H3 we (by simpa using eZ) y
  have Mr:d0∈xs.map D.sh:=vd e0
  have Ms:H3 Dp=some (.lst acc):=C6 _ _ C5
  have c3:=c2.grow C6
  have C7:=we.trans C6
  refine⟨Ms,?_⟩
  have C8:=hx d0 Mr
  have turn:∀Fi,aa Fi H3->RS Fi H3 (eB ax n ai) (fA ax n σ) []->S Fi H3 [d0] [x]->d0.pl=true ->
    (∀d v F' H' A,d=f d0->p d0=true->aa H3 H'->aa Fi F'->aa F' H'->(∀a ws,F' a=some (.lst ws)->Fi a=some (.lst ws)\/H3 a=none)->R F' H' [d] [v] A->A.Nodup->(∀a∈A,H3 a=none) ->
     ∃F4,aa F2 F4/\aj B F4 H' σ ai ((d,v)::(.lst true ((((xs.map D.sh).take i).filter p).map f),.ref Dp)::ts)) ->
    lG ax.length g x (fA ax n σ) H3 λff H4 =>
     (ff.length=(fA ax n σ).length/\∀j,j<ax.length->ff[j]?=(fA ax n σ)[j]?)/\lT tt ff H4 λb H5=>H5 Dp=some (.lst acc) /\
     if b=true then lE te ff H5 λy H6=>H6 Dp=some (.lst acc)/\acc.length<sizeLine/\∃m',m'<xs.length-i /\
      (m'=xs.length-(i+1)/\i+1<=xs.length/\upd H6 Dp (.lst (acc++[y])) Dp=some (.lst (acc++[y]))/\aa H1 (upd H6 Dp (.lst (acc++[y])))/\(acc++[y]).length<=i+1/\∃F2,aa F1 F2 /\
       aj B F2 (upd H6 Dp (.lst (acc++[y]))) σ ai ((.lst true ((((xs.map D.sh).take (i+1)).filter p).map f),.ref Dp)::ts))
     else ∃m',m'<xs.length-i/\(m'=xs.length-(i+1)/\i+1<=xs.length/\H5 Dp=some (.lst acc)/\aa H1 H5/\acc.length<=i+1/\∃F2,aa F1 F2 /\
       aj B F2 H5 σ ai ((.lst true ((((xs.map D.sh).take (i+1)).filter p).map f),.ref Dp)::ts)):=by
   intro Fi Xn Xo hS bO back
   have ci:aj ⟨H3,Fi⟩ Fi H3 (fA ax n σ) (eB ax n ai) []:=⟨Xn,aa.refl _,aa.refl _,λ_ _ q=>.inl q,[],[],.nil,Xo,by simp,by simp⟩
   refine⟨⟨H3,Fi⟩,Fi,eB ax n ai,[],d0,_,ci.pushS hS bO,C8,λag ff Xp l1 k1 c4=>⟨⟨l1,k1⟩,⟨H3,Fi⟩,Fi,ag,[],_,c4,Xp,λb gK F5 H5 hb f5 h5 c5=>?_⟩⟩
   obtain⟨hb,ht⟩:=hb
   have yQ:H5 Dp=some (.lst acc):=h5 _ _ Ms
   refine⟨yQ,?_⟩
   by_cases hp:p d0=true
   ·rw[hb,hp]
    refine kP ⟨⟨H3,Fi⟩,F5,gK,[],_,c5,ht hp,λd δ6 v F6 H6 hd f6 h6 c6=>?_⟩
    have Mt:H6 Dp=some (.lst acc):=h6 _ _ yQ
    obtain⟨A,C,r,s,nd,fr⟩:=c6.own
    obtain⟨F4,n8,c7⟩:=back d v F6 H6 A hd hp c6.b1 c6.b2 c6.ext c6.b3 r (fY.mp nd).1 λa ha=>fr a (eG _ ha)
    have c8:=c7.Xc Mt
    refine⟨Mt,by omega,xs.length-(i+1),by omega,rfl,eZ,bM,?_,by simpa using Xm,F4,jW.trans n8,?_⟩
    ·have Mu:=C7.trans c6.b1
     exact⟨λa o q n=>by rw[aN (dR q hD)];exact Mu.get a o q n,λa ps q=>by rw[aN (dR q hD)];exact Mu.tb a ps q⟩
    ·have e9:(((xs.map D.sh).take (i+1)).filter p).map f=(((xs.map D.sh).take i).filter p).map f++[d]:=by
      rw[Mp _ p i d0 e0,hp,hd];simp
     rw[e9]
     exact c8
   ·have Mv:p d0=false:=by simpa using hp
    rw[hb,Mv]
    refine i9 ⟨xs.length-(i+1),by omega,rfl,eZ,yQ,C7.trans h5,by omega,F2,jW,?_⟩
    have e9:(((xs.map D.sh).take (i+1)).filter p).map f=(((xs.map D.sh).take i).filter p).map f:=by
     rw[Mp _ p i d0 e0,Mv];simp
    rw[e9]
    exact c3.grow h5
  by_cases hA:(sh&&ax.all (fE ai))=true
  ·rw[dm]at hA
   obtain⟨bO,jd⟩:=wc hA.1
   have jP:=jR bO
   rw[jP]at e0
   obtain⟨d1,e1,_,r1⟩:=jd.hE i H2 x H3 (jW.trans c2.ext) eZ y
   rw[e0]at e1;cases e1
   have Xq:d0.pl=true:=by have:=r1.pl;simpa using this
   refine turn F2 c3.ext (Mn c3 n ax hA.2) ((r1.s).mono jW (aa.refl _)) Xq λd v F' H' A hd hp hs hf he h3 r nd fr=>⟨F',hf,c3.call hs hf he h3 r nd fr⟩
  ·have Xr:=dz.resolve_left hA
   refine turn H3 (aa.refl _) (Mo c3 n ax) ((r0.shared C7 (aa.refl _)).s) (by have:=r0.pl;simpa using this) λd v F' H' A hd hp hs hf he h3 r nd fr=>⟨F2,aa.refl _,?_⟩
   exact c3.CW hs (r.CU (by rw[hd];simp[Xr d0 Mr hp]) (c3.ext.trans hf)) nd fr
theorem dB{Y:Cx}:kS Y [] (lT ig):=λ_ _ _ H _ I ⟨B,F,δ,ts,Qd,c,q,k⟩=>Wo _ _ _ H _ I (k true δ F H q (aa.refl _) (aa.refl _) c)
theorem Xs{Y:Cx}{c:Expr}(h:PT Y c (lT tt)):kS Y [c] (lT tt):=Wq h
end
end L3
namespace L3
open PySem L2 PySem.Spec PyProof.Rows
section
variable{X:Cx}{F H:Hp}{v w:V}
noncomputable def l2(rd:bZ):R2:=λv w H Q=>∃B F σ δ ts x y Qd,aj B F H σ δ ts/\S F H [x] [v]/\S F H [y] [w]/\rd x y Qd/\∀d z H',Qd d->aa H H'->aj B F H' σ δ ((d,z)::ts)->Q z H'
theorem bJ.of{f:Value->Value->Sem Value}{rd:bZ}(h:bY X f (l2 rd)):bJ X f rd:=⟨_,h,λ{B F H σ δ ts x y v w Q Qd} c sx sy q k=>⟨B,F,σ,δ,ts,x,y,Qd,c,sx,sy,q,k⟩⟩
theorem wg{f:Value->Value->Sem Value}{C:Int->Int->Prop}{g:Int->Int->V}{gd:Int->Int->D}(ho:bY X f (rI C g))(hg:∀i j F H,S F H [gd i j] [g i j])(hp:∀i j,(gd i j).pl=true):bJ X f λx y Q=>∃i j,x=.int i/\y=.int j/\C i j/\Q (gd i j) :=
 ⟨_,ho,λ{B F H σ δ ts x y v w Q Qd} c sx sy h k=>by
  obtain⟨i,j,rfl,rfl,hc,q⟩:=h
  cases sx;cases sy
  exact⟨i,j,rfl,rfl,hc,k _ _ _ q (aa.refl _) (c.pushS (hg i j F H) (hp i j))⟩⟩
theorem jX{f:Value->Value->Sem Value}{g:Int->Int->V}{gd:Int->Int->D}(ho:bY X f (hJ g))(hg:∀i j F H,S F H [gd i j] [g i j])(hp:∀i j,(gd i j).pl=true):bJ X f λx y Q=>∃i j,x=.int i/\y=.int j/\Q (gd i j) :=
 ⟨_,ho,λ{B F H σ δ ts x y v w Q Qd} c sx sy h k=>by
  obtain⟨i,j,rfl,rfl,q⟩:=h
  cases sx;cases sy
  exact⟨i,j,rfl,rfl,k _ _ _ q (aa.refl _) (c.pushS (hg i j F H) (hp i j))⟩⟩
theorem fF{o:Bool}{xs:List D}(s:S F H [.lst o xs] [v])(e:aa F H):∃p ws,v=.ref p/\H p=some (.lst ws)/\S F H xs ws:=by
 cases s with
 | shr h r _=>exact⟨_,_,rfl,e _ _ h,r.s⟩
 | own h r _=>exact⟨_,_,rfl,h,r⟩
theorem ij{xs:List D}(s:S F H [.tup xs] [v]):∃p ws,v=.ref p/\H p=some (.tup ws)/\S F H xs ws:=by
 cases s with
 | tup h r _=>exact⟨_,_,rfl,h,r⟩
theorem lR{d:D}{xs:List D}(s:S F H [d] [v])(e:aa F H)(h:gJ d=some xs):∃p ws,v=.ref p/\Rd H p (.lst ws)/\S F H xs ws:=by
 cases s with
 | shr h' r _=>cases h;exact⟨_,_,rfl,.inl (e _ _ h'),r.s⟩
 | own h' r _=>cases h;exact⟨_,_,rfl,.inl h',r⟩
 | fz h' r _=>cases h;exact⟨_,_,rfl,.inr ⟨_,e _ _ h'⟩,r.s⟩
 | ak _=>cases h
 | bl _=>cases h
 | int _=>cases h
 | str _=>cases h
 | tup _ _ _=>cases h
 | obj _ _ _ _=>cases h
 | aU _ _=>cases h
theorem S.rep{xs:List D}{ws:List V}(s:S F H xs ws):∀k:Nat,S F H (aT k xs).flatten (aT k ws).flatten
 | 0=>by simpa using S.nil
 | k+1=>by
  rw[kz,kz,pW,pW]
  exact s.append (S.rep s k)
noncomputable def lU:bZ:=λx y Q=>match x,y with
 | .int i,.int j=>Q (.int (i+j))
 | .str a,.str b=>a.length+b.length<=sizeLine/\Q (.str (a++b))
 | .lst _ xs,.lst _ ys=>(xs.length+ys.length<=sizeLine/\xs.all D.pl=true/\ys.all D.pl=true)/\Q (.lst true (xs++ys))
 | _,_=>False
theorem Xt:bJ X (binaryOp .Add) λx y Q=>∃o xs o' ys,x=.lst o xs/\y=.lst o' ys/\(xs.length+ys.length<=sizeLine/\xs.all D.pl=true/\ys.all D.pl=true)/\Q (.lst true (xs++ys)) :=
 ⟨_,Lh,λ{B F H σ δ ts x y v w Q Qd} c sx sy h k=>by
  obtain⟨o,xs,o',ys,rfl,rfl,⟨hz,h1,h2⟩,q⟩:=h
  obtain⟨p,ws,rfl,e1,s1⟩:=fF sx c.ext
  obtain⟨p',dA,rfl,e2,s2⟩:=fF sy c.ext
  refine⟨p,p',ws,dA,rfl,rfl,e1,e2,by rw[<-s1.length,<- s2.length];exact hz,λr hr=>?_⟩
  exact k _ _ _ q (aa.upd hr) (c.nH hr (s1.append s2) (by simp[h1,h2]))⟩
theorem Xu:bJ X (binaryOp .Add) λx y Q=>∃i j,x=.str i/\y=.str j/\i.length+j.length<=sizeLine/\Q (.str (i++j)) :=
 ⟨_,Us,λ{B F H σ δ ts x y v w Q Qd} c sx sy h k=>by
  obtain⟨i,j,rfl,rfl,hz,q⟩:=h
  cases sx;cases sy
  exact⟨i,j,rfl,rfl,hz,k _ _ _ q (aa.refl _) (c.pushS (.str .nil) rfl)⟩⟩
theorem eT:bJ X (binaryOp .Add) lU:=((jX (gd:=λi j=>.int (i+j)) Ua (λ_ _ _ _=>.int .nil) λ_ _=>rfl).or (Xu.or Xt)).imp λx y Q h=>by
 unfold lU at h
 split at h
 ·exact .inl ⟨_,_,rfl,rfl,h⟩
 ·exact .inr (.inl ⟨_,_,rfl,rfl,h.1,h.2⟩)
 ·exact .inr (.inr ⟨_,_,_,_,rfl,rfl,h.1,h.2⟩)
 ·exact h.elim
noncomputable def iI(C:Int->Int->Prop)(g:Int->Int->D):bZ:=λx y Q=>match x,y with
 | .int i,.int j=>C i j/\Q (g i j)
 | _,_=>False
noncomputable def e8(g:Int->Int->D):bZ:=λx y Q=>match x,y with
 | .int i,.int j=>Q (g i j)
 | _,_=>False
theorem yR{f:Value->Value->Sem Value}{C:Int->Int->Prop}{g:Int->Int->D}(h:bJ X f λx y Q=>∃i j,x=.int i/\y=.int j/\C i j/\Q (g i j)):bJ X f (iI C g):=h.imp λx y Q h=>by
 unfold iI at h
 split at h
 ·exact⟨_,_,rfl,rfl,h.1,h.2⟩
 ·exact h.elim
theorem lV{f:Value->Value->Sem Value}{g:Int->Int->D}(h:bJ X f λx y Q=>∃i j,x=.int i/\y=.int j/\Q (g i j)):bJ X f (e8 g):=h.imp λx y Q h=>by
 unfold e8 at h
 split at h
 ·exact⟨_,_,rfl,rfl,h⟩
 ·exact h.elim
noncomputable def n9:bZ:=e8 λi j=>.int (i-j)
theorem jY:bJ X (binaryOp .Sub) n9:=lV (jX Cg (λ_ _ _ _=>.int .nil) λ_ _=>rfl)
noncomputable def C9(_ j:Int):Prop:=0<j/\j.natAbs.log2<9000
theorem qR{i j:Int}(h1:0<j)(h2:j<1073741824):C9 i j:=⟨h1,by
 have h:j.natAbs<2 ^ 30:=by omega
 have:=(Nat.log2_lt (show j.natAbs≠0 by omega)).mpr h
 omega⟩
theorem Xv:bY X (binaryOp .FloorDiv) (rI C9 λi j=>.int (i/j)):=vJ λi j _ _ _ _ _ hc q =>
 floordiv_int (show j≠0 by have:=hc.1;omega) (by rw[Sd i (by have:=hc.1;omega)];exact q) (.inl (PyProof.noPylong_of_log2 hc.2))
noncomputable def oa:bZ:=iI C9 λi j=>.int (i/j)
theorem qS:bJ X (binaryOp .FloorDiv) oa:=yR (wg Xv (λ_ _ _ _=>.int .nil) λ_ _=>rfl)
noncomputable def og:bZ:=iI (λ_ j=>0<j) λi j=>.int (i%j)
theorem dJ:bJ X (binaryOp .Mod) og:=yR (wg Ub (λ_ _ _ _=>.int .nil) λ_ _=>rfl)
noncomputable def oh:bZ:=iI LM λi j=>.int (i*2 ^ j.toNat)
theorem tD:bJ X (binaryOp .LShift) oh:=yR (wg LN (λ_ _ _ _=>.int .nil) λ_ _=>rfl)
noncomputable def oi:bZ:=iI (λ_ j=>0<=j) λi j=>.int (i/2 ^ j.toNat)
theorem Mw:bJ X (binaryOp .RShift) oi:=yR (wg Uc (λ_ _ _ _=>.int .nil) λ_ _=>rfl)
noncomputable def oj:bZ:=e8 λi j=>.int (m6 i j)
theorem Mx:bJ X (binaryOp .BitAnd) oj:=lV (jX Ud (λ_ _ _ _=>.int .nil) λ_ _=>rfl)
noncomputable def om:bZ:=e8 λi j=>.int (m8 i j)
theorem yS:bJ X (binaryOp .BitXor) om:=lV (jX Ue (λ_ _ _ _=>.int .nil) λ_ _=>rfl)
theorem Xw:bY X (binaryOp .Mult) (rI IntMulOk λi j=>.int (i*j)):=vJ λ_ _ _ _ _ _ _ hc q=>mul_int q hc
noncomputable def lW:bZ:=λx y Q=>match x,y with
 | .int i,.int j=>IntMulOk i j/\Q (.int (i*j))
 | .lst _ xs,.int k=>(-(2 ^ 63)<=k/\k<2 ^ 63/\xs.length*k.toNat<=sizeLine/\xs.all D.pl=true)/\Q (.lst true (aT k.toNat xs).flatten)
 | _,_=>False
theorem Xx:bJ X (binaryOp .Mult) λx y Q=>∃o xs k,x=.lst o xs/\y=.int k/\(-(2 ^ 63)<=k/\k<2 ^ 63/\xs.length*k.toNat<=sizeLine/\xs.all D.pl=true)/\Q (.lst true (aT k.toNat xs).flatten) :=
 ⟨_,VF,λ{B F H σ δ ts x y v w Q Qd} c sx sy h k=>by
  obtain⟨o,xs,n,rfl,rfl,⟨b1,b2,hz,h1⟩,q⟩:=h
  obtain⟨p,ws,rfl,e1,s1⟩:=fF sx c.ext
  cases sy
  refine⟨p,n,ws,rfl,rfl,e1,b1,b2,by rw[<-s1.length];exact hz,λr hr=>?_⟩
  refine k _ _ _ q (aa.upd hr) (c.nH hr (s1.rep _) ?_)
  rw[dn]
  intro x hx
  obtain⟨l,hl,wj⟩:=List.mem_flatten.mp hx
  rw[(BA.mp hl).2]at wj
  exact dn.mp h1 x wj⟩
theorem ik:bJ X (binaryOp .Mult) lW:=((wg (gd:=λi j=>.int (i*j)) Xw (λ_ _ _ _=>.int .nil) λ_ _=>rfl).or Xx).imp λx y Q h=>by
 unfold lW at h
 split at h
 ·exact .inl ⟨_,_,rfl,rfl,h.1,h.2⟩
 ·exact .inr ⟨_,_,_,rfl,rfl,h.1,h.2⟩
 ·exact h.elim
theorem Xy:bJ X (inplaceOp .Add) (e8 λi j=>.int (i+j)):=lV (jX Ug (λ_ _ _ _=>.int .nil) λ_ _=>rfl)
theorem Dc:bJ X (inplaceOp .BitXor) (e8 λi j=>.int (m8 i j)):=lV (jX Uh (λ_ _ _ _=>.int .nil) λ_ _=>rfl)
noncomputable def oo:bZ:=e8 λi j=>.bl (decide (i<j))
noncomputable def oq:bZ:=e8 λi j=>.bl (decide (i<=j))
noncomputable def ot:bZ:=e8 λi j=>.bl (decide (j<i))
noncomputable def ou:bZ:=e8 λi j=>.bl (decide (j<=i))
theorem yT:bJ X (compareOp .Lt) oo:=lV (jX Ui (λ_ _ _ _=>.bl .nil) λ_ _=>rfl)
theorem wk:bJ X (compareOp .LtE) oq:=lV (jX Uj (λ_ _ _ _=>.bl .nil) λ_ _=>rfl)
theorem Mz:bJ X (compareOp .Gt) ot:=lV (jX Uk (λ_ _ _ _=>.bl .nil) λ_ _=>rfl)
theorem Xz:bJ X (compareOp .GtE) ou:=lV (jX Ul (λ_ _ _ _=>.bl .nil) λ_ _=>rfl)
noncomputable def ji:D->Bool
 | .ak=>true
 | _=>false
noncomputable def lX:bZ:=λx y Q=>match y with
 | .ak=>Q (.bl (ji x))
 | _=>False
noncomputable def lY:bZ:=λx y Q=>match y with
 | .ak=>Q (.bl (!ji x))
 | _=>False
theorem MA{d:D}(s:S F H [d] [v]):decide (v=.ak)=ji d:=by cases s<;>simp[ji]
theorem XA:bJ X (compareOp .Is) lX:=⟨_,Um,λ{B F H σ δ ts x y v w Q Qd} c sx sy h k=>by
 unfold lX at h
 split at h
 ·cases sy
  refine⟨rfl,?_⟩
  rw[MA sx]
  exact k _ _ _ h (aa.refl _) (c.pushS (.bl .nil) rfl)
 ·exact h.elim⟩
theorem MB:bJ X (compareOp .IsNot) lY:=⟨_,Uo,λ{B F H σ δ ts x y v w Q Qd} c sx sy h k=>by
 unfold lY at h
 split at h
 ·cases sy
  refine⟨rfl,?_⟩
  rw[MA sx]
  exact k _ _ _ h (aa.refl _) (c.pushS (.bl .nil) rfl)
 ·exact h.elim⟩
noncomputable def bx:D->D->Bool
 | .ak,.ak=>true
 | .bl a,.bl b=>a==b
 | .bl a,.int b=>(if a then 1 else 0)==b
 | .int a,.bl b=>a==(if b then 1 else 0)
 | .int a,.int b=>a==b
 | .str a,.str b=>a==b
 | .lst _ xs,.lst _ ys=>eN xs ys
 | .tup xs,.tup ys=>eN xs ys
 | _,_=>false
where eN:List D->List D->Bool
 | [],[]=>true
 | x::xs,y::ys=>bx x y&&eN xs ys
 | _,_=>false
noncomputable def aI:Nat->D->Bool
 | _,.ak=>true
 | _,.bl _=>true
 | _,.int _=>true
 | _,.str _=>true
 | n+1,.lst _ xs=>xs.all (aI n)
 | n+1,.tup xs=>xs.all (aI n)
 | _,_=>false
theorem De:∀(xs ys:List D),xs.length=ys.length->bx.eN xs ys=(aP xs.length).all λj=>bx (xs.getD j .ak) (ys.getD j .ak)
 | [],[],_=>rfl
 | x::xs,y::ys,h=>by
  rw[gZ,Sm,dh,qa]
  show(bx x y&&bx.eN xs ys)=_
  rw[De xs ys (by simpa using h)]
  rfl
theorem Df:∀(xs ys:List D),xs.length≠ys.length->bx.eN xs ys=false
 | [],[],h=>absurd rfl h
 | [],_::_,_=>rfl
 | _::_,[],_=>rfl
 | x::xs,y::ys,h=>by
  show(bx x y&&bx.eN xs ys)=false
  rw[Df xs ys (by simpa using h),Bool.and_false]
noncomputable def XB:V->D
 | .bl b=>.bl b
 | .int i=>.int i
 | .str z=>.str z
 | _=>.ak
theorem MC{x:D}{v:V}(h:aI 0 x=true)(s:S F H [x] [v]):x=XB v:=by
 cases s with
 | ak _=>rfl
 | bl _=>rfl
 | int _=>rfl
 | str _=>rfl
 | _=>cases h
theorem XC{x:D}(h:aI 0 x=true):bx x x=true:=by
 cases x with
 | ak=>rfl
 | bl b=>exact beq_self_eq_true b
 | int i=>exact beq_self_eq_true i
 | str z=>exact beq_self_eq_true z
 | _=>cases h
theorem MD:∀(n:Nat) {xs ys:List D} {vs:List V},xs.all (aI n)=true->ys.all (aI n)=true->S F H xs vs->S F H ys vs->aa F H->bx.eN xs ys=true:=by
 intro n
 induction n with
 | zero =>
  intro xs
  induction xs with
  | nil=>intro ys vs _ _ s1 s2 _;cases s1;cases s2;rfl
  | cons x xs ih =>
   intro ys vs h1 h2 s1 s2 e
   obtain⟨v,cm,rfl,q1,r1⟩:=s1.cP
   cases ys with
   | nil=>cases s2
   | cons y ys =>
    obtain⟨v',L8,ee,q2,r2⟩:=s2.cP
    cases ee
    rw[dh,dm]at h1 h2
    show(bx x y&&bx.eN xs ys)=true
    rw[ih h1.2 h2.2 r1 r2 e,jG]
    have e1:=MC h1.1 q1
    have e2:=MC h2.1 q2
    rw[e2,<- e1]
    exact XC h1.1
 | succ n ME =>
  intro xs
  induction xs with
  | nil=>intro ys vs _ _ s1 s2 _;cases s1;cases s2;rfl
  | cons x xs ih =>
   intro ys vs h1 h2 s1 s2 e
   obtain⟨v,cm,rfl,q1,r1⟩:=s1.cP
   cases ys with
   | nil=>cases s2
   | cons y ys =>
    obtain⟨v',L8,ee,q2,r2⟩:=s2.cP
    cases ee
    rw[dh,dm]at h1 h2
    show(bx x y&&bx.eN xs ys)=true
    rw[ih h1.2 h2.2 r1 r2 e,jG]
    cases x with
    | lst o1 a1 =>
     obtain⟨p,ws,rfl,e1,t1⟩:=fF q1 e
     cases y with
     | lst o2 a2 =>
      obtain⟨p2,Dg,ev,e2,t2⟩:=fF q2 e
      cases ev
      rw[e1]at e2;cases e2
      exact ME h1.1 h2.1 t1 t2 e
     | tup a2=>obtain⟨p2,Dg,ev,e2,t2⟩:=ij q2;cases ev;rw[e1]at e2;cases e2
     | _=>first | (cases q2;done) | (exact absurd h2.1 (by simp[aI]))
    | tup a1 =>
     obtain⟨p,ws,rfl,e1,t1⟩:=ij q1
     cases y with
     | tup a2 =>
      obtain⟨p2,Dg,ev,e2,t2⟩:=ij q2
      cases ev
      rw[e1]at e2;cases e2
      exact ME h1.1 h2.1 t1 t2 e
     | lst o2 a2=>obtain⟨p2,Dg,ev,e2,t2⟩:=fF q2 e;cases ev;rw[e1]at e2;cases e2
     | _=>first | (cases q2;done) | (exact absurd h2.1 (by simp[aI]))
    | ak=>cases q1;cases q2;simp[bx]
    | bl _=>cases q1;cases q2;simp[bx]
    | int _=>cases q1;cases q2;simp[bx]
    | str _=>cases q1;cases q2;simp[bx]
    | obj _ _ _=>exact absurd h1.1 (by simp[aI])
    | fz _=>exact absurd h1.1 (by simp[aI])
    | aU _=>exact absurd h1.1 (by simp[aI])
end
end L3
namespace L3
open PySem L2 PySem.Spec PyProof.Rows
structure XD(A:Around)(s:Shared)(u w:Value)(b:Bool):Prop where
 rc:SeqAt.RcAt A s u w b
 ne:SeqAt.RcNeAt A s u w (!b)
 eq:Bi A s u w b
section
variable{X:Cx}{F H:Hp}{v w:V}
theorem MF{xs:List V}{us:List Value}(r:Vals xs us){j:Nat}(h:j<us.toArray.size):∃x,xs[j]?=some x/\RelV x us.toArray[j]:=by
 have l:=r.length
 have hj:j<xs.length:=by rw[l];simpa using h
 obtain⟨u,e,q⟩:=r.get (aQ hj)
 obtain⟨_,z⟩:=iA.mp e
 refine⟨_,aQ hj,?_⟩
 have:us.toArray[j]=u:=by simpa using z
 rw[this];exact q
theorem MG{xs:List D}{j:Nat}{d:D}(h:xs[j]?=some d):xs.getD j .ak=d:=by rw[aR,h];rfl
theorem MH{pins:List (Addr × Obj)}{σ:L2.St}{s:Shared}(I:Inv X pins σ H s)(e:aa F H):∀(n:Nat) (x y:D) (v w:V) (u u':Value) (A:Around),aI n x=true->aI n y=true->S F H [x] [v]->S F H [y] [w]->RelV v u->RelV w u' ->
  A.units+n<cLine->XD A s u u' (bx x y):=by
 intro n
 induction n with
 | zero =>
  intro x y v w u u' A hx hy sx sy rv aZ hu
  cases sx with
  | ak _ =>
   cases rv
   cases sy with
   | ak _=>cases aZ;exact⟨.none_none,.none_none,.same _⟩
   | bl _=>cases aZ;exact⟨.none_bool _,.none_bool _,.none_bool _⟩
   | int _=>obtain⟨t,rfl⟩:=aZ;exact⟨.none_int _ _,.none_int _ _,.none_int _ _⟩
   | str _=>obtain⟨t,rfl⟩:=aZ;exact⟨.none_str _ _,.none_str _ _,.none_str _ _⟩
   | _=>simp[aI]at hy
  | bl _ =>
   cases rv
   cases sy with
   | ak _=>cases aZ;exact⟨.bool_none _,.bool_none _,.bool_none _⟩
   | bl _=>cases aZ;exact⟨.bool_bool _ _,.bool_bool _ _,.bool_bool _ _⟩
   | int _=>obtain⟨t,rfl⟩:=aZ;exact⟨.bool_int _ _ _,.bool_int _ _ _,.bool_int _ _ _⟩
   | str _=>obtain⟨t,rfl⟩:=aZ;exact⟨.bool_str _ _ _,.bool_str _ _ _,.bool_str _ _ _⟩
   | _=>simp[aI]at hy
  | int _ =>
   obtain⟨t0,rfl⟩:=rv
   cases sy with
   | ak _=>cases aZ;exact⟨.int_none _ _,.int_none _ _,.int_none _ _⟩
   | bl _=>cases aZ;exact⟨.int_bool _ _ _,.int_bool _ _ _,.int_bool _ _ _⟩
   | int _=>obtain⟨t,rfl⟩:=aZ;exact⟨.int_int _ _ _ _,.int_int _ _ _ _,.int_int _ _ _ _⟩
   | str _=>obtain⟨t,rfl⟩:=aZ;exact⟨.int_str _ _ _ _,.int_str _ _ _ _,.int_str _ _ _ _⟩
   | _=>simp[aI]at hy
  | str _ =>
   obtain⟨t0,rfl⟩:=rv
   cases sy with
   | ak _=>cases aZ;exact⟨.str_none _ _,.str_none _ _,.str_none _ _⟩
   | bl _=>cases aZ;exact⟨.str_bool _ _ _,.str_bool _ _ _,.str_bool _ _ _⟩
   | int _=>obtain⟨t,rfl⟩:=aZ;exact⟨.str_int _ _ _ _,.str_int _ _ _ _,.str_int _ _ _ _⟩
   | str _=>obtain⟨t,rfl⟩:=aZ;exact⟨.str_str _ _ _ _,.str_str _ _ _ _,.str_str _ _ _ _⟩
   | _=>simp[aI]at hy
  | _=>simp[aI]at hx
 | succ n ih =>
  intro x y v w u u' A hx hy sx sy rv aZ hu
  have aW:A.units<cLine:=by omega
  have Dh:A.in1.units+n<cLine:=by show A.units+1+n<cLine;omega
  have items:∀{xs ys:List D} {vs ws:List V} {us tE:List Value},xs.all (aI n)=true->ys.all (aI n)=true->S F H xs vs->S F H ys ws->Vals vs us->Vals ws tE ->
    ∀j (h1:j<us.toArray.size) (h2:j<tE.toArray.size),Bi A.in1 s us.toArray[j] tE.toArray[j] (bx (xs.getD j .ak) (ys.getD j .ak)):=by
   intro xs ys vs ws us tE hx hy sx sy r1 r2 j h1 h2
   obtain⟨a,e1,q1⟩:=MF r1 h1
   obtain⟨b,e2,q2⟩:=MF r2 h2
   obtain⟨d1,g1,t1⟩:=sx.get' e1
   obtain⟨d2,g2,t2⟩:=sy.get' e2
   rw[MG g1,MG g2]
   exact(ih d1 d2 a b _ _ A.in1 (dn.mp hx d1 (vd g1)) (dn.mp hy d2 (vd g2)) t1 t2 q1 q2 Dh).eq
  have low:∀x:D,(aI 0 x=true)\/(∃o xs,x=.lst o xs)\/(∃xs,x=.tup xs)\/aI (n+1) x=false:=by
   intro x;cases x<;>simp[aI]
  cases x with
  | lst o xs =>
   obtain⟨p,ws,rfl,e1,t1⟩:=fF sx e
   cases rv
   obtain⟨its,r1,p1,z1⟩:=I.list (bt.of (K:=X.K) e1)
   have l1:=r1.length
   cases y with
   | lst o' ys =>
    obtain⟨p',dA,rfl,e2,t2⟩:=fF sy e
    cases aZ
    obtain⟨fi,r2,p2,z2⟩:=I.list (bt.of (K:=X.K) e2)
    have l2:=r2.length
    have k1:=t1.length
    have k2:=t2.length
    by_cases hl:xs.length=ys.length
    ·have hsz:its.toArray.size=fi.toArray.size:=by simp;omega
     have ev:(aP its.toArray.size).all (λj=>bx (xs.getD j .ak) (ys.getD j .ak))=bx (.lst o xs) (.lst o' ys):=by
      show _=bx.eN xs ys
      rw[De xs ys hl,dv,<- l1,<- k1]
     have a:=SeqAt.RcAt.lists (e:=λj=>bx (xs.getD j .ak) (ys.getD j .ak)) p1.isList p2.isList hsz aW (items hx hy t1 t2 r1 r2)
     have b:=SeqAt.RcNeAt.lists (e:=λj=>bx (xs.getD j .ak) (ys.getD j .ak)) p1.isList p2.isList hsz aW (items hx hy t1 t2 r1 r2)
     rw[ev]at a b
     refine⟨a,b,?_⟩
     by_cases qT:p=p'
     ·subst qT
      rw[e1]at e2;cases e2
      have:bx (.lst o xs) (.lst o' ys)=true:=MD n hx hy t1 t2 e
      rw[this]
      exact .same _
     ·exact .of_refs qT a
    ·have hsz:(its.toArray.size != fi.toArray.size)=true:=by simp;omega
     have ev:bx (.lst o xs) (.lst o' ys)=false:=Df xs ys hl
     rw[ev]
     have a:=SeqAt.RcAt.lists_lengths p1.isList p2.isList hsz aW
     refine⟨a,SeqAt.RcNeAt.lists_lengths p1.isList p2.isList hsz aW,.of_refs (λqT=>?_) a⟩
     subst qT
     rw[e1]at e2;cases e2
     omega
   | tup ys =>
    obtain⟨p',dA,rfl,e2,t2⟩:=ij sy
    cases aZ
    obtain⟨fi,r2,p2,z2⟩:=I.tuple (eR.of (K:=X.K) e2)
    exact⟨.list_tuple p1.isList p2 aW,.list_tuple p1.isList p2 aW,.list_tuple p1.isList p2 aW⟩
   | ak=>cases sy;cases aZ;exact⟨.list_none p1.isList aW,.list_none p1.isList aW,.list_none p1.isList aW⟩
   | bl _=>cases sy;cases aZ;exact⟨.list_bool _ p1.isList aW,.list_bool _ p1.isList aW,.list_bool _ p1.isList aW⟩
   | int _=>cases sy;obtain⟨t,rfl⟩:=aZ;exact⟨.list_int _ _ p1.isList aW,.list_int _ _ p1.isList aW,.list_int _ _ p1.isList aW⟩
   | str _=>cases sy;obtain⟨t,rfl⟩:=aZ;exact⟨.list_str _ _ p1.isList aW,.list_str _ _ p1.isList aW,.list_str _ _ p1.isList aW⟩
   | obj _ _ _=>simp[aI]at hy
   | fz _=>simp[aI]at hy
   | aU _=>simp[aI]at hy
  | tup xs =>
   obtain⟨p,ws,rfl,e1,t1⟩:=ij sx
   cases rv
   obtain⟨its,r1,p1,z1⟩:=I.tuple (eR.of (K:=X.K) e1)
   have l1:=r1.length
   cases y with
   | tup ys =>
    obtain⟨p',dA,rfl,e2,t2⟩:=ij sy
    cases aZ
    obtain⟨fi,r2,p2,z2⟩:=I.tuple (eR.of (K:=X.K) e2)
    have l2:=r2.length
    have k1:=t1.length
    have k2:=t2.length
    have ev:((aP (min its.toArray.size fi.toArray.size)).all (λj=>bx (xs.getD j .ak) (ys.getD j .ak))&&its.toArray.size==fi.toArray.size)=bx (.tup xs) (.tup ys):=by
     show _=bx.eN xs ys
     by_cases hl:xs.length=ys.length
     ·have e3:its.length=fi.length:=by omega
      rw[De xs ys hl,dv,dv,<- e3,vg,<- l1,<- k1];simp
     ·have e3:(its.length==fi.length)=false:=by simp;omega
      rw[Df xs ys hl,dv,dv,e3,Bool.and_false]
    have a:=SeqAt.RcAt.tuples (e:=λj=>bx (xs.getD j .ak) (ys.getD j .ak)) p1 p2 aW (items hx hy t1 t2 r1 r2)
    have b:=SeqAt.RcNeAt.tuples (e:=λj=>bx (xs.getD j .ak) (ys.getD j .ak)) p1 p2 aW (items hx hy t1 t2 r1 r2)
    rw[ev]at a b
    refine⟨a,b,?_⟩
    by_cases qT:p=p'
    ·subst qT
     rw[e1]at e2;cases e2
     have:bx (.tup xs) (.tup ys)=true:=MD n hx hy t1 t2 e
     rw[this]
     exact .same _
    ·exact .of_refs qT a
   | lst o' ys =>
    obtain⟨p',dA,rfl,e2,t2⟩:=fF sy e
    cases aZ
    obtain⟨fi,r2,p2,z2⟩:=I.list (bt.of (K:=X.K) e2)
    exact⟨.tuple_list p1 p2.isList aW,.tuple_list p1 p2.isList aW,.tuple_list p1 p2.isList aW⟩
   | ak=>cases sy;cases aZ;exact⟨.tuple_none p1 aW,.tuple_none p1 aW,.tuple_none p1 aW⟩
   | bl _=>cases sy;cases aZ;exact⟨.tuple_bool _ p1 aW,.tuple_bool _ p1 aW,.tuple_bool _ p1 aW⟩
   | int _=>cases sy;obtain⟨t,rfl⟩:=aZ;exact⟨.tuple_int _ _ p1 aW,.tuple_int _ _ p1 aW,.tuple_int _ _ p1 aW⟩
   | str _=>cases sy;obtain⟨t,rfl⟩:=aZ;exact⟨.tuple_str _ _ p1 aW,.tuple_str _ _ p1 aW,.tuple_str _ _ p1 aW⟩
   | obj _ _ _=>simp[aI]at hy
   | fz _=>simp[aI]at hy
   | aU _=>simp[aI]at hy
  | ak =>
   cases sx;cases rv
   cases y with
   | lst o' ys =>
    obtain⟨p',dA,rfl,e2,t2⟩:=fF sy e;cases aZ
    obtain⟨fi,r2,p2,z2⟩:=I.list (bt.of (K:=X.K) e2)
    exact⟨.none_list p2.isList aW,.none_list p2.isList aW,.none_list p2.isList aW⟩
   | tup ys =>
    obtain⟨p',dA,rfl,e2,t2⟩:=ij sy;cases aZ
    obtain⟨fi,r2,p2,z2⟩:=I.tuple (eR.of (K:=X.K) e2)
    exact⟨.none_tuple p2 aW,.none_tuple p2 aW,.none_tuple p2 aW⟩
   | ak=>exact ih _ _ _ _ _ _ A (by simp[aI]) (by simp[aI]) (.ak .nil) sy rfl aZ (by omega)
   | bl _=>exact ih _ _ _ _ _ _ A (by simp[aI]) (by simp[aI]) (.ak .nil) sy rfl aZ (by omega)
   | int _=>exact ih _ _ _ _ _ _ A (by simp[aI]) (by simp[aI]) (.ak .nil) sy rfl aZ (by omega)
   | str _=>exact ih _ _ _ _ _ _ A (by simp[aI]) (by simp[aI]) (.ak .nil) sy rfl aZ (by omega)
   | obj _ _ _=>simp[aI]at hy
   | fz _=>simp[aI]at hy
   | aU _=>simp[aI]at hy
  | bl b =>
   cases sx;cases rv
   cases y with
   | lst o' ys =>
    obtain⟨p',dA,rfl,e2,t2⟩:=fF sy e;cases aZ
    obtain⟨fi,r2,p2,z2⟩:=I.list (bt.of (K:=X.K) e2)
    exact⟨.bool_list _ p2.isList aW,.bool_list _ p2.isList aW,.bool_list _ p2.isList aW⟩
   | tup ys =>
    obtain⟨p',dA,rfl,e2,t2⟩:=ij sy;cases aZ
    obtain⟨fi,r2,p2,z2⟩:=I.tuple (eR.of (K:=X.K) e2)
    exact⟨.bool_tuple _ p2 aW,.bool_tuple _ p2 aW,.bool_tuple _ p2 aW⟩
   | ak=>exact ih _ _ _ _ _ _ A (by simp[aI]) (by simp[aI]) (.bl .nil) sy rfl aZ (by omega)
   | bl _=>exact ih _ _ _ _ _ _ A (by simp[aI]) (by simp[aI]) (.bl .nil) sy rfl aZ (by omega)
   | int _=>exact ih _ _ _ _ _ _ A (by simp[aI]) (by simp[aI]) (.bl .nil) sy rfl aZ (by omega)
   | str _=>exact ih _ _ _ _ _ _ A (by simp[aI]) (by simp[aI]) (.bl .nil) sy rfl aZ (by omega)
   | obj _ _ _=>simp[aI]at hy
   | fz _=>simp[aI]at hy
   | aU _=>simp[aI]at hy
  | int b =>
   cases sx
   cases y with
   | lst o' ys =>
    obtain⟨t0,rfl⟩:=rv
    obtain⟨p',dA,rfl,e2,t2⟩:=fF sy e;cases aZ
    obtain⟨fi,r2,p2,z2⟩:=I.list (bt.of (K:=X.K) e2)
    exact⟨.int_list _ _ p2.isList aW,.int_list _ _ p2.isList aW,.int_list _ _ p2.isList aW⟩
   | tup ys =>
    obtain⟨t0,rfl⟩:=rv
    obtain⟨p',dA,rfl,e2,t2⟩:=ij sy;cases aZ
    obtain⟨fi,r2,p2,z2⟩:=I.tuple (eR.of (K:=X.K) e2)
    exact⟨.int_tuple _ _ p2 aW,.int_tuple _ _ p2 aW,.int_tuple _ _ p2 aW⟩
   | ak=>exact ih _ _ _ _ _ _ A (by simp[aI]) (by simp[aI]) (.int .nil) sy rv aZ (by omega)
   | bl _=>exact ih _ _ _ _ _ _ A (by simp[aI]) (by simp[aI]) (.int .nil) sy rv aZ (by omega)
   | int _=>exact ih _ _ _ _ _ _ A (by simp[aI]) (by simp[aI]) (.int .nil) sy rv aZ (by omega)
   | str _=>exact ih _ _ _ _ _ _ A (by simp[aI]) (by simp[aI]) (.int .nil) sy rv aZ (by omega)
   | obj _ _ _=>simp[aI]at hy
   | fz _=>simp[aI]at hy
   | aU _=>simp[aI]at hy
  | str b =>
   cases sx
   cases y with
   | lst o' ys =>
    obtain⟨t0,rfl⟩:=rv
    obtain⟨p',dA,rfl,e2,t2⟩:=fF sy e;cases aZ
    obtain⟨fi,r2,p2,z2⟩:=I.list (bt.of (K:=X.K) e2)
    exact⟨.str_list _ _ p2.isList aW,.str_list _ _ p2.isList aW,.str_list _ _ p2.isList aW⟩
   | tup ys =>
    obtain⟨t0,rfl⟩:=rv
    obtain⟨p',dA,rfl,e2,t2⟩:=ij sy;cases aZ
    obtain⟨fi,r2,p2,z2⟩:=I.tuple (eR.of (K:=X.K) e2)
    exact⟨.str_tuple _ _ p2 aW,.str_tuple _ _ p2 aW,.str_tuple _ _ p2 aW⟩
   | ak=>exact ih _ _ _ _ _ _ A (by simp[aI]) (by simp[aI]) (.str .nil) sy rv aZ (by omega)
   | bl _=>exact ih _ _ _ _ _ _ A (by simp[aI]) (by simp[aI]) (.str .nil) sy rv aZ (by omega)
   | int _=>exact ih _ _ _ _ _ _ A (by simp[aI]) (by simp[aI]) (.str .nil) sy rv aZ (by omega)
   | str _=>exact ih _ _ _ _ _ _ A (by simp[aI]) (by simp[aI]) (.str .nil) sy rv aZ (by omega)
   | obj _ _ _=>simp[aI]at hy
   | fz _=>simp[aI]at hy
   | aU _=>simp[aI]at hy
  | obj _ _ _=>simp[aI]at hx
  | fz _=>simp[aI]at hx
  | aU _=>simp[aI]at hx
noncomputable def ow:bZ:=λx y Q=>(aI 6 x=true/\aI 6 y=true)/\Q (.bl (bx x y))
noncomputable def oy:bZ:=λx y Q=>(aI 6 x=true/\aI 6 y=true)/\Q (.bl (!bx x y))
theorem fG(hu:X.A.units+6<cLine):bJ X (compareOp .Eq) ow:=bJ.of λpins s σ H v w u u' Q I rv aZ zz=>by
 obtain⟨B,F,av,δ,ts,x,y,Qd,c,sx,sy,⟨⟨hx,hy⟩,q⟩,k⟩:=zz
 exact(MH I c.ext 6 x y v w u u' X.A hx hy sx sy rv aZ hu).rc _ _ _ _ ⟨.bl _,H,I,rfl,k _ _ _ q (aa.refl _) (c.pushS (.bl .nil) rfl)⟩
theorem lZ(hu:X.A.units+6<cLine):bJ X (compareOp .NotEq) oy:=bJ.of λpins s σ H v w u u' Q I rv aZ zz=>by
 obtain⟨B,F,av,δ,ts,x,y,Qd,c,sx,sy,⟨⟨hx,hy⟩,q⟩,k⟩:=zz
 exact(MH I c.ext 6 x y v w u u' X.A hx hy sx sy rv aZ hu).ne _ _ _ _ ⟨.bl _,H,I,rfl,k _ _ _ q (aa.refl _) (c.pushS (.bl .nil) rfl)⟩
end
end L3
namespace L3
open PySem L2 PySem.Spec PyProof.Rows
section
variable{X:Cx}{F H:Hp}{v w:V}{e a b c o:Expr}{es:List Expr}{pos p p2 apos bI:Pos}{t ta tb tc te:aC}{tr:cj}{x:Str}
theorem XE{r r':R2}{rd wm:bZ}(hl:yK r rd)(yf:yK r' wm):∀σ H Q,lE (lh rd wm ta tb tc) σ H Q->KR r r' (lB ta) (lB tb) (lB tc) σ H Q:=λσ H Q ⟨B,F,δ,ts,Qd,c,q,k⟩ =>
 ⟨B,F,δ,ts,_,c,q,λx ai v F1 H1 q1 f1 h1 c1 s1=>⟨B,F1,ai,ts,_,c1,q1,λy aF w F2 H2 q2 f2 h2 c2 s2=>by
  refine hl c2 (s1.mono f2 h2) s2 q2 λd z H' hd hs c3=>?_
  obtain⟨b,rfl,qb⟩:=hd
  have st:=c3.top
  cases st with
  | bl _ =>
   refine⟨b,rfl,?_⟩
   cases b with
   | true =>
    refine kP ⟨B,F2,aF,ts,_,c3.pop,by simpa using qb,λz fZ w3 F3 H3 q3 f3 h3 c4 s3=>?_⟩
    exact yf c4 (s2.mono f3 (hs.trans h3)) s3 q3 λd z H' hd XF c5=>k d fZ z F3 H' hd ((f1.trans f2).trans f3) ((((h1.trans h2).trans hs).trans h3).trans XF) c5
   | false=>exact i9 (k _ aF _ F2 H' (by simpa using qb) (f1.trans f2) ((h1.trans h2).trans hs) (c3.pop.pushS (.bl .nil) rfl))⟩⟩
theorem Di{op qB:CmpOp}{rd wm:bZ}(ho:bJ X (compareOp op) rd)(iX:bJ X (compareOp qB) wm)(ha:PE X a (lB ta))(hb:PE X b (lB tb))(hc:PE X c (lB tc))
  (hm:lastMarks [op,qB] [b,c]=false:=by with_unfolding_all rfl):PE X (.Compare a [op,qB] [b,c] pos) (lE (lh rd wm ta tb tc)):=by
 obtain⟨r,h1,h2⟩:=ho
 obtain⟨r',iG,hW⟩:=iX
 exact cQ (Ur h1 iG ha hb hc hm) (XE h2 hW)
noncomputable abbrev jj:=List D->(D->Prop)->Prop
noncomputable def lc(rd:jj):List V->Hp->VK->Prop:=λvs H Q=>∃B F σ δ ts ds Qd,aj B F H σ δ ts/\S F H ds vs/\rd ds Qd/\∀d z H',Qd d->aa H H'->aj B F H' σ δ ((d,z)::ts)->Q z H'
noncomputable def iL(X:Cx)(f:Value)(rd:jj):Prop:=gy X f (lc rd)
theorem iL.of{f:Value}{r:List V->Hp->VK->Prop}{rd:jj}(h:gy X f r)(m:∀vs H Q,lc rd vs H Q->r vs H Q):iL X f rd:=λpins s σ H xs us Q I r q=>h pins s σ H xs us Q I r (m xs H Q q)
noncomputable def jZ(rd:jj)(t:cj):aC:=λδ Q=>t δ λds ag=>rd ds λd=>Q d ag
theorem MI{rd:jj}:∀σ H Q,lE (jZ rd tr) σ H Q->Cn (lc rd) (lA tr) σ H Q:=λσ H Q ⟨B,F,δ,ts,Qd,c,q,k⟩=>⟨B,F,δ,ts,_,c,q,λds ai vs F1 H1 q1 f1 h1 c1 s1 =>
 ⟨B,F1,σ,ai,ts,ds,_,c1,s1,q1,λd z H' hd hs c'=>k d ai z F1 H' hd f1 (h1.trans hs) c'⟩⟩
theorem iq{id:String}{rd:jj}(hc:iL X (.builtin id) rd)(hg:Gl X x)(hm:X.mg x=none)(hv:bootBuiltins x=some (.builtin id))(ha:PA X (e::es) (lA tr))(hn:x≠"__name__":=by decide)(dH:(x==("__debug__":Str))=false:=by decide)
  (he:starEach (e::es) X.env=(false,eval e X.env)::starEach es X.env:=by rfl) (bO:(backTo pos (starEach es X.env)).any (·.1)=false:=by rfl):PE X (.Call (.Name x p) (e::es) [] pos) (lE (jZ rd tr)) :=
 cQ (K4 hc hg hm hv ha hn dH he bO) MI
theorem yU{T:String}{rd:jj}(hc:iL X (.type T) rd)(hg:Gl X x)(hm:X.mg x=none)(hv:bootBuiltins x=some (.type T))(ha:PA X (e::es) (lA tr))(hn:x≠"__name__":=by decide)(dH:(x==("__debug__":Str))=false:=by decide)
  (he:starEach (e::es) X.env=(false,eval e X.env)::starEach es X.env:=by rfl) (bO:(backTo pos (starEach es X.env)).any (·.1)=false:=by rfl):PE X (.Call (.Name x p) (e::es) [] pos) (lE (jZ rd tr)) :=
 cQ (U4 hc hg hm hv ha hn dH he bO) MI
theorem j5{d:D}{vs:List V}(s:S F H [d] vs):∃v,vs=[v]/\S F H [d] [v]:=by
 obtain⟨v,cm,rfl,h1,h2⟩:=s.cP
 cases h2
 exact⟨v,rfl,h1⟩
theorem jk{K:PySem.W.Frag}{p:Addr}{ws:List V}(h:Rd H p (.lst ws)):bt K H p ws:=.inl h
noncomputable def me:jj:=λds Q=>match ds with
 | [.lst _ xs]=>Q (.int xs.length)
 | [.fz xs]=>Q (.int xs.length)
 | [.tup xs]=>Q (.int xs.length)
 | [.str z]=>z.length<=sizeLine/\Q (.int z.length)
 | _=>False
theorem j6:iL X (.builtin "len") me:=iL.of (Vt.or Vu) λvs H Q zz=>by
 obtain⟨B,F,σ,δ,ts,ds,Qd,c,s,q,k⟩:=zz
 unfold me at q
 split at q
 ·obtain⟨v,rfl,s1⟩:=j5 s
  obtain⟨p,ws,rfl,h,t⟩:=lR s1 c.ext rfl
  refine .inl ⟨p,ws,rfl,.inl (jk h),?_⟩
  rw[<-t.length]
  exact k _ _ _ q (aa.refl _) (c.pushS (.int .nil) rfl)
 ·obtain⟨v,rfl,s1⟩:=j5 s
  obtain⟨p,ws,rfl,h,t⟩:=lR s1 c.ext rfl
  refine .inl ⟨p,ws,rfl,.inl (jk h),?_⟩
  rw[<-t.length]
  exact k _ _ _ q (aa.refl _) (c.pushS (.int .nil) rfl)
 ·obtain⟨v,rfl,s1⟩:=j5 s
  obtain⟨p,ws,rfl,h,t⟩:=ij s1
  refine .inl ⟨p,ws,rfl,.inr (eR.of h),?_⟩
  rw[<-t.length]
  exact k _ _ _ q (aa.refl _) (c.pushS (.int .nil) rfl)
 ·obtain⟨v,rfl,s1⟩:=j5 s
  cases s1
  exact .inr ⟨_,rfl,q.1,k _ _ _ q.2 (aa.refl _) (c.pushS (.int .nil) rfl)⟩
 ·exact q.elim
noncomputable def mf:jj:=λds Q=>match ds with
 | [.lst _ xs]=>xs.all D.pl=true/\Q (.lst true xs)
 | [.fz xs]=>Q (.lst true xs)
 | [.tup xs]=>xs.all D.pl=true/\Q (.lst true xs)
 | _=>False
theorem Dj:iL X (.type "list") mf:=iL.of Vv λvs H Q zz=>by
 obtain⟨B,F,σ,δ,ts,ds,Qd,c,s,q,k⟩:=zz
 unfold mf at q
 split at q
 ·obtain⟨v,rfl,s1⟩:=j5 s
  obtain⟨p,ws,rfl,h,t⟩:=lR s1 c.ext rfl
  exact⟨p,ws,rfl,.inl (jk h),λl hl=>k _ _ _ q.2 (aa.upd hl) (c.nH hl t q.1)⟩
 ·obtain⟨v,rfl,s1⟩:=j5 s
  cases s1 with
  | fz h r _=>exact⟨_,_,rfl,.inl (jk (.inr ⟨_,c.ext _ _ h⟩)),λl hl=>k _ _ _ q (aa.upd hl) (c.nH hl r.s r.pl)⟩
 ·obtain⟨v,rfl,s1⟩:=j5 s
  obtain⟨p,ws,rfl,h,t⟩:=ij s1
  exact⟨p,ws,rfl,.inr (eR.of h),λl hl=>k _ _ _ q.2 (aa.upd hl) (c.nH hl t q.1)⟩
 ·exact q.elim
noncomputable def wo(bs:List Bool):List D:=bs.map D.bl
theorem MJ:∀{bs:List Bool} {ws:List V},S F H (wo bs) ws->ws=bs.map V.bl
 | [],_,s=>by cases s;rfl
 | b::bs,_,s=>by
  cases s with
  | bl s=>rw[MJ s];rfl
noncomputable def mh:jj:=λds Q=>match ds with
 | [.lst _ xs]=>∃bs,xs=wo bs/\Q (.bl (bs.all id))
 | _=>False
theorem Dk(hc:X.calm=true):iL X (.builtin "all") mh:=iL.of (Wv hc) λvs H Q zz=>by
 obtain⟨B,F,σ,δ,ts,ds,Qd,c,s,q,k⟩:=zz
 unfold mh at q
 split at q
 ·obtain⟨v,rfl,s1⟩:=j5 s
  obtain⟨bs,rfl,q⟩:=q
  obtain⟨p,ws,rfl,h,t⟩:=lR s1 c.ext rfl
  rw[MJ t]at h
  exact⟨p,bs,rfl,jk h,k _ _ _ q (aa.refl _) (c.pushS (.bl .nil) rfl)⟩
 ·exact q.elim
noncomputable def yV:D->Option String
 | .int _=>some "int"
 | .bl _=>some "bool"
 | .ak=>some "NoneType"
 | .str _=>some "str"
 | .lst _ _=>some "list"
 | .fz _=>some "list"
 | .tup _=>some "tuple"
 | _=>none
noncomputable def Dm(k n:String):Option Bool:=([("int","int",true),("int","bool",false),("int","list",false),("int","tuple",false),("int","str",false),("bool","int",true),("bool","bool",true),("bool","list",false),("bool","tuple",false),("bool","str",false),
 ("NoneType","int",false),("NoneType","bool",false),("NoneType","list",false),("NoneType","tuple",false),("NoneType","str",false),("str","int",false),("str","bool",false),("str","list",false),("str","tuple",false),("str","str",true),
 ("list","int",false),("list","bool",false),("list","list",true),("list","tuple",false),("list","str",false),("tuple","int",false),("tuple","bool",false),("tuple","list",false),("tuple","tuple",true),("tuple","str",false)].find? λz=>z.1==k&&z.2.1==n).map (·.2.2)
noncomputable def j7(n:String)(d:D):Option Bool:=(yV d).bind λk=>Dm k n
theorem XG{K:PySem.W.Frag}{k n:String}{r:Bool}(h:Dm k n=some r):PySem.W.kitOne K (.type k) (.type n)=some r:=by
 unfold Dm at h
 obtain⟨z,hz,rfl⟩:=Kg.mp h
 have hm:=Sn hz
 have hp:=List.find?_some hz
 rw[dm,beq_iff_eq,beq_iff_eq]at hp
 obtain⟨rfl,rfl⟩:=hp
 simp only[cg,iV,or_false]at hm
 repeat' (rcases hm with hm | hm)
 all_goals rfl
theorem XH{K:PySem.W.Frag}{d:D}(s:S F H [d] [v])(e:aa F H){k:String}(h:yV d=some k):fS K H v (.type k):=by
 cases s with
 | int _=>cases h;exact .int _
 | bl _=>cases h;exact .bl _
 | ak _=>cases h;exact .ak
 | str _=>cases h;exact .str _
 | shr h' _ _=>cases h;exact .lst (e _ _ h')
 | own h' _ _=>cases h;exact .lst h'
 | fz h' _ _=>cases h;exact .bR (e _ _ h')
 | tup h' _ _=>cases h;exact .tup h'
 | obj _ _ _ _=>cases h
 | aU _ _=>cases h
theorem XI{K:PySem.W.Frag}{d:D}(s:S F H [d] [v])(e:aa F H){n:String}{r:Bool}(h:j7 n d=some r):∃t,fS K H v t/\PySem.W.kitOne K t (.type n)=some r:=by
 unfold j7 at h
 cases hk:yV d with
 | none=>rw[hk]at h;cases h
 | some k=>rw[hk]at h;exact⟨_,XH s e hk,XG h⟩
noncomputable def oA(n:String)(t:aC):aC:=λδ Q=>t δ λd ag=>∃r,j7 n d=some r/\Q (.bl r) ag
theorem Dn{n:String}{y:Str}{q:Pos}(hg:Gl X "isinstance")(hm:X.mg "isinstance"=none)(XJ:Gl X y)(MK:X.mg y=none)(XM:bootBuiltins y=some (.type n))(ha:PE X a (lB ta))
  (hn:y≠"__name__":=by decide) (hd:(y==("__debug__":Str))=false:=by decide)
  (hs:starEach [a,.Name y q] X.env=(false,eval a X.env)::starEach [.Name y q] X.env:=by rfl) (fv:starEach [.Name y q] X.env=(false,eval (.Name y q) X.env)::starEach [] X.env:=by rfl) (bO:(backTo pos (starEach [.Name y q] X.env)).any (·.1)=false:=by rfl) :
  PE X (.Call (.Name "isinstance" p) [a,.Name y q] [] pos) (lE (oA n ta)) :=
 cQ (K4 Wj hg hm We (eK ha (eK (Wh XJ MK XM hn hd) hV fv) hs) (by decide) (by decide) hs bO) λσ H Q ⟨B,F,δ,ts,Qd,c,q,k⟩=>⟨B,F,δ,ts,_,c,q,λd ai v F1 H1 q1 f1 h1 c1 s1=>by
  obtain⟨r,e,qr⟩:=q1
  obtain⟨t,h2,h3⟩:=XI (K:=X.K) s1 c1.ext e
  exact⟨v,n,t,r,rfl,h2,h3,k _ ai _ F1 H1 qr f1 h1 (c1.pushS (.bl .nil) rfl)⟩⟩
theorem Dq{xs:List D}{ws:List V}{i:Int}{d:D}(s:S F H xs ws)(h:dw xs i=some d):∃v,dw ws i=some v/\S F H [d] [v]:=by
 unfold dw at h ⊢
 rw[<-s.length]
 cases e:fV xs.length i with
 | none=>rw[e]at h;cases h
 | some j =>
  rw[e]at h
  exact s.get h
noncomputable def mi(x y:D)(Q:D->Prop):Prop:=match x,y with
 | .lst _ xs,.int i=>∃d,dw xs i=some d/\Q d
 | .fz xs,.int i=>∃d,dw xs i=some d/\Q d
 | .tup xs,.int i=>∃d,dw xs i=some d/\Q d
 | .str z,.int i=>z.length<=sizeLine/\∃ch,dw z.cps.toList i=some ch/\Q (.str ⟨#[ch]⟩)
 | _,_=>False
noncomputable def oB(ta tb:aC):aC:=λδ Q=>ta δ λx ai=>tb ai λy aF=>mi x y λd=>Q d aF
theorem bC(ha:PE X a (lB ta))(hb:PE X b (lB tb))(hs:K6 b):PE X (.Subscript a b pos) (lB (oB ta tb)) :=
 cQ (Vd Vi ha hb hs) λσ H Q ⟨B,F,δ,ts,Qd,c,q,k⟩=>⟨B,F,δ,ts,_,c,q,λx ai v F1 H1 q1 f1 h1 c1 s1=>⟨B,F1,ai,ts,_,c1,q1,λy aF w F2 H2 q2 f2 h2 c2 s2=>by
  have mj:=s1.mono f2 h2
  have fin:∀d z,Qd d aF->S F2 H2 [d] [z]->Q z H2:=λd z hd s=>k d aF z F2 H2 hd (f1.trans f2) (h1.trans h2) c2 s
  unfold mi at q2
  split at q2
  ·obtain⟨d,ed,qd⟩:=q2
   cases s2
   obtain⟨p,ws,rfl,h,t⟩:=lR mj c2.ext rfl
   obtain⟨z,ez,sz⟩:=Dq t ed
   exact .inl ⟨p,ws,_,z,rfl,rfl,jk h,ez,fin d z qd sz⟩
  ·obtain⟨d,ed,qd⟩:=q2
   cases s2
   obtain⟨p,ws,rfl,h,t⟩:=lR mj c2.ext rfl
   obtain⟨z,ez,sz⟩:=Dq t ed
   exact .inl ⟨p,ws,_,z,rfl,rfl,jk h,ez,fin d z qd sz⟩
  ·obtain⟨d,ed,qd⟩:=q2
   cases s2
   obtain⟨p,ws,rfl,h,t⟩:=ij mj
   obtain⟨z,ez,sz⟩:=Dq t ed
   exact .inr (.inl ⟨p,ws,_,z,rfl,rfl,eR.of h,ez,fin d z qd sz⟩)
  ·obtain⟨hz,ch,ec,qc⟩:=q2
   cases mj
   cases s2
   exact .inr (.inr ⟨_,_,ch,rfl,rfl,hz,ec,fin _ _ qc (.str .nil)⟩)
  ·exact q2.elim⟩⟩
noncomputable abbrev tF:=Dl->(Option Int->Dl->Prop)->Prop
noncomputable def lP(t:tF):TO:=λσ H Q=>∃B F δ ts Qd,aj B F H σ δ ts/\t δ Qd/\∀o ag F' H',Qd o ag->aa F F'->aa H H'->aj B F' H' σ ag ts->Q o H'
theorem ML{oe:Option Expr}{u u':TO}(h:PO X oe u)(m:∀σ H Q,u' σ H Q->u σ H Q):PO X oe u':=λpins s σ H Q I q=>h pins s σ H Q I (m σ H Q q)
noncomputable def oE:tF:=λδ Q=>Q none δ
noncomputable def oF(t:aC):tF:=λδ Q=>t δ λd ag=>match d with
 | .int i=>Q (some i) ag
 | _=>False
theorem MM:PO X none (lP oE):=ML U8 λσ H Q ⟨B,F,δ,ts,Qd,c,q,k⟩=>k none δ F H q (aa.refl _) (aa.refl _) c
theorem MN(h:PE X e (lB t)):PO X (some e) (lP (oF t)):=ML (U9 h) λσ H Q ⟨B,F,δ,ts,Qd,c,q,k⟩=>⟨B,F,δ,ts,_,c,q,λd ai v F1 H1 q1 f1 h1 c1 s1=>by
 cases s1 with
 | int _=>exact⟨_,rfl,k _ ai F1 H1 q1 f1 h1 c1⟩
 | _=>exact q1.elim⟩
noncomputable def gh{α:Type}(xs:List α)(lo hi:Option Int):List α:=(xs.drop (HT.cE xs.length 0 lo)).take (HT.cE xs.length xs.length hi-HT.cE xs.length 0 lo)
theorem S.cut{xs:List D}{ws:List V}(s:S F H xs ws)(lo hi:Option Int):S F H (gh xs lo hi) (sU ws lo hi):=by
 unfold gh sU
 rw[<-s.length]
 exact(s.drop _).take _
theorem MP{xs:List D}{p:D->Bool}(h:xs.all p=true)(lo hi:Option Int):(gh xs lo hi).all p=true:=by
 rw[dn]at h ⊢
 intro x hx
 exact h x (BB (BC hx))
noncomputable def oG(t:aC):aC:=λδ Q=>t δ λd ag=>match d with
 | .int i=>Q (.int (Mf.bl i.natAbs:Nat)) ag
 | _=>False
theorem mm(ho:PE X o (lB t))(i7:attributeBase o "bit_length" X.env (eval o X.env)=eval o X.env:=by rfl)(i8:(apos.endLine==bI.line)=true:=by rfl):PE X (.Call (.Attribute o "bit_length" apos) [] [] bI) (lE (oG t)) :=
 cQ (CH ho i7 i8) λσ H Q ⟨B,F,δ,ts,Qd,c,q,k⟩=>⟨B,F,δ,ts,_,c,q,λd ai v F1 H1 q1 f1 h1 c1 s1=>by
  cases s1 with
  | int _=>exact⟨rfl,_,rfl,rfl,k _ ai _ F1 H1 q1 f1 h1 (c1.pushS (.int .nil) rfl)⟩
  | _=>exact q1.elim⟩
end
end L3
namespace L3
open PySem L2 PySem.Spec PyProof.Rows
section
variable{X:Cx}{F H:Hp}{v w:V}{e a b c o tg:Expr}{es:List Expr}{pos p p2 apos bI pos':Pos}{t ta tb tc te ti:aC}{tr:cj}{x:Str}{i:Nat}
noncomputable def oH(i:Nat)(t:aC):bX:=λD δ=>(∃xs,δ[i]?=some (some (.lst true xs)))/\t δ λd ag=>∃xs,ag[i]?=some (some (.lst true xs))/\xs.length<sizeLine/\D.nx (ag.set i (some (.lst true (xs++[d]))))
theorem Dr(hN:X.N[i]?=some x)(hv:jJ X.env.scope x)(he:PE X e (lE t))(hd:(x==("__debug__":Str))=false:=by decide)(cn:(x==("__classdict__":Str))=false:=by decide)
  (i7:attributeBase (.Name x p) "append" X.env (eval (.Name x p) X.env)=eval (.Name x p) X.env:=by rfl)
  (vO:((backTo bI (starEach [e] X.env)).all (λx=>!x.1)&&(backToKw bI (keywordEach [] X.env)).all (λx=>x.1.isSome)
   && decide ([e].length+([]:List Keyword).length+(if([]:List Keyword).isEmpty then 0 else 1)<30))=true:=by rfl)
  (i8:(apos.endLine==bI.line)=true:=by rfl) (hs:starEach [e] X.env=(false,eval e X.env)::starEach [] X.env:=by rfl) (vP:(backTo bI (starEach [] X.env)).any (·.1)=false:=by rfl)
  (wq:swapsWith (.Call (.Attribute (.Name x p) "append" apos) [e] [] bI) none pos.line X.env=pure false:=by rfl) :
  PS X (.Expr (.Call (.Attribute (.Name x p) "append" apos) [e] [] bI) pos) (lS X (oH i t)) :=
 kY (B4 (Ld PySem.F.plainAttrs_list PySem.F.slot_list_append PySem.F.type_list_append Lg (qt hN hv hd cn) (eK he hV hs) i7 vO i8 hs vP) wq) λEn σ H zz=>by
  obtain⟨B,F,δ,Dd,c,⟨⟨ys,ey⟩,q⟩,k1,k2,k3,k4⟩:=zz
  obtain⟨p0,CY,g1,g2,g3⟩:=c.ownAt ey
  refine⟨.ref p0,g1,.inl ⟨rfl,_,bt.of g2⟩,B,F,δ,[],_,c,q,λd ag v F' H' hd sf sh c'=>?_⟩
  obtain⟨xs,ex,hl,hn⟩:=hd
  obtain⟨p1,ws,r1,r2,r3⟩:=c'.ownAt ex
  rw[g1]at r1;cases r1
  exact⟨p0,ws,v,rfl,rfl,r2,by omega,k1 _ _ F' _ hn (c'.app ex g1 r2)⟩
noncomputable def oI(i:Nat)(te ti:aC):bX:=λD δ=>te δ λd ai=>∃ys,ai[i]?=some (some (.lst true ys))/\kZ ti ai λk aF=>match k with
 | .int n=>∃xs j,aF[i]?=some (some (.lst true xs))/\fV xs.length n=some j/\D.nx (aF.set i (some (.lst true (xs.set j d))))
 | _=>False
theorem Ds(hN:X.N[i]?=some x)(hv:jJ X.env.scope x)(he:PE X e (lE te))(hi:PE X b (lB ti))(hd:(x==("__debug__":Str))=false:=by decide)(cn:(x==("__classdict__":Str))=false:=by decide)
  (ha:∀v,assign (.Subscript (.Name x p) b pos') X.env v=(do
   let ov<-holding [v] (eval (.Name x p) X.env)
   let iv<-holding [v,ov] (eval b X.env)
   standAt pos'
   holding [v,ov,iv] (setItem ov iv v)
   release [v,ov,iv] []):=by intro _;rfl)
  (hs:swapsWithSole [.Subscript (.Name x p) b pos'] e pos.line X.env=pure false:=by rfl) (hw:swappedStores [.Subscript (.Name x p) b pos'] e X.env=pure none:=by rfl)
  (h1:(assignEach [.Subscript (.Name x p) b pos'] X.env).map (·.2)=[assign (.Subscript (.Name x p) b pos') X.env]:=by rfl) :
  PS X (.Assign [.Subscript (.Name x p) b pos'] e pos) (lS X (oI i te ti)) :=
 kY (TN he (TM (qt hN hv hd cn) (eA hi) Vm ha) hs hw h1) λEn σ H ⟨B,F,δ,Dd,c,q,k1,k2,k3,k4⟩=>⟨B,F,δ,[],_,c,q,λd ai v F1 H1 hq f1 h1 c1=>by
  obtain⟨ys,ey,hq⟩:=hq
  obtain⟨p0,CY,g1,g2,g3⟩:=c1.ownAt ey
  refine⟨.ref p0,g1,B,F1,ai,[(d,v)],_,c1,hq,λkd aF kv F2 H2 hk f2 h2 c2=>?_⟩
  have st:=c2.top
  split at hk
  ·obtain⟨xs,j,ex,ej,hn⟩:=hk
   cases st
   have c3:=c2.pop
   obtain⟨p1,ws,r1,r2,r3⟩:=c3.ownAt ex
   rw[g1]at r1;cases r1
   exact⟨p0,ws,_,j,rfl,rfl,r2,by rw[<-r3];exact ej,k1 _ _ F2 _ hn (c3.Xd ex g1 r2 j)⟩
  ·exact hk.elim⟩
end
end L3
namespace L3
open PySem L2 PySem.Spec PyProof.Rows
theorem dq{A:Around}{k:Nat}(hr:bN k A):A.units+6<cLine:=by have:=hr.un;omega
noncomputable def aD(ns:List Int):List D:=ns.map D.int
noncomputable def Dt(o:Obj):Bool:=match o.cls with
 | .type n=>n != "list"
 | _=>true
noncomputable def MQ:bG:=λds Q=>∃ns:List Int,ds=[.fz (aD ns)]/\ns.length<=63/\Q (.bl true)
theorem jl{F H:Hp}:∀ns:List Int,R F H (aD ns) (ns.map V.int) []
 | []=>.nil
 | n::ns=>.int (jl ns)
theorem XN{K:PySem.W.Frag}{a:Addr}{o:Obj}(h:K.lookup a=some o):(a,o)∈K:=by
 induction K with
 | nil=>cases h
 | cons p K ih =>
  obtain⟨b,u⟩:=p
  rw[eV]at h
  split at h
  ·rename_i z
   have:a=b:=by simpa using z
   cases h;subst this;simp
  ·exact fm _ (ih h)
end L3
namespace L3
open PySem L2 PySem.Spec PyProof.Rows
section
variable{B:Bs}{F H:Hp}{σ:L2.St}{δ:Dl}{ts ps:List (D × V)}{i k:Nat}{p q:Addr}{l1 l2 ys L0:List D}{ws tE:List V}
end
section
variable{X:Cx}{F H:Hp}{e b:Expr}{pos p pr apos bI yW:Pos}{t ti te:aC}{x y:Str}{i j:Nat}
end
end L3
namespace L3
open PySem L2 PySem.Spec PyProof.Rows
theorem qU(i:Int):(D.int i).pl=true:=rfl
theorem qV(i:Bool):(D.bl i).pl=true:=rfl
theorem qW(i:Str):(D.str i).pl=true:=rfl
theorem qX:D.ak.pl=true:=rfl
theorem qY(xs:List D):(D.fz xs).pl=true:=rfl
theorem qZ(C:Addr)(ns:List Str)(xs:List D):(D.obj C ns xs).pl=true:=rfl
theorem mq(i:Int):(D.int i).fr=true:=rfl
theorem q0(i:Bool):(D.bl i).fr=true:=rfl
theorem q5(i:Str):(D.str i).fr=true:=rfl
theorem q8:D.ak.fr=true:=rfl
theorem mr(i:Int):(D.int i).sh=.int i:=rfl
theorem q9(i:Bool):(D.bl i).sh=.bl i:=rfl
theorem rf(i:Str):(D.str i).sh=.str i:=rfl
theorem rh:D.ak.sh=.ak:=rfl
theorem rj(xs:List D):(D.fz xs).sh=.fz xs:=rfl
theorem rk(C:Addr)(ns:List Str)(xs:List D):(D.obj C ns xs).sh=.obj C ns xs:=rfl
theorem rl{α:Type}(n:Nat)(x:α):(aT n [x]).flatten=aT n x:=by
 induction n with
 | zero=>rfl
 | succ n ih=>rw[kz,pW,ih];rfl
theorem jm(ns:List Int):(aD ns).length=ns.length:=by simp[aD]
theorem j8(ns:List Int):(aD ns).all D.pl=true:=by simp[aD,D.pl]
theorem mv(ns:List Int):(aD ns).all D.fr=true:=by simp[aD,D.fr]
theorem gL(ns:List Int):(aD ns).map D.sh=aD ns:=by simp[aD,D.sh]
theorem mw(a b:List Int):aD a++aD b=aD (a++b):=by simp[aD]
theorem rm(n:Nat)(i:Int):aT n (D.int i)=aD (aT n i):=by simp[aD]
theorem oJ(n:Nat)(i:Int):aI n (.int i)=true:=by cases n<;>rfl
theorem rn(n:Nat)(i:Str):aI n (.str i)=true:=by cases n<;>rfl
theorem jn(i j:Int):bx (.int i) (.int j)=decide (i=j):=by
 show(i==j)=_
 rw[Bool.beq_eq_decide_eq]
theorem MR:∀(a b:List Int),bx.eN (aD a) (aD b)=decide (a=b)
 | [],[]=>rfl
 | [],_::_=>by simp[aD,bx.eN]
 | _::_,[]=>by simp[aD,bx.eN]
 | x::xs,y::ys=>by
  show(bx (.int x) (.int y)&&bx.eN (aD xs) (aD ys))=_
  rw[MR xs ys,jn,sD];simp
theorem oK(o o':Bool)(a b:List Int):bx (.lst o (aD a)) (.lst o' (aD b))=decide (a=b):=MR a b
theorem XO{ns:List Int}{k:Nat}(h:k<ns.length):(aD ns)[k]?=some (.int ns[k]):=by simp[aD,h]
theorem j9{ns:List Int}{k:Int}(h0:0<=k)(h:k<ns.length):dw (aD ns) k=some (.int (ns.getD k.toNat 0)):=by
 unfold dw fV
 rw[if_pos h0,jm,if_pos h]
 show(aD ns)[k.toNat]?=_
 have hk:k.toNat<ns.length:=by omega
 rw[XO hk,aR,aQ hk];rfl
theorem rp(i:Int):j7 "int" (.int i)=some true:=by rfl
theorem rq(i:Int):j7 "bool" (.int i)=some false:=by rfl
theorem rz(i:Int):j7 "list" (.int i)=some false:=by rfl
theorem rA(o:Bool)(xs:List D):j7 "list" (.lst o xs)=some true:=by rfl
theorem rB:j7 "int" .ak=some false:=by rfl
theorem rC(x:Str):j7 "str" (.str x)=some true:=by rfl
theorem rD(xs:List D):j7 "tuple" (.tup xs)=some true:=by rfl
theorem sL:sizeLine=16777216:=rfl
theorem rE{p:Prop}[Decidable p]:(decide p=true)=p:=by simp
theorem XQ{α:Type}(xs:List α)(a b:Nat):gh xs (some (a:Int)) (some (b:Int))=(xs.drop a).take (b-a):=by
 unfold gh
 rw[HT.Co,HT.Co]
 by_cases h:a<=xs.length
 ·rw[Nat.min_eq_left h]
  apply BD
  intro i
  rw[So,So,List.getElem?_drop]
  by_cases hi:i<b-a
  ·rw[if_pos hi]
   by_cases hb:a+i<xs.length
   ·rw[if_pos (by omega)]
   ·rw[iB (by omega)];simp
  ·rw[if_neg hi,if_neg (by omega)]
 ·rw[Nat.min_eq_right (show xs.length<=a by omega),Kh (bD _),Kh (show xs.length<=a by omega)];simp
end L3
namespace L2
open PySem PySem.Spec PyProof.Rows
section
variable{X:Cx}{e:Expr}{te:TE}{lo hi:Option Expr}{st:Expr}{tl th ts:TO}{pos p2:Pos}
noncomputable def Du{α:Type}(xs:List α)(lo hi st:Option Int):List α:=(sliceRange (sliceBounds lo hi st xs.length).1 (sliceBounds lo hi st xs.length).2.1 (sliceBounds lo hi st xs.length).2.2).filterMap (xs[·]?)
end
end L2
namespace L3
open PySem L2 PySem.Spec PyProof.Rows
section
variable{X:Cx}{F H:Hp}{e:Expr}{t:aC}{lo hi:Option Expr}{st:Expr}{tl th td:tF}{pos p2:Pos}
theorem MS:∀{a:List Int} {ws:List V},S F H (aD a) ws->ws=a.map V.int
 | [],_,s=>by cases s;rfl
 | b::bs,_,s=>by
  cases s with
  | int s=>rw[MS s];rfl
theorem S.Dv{xs:List D}{ws:List V}(s:S F H xs ws):∀ix:List Nat,S F H (ix.filterMap (xs[·]?)) (ix.filterMap (ws[·]?))
 | []=>.nil
 | i::ix=>by
  rw[sq,sq]
  cases e:xs[i]? with
  | none =>
   have:ws[i]?=none:=by
    have:=s.length
    rw[J1]at e ⊢
    omega
   rw[this];exact S.Dv s ix
  | some x =>
   obtain⟨u,e2,q⟩:=s.get e
   rw[e2]
   exact q.cons (S.Dv s ix)
theorem S.pick{xs:List D}{ws:List V}(s:S F H xs ws)(l u d:Option Int):S F H (Du xs l u d) (Du ws l u d):=by
 unfold Du;rw[<-s.length];exact s.Dv _
noncomputable def Dw:Expr->Option Int
 | .Constant (.int i) _ _=>some i
 | _=>none
noncomputable def yX:List Expr->Option (List Int)
 | []=>some []
 | e::es=>(Dw e).bind λi=>(yX es).map (i :: ·)
theorem XR{e:Expr}{i:Int}(h:Dw e=some i):∃a b,e=.Constant (.int i) a b:=by
 cases e with
 | Constant c a b =>
  cases c with
  | int j=>cases h;exact⟨_,_,rfl⟩
  | _=>cases h
 | _=>cases h
noncomputable def XS(ns:List Int):cj:=λδ Q=>Q (aD ns) δ
theorem MT:∀(es:List Expr) (ns:List Int),yX es=some ns->PA X es (lO (XS ns))
 | [],ns,h=>by cases h;exact fh
 | e::es,ns,h=>by
  obtain⟨i,hi,h2⟩:=Option.bind_eq_some_iff.mp (show(Dw e).bind (λi=>(yX es).map (i :: ·))=some ns from h)
  obtain⟨ms,hm,rfl⟩:=Kg.mp h2
  obtain⟨a,b,rfl⟩:=XR hi
  exact v7 (e5 (aw (i:=i)) (MT es ms hm)) λ_ _ _ q=>q
noncomputable def oM(ns:List Int):aC:=λδ Q=>ns.length<=sizeLine/\Q (.lst true (aD ns)) δ
theorem MU{es:List Expr}{ns:List Int}(h:yX es=some ns):PE X (.List es pos) (lE (oM ns)) :=
 cQ (gI (MT es ns h)) λ_ _ _ ⟨B,F,δ,ts,Qd,c,q,k⟩=>⟨B,F,δ,ts,Qd,c,by
  show(aD ns).length<=sizeLine/\_
  rw[jm];exact q,k⟩
noncomputable def tab(f:Nat->Int)(n:Nat):List Int:=(aP n).map f
theorem Dx{n:Nat}{g:e7}{tb:bX}{En:qO}{δ:Dl}(Iv:Nat->Dl->Prop)(h0:Iv 0 δ)(ht:∀k ag,k<n->Iv k ag->g (.int k) ag λaF=>tb { En with nx:=Iv (k+1),ct:=Iv (k+1),bk:=En.nx } aF)
  (hf:∀ag,Iv n ag->En.nx ag):jh (BE (λ(k:Nat)=>D.int (0+(k:Int))) (aP (n:Int).toNat)) g tb En δ:=by
 rw[g5]
 refine jh.mk Iv h0 (λi d ag hd iv=>?_) λag iv=>hf ag (by simpa using iv)
 rw[cI]at hd
 obtain⟨k,hk,rfl⟩:=Kg.mp hd
 have hi:i<n:=by have:=(iA.mp hk).1;simpa using this
 rw[kE hi]at hk
 cases hk
 rw[Ki]
 exact ht i ag hi iv
theorem nD{xs:List D}{k:Int}{d:D}(h0:0<=k)(h:xs[k.toNat]?=some d):dw xs k=some d:=by
 unfold dw fV
 have hk:k.toNat<xs.length:=(iA.mp h).1
 rw[if_pos h0,if_pos (by omega)]
 exact h
end
end L3
namespace L3
open PySem L2 PySem.Spec PyProof.Rows
noncomputable abbrev oN:=List D->(D->Prop)->(Addr->Prop)->Prop
noncomputable def wu(sp:oN):Sp:=λvs H Q E=>∃F ds Qd Ed,aa F H/\R F H ds vs []/\sp ds Qd Ed/\(∀d v F' H' A,Qd d->aa H H'->aa F F'->aa F' H'->(∀a ws,F' a=some (.lst ws)->F a=some (.lst ws)\/H a=none)->R F' H' [d] [v] A->A.Nodup->(∀a∈A,H a=none)->Q v H') /\
 ∀C H',Ed C->aa H H'->E (.ref C) none H'
section
variable{P:Program}{w:World}{K:PySem.W.Frag}{mg:Str->Option Value}{base:Heap}
theorem MV{x qual:Str}{st:Stmt}{f:Addr}{fd:FuncData}{N ps:List Str}{k:Nat}{sp:oN}(F:bB K x qual st f fd)(S:bE N ps (aA st))(len:∀ds Q E,sp ds Q E->ds.length=ps.length)
  (fU:∀(aG:Value) (A:Around) (outer:List Env) (s:Shared) (H:Hp) (E:XK),bN k (A.deeper (envOfC qual (aA st) s.heap.objs.size f aG)) ->
   ∃t:bX,PSs (gA (kW P w) P w K mg base N qual (aA st) f aG A outer s H E) (bq st) (lS (gA (kW P w) P w K mg base N qual (aA st) f aG A outer s H E) t) /\
    ∀ds Q Ex,sp ds Q Ex->t { nx:=λ_=>Q .ak,rt:=Q,xc:=λC _=>Ex C,xr:=λC _=>Ex C } (ie N ds)):aS P w K mg base (kW P w) (k+1) f fd ps (wu sp):=by
 obtain⟨oc,od,kV,doc,pm,an,aG,ct,jN,rfl,lk,cn⟩:=F.ex
 refine Cm lk cn S (λvs H Q E ⟨F,ds,Qd,Ed,e,r,h,_⟩=>by rw[<-r.length];exact len ds Qd Ed h) λA outer s H vs Q E hr zz=>?_
 obtain⟨F,ds,Qd,Ed,e,r,h,k,kx⟩:=zz
 obtain⟨t,ht,hq⟩:=fU aG A outer s H E hr
 have fin:∀d v ag av F' H',Qd d->aj ⟨H,F⟩ F' H' av ag [(d,v)]->Q v H':=λd v ag av F' H' hd c=>by
  obtain⟨A,C,r',s',nd,fr⟩:=c.own
  exact k d v F' H' A hd c.b1 c.b2 c.ext c.b3 r' (fY.mp nd).1 λa ha=>fr a (eG _ ha)
 have e1:L2.start N vs=vs.map some++aT (N.length-ds.length) none:=by unfold L2.start;rw[r.length]
 refine⟨_,ht,⟨H,F⟩,F,ie N ds,_,?_,hq ds Qd Ed h,λag av F' H' hd c=>fin .ak .ak ag av F' H' hd (c.pushS (.ak .nil) rfl),fin,λ_ _ _ _ z=>z.elim,λ_ _ _ _ z=>z.elim,λC ag pins av F' H' s' a T hx c I tr pa pT=>?_,λC ag pins av F' H' s' h' e vs hx c I hm=>?_⟩
 ·rw[e1]
  exact aj.start e r _
 ·exact WH I rfl rfl rfl tr pa pT λh' T' g=>⟨a,T',.ref C,H',rfl,I.os,I.bare,g.un,g.az,g.vW,g.a0,g.a1,g.t0,g.t1,kx C H' hx c.b1⟩
 ·exact WI I rfl rfl rfl hm λh' T' g=>⟨e,T',.ref C,H',rfl,I.os,I.bare,g.un,g.az,g.vW,g.a0,g.a1,g.t0,g.t1,kx C H' hx c.b1⟩
end
noncomputable abbrev XT:=Dl->(D->Dl->Prop)->(Addr->Dl->Prop)->Prop
section
variable{X:Cx}{n:Nat}{f:Addr}{fd:FuncData}{ps:List Str}{sp:oN}{x:Str}{p pos:Pos}{e:Expr}{es:List Expr}{t:cj}{tx:XT}
noncomputable def oO(t:bX):bX:=λD δ=>t { D with xc:=λ_ _=>False,xr:=λ_ _=>False } δ
theorem XU{st:Stmt}{u:bX}(h:PS X.eS st (lS X.eS u)):PS X st (lS X (oO u)):=by
 intro pins s σ H D I zz
 obtain⟨B,F,δ,Dd,c,q,k1,k2,k3,k4,xl⟩:=zz
 exact wpAny_mono (h pins s σ H D (I.g8 _) ⟨B,F,δ,_,c,q,k1,k2,k3,k4,XL.none (λ_ _ z=>z) λ_ _ z=>z⟩) (λ_ _ q=>q.iY) λ_ _ z=>dX z
noncomputable def oQ(C:Addr)(t:cj):bX:=λD δ=>t δ λds ag=>ds.length<=9/\D.xr C ag
structure Dy(K:PySem.W.Frag)(mg:Str->Option Value)(x:Str)(C:Addr):Prop where
 own:∀h:Heap,K.In h->h.Ns mainGlobals mg->∃newId Bn iM MW B MX MY yY,OwnCls x C yY newId mg h/\ExcBaseFacts Bn newId iM MW/\yY.contains (.type Bn)=true/\ExcBaseFacts B MX MY yY
theorem MZ{C:Addr}{np bI:Pos}(hm:Dy X.K X.mg x C)(hc:X.calm=true)(hg:Gl X x)(ha:PA X (e::es) (lA t))(dH:(x==("__debug__":Str))=false:=by decide)
  (he:starEach (e::es) X.env=(false,eval e X.env)::starEach es X.env:=by rfl) (bO:(backTo bI (starEach es X.env)).any (·.1)=false:=by rfl) :
  PS X (.Raise (some (.Call (.Name x np) (e::es) [] bI)) none pos) (lS X (oQ C t)):=by
 intro pins s σ H D I zz
 obtain⟨B,F,δ,Dd,c,q,k1,k2,k3,k4,xl⟩:=zz
 obtain⟨newId,Bn,iM,MW,B',MX,MY,yY,O,Fn,XW,FB⟩:=hm.own X.base I.ok.mod.kI I.ok.mod.glob
 obtain⟨tl,N,nm,qn,bs,hdct,sn,sub,ab,col,dd,k0,XX,XY,XZ,k5,mN,hC,hN,oR,T⟩:=O.obj
 refine wpAny_Raise_call_subU (k5:=k5) (k3:=XZ) (k2:=XY) (k1:=XX) (k0:=k0) (dd:=dd) (col:=col) (ab:=ab) (sub:=sub) (sn:=sn) (hdct:=hdct) (bs:=bs) (N:=N) (q:=qn) (nm:=nm) (C:=C) Fn XW FB (mN:=mN) (T.hasType FB.hasBase) (I.ok.hd hc) (by rw[he];show(false||(backTo bI (starEach es X.env)).any (·.1))=false;rw[bO];rfl) oR (yh I hg O.bound ⟨rfl,?_⟩ dH)
 have fH:=ha bI pins s σ H (λvs H1=>vs.length<=9/\∃ag F',Dd.xr C ag/\aj B F' H1 σ ag []) I ⟨B,F,δ,[],_,c,q,λds ai vs F1 H1 q1 f1 h1 c1 s1=>⟨by rw[<-s1.length];exact q1.1,ai,F1,q1.2,c1⟩⟩
 rw[he]at fH ⊢
 refine Calls.evalArgs_plain (wpAny_mono fH (λus s2 h2=>?_) λ_ _ y=>y)
 obtain⟨vs,H1,I1,r,hl,ag,F',hx,c'⟩:=h2
 exact⟨rfl,by rw[<-r.length];exact dW hl (by decide),I1.bk _ _ hC,hN.keeps I1.bk,T.keeps I1.bk,λh' e' X0=>xl.2 C ag pins σ F' H1 s2 h' e' _ hx c' I1 X0⟩
end
end L3
namespace L3
open PySem L2 PySem.Spec PyProof.Rows
section
variable{X:Cx}{pins BX:List (Addr × Obj)}{σ:L2.St}{H:Hp}{s:Shared}{a:Addr}
noncomputable abbrev tr(X:Cx)(xe:Value->Shared->Prop)(pn:List (Addr × Obj)):Cx:={ X with xe:=xe,pn:=pn }
end
noncomputable abbrev exc(C:Addr):D:=.aU (.ext λa=>LX a C)
section
variable{X:Cx}{tb th:bX}{body X5:List Stmt}{X6:Stmt}{K n:Str}{Kc:Addr}{i:Nat}{kp X7 pos:Pos}
end
end L3
namespace L3
open PySem L2 PySem.Spec PyProof.Rows
section
variable{X:Cx}{F H:Hp}{v:V}{a:Expr}{ta:aC}{p pos:Pos}
noncomputable def isX(K:PySem.W.Frag)(cv:Value)(d:D)(r:Bool):Prop:=match d with
 | .aU φ=>∃C,(φ=.ext λa=>LX a C)/\LW K C/\PySem.W.kitOne K (.ref C) cv=some r
 | d=>∃k,yV d=some k/\PySem.W.kitOne K (.type k) cv=some r
end
section
variable{K:PySem.W.Frag}{mg:Str->Option Value}{x:Str}{C:Addr}
theorem X8(hm:mg x=some (.ref C))(q:PySem.W.excIn K C [.type "ValueError",.type "Exception",.type "BaseException",.type "object"] "ValueError.__new__"=true):Dy K mg x C:=by
 refine⟨λh X G=>⟨"ValueError.__new__","ValueError",_,_,"ValueError",_,_,[.type "ValueError",.type "Exception",.type "BaseException",.type "object"],?_,PySem.F.excBase_ValueError,rfl,PySem.F.excBase_ValueError⟩⟩
 refine⟨hm,?_⟩
 unfold PySem.W.excIn at q
 split at q
 ·rename_i dd cd sl ho
  split at q
  ·rename_i C' bm k0 k1 k2 k3 n k5 hm hs
   simp only[dm,beq_iff_eq,Bool.not_eq_true']at q
   obtain⟨⟨⟨⟨⟨rfl,rfl⟩,M0⟩,ht⟩,az⟩,oR⟩:=q
   obtain⟨nm,bs,mro,ns,qn,hd,sn,sub,ab,col,del⟩:=cd
   dsimp only at hm M0 az oR
   subst hm M0
   have X9:sl=#[k0,k1,k2,k3,some (.builtin "ValueError.__new__"),k5]:=by
    obtain⟨l⟩:=sl
    simp only at hs
    rw[hs]
   subst X9
   exact⟨bm,ns,nm,qn,bs,hd,sn,sub,ab,col,dd,k0,k1,k2,k3,k5,_,X _ _ ho,.of_isNs (PySem.W.isNs_of_in X az),PySem.W.nsMap_none_of_in X az oR,PySem.W.tail_of_in X ht⟩
  ·cases q
 ·cases q
end
theorem Dz{P:Program}{w:World}{X:Cx}:jM (kW P w) X E0:=by
 rintro _ _ _ _ _ _ _ ⟨_,_,_,_,_,_,_,_,_,_,_,_,_,_,z⟩
 exact z.elim
theorem DA{P:Program}{w:World}{K:PySem.W.Frag}{mg:Str->Option Value}{base:Heap}{k:Nat}{f:Addr}{fd:FuncData}{ps:List Str}{sp:oN}(h:aS P w K mg base (kW P w) k f fd ps (wu sp)) :
  aS P w K mg base (kW P w) k f fd ps (bK λds Q=>sp ds Q λ_=>False) :=
 h.imp λvs H Q E ⟨F,ds,Qd,e,r,q,k⟩=>⟨F,ds,Qd,_,e,r,q,k,λ_ _ z=>z.elim⟩
end L3
namespace L3
open PySem L2 PySem.Spec PyProof.Rows
theorem rF{CX:dG}{P:Program}{w:World}{K:PySem.W.Frag}{mg:Str->Option Value}{base:Heap}{N:List Str}{q:Str}{sc:Scope}{f:Addr}{aG:Value}{A:Around}{outer:List Env}{s:Shared}{H:Hp}{E:XK}:(gA CX P w K mg base N q sc f aG A outer s H E).K=K:=rfl
theorem rG(φ:qM):(D.aU φ).pl=true:=rfl
theorem rH(φ:qM):(D.aU φ).sh=.aU φ:=rfl
end L3
namespace L3
open PySem L2 PySem.Spec PyProof.Rows
theorem rJ{X:Cx}:X.eS.K=X.K:=rfl
end L3
namespace L3
open PySem L2 PySem.Spec PyProof.Rows
noncomputable def dD(xs ys:List D):List D:=eY (λx y=>D.tup [x,y]) xs ys
noncomputable def fI(xs:List D):List D:=xs.mapIdx λi x=>D.tup [.int i,x]
theorem DB(xs ys:List D):(dD xs ys).map D.sh=dD (xs.map D.sh) (ys.map D.sh):=by
 unfold dD
 rw[sE,BF]
 congr 1
theorem Ya{xs ys:List D}(h1:xs.all D.pl=true)(h2:ys.all D.pl=true):(dD xs ys).all D.pl=true:=by
 unfold dD
 rw[dn]at h1 h2 ⊢
 intro d hd
 obtain⟨i,hi,e⟩:=fe hd
 rw[Sq]at e
 subst e
 rw[iJ]
 simp only[dh,nr,jG,dm]
 exact⟨h1 _ (cN _),h2 _ (cN _)⟩
theorem Yb(xs:List D):(fI xs).map D.sh=fI (xs.map D.sh):=by
 unfold fI
 apply BD
 intro i
 simp only[cI,BG,Option.map_map]
 cases xs[i]? with
 | none=>rfl
 | some x =>
  show some (D.sh (.tup [.int i,x]))=some (D.tup [.int i,x.sh])
  rw[je];rfl
theorem Yc{xs:List D}(h1:xs.all D.pl=true):(fI xs).all D.pl=true:=by
 unfold fI
 rw[dn]at h1 ⊢
 intro d hd
 obtain⟨i,hi,e⟩:=fe hd
 rw[List.getElem_mapIdx]at e
 subst e
 rw[iJ]
 simp only[dh,nr,jG,dm]
 exact⟨rfl,h1 _ (cN _)⟩
theorem wz(xs:List D):(fI xs).length=xs.length:=by simp[fI]
theorem DC(xs ys:List D):(dD xs ys).length=min xs.length ys.length:=by simp[dD]
section
variable{F H:Hp}{d:D}{v:V}{xs ys:List D}{ws us:List V}{p q:Addr}{K:PySem.W.Frag}
theorem DD(s:S F H [d] [v])(e2:aa F H)(e:gJ d=some xs):∃p ws,v=.ref p/\Rd H p (.lst ws)/\R H H (xs.map D.sh) ws []/\(d.pl=true->xs.all D.pl=true/\Rd F p (.lst ws)/\R F H xs ws []):=by
 cases s with
 | @shr p ws ys _ _ hp r _ =>
  obtain rfl:=cu e
  refine⟨p,ws,rfl,.inl (e2 _ _ hp),?_,λ_=>⟨r.pl,.inl hp,r⟩⟩
  rw[jR r.pl]
  exact r.shared e2 (aa.refl _)
 | @own p ws ys _ _ hp r _ =>
  obtain rfl:=cu e
  exact⟨p,ws,rfl,.inl hp,r.frozen e2,λz=>by simp[fB]at z⟩
 | @fz p o ws ys _ _ hp r _ =>
  obtain rfl:=cu e
  refine⟨p,ws,rfl,.inr ⟨o,e2 _ _ hp⟩,?_,λ_=>⟨r.pl,.inr ⟨o,hp⟩,r⟩⟩
  rw[jR r.pl]
  exact r.shared e2 (aa.refl _)
 | ak _=>cases e
 | bl _=>cases e
 | int _=>cases e
 | str _=>cases e
 | tup _ _ _=>cases e
 | obj _ _ _ _=>cases e
 | aU _ _=>cases e
theorem DE(r:R F H xs ws []){i:Nat}(hi:i<xs.length){x:V}(hx:ws[i]?=some x):R F H [xs[i]] [x] []:=by
 obtain⟨v,A1,e2,r1,sub⟩:=r.get (aQ hi)
 rw[hx]at e2;cases e2
 have:A1=[]:=Sk.mpr λa ha=>by simpa using sub ha
 subst this
 exact r1
theorem M1(hp:Rd F p (.lst ws))(r:R F H xs ws [])(hq:Rd F q (.lst us))(t:R F H ys us [])(hF:Full F H):JD (CL K p q) F (dD xs ys) where
 go:=λi H' hs hi=>by
  rw[DC]at hi
  have l1:=r.length
  have l2:=t.length
  exact⟨ws,us,_,_,.inl (fX hp hs),.inl (fX hq hs),aQ (show i<ws.length by omega),aQ (show i<us.length by omega)⟩
 hE:=λi H' v H2 hs hi zz=>by
  obtain⟨T,x,y,e1,e2,e3,hx,hy⟩:=zz
  subst e1 e3
  have yZ:=hi
  rw[DC]at yZ
  have h1:=DE (r.full hF hs rfl) (show i<xs.length by omega) (hx ws (.inl (fX hp hs)))
  have h2:=DE (t.full hF hs rfl) (show i<ys.length by omega) (hy us (.inl (fX hq hs)))
  have sm:=aa.upd (o:=.tup [x,y]) e2
  refine⟨_,aQ hi,sm,?_⟩
  have eg:(dD xs ys)[i]=.tup [xs[i]'(by omega),ys[i]'(by omega)]:=by simp[dD]
  rw[eg]
  exact R.tup (A:=[]) (B:=[]) bM ((h1.shared (aa.refl _) sm).cons (h2.shared (aa.refl _) sm)) .nil
 stop:=λi H' hs hi=>by
  rw[DC]at hi
  have l1:=r.length
  have l2:=t.length
  exact⟨ws,us,.inl (fX hp hs),.inl (fX hq hs),by omega⟩
theorem M3(hp:Rd F p (.lst ws))(r:R F H xs ws [])(hF:Full F H):JD (CQ K p) F (fI xs) where
 go:=λi H' hs hi=>by
  rw[wz]at hi
  have l1:=r.length
  exact⟨ws,_,.inl (fX hp hs),aQ (show i<ws.length by omega)⟩
 hE:=λi H' v H2 hs hi zz=>by
  obtain⟨T,x,e1,e2,e3,hx⟩:=zz
  subst e1 e3
  have yZ:=hi
  rw[wz]at yZ
  have h1:=DE (r.full hF hs rfl) yZ (hx ws (.inl (fX hp hs)))
  have sm:=aa.upd (o:=.tup [.int i,x]) e2
  refine⟨_,aQ hi,sm,?_⟩
  have eg:(fI xs)[i]=.tup [.int i,xs[i]]:=by simp[fI]
  rw[eg]
  exact R.tup (A:=[]) (B:=[]) bM (.int (h1.shared (aa.refl _) sm)) .nil
 stop:=λi H' hs hi=>by
  rw[wz]at hi
  have l1:=r.length
  exact⟨ws,.inl (fX hp hs),by omega⟩
end
section
variable{X:Cx}{a b:Expr}{ta:cj}{p pos jL:Pos}{elts:List Expr}{x1:Nat}
noncomputable def oS(t:cj):gb:=λδ Q=>t δ λds ag=>match ds with
 | [d1,d2]=>∃xs ys,gJ d1=some xs/\gJ d2=some ys/\Q (d1.pl&&d2.pl) (dD xs ys) ag
 | _=>False
theorem wA(hg:Gl X "zip")(hm:X.mg "zip"=none)(ha:PA X [a,b] (lA ta))(hs:starEach [a,b] X.env=[(false,eval a X.env),(false,eval b X.env)]:=by rfl)(fv:starEach [b] X.env=[(false,eval b X.env)]:=by rfl) :
  PI X (.Tuple elts x1 jL) (.Call (.Name "zip" p) [a,b] [] pos) (lI (oS ta)) :=
 tw (WV hg hm ha hs fv) λσ H Q ⟨B,F,δ,ts,Qd,c,q,k⟩=>⟨B,F,δ,ts,_,c,q,λds ai vs F1 H1 hd f1 h1 c1 s=>by
  match ds,hd,s with
  | [d1,d2],⟨xs,ys,i1,i2,hq⟩,s =>
   obtain⟨v1,cm,rfl,s1,s2⟩:=s.cP
   obtain⟨v2,dw0,rfl,s2,s3⟩:=s2.cP
   cases s3
   have e2:=c1.ext
   have sn:=qN e2
   obtain⟨p1,w1,rfl,r1,t1,u1⟩:=DD s1 e2 i1
   obtain⟨p2,w2,rfl,r2,t2,u2⟩:=DD s2 e2 i2
   refine⟨p1,p2,rfl,⟨w1,.inl r1⟩,⟨w2,.inl r2⟩,k _ _ ai _ _ H1 hq (f1.trans sn) h1 c1.snap ?_ λz=>?_⟩
   ·rw[DB]
    exact M1 r1 t1 r2 t2 (Full.refl _)
   ·rw[dm]at z
    obtain⟨a1,a2,a3⟩:=u1 z.1
    obtain⟨b1,b2,b3⟩:=u2 z.2
    exact⟨Ya a1 b1,M1 (fX a2 sn) (a3.shared sn (aa.refl _)) (fX b2 sn) (b3.shared sn (aa.refl _)) s9⟩⟩
noncomputable def oU(t:cj):gb:=λδ Q=>t δ λds ag=>match ds with
 | [d1]=>∃xs,gJ d1=some xs/\Q d1.pl (fI xs) ag
 | _=>False
theorem DF(hg:Gl X "enumerate")(hm:X.mg "enumerate"=none)(ha:PA X [a] (lA ta))(hs:starEach [a] X.env=[(false,eval a X.env)]:=by rfl) :
  PI X (.Tuple elts x1 jL) (.Call (.Name "enumerate" p) [a] [] pos) (lI (oU ta)) :=
 tw (WY hg hm ha hs) λσ H Q ⟨B,F,δ,ts,Qd,c,q,k⟩=>⟨B,F,δ,ts,_,c,q,λds ai vs F1 H1 hd f1 h1 c1 s=>by
  match ds,hd,s with
  | [d1],⟨xs,i1,hq⟩,s =>
   obtain⟨v1,cm,rfl,s1,s2⟩:=s.cP
   cases s2
   have e2:=c1.ext
   have sn:=qN e2
   obtain⟨p1,w1,rfl,r1,t1,u1⟩:=DD s1 e2 i1
   refine⟨p1,rfl,⟨w1,.inl r1⟩,k _ _ ai _ _ H1 hq (f1.trans sn) h1 c1.snap ?_ λz=>?_⟩
   ·rw[Yb]
    exact M3 r1 t1 (Full.refl _)
   ·obtain⟨a1,a2,a3⟩:=u1 z
    exact⟨Yc a1,M3 (fX a2 sn) (a3.shared sn (aa.refl _)) s9⟩⟩
end
end L3
namespace L3
open PySem L2 PySem.Spec PyProof.Rows
section
variable{X:Cx}{F H:Hp}{e b:Expr}{pos p p2 p3 pr apos bI yW:Pos}{t ti te:aC}{x y:Str}{i j:Nat}
theorem Cp{α:Type}{xs:List α}{k:Nat}{v:α}(h:xs[k]?=some v):dw xs (k:Int)=some v:=by
 unfold dw fV
 have hk:k<xs.length:=(iA.mp h).1
 rw[if_pos (by omega),if_pos (by omega)]
 exact h
theorem cu8{B:Bs}{σ:L2.St}{δ:Dl}{ts:List (D × V)}{l1 l2 ys:List D}{p0:Addr}{ws:List V}(c:aj B F H σ δ ts)(e1:δ[i]?=some (some (.lst true (l1++.lst true ys::l2))))(g1:σ[i]?=some (some (.ref p0)))(g2:H p0=some (.lst ws)) :
  ∃q us,ws[l1.length]?=some (.ref q)/\H q=some (.lst us)/\ys.length=us.length/\S F H [.lst true ys] [.ref q]:=by
 obtain⟨v,ev,sv⟩:=c.look e1
 rw[g1]at ev;cases ev
 cases sv with
 | own hh sx _ =>
  rw[g2]at hh;cases hh
  obtain⟨v2,e2,s3⟩:=sx.get (i:=l1.length) (d:=D.lst true ys) (by rw[su (bD _),BH];rfl)
  have s4:=s3
  cases s3 with
  | own h3 s5 _=>exact⟨_,_,e2,h3,s5.length,s4⟩
end
section
variable{X:Cx}{CX:dG}{k:Nat}{f:Addr}{fd:FuncData}{ps:List Str}{sp:bG}{E:XK}{fn x1 x2 y1 y2:Str}{i1 i2 j1 j2:Nat}{tk:Nat}
 {tp t1 t2 zp dw2 q1 q2 fp dw3 a1 a2 Yd dw4 dw5 cp yW pr apos bI dw6 pos:Pos}
end
end L3
namespace L3
open PySem L2 PySem.Spec PyProof.Rows
theorem aj.Ye{B:Bs}{F H:Hp}{σ:L2.St}{δ:Dl}{ts:List (D × V)}{a b:D}{v:V}(c:aj B F H σ δ ((.tup [a,b],v)::ts)):∃p u w,v=.ref p/\H p=some (.tup [u,w])/\aj B F H σ δ ((a,u)::(b,w)::ts):=by
 obtain⟨A,C,r,s,nd,fr⟩:=c.own
 cases r with
 | @tup p ws xs A1 _ _ B1 hp r1 r2 =>
  obtain⟨u,dA,A2,A3,rfl,rfl,h1,h2⟩:=r1.cP
  obtain⟨w,dw7,A4,A5,rfl,rfl,h3,h4⟩:=h2.cP
  cases h4
  refine⟨p,u,w,rfl,hp,c.ext,c.b1,c.b2,c.b3,A2++(A4++B1),C,h1.cons (h3.cons r2),s,?_,?_⟩
  ·simpa using nd
  ·intro a ha;exact fr a (by simpa using ha)
section
variable{X:Cx}{y1 y2:Str}{i1 i2 tk m:Nat}{t1 t2 tp:Pos}
noncomputable def gM(i1 i2:Nat):e7:=λd δ Q=>match d with
 | .tup [a,b]=>Q ((δ.set i1 (some a)).set i2 (some b))
 | _=>False
theorem oV(hc:X.calm=true)(M4:X.N.Nodup)(m1:X.N[i1]?=some y1)(l1:Loc X.env.scope y1)(m2:X.N[i2]?=some y2)(l2:Loc X.env.scope y2)(hm1:m<=i1:=by decide)(MK:m<=i2:=by decide)
  (f1:X.fn y1=true\/X.env.scope.names.lookup y1=some .local:=by first | exact .inl rfl | exact .inr rfl | assumption) (f2:X.fn y2=true\/X.env.scope.names.lookup y2=some .local:=by first | exact .inl rfl | exact .inr rfl | assumption)
  (Yf:(assignEach [.Name y1 t1,.Name y2 t2] X.env).map (·.2)=assign (.Name y1 t1) X.env::(assignEach [.Name y2 t2] X.env).map (·.2):=by rfl) (Yg:(assignEach [.Name y2 t2] X.env).map (·.2)=assign (.Name y2 t2) X.env::(assignEach [] X.env).map (·.2):=by rfl)
  (hn:(assignEach [.Name y1 t1,.Name y2 t2] X.env).length=2:=by rfl) (cK:(assignEach [.Name y1 t1,.Name y2 t2] X.env).findIdx? (·.1)=none:=by rfl) :
  PG X (.Tuple [.Name y1 t1,.Name y2 t2] tk tp) (lG m (gM i1 i2)) :=
 Ml (TK hc (KD (ym M4 m1 l1 f1) (KD (ym M4 m2 l2 f2) TH Yg) Yf) hn cK) λv σ H Q zz=>by
  obtain⟨B,F,δ,ts,d,Qd,c,q,k⟩:=zz
  obtain⟨a,b,rfl,q⟩:∃a b,d=D.tup [a,b]/\Qd ((δ.set i1 (some a)).set i2 (some b)):=by
   unfold gM at q
   split at q
   ·exact⟨_,_,rfl,q⟩
   ·exact q.elim
  obtain⟨p,u,w,rfl,hp,c2⟩:=c.Ye
  refine⟨p,[u,w],rfl,eR.of hp,rfl,u,[w],rfl,w,[],rfl,rfl,k _ _ q (by simp) (λj hj=>?_) ((c2.store i1).store i2)⟩
  rw[pQ (by omega),pQ (by omega)]
end
open Classical in
theorem eC{α:Type}{sh:Bool}{xs:List D}{ax:List (Str × Nat)}{n m:Nat}{te:aC}{ai:Dl}{Q:D->Dl->Prop}(l:List α)(e g:α->D)(gO:xs.map D.sh=l.map e)(inj:∀a b,e a=e b->a=b)
  (hx:∀a∈l,te ((eB ax n ai).set m (some (e a))) λd _=>d=g a) (dz:(sh&&ax.all (fE ai))=true\/∀a∈l,(g a).fr=true) (hl:l.length<=sizeLine) (hq:Q (.lst true (l.map g)) ai):qP sh xs ax n (gN m) ig te ai Q:=by
 let f:D->D:=λx=>if h:∃a∈l,e a=x then g h.choose else .ak
 have hf:∀a∈l,f (e a)=g a:=λa ha=>by
  have h:∃b∈l,e b=e a:=⟨a,ha,rfl⟩
  show(if h:∃b∈l,e b=e a then g h.choose else .ak)=g a
  rw[dif_pos h]
  exact congrArg g (inj _ _ h.choose_spec.2)
 refine Xl f (λx h=>?_) (dz.imp id λh x hx=>?_) ?_ ?_
 ·rw[gO]at h
  obtain⟨a,ha,rfl⟩:=cx.mp h
  rw[hf a ha];exact hx a ha
 ·rw[gO]at hx
  obtain⟨a,ha,rfl⟩:=cx.mp hx
  rw[hf a ha];exact h a ha
 ·have:=congrArg Bg gO
  simp at this
  omega
 ·rw[gO,cS,show l.map (f ∘ e)=l.map g from vh λa ha=>hf a ha]
  exact hq
noncomputable def sg:Option Int->D
 | none=>.ak
 | some i=>.int i
end L3
namespace L3
open PySem L2 PySem.Spec PyProof.Rows
end L3
namespace L2
open PySem PySem.Spec PyProof.Rows
section
variable{X:Cx}
end
end L2
namespace L3
open PySem L2 PySem.Spec PyProof.Rows
noncomputable abbrev tx(l:List Nat):D:=.str ⟨l.toArray⟩
section
variable{X:Cx}{F H:Hp}{e:Expr}{es:List Expr}{t:aC}{pos p p2 apos bI:Pos}
noncomputable def mx(x:D)(lo hi:Option Int)(Q:D->Prop):Prop:=match x with
 | .lst _ xs=>xs.all D.pl=true/\Q (.lst true (gh xs lo hi))
 | .fz xs=>Q (.lst true (gh xs lo hi))
 | .str z=>z.length<=sizeLine/\Q (tx (gh z.cps.toList lo hi))
 | _=>False
noncomputable def oW(t:aC)(tl th:tF):aC:=λδ Q=>t δ λx ai=>tl ai λl aF=>th aF λu fZ=>mx x l u λd=>Q d fZ
theorem M5{lo hi:Option Expr}{tl th:tF}(he:PE X e (lB t))(hl:PO X lo (lP tl))(hu:PO X hi (lP th)):PE X (.Subscript e (.Slice lo hi none p2) pos) (lE (oW t tl th)) :=
 cQ (Vb (Vp.or W2) he hl hu) λσ H Q ⟨B,F,δ,ts,Qd,c,q,k⟩=>⟨B,F,δ,ts,_,c,q,λx ai v F1 H1 q1 f1 h1 c1 s1=>⟨B,F1,ai,ts,_,c1,q1,λl aF F2 H2 q2 f2 h2 c2=>⟨B,F2,aF,ts,_,c2,q2,λu fZ F3 H3 q3 f3 h3 c3=>by
  have mj:=s1.mono (f2.trans f3) (h2.trans h3)
  unfold mx at q3
  split at q3
  ·obtain⟨p,ws,rfl,h,t⟩:=lR mj c3.ext rfl
   exact .inl ⟨p,ws,rfl,jk h,λr hr=>k _ fZ _ F3 _ q3.2 ((f1.trans f2).trans f3) (((h1.trans h2).trans h3).trans (aa.upd hr)) (c3.nH hr (t.cut _ _) (MP q3.1 _ _))⟩
  ·obtain⟨p,ws,rfl,h,t⟩:=lR mj c3.ext rfl
   cases mj with
   | fz h' r _=>exact .inl ⟨_,_,rfl,jk (.inr ⟨_,c3.ext _ _ h'⟩),λr' hr=>k _ fZ _ F3 _ q3 ((f1.trans f2).trans f3) (((h1.trans h2).trans h3).trans (aa.upd hr)) (c3.nH hr (r.s.cut _ _) (MP r.pl _ _))⟩
  ·cases mj with
   | str _=>exact .inr ⟨_,rfl,q3.1,k _ fZ _ F3 H3 q3.2 ((f1.trans f2).trans f3) ((h1.trans h2).trans h3) (c3.pushS (.str .nil) rfl)⟩
  ·exact q3.elim⟩⟩⟩
noncomputable def Mb:bZ:=λx y Q=>match x,y with
 | .str z,.str w=>∃ch,z=⟨#[ch]⟩/\Q (.bl (decide (ch∈w.cps.toList)))
 | _,_=>False
end
end L3
namespace L3
open PySem L2 PySem.Spec PyProof.Rows
noncomputable def au(l:List Nat):List D:=aD (l.map λ(n:Nat)=>(n:Int))
theorem fJ(l:List Nat):(au l).length=l.length:=by unfold au;rw[jm,bV]
theorem dj(l:List Nat):au l=l.map λ(n:Nat)=>D.int (n:Int):=by unfold au aD;rw[cS];rfl
theorem wB(l:List Nat):(au l).map D.sh=l.map λ(n:Nat)=>D.int (n:Int):=by unfold au;rw[gL];exact dj l
theorem iN(a b:Nat)(h:D.int (a:Int)=D.int (b:Int)):a=b:=by injection h with h;omega
theorem my(l:List Nat):(au l).all D.pl=true:=j8 _
theorem ka(l:List Nat):(au l).map D.sh=au l:=gL _
theorem mB(a b:List Nat):au a++au b=au (a++b):=by unfold au;rw[mw,kD]
theorem Yh{α:Type}(xs:List α)(b:Nat):gh xs none (some (b:Int))=xs.take b:=by
 have:=XQ xs 0 b
 unfold gh at this ⊢
 simpa[HT.cE]using this
theorem Yi{α:Type}(xs:List α)(a:Nat):gh xs (some (a:Int)) none=xs.drop a:=by
 unfold gh
 rw[HT.Co]
 show(xs.drop (min a xs.length)).take (xs.length-min a xs.length)=_
 by_cases h:a<=xs.length
 ·rw[Nat.min_eq_left h,Bz (by rw[xQ];exact bD _)]
 ·rw[Nat.min_eq_right (by omega),List.drop_length,Kh (by omega)];simp
noncomputable def vl(c:List Nat):Nat:=c.foldl (λa c=>2*a+(c-48)) 0
end L3
namespace L2
open PySem PySem.Spec PyProof.Rows
section
variable{X:Cx}{tg l o e:Expr}{tl to te:TE}{apos bI:Pos}
end
end L2
namespace L3
open PySem L2 PySem.Spec PyProof.Rows
section
variable{X:Cx}{F H:Hp}{tg l e:Expr}{te t tb:aC}{apos bI pos:Pos}
variable{o:Expr}
noncomputable def iM:bZ:=λx y Q=>match x,y with
 | .int i,.lst _ xs=>∃ns:List Int,xs=aD ns/\Q (.bl (decide (i∈ns)))
 | _,_=>False
theorem DG:∀{ns:List Int} {ws:List V},S F H (aD ns) ws->ws=ns.map V.int
 | [],_,s=>by cases s;rfl
 | n::ns,_,s=>by
  cases s with
  | int s=>rw[DG s];rfl
theorem Yj:bJ X (compareOp .In) iM :=
 ⟨_,Vs,λ{B F H σ δ ts x y v w Q Qd} c sx sy h k=>by
  unfold iM at h
  split at h
  ·rename_i i o xs
   obtain⟨ns,rfl,q⟩:=h
   obtain⟨p,ws,rfl,e1,s1⟩:=fF sy c.ext
   have e:=DG s1
   subst e
   cases sx
   refine⟨p,_,rfl,.inl (bt.of e1),rfl,by simp[kL],?_⟩
   have ei:vN (.int i) (ns.map V.int)=decide (i∈ns):=by
    unfold vN
    rw[List.any_map,sD,List.any_eq_true,decide_eq_true_iff]
    constructor
    ·rintro⟨x,hx,he⟩
     have:x=i:=by simpa[jO]using he
     rw[<-this];exact hx
    ·intro hx
     exact⟨i,hx,by simp[jO]⟩
   show Q (.bl (if false then _ else vN (.int i) (ns.map V.int))) H
   rw[if_neg (by decide),ei]
   exact k _ _ _ q (aa.refl _) (c.pushS (.bl .nil) rfl)
  ·exact h.elim⟩
end
end L3
namespace L3
open PySem L2 PySem.Spec PyProof.Rows
end L3
namespace L2
open PySem PySem.Spec PyProof.Rows
noncomputable def Tb(ts:List Addr)(H:Hp):Prop:=∀P∈ts,∃ps,H P=some (.cO ps)
structure tG(ts:List Addr)(H:Hp):Prop where
 any:∀b,H b=none\/(∃o xs,H b=some (.bR o (.lst xs)))\/(b∈ts/\H b=some (.cO #[]))
 tab:∀P∈ts,H P=some (.cO #[])
theorem tG.tb{ts:List Addr}{H:Hp}(h:tG ts H):Tb ts H:=λP hP=>⟨#[],h.tab P hP⟩
noncomputable def Bm(mg:Str->Option Value)(base:Heap):Prop:=∃bm o,mg "__builtins__"=some (.ref bm)/\bm≠builtinsNs/\bm≠mainGlobals/\base.get? bm=some o/\o.cls=.type "module"/\o.dict=some builtinsNs/\o.data=.plain
theorem Yk{P:Program}{w:World}{K:PySem.W.Frag}{mg mb:Str->Option Value}{CX:dG}{k:Nat}{fa a:Addr}{fd:FuncData}{x:Str}{sp:Sp}{bj:Shared}{vs:List Value}{ns:List Int}{ts:List Addr}
  (KX:K.In bj.heap) (y0:bj.heap.Ns mainGlobals mg) (hb:bj.heap.Ns builtinsNs mb) (Yl:∀x:Str,x≠"__name__"->mb x=bootBuiltins x) (Ym:bj.heap.NoLimit) (hg:bj.gens=#[])
  (ht:∀P∈ts,bj.heap.get? P=some (PySem.W.tabObj #[])) (DH:∀P∈ts,isCodeTable bj.heap P) (Yn:∀P∈ts,K.lookup P=none)
  (ha:bj.heap.get? a=some { cls:=.type "list",data:=.seq vs.toArray }) (hi:IntsAre vs ns) (hl:ns.length<=sizeLine) (hr:bN k callerA)
  (wC:Bm mg bj.heap) (F:∀base:Heap,K.In base->base.Ns mainGlobals mg->Bm mg base->aS P w K mg base CX k fa fd [x] sp) (Yo:∀(s:Shared) (u:Value),BindsTo s fd ⟨[u],[]⟩ [(x,u)])
  (gB:∀H:Hp,tG ts H->bt K H a (ns.map V.int)->sp [.ref a] H (λv _=>v=.bl true) λ_ _ _=>False)
  (DI:∀H e s',CX [] H bj (λ_ _ _=>False) e s'->False) :
  codeAny (model P w) callerA (.call (.ref fa) ⟨[.ref a],[]⟩) (λr s'=>r=.ok (.ret (.bool true))/\OldK bj.heap s'.heap/\s'.os=bj.os/\AllBare s'.gens) bj:=by
 have rv:=Lj hi
 have Yp:=hi.length
 have nat:a ∉ ts:=λz=>by
  have:=ht a z
  rw[ha]at this
  cases this
 have core:∀H:Hp,tG ts H->bt K H a (ns.map V.int)->bS P w H bj.heap->(∀b,H b≠none->b=a\/b∈ts)->(H a≠none->K.lookup a=none) ->
   codeAny (model P w) callerA (.call (.ref fa) ⟨[.ref a],[]⟩) (λr s'=>r=.ok (.ret (.bool true))/\OldK bj.heap s'.heap/\s'.os=bj.os/\AllBare s'.gens) bj:=by
  intro H hO hS az hA hK
  have DJ:∀{b:Addr} {o:Obj},bj.heap.get? b=some o->H b=none->(jI bj.heap H).get? b=some o:=λe n=>SU e n
  have vM:∀{b:Addr} {o:Obj} {es:Array DictEntry} {ep:Nat},bj.heap.get? b=some o->o.data=.dict es ep->H b=none:=λ{b o es ep} e d=>by
   cases q:H b with
   | none=>rfl
   | some u =>
    rcases hA b (by rw[q];simp)with e' | e'
    ·subst e'
     rw[ha]at e;cases e
     have d':Data.seq vs.toArray _=Data.dict es ep:=d
     cases d'
    ·rw[ht b e']at e;cases e
     have d':Data.fields #[]=Data.dict es ep:=d
     cases d'
  have y6:∀{b:Addr} {m:Str->Option Value},bj.heap.Ns b m->(jI bj.heap H).Ns b m:=λ{b m} ⟨o,es,ep,e,d,r⟩=>⟨o,es,ep,DJ e (vM e d),d,r⟩
  have M6:K.In (jI bj.heap H):=λb o e=>DJ (KX b o e) (by
   cases q:H b with
   | none=>rfl
   | some u =>
    rcases hA b (by rw[q];simp)with e' | e'
    ·subst e'
     rw[hK (by rw[q];simp)]at e;cases e
    ·rw[Yn b e']at e;cases e)
  have Yq:Bm mg (jI bj.heap H):=by
   obtain⟨bm,o,b1,b2,b3,b4,b5,b6,b7⟩:=wC
   refine⟨bm,o,b1,b2,b3,DJ b4 ?_,b5,b6,b7⟩
   cases q:H bm with
   | none=>rfl
   | some u =>
    rcases hA bm (by rw[q];simp)with e' | e'
    ·rw[e',ha]at b4;cases b4
     have d':Data.seq vs.toArray _=Data.plain:=b7
     cases d'
    ·rw[ht bm e']at b4;cases b4
     have d':Data.fields #[]=Data.plain:=b7
     cases d'
  have hM:Mod K mg (jI bj.heap H):=⟨M6,y6 y0,⟨mb,y6 hb,Yl⟩,let⟨mc,h1,h2⟩:=Ym;⟨mc,y6 h1,h2⟩⟩
  have e0:fg P w K mg (jI bj.heap H) callerA [] bj H:=⟨rfl,hM,λb o e=>SV e,Bf (SS _ _),trivial,λb hb=>absurd (show b∈([]:List Addr) from hb) (by simp),az,.of_eq hg⟩
  refine codeAny_mono ((F _ M6 (y6 y0) Yq).run callerA [] bj H ⟨[.ref a],[]⟩ [.ref a] [.ref a] _ _ hr e0 (Yo bj (.ref a)) (.cons rfl .nil) (gB H hO hS)) λr s' h=>?_
  cases r with
  | error e=>exact(DI H e s' h).elim
  | ok fl =>
   cases fl with
   | next=>exact dX h
   | brk=>exact dX h
   | cont=>exact dX h
   | ret u =>
    obtain⟨v,H',os,bare,un,M7,r',q⟩:=h
    have q':v=.bl true:=q
    subst q'
    obtain rfl:u=Bd true:=r'
    have each:∀b o,bj.heap.get? b=some o->asItWas bj.heap s'.heap b o/\∃o',s'.heap.get? b=some o':=λb o e=>by
     cases q:H b with
     | none =>
      have z:=un.keep b o e q (by intro z;exact absurd (show b∈([]:List Addr) from z) (by simp)) (by simp)
      exact⟨.inl z,o,z⟩
     | some u =>
      rcases hO.any b with z | ⟨ob,xs,z⟩ | ⟨fK,z⟩
      ·rw[q]at z;cases z
      ·have z2:=un.eI b ob _ z
       obtain⟨e1,_⟩:=az b _ z
       obtain⟨e2,_⟩:=M7 b _ z2
       rw[e]at e1;cases e1
       exact⟨.inl e2,_,e2⟩
      ·obtain⟨more,z2⟩:=un.dS b _ z
       have e2:=(M7 b _ z2).1
       rw[ht b fK]at e;cases e
       exact⟨.inr (.inl ⟨DH b fK,rfl,#[],more,rfl,e2⟩),_,e2⟩
    exact⟨rfl,⟨λb o e=>(each b o e).1,λb o e=>(each b o e).2⟩,os,bare⟩
 have tok:∀(H:Hp) (b:Addr),b∈ts->cy P w H bj.heap b (.cO #[]):=λH b hb=>⟨ht b hb,trivial,λpos cv q=>by cases q⟩
 cases hk:K.lookup a with
 | some o =>
  have e:=KX a o hk
  rw[ha]at e
  cases e
  refine core (λb=>if b∈ts then some (.cO #[])else none) ⟨λb=>?_,λb hb=>if_pos hb⟩ (.inr ⟨_,vs.toArray,_,hk,rfl,rfl,rfl,by rw[dv,Yp];exact hl,by simpa using rv⟩) (λb u z=>?_) (λb z=>?_) λz=>absurd (if_neg nat) z
  ·by_cases hb:b∈ts
   ·exact .inr (.inr ⟨hb,if_pos hb⟩)
   ·exact .inl (if_neg hb)
  ·by_cases hb:b∈ts
   ·have z':=(if_pos hb).symm.trans z
    cases z'
    exact tok _ b hb
   ·have z':=(if_neg hb).symm.trans z
    cases z'
  ·by_cases hb:b∈ts
   ·exact .inr hb
   ·exact absurd (if_neg hb) z
 | none =>
  refine core (λb=>if b=a then some (.bR { cls:=.type "list",data:=.seq vs.toArray } (.lst (ns.map V.int)))else if b∈ts then some (.cO #[])else none) ⟨λb=>?_,λb hb=>?_⟩ (.inl (.inr ⟨{ cls:=.type "list",data:=.seq vs.toArray },if_pos rfl⟩)) (λb u z=>?_) (λb z=>?_) λ_=>hk
  ·by_cases hb:b=a
   ·exact .inr (.inl ⟨_,_,if_pos hb⟩)
   ·by_cases fK:b∈ts
    ·exact .inr (.inr ⟨fK,(if_neg hb).trans (if_pos fK)⟩)
    ·exact .inl ((if_neg hb).trans (if_neg fK))
  ·have qL:b≠a:=λz=>nat (z ▸ hb)
   exact(if_neg qL).trans (if_pos hb)
  ·by_cases hb:b=a
   ·have z':=(if_pos hb).symm.trans z
    cases z'
    subst hb
    exact⟨ha,by rw[bV];exact hl,vs,_,rv,ha⟩
   ·by_cases fK:b∈ts
    ·have z':=((if_neg hb).trans (if_pos fK)).symm.trans z
     cases z'
     exact tok _ b fK
    ·have z':=((if_neg hb).trans (if_neg fK)).symm.trans z
     cases z'
  ·by_cases hb:b=a
   ·exact .inl hb
   ·by_cases fK:b∈ts
    ·exact .inr fK
    ·exact absurd ((if_neg hb).trans (if_neg fK)) z
theorem Yr{l:PySem.W.OpenLaw}{n k:Nat}{q:Program}{loose:List Str}{XP:(Str->Option Value)->Heap->Prop}{YP:World->Heap->Prop}{d:DefRec}{K:Params->PySem.W.Frag}{CX:World->dG}{sp:World->Sp}{x:Str}{ts:List Addr}
  (hn:l.most=some n) (yr:n<=sizeLine) (vQ:d.params.defaults=[]) (hr:bN k callerA)
  (hY:∀(w:World) (h:Heap),YP w h->(K w.params).In h/\∀P∈ts,h.get? P=some (PySem.W.tabObj #[]))
  (hC:∀(w:World) (h:Heap),(K w.params).In h->∀P∈ts,(K w.params).lookup P=none/\∃c,PySem.W.CodeHd h c P)
  (F:∀(w:World) (mg:Str->Option Value) (fa:Addr) (h:Heap),(K w.params).In h->h.Ns mainGlobals mg->mg d.name=some (.ref fa) ->
   ∃fd:FuncData,(∀(s:Shared) (u:Value),BindsTo s fd ⟨[u],[]⟩ [(x,u)]) /\
    ∀base:Heap,(K w.params).In base->base.Ns mainGlobals mg->Bm mg base->aS l.prog w (K w.params) mg base (CX w) k fa fd [x] (sp w))
  (gB:∀(w:World) (H:Hp) (a:Addr) (ns:List Int),ns.length<=n->tG ts H->bt (K w.params) H a (ns.map V.int)->sp w [.ref a] H (λv _=>v=.bl true) λ_ _ _=>False)
  (DI:∀(w:World) (H:Hp) (s:Shared) (e:Value) (s':Shared),CX w [] H s (λ_ _ _=>False) e s'->False) :
  PySem.W.WalkO q loose XP YP l.row.toRowW d [] (λf vs=>PySem.call f vs):=by
 refine Att.VP hn vQ λw bP bj mg mb fa o pm cd doc a vs ns G Y ho hd cn vR Cw hints hlen hg=>?_
 obtain⟨KX,hT⟩:=hY w _ Y
 obtain⟨fd,hb,hF⟩:=F w mg fa _ KX G.T.g vR
 have DH:∀P∈ts,isCodeTable bj.heap P:=λP hP=>by
  obtain⟨_,c,C⟩:=hC w _ KX P hP
  exact(C.tab (hT P hP)).isCodeTable
 have wC:Bm mg bj.heap:=by
  obtain⟨bm,ob,b1,b2,b3,b4,b5,b6⟩:=G.T.bmain
  refine⟨bm,ob,b1,b2,λq=>?_,b3,b4,b5,b6⟩
  obtain⟨o,es,ep,e,hd,_⟩:=G.T.g
  rw[q,e]at b3;cases b3;rw[hd]at b6;cases b6
 exact Yk KX G.T.g G.T.b G.T.builtins G.T.nolimit hg hT DH (λP hP=>(hC w _ KX P hP).1) Cw hints (dW hlen yr) hr wC hF hb (λH hO hS=>gB w H a ns hlen hO hS) λH e s'=>DI w H bj e s'
end L2
namespace L3
open PySem L2 PySem.Spec PyProof.Rows
noncomputable def wD(ts:List Addr)(sp:Sp):Sp:=λvs H Q E=>Tb ts H/\sp vs H Q E
theorem M8{X:Cx}{pins:List (Addr × Obj)}{σ:L2.St}{H:Hp}{s:Shared}{ts:List Addr}(I:Inv X pins σ H s)(h:Tb ts X.iW):Tb ts H:=λP hP=>by
 obtain⟨ps,e⟩:=h P hP
 obtain⟨m,e2⟩:=I.base.dS P ps e
 exact⟨_,e2⟩
noncomputable def y7(ts:List Addr)(K:PySem.W.Frag):Sp:=λvs H Q _=>∃(a:Addr) (ns:List Int),vs=[.ref a]/\tG ts H/\bt K H a (ns.map V.int)/\ns.length<=63/\∀H',Q (.bl true) H'
theorem Ys{ts:List Addr}{K:PySem.W.Frag}(nl:K.all (λp=>Dt p.2)=true){vs:List V}{H:Hp}{Q:VK}{E:XK}(h:y7 ts K vs H Q E):wD ts (bK MQ) vs H Q E:=by
 obtain⟨a,ns,rfl,hO,hS,hl,q⟩:=h
 have hz:∃o,H a=some (.bR o (.lst (ns.map V.int))):=by
  rcases hS with (hS | hS) | ⟨o,its,n,hk,hc,_⟩
  ·rcases hO.any a with z | ⟨o,xs,z⟩ | ⟨_,z⟩
   ·rw[hS]at z;cases z
   ·rw[hS]at z;cases z
   ·rw[hS]at z;cases z
  ·exact hS
  ·have hm:=XN hk
   have:=dn.mp nl _ hm
   simp[Dt,hc]at this
 obtain⟨o,ho⟩:=hz
 refine⟨hO.tb,H,[.fz (aD ns)],λd=>d=.bl true,aa.refl _,.fz ho (jl ns) .nil,⟨ns,rfl,hl,rfl⟩,λd v F' H' A hd hs hf he h3 r nd fr=>?_⟩
 subst hd
 cases r
 exact q H'
end L3
namespace L2
open PySem PySem.Spec PyProof.Rows
noncomputable def rem(H:Hp)(f c:Addr):Hp:=λb=>if b=f\/b=c then none else H b
noncomputable def mC(H H':Hp)(f c:Addr):Hp:=λb=>if b=f\/b=c then H b else H' b
section
variable{P:Program}{w:World}{H H':Hp}{h:Heap}{a b f c:Addr}{o:HO}{of oc:Obj}
theorem M9:rem H f c f=none:=if_pos (.inl rfl)
theorem y8:rem H f c c=none:=if_pos (.inr rfl)
theorem fL(h1:b≠f)(h2:b≠c):rem H f c b=H b:=if_neg (by simp[h1,h2])
theorem tH(e:H b=none):rem H f c b=none:=by unfold rem;split;rfl;exact e
theorem Na(e:rem H f c b=some o):b≠f/\b≠c/\H b=some o:=by
 unfold rem at e
 split at e
 ·cases e
 ·rename_i n
  exact⟨λz=>n (.inl z),λz=>n (.inr z),e⟩
theorem oX(h1:b≠f)(h2:b≠c):mC H H' f c b=H' b:=if_neg (by simp[h1,h2])
theorem Nb:mC H H' f c f=H f:=if_pos (.inl rfl)
theorem DK:mC H H' f c c=H c:=if_pos (.inr rfl)
theorem cy.rem{φ:Heap->Prop}(x:cy P w H h a o)(ha:a≠f)(hf:H f=some (.ext φ))(hc:H c=some (.own f)\/H c=none)(DL:¬ ∀h',φ h'->∃q,h'.CodeRec (.ref f) q):cy P w (rem H f c) h a o:=by
 have own:∀b,H b=some (.own a)->L2.rem H f c b=some (.own a):=λb e=>by
  rw[fL (λz=>by subst z;rw[hf]at e;cases e) (λz=>by subst z;rcases hc with hc | hc<;>(rw[hc]at e;cases e);exact ha rfl)];exact e
 have tup:∀b xs,H b=some (.tup xs)->L2.rem H f c b=some (.tup xs):=λb xs e=>by
  rw[fL (λz=>by subst z;rw[hf]at e;cases e) (λz=>by subst z;rcases hc with hc | hc<;>(rw[hc]at e;cases e))];exact e
 induction o with
 | lst xs=>exact x
 | tup xs=>exact x
 | dK ao=>exact x
 | dT ao =>
  obtain⟨z,y,xs,r,ob⟩:=x
  exact⟨z,y,xs,Paired.yc r λp q z=>⟨z.1,tup _ _ z.2.1,z.2.2⟩,ob⟩
 | set S n=>exact x
 | ins C dx fs =>
  obtain⟨d,r⟩:=x
  exact⟨own _ d,r⟩
 | own y=>exact x
 | xd fs=>exact x
 | vp lo hi=>exact x
 | bR ob u ih=>obtain⟨e,q⟩:=x;exact⟨e,ih q⟩
 | cO ps =>
  obtain⟨e,t,cc⟩:=x
  refine⟨e,t,λpos cv q=>?_⟩
  obtain⟨d,φ,e1,e2,e3⟩:=cc pos cv q
  refine⟨d,φ,e1,?_,e3⟩
  rw[fL (λz=>?_) (λz=>by subst z;rcases hc with hc | hc<;>(rw[hc]at e2;cases e2))]
  ·exact e2
  ·subst z
   rw[hf]at e2;cases e2
   exact DL e3
 | met f y=>exact x
 | ext φ=>obtain⟨p,r,st⟩:=x;exact⟨p,r,λh1 h2 p1 kk=>st h1 h2 p1 λb o hb q=>kk b o (hb.imp id (own b)) q⟩
theorem Nc{φ:Heap->Prop}{fd:FuncData}(p:φ h)(g:∀h',φ h'->h'.get? f=some of)(hd:of.data=.func fd):¬ ∀h',φ h'->∃q,h'.CodeRec (.ref f) q:=λz=>by
 obtain⟨q,k,ok,vs,t,q1,q2,q3,_⟩:=z h p
 cases q1
 rw[g h p]at q2;cases q2
 rw[hd]at q3;cases q3
theorem bS.lam(ok:bS P w H h)(hf:H f=some (.ext (L3.ib of oc c f))):L3.ib of oc c f h:=(ok f _ hf).1
theorem bS.rem{fd:FuncData}(ok:bS P w H h)(hf:H f=some (.ext (L3.ib of oc c f)))(hc:H c=some (.own f))(hd:of.data=.func fd):bS P w (rem H f c) h:=λb o e =>
 let⟨h1,_,h3⟩:=Na e;(ok b o h3).rem h1 hf (.inl hc) (Nc (ok.lam hf) (λ_ p=>p.1) hd)
end
theorem fg.rem{P:Program}{w:World}{K:PySem.W.Frag}{mg:Str->Option Value}{base:Heap}{A:Around}{outer:List Env}{s:Shared}{H:Hp}{f c:Addr}{of oc:Obj}{fd:FuncData}(e:fg P w K mg base A outer s H)
  (hf:H f=some (.ext (L3.ib of oc c f))) (hc:H c=some (.own f)) (hd:of.data=.func fd):fg P w K mg base A outer s (rem H f c) :=
 ⟨e.frames,e.mod,λb o q=>⟨(e.bs b o q).1,tH (e.bs b o q).2⟩,e.gv,e.eQ,λb hb=>tH (e.g7 b hb),e.az.rem hf hc hd,e.bare⟩
theorem CE.add{P:Program}{w:World}{K:PySem.W.Frag}{mg:Str->Option Value}{base:Heap}{A:Around}{outer:List Env}{s s':Shared}{H:Hp}{f c:Addr}{of oc:Obj}{Q Q':VK}{u:Value}(e0:fg P w K mg base A outer s H)
  (hf:H f=some (.ext (L3.ib of oc c f))) (hc:H c=some (.own f)) (h:CE outer P w (rem H f c) s Q u s') (hQ:∀v H',Q v H'->H' f=none->H' c=none->Q' v (mC H H' f c)):CE outer P w H s Q' u s':=by
 obtain⟨v,H',os,bare,un,az,r,q⟩:=h
 obtain⟨gf,gc⟩:=e0.az.lam hf
 have Nd:∀{b o},H b=some o->b ∉ cT outer:=λ{b o} e z=>by rw[e0.g7 b z]at e;cases e
 have nf:H' f=none:=un.free f _ gf M9 (by simp)
 have nc:H' c=none:=un.free c _ gc y8 (by simp)
 have kf:=un.keep f _ gf M9 (Nd hf) (by simp)
 have kc:=un.keep c _ gc y8 (Nd hc) (by simp)
 refine⟨v,mC H H' f c,os,bare,⟨λb o e n=>un.keep b o e (tH n),λb o e n=>un.slot b o e (tH n),λb o e n x=>?_,un.there,λb xs e=>?_,λb ob xs e=>?_,λb ps e=>?_⟩,λb o e=>?_,r,hQ v H' q nf nc⟩
 ·rw[oX (λz=>by subst z;rw[hf]at n;cases n) (λz=>by subst z;rw[hc]at n;cases n)]
  exact un.free b o e (tH n) x
 ·have n1:b≠f:=λz=>by subst z;rw[hf]at e;cases e
  have n2:b≠c:=λz=>by subst z;rw[hc]at e;cases e
  rw[oX n1 n2]
  exact un.eP b xs (by rw[fL n1 n2];exact e)
 ·have n1:b≠f:=λz=>by subst z;rw[hf]at e;cases e
  have n2:b≠c:=λz=>by subst z;rw[hc]at e;cases e
  rw[oX n1 n2]
  exact un.eI b ob xs (by rw[fL n1 n2];exact e)
 ·have n1:b≠f:=λz=>by subst z;rw[hf]at e;cases e
  have n2:b≠c:=λz=>by subst z;rw[hc]at e;cases e
  rw[oX n1 n2]
  exact un.dS b ps (by rw[fL n1 n2];exact e)
 ·by_cases z:b=f
  ·subst z
   rw[Nb,hf]at e;cases e
   refine⟨⟨kf,kc⟩,⟨_,kf⟩,λh1 h2 p kk=>⟨kk b _ (.inl rfl) p.1,kk c _ (.inr ?_) p.2⟩⟩
   rw[DK];exact hc
  ·by_cases z2:b=c
   ·subst z2
    rw[DK,hc]at e;cases e
    exact⟨_,kc⟩
   ·rw[oX z z2]at e
    have up:∀{b' o'},H' b'=some o'->mC H H' f c b'=some o':=λ{b' o'} q=>by
     rw[oX (λz=>by subst z;rw[nf]at q;cases q) (λz=>by subst z;rw[nc]at q;cases q)];exact q
    exact(az b o e).gu (λ_ _ _ q=>q) (λ_ q=>up q) (λ_ _ q=>up q) λ_ _ q=>up q
theorem Yt{prog:Program}{w:World}{A:Around}{R:Result->Shared->Prop}{s:Shared}{a:Addr}{args:Args}{o:Obj}{fd:FuncData}{body:Expr}{q:Str}(Yu:A.depth<recursionLimit)
  (ho:s.heap.get? a=some o)
  (vx:o.data=.func fd) (Yv:fd.scope.isCoroutine=false) (Yw:fd.scope.isGenerator=false) (fU:fd.body=.expr body) (cn:s.heap.CodeRec fd.code q)
  (h:wpAny (model prog w) A.in1 (bindArgs fd args) (λbinds bj =>
   wpAny (model prog w) A.in1 (newFunctionEnv fd.scope fd.globals fd.closure binds (q++".<locals>.") (some a) fd.code none fd.builtins)
    (λenv iZ=>iZ.heap.NoLimit/\codeAny (model prog w) A (.expr body env) R iZ) (λe s'=>R (.error e) s') bj) (λe s'=>R (.error e) s') s) :
  codeAny (model prog w) A (.call (.ref a) args) R s:=by
 refine codeAny_of_tree ?_
 show wpAny _ A.in1 (callAny (.ref a) args) _ _ s
 simp only[callAny]
 refine wpAny_bind (wpAny_load ho ?_)
 obtain⟨c,oc,vs,tq,hc,gw,DM,hq⟩:=cn
 simp only[vx,callFunction,Yv,Yw,fU,hc]
 rw[hc]at h
 refine wpAny_bind (m:=field (.ref c) 1) (wpAny_field gw DM hq (wpAny_bind (wpAny_pure ?_)))
 exact wpAny_bind (wpAny_mono h (λbinds bj y9=>wpAny_bind (wpAny_mono y9 (λenv iZ Nf=>wpAny_bind (wpAny_enterFrame Nf.1 Yu
  (wpAny_pure (And.intro rfl Nf.2)))) λ_ _ h'=>h')) λ_ _ h'=>h')
structure Ng(p1 p2 x:Str)(sc:Scope):Prop where
 kind:sc.kind=.function
 co:sc.isCoroutine=false
 gen:sc.isGenerator=false
 nd:[p1,p2,x].Nodup
 l1:sc.names.lookup p1=some .local
 l2:sc.names.lookup p2=some .local
 Nh:∀y∈sc.names,y.2≠.cell
 only:∀y∈sc.names,y.2=.free->y.1=x
 lx:sc.names.lookup x=some .free
noncomputable def rK(CX:dG)(P:Program)(w:World)(K:PySem.W.Frag)(mg:Str->Option Value)(base:Heap)(N:List Str)(qual:Str)(scope:Scope)(f:Addr)(cd:Value)(cl:List (Str × Addr))(A:Around)(outer:List Env)(s:Shared)(H:Hp)(E:XK):Cx where
 prog:=P
 w:=w
 K:=K
 mg:=mg
 base:=base
 A:=A.deeper (PySem.W.envX qual scope s.heap.objs.size f cd cl)
 N:=N
 bP:=s
 iW:=H
 env:=PySem.W.envX qual scope s.heap.objs.size f cd cl
 outer:=outer
 stack:=PySem.W.envX qual scope s.heap.objs.size f cd cl::outer
 ex:=[]
 calm:=true
 fn:=λ_=>false
 pn:=[]
 xe:=λe s'=>wpAny (model P w) (A.deeper (PySem.W.envX qual scope s.heap.objs.size f cd cl)) (leaving (PySem.W.envX qual scope s.heap.objs.size f cd cl) e) (λ_ qF=>CX outer H s E e qF) (λe' qF=>CX outer H s E e' qF) s'
theorem Yx{CX:dG}{P:Program}{w:World}{K:PySem.W.Frag}{mg:Str->Option Value}{base:Heap}{p1 p2 x qn q:Str}{params:Arguments}{body:Expr}{scope:Scope}{pm gP:Value}{f c c':Addr}{k:Nat}{A:Around}{outer:List Env}{s:Shared}{H:Hp}{E:XK}
  {u1 u2 uc:Value} {v1 v2 vc:V} {Q:VK} {t:TE} {args:Args} (S:Ng p1 p2 x scope) (e0:fg P w K mg base A outer s H) (hr:bN (k+1) A)
  (hf:s.heap.get? f=some (PySem.W.kla_obj "<lambda>" qn params body scope [(x,c)] pm c' gP)) (hc:s.heap.IsCell c (some uc)) (rc:RelV vc uc) (hH:H c=none) (cn:s.heap.CodeRec (.ref c') q)
  (hb:bindArgs (PySem.W.kla_fn "<lambda>" qn params body scope [(x,c)] pm (.ref c') gP) args=pure [(p1,u1),(p2,u2)]) (r1:RelV v1 u1) (r2:RelV v2 u2)
  (ht:PE (rK CX P w K mg base [p1,p2,x] q scope f (.ref c') [(x,c)] A outer s H E) body t) (h:t [some v1,some v2,some vc] H Q) :
  codeAny (model P w) A (.call (.ref f) args) (CR CX outer P w H s Q E) s:=by
 have lim:s.heap.NoLimit:=e0.mod.nolimit.keeps λb o e=>(e0.bs b o e).1
 refine Yt hr.depth hf rfl S.co S.gen rfl cn ?_
 rw[hb]
 have Yy:∀y∈[(p1,u1),(p2,u2)],scope.names.lookup y.1=some .local:=λy hy=>by
  simp at hy
  rcases hy with rfl | rfl
  ·exact S.l1
  ·exact S.l2
 refine wpAny_pure (wpAny_newFunctionEnv S.Nh Yy (λy9 y0 Ni=>⟨lim.fresh _ Ni,?_⟩) S.kind)
 show codeAny _ _ (.expr body (PySem.W.envX q scope s.heap.objs.size f (.ref c') [(x,c)])) _ _
 have hk:∀b o,s.heap.get? b=some o->y9.get? b=some o:=λb o e=>Ni.extBut b o (dU (bH e)) (dP _ e)
 have eD:p1≠p2/\p1≠x/\p2≠x:=by have:=S.nd;simp at this;exact⟨this.1.1,this.1.2,this.2⟩
 have look:∀y d,([(x,c)]:List (Str × Addr)).lookup y=some d->y=x/\d=c:=λy d e=>by
  rw[eV]at e
  split at e
  ·rename_i z;exact⟨beq_iff_eq.mp z,(cu e).symm⟩
  ·cases e
 have I:Inv (rK CX P w K mg base [p1,p2,x] q scope f (.ref c') [(x,c)] A outer s H E) [] [some v1,some v2,some vc] H { s with heap:=y9,toks:=s.toks+[(p1,u1),(p2,u2)].length }:=by
  refine⟨⟨e0.mod,S.kind,rfl,rfl,bD _,λy z d h1 h2=>?_,λy hy=>?_,λy d z _=>absurd z (by simp[rK]),λ_=>hr.hd,Around.frames_deeper e0.frames,.inr ⟨rfl,rfl⟩,λb z=>absurd z (by simp[rK]),e0.bs,e0.gv,λb _ _=>by simp[rK],λb z=>absurd z (by simp[rK]),e0.eQ,e0.g7⟩,
   rfl,e0.bare,Un.kept hk,⟨_,y0,λi y v h1 h2 h3=>?_⟩,λy d h=>?_,e0.az.fresh (bD _),λy d h=>?_,λp hp=>absurd (show p∈([]:List (Addr × Obj)) from hp) (by simp),e0.az.kept hk,rfl⟩
  ·exact(look y d h1).1.trans (look z d h2).1.symm
  ·have hy:scope.names.lookup y=some .cell\/scope.names.lookup y=some .free:=hy
   rcases hy with hy | hy
   ·exact absurd rfl (S.Nh _ (PySem.mem_of_lookup hy))
   ·obtain rfl:y=x:=S.only _ (PySem.mem_of_lookup hy) rfl
    exact⟨c,by show([(y,c)]:List (Str × Addr)).lookup y=_;rw[eV,beq_self_eq_true]⟩
  ·match i,h1,h2 with
   | 0,h1,h2 =>
    cases h1;cases h2
    exact⟨u1,r1,.inl ⟨S.l1,by
     show([(p1,u1),(p2,u2)]:List (Str × Value)).reverse.lookup p1=_
     simp[eV,beq_eq_false_iff_ne.mpr eD.1]⟩⟩
   | 1,h1,h2 =>
    cases h1;cases h2
    exact⟨u2,r2,.inl ⟨S.l2,by
     show([(p1,u1),(p2,u2)]:List (Str × Value)).reverse.lookup p2=_
     simp[eV]⟩⟩
   | 2,h1,h2 =>
    cases h1;cases h2
    exact⟨uc,rc,.inr ⟨.inr S.lx,c,by show([(x,c)]:List (Str × Addr)).lookup x=_;rw[eV,beq_self_eq_true],hc.keeps hk⟩⟩
   | n+3,h1,h2=>cases h2
  ·obtain⟨rfl,rfl⟩:=look y d h
   exact⟨_,hc.keeps hk⟩
  ·obtain⟨rfl,rfl⟩:=look y d h
   exact hH
 refine PySem.W.kla_codeExpr (wpAny_mono (ht [] _ _ H _ I h) (λu s' hs=>?_) λe s' hs=>hs)
 obtain⟨v,H',J,rv,q⟩:=hs
 exact⟨v,H',J.os,J.bare,J.base,J.az,rv,q⟩
end L2
namespace L3
open PySem L2 PySem.Spec PyProof.Rows
theorem aa.mC{H H':Hp}{f c:Addr}{o1 o2:HO}(h:aa (rem H f c) H')(h1:H f=some o1)(n1:gG o1=true)(h2:H c=some o2)(n2:gG o2=true):aa H (mC H H' f c) where
 get b o e n:=by
  by_cases z:b=f
  ·rw[z,Nb,<- z];exact e
  ·by_cases z2:b=c
   ·rw[z2,DK,<- z2];exact e
   ·rw[oX z z2];exact h.get b o (by rw[fL z z2];exact e) n
 tb b ps e:=by
  have z:b≠f:=λz=>by subst z;rw[h1]at e;cases e;cases n1
  have z2:b≠c:=λz=>by subst z;rw[h2]at e;cases e;cases n2
  rw[oX z z2]
  exact h.tb b ps (by rw[fL z z2];exact e)
noncomputable abbrev tI:=Int->Int->(Int->Prop)->Prop
structure wF(P:Program)(w:World)(K:PySem.W.Frag)(mg:Str->Option Value)(base:Heap)(n:Nat)(of oc:Obj)(c k:Addr)(sp:tI):Prop where
 fn:∃o1 od fd sl,of=⟨o1,od,.func fd,sl⟩
 run:∀(A:Around) (outer:List Env) (s:Shared) (H:Hp) (f:Addr) (t u:Tok) (i j:Int) (Qd:Int->Prop),bN n A->fg P w K mg base A outer s H->s.heap.get? f=some of->s.heap.get? c=some oc->H c=none->(∃q,s.heap.CodeRec (.ref k) q)->sp i j Qd ->
  codeAny (model P w) A (.call (.ref f) ⟨[.int i t,.int j u],[]⟩) (CR bc outer P w H s (λv H'=>∃r,v=.int r/\Qd r/\aa H H') (λ_ _ _=>False)) s
noncomputable def oY(L:Obj->Obj->Addr->Addr->tI->Prop)(i:Nat)(ta:cj):aC:=λδ Q=>∃of oc c k sp,δ[i]?=some (some (.aU (.lam of oc c k)))/\L of oc c k sp/\ta δ λds ag=>∃a b,ds=[.int a,.int b]/\sp a b λr=>Q (.int r) ag
theorem Nj{X:Cx}{n i:Nat}{x:Str}{p pos:Pos}{e1 e2:Expr}{ta:cj}(hN:X.N[i]?=some x)(hv:jJ X.env.scope x)(hr:bN n X.A)(ha:PA X [e1,e2] (lA ta))
  (hd:(x==("__debug__":Str))=false:=by decide) (cn:(x==("__classdict__":Str))=false:=by decide) (he:starEach [e1,e2] X.env=(false,eval e1 X.env)::starEach [e2] X.env:=by rfl) (bO:(backTo pos (starEach [e2] X.env)).any (·.1)=false:=by rfl) :
  PE X (.Call (.Name x p) [e1,e2] [] pos) (lE (oY (wF X.prog X.w X.K X.mg X.base n) i ta)):=by
 intro pins s σ H Q I zz
 obtain⟨B,F,δ,ts,Qd,c,⟨of,oc,cc,k,sp,ed,L,q⟩,kk⟩:=zz
 obtain⟨v,ev,sv⟩:=c.look ed
 obtain⟨f,rfl,lam⟩:∃f,v=.ref f/\fW H f of oc cc k:=by
  cases sv with
  | aU h _=>exact⟨_,rfl,h⟩
 refine wpAny_Call_Name_kw (aE (qt hN hv hd cn pins s σ H (λv' H'=>v'=.ref f/\H'=H) I ⟨_,ev,rfl,rfl⟩) λu s1 zz=>?_)
 obtain⟨v',H',I1,r1,e1,e2⟩:=zz
 subst e1 e2
 obtain rfl:u=.ref f:=r1
 have fnAt:∀{H1:Hp} {s2:Shared},Inv X pins σ H1 s2->fW H1 f of oc cc k->PySem.W.FnAt f s2.heap:=λ{H1 s2} J l=>by
  obtain⟨o1,od,fd,sl,e⟩:=L.fn
  exact⟨o1,od,fd,sl,by rw[<-e];exact(J.az.lam l.fn).1⟩
 refine PySem.W.callWith_F (fnAt I1 lam) (aE (ha pos pins s1 σ H' (λvs H2=>∃a b ag F',vs=[.int a,.int b]/\(sp a b λr=>Qd (.int r) ag)/\aa F F'/\aa H' H2/\aj B F' H2 σ ag ts) I1
  ⟨B,F,δ,ts,_,c,q,λds ag vs F' H2 ⟨a,b,Yz,q2⟩ f1 h1 c1 s1=>?_⟩) λus s2 ⟨vs,H2,I2,r2,a,b,ag,F',YA,q2,f1,h1,c1⟩=>⟨fnAt I2 ((show iH H' f (.lam of oc cc k) from lam).mono λa o e _ t=>h1.get a o e t),?_⟩) he bO
 ·subst Yz
  refine⟨a,b,ag,F',?_,q2,f1,h1,c1⟩
  cases s1 with
  | int s1=>cases s1 with
   | int s1=>cases s1;rfl
 ·subst YA
  have oZ:fW H2 f of oc cc k:=(show iH H' f (.lam of oc cc k) from lam).mono λa o e _ t=>h1.get a o e t
  obtain⟨o1,od,fd,sl,eof⟩:=L.fn
  have YB:of.data=.func fd:=by rw[eof]
  obtain⟨gf,gc⟩:=I2.az.lam oZ.fn
  obtain⟨ψ,YC,wG⟩:=oZ.yF
  obtain⟨u1,u2,t1,t2,rfl⟩:∃(u1 u2:Unit) (t1 t2:Tok),us=[.int a t1,.int b t2]:=by
   cases r2 with
   | cons ra r2=>cases r2 with
    | cons rb r2 =>
     cases r2
     obtain⟨t1,rfl⟩:=ra
     obtain⟨t2,rfl⟩:=rb
     exact⟨(),(),t1,t2,rfl⟩
  refine wpAny_call (codeAny_mono (L.run X.A X.stack s2 (rem H2 f cc) f t1 t2 a b _ hr (I2.vL.rem oZ.fn oZ.cell YB) gf gc y8 (wG _ (I2.az k _ YC).1) q2) λr s' hq=>?_)
  cases r with
  | error e=>exact hq.elim
  | ok fl =>
   cases fl with
   | ret u =>
    refine I2.after (CE.add I2.vL oZ.fn oZ.cell hq (Q':=Q) ?_)
    rintro v H3 ⟨r,rfl,YD,hs⟩ nf nc
    have sm:=hs.mC oZ.fn rfl oZ.cell rfl
    exact kk _ ag _ F' _ YD f1 (h1.trans sm) ((c1.grow sm).pushS (.int .nil) rfl)
   | next=>exact dX hq
   | brk=>exact dX hq
   | cont=>exact dX hq
end L3
namespace L2
open PySem PySem.Spec PyProof.Rows
theorem YE{p:Pos}{c:Value}(l:List Value)(h:TriplesOk l):TriplesOk (l++[rawInt p.line,rawInt p.col,c]):=by
 fun_induction TriplesOk l with
 | case1=>simp[TriplesOk,rawInt]
 | case2 a b d e f cA ih=>exact ih h
 | case3=>exact h.elim
theorem YF{p q:Pos}{c cv:Value}(l:List Value)(h:TriplesOk l)(e:codeAmong q (l++[rawInt p.line,rawInt p.col,c])=some cv):codeAmong q l=some cv\/cv=c:=by
 fun_induction TriplesOk l with
 | case1 =>
  simp only[ni,rawInt,codeAmong]at e
  split at e
  ·exact .inr (cu e).symm
  ·cases e
 | case2 a b d e' f cA ih =>
  simp only[nt,codeAmong]at e ⊢
  split at e
  ·rename_i z;rw[if_pos z];exact .inl e
  ·rename_i z;rw[if_neg z];exact ih h e
 | case3=>exact h.elim
noncomputable def mD(f:Addr)(o:Obj):Heap->Prop:=λh=>h.get? f=some o
noncomputable def YG(P c:Addr)(x:Str)(params:Arguments)(body:Expr)(scope:Scope):TE:=λ_ H Q=>(∃ps,H P=some (.cO ps)) /\
 ∀f k qn pm gP H',H f=none->H' f=some (.ext (mD f (PySem.W.kla_obj "<lambda>" qn params body scope [(x,c)] pm k gP)))->L3.CT H' k->k≠f->L3.aa H H'->(∀a ws,H' a=some (.lst ws)->H a=some (.lst ws))->Q (.ref f) H'
theorem Nk{X:Cx}{P c cc:Addr}{x:Str}{params:Arguments}{body:Expr}{scope:Scope}{pos:Pos}(fj:closureFor scope X.env=pure [(x,c)])(za:X.env.code=.ref cc)(hK:PySem.W.codeHdIn X.K cc P=true)(wC:Bm X.mg X.base)
  (YH:defaultsOf params X.env=([],[]):=by rfl):PE X (.Lambda params body scope pos) (YG P c x params body scope):=by
 intro pins s σ H Q I zz
 obtain⟨⟨ps,hP⟩,q⟩:=zz
 obtain⟨bm,ob,b1,b2,b3,b4,b5,b6,b7⟩:=wC
 have C:=PySem.W.codeHd_of_K I.cJ hK
 obtain⟨oP,zb,codes⟩:=I.az P _ hP
 have hg:=I.mod.glob.keeps I.bk
 have Nl:∀{b o},X.base.get? b=some o->b≠P:=λ{b o} e z=>by
  have:=(I.bs b o e).2
  rw[z,hP]at this;cases this
 have YI:mainGlobals≠P:=by
  obtain⟨o,es,ep,e,_⟩:=I.mod.glob
  exact Nl e
 have Nm:s.heap.BuiltinsAt X.mg P:=⟨bm,ob,b1,b2,b3,Nl b4,I.bk _ _ b4,b5,b6,b7⟩
 refine PySem.W.kla_eval YH ?_
 have fresh:∀{b:Addr},s.heap.objs.size<=b->H b=none:=λ{b} h=>I.az.fresh h
 cases DN:codeAmong pos ps.toList with
 | none =>
  refine PySem.W.kla_makeFunction (mg:=X.mg) fj I.ok.glob hg za C oP zb DN YI Nm λk gP h' tk hx wH eZ YJ Nn=>?_
  have DO:P<s.heap.objs.size:=bH oP
  have YK:k≠P:=λz=>by rw[z]at wH;exact absurd DO (vi.mpr wH)
  have rL:s.heap.objs.size<=h'.objs.size:=dW wH (sk eZ)
  have YL:h'.objs.size≠P:=λz=>by rw[<-z]at DO;exact absurd DO (vi.mpr rL)
  have Np:k≠h'.objs.size:=dU eZ
  generalize Nq:PySem.W.kla_obj "<lambda>" (X.env.qual++"<lambda>") params body scope [(x,c)] ((X.mg "__name__").getD .none) k gP=obj
  have dz:obj.isFreed=false:=by rw[<-Nq];rfl
  have wI:∀b,b≠P->b≠k->b≠h'.objs.size->upd (upd (upd H P (.cO (ps++#[rawInt pos.line,rawInt pos.col,.ref k]))) k (.ext λh=>∃q,h.CodeRec (.ref k) q)) h'.objs.size (.ext (mD h'.objs.size obj)) b=H b:=λb n1 n2 n3=>by
   rw[aN n3,aN n2,aN n1]
  have zc:upd (upd (upd H P (.cO (ps++#[rawInt pos.line,rawInt pos.col,.ref k]))) k (.ext λh=>∃q,h.CodeRec (.ref k) q)) h'.objs.size (.ext (mD h'.objs.size obj)) h'.objs.size=some (.ext (mD h'.objs.size obj)):=bM
  have atK:upd (upd (upd H P (.cO (ps++#[rawInt pos.line,rawInt pos.col,.ref k]))) k (.ext λh=>∃q,h.CodeRec (.ref k) q)) h'.objs.size (.ext (mD h'.objs.size obj)) k=some (.ext λh=>∃q,h.CodeRec (.ref k) q):=by rw[aN Np,bM]
  have zd:upd (upd (upd H P (.cO (ps++#[rawInt pos.line,rawInt pos.col,.ref k]))) k (.ext λh=>∃q,h.CodeRec (.ref k) q)) h'.objs.size (.ext (mD h'.objs.size obj)) P=some (.cO (ps++#[rawInt pos.line,rawInt pos.col,.ref k])):=by rw[aN YL.symm,aN YK.symm,bM]
  generalize hHn:upd (upd (upd H P (.cO (ps++#[rawInt pos.line,rawInt pos.col,.ref k]))) k (.ext λh=>∃q,h.CodeRec (.ref k) q)) h'.objs.size (.ext (mD h'.objs.size obj))=Hn at wI zc atK zd
  have old:∀{b o},H b=some o->b≠P->Hn b=some o:=λ{b o} e n=>by
   have hb:b<s.heap.objs.size:=I.az.lt e
   rw[wI b n (λz=>absurd hb (vi.mpr (z ▸ wH))) (λz=>absurd hb (vi.mpr (z ▸ rL)))];exact e
  have kept:∀b o,b≠P->s.heap.get? b=some o->(h'.push obj).get? b=some o:=λb o n e=>dP _ (hx b o n e)
  have un:Un X.fs [] H Hn s.heap (h'.push obj):=by
   refine⟨λb o e n _ _=>kept b o (λz=>by rw[z,hP]at n;cases n) e,λb o e n _ _=>⟨o.slots,kept b o (λz=>by rw[z,hP]at n;cases n) e⟩,λb o e n _=>?_,λb o e _=>?_,λb xs e=>old e (λz=>by rw[z,hP]at e;cases e),λb ob xs e=>old e (λz=>by rw[z,hP]at e;cases e),λb Nr e=>?_⟩
   ·have hb:=bH e
    rw[wI b (λz=>by rw[z,hP]at n;cases n) (λz=>absurd hb (vi.mpr (z ▸ wH))) (λz=>absurd hb (vi.mpr (z ▸ rL)))];exact n
   ·by_cases z:b=P
    ·rw[z];exact⟨_,dP _ Nn⟩
    ·exact⟨o,kept b o z e⟩
   ·by_cases z:b=P
    ·subst z
     rw[hP]at e;cases e
     exact⟨_,zd⟩
    ·exact⟨#[],by rw[old e z];simp⟩
  have az:bS X.prog X.w Hn (h'.push obj):=λb o e=>by
   by_cases z1:b=h'.objs.size
   ·subst z1
    rw[zc]at e;cases e
    exact⟨fR _ dz,⟨_,fR _ dz⟩,λh1 h2 p kk=>kk _ _ (.inl rfl) p⟩
   ·by_cases z2:b=k
    ·subst z2
     rw[atK]at e;cases e
     have hr:=YJ.push obj
     refine⟨⟨_,hr⟩,?_,λh1 h2 ⟨q,c1,o1,vs,t,e1,e2,r⟩ kk=>?_⟩
     ·obtain⟨c1,o1,vs,t,e1,e2,_⟩:=hr
      cases e1
      exact⟨o1,e2⟩
     ·cases e1
      exact⟨q,_,o1,vs,t,rfl,kk _ _ (.inl rfl) e2,r⟩
    ·by_cases z3:b=P
     ·subst z3
      rw[zd]at e;cases e
      refine⟨dP _ Nn,by rw[Sr];exact YE _ zb,λp' cv e'=>?_⟩
      rw[Sr]at e'
      rcases YF _ zb e' with e' | e'
      ·obtain⟨d,φ,e1,e2,e3⟩:=codes p' cv e'
       exact⟨d,φ,e1,old e2 (λz=>by rw[z,hP]at e2;cases e2),e3⟩
      ·exact⟨k,_,e',atK,λh' p=>p⟩
     ·rw[wI b z3 z2 z1]at e
      have nP:∀{b' o'},H b'=some o'->(∀ps,o'≠.cO ps)->b'≠P:=λ{b' o'} e n z=>by rw[z,hP]at e;cases e;exact n _ rfl
      refine(I.az b o e).gu (λb' u ze e'=>kept b' u ?_ e') (λb' e'=>old e' (nP e' (λps z=>by cases z))) (λb' xs e'=>old e' (nP e' (λps z=>by cases z))) λb' φ e'=>old e' (nP e' (λps z=>by cases z))
      rcases ze with rfl | ze
      ·exact z3
      ·exact nP ze (λps z=>by cases z)
  refine⟨.ref h'.objs.size,Hn,I.un un az,rfl,q _ k _ _ _ _ (fresh rL) (by rw[Nq];exact zc) ⟨_,atK,λh p=>p⟩ Np ⟨λb o e n=>old e (λz=>by rw[z,hP]at e;cases e;cases n),λb Nr e=>?_⟩ λa ws e=>?_⟩
  ·exact un.dS b Nr e
  ·by_cases z1:a=h'.objs.size
   ·subst z1;rw[zc]at e;cases e
   ·by_cases z2:a=k
    ·subst z2;rw[atK]at e;cases e
    ·by_cases z3:a=P
     ·subst z3;rw[zd]at e;cases e
     ·rw[wI a z3 z2 z1]at e;exact e
 | some cv =>
  obtain⟨k,φ,rfl,hk,DL⟩:=codes pos cv DN
  refine PySem.W.kla_makeFunctionHit (mg:=X.mg) fj I.ok.glob hg za C oP zb DN Nm λgP h' tk hx rL=>?_
  have hf:=fresh rL
  refine⟨.ref h'.objs.size,upd H h'.objs.size (.ext (mD h'.objs.size (PySem.W.kla_obj "<lambda>" (X.env.qual++"<lambda>") params body scope [(x,c)] ((X.mg "__name__").getD .none) k gP))),I.laid (λb u e=>dP _ (hx b u e)) rL ?_,rfl,q _ k (X.env.qual++"<lambda>") ((X.mg "__name__").getD .none) gP _ hf bM ⟨φ,?_,DL⟩ (dR hk hf) (L3.aa.of λb o e=>?_) λa ws e=>?_⟩
  ·exact⟨fR _ rfl,⟨_,fR _ rfl⟩,λh1 h2 p kk=>kk _ _ (.inl rfl) p⟩
  ·rw[aN (dR hk hf)];exact hk
  ·rw[aN (dR e hf)];exact e
  ·by_cases z:a=h'.objs.size
   ·subst z;rw[bM]at e;cases e
   ·rw[aN z]at e;exact e
end L2
namespace L2
open PySem PySem.Spec PyProof.Rows
structure zf(K:PySem.W.Frag)(C:Addr)(m:Str)(f:Addr):Prop where
 ga:PySem.W.specialIn K (.ref C) "__getattribute__"=some (some (.builtin "type.__getattribute__"))
 rd:PySem.W.readsIn K C (.type "type")=true
 at_:PySem.W.findCls K (.ref C) (.type "type") m=some (.val (.ref f))
 kp:PySem.W.keepIn K (.ref f)=true
section
variable{X:Cx}{CX:dG}{k:Nat}{f C:Addr}{fd:FuncData}{ps:List Str}{sp:Sp}{E:XK}{x m:Str}{p pos apos:Pos}{e o:Expr}{es:List Expr}{ta:TE}{t:TA}
theorem YM{pins:List (Addr × Obj)}{σ:St}{H:Hp}{s:Shared}{pl:Sem Bool}{A:Around}{E':Value->Shared->Prop}{Q:Value × List Value->Shared->Prop}(I:Inv X pins σ H s)(M:zf X.K C m f)(h:∀s',Inv X pins σ H s'->Q (.ref f,[]) s') :
  wpAny (model X.prog X.w) A (getMethod (.ref C) m pl) Q E' s :=
 PySem.W.method_cls I.cJ M.ga (PySem.W.cls_value (mc:=.type "type") I.cJ M.rd M.at_ rfl (h _ (I.tok _)))
theorem YN{pins:List (Addr × Obj)}{σ:St}{H:Hp}{s:Shared}{pl:Sem Bool}{Q:Value->Shared->Prop}{QA:List V->Hp->Prop}(I:Inv X pins σ H s)(M:zf X.K C m f)(hg:Gl X x)(hm:X.mg x=some (.ref C))(ha:PA X (e::es) t)(h:t σ H QA)
  (hq:∀us s1 vs H1,Inv X pins σ H1 s1->Vals vs us->QA vs H1->wpAny (model X.prog X.w) X.A (call (.ref f) us) Q X.xe s1)
  (dH:(x==("__debug__":Str))=false:=by decide) (cK:starEach (e::es) X.env=(false,eval e X.env)::starEach es X.env:=by rfl) (bO:(backTo pos (starEach es X.env)).any (·.1)=false:=by rfl)
  (ht:eval (.Call (.Attribute (.Name x p) m apos) (e::es) [] pos) X.env=(do
   let ov<-eval (.Name x p) X.env
   standAt apos.atName
   let (f,first)<-holding [ov] (getMethod ov m pl)
   callWith pos f first (backTo pos (starEach (e::es) X.env)) (backToKw pos (keywordEach [] X.env))):=by rfl) :
  wpAny (model X.prog X.w) X.A (eval (.Call (.Attribute (.Name x p) m apos) (e::es) [] pos) X.env) Q X.xe s:=by
 refine PySem.W.methodCall_KW (pl:=pl) (yh I hg hm ?_ dH) ht
 refine YM I M λs1 I1=>?_
 refine PySem.W.callWith_K (first:=[]) (h₀:=X.base) I.ok.mod.kI M.kp (aE (ha pos pins s1 σ H _ I1 h) λus s2 ⟨vs,H2,I2,r,q2⟩=>⟨I2.cJ,?_⟩) cK bO
 exact hq us s2 vs H2 I2 r q2
noncomputable def YO(sp:Sp)(E:XK)(c:Addr)(i:Nat)(t:TA):TE:=λσ H Q=>t σ H λvs H1=>∃f of fd v,H1 f=some (.ext (mD f of))/\of.data=.func fd/\σ[i]?=some (some v) /\
 ∀oc u,oc.data=.cell (some u)->RelV v u->H1 c=none->c≠f->sp vs (upd (upd H1 f (.ext (L3.ib of oc c f))) c (.own f)) (λr H2=>H2 f=some (.ext (L3.ib of oc c f))/\H2 c=some (.own f)/\Q r (rem H2 f c)) E
theorem Nt{pl:Sem Bool}{y:Str}{c:Addr}{i:Nat}(M:zf X.K C m f)(F:aS X.prog X.w X.K X.mg X.base bc k f fd ps sp)(hr:bN k X.A)(hb:Binds X.K fd ps [])(hg:Gl X x)(hm:X.mg x=some (.ref C))
  (hN:X.N[i]?=some y) (hy:X.env.scope.names.lookup y=some .cell) (fj:X.env.cells.lookup y=some c) (vA:X.fn y=true) (ha:PA X (e::es) t)
  (dH:(x==("__debug__":Str))=false:=by decide) (cK:starEach (e::es) X.env=(false,eval e X.env)::starEach es X.env:=by rfl) (bO:(backTo pos (starEach es X.env)).any (·.1)=false:=by rfl)
  (ht:eval (.Call (.Attribute (.Name x p) m apos) (e::es) [] pos) X.env=(do
   let ov<-eval (.Name x p) X.env
   standAt apos.atName
   let (f,first)<-holding [ov] (getMethod ov m pl)
   callWith pos f first (backTo pos (starEach (e::es) X.env)) (backToKw pos (keywordEach [] X.env))):=by rfl) :
  PE X (.Call (.Attribute (.Name x p) m apos) (e::es) [] pos) (YO sp E c i t):=by
 intro pins s σ H Q I h
 refine YN (pl:=pl) I M hg hm ha h (λus s1 vs H1 I1 r ⟨fa,of,fdd,v,hf,hd,hv,hq⟩=>?_) dH cK bO ht
 obtain⟨ml,_,hl⟩:=I1.loc
 obtain⟨u,rv,lk⟩:=hl i y v hN hv (.inr (.inl hy))
 obtain⟨oc,gc,gw⟩:∃oc,s1.heap.get? c=some oc/\oc.data=.cell (some u):=by
  rcases lk with⟨hk,_⟩ | ⟨_,c',vB,ic⟩
  ·rw[show X.env.kindOf y=some .cell from hy]at hk;cases hk
  ·rw[fj]at vB;cases vB;exact ic
 have nc:H1 c=none:=I1.fu y c fj
 have o5:c≠fa:=λz=>by rw[z,hf]at nc;cases nc
 have gf:s1.heap.get? fa=some of:=(I1.az fa _ hf).1
 have gz:=hq oc u gw rv nc o5
 have Nu:=I1.ok.qq y c vA fj
 generalize hH:upd (upd H1 fa (.ext (L3.ib of oc c fa))) c (.own fa)=Hp at gz
 have Nv:Hp c=some (.own fa):=by rw[<-hH,bM]
 have YQ:Hp fa=some (.ext (L3.ib of oc c fa)):=by rw[<-hH,aN o5.symm,bM]
 have kb:∀b,b≠fa->b≠c->Hp b=H1 b:=λb n1 n2=>by rw[<-hH,aN n2,aN n1]
 have YR:c ∉ X.fs:=λhb=>by
  obtain⟨_,o,ho,_⟩:=I1.ok.eQ.mem hb
  exact absurd (ck (bH ho) Nu) (dO _)
 have YS:∀b∈cT X.stack,b≠c:=λb hb z=>by
  rcases cg.mp (I1.vy b hb)with e | hb
  ·exact I1.nu y c fj (z ▸ e)
  ·exact YR (z ▸ hb)
 have YT:bS X.prog X.w Hp s1.heap:=λb ob q=>by
  by_cases z1:b=c
  ·subst z1;rw[Nv]at q;cases q;exact⟨_,gc⟩
  ·by_cases z2:b=fa
   ·subst z2;rw[YQ]at q;cases q
    exact⟨⟨gf,gc⟩,⟨_,gf⟩,λh1 h2 p kk=>⟨kk _ _ (.inl rfl) p.1,kk _ _ (.inr Nv) p.2⟩⟩
   ·rw[kb b z2 z1]at q
    have x1:=(I1.az b ob q).rem (f:=fa) (c:=c) z2 hf (.inr nc) (Nc gf (λ_ p=>p) hd)
    have up:∀{b' o'},rem H1 fa c b'=some o'->Hp b'=some o':=λ{b' o'} q=>by
     obtain⟨n1,n2,q'⟩:=Na q
     rw[kb b' n1 n2];exact q'
    exact x1.gu (λ_ _ _ q=>q) (λ_ q=>up q) (λ_ _ q=>up q) λ_ _ q=>up q
 have e0:fg X.prog X.w X.K X.mg X.base X.A X.stack s1 Hp:=by
  have e1:=I1.vL
  refine⟨e1.frames,e1.mod,λb ob q=>⟨(e1.bs b ob q).1,?_⟩,e1.gv,e1.eQ,λb hb=>?_,YT,e1.bare⟩
  ·have YU:=(I1.ok.bs b ob q).1
   rw[kb b (λz=>by have:=(e1.bs b ob q).2;rw[z,hf]at this;cases this) (λz=>absurd (ck (bH YU) (z ▸ Nu)) (dO _))]
   exact(e1.bs b ob q).2
  ·have nb:=e1.g7 b hb
   rw[kb b (λz=>by rw[z,hf]at nb;cases nb) (YS b hb)];exact nb
 have hlen:us.length=ps.length:=by rw[<-r.length];exact F.len _ _ _ _ gz
 refine wpAny_call (codeAny_mono (F.run X.A X.stack s1 Hp ⟨us,[]⟩ us vs _ E hr e0 (by have:=hb s1 us I1.cJ (by rw[m9];exact hlen);rwa [m9]at this) r gz) λrr s' hz=>?_)
 cases rr with
 | error e=>exact hz.elim
 | ok fl =>
  cases fl with
  | next=>exact dX hz
  | brk=>exact dX hz
  | cont=>exact dX hz
  | ret u' =>
   obtain⟨v',H2,os,bare,un,Nw,YV,q1,q2,q3⟩:=hz
   obtain⟨_,Nx⟩:=Nw.lam q1
   refine I1.after ⟨v',rem H2 fa c,os,bare,⟨λb ob g n hb hx=>?_,λb ob g n hb hx=>?_,λb ob g n hx=>?_,un.there,λb xs g=>?_,λb ob xs g=>?_,λb ps g=>?_⟩,Nw.rem q1 q2 hd,YV,q3⟩
   ·by_cases z:b=c
    ·rw[z,gc]at g;cases g;rw[z];exact Nx
    ·exact un.keep b ob g (by rw[kb b (λz=>by rw[z,hf]at n;cases n) z];exact n) hb hx
   ·by_cases z:b=c
    ·rw[z,gc]at g;cases g;rw[z];exact⟨_,Nx⟩
    ·exact un.slot b ob g (by rw[kb b (λz=>by rw[z,hf]at n;cases n) z];exact n) hb hx
   ·by_cases z:b=c
    ·rw[z];exact y8
    ·exact tH (un.free b ob g (by rw[kb b (λz=>by rw[z,hf]at n;cases n) z];exact n) hx)
   ·have n1:b≠fa:=λz=>by rw[z,hf]at g;cases g
    have n2:b≠c:=λz=>by rw[z,nc]at g;cases g
    rw[fL n1 n2]
    exact un.eP b xs (by rw[kb b n1 n2];exact g)
   ·have n1:b≠fa:=λz=>by rw[z,hf]at g;cases g
    have n2:b≠c:=λz=>by rw[z,nc]at g;cases g
    rw[fL n1 n2]
    exact un.eI b ob xs (by rw[kb b n1 n2];exact g)
   ·have n1:b≠fa:=λz=>by rw[z,hf]at g;cases g
    have n2:b≠c:=λz=>by rw[z,nc]at g;cases g
    rw[fL n1 n2]
    exact un.dS b ps (by rw[kb b n1 n2];exact g)
end
end L2
namespace L3
open PySem L2 PySem.Spec PyProof.Rows
theorem DP{ts:List Addr}{H H':Hp}(h:Tb ts H)(s:aa H H'):Tb ts H':=λP hP=>by
 obtain⟨ps,e⟩:=h P hP
 obtain⟨m,e2⟩:=s.tb P ps e
 exact⟨_,e2⟩
theorem Ny{P:Program}{w:World}{K:PySem.W.Frag}{mg:Str->Option Value}{base:Heap}{n:Nat}{p1 p2 x qn:Str}{params:Arguments}{body:Expr}{scope:Scope}{pm gP:Value}{oc:Obj}{c k:Addr}{m:Int}{tm:Tok}{sp:tI}(S:Ng p1 p2 x scope)
  (gw:oc.data=.cell (some (.int m tm))) (hb:∀u1 u2:Value,bindArgs (PySem.W.kla_fn "<lambda>" qn params body scope [(x,c)] pm (.ref k) gP) ⟨[u1,u2],[]⟩=pure [(p1,u1),(p2,u2)])
  (fU:∀(q:Str) (f:Addr) (A:Around) (outer:List Env) (s:Shared) (H:Hp) (E:XK),bN n (A.deeper (PySem.W.envX q scope s.heap.objs.size f (.ref k) [(x,c)])) ->
   ∃t:aC,PE (rK bc P w K mg base [p1,p2,x] q scope f (.ref k) [(x,c)] A outer s H E).eS body (lE t)/\∀i j Qd,sp i j Qd->t [some (.int i),some (.int j),some (.int m)] λd _=>∃r,d=.int r/\Qd r) :
  wF P w K mg base (n+1) (PySem.W.kla_obj "<lambda>" qn params body scope [(x,c)] pm k gP) oc c k sp where
 fn:=⟨_,_,_,_,rfl⟩
 run A outer s H f t u i j Qd hr e0 gf gc hH cn h:=by
  obtain⟨q,cn⟩:=cn
  obtain⟨tt,ht,hq⟩:=fU q f A outer s H (λ_ _ _=>False) (hr.deeper _)
  refine Yx (v1:=.int i) (v2:=.int j) (vc:=.int m) (E:=λ_ _ _=>False) S e0 hr gf ⟨oc,gc,gw⟩ ⟨tm,rfl⟩ hH cn (hb _ _) ⟨t,rfl⟩ ⟨u,rfl⟩ ht.eS ?_
  refine⟨⟨H,H⟩,H,_,[],_,?_,hq i j Qd h,λd ag v F' H' hd f1 h1 c1=>?_⟩
  ·exact aj.start (ds:=[.int i,.int j,.int m]) (vs:=[.int i,.int j,.int m]) (aa.refl H) (.int (.int (.int .nil))) 0
  ·obtain⟨r,rfl,hd⟩:=hd
   have s1:=c1.top
   cases s1
   exact⟨r,rfl,hd,h1⟩
section
variable{X:Cx}{CX:dG}{n:Nat}{f:Addr}{fd:FuncData}{ps:List Str}{sp:bG}{E:XK}{x:Str}{p pos:Pos}{e:Expr}{es:List Expr}{t:cj}{tl:List Addr}
theorem YW(hT:Tb tl X.iW)(F:aS X.prog X.w X.K X.mg X.base CX n f fd ps (wD tl (bK sp)))(hr:bN n X.A)(hg:Gl X x)(hm:X.mg x=some (.ref f))(hk:PySem.W.keepIn X.K (.ref f)=true)(hb:Binds X.K fd ps [])(hx:jM CX X E)
  (ha:PA X (e::es) (lA t)) (dH:(x==("__debug__":Str))=false:=by decide) (he:starEach (e::es) X.env=(false,eval e X.env)::starEach es X.env:=by rfl) (bO:(backTo pos (starEach es X.env)).any (·.1)=false:=by rfl) :
  PE X (.Call (.Name x p) (e::es) [] pos) (lE (lF sp t)):=by
 intro pins s σ H Q I zz
 obtain⟨B,F',δ,ts,Qd,c,q,k⟩:=zz
 have tb:=M8 I hT
 refine qE F hr hg hm hk hb .nil hx ha dH he bO pins s σ H Q I ⟨B,F',δ,ts,_,c,q,λds ai vs F1 H1 q1 f1 h1 c1 s1=>?_⟩
 refine⟨DP tb h1,?_⟩
 rw[m9]
 exact yL c1 s1 q1 λd v F' H' hd hf hs c'=>k d ai v F' H' hd (f1.trans hf) (h1.trans hs) c'
end
section
variable{P:Program}{w:World}{K:PySem.W.Frag}{mg:Str->Option Value}{base:Heap}
theorem Nz{x qual:Str}{st:Stmt}{f:Addr}{fd:FuncData}{N ps:List Str}{k:Nat}{sp:bG}{tl:List Addr}(F:bB K x qual st f fd)(S:bE N ps (aA st))(len:∀ds Q,sp ds Q->ds.length=ps.length)
  (fU:∀(aG:Value) (A:Around) (outer:List Env) (s:Shared) (H:Hp) (E:XK),Tb tl H->bN k (A.deeper (envOfC qual (aA st) s.heap.objs.size f aG)) ->
   ∃t:bX,PSs (gA bc P w K mg base N qual (aA st) f aG A outer s H E).eS (bq st) (lS (gA bc P w K mg base N qual (aA st) f aG A outer s H E).eS t)/\∀ds Q,sp ds Q->t { nx:=λ_=>Q .ak,rt:=Q } (ie N ds)):aS P w K mg base bc (k+1) f fd ps (wD tl (bK sp)):=by
 refine F.ok S (λvs H Q E ⟨_,F,ds,Qd,e,r,h,_⟩=>by rw[<-r.length];exact len ds Qd h) λaG A outer s H vs Q E hr zz=>?_
 obtain⟨tb,F,ds,Qd,e,r,h,k⟩:=zz
 obtain⟨t,ht,hq⟩:=fU aG A outer s H E tb hr
 have fin:∀d v ag av F' H',Qd d->aj ⟨H,F⟩ F' H' av ag [(d,v)]->Q v H':=λd v ag av F' H' hd c=>by
  obtain⟨A,C,r',s',nd,fr⟩:=c.own
  exact k d v F' H' A hd c.b1 c.b2 c.ext c.b3 r' (fY.mp nd).1 λa ha=>fr a (eG _ ha)
 have e1:L2.start N vs=vs.map some++aT (N.length-ds.length) none:=by unfold L2.start;rw[r.length]
 refine⟨_,ht,⟨H,F⟩,F,ie N ds,_,?_,hq ds Qd h,λag av F' H' hd c=>fin .ak .ak ag av F' H' hd (c.pushS (.ak .nil) rfl),fin,λ_ _ _ _ z=>z.elim,λ_ _ _ _ z=>z.elim,XL.none (λ_ _ z=>z) λ_ _ z=>z⟩
 rw[e1]
 exact aj.start e r _
theorem NA{x qual:Str}{st:Stmt}{f cc:Addr}{fd:FuncData}{N ps:List Str}{k:Nat}{sp:Sp}(F:bB K x qual st f fd)(za:fd.code=.ref cc)(S:bE N ps (aA st))(len:∀vs H Q E,sp vs H Q E->vs.length=ps.length)
  (fU:∀(A:Around) (outer:List Env) (s:Shared) (H:Hp) (vs:List V) (Q:VK) (E:XK),bN k (A.deeper (envOfC qual (aA st) s.heap.objs.size f (.ref cc)))->sp vs H Q E ->
   ∃t,PSs (gA bc P w K mg base N qual (aA st) f (.ref cc) A outer s H E).eS (bq st) t/\t { nx:=λ_ H'=>Q .ak H',rt:=Q } (L2.start N vs) H):aS P w K mg base bc (k+1) f fd ps sp:=by
 obtain⟨oc,od,kV,doc,pm,an,aG,ct,jN,rfl,lk,cn⟩:=F.ex
 obtain rfl:aG=.ref cc:=za
 refine Cm lk cn S len λA outer s H vs Q E hr gB=>?_
 obtain⟨t,h,q⟩:=fU A outer s H vs Q E hr gB
 exact⟨t,h.eS,q⟩
end
end L3
namespace L3
open PySem L2 PySem.Spec PyProof.Rows
theorem YX{ns:List Str}{xs:List D}{ws:List V}{F H:Hp}{f:Str}{d:D}(r:R F H xs ws [])(h:(ns.zip xs).lookup f=some d):∃w,(ns.zip ws).lookup f=some w/\R F H [d] [w] []:=by
 generalize e:([]:List Addr)=A at r
 induction ns generalizing xs ws A with
 | nil=>simp at h
 | cons n ns ih =>
  cases xs with
  | nil=>simp at h
  | cons x xs =>
   obtain⟨v,cm,A1,A2,rfl,rfl,h1,h2⟩:=R.cP r
   obtain⟨rfl,rfl⟩:=Bv.mp e.symm
   rw[Ss]at h ⊢
   by_cases z:f=n
   ·subst z
    rw[eV,beq_self_eq_true]at h
    cases h
    refine⟨v,?_,h1⟩
    rw[eV,beq_self_eq_true]
   ·have z':(f==n)=false:=beq_eq_false_iff_ne.mpr z
    rw[eV,z']at h
    obtain⟨w,e1,e2⟩:=ih h [] rfl h2
    refine⟨w,?_,e2⟩
    rw[eV,z']
    exact e1
theorem NB{ns:List Str}{ws:List V}{f:Str}(h:f ∉ ns):(ns.zip ws).lookup f=none:=by
 induction ns generalizing ws with
 | nil=>simp
 | cons n ns ih =>
  cases ws with
  | nil=>simp
  | cons w ws =>
   rw[Ss,eV]
   have hn:(f==n)=false:=beq_eq_false_iff_ne.mpr λz=>h (by rw[z];simp)
   simp only[hn]
   exact ih λz=>h (by simp[z])
theorem DQ{F H:Hp}{C:Addr}{ns:List Str}{xs:List D}{v:V}(s:S F H [.obj C ns xs] [v]):∃p dx ws,v=.ref p/\H p=some (.ins C dx (ns.zip ws))/\ns.length=ws.length/\R F H xs ws []:=by
 cases s with
 | obj h l r _=>exact⟨_,_,_,rfl,h,l,r⟩
section
variable{X:Cx}{e o:Expr}{es:List Expr}{f m x:Str}{pos p apos:Pos}{t to:aC}{ta:cj}{n:Nat}
noncomputable def mE(K:PySem.W.Frag)(t:aC)(f:Str):aC:=λδ Q=>t δ λd ag=>∃C ns xs v,d=.obj C ns xs/\dZ K C/\cC K C f/\(ns.zip xs).lookup f=some v/\Q v ag
theorem YY(he:PE X e (lB t))(hb:attributeBase e f X.env (eval e X.env)=eval e X.env:=by rfl):PE X (.Attribute e f pos) (lB (mE X.K t f)) :=
 cQ (yu he hb) λσ H Q ⟨B,F,δ,ts,Qd,c,q,k⟩=>⟨B,F,δ,ts,_,c,q,λd ag v F' H' ⟨C,ns,xs,w,ed,hc,hn,hl,hq⟩ f1 h1 c1 s1=>by
  subst ed
  obtain⟨p,dx,ws,rfl,hp,_,r⟩:=DQ s1
  obtain⟨u,hu,ru⟩:=YX r hl
  exact⟨p,C,dx,_,u,rfl,hp,hc,hn,hu,k w ag u F' H' hq f1 h1 c1 ru.s⟩⟩
structure wJ(P:Program)(w:World)(K:PySem.W.Frag)(mg:Str->Option Value)(base:Heap)(n:Nat)(m:Str)(C:Addr)(sp:bG):Prop where
 cls:dZ K C
 ex:∃f fd ps,Meth K C m f/\aS P w K mg base bc n f fd ps (bK sp)/\Binds K fd ps []
noncomputable def mF(MO:Addr->bG->Prop)(m:Str)(to:aC)(ta:cj):aC:=λδ Q=>to δ λd ai=>∃C ns xs sp,d=.obj C ns xs/\MO C sp/\m ∉ ns/\ta ai λds aF=>sp ((D.obj C ns xs::ds).map D.sh) λr=>((D.obj C ns xs::ds).all D.pl||r.fr)=true/\Q r aF
theorem YZ{pl:Sem Bool}(ho:PE X o (lB to))(hr:bN n X.A)(ha:PA X (e::es) (lA ta))
  (cK:starEach (e::es) X.env=(false,eval e X.env)::starEach es X.env:=by rfl) (bO:(backTo pos (starEach es X.env)).any (·.1)=false:=by rfl)
  (ht:eval (.Call (.Attribute o m apos) (e::es) [] pos) X.env=(do
   let ov<-eval o X.env
   standAt apos.atName
   let (f,first)<-holding [ov] (getMethod ov m pl)
   callWith pos f first (backTo pos (starEach (e::es) X.env)) (backToKw pos (keywordEach [] X.env))):=by rfl) :
  PE X (.Call (.Attribute o m apos) (e::es) [] pos) (lE (mF (wJ X.prog X.w X.K X.mg X.base n m) m to ta)):=by
 intro pins s σ H Q I zz
 obtain⟨B,F,δ,ts,Qd,c,q,k⟩:=zz
 refine PySem.W.methodCall_KW (pl:=pl) (aE (ho pins s σ H (λx H1=>∃d ai F1,S F1 H1 [d] [x]/\aj B F1 H1 σ ai ts/\aa F F1/\aa H H1/\∃C ns xs sp,d=.obj C ns xs/\wJ X.prog X.w X.K X.mg X.base n m C sp/\m ∉ ns/\ta ai λds aF=>sp ((D.obj C ns xs::ds).map D.sh) λr=>((D.obj C ns xs::ds).all D.pl||r.fr)=true/\Qd r aF) I
  ⟨B,F,δ,ts,_,c,q,λd ai v F1 H1 hq f1 h1 c1 s1=>⟨d,ai,F1,s1,c1,f1,h1,hq⟩⟩) λu s1 ⟨x,H1,I1,rx,d,ai,F1,sd,c1,f1,h1,C,ns,xs,sp,ed,M,hm,hq⟩=>?_) ht
 subst ed
 obtain⟨a,dx,ws,rfl,ea,hl,r0⟩:=DQ sd
 obtain rfl:u=du a:=rx
 obtain⟨f,fd,ps,wK,FO,hb⟩:=M.ex
 refine Cj I1 ea M.cls wK (NB hm) ?_
 refine PySem.W.callWith_K (first:=[.ref a]) (h₀:=X.base) I.ok.mod.kI wK.kp (aE (ha pos pins s1 σ H1 (λvs H2=>∃ds aF F2,S F2 H2 ds vs/\aj B F2 H2 σ aF ts/\aa F1 F2/\aa H1 H2/\sp ((D.obj C ns xs::ds).map D.sh) λr=>((D.obj C ns xs::ds).all D.pl||r.fr)=true/\Qd r aF) I1
  ⟨B,F1,ai,ts,_,c1,hq,λds aF vs F2 H2 hq f2 h2 c2 s2=>⟨ds,aF,F2,s2,c2,f2,h2,hq⟩⟩) λus s2 ⟨vs,H2,I2,r,ds,aF,F2,DR,c2,f2,h2,gB⟩=>⟨I2.cJ,?_⟩) cK bO
 refine yw (us:=.ref a::us) (vs:=.ref a::vs) (eo:=[]) FO hr hb .nil aX I2 (.cons rfl r) ?_
 rw[m9]
 exact yL c2 (.obj (h2 _ _ ea) hl (r0.shared f2 h2) DR) gB λd v F' H' hd hf hs c'=>k d aF v F' H' hd (f1.trans (f2.trans hf)) (h1.trans (h2.trans hs)) c'
end
structure da(x:Addr)(H H':Hp):Prop where
 get:∀b o,b≠x->H b=some o->gG o=true->H' b=some o
 tb:∀b ps,H b=some (.cO ps)->∃more,H' b=some (.cO (ps++more))
theorem da.trans{x:Addr}{H H1 H2:Hp}(a:da x H H1)(b:da x H1 H2):da x H H2 :=
 ⟨λc o n h t=>b.get c o n (a.get c o n h t) t,λc ps h=>by
  obtain⟨m1,e1⟩:=a.tb c ps h
  obtain⟨m2,e2⟩:=b.tb c _ e1
  exact⟨m1++m2,by rw[e2,u5]⟩⟩
theorem aa.x{x:Addr}{H H':Hp}(h:aa H H'):da x H H':=⟨λb o _ e n=>h.get b o e n,h.tb⟩
theorem da.upd{x C dx:Addr}{H:Hp}{o o':HO}(h:H x=some o)(n:gG o=true):da x H (upd H x o') :=
 ⟨λb o z e _=>by rw[aN z];exact e,λb ps e=>⟨#[],by rw[aN (λz=>by rw[z,h]at e;cases e;cases n),e];simp⟩⟩
noncomputable def DS(tl:List Addr)(C:Addr)(tJ:List D->List Str->List D->Prop):Sp:=λvs H Q _=>∃x dx cm ds ns xs,vs=.ref x::cm/\Tb tl H/\H x=some (.ins C dx [])/\R H H ds cm []/\tJ ds ns xs /\
 ∀H' ws A,da x H H'->H' x=some (.ins C dx (ns.zip ws))->ns.length=ws.length->R (λ_=>none) H' xs ws A->A.Nodup->(∀a∈A,H a=none)->Q .ak H'
noncomputable def o6(C:Addr)(tJ:List D->List Str->List D->Prop)(ta:cj):aC:=λδ Q=>ta δ λds ag=>∃ns xs,tJ (ds.map D.sh) ns xs/\Q (.obj C ns (xs.map D.sh)) ag
theorem aj.made{B:Bs}{F H H':Hp}{σ:L2.St}{δ:Dl}{ts:List (D × V)}{C dx x:Addr}{ns:List Str}{xs:List D}{ws:List V}{A:List Addr}(c:aj B F H σ δ ts)(hs:aa H H')(hx:H' x=some (.ins C dx (ns.zip ws)))(hl:ns.length=ws.length)
  (r:R (λ_=>none) H' xs ws A) (fr:∀a∈A,H a=none):aa F (L3.bR F H' A)/\aj B (L3.bR F H' A) H' σ δ ((.obj C ns (xs.map D.sh),.ref x)::ts):=by
 have c1:=c.grow hs
 have hF:∀a∈A,F a=none:=λa ha=>c.ext.free (fr a ha)
 have r1:R F H' xs ws A:=r.keep (aa.of λb o e=>by cases e) (fC.same (aa.refl _)) gH.nil hF (by simp)
 have r2:=r1.bR c1.ext A (λ_ h=>h)
 have fs:aa F (L3.bR F H' A):=jS c1.ext
 obtain⟨A',C',r',s',nd,zh⟩:=c.own
 have out:∀a,(∃ws,H a=some (.lst ws))/\F a=none->L3.bR F H' A a=none:=λa zz=>by
  obtain⟨⟨ws,h⟩,hf⟩:=zz
  rw[yH (λz=>by rw[fr a z]at h;cases h)];exact hf
 have g1:=r'.grow fs hs λa ha=>out a (r'.lists a ha)
 have g2:=s'.keep fs (fC.same hs) gH.nil (λa ha=>out a (s'.lists a ha)) (by simp)
 refine⟨fs,L7 c1.ext,c1.b1,c1.b2.trans fs,λa ws h=>?_,A',C',?_,g2,nd,zh⟩
 ·by_cases z:a∈A
  ·exact .inr (c.b1.free (fr a z))
  ·rw[yH z]at h;exact c.b3 a ws h
 ·exact R.obj hx hl r2 g1
section
variable{X:Cx}{CX:dG}{n:Nat}{f C:Addr}{fd:FuncData}{ps:List Str}{tJ:List D->List Str->List D->Prop}{E:XK}{x:Str}{p pos:Pos}{e:Expr}{es:List Expr}{t:cj}{tl:List Addr}
theorem NC(hT:Tb tl X.iW)(M:Mk X.K C f)(F:aS X.prog X.w X.K X.mg X.base CX n f fd ps (DS tl C tJ))(hr:bN (n+1) X.A)(hg:Gl X x)(hm:X.mg x=some (.ref C))(hb:Binds X.K fd ps [])(hx:jM CX X E)
  (ha:PA X (e::es) (lA t)) (dH:(x==("__debug__":Str))=false:=by decide) (he:starEach (e::es) X.env=(false,eval e X.env)::starEach es X.env:=by rfl) (bO:(backTo pos (starEach es X.env)).any (·.1)=false:=by rfl) :
  PE X (.Call (.Name x p) (e::es) [] pos) (lE (o6 C tJ t)):=by
 intro pins s σ H Q I zz
 obtain⟨B,F',δ,ts,Qd,c,q,k⟩:=zz
 have tb:=M8 I hT
 refine U1 M F hr hg hm hb .nil hx ha dH he bO pins s σ H Q I ⟨B,F',δ,ts,_,c,q,λds ai vs F1 H1 q1 f1 h1 c1 s1=>?_⟩
 intro x dx eD gi qL
 obtain⟨ns,xs,hI,hq⟩:=q1
 have sm:aa H1 (upd (upd H1 dx (.own x)) x (.ins C dx [])):=.of λb o e=>by rw[aN (dR e eD),aN (dR e gi)];exact e
 refine⟨x,dx,vs,ds.map D.sh,ns,xs,by rw[m9],DP (DP tb h1) sm,bM,(s1.frozen c1.ext).shared sm sm,hI,λH' ws A ND cW hl r nd fr=>⟨rfl,?_⟩⟩
 have s2:aa H1 H':=⟨λb o e n=>ND.get b o (dR e eD) (sm.get b o e n) n,λb ps e=>by
  obtain⟨m1,e1⟩:=sm.tb b ps e
  obtain⟨m2,e2⟩:=ND.tb b _ e1
  exact⟨m1++m2,by rw[e2,u5]⟩⟩
 obtain⟨fs,c2⟩:=c1.made s2 cW hl r λa ha=>sm.free (fr a ha)
 exact k _ ai _ _ H' hq (f1.trans fs) (h1.trans s2) c2
end
end L3
namespace Mf
open PySem L2 L3
noncomputable def gm(m:Bool × Nat)(a b:Nat):Nat:=if m.1 then md (cl a b) m.2 else a*b%m.2
noncomputable def ae(m:Bool × Nat):Nat:=if m.1 then 2 ^ (bl m.2-1)else m.2
noncomputable def zi(g:Nat->Nat->Nat)(a:Nat):Nat->Nat->List Int->Option (List Int)
 | 0,_,_=>none
 | f+1,p,acc=>if p=1 then some acc else if p<64 then zi g a f (g p a) (acc++[(p:Int)])else none
noncomputable def DT(g:Nat->Nat->Nat)(a:Nat):Option (List Int):=zi g a 64 (g 1 a) [1]
noncomputable def zj(g:Nat->Nat->Nat)(many:Nat):Nat->Nat->List Int->Option (List Int)
 | 0,_,_=>none
 | f+1,st,l=>if l.length+1<many then(match DT g (st+1)with | some l'=>zj g many f (st+1) l' | none=>none)else some l
noncomputable def wL(g:Nat->Nat->Nat)(many:Nat):Option (List Int):=match DT g 1 with | some l=>zj g many 62 1 l | none=>none
noncomputable def wM(g:Nat->Nat->Nat):tI:=λi j Q=>∃a b:Nat,i=a/\j=b/\a<64/\b<64/\Q (g a b:Nat)
noncomputable def fM:List Nat:=[7,11,13,19,25,31,37,41,47,55,59,61,67,73,87,91,97,103,109,115,117]
noncomputable def mG:List Nat:=[2,3,5,7,11,13,17,19,23,29,31,37,41,43,47,53,59,61]
noncomputable def aM:List (Bool × Nat):=fM.map (λn=>(true,n))++mG.map λn=>(false,n)
noncomputable def mH(l:List Int):Nat->List Int
 | 0=>aT (l.length+1) 0
 | i+1=>(mH l i).set (l.getD i 0).toNat (i:Int)
noncomputable def dr(l:List Int):List Int:=mH l l.length
theorem wN(l:List Int):∀i,(mH l i).length=l.length+1
 | 0=>by simp[mH]
 | i+1=>by simp[mH,wN l i]
noncomputable def o7(l g:List Int)(a:Nat):List Int:=if a=0 then aT (l.length+1) 0 else 0::(aP l.length).map λ(b:Nat)=>l.getD ((g.getD a 0+g.getD (b+1) 0)%(l.length:Int)).toNat 0
noncomputable def tK(l g:List Int)(n:Nat):List D:=(aP n).map λa=>D.lst true (aD (o7 l g a))
noncomputable def o8(l g:List Int):List D:=tK l g (l.length+1)
end Mf
namespace L3
open PySem L2 Mf
noncomputable def LI(H:Hp)(p:Addr)(ns:List Int):Prop:=H p=some (.lst (ns.map V.int))
theorem LI.same{H H':Hp}{p:Addr}{ns:List Int}(h:LI H p ns)(s:aa H H'):LI H' p ns:=s.get _ _ h
theorem LI.upd{H:Hp}{p x:Addr}{ns:List Int}{o o':HO}(h:LI H p ns)(hx:H x=some o)(n:∀ws,o≠.lst ws):LI (upd H x o') p ns:=by
 unfold LI
 rw[aN (λz=>by rw[z]at h;unfold LI at h;rw[hx]at h;cases h;exact n _ rfl)];exact h
theorem NF{F' H' H:Hp}{v:V}{A:List Addr}{ns:List Int}(r:R F' H' [.lst true (aD ns)] [v] A)(fr:∀a∈A,H a=none):∃p,v=.ref p/\LI H' p ns/\H p=none:=by
 cases r with
 | @own p ws xs A1 _ _ B1 hp hf r1 r2 =>
  have:=MS r1.s
  subst this
  exact⟨p,rfl,hp,fr p (by simp)⟩
structure Y0(K:PySem.W.Frag)(C f:Addr):Prop where
 cls:dZ K C
 many:cC K C "many"
 wide:cC K C "wide"
 DU:cC K C "powers"
 Y1:cC K C "logs"
 step:cC K C "step"
 sp:Meth K C "step_power" f
structure NG(g:Nat->Nat->Nat)(many:Nat)(l:List Int)(st:Int):Prop where
 lo:2<=many
 hi:many<=64
 step:wL g many=some l
 len:l.length+1=many
 ins:∀x∈l,0<=x/\x.toNat<=l.length
 st:l[((1:Int)%((many:Int)-1)).toNat]?=some st
noncomputable def fN(b:Str):List Str:=[b,"many","wide","powers","logs","step"]
noncomputable def zk(n0:Int)(many:Nat)(p1 p2:Addr)(st:Int):List V:=[.int n0,.int many,.int ((bl many:Nat)-1),.ref p1,.ref p2,.int st]
theorem tL{f:Str}{v:V}:∀{fs:List (Str × V)},(∀p∈fs,p.1≠f)->eJ f v fs=fs++[(f,v)]
 | [],_=>rfl
 | (g,x)::r,h=>by
  unfold eJ
  rw[if_neg (h (g,x) (by simp)),tL λp hp=>h p (by simp[hp])];rfl
theorem fW.wO{H:Hp}{x C dx f c k:Addr}{fs:List (Str × V)}{o':HO}{of oc:Obj}(h:fW H f of oc c k)(hx:H x=some (.ins C dx fs)):fW (L2.upd H x o') f of oc c k:=by
 obtain⟨ψ,e,wG⟩:=h.yF
 exact⟨by rw[aN (λz=>by rw[<-z,h.fn]at hx;cases hx)];exact h.fn,by rw[aN (λz=>by rw[<-z,h.cell]at hx;cases hx)];exact h.cell,ψ,by rw[aN (λz=>by rw[<-z,e]at hx;cases hx)];exact e,wG⟩
theorem fW.same{H H':Hp}{f c k:Addr}{of oc:Obj}(h:fW H f of oc c k)(s:aa H H'):fW H' f of oc c k:=iH.mono (z:=.lam of oc c k) h λa o e _ t=>s.get a o e t
theorem wQ{H:Hp}{x p:Addr}{o o':HO}(hx:H x=some o)(h:L2.upd H x o' p=none):H p=none:=by
 by_cases z:p=x
 ·subst z;rw[bM]at h;cases h
 ·rw[aN z]at h;exact h
theorem zo{α:Type}{b f:Str}{v:α}{r:List (Str × α)}(h:b≠f):((b,v)::r).lookup f=r.lookup f:=by
 rw[eV,beq_eq_false_iff_ne.mpr (dF h)]
section
variable{H2 H3 H':Hp}{x f c p:Addr}{o1 o2:HO}
theorem wR{b:Addr}{o:HO}(e:H3 b=some o)(nb:b≠f)(nc:H3 c=none):L2.upd (L2.upd H3 f o1) c o2 b=some o:=by
 rw[aN (dR e nc),aN nb];exact e
theorem NH(hs:aa H2 H3)(nf:H2 f=none)(nc:H3 c=none)(s:da x (L2.upd (L2.upd H3 f o1) c o2) H'):da x H2 (rem H' f c) where
 get b o n e t:=by
  have z1:=dR e nf
  have e3:=hs.get b o e t
  rw[fL z1 (dR e3 nc)]
  exact s.get b o n (wR e3 z1 nc) t
 tb b ps e:=by
  have z1:=dR e nf
  obtain⟨m,e3⟩:=hs.tb b ps e
  obtain⟨m2,e4⟩:=s.tb b _ (wR e3 z1 nc)
  exact⟨m++m2,by rw[fL z1 (dR e3 nc),e4,u5]⟩
theorem zr(hs:aa H2 H3)(h:L2.upd (L2.upd H3 f o1) c o2 p=none):H2 p=none:=by
 refine hs.free ?_
 by_cases z:p=c
 ·subst z;rw[bM]at h;cases h
 ·rw[aN z]at h
  by_cases z2:p=f
  ·subst z2;rw[bM]at h;cases h
  ·rw[aN z2]at h;exact h
theorem LI.rem{l:List Int}{φ:Heap->Prop}{y:Addr}(h:LI H' p l)(hf:H' f=some (.ext φ))(hc:H' c=some (.own y)):LI (rem H' f c) p l:=by
 unfold LI at h ⊢
 rw[fL (λz=>by rw[z,hf]at h;cases h) (λz=>by rw[z,hc]at h;cases h)];exact h
theorem NI{of oc:Obj}{k:Addr}(qL:c≠f)(nc:H3 c=none)(hk:CT H3 k)(kf:k≠f):fW (L2.upd (L2.upd H3 f (.ext (ib of oc c f))) c (.own f)) f of oc c k:=by
 obtain⟨ψ,e,wG⟩:=hk
 exact⟨by rw[aN qL.symm,bM],bM,ψ,wR e kf nc,wG⟩
end
noncomputable def fl(m:Bool × Nat):List Int:=(wL (gm m) (ae m)).getD []
noncomputable def fst(m:Bool × Nat):Int:=(fl m).getD ((1:Int)%((ae m:Int)-1)).toNat 0
noncomputable def NJ(m:Bool × Nat):Bool:=decide (2<=ae m)&&decide (ae m<=64)&&(wL (gm m) (ae m)).isSome&&decide ((fl m).length+1=ae m)&&(fl m).all (λx=>decide (0<=x)&&decide (x.toNat<=(fl m).length))&&decide (((1:Int)%((ae m:Int)-1)).toNat<(fl m).length)
theorem Y2:aM.all NJ=true:=by decide +kernel
theorem dk{m:Bool × Nat}(h:m∈aM):NG (gm m) (ae m) (fl m) (fst m):=by
 have h:=dn.mp Y2 m h
 simp only[NJ,dm,decide_eq_true_eq,dn]at h
 obtain⟨⟨⟨⟨⟨h1,h2⟩,h3⟩,h4⟩,h5⟩,h6⟩:=h
 obtain⟨l,e⟩:=J4.mp h3
 have el:fl m=l:=by unfold fl;rw[e];rfl
 refine⟨h1,h2,by rw[e,el],h4,λx hx=>h5 x hx,?_⟩
 unfold fst
 rw[aR,aQ h6];rfl
theorem Y3:∀p∈mG,(decide (2<=(p:Int))&&decide ((p:Int)<=61)&&(aP ((p:Int).toNat-2)).all λi=>(p:Int)%(2+(i:Int)) != 0)=true:=by decide +kernel
theorem Y4:∀p∈fM,(decide (4<=(p:Int))&&decide ((p:Int)<=127)&&al (p:Int).toNat)=true:=by decide +kernel
theorem R.wO{F H:Hp}{x C dx:Addr}{fs:List (Str × V)}{o':HO}{ds:List D}{vs:List V}{A:List Addr}(r:R F H ds vs A)(hx:H x=some (.ins C dx fs))(hd:ds.all D.fr=true):R F (L2.upd H x o') ds vs A:=by
 have up:∀{a o},H a=some o->(∀C dx fs,o≠.ins C dx fs)->L2.upd H x o' a=some o:=λ{a o} e n=>by
  rw[aN (λz=>by rw[z,hx]at e;cases e;exact n _ _ _ rfl)];exact e
 induction r with
 | nil=>exact .nil
 | ak _ ih=>exact .ak (ih (by simpa[D.fr]using hd))
 | bl _ ih=>exact .bl (ih (by simpa[D.fr]using hd))
 | int _ ih=>exact .int (ih (by simpa[D.fr]using hd))
 | str _ ih=>exact .str (ih (by simpa[D.fr]using hd))
 | shr h x _ i1 ih=>simp[eL]at hd
 | own h f _ _ i1 i2 =>
  rw[dh,eL,dm,kC]at hd
  exact .own (up h λ_ _ _ z=>by cases z) f (i1 hd.1) (i2 hd.2)
 | tup h _ _ i1 i2 =>
  rw[dh,kX,dm]at hd
  exact .tup (up h λ_ _ _ z=>by cases z) (i1 hd.1) (i2 hd.2)
 | obj h l x _ i1 ih=>simp[D.fr]at hd
 | fz h x _ i1 ih=>simp[D.fr]at hd
 | @aU p z _ _ _ h r ih =>
  refine .aU ?_ (ih (by simpa[D.fr]using hd))
  cases z with
  | ext φ=>exact up h λ_ _ _ z=>by cases z
  | lam of oc c k=>exact fW.wO h hx
theorem NK(l g:List Int):(o8 l g).all D.fr=true:=by
 unfold o8 tK
 rw[qa,dn]
 intro a _
 show(D.lst true (aD _)).fr=true
 rw[eL,mv];rfl
theorem da.free{x a:Addr}{H H':Hp}(s:da x H H')(hx:H' x≠none)(h:H' a=none):H a=none:=by
 cases q:H a with
 | none=>rfl
 | some o =>
  by_cases z:a=x
  ·subst z;exact absurd h hx
  ·cases n:gG o with
   | true=>rw[s.get a o z q n]at h;cases h
   | false =>
    obtain⟨ps,rfl⟩:=CS n
    obtain⟨m,e⟩:=s.tb a ps q
    rw[e]at h;cases h
theorem NL(l:List Int):∀i,∀x∈mH l i,0<=x
 | 0=>λx hx=>by rw[(BA.mp hx).2];exact Int.le_refl _
 | i+1=>λx hx=>by
  unfold mH at hx
  rcases BJ hx with h | h
  ·exact NL l i x h
  ·rw[h];exact J3 _
theorem NM:∀p∈fM,bl p<=7:=by decide +kernel
theorem NN:∀p∈fM,1<=bl p:=by decide +kernel
theorem Y5(a b:Nat):bl (cl a b)<=bl a+bl b:=by
 by_cases ha:a=0
 ·subst ha;rw[nF];exact jC _
 ·by_cases hb:b=0
  ·subst hb
   have:cl a 0=0:=rfl
   rw[this];exact jC _
  ·rw[Lz ha hb];omega
noncomputable def tM(l g:List Int):List D:=(aP (l.length+1)).map λa=>D.lst false (aD (o7 l g a))
theorem Y6(l g:List Int):(D.lst true (o8 l g)).sh=.lst false (tM l g):=by
 rw[di]
 unfold o8 tK tM
 rw[cS]
 congr 1
 apply vh
 intro a _
 show D.sh (.lst true (aD _))=_
 rw[di,gL]
noncomputable abbrev pD(m:Bool × Nat):List D:=[.int m.2,.int (ae m),.int ((bl (ae m):Nat)-1),.lst false (aD (fl m)),.lst false (aD (dr (fl m))),.int (fst m)]
noncomputable def zt(C:Addr)(p:Nat):D:=.obj C (fN "prime") (pD (false,p))
noncomputable def zu(C:Addr)(p:Nat):D:=.obj C (fN "bits"++[("products":Str)]) (pD (true,p)++[.lst false (tM (fl (true,p)) (dr (fl (true,p))))])
noncomputable def fD(cb cp:Addr)(m:Bool × Nat):D:=if m.1 then zu cb m.2 else zt cp m.2
end L3
namespace L3
open PySem L2 Mf
theorem wU{u p:Nat}(h:bl u<bl p):md u p=u:=vV (q:=0) (by rw[nF,nj]) h
theorem Y7{u v n:Nat}(hu:bl u<n)(hv:bl v<n):bl (u ^^^ v)<n:=by
 have h1:u<2 ^ (n-1):=dy.mp (by omega)
 have h2:v<2 ^ (n-1):=dy.mp (by omega)
 have:=dy.mpr (sX h1 h2)
 omega
theorem zw{p:Nat}(hp:p≠0)(u v:Nat):md (u ^^^ v) p=md u p ^^^ md v p:=by
 obtain⟨⟨q1,e1⟩,l1⟩:=vU hp u
 obtain⟨⟨q2,e2⟩,l2⟩:=vU hp v
 refine vV (q:=q1 ^^^ q2) ?_ (Y7 l1 l2)
 rw[nE,<- Lo,<- e1,<- e2]
theorem NO{p:Nat}(hp:p≠0)(w:Nat):md (cl p w) p=0:=by rw[vT];exact V7 w hp
theorem cV:∀m∈aM,0<m.2:=by decide +kernel
theorem ir(m:Bool × Nat)(a b:Nat):gm m a b=gm m b a:=by
 unfold gm
 split
 ·rw[vT]
 ·rw[kA]
theorem NP{n:Nat}(hn:n≠0)(u c:Nat):md (cl (md u n) c) n=md (cl u c) n:=by
 obtain⟨⟨q,e⟩,_⟩:=vU hn u
 have h:cl u c=cl n (cl q c) ^^^ cl (md u n) c:=by
  conv=>lhs;rw[e]
  rw[nE,vT n q,LF]
 rw[h,zw hn,NO hn,nj]
theorem ke{m:Bool × Nat}(h:0<m.2)(a b c:Nat):gm m (gm m a b) c=gm m a (gm m b c):=by
 unfold gm
 split
 ·rw[NP (by omega),vT (md (cl b c) m.2) a,NP (by omega),LF a b c,vT (cl b c) a]
 ·rw[vj,Kj,<- vj,vj a (b*c%m.2),Kj,<- vj,sC]
theorem NQ{m:Bool × Nat}(h:m.1=true){a:Nat}:a<ae m↔bl a<=bl m.2-1:=by
 unfold ae
 rw[if_pos h];exact dy.symm
theorem jo{m:Bool × Nat}{a:Nat}(ha:a<ae m):gm m 1 a=a:=by
 obtain⟨k,n⟩:=m
 cases k with
 | true =>
  show md (cl 1 a) n=a
  rw[CA]
  have h1:=(NQ (m:=(true,n)) rfl).mp ha
  have h1:bl a<=bl n-1:=h1
  by_cases z:bl n=0
  ·have a0:a=0:=by
    have:=dy (n:=a) (m:=0)
    have:=this.mp (by omega)
    omega
   subst a0
   have n0:n=0:=by
    have:=(dy (n:=n) (m:=0)).mp (by omega)
    omega
   subst n0
   decide
  ·exact wU (by omega)
 | false=>show 1*a%n=a;rw[Nat.one_mul];exact xX ha
theorem tN{m:Bool × Nat}{a:Nat}(ha:a<ae m):gm m a 1=a:=by rw[ir];exact jo ha
noncomputable def lg(m:Bool × Nat)(a:Nat):Int:=(dr (fl m)).getD a 0
noncomputable def pw(m:Bool × Nat)(k:Nat):Int:=(fl m).getD k 0
noncomputable def DV(m:Bool × Nat):Bool:=((aP (ae m-1)).all λk=>decide (1<=pw m k)&&decide (pw m k<ae m)&&decide (lg m (pw m k).toNat=k))&&((aP (ae m-1)).all λa=>decide (0<=lg m (a+1))&&decide (lg m (a+1)<(ae m:Int)-1)&&decide (pw m (lg m (a+1)).toNat=((a+1:Nat):Int)))
theorem NR:aM.all DV=true:=by decide +kernel
theorem DW{m:Bool × Nat}(hm:m∈aM){k:Nat}(hk:k<ae m-1):1<=pw m k/\pw m k<ae m/\lg m (pw m k).toNat=k:=by
 have h:=dn.mp NR m hm
 simp only[DV,dm,dn,decide_eq_true_eq,dE]at h
 have:=h.1 k hk
 exact⟨this.1.1,this.1.2,this.2⟩
theorem DX{m:Bool × Nat}(hm:m∈aM){a:Nat}(h1:1<=a)(h2:a<ae m):0<=lg m a/\lg m a<(ae m:Int)-1/\pw m (lg m a).toNat=a:=by
 have h:=dn.mp NR m hm
 simp only[DV,dm,dn,decide_eq_true_eq,dE]at h
 have:=h.2 (a-1) (by omega)
 rw[show a-1+1=a by omega]at this
 exact⟨this.1.1,this.1.2,this.2⟩
theorem gj(m:Bool × Nat)(b:Nat)(h:0<m.2):gm m 0 b=0:=by
 unfold gm
 split
 ·rw[nF];exact wU (by rw[kQ];exact fw (by omega))
 ·rw[Nat.zero_mul,Nat.zero_mod]
theorem tO(m:Bool × Nat)(b:Nat)(h:0<m.2):gm m b 0=0:=by rw[ir];exact gj m b h
noncomputable def stC(m:Bool × Nat):Bool:=decide (pw m 0=1)&&(aP (ae m-1)).all λk=>decide (gm m (pw m k).toNat (pw m (1%(ae m-1))).toNat=(pw m ((k+1)%(ae m-1))).toNat)
theorem NS:aM.all stC=true:=by decide +kernel
theorem Y8(m:Bool × Nat)(hm:m∈aM):pw m 0=1:=by
 have h:=dn.mp NS m hm
 simp only[stC,dm,decide_eq_true_eq]at h
 exact h.1
noncomputable def pN(m:Bool × Nat)(k:Nat):Nat:=(pw m (k%(ae m-1))).toNat
theorem Y9{m:Bool × Nat}(hm:m∈aM)(k:Nat):pN m k<ae m:=by
 have iF:=(dk hm).lo
 have:=DW hm (vk k (show 0<ae m-1 by omega))
 unfold pN
 omega
theorem NT{m:Bool × Nat}(hm:m∈aM)(k:Nat):gm m (pN m k) (pN m 1)=pN m (k+1):=by
 have iF:=(dk hm).lo
 have h:=dn.mp NS m hm
 simp only[stC,dm,decide_eq_true_eq,dn,dE]at h
 have h2:=h.2 (k%(ae m-1)) (vk k (by omega))
 rw[BK]at h2
 exact h2
theorem NU{m:Bool × Nat}(hm:m∈aM)(i:Nat):∀j,gm m (pN m i) (pN m j)=pN m (i+j)
 | 0=>by
  have e:pN m 0=1:=by unfold pN;rw[Nat.zero_mod,Y8 m hm];rfl
  rw[e,tN (Y9 hm i)];rfl
 | j+1=>by rw[<-NT hm j,<- ke (cV m hm),NU hm i j,NT hm];rfl
theorem NV{m:Bool × Nat}(hm:m∈aM){a b:Nat}(a1:1<=a)(a2:a<ae m)(b1:1<=b)(b2:b<ae m):((gm m a b:Nat):Int)=pw m ((lg m a+lg m b)%((ae m:Int)-1)).toNat:=by
 have iF:=(dk hm).lo
 obtain⟨g0,g1,g2⟩:=DX hm a1 a2
 obtain⟨f0,f1,f2⟩:=DX hm b1 b2
 have ea:pN m (lg m a).toNat=a:=by unfold pN;rw[xX (by omega),g2];rfl
 have eb:pN m (lg m b).toNat=b:=by unfold pN;rw[xX (by omega),f2];rfl
 have e:=NU hm (lg m a).toNat (lg m b).toNat
 rw[ea,eb]at e
 rw[e]
 have ei:((lg m a+lg m b)%((ae m:Int)-1)).toNat=((lg m a).toNat+(lg m b).toNat)%(ae m-1):=by
  have:(((lg m a).toNat+(lg m b).toNat)%(ae m-1):Nat)=((lg m a+lg m b)%((ae m:Int)-1)):=by
   rw[sF,Kk,xY g0,xY f0,Int.natCast_sub (by omega)];rfl
  omega
 rw[ei]
 have:=DW hm (vk ((lg m a).toNat+(lg m b).toNat) (show 0<ae m-1 by omega))
 unfold pN
 omega
theorem Za{p a:Nat}(hp:p∈fM)(ha:a<ae (true,p)):o7 (fl (true,p)) (dr (fl (true,p))) a=(aP (ae (true,p))).map λb=>((gm (true,p) a b:Nat):Int):=by
 have hm:(true,p)∈aM:=eG _ (BL hp)
 have h0:=cV _ hm
 have hF:=dk hm
 have hlen:=hF.len
 unfold o7
 split
 ·rename_i h
  subst h
  rw[hlen]
  refine vm (by simp) λi h1 h2=>?_
  simp[gj _ _ h0]
 ·rename_i h
  rw[<-hlen,Sm,cH,cS,tO _ _ h0]
  congr 1
  apply vh
  intro b hb
  have hb:=dE.mp hb
  show(fl (true,p)).getD (((dr (fl (true,p))).getD a 0+(dr (fl (true,p))).getD (b+1) 0)%((fl (true,p)).length:Int)).toNat 0=((gm (true,p) a (b+1):Nat):Int)
  rw[NV hm (by omega) ha (by omega) (by omega),show(((fl (true,p)).length:Nat):Int)=(ae (true,p):Int)-1 by omega]
  rfl
theorem NW{p a b:Nat}(hp:p∈fM)(ha:a<ae (true,p))(hb:b<ae (true,p)):dw (aD (o7 (fl (true,p)) (dr (fl (true,p))) a)) (b:Int)=some (.int (gm (true,p) a b:Nat)):=by
 refine nD (by omega) ?_
 rw[Za hp ha]
 unfold aD
 rw[g5,cI,cI,kE hb];rfl
theorem NX{p a:Nat}(hp:p∈fM)(ha:a<ae (true,p)):dw (tM (fl (true,p)) (dr (fl (true,p)))) (a:Int)=some (.lst false (aD (o7 (fl (true,p)) (dr (fl (true,p))) a))):=by
 have hF:=dk (m:=(true,p)) (eG _ (BL hp))
 refine nD (by omega) ?_
 unfold tM
 rw[g5,cI,kE (by rw[hF.len];exact ha)];rfl
end L3
namespace L3
open PySem L2 Mf
theorem Zb(C:Addr)(p:Nat):D.obj C (fN "bits"++[("products":Str)]) (BE D.sh [.int p,.int (ae (true,p)),.int ((bl (ae (true,p)):Nat)-1),.lst true (aD (fl (true,p))),.lst true (aD (dr (fl (true,p)))),.int (fst (true,p)),.lst true (o8 (fl (true,p)) (dr (fl (true,p))))])=zu C p:=by
 simp only[cH,iS]
 rw[Y6]
 simp only[di,mr,gL];rfl
theorem Zc(C:Addr)(p:Nat):D.obj C (fN "prime") (BE D.sh [.int p,.int p,.int ((bl p:Nat)-1),.lst true (aD (fl (false,p))),.lst true (aD (dr (fl (false,p)))),.int (fst (false,p))])=zt C p:=by
 simp only[cH,iS,di,mr,gL];rfl
theorem zx{n:Nat}(h:(true,n)∈aM):n∈fM:=by
 rcases cw.mp h with h | h
 ·obtain⟨x,hx,e⟩:=cx.mp h
  cases e;exact hx
 ·obtain⟨x,hx,e⟩:=cx.mp h
  cases e
theorem Zd{n:Nat}(h:(false,n)∈aM):n∈mG:=by
 rcases cw.mp h with h | h
 ·obtain⟨x,hx,e⟩:=cx.mp h
  cases e
 ·obtain⟨x,hx,e⟩:=cx.mp h
  cases e;exact hx
open Classical in
theorem NY{α:Type}{sh:Bool}{xs:List D}{ax:List (Str × Nat)}{n:Nat}{g0:e7}{te:aC}{ai:Dl}{Q:D->Dl->Prop}(l:List α)(e g:α->D)(gO:xs.map D.sh=l.map e)(inj:∀a b,e a=e b->a=b)
  (hx:∀a∈l,g0 (e a) (eB ax n ai) λaF=>te aF λd _=>d=g a) (hg:∀d δ (P P':Dl->Prop),(∀ag,P ag->P' ag)->g0 d δ P->g0 d δ P') (dz:(sh&&ax.all (fE ai))=true\/∀a∈l,(g a).fr=true) (hl:l.length<=sizeLine) (hq:Q (.lst true (l.map g)) ai):qP sh xs ax n g0 ig te ai Q:=by
 let f:D->D:=λx=>if h:∃a∈l,e a=x then g h.choose else .ak
 have hf:∀a∈l,f (e a)=g a:=λa ha=>by
  have h:∃b∈l,e b=e a:=⟨a,ha,rfl⟩
  show(if h:∃b∈l,e b=e a then g h.choose else .ak)=g a
  rw[dif_pos h]
  exact congrArg g (inj _ _ h.choose_spec.2)
 refine⟨λ_=>true,f,λx h=>?_,dz.imp id λh x hx _=>?_,?_,?_⟩
 ·rw[gO]at h
  obtain⟨a,ha,rfl⟩:=cx.mp h
  rw[hf a ha]
  exact hg _ _ _ _ (λag h=>⟨rfl,λ_=>h⟩) (hx a ha)
 ·rw[gO]at hx
  obtain⟨a,ha,rfl⟩:=cx.mp hx
  rw[hf a ha];exact h a ha
 ·have:=congrArg Bg gO
  simp at this
  omega
 ·rw[gO,Sl.mpr (λ_ _=>rfl),cS,show l.map (f ∘ e)=l.map g from vh λa ha=>hf a ha]
  exact hq
theorem NZ{i1 i2:Nat}(d:D)(δ:Dl)(P P':Dl->Prop)(h:∀ag,P ag->P' ag)(q:gM i1 i2 d δ P):gM i1 i2 d δ P':=by
 unfold gM at q ⊢
 split at q
 ·exact h _ q
 ·exact q
theorem Ze(xs ys:List Int):(dD (aD xs) (aD ys)).map D.sh=(xs.zip ys).map λz=>D.tup [.int z.1,.int z.2]:=by
 rw[DB,gL,gL]
 unfold dD aD
 rw[BF,xZ,sE]
theorem Zf{p x y:Nat}(hp:p≠0)(hx:bl x<bl p):md (cl x y) p=(if y%2=1 then x else 0) ^^^ md (cl (if bl (2*x)=bl p then 2*x ^^^ p else 2*x) (y/2)) p:=by
 have e0:md (if y%2=1 then x else 0) p=(if y%2=1 then x else 0):=by
  split
  ·exact wU hx
  ·exact wU (by rw[kQ];exact fw hp)
 rw[Lw,zw hp,e0]
 congr 1
 split
 ·rw[nE,zw hp,NO hp,jF]
 ·rfl
theorem Zg{p x:Nat}(hp:p≠0)(hx:bl x<bl p):bl (if bl (2*x)=bl p then 2*x ^^^ p else 2*x)<bl p:=by
 have h2:=V9 x
 have h0:=fw hp
 split
 ·rename_i h
  have n0:2*x≠0:=λz=>by rw[z,kQ]at h;omega
  have a1:=gD (2*x)
  have a2:=gD p
  have b1:=sV n0
  have b2:=sV hp
  rw[h]at a1 b1
  obtain⟨k,hk⟩:∃k,bl p=k+1:=⟨bl p-1,by omega⟩
  rw[hk]at a1 a2 b1 b2 ⊢
  have:=dy.mpr (Lm a1 a2 b1 b2)
  omega
 ·omega
end L3
namespace L3
open PySem L2 PySem.Spec PyProof.Rows
structure zy(P:Program)(w:World)(K:PySem.W.Frag)(mg:Str->Option Value)(base:Heap)(n:Nat)(m:Str)(C:Addr)(sp:oN):Prop where
 cls:dZ K C
 ex:∃f fd ps,Meth K C m f/\aS P w K mg base (kW P w) n f fd ps (wu sp)/\Binds K fd ps []
section
variable{X:Cx}{e o:Expr}{es:List Expr}{f m x:Str}{pos p apos:Pos}{to:aC}{ta:cj}{n:Nat}
noncomputable def mI(MO:Addr->oN->Prop)(m:Str)(to:aC)(ta:cj):aC:=λδ Q=>to δ λd ai=>∃C ns xs sp,d=.obj C ns xs/\MO C sp/\m ∉ ns/\ta ai λds aF=>sp ((D.obj C ns xs::ds).map D.sh) (λr=>((D.obj C ns xs::ds).all D.pl||r.fr)=true/\Q r aF) λ_=>False
theorem Zh{pl:Sem Bool}(ho:PE X o (lB to))(hr:bN n X.A)(ha:PA X (e::es) (lA ta))
  (cK:starEach (e::es) X.env=(false,eval e X.env)::starEach es X.env:=by rfl) (bO:(backTo pos (starEach es X.env)).any (·.1)=false:=by rfl)
  (ht:eval (.Call (.Attribute o m apos) (e::es) [] pos) X.env=(do
   let ov<-eval o X.env
   standAt apos.atName
   let (f,first)<-holding [ov] (getMethod ov m pl)
   callWith pos f first (backTo pos (starEach (e::es) X.env)) (backToKw pos (keywordEach [] X.env))):=by rfl) :
  PE X (.Call (.Attribute o m apos) (e::es) [] pos) (lE (mI (zy X.prog X.w X.K X.mg X.base n m) m to ta)):=by
 intro pins s σ H Q I zz
 obtain⟨B,F,δ,ts,Qd,c,q,k⟩:=zz
 refine PySem.W.methodCall_KW (pl:=pl) (aE (ho pins s σ H (λx H1=>∃d ai F1,S F1 H1 [d] [x]/\aj B F1 H1 σ ai ts/\aa F F1/\aa H H1/\∃C ns xs sp,d=.obj C ns xs/\zy X.prog X.w X.K X.mg X.base n m C sp/\m ∉ ns/\ta ai λds aF=>sp ((D.obj C ns xs::ds).map D.sh) (λr=>((D.obj C ns xs::ds).all D.pl||r.fr)=true/\Qd r aF) λ_=>False) I
  ⟨B,F,δ,ts,_,c,q,λd ai v F1 H1 hq f1 h1 c1 s1=>⟨d,ai,F1,s1,c1,f1,h1,hq⟩⟩) λu s1 ⟨x,H1,I1,rx,d,ai,F1,sd,c1,f1,h1,C,ns,xs,sp,ed,M,hm,hq⟩=>?_) ht
 subst ed
 obtain⟨a,dx,ws,rfl,ea,hl,r0⟩:=DQ sd
 obtain rfl:u=du a:=rx
 obtain⟨f,fd,ps,wK,FO,hb⟩:=M.ex
 refine Cj I1 ea M.cls wK (NB hm) ?_
 refine PySem.W.callWith_K (first:=[.ref a]) (h₀:=X.base) I.ok.mod.kI wK.kp (aE (ha pos pins s1 σ H1 (λvs H2=>∃ds aF F2,S F2 H2 ds vs/\aj B F2 H2 σ aF ts/\aa F1 F2/\aa H1 H2/\sp ((D.obj C ns xs::ds).map D.sh) (λr=>((D.obj C ns xs::ds).all D.pl||r.fr)=true/\Qd r aF) λ_=>False) I1
  ⟨B,F1,ai,ts,_,c1,hq,λds aF vs F2 H2 hq f2 h2 c2 s2=>⟨ds,aF,F2,s2,c2,f2,h2,hq⟩⟩) λus s2 ⟨vs,H2,I2,r,ds,aF,F2,DR,c2,f2,h2,gB⟩=>⟨I2.cJ,?_⟩) cK bO
 refine yw (us:=.ref a::us) (vs:=.ref a::vs) (eo:=[]) (DA FO) hr hb .nil Dz I2 (.cons rfl r) ?_
 rw[m9]
 exact yL (sp:=λds Q=>sp ds Q λ_=>False) c2 (.obj (h2 _ _ ea) hl (r0.shared f2 h2) DR) gB λd v F' H' hd hf hs c'=>k d aF v F' H' hd (f1.trans (f2.trans hf)) (h1.trans (h2.trans hs)) c'
end
section
variable{X:Cx}{tb th:bX}{body X5:List Stmt}{X6:Stmt}{K:Str}{Kc:Addr}{kp X7 pos:Pos}
end
structure N0(K:PySem.W.Frag)(C:Addr):Prop where
 cls:dZ K C
 ha:PySem.W.findIn K (.ref C) "__class__"=some (some (.builtin "object.__class__"))
 hn:PySem.W.specialIn K (.builtin "object.__class__") "__get__"=some (some (.builtin "getset_descriptor.__get__"))
 Ck:PySem.W.takesIn K (.builtin "object.__class__")=some true
 hm:PySem.W.mroIn K C (.type "object")=some true
end L3
namespace L3
open PySem L2 Mf
theorem N1{m:Bool × Nat}(hm:m∈aM){a b:Nat}(a1:1<=a)(a2:a<ae m)(b1:1<=b)(b2:b<ae m):∃r:Nat,pw m ((lg m a-lg m b)%((ae m:Int)-1)).toNat=r/\r<ae m/\gm m r b=a:=by
 have hF:=dk hm
 have iF:=hF.lo
 have n0:=kF (lg m a-lg m b) (show(ae m:Int)-1≠0 by omega)
 have n1:=kG (lg m a-lg m b) (show(0:Int)<(ae m:Int)-1 by omega)
 obtain⟨p1,p2,p3⟩:=DW hm (k:=((lg m a-lg m b)%((ae m:Int)-1)).toNat) (by omega)
 obtain⟨g0,g1,g2⟩:=DX hm a1 a2
 refine⟨(pw m ((lg m a-lg m b)%((ae m:Int)-1)).toNat).toNat,by omega,by omega,?_⟩
 have e:=NV hm (a:=(pw m ((lg m a-lg m b)%((ae m:Int)-1)).toNat).toNat) (by omega) (by omega) b1 b2
 rw[p3,xY n0,Int.emod_add_emod,Int.sub_add_cancel,Int.emod_eq_of_lt g0 g1,g2]at e
 omega
end L3
namespace L3
open PySem L2 PySem.Spec PyProof.Rows
section
variable{X:Cx}{e o a:Expr}{es:List Expr}{f m y:Str}{pos p apos q:Pos}{t to ta':aC}{ta:cj}{n:Nat}{P:Program}{w:World}{K:PySem.W.Frag}{mg:Str->Option Value}{base:Heap}
theorem o9(he:PE X e (lB t))(hK:K=X.K:=by rfl)(hb:attributeBase e f X.env (eval e X.env)=eval e X.env:=by rfl):PE X (.Attribute e f pos) (lB (mE K t f)):=by
 subst hK;exact YY he hb
theorem DY{pl:Sem Bool}(ho:PE X o (lB to))(hr:bN n X.A)(ha:PA X (e::es) (lA ta))(hP:P=X.prog:=by rfl)(hw:w=X.w:=by rfl)(hK:K=X.K:=by rfl)(hm:mg=X.mg:=by rfl)(hb:base=X.base:=by rfl)
  (cK:starEach (e::es) X.env=(false,eval e X.env)::starEach es X.env:=by rfl) (bO:(backTo pos (starEach es X.env)).any (·.1)=false:=by rfl)
  (ht:eval (.Call (.Attribute o m apos) (e::es) [] pos) X.env=(do
   let ov<-eval o X.env
   standAt apos.atName
   let (f,first)<-holding [ov] (getMethod ov m pl)
   callWith pos f first (backTo pos (starEach (e::es) X.env)) (backToKw pos (keywordEach [] X.env))):=by rfl) :
  PE X (.Call (.Attribute o m apos) (e::es) [] pos) (lE (mF (wJ P w K mg base n m) m to ta)):=by
 subst hP hw hK hm hb;exact YZ ho hr ha cK bO ht
theorem Zi{pl:Sem Bool}(ho:PE X o (lB to))(hr:bN n X.A)(ha:PA X (e::es) (lA ta))(hP:P=X.prog:=by rfl)(hw:w=X.w:=by rfl)(hK:K=X.K:=by rfl)(hm:mg=X.mg:=by rfl)(hb:base=X.base:=by rfl)
  (cK:starEach (e::es) X.env=(false,eval e X.env)::starEach es X.env:=by rfl) (bO:(backTo pos (starEach es X.env)).any (·.1)=false:=by rfl)
  (ht:eval (.Call (.Attribute o m apos) (e::es) [] pos) X.env=(do
   let ov<-eval o X.env
   standAt apos.atName
   let (f,first)<-holding [ov] (getMethod ov m pl)
   callWith pos f first (backTo pos (starEach (e::es) X.env)) (backToKw pos (keywordEach [] X.env))):=by rfl) :
  PE X (.Call (.Attribute o m apos) (e::es) [] pos) (lE (mI (zy P w K mg base n m) m to ta)):=by
 subst hP hw hK hm hb;exact Zh ho hr ha cK bO ht
end
theorem zA:∀m∈Mf.aM,1<=Mf.bl m.2/\Mf.bl m.2<=7:=by decide +kernel
end L3
namespace L3
open PySem L2 Mf
noncomputable def gp(m:Bool × Nat)(a b:Nat):Nat:=if m.1 then a ^^^ b else(a+b)%m.2
noncomputable def gl(m:Bool × Nat)(a b:Nat):Int:=if m.1 then(a ^^^ b:Nat)else((a:Int)-b)%m.2
noncomputable def gd(m:Bool × Nat)(xs ys:List Nat):Nat:=(eY (gm m) xs ys).foldl (gp m) 0
noncomputable def pd(c:Int):Bool × Nat:=if c%2=0 then(true,fM.getD (c/2%21).toNat 0)else(false,mG.getD (c/2%18).toNat 0)
theorem Zj(c:Int):pd c∈aM:=by
 unfold pd
 split
 ·refine eG _ (cx.mpr ⟨_,?_,rfl⟩)
  have h:(c/2%21).toNat<fM.length:=by
   have:=kG (c/2) (show(0:Int)<21 by decide)
   show _<21
   omega
  rw[aR,aQ h]
  exact cN _
 ·refine cR _ (cx.mpr ⟨_,?_,rfl⟩)
  have h:(c/2%18).toNat<mG.length:=by
   have:=kG (c/2) (show(0:Int)<18 by decide)
   show _<18
   omega
  rw[aR,aQ h]
  exact cN _
noncomputable def cL(m:Bool × Nat):D:=.tup [.bl m.1,.int m.2]
theorem zB(cb cp:Addr)(m:Bool × Nat):fD cb cp m=.obj (if m.1 then cb else cp) (if m.1 then fN "bits"++[("products":Str)]else fN "prime") (if m.1 then pD (true,m.2)++[.lst false (tM (fl (true,m.2)) (dr (fl (true,m.2))))]else pD (false,m.2)):=by
 obtain⟨k,n⟩:=m
 cases k<;>rfl
theorem Zk(m:Bool × Nat)(x:Str)(h:x ∉ (["bits","prime","many","wide","powers","logs","step","products"]:List Str)):x ∉ (if m.1 then fN "bits"++[("products":Str)]else fN "prime"):=by
 obtain⟨k,n⟩:=m
 intro z
 apply h
 cases k
 ·have z:x∈fN "prime":=z
  simp[fN]at z
  simp only[cg]
  rcases z with z | z | z | z | z | z<;>simp[z]
 ·have z:x∈fN "bits"++[("products":Str)]:=z
  simp[fN]at z
  simp only[cg]
  rcases z with z | z | z | z | z | z | z<;>simp[z]
theorem Zl(cb cp:Addr)(m:Bool × Nat):(fD cb cp m).sh=fD cb cp m:=by rw[zB];rfl
theorem Zm(cb cp:Addr)(m:Bool × Nat):(fD cb cp m).pl=true:=by rw[zB];rfl
theorem N2(m:Bool × Nat):(cL m).sh=cL m:=rfl
theorem Zn(m:Bool × Nat):(cL m).pl=true:=rfl
theorem DZ(m:Bool × Nat)(a b:Nat):gp m a b=gp m b a:=by
 unfold gp
 split
 ·rw[J6]
 ·rw[Nat.add_comm]
theorem Zo(m:Bool × Nat)(a b c:Nat):gp m (gp m a b) c=gp m a (gp m b c):=by
 unfold gp
 split
 ·rw[pY]
 ·rw[BK,Nat.add_mod_mod,Nat.add_assoc]
theorem Zp{m:Bool × Nat}(h:0<m.2)(a b c:Nat):gm m (gp m a b) c=gp m (gm m a c) (gm m b c):=by
 unfold gm gp
 split
 ·rw[nE,zw (by omega)]
 ·rw[vj,Kj,<- vj,Nat.add_mul,BK,Nat.add_mod_mod]
theorem Zq{m:Bool × Nat}(h:0<m.2)(a b c:Nat):gm m c (gp m a b)=gp m (gm m c a) (gm m c b):=by rw[ir,Zp h,ir m a,ir m b]
theorem Zr:∀m∈aM,m.1=true->2<=bl m.2:=by decide +kernel
theorem Zs{m:Bool × Nat}(hm:m∈aM){a b:Nat}(ha:a<ae m)(hb:b<ae m):gp m a b<ae m:=by
 have h0:=cV m hm
 obtain⟨k,n⟩:=m
 cases k with
 | true=>exact sX ha hb
 | false=>exact vk _ h0
theorem eO{m:Bool × Nat}(hm:m∈aM)(a b:Nat):gm m a b<ae m:=by
 have h0:=cV m hm
 obtain⟨k,n⟩:=m
 cases k with
 | true =>
  have h2:=Zr (true,n) hm rfl
  have:=(vU (show n≠0 by have:0<n:=h0;omega) (cl a b)).2
  refine(NQ rfl).mpr ?_
  show bl (md (cl a b) n)<=bl n-1
  omega
 | false=>exact vk _ h0
theorem N3{m:Bool × Nat}{a:Nat}(ha:a<ae m):gp m 0 a=a:=by
 obtain⟨k,n⟩:=m
 cases k with
 | true=>exact nj a
 | false=>show(0+a)%n=a;rw[Nat.zero_add];exact xX ha
theorem Zt{m:Bool × Nat}{a:Nat}(ha:a<ae m):gp m a 0=a:=by rw[DZ];exact N3 ha
theorem Zu{m:Bool × Nat}(hm:m∈aM){a b:Nat}(ha:a<ae m)(hb:b<ae m):∃r:Nat,gl m a b=r/\r<ae m/\gp m r b=a:=by
 have h0:=cV m hm
 obtain⟨k,n⟩:=m
 cases k with
 | true=>exact⟨a ^^^ b,rfl,sX ha hb,by show a ^^^ b ^^^ b=a;rw[pY,xW,jF]⟩
 | false =>
  have h0:0<n:=h0
  have ha:a<n:=ha
  have hb:b<n:=hb
  refine⟨(a+(n-b))%n,?_,vk _ h0,?_⟩
  ·show((a:Int)-b)%n=_
   rw[sF,Kk,Int.natCast_sub (by omega),show((a:Int)+((n:Int)-b))=((a:Int)-b)+n by omega,Int.add_emod_right]
  ·show((a+(n-b))%n+b)%n=a
   rw[BK,show a+(n-b)+b=a+n by omega,Nat.add_mod_right,xX ha]
end L3
namespace L2
open PySem PySem.Spec PyProof.Rows
section
variable{X:Cx}{a:Expr}{ta:TA}{p pos:Pos}{tg:Expr}
end
end L2
namespace L3
open PySem L2 PySem.Spec PyProof.Rows
section
variable{F H:Hp}{K:PySem.W.Frag}{p:Addr}{ws:List V}{xs:List D}
end
section
variable{X:Cx}{a:Expr}{ta:cj}{p pos:Pos}{tg:Expr}
end
end L3
namespace L3
open PySem L2 Mf
noncomputable def px(m:Bool × Nat)(x:Nat):Nat->Nat
 | 0=>1
 | k+1=>gm m (px m x k) x
noncomputable def AllLt(n:Nat)(l:List Nat):Prop:=∀a∈l,a<n
theorem AllLt.getD{n:Nat}{l:List Nat}(h:AllLt n l)(h0:0<n)(k:Nat):l.getD k 0<n:=by
 rw[aR]
 cases e:l[k]? with
 | none=>exact h0
 | some v=>exact h v (vd e)
end L3
namespace L3
open PySem L2 PySem.Spec PyProof.Rows
theorem Zv(n:Nat)(l:List Nat):(au l).all (aI n)=true:=by
 rw[dj,qa,dn]
 intro a _
 exact oJ n _
theorem pf(n:Nat)(o:Bool)(l:List Nat):aI (n+1) (.lst o (au l))=true:=Zv n l
theorem ph(o o':Bool)(a b:List Nat):bx (.lst o (au a)) (.lst o' (au b))=decide (a=b):=by
 unfold au
 rw[oK]
 congr 1
 apply propext
 constructor
 ·intro h
  have:=congrArg (BE Int.toNat) h
  have e:(Int.toNat ∘ λ(n:Nat)=>(n:Int))=id:=by funext x;rfl
  rw[cS,cS,e,List.map_id,List.map_id]at this
  exact this
 ·intro h;rw[h]
theorem kg{l:List Nat}{k:Int}(h0:0<=k)(h:k.toNat<l.length):dw (au l) k=some (.int ((l.getD k.toNat 0:Nat):Int)):=by
 refine nD h0 ?_
 rw[dj,cI,aQ h,aR,aQ h];rfl
theorem N4{n:Nat}{k:Int}(h0:0<=k)(h:k.toNat<n):fV n k=some k.toNat:=by
 unfold fV
 rw[if_pos h0,if_pos (by omega)]
theorem rM{n:Nat}(k:Int)(h:k=n):(((aP k.toNat).map λ(k:Nat)=>D.int (0+(k:Int))).map D.sh)=(aP n).map λ(i:Nat)=>D.int (i:Int):=by
 subst h
 rw[wb,g5]
 simp
theorem Zw{n nn:Nat}{k:Int}(h:k=n)(hn:n<=1000000){δ:Dl}{Q:D->Dl->Prop}(q:Q (.lst true (au (aT n 0))) δ):qP true ((aP k.toNat).map λ(k:Nat)=>D.int (0+(k:Int))) [] nn (gN 0) ig (dC (D.int 0)) δ Q:=by
 refine eC (aP n) (λ(i:Nat)=>D.int (i:Int)) (λ_=>D.int ((0:Nat):Int)) (rM _ h) iN (λk hk=>?_) (.inr λ_ _=>rfl) (by rw[dQ,sL];omega) ?_
 ·exact rfl
 ·rw[show((aP n).map λ_=>D.int ((0:Nat):Int))=au (aT n 0) by rw[dj,BM,List.map_const',dQ]]
  exact q
theorem Zx(l:List Nat)(k v:Nat):(au l).set k (.int (v:Nat))=au (l.set k v):=by
 rw[dj,dj,List.map_set]
theorem Zy(l:List Nat):(au l).all D.fr=true:=mv _
theorem mJ(o:Bool)(l:List Nat):(D.lst o (au l)).sh=.lst false (au l):=by rw[di,ka]
theorem kh(l:List Nat):(D.lst true (au l)).fr=true:=by rw[eL,Zy];rfl
section
variable{X:Cx}
noncomputable def mK:jj:=λds Q=>match ds with
 | [.int i]=>Q (.int i)
 | [.bl b]=>Q (.int (if b then 1 else 0))
 | _=>False
theorem Zz:iL X (.type "int") mK:=iL.of Ut λvs H Q zz=>by
 obtain⟨B,F,σ,δ,ts,ds,Qd,c,s,q,k⟩:=zz
 unfold mK at q
 split at q
 ·obtain⟨v,rfl,s1⟩:=j5 s
  cases s1
  exact .inl ⟨_,rfl,k _ _ _ q (aa.refl _) (c.pushS (.int .nil) rfl)⟩
 ·obtain⟨v,rfl,s1⟩:=j5 s
  cases s1
  exact .inr ⟨_,rfl,k _ _ _ q (aa.refl _) (c.pushS (.int .nil) rfl)⟩
 ·exact q.elim
end
end L3
namespace L3
open PySem L2 Mf
noncomputable def cM(m:Bool × Nat)(a b:Nat):Nat:=(gl m a b).toNat
theorem tP{m:Bool × Nat}(hm:m∈aM){a b:Nat}(ha:a<ae m)(hb:b<ae m):gl m a b=(cM m a b:Nat)/\cM m a b<ae m/\gp m (cM m a b) b=a:=by
 obtain⟨r,e,h1,h2⟩:=Zu hm ha hb
 have:cM m a b=r:=by unfold cM;rw[e];rfl
 rw[this]
 exact⟨e,h1,h2⟩
theorem N5{n:Nat}{f:Nat->Nat->Nat}:∀{a b:List Nat},(∀x∈a,∀y∈b,f x y<n)->AllLt n (eY f a b)
 | [],_,_=>by intro x hx;simp at hx
 | _::_,[],_=>by intro x hx;simp at hx
 | x::a,y::b,h=>by
  intro z hz
  rw[List.zipWith_cons_cons]at hz
  rcases cg.mp hz with rfl | hz
  ·exact h x (by simp) y (by simp)
  ·exact N5 (λx hx y hy=>h x (by simp[hx]) y (by simp[hy])) z hz
theorem ZA(xs ys:List Nat):(dD (au xs) (au ys)).map D.sh=(xs.zip ys).map λz=>D.tup [.int (z.1:Int),.int (z.2:Int)]:=by
 unfold au
 rw[Ze,List.zip_map,cS];rfl
theorem N6{sh:Bool}{ax:List (Str × Nat)}{n i1 i2:Nat}{te:aC}{ai:Dl}{Q:D->Dl->Prop}(f:Nat->Nat->Nat){A B:List Nat}(hx:∀x∈A,∀y∈B,gM i1 i2 (.tup [.int (x:Int),.int (y:Int)]) (eB ax n ai) λaF=>te aF λd _=>d=.int ((f x y:Nat):Int))
  (hl:A.length<=100000) (hq:Q (.lst true (au (eY f A B))) ai):qP sh (dD (au A) (au B)) ax n (gM i1 i2) ig te ai Q:=by
 refine NY (A.zip B) (λz=>D.tup [.int (z.1:Int),.int (z.2:Int)]) (λz=>D.int ((f z.1 z.2:Nat):Int)) (ZA A B) (λa b h=>?_) (λz hz=>hx z.1 (u9 hz).1 z.2 (u9 hz).2) NZ (.inr λ_ _=>rfl) (by rw[x6,sL];omega) ?_
 ·injection h with h
  simp at h
  exact BN (by omega) (by omega)
 ·rw[show((A.zip B).map λz=>D.int ((f z.1 z.2:Nat):Int))=au (eY f A B) by rw[dj,xZ,sE,sE]]
  exact hq
end L3
namespace L3
open PySem L2 PySem.Spec PyProof.Rows
theorem aj.ZC{B:Bs}{F H:Hp}{σ:L2.St}{δ:Dl}{ps ts:List (D × V)}{p:Addr}{o:HO}{A1:List Addr}(c:aj B F H σ δ (ps++ts))(hp:H p=none)(r:R F (upd H p o) (ps.map (·.1)) (ps.map (·.2)) A1):p ∉ A1:=λh=>by
 obtain⟨A,C,r0,_,_,_⟩:=c.own
 rw[kD,kD]at r0
 obtain⟨v1,v2,B1,B2,e,rfl,h1,h2⟩:=R.split r0
 have l1:(ps.map (·.2)).length=v1.length:=by rw[<-h1.length];simp
 obtain⟨rfl,rfl⟩:=Bw e l1
 have g1:=h1.grow (aa.refl F) (aa.upd (o:=o) hp) λa ha=>(h1.lists a ha).2
 have:A1=B1:=R.inj r g1
 subst this
 obtain⟨ws,e⟩:=(h1.lists p h).1
 rw[hp]at e;cases e
theorem aj.join{B:Bs}{F H:Hp}{σ:L2.St}{δ:Dl}{ts:List (D × V)}{p p' r:Addr}{xs ys:List D}{ws dA:List V}(c:aj B F H σ δ ((.lst true ys,.ref p')::(.lst true xs,.ref p)::ts))(e1:H p=some (.lst ws))(e2:H p'=some (.lst dA))(hr:H r=none) :
  aj B F (upd H r (.lst (ws++dA))) σ δ ((.lst true (xs++ys),.ref r)::ts):=by
 refine aj.pack (ps:=[(.lst true ys,.ref p'),(.lst true xs,.ref p)]) c (aa.upd hr) λA1 r1 nd=>?_
 have ZD:=aj.ZC (ps:=[(.lst true ys,.ref p'),(.lst true xs,.ref p)]) (ts:=ts) c hr r1
 have n1:p≠r:=λz=>by rw[z,hr]at e1;cases e1
 have n2:p'≠r:=λz=>by rw[z,hr]at e2;cases e2
 have r1:R F (upd H r (.lst (ws++dA))) [.lst true ys,.lst true xs] [.ref p',.ref p] A1:=r1
 cases r1 with
 | @own _ wy _ Ay _ _ By hy fy ry rb =>
  cases rb with
  | @own _ wx _ Ax _ _ Bx hx fx rx rc =>
   cases rc
   rw[aN n2,e2]at hy;cases hy
   rw[aN n1,e1]at hx;cases hx
   refine⟨r::(Ax++Ay),by simpa using R.own bM (c.ext.free hr) (rx.append ry) .nil,?_,λa ha=>?_⟩
   ·refine jD.mpr ⟨λz=>ZD ?_,?_⟩
    ·rcases cw.mp z with z | z<;>simp[z]
    ·have sl:(Ay++Ax).Sublist (p'::Ay++(p::Ax++[])):=by
      rw[m9]
      exact(((Su p Ax).append_left Ay).trans (Su p' _))
     exact nq.nodup_iff.mp (nd.sublist sl)
   ·simp only[cg,cw]at ha ⊢
    rcases ha with rfl | ha | ha
    ·exact .inr hr
    ·simp[ha]
    ·simp[ha]
section
variable{X:Cx}{a b:Expr}{ta tb:aC}{pos:Pos}
noncomputable def pj(ta tb:aC):aC:=λδ Q=>ta δ λx ai=>tb ai λy aF=>∃xs ys,x=.lst true xs/\y=.lst true ys/\xs.length+ys.length<=sizeLine/\Q (.lst true (xs++ys)) aF
theorem ZE(ha:PE X a (lE ta))(hb:PE X b (lE tb)):PE X (.BinOp a .Add b pos) (lE (pj ta tb)) :=
 cQ (vI Lh ha hb) λσ H Q ⟨B,F,δ,ts,Qd,c,q,k⟩ =>
  ⟨B,F,δ,ts,_,c,q,λx ai v F1 H1 q1 f1 h1 c1=>⟨B,F1,ai,(x,v)::ts,_,c1,q1,λy aF w F2 H2 q2 f2 h2 c2=>by
   obtain⟨xs,ys,rfl,rfl,hz,hq⟩:=q2
   obtain⟨p',dA,rfl,e2,s2⟩:=fF c2.top c2.ext
   obtain⟨p,ws,rfl,e1,s1⟩:=fF c2.pop.top c2.ext
   refine⟨p,p',ws,dA,rfl,rfl,e1,e2,by rw[<-s1.length,<- s2.length];exact hz,λr hr=>?_⟩
   exact k _ aF _ F2 _ hq (f1.trans f2) ((h1.trans h2).trans (aa.upd hr)) (c2.join e1 e2 hr)⟩⟩
end
theorem N7{a b:List Nat}(h:au a=au b):a=b:=by
 have:=ph true true a b
 rw[h,show bx (D.lst true (au b)) (D.lst true (au b))=true from(ph _ _ _ _).trans (decide_eq_true rfl)]at this
 exact of_decide_eq_true this.symm
theorem rN{o:Bool}(a b:List Nat)(h:D.lst o (au a)=D.lst o (au b)):a=b:=N7 (by injection h)
end L3
namespace L3
open PySem L2 Mf
end L3
namespace L2
open PySem PySem.Spec PyProof.Rows
end L2
namespace L3
open PySem L2 PySem.Spec PyProof.Rows Mf
end L3
namespace L3
open PySem L2 Mf
noncomputable def cf(l:List Nat)(k:Nat):Nat:=l.getD k 0
theorem rO{l:List Nat}{k:Nat}(h:l.length<=k):cf l k=0:=by
 unfold cf;rw[aR,iB h];rfl
theorem de{m:Bool × Nat}(hm:m∈aM){l:List Nat}(h:AllLt (ae m) l)(k:Nat):cf l k<ae m:=h.getD (by have:=(dk hm).lo;omega) k
theorem cp6(a:Nat)(l:List Nat)(k:Nat):cf (a::l) (k+1)=cf l k:=rfl
theorem N8(n k:Nat):cf (aT n 0) k=0:=by
 unfold cf
 rw[aR,va]
 split<;>rfl
theorem N9(m:Bool × Nat)(x:Nat):cM m x x=0:=by
 obtain⟨k,n⟩:=m
 cases k with
 | true=>show(((x ^^^ x:Nat):Int)).toNat=0;rw[xW];rfl
 | false=>show(((x:Int)-(x:Int))%(n:Int)).toNat=0;rw[Int.sub_self,Int.zero_emod];rfl
end L3
namespace L3
open PySem L2 PySem.Spec PyProof.Rows
section
variable{B:Bs}{F H:Hp}{σ:L2.St}{δ:Dl}{ts ps:List (D × V)}{i k:Nat}{p q:Addr}{l1 l2 ys L0:List D}{ws tE:List V}
end
section
variable{X:Cx}{F H:Hp}{e b:Expr}{pos p p2 p3 pr apos bI yW:Pos}{t ti te:aC}{x y:Str}{i j:Nat}
end
end L3
namespace L3
structure Rg(N:Nat)(p q:Nat->Nat->Nat):Prop where
 pc:∀a b,p a b=p b a
 pa:∀a b c,p (p a b) c=p a (p b c)
 mc:∀a b,q a b=q b a
 ma:∀{a b c},a<N->b<N->c<N->q (q a b) c=q a (q b c)
 dl:∀a b c,q a (p b c)=p (q a b) (q a c)
 z:∀{a},a<N->p 0 a=a
 qz:∀a,q a 0=0
 one:∀{a},a<N->q 1 a=a
 lp:∀{a b},a<N->b<N->p a b<N
 lq:∀a b,q a b<N
 ng:∀{a},a<N->∃b,b<N/\p a b=0
section
variable{N:Nat}{p q:Nat->Nat->Nat}
noncomputable def sm(p:Nat->Nat->Nat):Nat->(Nat->Nat)->Nat
 | 0,_=>0
 | n+1,f=>p (sm p n f) (f n)
theorem Rg.pos(r:Rg N p q):0<N:=nk (jC _) (r.lq 0 0)
theorem Rg.z'(r:Rg N p q){a:Nat}(h:a<N):p a 0=a:=by rw[r.pc];exact r.z h
theorem Rg.ZF(r:Rg N p q){a b c:Nat}(ha:a<N)(hb:b<N)(hc:c<N)(h:p a c=p b c):a=b:=by
 obtain⟨d,_,e⟩:=r.ng hc
 have:=congrArg (λx=>p x d) h
 simp only[r.pa,e]at this
 rw[r.z' ha,r.z' hb]at this
 exact this
theorem cF{f g:Nat->Nat}:∀{n:Nat},(∀j,j<n->f j=g j)->sm p n f=sm p n g
 | 0,_=>rfl
 | n+1,h=>by rw[sm,sm,cF λj hj=>h j (by omega),h n (by omega)]
theorem mL(r:Rg N p q){f:Nat->Nat}:∀{n:Nat},(∀j,j<n->f j<N)->sm p n f<N
 | 0,_=>r.pos
 | n+1,h=>r.lp (mL r λj hj=>h j (by omega)) (h n (by omega))
theorem gQ(r:Rg N p q){f:Nat->Nat}:∀{n:Nat},(∀j,j<n->f j=0)->sm p n f=0
 | 0,_=>rfl
 | n+1,h=>by rw[sm,gQ r λj hj=>h j (by omega),h n (by omega)];exact r.z r.pos
theorem Rg.four(r:Rg N p q)(a b c d:Nat):p (p a b) (p c d)=p (p a c) (p b d):=by
 rw[r.pa,r.pa,<- r.pa b,<- r.pa c,r.pc b c]
theorem pk(r:Rg N p q)(f g:Nat->Nat):∀n,sm p n (λj=>p (f j) (g j))=p (sm p n f) (sm p n g)
 | 0=>(r.z r.pos).symm
 | n+1=>by rw[sm,pk r f g n,sm,sm,r.four]
theorem ki(r:Rg N p q)(c:Nat)(f:Nat->Nat):∀n,sm p n (λj=>q c (f j))=q c (sm p n f)
 | 0=>(r.qz c).symm
 | n+1=>by rw[sm,ki r c f n,sm,r.dl]
theorem zC(r:Rg N p q)(F:Nat->Nat->Nat)(k:Nat):∀n,sm p n (λi=>sm p k λj=>F i j)=sm p k λj=>sm p n λi=>F i j
 | 0=>(gQ r λ_ _=>rfl).symm
 | n+1=>by
  rw[sm,zC r F k n,<- pk r];rfl
theorem zD(r:Rg N p q){f:Nat->Nat}(n:Nat):∀k,(∀j,j<n+k->f j<N)->sm p (n+k) f=p (sm p n f) (sm p k λj=>f (n+j))
 | 0,h=>(r.z' (mL r λj hj=>h j (by omega))).symm
 | k+1,h=>by
  rw[<-Nat.add_assoc,sm,zD r n k λj hj=>h j (by omega),sm,r.pa]
theorem ZG(r:Rg N p q){f:Nat->Nat}{n n':Nat}(hn:n<=n')(h:∀j,j<n'->f j<N)(hz:∀j,n<=j->j<n'->f j=0):sm p n' f=sm p n f:=by
 obtain⟨k,rfl⟩:=Sv hn
 rw[zD r n k h,gQ r (f:=λj=>f (n+j)) λj hj=>hz _ (by omega) (by omega),r.z' (mL r λj hj=>h j (by omega))]
noncomputable def ds(p q:Nat->Nat->Nat)(s c:Nat->Nat)(n:Nat):Nat:=sm p (n+1) λj=>q (c j) (s (n-j))
theorem ZH(r:Rg N p q)(s c:Nat->Nat)(n:Nat):ds p q s c n<N:=mL r λj _=>r.lq _ _
noncomputable def fk(k:Nat)(b:Nat->Nat)(j:Nat):Nat:=if j<k then 0 else b (j-k)
theorem Oa(r:Rg N p q)(s b:Nat->Nat){k n:Nat}(h:k<=n):ds p q s (fk k b) n=ds p q s b (n-k):=by
 unfold ds
 obtain⟨d,rfl⟩:=Sv h
 rw[show k+d+1=k+(d+1) by omega,zD r k (d+1) λj _=>r.lq _ _,gQ r (n:=k),r.z (mL r λj _=>r.lq _ _)]
 ·rw[BO]
  refine cF λj _=>?_
  unfold fk
  rw[if_neg (by omega),BO,show k+d-(k+j)=d-j by omega]
 ·intro j hj
  unfold fk
  rw[if_pos hj,r.mc,r.qz]
structure BI(N:Nat)(p q:Nat->Nat->Nat)(s:Nat->Nat)(n L:Nat)(c b:Nat->Nat)(o:Nat):Prop where
 c0:c 0=1
 cz:∀j,L<j->c j=0
 cl:∀j,c j<N
 ln:L<=n
 kp:∀i,L<=i->i<n->ds p q s c i=0
 mn:∀L1 c1,c1 0=1->(∀j,L1<j->c1 j=0)->(∀j,c1 j<N)->(∀i,L1<=i->i<n->ds p q s c1 i=0)->L<=L1
 b0:b 0=0
 bz:∀j,n+1-L<j->b j=0
 bl:∀j,b j<N
 bk:∀i,n+1-L<=i->i<n->ds p q s b i=0
 bo:n+1-L<=n->ds p q s b n=o
theorem Ob(r:Rg N p q){b:Nat->Nat}(h:∀j,b j<N)(j:Nat):fk 1 b j<N:=by
 unfold fk
 split
 ·exact r.pos
 ·exact h _
theorem Oc{b:Nat->Nat}{n:Nat}(h:∀j,n<j->b j=0)(j:Nat)(hj:n+1<j):fk 1 b j=0:=by
 unfold fk
 rw[if_neg (by omega)]
 exact h _ (by omega)
theorem BI.same(r:Rg N p q){s c b:Nat->Nat}{n L o:Nat}(I:BI N p q s n L c b o)(h:ds p q s c n=0):BI N p q s (n+1) L c (fk 1 b) o where
 c0:=I.c0
 cz:=I.cz
 cl:=I.cl
 ln:=by have:=I.ln;omega
 kp:=λi h1 h2=>by
  by_cases e:i=n
  ·rw[e];exact h
  ·exact I.kp i h1 (by omega)
 mn:=λL1 c1 h1 h2 h3 h4=>I.mn L1 c1 h1 h2 h3 λi a b=>h4 i a (by omega)
 b0:=rfl
 bz:=λj hj=>Oc I.bz j (by have:=I.ln;omega)
 bl:=Ob r I.bl
 bk:=λi h1 h2=>by
  have:=I.ln
  rw[Oa r s b (show 1<=i by omega)]
  exact I.bk _ (by omega) (by omega)
 bo:=λh1=>by
  rw[Oa r s b (by omega)]
  exact I.bo (by have:=I.ln;omega)
end
end L3
namespace L3
section
variable{N:Nat}{p q:Nat->Nat->Nat}
theorem Od{s:Nat->Nat}{j n:Nat}(h:n<j):fk j s n=0:=if_pos h
theorem wV(s:Nat->Nat){j n:Nat}(h:j<=n):fk j s n=s (n-j):=if_neg (by omega)
theorem Rg.zq(r:Rg N p q)(a:Nat):q 0 a=0:=by rw[r.mc];exact r.qz a
theorem zE(r:Rg N p q)(s c:Nat->Nat){n M:Nat}(h:n<M):ds p q s c n=sm p M λj=>q (c j) (fk j s n):=by
 unfold ds
 rw[ZG r (show n+1<=M by omega) (λj _=>r.lq _ _) λj h1 _=>by rw[Od (by omega),r.qz]]
 exact cF λj hj=>by rw[wV s (by omega)]
theorem ZI(r:Rg N p q)(s a b:Nat->Nat)(n:Nat):ds p q s (λj=>p (a j) (b j)) n=p (ds p q s a n) (ds p q s b n):=by
 unfold ds
 rw[<-pk r]
 exact cF λj _=>by rw[r.mc (p _ _),r.dl,r.mc (a j),r.mc (b j)]
theorem ZJ(r:Rg N p q)(s t c:Nat->Nat)(n:Nat):ds p q (λj=>p (s j) (t j)) c n=p (ds p q s c n) (ds p q t c n):=by
 unfold ds
 rw[<-pk r]
 exact cF λj _=>r.dl _ _ _
theorem ZK(r:Rg N p q){a b s:Nat->Nat}(ha:∀j,a j<N)(hb:∀j,b j<N)(hs:∀j,s j<N)(n:Nat):ds p q s (ds p q b a) n=ds p q (ds p q s b) a n:=by
 have jP:∀(s:Nat->Nat) (k j:Nat),(∀j,s j<N)->fk k s j<N:=λs k j h=>by
  unfold fk
  split
  ·exact r.pos
  ·exact h _
 rw[zE r (ds p q s b) a (xO n),zE r s (ds p q b a) (xO n)]
 have e1:sm p (n+1) (λk=>q (ds p q b a k) (fk k s n))=sm p (n+1) λk=>sm p (n+1) λi=>q (a i) (q (fk i b k) (fk k s n)):=cF λk hk=>by
  rw[zE r b a hk,r.mc,<- ki r]
  exact cF λi _=>by rw[r.mc,r.ma (ha i) (jP b i k hb) (jP s k n hs)]
 rw[e1,zC r]
 refine cF λi hi=>?_
 rw[ki r (a i)]
 congr 1
 rw[wV _ (by omega),zE r s b (show n-i<n+1-i by omega),show n+1=i+(n+1-i) by omega,zD r i _ λj _=>r.lq _ _,gQ r (n:=i) λj hj=>by rw[Od hj,r.zq]]
 rw[r.z (mL r λj _=>r.lq _ _),BO]
 refine cF λj hj=>?_
 rw[wV b (by omega),BO,wV s (by omega),wV s (by omega),show n-(i+j)=n-i-j by omega]
theorem ZL(r:Rg N p q){u s:Nat->Nat}{d e:Nat}(hu:∀j,d<=j->u j=0)(hs:∀j,e<=j->s j=0)(n:Nat)(h:d+e<=n):ds p q s u n=0:=gQ r λj _=>by
 by_cases h1:d<=j
 ·rw[hu j h1,r.zq]
 ·rw[hs _ (by omega),r.qz]
noncomputable def Mk(N:Nat)(p q:Nat->Nat->Nat)(a r0 r1:Nat->Nat):Prop:=∃(u0 u1:Nat->Nat) (d:Nat),(∀j,u0 j<N)/\(∀j,u1 j<N)/\(∀j,d<=j->u0 j=0)/\(∀j,d<=j->u1 j=0)/\∀k,a k=p (ds p q r0 u0 k) (ds p q r1 u1 k)
theorem Mk.next(r:Rg N p q){a r0 r1 r2 t:Nat->Nat}{e:Nat}(h:Mk N p q a r0 r1)(l1:∀j,r1 j<N)(lt:∀j,t j<N)(ft:∀j,e<=j->t j=0)(h2:∀k,r0 k=p (ds p q r1 t k) (r2 k)):Mk N p q a r1 r2:=by
 obtain⟨u0,u1,d,a1,a2,a3,a4,a5⟩:=h
 refine⟨λj=>p (ds p q t u0 j) (u1 j),u0,d+e,λj=>r.lp (ZH r _ _ _) (a2 j),a1,λj hj=>?_,λj hj=>a3 j (by omega),λk=>?_⟩
 ·show p (ds p q t u0 j) (u1 j)=0
  rw[ZL r a3 ft j hj,a4 j (by omega)];exact r.z r.pos
 ·rw[a5 k,ZI r,ZK r a1 lt l1,show r0=λk=>p (ds p q r1 t k) (r2 k) from funext h2,ZJ r,r.pa,r.pa,r.pc (ds p q r2 u0 k)]
end
end L3
namespace L3
open PySem L2 Mf
theorem rg{m:Bool × Nat}(hm:m∈aM):Rg (ae m) (gp m) (gm m) where
 pc:=DZ m
 pa:=Zo m
 mc:=ir m
 ma:=λ_ _ _=>ke (cV m hm) _ _ _
 dl:=λa b c=>Zq (cV m hm) b c a
 z:=N3
 qz:=λa=>tO m a (cV m hm)
 one:=jo
 lp:=Zs hm
 lq:=eO hm
 ng:=λ{a} ha=>by
  have g:=tP hm (a:=0) (b:=a) (by omega) ha
  exact⟨_,g.2.1,(DZ m _ _).trans g.2.2⟩
theorem ZM(p:Nat->Nat->Nat)(l:List Nat):l.foldl p 0=sm p l.length λj=>l.getD j 0:=by
 have key:∀n,n<=l.length->(l.take n).foldl p 0=sm p n λj=>l.getD j 0:=by
  intro n
  induction n with
  | zero=>intro _;rfl
  | succ n ih =>
   intro h
   rw[Kf,aQ (by omega),BP,ih (by omega),sm,aR,aQ (show n<l.length by omega)]
   rfl
 have:=key l.length (bD _)
 rw[List.take_length]at this
 exact this
theorem ZN{m:Bool × Nat}(hm:m∈aM)(f:Nat)(b:List Nat)(j:Nat):cf (b.map (gm m f)) j=gm m f (cf b j):=by
 unfold cf
 rw[aR,cI,aR]
 cases b[j]? with
 | none=>exact(tO m f (cV m hm)).symm
 | some x=>rfl
theorem ZO{m:Bool × Nat}(hm:m∈aM){a b:Nat}(ha:a<ae m)(hb:b<ae m)(h0:b≠0):∃r,r<ae m/\gm m r b=a:=by
 by_cases a0:a=0
 ·exact⟨0,by have:=(dk hm).lo;omega,by rw[a0];exact gj m b (cV m hm)⟩
 ·obtain⟨r,_,h1,h2⟩:=N1 hm (show 1<=a by omega) ha (show 1<=b by omega) hb
  exact⟨r,h1,h2⟩
theorem D0{p q:Nat->Nat->Nat}{s s' c:Nat->Nat}{n:Nat}(h:∀j,j<n+1->s j=s' j):ds p q s c n=ds p q s' c n:=cF λj hj=>by rw[h (n-j) (by omega)]
theorem BI.other{N:Nat}{p q:Nat->Nat->Nat}(r:Rg N p q){s s' c b:Nat->Nat}{n L o:Nat}(I:BI N p q s n L c b o)(h:∀j,j<n->s j=s' j):BI N p q s' n L c b o where
 c0:=I.c0
 cz:=I.cz
 cl:=I.cl
 ln:=I.ln
 kp:=λi h1 h2=>by rw[<-D0 λj hj=>h j (by omega)];exact I.kp i h1 h2
 mn:=λL1 c1 h1 h2 h3 h4=>I.mn L1 c1 h1 h2 h3 λi a b=>by rw[D0 λj hj=>h j (by omega)];exact h4 i a b
 b0:=I.b0
 bz:=I.bz
 bl:=I.bl
 bk:=λi h1 h2=>by rw[<-D0 λj hj=>h j (by omega)];exact I.bk i h1 h2
 bo:=λh1=>by
  rw[<-I.bo h1]
  refine cF λj hj=>?_
  by_cases e:j=0
  ·rw[e,I.b0,r.mc,r.qz,r.mc,r.qz]
  ·rw[h (n-j) (by omega)]
theorem BI.start{m:Bool × Nat}(hm:m∈aM)(s:Nat->Nat):BI (ae m) (gp m) (gm m) s 0 0 (cf [1]) (fk 1 (cf [1])) 1:=by
 have lo:=(dk hm).lo
 have cl:∀j,cf [1] j<ae m:=λj=>by
  cases j with
  | zero=>exact lo
  | succ j=>exact ck (show 0<2 by decide) lo
 have cz:∀j,0<j->cf [1] j=0:=λj hj=>rO (show([1]:List Nat).length<=j from hj)
 exact⟨rfl,cz,cl,bD _,λi _ h=>absurd h (Kl i),λ_ _ _ _ _ _=>jC _,rfl,λj hj=>Oc cz j hj,Ob (rg hm) cl,λi _ h=>absurd h (Kl i),λh=>absurd h (by omega)⟩
end L3
namespace L3
open PySem L2 PySem.Spec PyProof.Rows
section
variable{X:Cx}{i j:Nat}{x y:Str}{p pos pos' apos bI:Pos}
end
section
variable{X:Cx}{e:Expr}{t:aC}{p pos:Pos}
end
section
variable{X:Cx}
end
end L3
namespace L3
open PySem L2 Mf
noncomputable def aJ(o:Bool)(T:List (List Nat)):List D:=T.map λr=>.lst o (au r)
theorem iO(o:Bool)(T:List (List Nat)):(aJ o T).length=T.length:=by unfold aJ;rw[bV]
theorem dM(o:Bool)(T:List (List Nat)):(aJ o T).map D.sh=aJ false T:=by
 unfold aJ
 rw[cS]
 exact vh λr _=>mJ o r
theorem rP(T:List (List Nat)):(aJ false T).all D.pl=true:=by
 unfold aJ
 rw[qa,dn]
 intro r _
 show(D.lst false (au r)).pl=true
 rw[fB,my];rfl
theorem wW(T:List (List Nat)):(aJ true T).all D.fr=true:=by
 unfold aJ
 rw[qa,dn]
 intro r _
 exact kh r
theorem D1(o:Bool)(S T:List (List Nat)):aJ o S++aJ o T=aJ o (S++T):=by unfold aJ;rw[kD]
theorem rQ(o:Bool)(T:List (List Nat))(lo hi:Option Int):gh (aJ o T) lo hi=aJ o (gh T lo hi):=by
 unfold aJ gh
 rw[bV,List.map_take,List.map_drop]
theorem rR(o:Bool){T:List (List Nat)}{i:Nat}(h:i<T.length):dw (aJ o T) (i:Int)=some (.lst o (au T[i])):=by
 refine L3.Cp ?_
 unfold aJ
 rw[cI,aQ h];rfl
theorem ZP(n:Nat)(o:Bool)(T:List (List Nat)):(aJ o T).all (aI (n+1))=true:=by
 unfold aJ
 rw[qa,dn]
 intro r _
 exact pf _ _ _
theorem Oe(n:Nat)(o o':Bool)(T:List (List Nat)):aI (n+2) (.lst o (aJ o' T))=true:=ZP n o' T
theorem Of(o o':Bool):∀(a b:List (List Nat)),bx.eN (aJ o a) (aJ o' b)=decide (a=b)
 | [],[]=>rfl
 | [],_::_=>by simp[aJ,bx.eN]
 | _::_,[]=>by simp[aJ,bx.eN]
 | x::xs,y::ys=>by
  show(bx (.lst o (au x)) (.lst o' (au y))&&bx.eN (aJ o xs) (aJ o' ys))=_
  rw[Of o o' xs ys,ph,sD];simp
theorem Og(o o' o1 o2:Bool)(a b:List (List Nat)):bx (.lst o (aJ o1 a)) (.lst o' (aJ o2 b))=decide (a=b):=Of o1 o2 a b
open Classical in
theorem ZQ{α:Type}{sh:Bool}{xs:List D}{ax:List (Str × Nat)}{n:Nat}{g0:e7}{tt:et}{te:aC}{ai:Dl}{Q:D->Dl->Prop}(l:List α)(e g:α->D)(kp:α->Bool)(gO:xs.map D.sh=l.map e)(inj:∀a b,e a=e b->a=b)
  (hx:∀a∈l,g0 (e a) (eB ax n ai) λaF=>tt aF λb fZ=>b=kp a/\(kp a=true->te fZ λd _=>d=g a)) (dz:(sh&&ax.all (fE ai))=true\/∀a∈l,kp a=true->(g a).fr=true) (hl:l.length<=sizeLine) (hq:Q (.lst true ((l.filter kp).map g)) ai):qP sh xs ax n g0 tt te ai Q:=by
 have pick:∀{β:Type} (h:α->β) (z:β),∃f:D->β,∀a∈l,f (e a)=h a:=λh z=>⟨λx=>if w:∃a∈l,e a=x then h w.choose else z,λa ha=>by
  have w:∃b∈l,e b=e a:=⟨a,ha,rfl⟩
  show(if w:∃b∈l,e b=e a then h w.choose else z)=h a
  rw[dif_pos w]
  exact congrArg h (inj _ _ w.choose_spec.2)⟩
 obtain⟨f,hf⟩:=pick g .ak
 obtain⟨p,hp⟩:=pick kp false
 refine⟨p,f,λx h=>?_,dz.imp id λh x cW=>?_,?_,?_⟩
 ·rw[gO]at h
  obtain⟨a,ha,rfl⟩:=cx.mp h
  rw[hp a ha,hf a ha]
  exact hx a ha
 ·rw[gO]at cW
  obtain⟨a,ha,rfl⟩:=cx.mp cW
  rw[hp a ha,hf a ha];exact h a ha
 ·have:=congrArg Bg gO
  simp at this
  omega
 ·rw[gO,List.filter_map,cS,show l.filter (p ∘ e)=l.filter kp from List.filter_congr λa ha=>hp a ha,show(l.filter kp).map (f ∘ e)=(l.filter kp).map g from vh λa ha=>hf a (xM.mp ha).1]
  exact hq
theorem ZR{o:Bool}{G:List (List Nat)}{i:Nat}{d:D}(h:(fI (aJ o G))[i]?=some d):∃hi:i<G.length,d=.tup [.int i,.lst o (au G[i])]:=by
 unfold fI aJ at h
 rw[BG,cI]at h
 by_cases hi:i<G.length
 ·rw[aQ hi]at h
  exact⟨hi,(cu h).symm⟩
 ·rw[iB (by omega)]at h;cases h
theorem ZS(r:List Nat):(fI (au r)).map D.sh=(aP r.length).map λ(i:Nat)=>D.tup [.int (i:Int),.int ((r.getD i 0:Nat):Int)]:=by
 apply BD
 intro i
 unfold fI
 rw[dj,cI,BG,cI,cI]
 by_cases hi:i<r.length
 ·have e:r.getD i 0=r[i]:=by rw[aR,aQ hi];rfl
  rw[aQ hi,kE hi]
  show _=some (D.tup [D.int (i:Int),D.int ((r.getD i 0:Nat):Int)])
  rw[e];rfl
 ·rw[iB (show r.length<=i by omega),iB (show(aP r.length).length<=i by simpa using hi)];rfl
theorem ZT{r:List Nat}(h:∃x∈r,x≠0):((aP r.length).filter λi=>r.getD i 0 != 0)[0]?=some (r.findIdx (· != 0)):=by
 obtain⟨x,hx,h0⟩:=h
 have hl:r.findIdx (· != 0)<r.length:=Km ⟨x,hx,by simpa using h0⟩
 rw[<-List.head?_eq_getElem?,List.head?_filter,List.find?_range_eq_some]
 refine⟨?_,dE.mpr hl,λj hj=>?_⟩
 ·rw[aR,aQ hl]
  exact Sw (w:=hl)
 ·have:=Sx hj
  rw[aR,aQ (by omega)]
  simpa using this
noncomputable def aq(T:List (List Nat)):Nat:=(T.headD []).length
noncomputable def iu(T:List (List Nat))(j:Nat):Option Nat:=T.findIdx? λr=>r.getD j 0 != 0
noncomputable def fc(m:Bool × Nat)(T:List (List Nat))(l:List Nat)(j:Nat):List (List Nat):=T.map λr=>eY (λx y=>cM m x (gm m (r.getD j 0) y)) r l
noncomputable def wX(m:Bool × Nat)(b:Nat):Nat:=((aP (ae m)).find? λr=>gm m r b==1).getD 0
theorem Oh{m:Bool × Nat}(hm:m∈aM){b r:Nat}(hr:r<ae m)(h:gm m r b=1):wX m b=r:=by
 have m0:=cV m hm
 unfold wX
 cases e:(aP (ae m)).find? λr=>gm m r b==1 with
 | none =>
  have:=List.find?_eq_none.mp e r (dE.mpr hr)
  simp[h]at this
 | some r' =>
  have h':gm m r' b=1:=by simpa using List.find?_some e
  have l':r'<ae m:=dE.mp (Sn e)
  show r'=r
  rw[<-tN hr,<- h',<- ke m0,ir m r r',ke m0,h,tN l']
noncomputable def RT(N w:Nat)(T:List (List Nat)):Prop:=∀r∈T,r.length=w/\AllLt N r
theorem RT.app{N w:Nat}{S T:List (List Nat)}(a:RT N w S)(b:RT N w T):RT N w (S++T):=λr hr=>(cw.mp hr).elim (a r) (b r)
theorem Oi{m:Bool × Nat}(hm:m∈aM){w j:Nat}{T:List (List Nat)}{l:List Nat}(h:RT (ae m) w T)(hl:l.length=w):RT (ae m) w (fc m T l j):=λr hr=>by
 obtain⟨r,h1,rfl⟩:=cx.mp hr
 obtain⟨a,b⟩:=h r h1
 exact⟨by rw[qe,a,hl,vg],N5 λx hx y hy=>(tP hm (b x hx) (eO hm _ y)).2.1⟩
noncomputable def df(m:Bool × Nat)(T:List (List Nat))(i p:Nat):List Nat:=(T.getD i []).map (gm m (wX m ((T.getD i []).getD p 0)))
noncomputable def fO(m:Bool × Nat)(s:List (List Nat) × List (List Nat))(p:Nat):List (List Nat) × List (List Nat):=match iu s.2 p with
 | none=>s
 | some i=>(fc m s.1 (df m s.2 i p) p++[df m s.2 i p],fc m (s.2.take i++s.2.drop (i+1)) (df m s.2 i p) p)
noncomputable def gR(m:Bool × Nat)(G:List (List Nat))(k:Nat):List (List Nat) × List (List Nat):=(aP k).foldl (fO m) ([],G)
noncomputable def bW(m:Bool × Nat)(G:List (List Nat)):List (List Nat):=(gR m G (aq G)).1
theorem D2(m:Bool × Nat)(G:List (List Nat))(k:Nat):gR m G (k+1)=fO m (gR m G k) k:=by
 unfold gR
 rw[Kn,BP];rfl
theorem zF{T:List (List Nat)}{j i:Nat}(h:iu T j=some i):∃hi:i<T.length,T[i].getD j 0≠0/\T.getD i []=T[i]:=by
 obtain⟨hi,h1,_⟩:=Sy.mp h
 exact⟨hi,by simpa using h1,by rw[aR,aQ hi];rfl⟩
structure wY(N w n:Nat)(s:List (List Nat) × List (List Nat)):Prop where
 a:RT N w s.1
 b:RT N w s.2
 l:s.1.length+s.2.length<=n
theorem ZU{m:Bool × Nat}(hm:m∈aM){w n p:Nat}{s:List (List Nat) × List (List Nat)}(h:wY (ae m) w n s):wY (ae m) w n (fO m s p):=by
 unfold fO
 split
 ·exact h
 ·rename_i i e
  obtain⟨hi,h1,h2⟩:=zF e
  have hl:(df m s.2 i p).length=w:=by unfold df;rw[bV,h2];exact(h.b _ (cN hi)).1
  have hr:RT (ae m) w [df m s.2 i p]:=λr hr=>by
   rw[iU]at hr
   refine⟨by rw[hr];exact hl,λx hx=>?_⟩
   rw[hr]at hx
   obtain⟨y,_,rfl⟩:=cx.mp hx
   exact eO hm _ _
  refine⟨(Oi hm h.a hl).app hr,Oi hm (λr hr=>h.b r ?_) hl,?_⟩
  ·rcases cw.mp hr with hr | hr
   ·exact BC hr
   ·exact BB hr
  ·have:=h.l
   unfold fc
   rw[iQ,bV,bV,iQ,xP,xQ]
   show s.1.length+1+_<=n
   omega
theorem wZ{m:Bool × Nat}(hm:m∈aM){w:Nat}{G:List (List Nat)}(h:RT (ae m) w G):∀k,wY (ae m) w G.length (gR m G k)
 | 0=>⟨(λr hr=>nomatch hr),h,Bf (Nat.zero_add _)⟩
 | k+1=>by rw[D2];exact ZU hm (wZ hm h k)
theorem ZV(j:Nat)(l:List Nat):decide ((j:Int)∈l.map λ(n:Nat)=>(n:Int))=l.contains j:=by
 rw[sD,decide_eq_true_iff,qf,cx]
 exact⟨λ⟨a,h,e⟩=>(show a=j by omega) ▸ h,λh=>⟨j,h,rfl⟩⟩
theorem ZW{o:Bool}{G:List (List Nat)}{f:List Nat->Nat}{k:Nat}{d:D}(h:(dD (au (G.map f)) (aJ o G))[k]?=some d):∃hk:k<G.length,d=.tup [.int ((f G[k]:Nat):Int),.lst o (au G[k])]:=by
 unfold dD aJ at h
 rw[dj,sG,cI,cI,cI]at h
 by_cases hk:k<G.length
 ·rw[aQ hk]at h
  exact⟨hk,(cu h).symm⟩
 ·rw[iB (by omega)]at h;cases h
theorem Oj{α:Type}(a:α->Nat)(b:α->Nat):∀(l:List α) (x:List Nat),(l.foldl (λx z=>x.set (a z) (b z)) x).length=x.length
 | [],_=>rfl
 | z::l,x=>by rw[sA,Oj a b l,ve]
theorem ZX(G:List (List Nat))(u:List Nat):(dD (aJ false G) (au u)).map D.sh=(G.zip u).map λz=>D.tup [.lst false (au z.1),.int ((z.2:Nat):Int)]:=by
 rw[DB,dM,ka]
 unfold dD aJ
 rw[dj,BF,xZ,sE]
end L3
namespace L2
open PySem PySem.Spec PyProof.Rows
theorem ZY{M:Model}{A:Around}{E:Value->Shared->Prop}{s:Shared}{scope:Scope}{globals:Addr}{cl:List (Str × Addr)}{qual:Str}{env:Env}{bi:Addr}{Q:Env->Shared->Prop}
  (hQ:Q (newEnv scope s.heap.objs.size globals (cellsFrom (s.heap.objs.size+1) scope.names cl) qual none .none (some env) bi) { s with heap:=pushCells (s.heap.push { cls:=.type "dict",data:=.dict #[] }) scope.names }) :
  wpAny M A (newFunctionEnv scope globals cl [] qual none .none (some env) bi) Q E s:=by
 simp only[newFunctionEnv,Sz,if_true]
 refine wpAny_bind (wpAny_alloc (wpAny_bind (wpAny_layCells _ (λname kind cells=>by cases e:kind==BQ<;>simp[e]) _ _ _ _ ?_)))
 rw[List.forIn_nil]
 refine wpAny_bind (wpAny_pure (wpAny_pure ?_))
 have z:({ s with heap:=s.heap.push { cls:=.type "dict",data:=.dict #[] } }:Shared).heap.objs.size=s.heap.objs.size+1:=u7 ..
 rw[z]
 exact hQ
theorem w5:∀(ns:List (Str × NameKind)) (n:Nat) (acc:List (Str × Addr)) (y:Str) (c:Addr),(cellsFrom n ns acc).lookup y=some c->(n<=c/\(y,BQ)∈ns)\/acc.lookup y=some c
 | [],_,_,_,_,h=>.inr h
 | (z,k)::r,n,acc,y,c,h=>by
  unfold cellsFrom at h
  split at h
  ·rename_i hk
   rcases w5 r (n+1) _ y c h with⟨h1,h2⟩ | h1
   ·exact .inl ⟨by omega,fm _ h2⟩
   ·rw[eV]at h1
    cases q:y==z with
    | true =>
     rw[q]at h1;cases h1
     exact .inl ⟨bD _,by rw[eq_of_beq q,eq_of_beq hk];exact jz⟩
    | false=>rw[q]at h1;exact .inr h1
  ·rcases w5 r n acc y c h with⟨h1,h2⟩ | h1
   ·exact .inl ⟨h1,fm _ h2⟩
   ·exact .inr h1
theorem D3:∀(ns:List (Str × NameKind)) (n:Nat) (acc:List (Str × Addr)),(∀y z c,acc.lookup y=some c->acc.lookup z=some c->y=z)->(∀y c,acc.lookup y=some c->c<n) ->
  ∀y z c,(cellsFrom n ns acc).lookup y=some c->(cellsFrom n ns acc).lookup z=some c->y=z
 | [],_,_,i,_,y,z,c,h1,h2=>i y z c h1 h2
 | (u,k)::r,n,acc,i,b,y,z,c,h1,h2=>by
  unfold cellsFrom at h1 h2
  split at h1
  ·rw[if_pos (by assumption)]at h2
   refine D3 r (n+1) ((u,n)::acc) (λy z c e1 e2=>?_) (λy c e=>?_) y z c h1 h2
   ·rw[eV]at e1 e2
    cases q1:y==u with
    | true =>
     rw[q1]at e1;cases e1
     cases q2:z==u with
     | true=>rw[eq_of_beq q1,eq_of_beq q2]
     | false=>rw[q2]at e2;exact absurd (b _ _ e2) (dO _)
    | false =>
     rw[q1]at e1
     cases q2:z==u with
     | true=>rw[q2]at e2;cases e2;exact absurd (b _ _ e1) (dO _)
     | false=>rw[q2]at e2;exact i y z c e1 e2
   ·rw[eV]at e
    cases q:y==u with
    | true=>rw[q]at e;cases e;exact xO _
    | false=>rw[q]at e;exact Nat.lt_succ_of_lt (b _ _ e)
  ·rw[if_neg (by assumption)]at h2
   exact D3 r n acc i b y z c h1 h2
theorem D4:∀(ns:List (Str × NameKind)) (n:Nat) (acc:List (Str × Addr)) (y:Str) (c:Addr),(y,BQ)∈ns->(cellsFrom n ns acc).lookup y=some c->n<=c
 | [],_,_,_,_,m,_=>nomatch m
 | (z,k)::r,n,acc,y,c,m,h=>by
  unfold cellsFrom at h
  split at h
  ·rename_i hk
   rcases cg.mp m with e | m
   ·have e1:y=z:=(Prod.mk.inj e).1
    rcases w5 r (n+1) _ y c h with⟨h1,_⟩ | h1
    ·exact x8 h1
    ·rw[eV,e1,beq_self_eq_true]at h1
     exact Bf (cu h1)
   ·exact x8 (D4 r (n+1) _ y c m h)
  ·rename_i hk
   rcases cg.mp m with e | m
   ·cases e;exact absurd rfl hk
   ·exact D4 r n acc y c m h
noncomputable def dg(X:Cx)(scope:Scope)(N:List Str)(cl:List (Str × Addr))(C:Addr)(s:Shared)(H:Hp)(fp:List Addr):Cx :=
 { yB X scope N (cellsFrom (C+1) scope.names cl) C s H fp with fn:=λy=>scope.names.contains (y,BQ) }
section
variable{X:Cx}{scope:Scope}{cl:List (Str × Addr)}
theorem ZZ{pins:List (Addr × Obj)}{σ:St}{H:Hp}{s:Shared}{fp:List Addr}{C:Addr}(I:Inv X pins σ H s)(gC:scope.kind=.function)(hC:s.heap.objs.size<=C)
  (fj:∀y c,cl.lookup y=some c->X.env.cells.lookup y=some c) (Z0:∀y,((relabel scope X.env).names.lookup y=some .cell\/(relabel scope X.env).names.lookup y=some .free)->∃c,(cellsFrom (C+1) scope.names cl).lookup y=some c)
  (hf:∀b∈fp,gx X pins H b) (ho:∀b∈fp,∃o,s.heap.get? b=some o/\∀v,o.data≠.cell v) (N:List Str):(dg X scope N cl C s H fp).Ok where
 mod:=I.ok.mod
 kind:=gC
 glob:=I.ok.glob
 blt:=I.ok.blt
 above:=hC
 inj:=D3 scope.names (C+1) cl (λy z c h1 h2=>I.ok.inj y z c (fj _ _ h1) (fj _ _ h2)) λy c e=>by
  obtain⟨v,o,ho,_⟩:=I.cell y c (fj y c e)
  exact Nat.lt_succ_of_le (sk (ck (bH ho) hC))
 has:=Z0
 qq:=λy c h e=>dW hC (x8 (D4 _ _ _ y c (qf.mp h) e))
 hd:=I.ok.hd
 frames:=I.ok.frames
 vv:=.inl rfl
 vw:=λb hb=>⟨by
  obtain⟨o,e,_⟩:=ho b hb
  exact dU (ck (bH e) hC),λy c e z=>by
  rcases w5 _ _ _ y c e with⟨h1,_⟩ | h1
  ·obtain⟨o,e,_⟩:=ho b hb
   rw[z]at h1
   exact absurd (ck (bH e) (dW hC (x8 h1))) (dO _)
  ·exact(hf b hb).2.2.2.2.1 y c (fj _ _ h1) z⟩
 bs:=I.bs
 gv:=dW I.ok.gv I.sz
 sP:=λb o e hb=>by
  rcases(hf b hb).2.2.2.1 with z | z
  ·exact I.ok.sP b o e z
  ·exact absurd (ck (bH (I.ok.bs b o e).1) z) (dO _)
 sQ:=λb hb z=>(cg.mp (I.vy b z)).elim (hf b hb).2.1 (hf b hb).2.2.1
 eQ:=I.stack
 g7:=I.ye
end
theorem D6:∀(ns:List (Str × NameKind)) (h:Heap) (acc:List (Str × Addr)) (y:Str) (c:Addr),(cellsFrom h.objs.size ns acc).lookup y=some c->(∃o,(pushCells h ns).get? c=some o/\o.data=.cell none)\/acc.lookup y=some c
 | [],_,_,_,_,e=>.inr e
 | (z,k)::r,h,acc,y,c,e=>by
  unfold cellsFrom at e
  unfold pushCells
  split at e
  ·rename_i hk
   rw[if_pos hk]
   rw[<-u7 h { cls:=.type "cell",data:=.cell none }]at e
   rcases D6 r _ _ y c e with h1 | h1
   ·exact .inl h1
   ·rw[eV]at h1
    cases q:y==z with
    | true =>
     rw[q]at h1;cases h1
     exact .inl ⟨_,pushCells_keeps _ _ _ _ (fR _ rfl),rfl⟩
    | false=>rw[q]at h1;exact .inr h1
  ·rename_i hk
   rw[if_neg hk]
   exact D6 r h acc y c e
end L2
namespace L2
open PySem PySem.Spec PyProof.Rows
section
variable{X:Cx}{elt iter tg:Expr}{pos:Pos}{ifs:List Expr}{scope:Scope}{cl:List (Str × Addr)}{wi:TI}{tt:TT}{te:TE}{g:TG}
theorem Ol(ax:List (Str × Nat))(bL:List Str)(hc:X.calm=true)(hi:PI X tg iter wi)
  (hg:∀C s H fp,PG (dg X scope (ax.map (·.1)++bL) cl C s H fp) tg g)
  (ht:∀C s H fp,kS (dg X scope (ax.map (·.1)++bL) cl C s H fp) ifs tt) (he:∀C s H fp,PE (dg X scope (ax.map (·.1)++bL) cl C s H fp) elt te)
  (mM:closureFor scope X.env=pure cl) (mO:kT X cl) (mP:∀C:Addr,kU (cellsFrom (C+1) scope.names cl) (relabel scope X.env).names) (mQ:∀C:Addr,kR X scope (cellsFrom (C+1) scope.names cl) ax)
  (gC:scope.kind=.function) (mR:∀y∈scope.names,y.2=.local->scope.names.lookup y.1=some .local)
  (hs:∀x,foldedSetIterable iter X.env x=pure x:=by intro _;rfl) {pins:List (Addr × Obj)} {s:Shared} {σ:L2.St} {H:Hp} {Q:VK} {use:Option (Value->Sem Unit)} {bI:Pos} {Rf:Value->Shared->Prop} (I:Inv X pins σ H s) (h:yC wi ax bL.length g tt te σ H Q)
  (Z1:∀(s':Shared) (H':Hp) (C Da:Addr) (m:Str->Option Value),Inv X pins σ H' s'->s'.heap.Ns C m->H' C=none->C≠X.env.locals->X.bP.heap.objs.size<=C->(∀x c,X.env.cells.lookup x=some c->c≠C)->(∀p∈X.pn++pins,p.1≠C)->C ∉ X.fs->Q (.ref Da) H' ->
   compPost (model X.prog X.w) X.A X.xe use Rf (.ref Da) C (.ok .next) s') :
  wpAny (model X.prog X.w) X.A (comprehension (.ListComp elt [⟨tg,iter,ifs,0⟩] scope pos) scope X.env bI (newList []) false (eval iter X.env) use) Rf X.xe s:=by
 have fj:=mO.all
 refine wpAny_comprehension_free (use:=use) rfl hs mM gC mR (aE (hi pins s σ H _ I h) λv s1 h1=>aE h1 λyo s2 h2=>?_)
 obtain⟨it,fp,tn,J,H2,e,I2,T,vG,f2,q⟩:=h2
 subst e
 refine wpAny_newList ?_
 refine ZY ?_
 have hD:H2 s2.heap.objs.size=none:=I2.az.fresh (bD _)
 obtain⟨W,⟨m0,w0⟩,turn⟩:=q s2.heap.objs.size hD
 generalize D7:s2.heap.push { cls:=.type "list",data:=.seq ([]:List Value).toArray }=g0 at ⊢
 have hCs:g0.objs.size=s2.heap.objs.size+1:=by rw[<-D7,u7]
 have Z2:s2.heap.objs.size≠g0.objs.size:=by omega
 have hle:s2.heap.objs.size<=g0.objs.size:=by omega
 have sS:∀b o,s2.heap.get? b=some o->b≠g0.objs.size:=λb o e=>dU (ck (bH e) hle)
 obtain⟨g1,zG⟩:∃g1,g1=pushCells (g0.push { cls:=.type "dict",data:=.dict #[] }) scope.names:=⟨_,rfl⟩
 have Z3:g1.Ns g0.objs.size (λ_=>none):=by rw[zG];exact(Heap.Ns.new g0 (.type "dict")).keeps (pushCells_keeps _ _)
 have Om:∀b o,g0.get? b=some o->g1.get? b=some o:=λb o e=>by rw[zG];exact pushCells_keeps _ _ b o (dP _ e)
 have old:∀b o,s2.heap.get? b=some o->g1.get? b=some o:=λb o e=>Om b o (D7 ▸ dP _ e)
 rw[<-zG]
 have Z4:g1.get? s2.heap.objs.size=some { cls:=.type "list",data:=.seq ([]:List Value).toArray }:=Om _ _ (D7 ▸ fR _ rfl)
 have Oo:∀b∈fp,∃o,s2.heap.get? b=some o/\∀v,o.data≠.cell v:=T.obj _ _ vG
 have zH:=ZZ (scope:=scope) (cl:=cl) (C:=g0.objs.size) I2 gC hle fj (mP g0.objs.size).all f2 Oo (ax.map (·.1)++bL)
 have I4:Inv (dg X scope (ax.map (·.1)++bL) cl g0.objs.size s2 H2 fp) [] (fA ax bL.length σ) (upd H2 s2.heap.objs.size (.lst [])) { s2 with heap:=g1 }:=by
  refine⟨zH,rfl,I2.bare,Un.laid old (bD _) hD,⟨_,Z3,λi y v h1 h2 h3=>?_⟩,λy c e=>?_,?_,λy c e=>?_,λp hp=>absurd hp (by simp[dg,yB]),I2.az.laid old (bD _) ⟨jC _,[],0,.nil,Z4⟩,by simp[fA,dg,yB]⟩
  ·by_cases D8:i<ax.length
   case neg =>
    have hW:((ax.map λp=>(σ[p.2]?).getD none)++aT bL.length none)[i]?=some (some v):=h2
    rw[su (by simpa using D8),va]at hW
    split at hW<;>cases hW
   case pos =>
    have iG:(ax.map (·.1))[i]?=some y:=by
     have z:(ax.map (·.1)++bL)[i]?=some y:=h1
     rwa [vb (by simpa using D8)]at z
    have hW:(ax.map λp=>(σ[p.2]?).getD none)[i]?=some (some v):=by
     have z:((ax.map λp=>(σ[p.2]?).getD none)++aT bL.length none)[i]?=some (some v):=h2
     rwa [vb (by simpa using D8)]at z
    rw[cI]at iG hW
    cases hj:ax[i]? with
    | none=>rw[hj]at iG;cases iG
    | some p =>
     rw[hj]at iG hW
     have ey:p.1=y:=cu iG
     have ev:(σ[p.2]?).getD none=some v:=cu hW
     obtain⟨hN,hk,Oq,c,e1,e2⟩:=(mQ g0.objs.size).at p (vd hj)
     obtain⟨m,hn,hl⟩:=I2.loc
     have es:σ[p.2]?=some (some v):=by
      cases z:σ[p.2]? with
      | none=>rw[z]at ev;cases ev
      | some o=>rw[z]at ev;exact congrArg some ev
     obtain⟨u,ru,lk⟩:=hl p.2 p.1 v hN es (hk.elim (λz=>.inr (.inl z)) λz=>.inr (.inr z))
     refine⟨u,ru,?_⟩
     rcases lk with⟨lk,_⟩ | ⟨_,c',e3,ic⟩
     ·rcases hk with hk | hk
      ·have:=hk.symm.trans lk;cases this
      ·have:=hk.symm.trans lk;cases this
     ·rw[e2]at e3
      cases e3
      subst ey
      obtain⟨oc,gw,DM⟩:=ic
      exact .inr ⟨Oq,c,e1,oc,old _ _ gw,DM⟩
  ·rcases D6 _ _ _ y c (show(cellsFrom (g0.push { cls:=.type "dict",data:=.dict #[] }).objs.size scope.names cl).lookup y=some c by rw[u7];exact e)with h1 | h1
   ·rw[<-zG]at h1
    exact⟨none,h1⟩
   ·obtain⟨v,o,ho,hd⟩:=I2.cell y c (fj y c h1)
    exact⟨v,o,old _ _ ho,hd⟩
  ·show upd H2 _ _ g0.objs.size=none
   rw[aN (dF Z2)]
   exact I2.az.fresh hle
  ·rcases w5 _ _ _ y c e with⟨h1,_⟩ | h1
   ·rw[aN (J2 (nk hle h1))]
    exact I2.az.fresh (dW hle (x8 h1))
   ·obtain⟨v,o,ho,hd⟩:=I2.cell y c (fj y c h1)
    rw[aN (dU (bH ho))]
    exact I2.fu y c (fj y c h1)
 have fin:∀(s':Shared) (H':Hp) (av:L2.St),Inv (dg X scope (ax.map (·.1)++bL) cl g0.objs.size s2 H2 fp) [] av H' s'->Q (.ref s2.heap.objs.size) H' ->
   compPost (model X.prog X.w) X.A X.xe use Rf (.ref s2.heap.objs.size) g0.objs.size (.ok .next) s':=by
  intro s' H' av I' q'
  obtain⟨m,hn,_⟩:=I'.loc
  have u:=I'.base
  have Z5:H' g0.objs.size=none:=I'.free
  have IX:Inv X pins σ H' s':=I2.S5 (s':=s') (ch:=fp) I'.os ⟨u.keep,u.slot,u.free,u.there,u.eP,u.eI,u.dS⟩ I'.az I'.bare λb hb=>by
   obtain⟨_,y1,y2,y3,y4,y5⟩:=f2 b hb
   exact⟨y3,y1,y4,y5⟩
  have Ot:∀b,(∃o,s2.heap.get? b=some o)->b≠g0.objs.size:=λb ⟨o,e⟩=>sS b o e
  refine Z1 s' H' g0.objs.size s2.heap.objs.size m IX hn Z5 (λz=>?_) (dW I2.sz hle) (λx c e z=>?_) (λp hp z=>?_) (λz=>?_) q'
  ·have h0:X.env.locals<s2.heap.objs.size:=I2.lt
   rw[<-z]at h0
   exact dO _ (ck h0 hle)
  ·obtain⟨v,o,ho,_⟩:=I2.cell x c e
   exact Ot c ⟨o,ho⟩ z
  ·exact Ot p.1 ⟨_,(I2.pin p hp).1⟩ z
  ·exact I2.Kr hle z
 have D9:∀(H':Hp),(∀b∈fp,H' b=none)->∀b∈fp,gx (dg X scope (ax.map (·.1)++bL) cl g0.objs.size s2 H2 fp) [] H' b:=λH' hn b hb =>
  ⟨hn b hb,(zH.vw b hb).1,zH.sQ b hb,.inl hb,(zH.vw b hb).2,λp hp=>absurd hp (by simp[dg,yB])⟩
 have loop:codeAny (model X.prog X.w) X.A (.compLoop (.ListComp elt [⟨tg,iter,ifs,0⟩] scope pos) 0 (.ref it) (.ref s2.heap.objs.size) (compEnvC scope (cellsFrom (g0.objs.size+1) scope.names cl) g0.objs.size X.env))
   (compPost (model X.prog X.w) X.A X.xe use Rf (.ref s2.heap.objs.size) g0.objs.size) { s2 with heap:=g1 }:=by
  refine Wr (λn s'=>∃i acc H',Inv (dg X scope (ax.map (·.1)++bL) cl g0.objs.size s2 H2 fp) [] (fA ax bL.length σ) H' s'/\tn i s'.heap/\(∀b∈fp,H' b=none)/\W i n acc H') ?_ m0
   ⟨0,[],_,I4,T.keep _ _ _ vG λb hb o e=>old b o e,λb hb=>?_,w0⟩
  ·rintro n s' ⟨i,acc,H',I',ny,zh,w'⟩
   obtain⟨C5,⟨stop,qn⟩ | ⟨go,step⟩⟩:=turn i n acc H' w'
   ·refine aE (T.done (dg X scope (ax.map (·.1)++bL) cl g0.objs.size s2 H2 fp) rfl rfl rfl hc i [] s' _ H' (λ_ _=>False) I' (D9 H' zh) ny stop) λr t1 zz=>?_
    obtain⟨hr,I1⟩:=zz
    subst hr
    exact fin _ _ _ I1 qn
   ·refine aE (T.item (dg X scope (ax.map (·.1)++bL) cl g0.objs.size s2 H2 fp) rfl rfl rfl hc i [] s' _ H' (λ_ _=>False) I' (D9 H' zh) ny go) λr t1 zz=>?_
    obtain⟨u,hr,h4⟩:=zz
    subst hr
    refine aE h4 λ_ t2 zz=>?_
    obtain⟨x5,H5,I5,r5,y5,qA,Cc⟩:=zz
    obtain⟨yQ,Z6⟩:=step x5 H5 y5
    have Cd:=I5.pinned (D9 H5 Cc) (T.obj _ _ qA)
    refine aE (hg _ _ _ _ _ t2 _ H5 x5 u _ Cd r5 Z6) λ_ t3 zz=>?_
    obtain⟨Ce,H6,I6,⟨Z7,Z8⟩,Z9⟩:=zz
    have back:∀(s7:Shared) (H7:Hp) (Ea:List V) (m7:Nat),Inv (dg X scope (ax.map (·.1)++bL) cl g0.objs.size s2 H2 fp) ([]++vE fp t2.heap) Ce H7 s7->W (i+1) m7 Ea H7 ->
      ∃i acc H',Inv (dg X scope (ax.map (·.1)++bL) cl g0.objs.size s2 H2 fp) [] (fA ax bL.length σ) H' s7/\tn i s7.heap/\(∀b∈fp,H' b=none)/\W i m7 acc H':=λs7 H7 Ea m7 I7 w7 =>
     ⟨i+1,Ea,H7,(I7.vF).weak Z7.symm λj v z=>by
       by_cases hj:j<ax.length
       ·rw[Z8 j hj];exact z
       ·have z':((ax.map λp=>(σ[p.2]?).getD none)++aT bL.length none)[j]?=some (some v):=z
        rw[su (by simpa using hj),va]at z'
        split at z'<;>(cases z'),
      T.keep _ _ _ qA λb hb o e=>(I7.pin (b,o) (cR _ (cR _ (yp hb e)))).1,λb hb=>by
       obtain⟨o,e,d⟩:=T.obj _ _ qA b hb
       exact(I7.pin (b,o) (cR _ (cR _ (yp hb e)))).2.1,w7⟩
    refine aE (ht _ _ _ _ _ t3 _ H6 _ I6 Z9) λok t4 zz=>?_
    obtain⟨H7,I7,hD7,q7⟩:=zz
    cases ok with
    | false =>
     obtain⟨m',hm,w7⟩:=(show ∃m',m'<n/\W (i+1) m' acc H7 from q7)
     exact⟨m',hm,back t4 H7 acc m' I7 w7⟩
    | true =>
     refine aE (he _ _ _ _ _ t4 _ H7 _ I7 q7) λy t5 zz=>?_
     obtain⟨v8,H8,I8,r8,γ,ε,m',hm,w8⟩:=zz
     exact aE (Lg _ t5 _ H8 (.ref s2.heap.objs.size) [v8] (.ref s2.heap.objs.size) [y] (λ_ H9=>H9=upd H8 s2.heap.objs.size (.lst (acc++[v8]))) I8 rfl (.cons r8 .nil) ⟨_,acc,v8,rfl,rfl,γ,ε,rfl⟩) λ_ t6 zz=>by
      obtain⟨_,H9,I9,_,e9⟩:=zz
      subst e9
      exact⟨m',hm,back t6 _ _ m' I9 w8⟩
  ·obtain⟨o,e,_⟩:=Oo b hb
   rw[aN (dU (bH e))]
   exact(f2 b hb).1
 exact codeAny_compStart_list loop (T.self _ 0 _ _ _ (T.keep _ _ _ vG λb hb o e=>old b o e) loop)
theorem ζ(ax:List (Str × Nat))(bL:List Str)(hc:X.calm=true)(hi:PI X tg iter wi)
  (hg:∀C s H fp,PG (dg X scope (ax.map (·.1)++bL) cl C s H fp) tg g)
  (ht:∀C s H fp,kS (dg X scope (ax.map (·.1)++bL) cl C s H fp) ifs tt) (he:∀C s H fp,PE (dg X scope (ax.map (·.1)++bL) cl C s H fp) elt te)
  (mM:closureFor scope X.env=pure cl) (mO:kT X cl) (mP:∀C:Addr,kU (cellsFrom (C+1) scope.names cl) (relabel scope X.env).names) (mQ:∀C:Addr,kR X scope (cellsFrom (C+1) scope.names cl) ax)
  (gC:scope.kind=.function) (mR:∀y∈scope.names,y.2=.local->scope.names.lookup y.1=some .local)
  (hs:∀x,foldedSetIterable iter X.env x=pure x:=by intro _;rfl):PE X (.ListComp elt [⟨tg,iter,ifs,0⟩] scope pos) (yC wi ax bL.length g tt te):=by
 intro pins s σ H Q I h
 rw[eval_ListComp]
 refine Ol ax bL hc hi hg ht he mM mO mP mQ gC mR hs I h λs' H' C Da m IX hn hC hL h1 h2 h3 h4 q'=>?_
 exact⟨m,hn,λh' sb=>⟨.ref Da,H',IX.turned (t':=s'.toks) (λb o hb e=>sb.extBut b o hb e) hC hL (.inr h1) h2 h3,rfl,q'⟩⟩
theorem η{i:Nat}{x:Str}{pos' apos:Pos}(hN:X.N.Nodup)(oR:X.N[i]?=some x)(hx:Loc X.env.scope x)(hf:X.fn x=true\/X.env.scope.names.lookup x=some .local)(ax:List (Str × Nat))(bL:List Str)(hc:X.calm=true)(hi:PI X tg iter wi)
  (hg:∀C s H fp,PG (dg X scope (ax.map (·.1)++bL) cl C s H fp) tg g)
  (ht:∀C s H fp,kS (dg X scope (ax.map (·.1)++bL) cl C s H fp) ifs tt) (he:∀C s H fp,PE (dg X scope (ax.map (·.1)++bL) cl C s H fp) elt te)
  (mM:closureFor scope X.env=pure cl) (mO:kT X cl) (mP:∀C:Addr,kU (cellsFrom (C+1) scope.names cl) (relabel scope X.env).names) (mQ:∀C:Addr,kR X scope (cellsFrom (C+1) scope.names cl) ax)
  (gC:scope.kind=.function) (mR:∀y∈scope.names,y.2=.local->scope.names.lookup y.1=some .local)
  (wq:swapsWith (.ListComp elt [⟨tg,iter,ifs,0⟩] scope pos) (some (.Name x pos')) apos.line X.env=pure true) (hs:∀x,foldedSetIterable iter X.env x=pure x:=by intro _;rfl):PS X (.Assign [.Name x pos'] (.ListComp elt [⟨tg,iter,ifs,0⟩] scope pos) apos) (B8 (yC wi ax bL.length g tt te) (yl i)):=by
 intro pins s σ H D I h
 rw[exec_Assign_Name_used x pos' _ apos wq]
 refine wpAny_bind (wpAny_standAt (wpAny_bind ?_))
 have hh:yC wi ax bL.length g tt te σ H λv H1=>D.nx (σ.set i (some v)) H1:=h
 show wpAny _ _ (comprehension (.ListComp elt [⟨tg,iter,ifs,0⟩] scope pos) scope X.env (firstIterPos [⟨tg,iter,ifs,0⟩] pos) (newList []) false (eval iter X.env) (some (assign (.Name x pos') X.env)) >>= λ_=>pure ()) _ _ _
 refine wpAny_bind (Ol (use:=some (assign (.Name x pos') X.env)) (pos:=pos) ax bL hc hi hg ht he mM mO mP mQ gC mR hs I hh λs' H' C Da m IX hn hC hL h1 h2 h3 h4 q'=>?_)
 obtain⟨oC,es,ep,θ,Ou,cA⟩:=id hn
 have IP:Inv X (pins++[(C,oC)]) σ H' s':=⟨IX.ok,IX.os,IX.bare,IX.base,IX.loc,IX.cell,IX.free,IX.fu,λp hp=>by
  rcases cw.mp hp with z | z
  ·exact IX.pin p (eG _ z)
  ·rcases cw.mp z with z | z
   ·exact IX.pin p (cR _ z)
   ·obtain rfl:=iU.mp z
    exact⟨θ,hC,hL,h4,λv w=>by rw[Ou]at w;cases w⟩,IX.az,IX.len⟩
 refine aE (ym (X:=X) hN oR hx hf _ s' σ H' (.ref Da) (.ref Da) (λi4 H2=>i4=σ.set i (some (.ref Da))/\H2=H') IP rfl ⟨rfl,rfl⟩) λ_ s2 zz=>?_
 obtain⟨i4,H2,I2,e1,e2⟩:=zz
 subst e1 e2
 have pC:=I2.pin (C,oC) (cR _ (cR _ (by simp)))
 refine⟨m,⟨oC,es,ep,pC.1,Ou,cA⟩,λh' sb=>wpAny_pure (wpAny_pure ?_)⟩
 exact⟨σ.set i (some (.ref Da)),H2,(I2.vF).turned (t':=s2.toks) (λb o hb e=>sb.extBut b o hb e) hC hL (.inr h1) h2 h3,q'⟩
end
end L2
namespace L3
open PySem L2 PySem.Spec PyProof.Rows
section
variable{X:Cx}{elt iter tg:Expr}{pos:Pos}{ifs:List Expr}{scope:Scope}{cl:List (Str × Addr)}{ti:gb}{tt:et}{te:aC}{g:e7}
theorem eE(ax:List (Str × Nat))(bL:List Str)(hc:X.calm=true)(hi:PI X tg iter (lI ti))
  (hg:∀C s H fp,PG (dg X scope (ax.map (·.1)++bL) cl C s H fp) tg (lG ax.length g))
  (ht:∀C s H fp,kS (dg X scope (ax.map (·.1)++bL) cl C s H fp) ifs (lT tt)) (he:∀C s H fp,PE (dg X scope (ax.map (·.1)++bL) cl C s H fp) elt (lE te))
  (mM:closureFor scope X.env=pure cl) (mO:kT X cl) (mP:∀C:Addr,kU (cellsFrom (C+1) scope.names cl) (relabel scope X.env).names) (mQ:∀C:Addr,kR X scope (cellsFrom (C+1) scope.names cl) ax)
  (gC:scope.kind=.function) (mR:∀y∈scope.names,y.2=.local->scope.names.lookup y.1=some .local)
  (hs:∀x,foldedSetIterable iter X.env x=pure x:=by intro _;rfl):PE X (.ListComp elt [⟨tg,iter,ifs,0⟩] scope pos) (lE (lQ ti ax bL.length g tt te)) :=
 cQ (ζ ax bL hc hi hg ht he mM mO mP mQ gC mR hs) λσ H Q ⟨B,F,δ,ts,Qd,c,q,k⟩=>⟨B,F,δ,ts,_,c,q,λsh xs ai J F1 H1 hq f1 h1 c1 qQ wc=>by
  obtain⟨p,f,hx,dz,hlen,hQ⟩:=hq
  exact Mq c1 qQ wc p f hx dz hlen hQ λd ag v F' H' hd hf hs c'=>k d ag v F' H' hd (f1.trans hf) (h1.trans hs) c'⟩
theorem zI{i:Nat}{x:Str}{pos' apos:Pos}(hN:X.N.Nodup)(oR:X.N[i]?=some x)(hx:L2.Loc X.env.scope x)(ax:List (Str × Nat))(bL:List Str)(hc:X.calm=true)(hi:PI X tg iter (lI ti))
  (hg:∀C s H fp,PG (dg X scope (ax.map (·.1)++bL) cl C s H fp) tg (lG ax.length g))
  (ht:∀C s H fp,kS (dg X scope (ax.map (·.1)++bL) cl C s H fp) ifs (lT tt)) (he:∀C s H fp,PE (dg X scope (ax.map (·.1)++bL) cl C s H fp) elt (lE te))
  (mM:closureFor scope X.env=pure cl) (mO:kT X cl) (mP:∀C:Addr,kU (cellsFrom (C+1) scope.names cl) (relabel scope X.env).names) (mQ:∀C:Addr,kR X scope (cellsFrom (C+1) scope.names cl) ax)
  (gC:scope.kind=.function) (mR:∀y∈scope.names,y.2=.local->scope.names.lookup y.1=some .local)
  (wq:swapsWith (.ListComp elt [⟨tg,iter,ifs,0⟩] scope pos) (some (.Name x pos')) apos.line X.env=pure true:=by rfl) (hf:X.fn x=true\/X.env.scope.names.lookup x=some .local:=by first | exact .inl rfl | exact .inr rfl)
  (hs:∀x,foldedSetIterable iter X.env x=pure x:=by intro _;rfl):PS X (.Assign [.Name x pos'] (.ListComp elt [⟨tg,iter,ifs,0⟩] scope pos) apos) (lS X (lJ i (lQ ti ax bL.length g tt te))) :=
 kY (η hN oR hx hf ax bL hc hi hg ht he mM mO mP mQ gC mR wq hs) λEn σ H ⟨B,F,δ,Dd,c,q,k1,k2,k3,k4⟩=>⟨B,F,δ,[],_,c,q,λsh xs ai J F1 H1 hq f1 h1 c1 qQ wc=>by
  obtain⟨p,f,hx,dz,hlen,hQ⟩:=hq
  exact Mq (Qd:=λd ag=>Dd.nx (ag.set i (some d))) c1 qQ wc p f hx dz hlen hQ λd ag v F' H' hd hf hs c'=>k1 _ _ F' H' hd (c'.store i)⟩
end
end L3
namespace L3
open PySem L2 Mf
theorem lo1{m:Bool × Nat}(hm:m∈aM):1<ae m:=by have:=(dk hm).lo;omega
inductive Sp(N:Nat)(p q:Nat->Nat->Nat)(S:(Nat->Nat)->Prop):(Nat->Nat)->Prop
 | mem {f:Nat->Nat}:S f->Sp N p q S f
 | zero:Sp N p q S λ_=>0
 | add {f g:Nat->Nat}:Sp N p q S f->Sp N p q S g->Sp N p q S λk=>p (f k) (g k)
 | mul {f:Nat->Nat} (c:Nat):c<N->Sp N p q S f->Sp N p q S λk=>q c (f k)
theorem Sp.trans{N:Nat}{p q:Nat->Nat->Nat}{S S':(Nat->Nat)->Prop}(h:∀f,S f->Sp N p q S' f){f:Nat->Nat}(s:Sp N p q S f):Sp N p q S' f:=by
 induction s with
 | mem a=>exact h _ a
 | zero=>exact .zero
 | add _ _ a b=>exact .add a b
 | mul c hc _ a=>exact .mul c hc a
theorem Sp.lt{N:Nat}{p q:Nat->Nat->Nat}(r:Rg N p q){S:(Nat->Nat)->Prop}(h:∀f,S f->∀k,f k<N){f:Nat->Nat}(s:Sp N p q S f):∀k,f k<N:=by
 induction s with
 | mem a=>exact h _ a
 | zero=>exact λ_=>r.pos
 | add _ _ a b=>exact λk=>r.lp (a k) (b k)
 | mul c hc _ a=>exact λk=>r.lq _ _
noncomputable def Gn(T:List (List Nat))(f:Nat->Nat):Prop:=∃r∈T,f=cf r
noncomputable def bQ(m:Bool × Nat)(T:List (List Nat))(f:Nat->Nat):Prop:=Sp (ae m) (gp m) (gm m) (Gn T) f
theorem Gn.lt{m:Bool × Nat}(hm:m∈aM){w:Nat}{T:List (List Nat)}(h:RT (ae m) w T)(f:Nat->Nat)(g:Gn T f):∀k,f k<ae m:=by
 obtain⟨r,hr,rfl⟩:=g
 exact de hm (h r hr).2
theorem bQ.of{m:Bool × Nat}{T:List (List Nat)}{r:List Nat}(h:r∈T):bQ m T (cf r):=.mem ⟨r,h,rfl⟩
theorem ι{m:Bool × Nat}(hm:m∈aM){a:Nat}(ha:a<ae m){f f' l:Nat->Nat}(μ:∀k,f' k<ae m)(hl:∀k,l k<ae m)(h:∀k,gp m (f' k) (gm m a (l k))=f k):∃b,b<ae m/\f'=λk=>gp m (f k) (gm m b (l k)):=by
 have r:=rg hm
 obtain⟨b,hb,e⟩:=r.ng ha
 refine⟨b,hb,funext λk=>?_⟩
 rw[<-h k,r.pa,r.mc a,r.mc b,<- r.dl,e,r.qz,r.z' (μ k)]
theorem Eb{m:Bool × Nat}(hm:m∈aM){r l:List Nat}{w:Nat}(hr:r.length=w)(hl:l.length=w)(a k:Nat):cf (eY (λx y=>cM m x (gm m a y)) r l) k=cM m (cf r k) (gm m a (cf l k)):=by
 by_cases h:k<w
 ·unfold cf
  rw[aR,sG,aQ (by omega),aQ (by omega),aR,aQ (by omega),aR,aQ (by omega)]
  rfl
 ·rw[rO (by rw[qe];omega),rO (l:=r) (by omega),rO (l:=l) (by omega),tO m _ (cV m hm),N9]
theorem Ec{m:Bool × Nat}(hm:m∈aM){r l:List Nat}{w a:Nat}(hr:r.length=w)(hl:l.length=w)(ar:AllLt (ae m) r)(k:Nat):gp m (cf (eY (λx y=>cM m x (gm m a y)) r l) k) (gm m a (cf l k))=cf r k:=by
 rw[Eb hm hr hl]
 exact(tP hm (de hm ar k) (eO hm _ _)).2.2
theorem Ov{m:Bool × Nat}(hm:m∈aM){r l:List Nat}{w:Nat}(hr:r.length=w)(hl:l.length=w)(ar:AllLt (ae m) r)(a k:Nat):cf (eY (λx y=>cM m x (gm m a y)) r l) k<ae m:=by
 rw[Eb hm hr hl]
 exact(tP hm (de hm ar k) (eO hm _ _)).2.1
theorem Ow{m:Bool × Nat}(hm:m∈aM){w p i:Nat}{T:List (List Nat)}(hT:RT (ae m) w T)(e:iu T p=some i):∃(g:List Nat) (c:Nat),g∈T/\T.getD i []=g/\g.length=w/\AllLt (ae m) g/\c<ae m/\gm m c (cf g p)=1/\(df m T i p).length=w/\AllLt (ae m) (df m T i p)/\(∀k,cf (df m T i p) k=gm m c (cf g k))/\cf (df m T i p) p=1/\∀k,gm m (cf g p) (cf (df m T i p) k)=cf g k:=by
 obtain⟨hi,h1,h2⟩:=zF e
 obtain⟨a,b⟩:=hT _ (cN hi)
 have l1:1<ae m:=lo1 hm
 obtain⟨c,hc,zJ⟩:=ZO hm l1 (de hm b p) h1
 have ec:wX m (cf T[i] p)=c:=Oh hm hc zJ
 have el:df m T i p=T[i].map (gm m c):=by unfold df;rw[h2,<- ec];rfl
 have ek:∀k,cf (df m T i p) k=gm m c (cf T[i] k):=λk=>by rw[el];exact ZN hm _ _ _
 refine⟨T[i],c,cN hi,h2,a,b,hc,zJ,by rw[el,bV,a],λx hx=>?_,ek,by rw[ek];exact zJ,λk=>?_⟩
 ·rw[el]at hx
  obtain⟨y,_,rfl⟩:=cx.mp hx
  exact eO hm _ _
 ·rw[ek,<- ke (cV m hm),ir m _ c,zJ,jo (de hm b k)]
theorem Ox{m:Bool × Nat}{s:List (List Nat) × List (List Nat)}{p i:Nat}(e:iu s.2 p=some i):fO m s p=(fc m s.1 (df m s.2 i p) p++[df m s.2 i p],fc m (s.2.take i++s.2.drop (i+1)) (df m s.2 i p) p):=by unfold fO;rw[e]
theorem Oy{m:Bool × Nat}{s:List (List Nat) × List (List Nat)}{p:Nat}(e:iu s.2 p=none):fO m s p=s:=by unfold fO;rw[e]
theorem zK{α:Type}{T:List α}{i:Nat}{r:α}(h:r∈T.take i++T.drop (i+1)):r∈T:=(cw.mp h).elim BC BB
theorem ν{α:Type}{T:List α}{i:Nat}{r:α}(h:r∈T)(hi:i<T.length):r=T[i]\/r∈T.take i++T.drop (i+1):=by
 obtain⟨j,hj,rfl⟩:=fe h
 rcases Nat.lt_trichotomy j i with h | h | h
 ·exact .inr (cw.mpr (.inl (List.mem_take_iff_getElem.mpr ⟨j,by omega,rfl⟩)))
 ·subst h;exact .inl rfl
 ·exact .inr (cw.mpr (.inr (List.mem_drop_iff_getElem.mpr ⟨j-(i+1),by omega,by congr 1;omega⟩)))
theorem ξ{m:Bool × Nat}(hm:m∈aM){w n p:Nat}{s:List (List Nat) × List (List Nat)}(h:wY (ae m) w n s)(f:Nat->Nat):bQ m (s.1++s.2) f↔bQ m ((fO m s p).1++(fO m s p).2) f:=by
 cases e:iu s.2 p with
 | none=>rw[Oy e]
 | some i =>
  obtain⟨g,c,g1,g2,g3,g4,c1,c2,l1,l2,l3,l4,l5⟩:=Ow hm h.b e
  obtain⟨hi,_,hg⟩:=zF e
  rw[Ox e]
  generalize df m s.2 i p=l at l1 l2 l3 l4 l5
  have ll:=de hm l2
  have row:∀{T:List (List Nat)},RT (ae m) w T->∀r'∈fc m T l p,∃r∈T,∃b,b<ae m/\cf r'=λk=>gp m (cf r k) (gm m b (cf l k)):=λ{T} hT r' bh=>by
   obtain⟨r,hr,rfl⟩:=cx.mp bh
   obtain⟨a1,a2⟩:=hT r hr
   exact⟨r,hr,ι hm (de hm a2 p) (Ov hm a1 l1 a2 _) ll (Ec hm a1 l1 a2)⟩
  have Oz:∀{T:List (List Nat)},RT (ae m) w T->∀r∈T,∃r'∈fc m T l p,cf r=λk=>gp m (cf r' k) (gm m (cf r p) (cf l k)):=λ{T} hT r hr=>by
   obtain⟨a1,a2⟩:=hT r hr
   exact⟨_,cx.mpr ⟨r,hr,rfl⟩,funext λk=>(Ec hm a1 l1 a2 k).symm⟩
  have hB:RT (ae m) w (s.2.take i++s.2.drop (i+1)):=λr hr=>h.b r (zK hr)
  constructor
  ·refine Sp.trans ?_
   rintro f ⟨r,hr,rfl⟩
   have hl:bQ m ((fc m s.1 l p++[l])++fc m (s.2.take i++s.2.drop (i+1)) l p) (cf l):=bQ.of (by simp)
   rcases cw.mp hr with hr | hr
   ·obtain⟨r',h1,h2⟩:=Oz h.a r hr
    rw[h2]
    exact .add (bQ.of (by simp[h1])) (.mul _ (de hm (h.a r hr).2 p) hl)
   ·rcases ν hr hi with e' | bh
    ·have:cf r=λk=>gm m (cf g p) (cf l k):=funext λk=>by rw[l5 k,e',<- hg,g2]
     rw[this]
     exact .mul _ (de hm g4 p) hl
    ·obtain⟨r',h1,h2⟩:=Oz hB r bh
     rw[h2]
     exact .add (bQ.of (by simp[h1])) (.mul _ (de hm (h.b r hr).2 p) hl)
  ·refine Sp.trans ?_
   rintro f ⟨r,hr,rfl⟩
   have hl:bQ m (s.1++s.2) (cf l):=by
    have:cf l=λk=>gm m c (cf g k):=funext l3
    rw[this]
    exact .mul _ c1 (bQ.of (cR _ g1))
   rcases cw.mp hr with hr | hr
   ·rcases cw.mp hr with hr | hr
    ·obtain⟨r1,h1,b,hb,h2⟩:=row h.a r hr
     rw[h2]
     exact .add (bQ.of (eG _ h1)) (.mul _ hb hl)
    ·rw[iU]at hr
     rw[hr];exact hl
   ·obtain⟨r1,h1,b,hb,h2⟩:=row hB r hr
    rw[h2]
    exact .add (bQ.of (cR _ (zK h1))) (.mul _ hb hl)
structure RR(w:Nat)(R:List (List Nat))(H:Nat->Nat):Prop where
 u:∀i j,i<R.length->j<R.length->cf (R.getD i []) (H j)=if i=j then 1 else 0
 z:∀i,i<R.length->∀t,t<H i->cf (R.getD i []) t=0
 i:∀i j,i<j->j<R.length->H i<H j
 l:∀i,i<R.length->H i<w
theorem Ee{α β:Type}(f:α->β){l:List α}{i:Nat}(h:i<l.length)(a:α)(b:β):(l.map f).getD i b=f (l.getD i a):=by
 rw[aR,cI,aR,aQ h];rfl
theorem cG{α:Type}{l:List α}{i:Nat}(h:i<l.length)(a:α):l.getD i a∈l:=by
 rw[aR,aQ h];exact cN h
theorem ο{m:Bool × Nat}(hm:m∈aM){w n p:Nat}{s:List (List Nat) × List (List Nat)}(h:wY (ae m) w n s){H:Nat->Nat}(I:RR p s.1 H)(e2:∀r∈s.2,∀t,t<p->cf r t=0):∃H',RR (p+1) (fO m s p).1 H'/\∀r∈(fO m s p).2,∀t,t<p+1->cf r t=0:=by
 cases e:iu s.2 p with
 | none =>
  rw[Oy e]
  refine⟨H,⟨I.u,I.z,I.i,λi hi=>Nat.lt_succ_of_lt (I.l i hi)⟩,λr hr t ht=>?_⟩
  rcases x9 t p with h1 | h1
  ·exact e2 r hr t h1
  ·have:=SA.mp e r hr
   have z:r.getD p 0=0:=by simpa using this
   rw[show t=p by omega]
   exact z
 | some i0 =>
  obtain⟨g,c,g1,g2,g3,g4,c1,c2,l1,l2,l3,l4,l5⟩:=Ow hm h.b e
  rw[Ox e]
  generalize df m s.2 i0 p=l at l1 l2 l3 l4 l5
  have m0:=cV m hm
  have lz:∀t,t<p->cf l t=0:=λt ht=>by rw[l3,e2 g g1 t ht,tO m _ m0]
  have w6:∀{r:List Nat},r.length=w->AllLt (ae m) r->(∀t,t<p->cf (eY (λx y=>cM m x (gm m (r.getD p 0) y)) r l) t=cf r t)/\cf (eY (λx y=>cM m x (gm m (r.getD p 0) y)) r l) p=0:=λ{r} a1 a2=>by
   constructor
   ·intro t ht
    have:=Ec hm (a:=r.getD p 0) a1 l1 a2 t
    rw[lz t ht,tO m _ m0,Zt (Ov hm a1 l1 a2 _ _)]at this
    exact this
   ·rw[Eb hm a1 l1,l4]
    show cM m (r.getD p 0) (gm m (r.getD p 0) 1)=0
    rw[tN (show r.getD p 0<ae m from de hm a2 p),N9]
  have nl:(fc m s.1 l p).length=s.1.length:=by unfold fc;rw[bV]
  have OA:∀i,i<s.1.length->∃r,s.1.getD i []=r/\r.length=w/\AllLt (ae m) r/\(fc m s.1 l p++[l]).getD i []=eY (λx y=>cM m x (gm m (r.getD p 0) y)) r l:=λi hi=>by
   refine⟨_,rfl,(h.a _ (cG hi [])).1,(h.a _ (cG hi [])).2,?_⟩
   rw[aR,vb (by omega),<- aR]
   exact Ee _ hi [] []
  have OB:(fc m s.1 l p++[l]).getD s.1.length []=l:=by
   rw[aR,su (by omega),nl,BH];rfl
  have le:(fc m s.1 l p++[l]).length=s.1.length+1:=by rw[iQ,nl];rfl
  refine⟨λi=>if i<s.1.length then H i else p,⟨λi j hi hj=>?_,λi hi t ht=>?_,λi j rS hj=>?_,λi hi=>?_⟩,λr hr t ht=>?_⟩
  ·show cf ((fc m s.1 l p++[l]).getD i []) _=_
   dsimp only at hi hj ⊢
   rw[le]at hi hj
   by_cases h1:i<s.1.length
   ·obtain⟨r,r1,r2,r3,r4⟩:=OA i h1
    rw[r4]
    by_cases h2:j<s.1.length
    ·rw[if_pos h2,(w6 r2 r3).1 _ (I.l j h2),<- r1]
     exact I.u i j h1 h2
    ·rw[if_neg h2,(w6 r2 r3).2,if_neg (by omega)]
   ·have e1:i=s.1.length:=by omega
    rw[e1,OB]
    by_cases h2:j<s.1.length
    ·rw[if_pos h2,lz _ (I.l j h2),if_neg (by omega)]
    ·rw[if_neg h2,l4,if_pos (by omega)]
  ·dsimp only at hi ht ⊢
   rw[le]at hi
   by_cases h1:i<s.1.length
   ·rw[if_pos h1]at ht
    obtain⟨r,r1,r2,r3,r4⟩:=OA i h1
    rw[r4,(w6 r2 r3).1 _ (by have:=I.l i h1;omega),<- r1]
    exact I.z i h1 t ht
   ·rw[if_neg h1]at ht
    have e1:i=s.1.length:=by omega
    rw[e1,OB];exact lz t ht
  ·dsimp only at hj ⊢
   rw[le]at hj
   rw[if_pos (by omega)]
   by_cases h2:j<s.1.length
   ·rw[if_pos h2];exact I.i i j rS h2
   ·rw[if_neg h2];exact I.l i (by omega)
  ·dsimp only at hi ⊢
   rw[le]at hi
   split
   ·have:=I.l i (by omega);omega
   ·omega
  ·obtain⟨r1,w9,rfl⟩:=cx.mp hr
   obtain⟨a1,a2⟩:=h.b r1 (zK w9)
   rcases x9 t p with h1 | h1
   ·rw[(w6 a1 a2).1 t h1];exact e2 _ (zK w9) t h1
   ·rw[show t=p by omega];exact(w6 a1 a2).2
theorem OC{m:Bool × Nat}(hm:m∈aM){w:Nat}{G:List (List Nat)}(h:RT (ae m) w G):∀k,(∃H,RR k (gR m G k).1 H/\∀r∈(gR m G k).2,∀t,t<k->cf r t=0)/\∀f,bQ m G f↔bQ m ((gR m G k).1++(gR m G k).2) f
 | 0=>⟨⟨λ_=>0,⟨(λ_ _ h=>nomatch h),(λ_ h=>nomatch h),(λ_ _ _ h=>nomatch h),(λ_ h=>nomatch h)⟩,λr _ t ht=>nomatch ht⟩,λf=>.rfl⟩
 | k+1=>by
  obtain⟨⟨H,h1,h2⟩,h3⟩:=OC hm h k
  have D:=wZ hm h k
  rw[D2]
  exact⟨ο hm D h1 h2,λf=>(h3 f).trans (ξ hm D f)⟩
theorem pq{m:Bool × Nat}(hm:m∈aM){G:List (List Nat)}(h:RT (ae m) (aq G) G):(∃H,RR (aq G) (bW m G) H)/\RT (ae m) (aq G) (bW m G)/\(bW m G).length<=G.length/\∀f,bQ m G f↔bQ m (bW m G) f:=by
 obtain⟨⟨H,h1,h2⟩,h3⟩:=OC hm h (aq G)
 have D:=wZ hm h (aq G)
 refine⟨⟨H,h1⟩,D.a,by have:=D.l;show(gR m G (aq G)).1.length<=_;omega,λf=>(h3 f).trans ⟨Sp.trans ?_,Sp.trans ?_⟩⟩
 ·rintro f ⟨r,hr,rfl⟩
  rcases cw.mp hr with hr | hr
  ·exact bQ.of hr
  ·have:cf r=λ_=>0:=funext λt=>by
    rcases x9 t (aq G)with h4 | h4
    ·exact h2 r hr t h4
    ·exact rO (by rw[(D.b r hr).1];exact h4)
   rw[this];exact .zero
 ·rintro f ⟨r,hr,rfl⟩
  exact bQ.of (eG _ hr)
theorem mS{N:Nat}{p q:Nat->Nat->Nat}(r:Rg N p q){f:Nat->Nat}{j0:Nat}(hf:f j0<N):∀{n:Nat},j0<n->(∀j,j<n->j≠j0->f j=0)->sm p n f=f j0
 | 0,h,_=>nomatch h
 | n+1,h,hz=>by
  rw[sm]
  by_cases e:j0=n
  ·subst e
   rw[gQ r λj hj=>hz j (by omega) (by omega),r.z hf]
  ·rw[mS r hf (by omega) λj hj=>hz j (by omega),hz n (by omega) (by omega),r.z' hf]
theorem RR.own{m:Bool × Nat}(hm:m∈aM){w:Nat}{R:List (List Nat)}{H:Nat->Nat}(hR:RT (ae m) w R)(I:RR w R H){f:Nat->Nat}(s:bQ m R f):∀k,f k=sm (gp m) R.length λi=>gm m (f (H i)) (cf (R.getD i []) k):=by
 have r:=rg hm
 have m0:=cV m hm
 induction s with
 | mem a =>
  intro k
  obtain⟨x,hx,rfl⟩:=a
  obtain⟨i,hi,rfl⟩:=fe hx
  have ei:R[i]=R.getD i []:=by rw[aR,aQ hi];rfl
  have one:gm m (cf R[i] (H i)) (cf (R.getD i []) k)=cf R[i] k:=by
   rw[ei,I.u i i hi hi,if_pos rfl]
   exact jo (de hm (hR _ (cG hi [])).2 k)
  refine((mS r (f:=λa=>gm m (cf R[i] (H a)) (cf (R.getD a []) k)) (j0:=i) (eO hm _ _) hi λj hj hn=>?_).trans one).symm
  rw[ei,I.u i j hi hj,if_neg (by omega),gj m _ m0]
 | zero=>exact λk=>(gQ r λj _=>gj m _ m0).symm
 | add _ _ a b =>
  intro k
  dsimp only
  rw[a k,b k,<- pk r]
  refine cF λj _=>?_
  rw[r.mc (gp m _ _),r.dl,r.mc _ (cf _ k),r.mc _ (cf _ k)]
 | mul c hc _ a =>
  intro k
  dsimp only
  rw[a k,<- ki r]
  refine cF λj _=>?_
  rw[ke m0]
theorem bQ.sum{m:Bool × Nat}(hm:m∈aM){w:Nat}{R:List (List Nat)}(hR:RT (ae m) w R){f:Nat->Nat}(s:bQ m R f):∃c:Nat->Nat,(∀i,c i<ae m)/\∀k,f k=sm (gp m) R.length λi=>gm m (c i) (cf (R.getD i []) k):=by
 have r:=rg hm
 have m0:=cV m hm
 have l1:=lo1 hm
 induction s with
 | mem a =>
  obtain⟨x,hx,rfl⟩:=a
  obtain⟨i,hi,rfl⟩:=fe hx
  have ei:R[i]=R.getD i []:=by rw[aR,aQ hi];rfl
  refine⟨λj=>if j=i then 1 else 0,λj=>by dsimp only;split<;>omega,λk=>?_⟩
  refine((mS r (f:=λa=>gm m (if a=i then 1 else 0) (cf (R.getD a []) k)) (j0:=i) (eO hm _ _) hi λj hj hn=>?_).trans ?_).symm
  ·rw[if_neg hn,gj m _ m0]
  ·rw[if_pos rfl,ei]
   exact jo (de hm (hR _ (cG hi [])).2 k)
 | zero=>exact⟨λ_=>0,λ_=>r.pos,λk=>(gQ r λj _=>gj m _ m0).symm⟩
 | add _ _ a b =>
  obtain⟨c,hc,a⟩:=a
  obtain⟨d,hd,b⟩:=b
  refine⟨λi=>gp m (c i) (d i),λi=>r.lp (hc i) (hd i),λk=>?_⟩
  dsimp only
  rw[a k,b k,<- pk r]
  refine cF λj _=>?_
  rw[r.mc (gp m _ _),r.dl,r.mc _ (cf _ k),r.mc _ (cf _ k)]
 | mul e he _ a =>
  obtain⟨c,hc,a⟩:=a
  refine⟨λi=>gm m e (c i),λi=>eO hm _ _,λk=>?_⟩
  dsimp only
  rw[a k,<- ki r]
  refine cF λj _=>?_
  rw[ke m0]
theorem bQ.ann{m:Bool × Nat}(hm:m∈aM){R:List (List Nat)}{n:Nat}{y:Nat->Nat}(h:∀x∈R,sm (gp m) n (λj=>gm m (cf x j) (y j))=0){f:Nat->Nat}(s:bQ m R f):sm (gp m) n (λj=>gm m (f j) (y j))=0:=by
 have r:=rg hm
 have m0:=cV m hm
 induction s with
 | mem a=>obtain⟨x,hx,rfl⟩:=a;exact h x hx
 | zero=>exact gQ r λj _=>gj m _ m0
 | @add f g _ _ a b =>
  rw[cF (g:=λj=>gp m (gm m (f j) (y j)) (gm m (g j) (y j))) λj _=>by dsimp only;rw[r.mc (gp m _ _),r.dl,r.mc (y j),r.mc (y j)],pk r,a,b,r.z r.pos]
 | @mul f e he _ a =>
  rw[cF (g:=λj=>gm m e (gm m (f j) (y j))) λj _=>ke m0 _ _ _,ki r,a,r.qz]
theorem RR.rT{m:Bool × Nat}(hm:m∈aM){w:Nat}{R:List (List Nat)}{H:Nat->Nat}(hR:RT (ae m) w R)(I:RR w R H){i:Nat}(hi:i<R.length):(R.getD i []).findIdx (· != 0)=H i/\∃x∈R.getD i [],x≠0:=by
 have a:=(hR _ (cG hi [])).1
 have l:=I.l i hi
 have u:=I.u i i hi hi
 rw[if_pos rfl]at u
 have eu:(R.getD i [])[H i]'(by omega)=1:=by
  unfold cf at u
  rw[aR (l:=R.getD i []),aQ (by omega)]at u
  exact u
 refine⟨?_,_,cN (show H i<(R.getD i []).length by omega),by rw[eu];decide⟩
 rw[List.findIdx_eq (by omega)]
 refine⟨by rw[eu];rfl,λj hj=>?_⟩
 have z:=I.z i hi j hj
 unfold cf at z
 rw[aR (l:=R.getD i []),aQ (by omega)]at z
 simpa using z
theorem OD{a b:List Nat}{w:Nat}(ha:a.length=w)(hb:b.length=w)(h:∀k,k<w->cf a k=cf b k):a=b:=by
 refine vm (ha.trans hb.symm) λk h1 h2=>?_
 have:=h k (by omega)
 unfold cf at this
 rw[aR,aR,aQ h1,aQ h2]at this
 exact this
theorem OE(f:Nat->Nat){w k:Nat}(h:k<w):cf ((aP w).map f) k=f k:=by
 unfold cf
 rw[aR,cI,kE h];rfl
theorem Ef(m:Bool × Nat){xs ys:List Nat}(h:xs.length=ys.length):gd m xs ys=sm (gp m) xs.length λj=>gm m (cf xs j) (cf ys j):=by
 unfold gd
 rw[ZM,qe,h,vg]
 refine cF λj hj=>?_
 unfold cf
 rw[aR,sG,aQ (by omega),aQ (by omega),aR,aQ (by omega),aR,aQ (by omega)]
 rfl
noncomputable def jq(m:Bool × Nat)(xs:List Nat)(T:List (List Nat))(w:Nat):List Nat:=(aP w).map λk=>gd m xs (T.map λr=>r.getD k 0)
theorem Eg{T:List (List Nat)}(k i:Nat):cf (T.map λr=>r.getD k 0) i=cf (T.getD i []) k:=by
 by_cases h:i<T.length
 ·exact Ee (λr:List Nat=>r.getD k 0) h [] 0
 ·rw[rO (by rw[bV];omega),aR,iB (by omega)];rfl
theorem OF(m:Bool × Nat)(xs:List Nat)(T:List (List Nat))(w:Nat):(jq m xs T w).length=w:=by unfold jq;rw[bV,dQ]
theorem OG(m:Bool × Nat){xs:List Nat}{T:List (List Nat)}{w k:Nat}(h:xs.length=T.length)(hk:k<w):cf (jq m xs T w) k=sm (gp m) T.length λi=>gm m (cf xs i) (cf (T.getD i []) k):=by
 unfold jq
 rw[OE _ hk,Ef m (by rw[bV,h]),h]
 exact cF λj _=>by rw[Eg]
theorem OH{m:Bool × Nat}(hm:m∈aM){xs ys:List Nat}(h:xs.length=ys.length):gd m xs ys<ae m:=by
 rw[Ef m h];exact mL (rg hm) λj _=>eO hm _ _
theorem π{m:Bool × Nat}(hm:m∈aM){xs:List Nat}{T:List (List Nat)}(w:Nat)(h:xs.length=T.length):AllLt (ae m) (jq m xs T w):=λx hx=>by
 obtain⟨k,_,rfl⟩:=cx.mp hx
 exact OH hm (by rw[bV,h])
theorem OI{m:Bool × Nat}{xs u:List Nat}{T:List (List Nat)}{w:Nat}(h:xs.length=T.length)(hu:u.length=w)(hk:∀k,k<w->cf u k=sm (gp m) T.length λi=>gm m (cf xs i) (cf (T.getD i []) k)):jq m xs T w=u :=
 OD (OF m xs T w) hu λk h1=>by rw[OG m h h1,hk k h1]
noncomputable def bA(r:List Nat):Nat:=r.findIdx (· != 0)
noncomputable def bb(G:List (List Nat))(u:List Nat):List (List Nat):=eY (λr x=>r++[x]) G u
theorem pz{N:Nat}{G:List (List Nat)}{u:List Nat}(h0:0<G.length)(hu:u.length=G.length)(hR:RT N (aq G) G)(ha:AllLt N u):aq (bb G u)=aq G+1/\(bb G u).length=G.length/\RT N (aq G+1) (bb G u):=by
 refine⟨?_,by unfold bb;rw[qe,hu,vg],λr hr=>?_⟩
 ·cases G with
  | nil=>simp at h0
  | cons g G =>
   cases u with
   | nil=>simp at hu
   | cons y u=>show(g++[y]).length=g.length+1;simp
 ·unfold bb at hr
  obtain⟨i,hi,rfl⟩:=fe hr
  rw[qe]at hi
  rw[Sq]
  obtain⟨a,b⟩:=hR _ (cN (show i<G.length by omega))
  refine⟨by rw[iQ,a];rfl,λx hx=>?_⟩
  rcases cw.mp hx with hx | hx
  ·exact b x hx
  ·rw[iU]at hx
   rw[hx];exact ha _ (cN _)
noncomputable def iP(R:List (List Nat))(w:Nat):List Nat:=((R.map bA).zip R).foldl (λx z=>x.set z.1 (z.2.getD w 0)) (aT w 0)
noncomputable def gk(m:Bool × Nat)(G:List (List Nat))(u:List Nat):Option (List Nat):=if((bW m (bb G u)).map bA).contains (aq G)then none else some (iP (bW m (bb G u)) (aq G))
theorem xa{α:Type}(a b:α->Nat){j:Nat}:∀(l:List α) (x:List Nat),(∀z∈l,a z≠j)->cf (l.foldl (λx z=>x.set (a z) (b z)) x) j=cf x j
 | [],_,_=>rfl
 | z::l,x,h=>by
  rw[sA,xa a b l _ λy hy=>h y (fm _ hy)]
  unfold cf
  rw[aR,pQ (h z jz),<- aR]
theorem Eh{α:Type}(a b:α->Nat):∀(l:List α) (x:List Nat),l.Pairwise (λy z=>a y≠a z)->∀z∈l,a z<x.length->cf (l.foldl (λx z=>x.set (a z) (b z)) x) (a z)=b z
 | [],_,_,_,h,_=>nomatch h
 | y::l,x,hp,z,hz,hl=>by
  rw[sA]
  rw[List.pairwise_cons]at hp
  rcases cg.mp hz with rfl | hz
  ·rw[xa a b l _ λy hy=>dF (hp.1 y hy)]
   unfold cf
   rw[aR,sr hl];rfl
  ·exact Eh a b l _ hp.2 z hz (by rw[ve];exact hl)
theorem Ei{α:Type}(a b:α->Nat):∀(l:List α) (x:List Nat),(l.foldl (λx z=>x.set (a z) (b z)) x).length=x.length
 | [],_=>rfl
 | z::l,x=>by rw[sA,Ei a b l,ve]
theorem OJ{m:Bool × Nat}(hm:m∈aM){w:Nat}{R:List (List Nat)}{H:Nat->Nat}(hR:RT (ae m) (w+1) R)(I:RR (w+1) R H)(hw:∀i,i<R.length->H i≠w):(iP R w).length=w/\AllLt (ae m) (iP R w)/\(∀i,i<R.length->cf (iP R w) (H i)=cf (R.getD i []) w)/\∀j,(∀i,i<R.length->H i≠j)->cf (iP R w) j=0:=by
 have l1:=lo1 hm
 have zl:((R.map bA).zip R).length=R.length:=by rw[x6,bV,vg]
 have zg:∀i (h:i<R.length),((R.map bA).zip R)[i]'(by omega)=(H i,R.getD i []):=λi h=>by
  rw[List.getElem_zip,jH]
  have e:R.getD i []=R[i]:=by rw[aR,aQ h];rfl
  have:=(I.rT hm hR h).1
  rw[e]at this ⊢
  exact BN this rfl
 have zm:∀z∈(R.map bA).zip R,∃i,i<R.length/\z=(H i,R.getD i []):=λz hz=>by
  obtain⟨i,hi,rfl⟩:=fe hz
  exact⟨i,by omega,zg i (by omega)⟩
 have mz:∀i,i<R.length->(H i,R.getD i [])∈(R.map bA).zip R:=λi h=>by
  rw[<-zg i h];exact cN _
 have len:(iP R w).length=w:=by
  unfold iP
  rw[Ei (λz:Nat × List Nat=>z.1) (λz=>z.2.getD w 0),jE]
 have bd:∀z∈(R.map bA).zip R,z.2.getD w 0<ae m:=λz hz=>by
  obtain⟨i,hi,rfl⟩:=zm z hz
  exact de hm (hR _ (cG hi [])).2 w
 refine⟨len,?_,λi hi=>?_,λj hj=>?_⟩
 ·have key:∀(l:List (Nat × List Nat)) (x:List Nat),(∀z∈l,z.2.getD w 0<ae m)->AllLt (ae m) x->AllLt (ae m) (l.foldl (λx z=>x.set z.1 (z.2.getD w 0)) x):=by
   intro l
   induction l with
   | nil=>exact λx _ h=>h
   | cons z l ih =>
    intro x hz h
    rw[sA]
    refine ih _ (λy hy=>hz y (fm _ hy)) λy hy=>?_
    rcases BJ hy with h1 | h1
    ·exact h y h1
    ·rw[h1];exact hz z jz
  exact key _ _ bd λx hx=>by rw[(BA.mp hx).2];omega
 ·have hp:((R.map bA).zip R).Pairwise (λy z:Nat × List Nat=>y.1≠z.1):=by
   rw[Ko]
   intro i j hi hj rS
   rw[zg i (by omega),zg j (by omega)]
   have:=I.i i j rS (by omega)
   show H i≠H j
   omega
  have h1:=I.l i hi
  have h2:=hw i hi
  exact Eh (λz:Nat × List Nat=>z.1) (λz=>z.2.getD w 0) _ _ hp _ (mz i hi) (by rw[jE];show H i<w;omega)
 ·unfold iP
  rw[xa (λz:Nat × List Nat=>z.1) (λz=>z.2.getD w 0) _ _ λz hz=>?_]
  ·unfold cf
   rw[aR,va]
   split<;>rfl
  ·obtain⟨i,hi,rfl⟩:=zm z hz
   exact hj i hi
theorem tQ{G:List (List Nat)}{u:List Nat}{w a:Nat}(ha:a<G.length)(hu:u.length=G.length)(hw:(G.getD a []).length=w):(∀j,j<w->cf ((bb G u).getD a []) j=cf (G.getD a []) j)/\cf ((bb G u).getD a []) w=cf u a:=by
 have e:(bb G u).getD a []=G.getD a []++[u.getD a 0]:=by
  unfold bb
  rw[aR,sG,aR,aR,aQ ha,aQ (by omega)];rfl
 rw[e]
 generalize G.getD a []=g at hw
 refine⟨λj hj=>?_,?_⟩
 ·unfold cf
  rw[aR,vb (by omega),<- aR]
 ·unfold cf
  rw[aR,su (by omega),hw,BH];rfl
theorem OK{m:Bool × Nat}(hm:m∈aM):∃e,e<ae m/\gp m 1 e=0/\e≠0/\∀{a b},a<ae m->b<ae m->(gp m a (gm m b e)=0↔a=b):=by
 have r:=rg hm
 obtain⟨e,he,h⟩:=r.ng (lo1 hm)
 refine⟨e,he,h,λz=>?_,λ{a b} ha hb=>?_⟩
 ·rw[z,r.z' (lo1 hm)]at h;omega
 ·have k:gp m b (gm m b e)=0:=by
   have:=r.dl b 1 e
   rw[h,r.qz,tN hb]at this
   exact this.symm
  exact⟨λh1=>r.ZF ha hb (eO hm b e) (h1.trans k.symm),λh1=>h1 ▸ k⟩
theorem OL{m:Bool × Nat}(hm:m∈aM){G:List (List Nat)}{u:List Nat}(h0:0<G.length)(hu:u.length=G.length)(hR:RT (ae m) (aq G) G)(ha:AllLt (ae m) u){x:Nat->Nat}(hx:∀j,x j<ae m)(h:∀a,a<G.length->sm (gp m) (aq G) (λj=>gm m (cf (G.getD a []) j) (x j))=cf u a):∃X,gk m G u=some X/\X.length=aq G/\AllLt (ae m) X/\∀a,a<G.length->sm (gp m) (aq G) (λj=>gm m (cf (G.getD a []) j) (cf X j))=cf u a:=by
 obtain⟨w1,w2,w3⟩:=pz h0 hu hR ha
 have w4:=w3
 rw[<-w1]at w4
 obtain⟨⟨H,I⟩,iR,il,sp⟩:=pq hm w4
 rw[w1]at I iR
 have r:=rg hm
 obtain⟨e,e1,e2,e3,e4⟩:=OK hm
 have dot:∀(y:Nat->Nat),(∀j,y j<ae m)->∀a,a<G.length->sm (gp m) (aq G+1) (λj=>gm m (cf ((bb G u).getD a []) j) (if j<aq G then y j else e))=gp m (sm (gp m) (aq G) λj=>gm m (cf (G.getD a []) j) (y j)) (gm m (cf u a) e):=λy hy a h1=>by
  obtain⟨c1,c2⟩:=tQ h1 hu (hR _ (cG h1 [])).1
  rw[sm,if_neg (dO _),c2]
  refine congrArg (λz=>gp m z _) (cF λj hj=>?_)
  rw[c1 j hj,if_pos hj]
 have ann:∀x'∈bb G u,sm (gp m) (aq G+1) (λj=>gm m (cf x' j) (if j<aq G then x j else e))=0:=λx' cW=>by
  obtain⟨a,h1,rfl⟩:=fe cW
  have ea:(bb G u)[a]=(bb G u).getD a []:=by rw[aR,aQ h1];rfl
  rw[ea,dot x hx a (by omega),h a (by omega)]
  exact(e4 (de hm ha a) (de hm ha a)).mpr rfl
 have hw:∀i,i<(bW m (bb G u)).length->H i≠aq G:=λi hi z=>by
  have:=bQ.ann hm ann ((sp _).mpr (bQ.of (cG hi [])))
  rw[sm,gQ r λj hj=>?_,if_neg (dO _)]at this
  ·have u1:=I.u i i hi hi
   rw[z,if_pos rfl]at u1
   rw[u1,jo e1,r.z e1]at this
   exact e3 this
  ·rw[I.z i hi j (by omega),gj m _ (cV m hm)]
 obtain⟨X1,X2,X3,X4⟩:=OJ hm iR I hw
 refine⟨iP (bW m (bb G u)) (aq G),?_,X1,X2,λa h1=>?_⟩
 ·unfold gk
  rw[if_neg]
  intro c
  obtain⟨y,hy,hz⟩:=cx.mp (qf.mp c)
  obtain⟨i,hi,rfl⟩:=fe hy
  refine hw i hi ?_
  rw[<-(I.rT hm iR hi).1,<- hz,aR,aQ hi];rfl
 ·have ρ:∀x'∈bW m (bb G u),sm (gp m) (aq G+1) (λj=>gm m (cf x' j) (if j<aq G then cf (iP (bW m (bb G u)) (aq G)) j else e))=0:=λx' cW=>by
   obtain⟨i,hi,rfl⟩:=fe cW
   have ei:(bW m (bb G u))[i]=(bW m (bb G u)).getD i []:=by rw[aR,aQ hi];rfl
   have Ej:=de hm (iR _ (cG hi [])).2
   have hl:H i<aq G:=by have:=I.l i hi;have:=hw i hi;omega
   rw[ei,sm,if_neg (dO _),mS r (f:=λj=>gm m (cf ((bW m (bb G u)).getD i []) j) (if j<aq G then cf (iP (bW m (bb G u)) (aq G)) j else e)) (eO hm _ _) hl λj hj hn=>?_]
   ·rw[if_pos hl,X3 i hi,I.u i i hi hi,if_pos rfl,jo (Ej _)]
    exact(e4 (Ej _) (Ej _)).mpr rfl
   ·rw[if_pos hj]
    by_cases c:∃i',i'<(bW m (bb G u)).length/\H i'=j
    ·obtain⟨i',h1,rfl⟩:=c
     rw[I.u i i' hi h1,if_neg (λz:i=i'=>hn (by rw[z])),gj m _ (cV m hm)]
    ·rw[X4 j λi' h1 h2=>c ⟨i',h1,h2⟩,r.qz]
  have:=bQ.ann hm ρ ((sp _).mp (bQ.of (cG (show a<(bb G u).length by omega) [])))
  rw[dot _ (de hm X2) a h1]at this
  exact(e4 (mL r λj _=>eO hm _ _) (de hm ha a)).mp this
noncomputable def dN(T:List (List Nat)):List (List Nat):=(aP (aq T)).map λj=>T.map λr=>r.getD j 0
theorem Ek{T:List (List Nat)}{a:Nat}(h:a<aq T):(dN T).getD a []=T.map λr=>r.getD a 0:=by
 unfold dN
 rw[aR,cI,kE h];rfl
theorem El{N:Nat}{T:List (List Nat)}(h0:0<N)(hw:0<aq T)(hT:RT N (aq T) T):(dN T).length=aq T/\aq (dN T)=T.length/\RT N T.length (dN T):=by
 have a:(dN T).length=aq T:=by unfold dN;rw[bV,dQ]
 have c:RT N T.length (dN T):=λr hr=>by
  obtain⟨j,_,rfl⟩:=cx.mp hr
  refine⟨bV _,λx hx=>?_⟩
  obtain⟨y,hy,rfl⟩:=cx.mp hx
  exact(hT y hy).2.getD h0 j
 refine⟨a,?_,c⟩
 have:=Ek hw
 have e:aq (dN T)=((dN T).getD 0 []).length:=by
  unfold aq
  cases dN T<;>rfl
 rw[e,this,bV]
theorem τ{m:Bool × Nat}(hm:m∈aM){G:List (List Nat)}{u:List Nat}(hw:0<aq G)(hR:RT (ae m) (aq G) G)(hu:u.length=aq G)(ha:AllLt (ae m) u)(s:bQ m G (cf u)):∃X,gk m (dN G) u=some X/\X.length=G.length/\AllLt (ae m) X/\jq m X G (aq G)=u:=by
 obtain⟨c,hc,h⟩:=s.sum hm hR
 have l0:0<ae m:=by have:=lo1 hm;omega
 obtain⟨t1,t2,t3⟩:=El l0 hw hR
 have OM:=t3
 rw[<-t2]at OM
 have col:∀(y:Nat->Nat) a,a<aq G->sm (gp m) (aq (dN G)) (λj=>gm m (cf ((dN G).getD a []) j) (y j))=sm (gp m) G.length λi=>gm m (y i) (cf (G.getD i []) a):=λy a h1=>by
  rw[t2]
  exact cF λj _=>by rw[Ek h1,Eg,ir]
 obtain⟨X,x1,x2,x3,x4⟩:=OL hm (G:=dN G) (u:=u) (by omega) (by omega) OM ha hc λa h1=>by
  rw[col c a (by omega)];exact(h a).symm
 refine⟨X,x1,by omega,x3,OI (by omega) hu λk hk=>?_⟩
 rw[<-x4 k (by omega),col (cf X) k hk]
end L3
namespace L3
open PySem L2 Mf
noncomputable def pB(T:List (List Nat))(w:Nat):List Nat:=(aP w).filter λj=>!(T.map bA).contains j
noncomputable def jr(m:Bool × Nat)(T:List (List Nat))(w f:Nat):List Nat:=(((T.map bA).zip T).foldl (λx z=>x.set z.1 (cM m 0 (z.2.getD f 0))) ((aT w 0).set f 1))
theorem RR.heads{m:Bool × Nat}(hm:m∈aM){w:Nat}{R:List (List Nat)}{H:Nat->Nat}(hR:RT (ae m) w R)(I:RR w R H):R.map bA=(aP R.length).map H:=by
 refine vm (by rw[bV,bV,dQ]) λi h1 h2=>?_
 rw[bV]at h1
 rw[jH,jH,BR,<- (I.rT hm hR h1).1,aR,aQ h1];rfl
theorem RR.mem{m:Bool × Nat}(hm:m∈aM){w:Nat}{R:List (List Nat)}{H:Nat->Nat}(hR:RT (ae m) w R)(I:RR w R H)(j:Nat):j∈R.map bA↔∃i,i<R.length/\H i=j:=by
 rw[I.heads hm hR,cx]
 exact⟨λ⟨i,a,b⟩=>⟨i,dE.mp a,b⟩,λ⟨i,a,b⟩=>⟨i,dE.mpr a,b⟩⟩
theorem RR.free{m:Bool × Nat}(hm:m∈aM){w:Nat}{R:List (List Nat)}{H:Nat->Nat}(hR:RT (ae m) w R)(I:RR w R H)(j:Nat):j∈pB R w↔j<w/\∀i,i<R.length->H i≠j:=by
 unfold pB
 rw[xM,dE,Bool.not_eq_true',<- Bool.not_eq_true,qf,I.mem hm hR]
 exact and_congr_right λ_=>⟨λh i a b=>h ⟨i,a,b⟩,λh ⟨i,a,b⟩=>h i a b⟩
theorem RR.υ{m:Bool × Nat}(hm:m∈aM){w:Nat}{R:List (List Nat)}{H:Nat->Nat}(hR:RT (ae m) w R)(I:RR w R H):(pB R w).length+R.length=w:=by
 have nd:(R.map bA).Nodup:=by
  rw[I.heads hm hR]
  unfold List.Nodup
  rw[Ko]
  intro i j hi hj rS
  rw[bV,dQ]at hi hj
  rw[jH,jH,BR,BR]
  have:=I.i i j rS hj
  omega
 have pe:((aP w).filter λj=>(R.map bA).contains j).Perm (R.map bA):=by
  refine(List.perm_ext_iff_of_nodup (List.Pairwise.filter _ List.nodup_range) nd).mpr λj=>?_
  rw[xM,qf,dE]
  refine⟨λh=>h.2,λh=>⟨?_,h⟩⟩
  obtain⟨i,hi,rfl⟩:=(I.mem hm hR j).mp h
  exact I.l i hi
 have l1:=pe.length_eq
 rw[bV]at l1
 have l2:=List.length_eq_countP_add_countP (λj=>(R.map bA).contains j) (l:=aP w)
 rw[dQ,SD,SD,l1]at l2
 unfold pB
 have e:((aP w).filter λa=>decide ¬(R.map bA).contains a=true)=(aP w).filter λj=>!(R.map bA).contains j:=List.filter_congr λx _=>by
  cases(R.map bA).contains x<;>rfl
 rw[e]at l2
 omega
theorem ON{m:Bool × Nat}(hm:m∈aM){w f:Nat}{R:List (List Nat)}{H:Nat->Nat}(hR:RT (ae m) w R)(I:RR w R H)(hf:f∈pB R w):(jr m R w f).length=w/\AllLt (ae m) (jr m R w f)/\cf (jr m R w f) f=1/\(∀i,i<R.length->cf (jr m R w f) (H i)=cM m 0 (cf (R.getD i []) f))/\∀j,j≠f->(∀i,i<R.length->H i≠j)->cf (jr m R w f) j=0:=by
 obtain⟨f1,f2⟩:=(I.free hm hR f).mp hf
 have l1:=lo1 hm
 have zl:((R.map bA).zip R).length=R.length:=by rw[x6,bV,vg]
 have zg:∀i (h:i<R.length),((R.map bA).zip R)[i]'(by omega)=(H i,R.getD i []):=λi h=>by
  rw[List.getElem_zip,jH]
  have e:R.getD i []=R[i]:=by rw[aR,aQ h];rfl
  have:=(I.rT hm hR h).1
  rw[e]at this ⊢
  exact BN this rfl
 have zm:∀z∈(R.map bA).zip R,∃i,i<R.length/\z=(H i,R.getD i []):=λz hz=>by
  obtain⟨i,hi,rfl⟩:=fe hz
  exact⟨i,by omega,zg i (by omega)⟩
 have mz:∀i,i<R.length->(H i,R.getD i [])∈(R.map bA).zip R:=λi h=>by
  rw[<-zg i h];exact cN _
 have bd:∀z∈(R.map bA).zip R,cM m 0 (z.2.getD f 0)<ae m:=λz hz=>by
  obtain⟨i,hi,rfl⟩:=zm z hz
  exact(tP hm (by omega) (de hm (hR _ (cG hi [])).2 f)).2.1
 refine⟨?_,?_,?_,λi hi=>?_,λj hj χ=>?_⟩
 ·unfold jr
  rw[Ei (λz:Nat × List Nat=>z.1) (λz=>cM m 0 (z.2.getD f 0)),ve,jE]
 ·have key:∀(l:List (Nat × List Nat)) (x:List Nat),(∀z∈l,cM m 0 (z.2.getD f 0)<ae m)->AllLt (ae m) x->AllLt (ae m) (l.foldl (λx z=>x.set z.1 (cM m 0 (z.2.getD f 0))) x):=by
   intro l
   induction l with
   | nil=>exact λx _ h=>h
   | cons z l ih =>
    intro x hz h
    rw[sA]
    refine ih _ (λy hy=>hz y (fm _ hy)) λy hy=>?_
    rcases BJ hy with h1 | h1
    ·exact h y h1
    ·rw[h1];exact hz z jz
  refine key _ _ bd λx hx=>?_
  rcases BJ hx with h1 | h1
  ·rw[(BA.mp h1).2];omega
  ·omega
 ·unfold jr
  rw[xa (λz:Nat × List Nat=>z.1) (λz=>cM m 0 (z.2.getD f 0)) _ _ λz hz=>?_]
  ·unfold cf
   rw[aR,sr (by rw[jE];exact f1)];rfl
  ·obtain⟨i,hi,rfl⟩:=zm z hz
   exact f2 i hi
 ·have hp:((R.map bA).zip R).Pairwise (λy z:Nat × List Nat=>y.1≠z.1):=by
   rw[Ko]
   intro i j hi hj rS
   rw[zg i (by omega),zg j (by omega)]
   have:=I.i i j rS (by omega)
   show H i≠H j
   omega
  exact Eh (λz:Nat × List Nat=>z.1) (λz=>cM m 0 (z.2.getD f 0)) _ _ hp _ (mz i hi) (by rw[ve,jE];exact I.l i hi)
 ·unfold jr
  rw[xa (λz:Nat × List Nat=>z.1) (λz=>cM m 0 (z.2.getD f 0)) _ _ λz hz=>?_]
  ·unfold cf
   rw[aR,pQ (dF hj),va]
   split<;>rfl
  ·obtain⟨i,hi,rfl⟩:=zm z hz
   exact χ i hi
theorem ω{N:Nat}{p q:Nat->Nat->Nat}(r:Rg N p q){f:Nat->Nat}{a b n:Nat}(ha:a<n)(hb:b<n)(hn:a≠b)(fa:f a<N)(fb:f b<N)(hz:∀j,j<n->j≠a->j≠b->f j=0):sm p n f=p (f a) (f b):=by
 have h1:=mS r (f:=λj=>if j=a then f a else 0) (j0:=a) (n:=n) (by rw[if_pos rfl];exact fa) ha λj _ h=>if_neg h
 have h2:=mS r (f:=λj=>if j=b then f b else 0) (j0:=b) (n:=n) (by rw[if_pos rfl];exact fb) hb λj _ h=>if_neg h
 rw[if_pos rfl]at h1 h2
 rw[<-h1,<- h2,<- pk r]
 refine cF λj hj=>?_
 by_cases ja:j=a
 ·rw[if_pos ja,if_neg (by omega),r.z' fa,ja]
 ·by_cases jb:j=b
  ·rw[if_neg ja,if_pos jb,r.z fb,jb]
  ·rw[if_neg ja,if_neg jb,hz j hj ja jb,r.z r.pos]
noncomputable def dt(m:Bool × Nat)(w:Nat)(x y:Nat->Nat):Nat:=sm (gp m) w λj=>gm m (x j) (y j)
theorem Γ{m:Bool × Nat}(hm:m∈aM){w f:Nat}{R:List (List Nat)}{H:Nat->Nat}(hR:RT (ae m) w R)(I:RR w R H)(hf:f∈pB R w){i:Nat}(hi:i<R.length):dt m w (cf (R.getD i [])) (cf (jr m R w f))=0:=by
 have r:=rg hm
 obtain⟨f1,f2⟩:=(I.free hm hR f).mp hf
 obtain⟨k1,k2,k3,k4,k5⟩:=ON hm hR I hf
 have il:=de hm (hR _ (cG hi [])).2
 have g:=tP hm (a:=0) r.pos (il f)
 unfold dt
 rw[ω r (f:=λj=>gm m (cf (R.getD i []) j) (cf (jr m R w f) j)) (a:=H i) (b:=f) (I.l i hi) f1 (f2 i hi) (eO hm _ _) (eO hm _ _) λj hj ja jb=>?_]
 ·rw[k3,k4 i hi,I.u i i hi hi,if_pos rfl,jo g.2.1,tN (il f)]
  exact g.2.2
 ·by_cases c:∃i',i'<R.length/\H i'=j
  ·obtain⟨i',h1,rfl⟩:=c
   rw[I.u i i' hi h1,if_neg (λz:i=i'=>ja (by rw[z])),gj m _ (cV m hm)]
  ·rw[k5 j jb λi' h1 h2=>c ⟨i',h1,h2⟩,r.qz]
theorem bQ.dt{m:Bool × Nat}(hm:m∈aM){R:List (List Nat)}{n:Nat}{y:Nat->Nat}(h:∀i,i<R.length->dt m n (cf (R.getD i [])) y=0){f:Nat->Nat}(s:bQ m R f):dt m n f y=0:=by
 refine s.ann hm λx hx=>?_
 obtain⟨i,hi,rfl⟩:=fe hx
 have:=h i hi
 rw[aR,aQ hi]at this
 exact this
theorem OO{N n:Nat}{M:List (List Nat)}(h:RT N n M)(h0:M≠[]):aq M=n:=by
 cases M with
 | nil=>exact absurd rfl h0
 | cons g M=>exact(h g jz).1
theorem Δ{m:Bool × Nat}(hm:m∈aM){n:Nat}{M:List (List Nat)}(h:RT (ae m) n M)(hl:M.length<n):∃(x:Nat->Nat) (f:Nat),f<n/\(∀k,x k<ae m)/\x f=1/\∀i,i<M.length->dt m n (cf (M.getD i [])) x=0:=by
 by_cases h0:M=[]
 ·subst h0
  exact⟨λ_=>1,0,hl,λ_=>lo1 hm,rfl,λi hi=>nomatch hi⟩
 ·have hw:=OO h h0
  obtain⟨⟨H,I⟩,iR,il,sp⟩:=pq hm (G:=M) (by rw[hw];exact h)
  rw[hw]at I iR
  have fl:=I.υ hm iR
  have f0:0<(pB (bW m M) n).length:=by omega
  have hf:=cG f0 0
  obtain⟨k1,k2,k3,k4,k5⟩:=ON hm iR I hf
  refine⟨cf (jr m (bW m M) n ((pB (bW m M) n).getD 0 0)),_,((I.free hm iR _).mp hf).1,de hm k2,k3,λi hi=>?_⟩
  exact bQ.dt hm (λi' gE=>Γ hm iR I hf gE) ((sp _).mp (bQ.of (cG hi [])))
theorem RR.OP{m:Bool × Nat}(hm:m∈aM){w v:Nat}{S R:List (List Nat)}{H:Nat->Nat}(hS:RT (ae m) w S)(I:RR w S H)(hR:RT (ae m) v R)(h:∀i,i<S.length->bQ m R (cf (S.getD i []))):S.length<=R.length:=by
 have r:=rg hm
 refine Bj λhl=>?_
 have hc:∀i,∃c:Nat->Nat,i<S.length->(∀j,c j<ae m)/\∀k,cf (S.getD i []) k=sm (gp m) R.length λj=>gm m (c j) (cf (R.getD j []) k):=λi=>by
  by_cases hi:i<S.length
  ·obtain⟨c,a,b⟩:=(h i hi).sum hm hR
   exact⟨c,λ_=>⟨a,b⟩⟩
  ·exact⟨λ_=>0,λz=>absurd z hi⟩
 obtain⟨C,hC⟩:=Classical.axiomOfChoice hc
 have cl:∀i,i<S.length->∀j,C i j<ae m:=λi hi=>(hC i hi).1
 obtain⟨x,f,f1,x1,x2,x3⟩:=Δ hm (n:=S.length) (M:=(aP R.length).map λj=>(aP S.length).map λi=>C i j) (λy hy=>by
  obtain⟨j,_,rfl⟩:=cx.mp hy
  refine⟨by rw[bV,dQ],λz hz=>?_⟩
  obtain⟨i,hi,rfl⟩:=cx.mp hz
  exact cl i (dE.mp hi) j) (by rw[bV,dQ];exact hl)
 rw[bV,dQ]at x3
 have x4:∀j,j<R.length->sm (gp m) S.length (λi=>gm m (C i j) (x i))=0:=λj hj=>by
  rw[<-x3 j hj]
  refine cF λi hi=>?_
  rw[Ee (λj=>(aP S.length).map λi=>C i j) (by rw[dQ];exact hj) 0 [],OE _ hi,aR,kE hj];rfl
 have x5:∀k,sm (gp m) S.length (λi=>gm m (x i) (cf (S.getD i []) k))=0:=λk=>by
  rw[cF (g:=λi=>sm (gp m) R.length λj=>gm m (gm m (C i j) (x i)) (cf (R.getD j []) k)) λi hi=>?_,zC r,gQ r λj hj=>?_]
  ·rw[cF (g:=λi=>gm m (cf (R.getD j []) k) (gm m (C i j) (x i))) λi hi=>ir m _ _,ki r,x4 j hj,r.qz]
  ·rw[(hC i hi).2 k,<- ki r]
   exact cF λj _=>by rw[<-ke (cV m hm),ir m (x i)]
 have:=x5 (H f)
 rw[mS r (f:=λi=>gm m (x i) (cf (S.getD i []) (H f))) (eO hm _ _) f1 λj hj hn=>by rw[I.u j f hj f1,if_neg hn,r.qz],I.u f f f1 f1,if_pos rfl,x2,jo (lo1 hm)]at this
 omega
theorem Sp.sm{N:Nat}{p q:Nat->Nat->Nat}{S:(Nat->Nat)->Prop}{c:Nat->Nat}{F:Nat->Nat->Nat}:∀{n:Nat},(∀i,i<n->c i<N)->(∀i,i<n->Sp N p q S (F i))->Sp N p q S λk=>L3.sm p n λi=>q (c i) (F i k)
 | 0,_,_=>.zero
 | n+1,hc,h=>.add (Sp.sm (λi hi=>hc i (by omega)) λi hi=>h i (by omega)) (.mul _ (hc n (by omega)) (h n (by omega)))
theorem kj{T:List (List Nat)}{i:Nat}(h:i<T.length):T.getD i []=T[i]:=by rw[aR,aQ h];rfl
end L3
namespace L3
open PySem L2 PySem.Spec PyProof.Rows
section
variable{X:Cx}{F H:Hp}{e b:Expr}{pos pos' p p2 p3 apos bI:Pos}{ti te:aC}{x y:Str}{i j:Nat}
end
section
variable{X:Cx}
end
section
variable{X:Cx}{es:List Expr}{tr:cj}{pos:Pos}
theorem zL(h:PA X es (lA tr)):PE X (.List es pos) (lB (lD tr)) :=
 cQ (KW h) λσ H Q ⟨B,F,δ,ts,Qd,c,q,k⟩=>⟨B,F,δ,ts,_,c,q,λds ai vs F1 H1 q1 f1 h1 c1 s1=>⟨by rw[<-s1.length];exact q1.1,λp hp=>k _ ai _ F1 _ q1.2 f1 (h1.trans (aa.upd hp)) (c1.grow (aa.upd hp)) (.own bM (s1.mono (aa.refl _) (aa.upd hp)) .nil)⟩⟩
end
end L3
namespace L3
open PySem L2 Mf
theorem RR.lead{m:Bool × Nat}(hm:m∈aM){w:Nat}{R:List (List Nat)}{H:Nat->Nat}(hR:RT (ae m) w R)(I:RR w R H){f:Nat->Nat}(s:bQ m R f){t:Nat}(h1:f t≠0)(h2:∀j,j<t->f j=0):∃i,i<R.length/\H i=t:=by
 refine J7 λc=>h1 ?_
 rw[I.own hm hR s t]
 refine gQ (rg hm) λi hi=>?_
 rcases Nat.lt_trichotomy (H i) t with h | h | h
 ·rw[h2 _ h,gj m _ (cV m hm)]
 ·exact absurd ⟨i,hi,h⟩ c
 ·rw[I.z i hi t h,(rg hm).qz]
theorem RR.same{m:Bool × Nat}(hm:m∈aM){w:Nat}{R R':List (List Nat)}{H H':Nat->Nat}(hR:RT (ae m) w R)(I:RR w R H)(zM:RT (ae m) w R')(I':RR w R' H')(h:∀x∈R,bQ m R' (cf x))(h':∀x∈R',bQ m R (cf x)):R=R':=by
 have l:R.length=R'.length:=Nat.le_antisymm (I.OP hm hR zM λi hi=>h _ (cG hi [])) (I'.OP hm zM hR λi hi=>h' _ (cG hi []))
 have a:∀i,i<R.length->∃j,j<R'.length/\H' j=H i:=λi hi=>I'.lead hm zM (h _ (cG hi [])) (by rw[I.u i i hi hi,if_pos rfl];decide) λj hj=>I.z i hi j hj
 have a':∀i,i<R'.length->∃j,j<R.length/\H j=H' i:=λi hi=>I.lead hm hR (h' _ (cG hi [])) (by rw[I'.u i i hi hi,if_pos rfl];decide) λj hj=>I'.z i hi j hj
 have e:∀n i,i<n->i<R.length->H i=H' i:=by
  intro n
  induction n with
  | zero=>exact λi hi=>nomatch hi
  | succ n ih =>
   intro i hi hl
   by_cases hn:i<n
   ·exact ih i hn hl
   obtain rfl:i=n:=by omega
   obtain⟨j,j1,j2⟩:=a i hl
   obtain⟨j',j3,j4⟩:=a' i (by omega)
   have b1:i<=j:=Bj λc=>by
    have:=ih j c (by omega)
    have:=I.i j i c hl
    omega
   have b2:i<=j':=Bj λc=>by
    have:=ih j' c (by omega)
    have:=I'.i j' i c (by omega)
    omega
   have c1:H' i<=H' j:=by
    rcases x9 i j with c | c
    ·exact sk (I'.i i j c j1)
    ·rw[show i=j by omega];exact bD _
   have c2:H i<=H j':=by
    rcases x9 i j' with c | c
    ·exact sk (I.i i j' c j3)
    ·rw[show i=j' by omega];exact bD _
   omega
 refine vm l λi h1 h2=>?_
 rw[<-kj h1,<- kj h2]
 refine OD (hR _ (cG h1 [])).1 (zM _ (cG h2 [])).1 λk _=>?_
 rw[I.own hm hR (h' _ (cG h2 [])) k,mS (rg hm) (f:=λj=>gm m (cf (R'.getD i []) (H j)) (cf (R.getD j []) k)) (eO hm _ _) h1 λj hj hn=>?_]
 ·rw[e (i+1) i (by omega) h1,I'.u i i h2 h2,if_pos rfl,jo (de hm (hR _ (cG h1 [])).2 k)]
 ·rw[e (j+1) j (by omega) hj,I'.u i j h2 (by omega),if_neg (λz:i=j=>hn z.symm),gj m _ (cV m hm)]
end L3
namespace L3
open PySem L2 Mf
end L3
namespace L3
open PySem L2 Mf
end L3
namespace L2
open PySem PySem.Spec PyProof.Rows
section
variable{X:Cx}
end
end L2
namespace L3
open PySem L2 PySem.Spec PyProof.Rows
section
variable{X:Cx}
end
end L3
namespace L2
open PySem PySem.Spec PyProof.Rows
section
variable{X:Cx}{a:Expr}{ta:TE}{p p2 pos tR:Pos}
end
end L2
namespace L3
open PySem L2 PySem.Spec PyProof.Rows
section
variable{X:Cx}{a:Expr}{t:aC}{p p2 pos tR:Pos}
end
end L3
namespace L3
open PySem L2 PySem.Spec PyProof.Rows
section
variable{F H:Hp}
end
section
variable{X:Cx}{e:Expr}{t:aC}{p2 pos:Pos}
end
end L3
namespace L3
open PySem L2 PySem.Spec PyProof.Rows
noncomputable def CD(A:List Addr)(H:Hp):Hp:=λa=>if a∈A then none else H a
section
variable{F H:Hp}
end
section
variable{P:Program}{w:World}{K:PySem.W.Frag}{mg:Str->Option Value}{base:Heap}
end
section
variable{X:Cx}{CX:dG}{n i:Nat}{f:Addr}{fd:FuncData}{ps:List Str}{sp:bG}{E:XK}{fn x:Str}{e:Expr}{te:aC}{p p2 pos pos' tR:Pos}
end
end L3
namespace L2
section
variable{α:Type}{P:List α->Prop}
theorem Θ(h:P []):∀us:List α,us.length=0->P us:=by
 intro us hl;rcases us with _ | ⟨a,t⟩
 ·exact h
 ·cases hl
theorem gS(h:∀a,P [a]):∀us:List α,us.length=1->P us:=by
 intro us hl;rcases us with _ | ⟨a,t⟩
 ·cases hl
 ·exact Θ (P:=λt=>P (a::t)) (h a) t (vn hl)
theorem iy(h:∀a b,P [a,b]):∀us:List α,us.length=2->P us:=by
 intro us hl;rcases us with _ | ⟨a,t⟩
 ·cases hl
 ·exact gS (P:=λt=>P (a::t)) (h a) t (vn hl)
theorem js(h:∀a b c,P [a,b,c]):∀us:List α,us.length=3->P us:=by
 intro us hl;rcases us with _ | ⟨a,t⟩
 ·cases hl
 ·exact iy (P:=λt=>P (a::t)) (h a) t (vn hl)
theorem tS(h:∀a b c d,P [a,b,c,d]):∀us:List α,us.length=4->P us:=by
 intro us hl;rcases us with _ | ⟨a,t⟩
 ·cases hl
 ·exact js (P:=λt=>P (a::t)) (h a) t (vn hl)
theorem OQ(h:∀a b c d e,P [a,b,c,d,e]):∀us:List α,us.length=5->P us:=by
 intro us hl;rcases us with _ | ⟨a,t⟩
 ·cases hl
 ·exact tS (P:=λt=>P (a::t)) (h a) t (vn hl)
theorem Λ(h:∀a b c d e f,P [a,b,c,d,e,f]):∀us:List α,us.length=6->P us:=by
 intro us hl;rcases us with _ | ⟨a,t⟩
 ·cases hl
 ·exact OQ (P:=λt=>P (a::t)) (h a) t (vn hl)
end
end L2
namespace L3
open PySem L2 PySem.Spec PyProof.Rows
section
variable{B:Bs}{F H:Hp}{σ:L2.St}{δ:Dl}{ts:List (D × V)}
theorem aj.apart{j:Nat}{p q:Addr}{xs ys:List D}(c:aj B F H σ δ ((.lst true xs,.ref q)::ts))(e:δ[j]?=some (some (.lst true ys)))(e2:σ[j]?=some (some (.ref p))):p≠q:=by
 obtain⟨A,C,r,s,nd,fr⟩:=c.own
 obtain⟨v,A',C',e1,h1,h2,pm⟩:=s.pick e
 rw[e2]at e1;cases e1
 intro z
 subst z
 have i1:p∈A:=by
  cases r with
  | own h f x r=>simp
 have i2:p∈C:=by
  refine pm.mem_iff.mpr ?_
  cases h1 with
  | own h f x r=>simp
 exact(fY.mp nd).2.2 p i1 i2
end
section
variable{X:Cx}{elt iter tg:Expr}{pos:Pos}{scope:Scope}{cl:List (Str × Addr)}{ti:gb}{te:aC}{g:e7}
end
end L3
namespace L2
open PySem PySem.Spec PyProof.Rows
section
variable{X:Cx}
end
end L2
namespace L3
open PySem L2 PySem.Spec PyProof.Rows
section
variable{X:Cx}
end
end L3
namespace L3
open PySem L2 Mf
noncomputable def zN(l:List Nat)(z:Nat->Nat):Nat->List Nat
 | 0=>l
 | t+1=>(zN l z t).eraseIdx (z t%(zN l z t).length)
noncomputable def drawn(l:List Nat)(z:Nat->Nat)(t:Nat):Nat:=(zN l z t).getD (z t%(zN l z t).length) 0
end L3
namespace L3
open PySem L2 Mf
section
variable{m:Bool × Nat}{C:Nat->Nat->Nat}{w:Nat}
end
end L3
namespace L3
open PySem L2 Mf
section
variable{m:Bool × Nat}{C:Nat->Nat->Nat}{w:Nat}
end
end L3
namespace L3
open PySem L2 Mf
section
variable{m:Bool × Nat}{C:Nat->Nat->Nat}
end
end L3
namespace L3
open PySem L2 PySem.Spec PyProof.Rows
section
variable{B:Bs}{F H:Hp}{σ:L2.St}{δ:Dl}{ts:List (D × V)}
end
section
variable{X:Cx}{a:Expr}{ta:aC}{pos p2:Pos}{tk:Nat}
end
end L3
namespace L3
open PySem L2 PySem.Spec PyProof.Rows
section
variable{X:Cx}{a b:Expr}{ta tb:aC}{elts:List Expr}{x1:Nat}{jL p pos:Pos}
end
end L3
namespace L3
open PySem L2 Mf
section
variable{m:Bool × Nat}
end
end L3
namespace L3
open PySem L2 PySem.Spec PyProof.Rows
section
variable{B:Bs}{F H:Hp}{σ:L2.St}{δ:Dl}{ts ps:List (D × V)}{p:Addr}
end
section
variable{X:Cx}{iter tg:Expr}{te:aC}{g:e7}{t:bX}{pos:Pos}
end
section
variable{X:Cx}{e:Expr}{pos p pr apos bI yW tp:Pos}{t:aC}{x y:Str}{i j:Nat}{n0:Int}
end
end L3
namespace L2
open PySem PySem.Spec PyProof.Rows
section
variable{prog:Program}{w:World}{A:Around}{E:Value->Shared->Prop}{s:Shared}
end
section
variable{prog:Program}{w:World}{A:Around}{E:Value->Shared->Prop}{s:Shared}
end
section
variable{X:Cx}{pins:List (Addr × Obj)}{σ:St}{H:Hp}{s:Shared}
end
section
variable{X:Cx}{a b:Expr}{ta:TA}{p pos jL:Pos}{elts:List Expr}{x1:Nat}
end
end L2
namespace L3
open PySem L2 PySem.Spec PyProof.Rows
section
variable{F H:Hp}{p q:Addr}{xs ys:List D}{ws us:List V}
end
section
variable{X:Cx}{a b l tg:Expr}{ta:cj}{te:aC}{p pos jL:Pos}{elts:List Expr}{x1:Nat}
end
end L3
namespace L3
open PySem L2 Mf
section
variable{m:Bool × Nat}
theorem Ξ(l:List Nat)(f k:Nat):cf (l++[f]) k=if k<l.length then cf l k else if k=l.length then f else 0:=by
 unfold cf
 rw[aR,aR]
 by_cases h:k<l.length
 ·rw[if_pos h,vb h]
 ·rw[if_neg h,su (by omega)]
  by_cases e:k=l.length
  ·rw[if_pos e,e,BH];rfl
  ·rw[if_neg e,iB (by simp;omega)];rfl
end
end L3
namespace L3
open PySem L2 PySem.Spec PyProof.Rows
section
variable{B:Bs}{F H:Hp}{σ:L2.St}{δ:Dl}{ts:List (D × V)}
end
section
variable{X:Cx}{a:Expr}{ta:aC}{pos p2:Pos}{tk:Nat}
end
end L3
namespace L2
open PySem PySem.Spec PyProof.Rows
end L2
namespace L2
open PySem PySem.Spec PyProof.Rows
section
variable{prog:Program}{w:World}{A:Around}{E:Value->Shared->Prop}{s:Shared}
end
end L2
namespace L2
open PySem PySem.Spec PyProof.Rows
section
variable{prog:Program}{w:World}{A:Around}{R:Result->Shared->Prop}{I:Addr}{fp wr:List Addr}{G:Array GenState->Array GenState->Prop}{n:Nat}{P:Nat->Value->Prop}{St:Nat->Shared->Prop}
end
section
variable{prog:Program}{w:World}{A:Around}{E:Value->Shared->Prop}{s:Shared}
end
end L2
namespace L2
open PySem PySem.Spec PyProof.Rows
section
variable{prog:Program}{w:World}{A:Around}{E:Value->Shared->Prop}{s:Shared}
end
end L2
namespace L2
open PySem PySem.Spec PyProof.Rows
section
variable{prog:Program}{w:World}{A:Around}{E:Value->Shared->Prop}{s:Shared}
end
end L2
namespace L2
open PySem PySem.Spec PyProof.Rows
section
variable{prog:Program}{w:World}{A:Around}{E:Value->Shared->Prop}{s:Shared}
end
end L2
namespace L2
open PySem PySem.Spec PyProof.Rows
section
variable{prog:Program}{w:World}{A:Around}{E:Value->Shared->Prop}{s:Shared}
noncomputable def mk(t:SetTable):Nat->Nat
 | 0=>0
 | i+1=>t.place.getD i 0+1
end
end L2
namespace L2
open PySem PySem.Spec PyProof.Rows
section
variable{prog:Program}{w:World}{A:Around}{E:Value->Shared->Prop}{s:Shared}
end
end L2
namespace L2
open PySem PySem.Spec PyProof.Rows
section
variable{prog:Program}{w:World}{A:Around}{E:Value->Shared->Prop}{s:Shared}
end
end L2
namespace L2
open PySem PySem.Spec PyProof.Rows
section
variable{prog:Program}{w:World}{A:Around}{E:Value->Shared->Prop}{s:Shared}
end
end L2
namespace L2
open PySem PySem.Spec PyProof.Rows
section
variable{prog:Program}{w:World}{A:Around}{E:Value->Shared->Prop}{s:Shared}
end
end L2
namespace L2
open PySem PySem.Spec PyProof.Rows
section
variable{prog:Program}{w:World}{A:Around}{E:Value->Shared->Prop}{s:Shared}
end
section
variable{X:Cx}
end
end L2
namespace L3
open PySem L2 PySem.Spec PyProof.Rows
section
variable{X:Cx}{e:Expr}{tr:cj}{p p2 pos tR:Pos}
end
end L3
namespace L3
open PySem L2 Mf
end L3
namespace L2
open PySem PySem.Spec PyProof.Rows
section
variable{X:Cx}
end
end L2
namespace L3
open PySem L2 PySem.Spec PyProof.Rows
section
variable{X:Cx}{o e:Expr}{t tb:aC}{apos bI:Pos}
end
section
variable{X:Cx}{i:Nat}{x:Str}{p pos apos bI Yd tR:Pos}{a b:List Stmt}{t u:bX}{k:Int}{j}
end
end L3
namespace L3
open PySem L2 Mf
section
variable{N:Nat}{p q:Nat->Nat->Nat}
theorem p4(r:Rg N p q)(a b c d:Nat):p (p a b) (p c d)=p (p a c) (p b d):=by rw[r.pa,r.pa,<- r.pa b,r.pc b c,r.pa c]
theorem q3(r:Rg N p q){a b c:Nat}(ha:a<N)(hb:b<N)(hc:c<N):q (q a b) c=q (q a c) b:=by rw[r.ma ha hb hc,r.mc b c,r.ma ha hc hb]
variable{ng:Nat->Nat}{c:Nat}
end
section
variable{m:Bool × Nat}
end
end L3
namespace L2
open PySem PySem.Spec PyProof.Rows
section
variable{prog:Program}{w:World}{A:Around}{E:Value->Shared->Prop}{s:Shared}
end
section
variable{X:Cx}{e:Expr}{ta:TA}{p p2 pos tR:Pos}
end
end L2
namespace L3
open PySem L2 PySem.Spec PyProof.Rows
section
variable{X:Cx}{e:Expr}{tr:cj}{p p2 pos tR:Pos}
end
end L3
namespace L2
open PySem PySem.Spec PyProof.Rows
section
variable{κ:Type}[DecidableEq κ]
noncomputable def eF(ao:List (κ × V))(k:κ):Option V:=(ao.find? λkv=>decide (kv.1=k)).map (·.2)
noncomputable def gn(ao:List (κ × V))(k:κ)(v:V):List (κ × V) :=
 if(ao.any λkv=>decide (kv.1=k))=true then ao.map (λkv=>if kv.1=k then(kv.1,v)else kv)else ao++[(k,v)]
noncomputable def OR(ao:List (κ × V))(k:κ):List (κ × V):=ao.filter λkv=>decide (kv.1≠k)
theorem jt{p:κ × V}{r:List (κ × V)}{k:κ}(e:p.1=k):eF (p::r) k=some p.2:=by simp[eF,vo,e]
theorem ju{p:κ × V}{r:List (κ × V)}{k:κ}(e:¬ p.1=k):eF (p::r) k=eF r k:=by simp[eF,vo,e]
theorem zO(k:κ):∀ao:List (κ × V),(ao.any λkv=>decide (kv.1=k))=(eF ao k).isSome
 | []=>rfl
 | p::r=>by
  rw[xS]
  by_cases e:p.1=k
  ·simp only[jt e,decide_eq_true e,qg,Sz]
  ·rw[ju e,decide_eq_false e,qh];exact zO k r
theorem OS(k j:κ)(y:V):∀ao:List (κ × V),eF (ao.map λkv=>if kv.1=k then(kv.1,y)else kv) j=(eF ao j).map λx=>if j=k then y else x
 | []=>rfl
 | p::r=>by
  have ih:=OS k j y r
  rw[cH]
  by_cases h:p.1=k
  ·rw[if_pos h]
   by_cases e:p.1=j
   ·rw[jt (p:=(p.1,y)) e,jt e,iC,if_pos (e.symm.trans h)]
   ·rw[ju (p:=(p.1,y)) e,ju e,ih]
  ·rw[if_neg h]
   by_cases e:p.1=j
   ·rw[jt (p:=p) e,jt e,iC,if_neg (λz=>h (e.trans z))]
   ·rw[ju (p:=p) e,ju e,ih]
theorem OT(k j:κ)(y:V):∀ao:List (κ × V),eF ao k=none->eF (ao++[(k,y)]) j=if j=k then some y else eF ao j
 | [],_=>by
  by_cases e:k=j
  ·rw[if_pos e.symm];exact jt (p:=(k,y)) e
  ·rw[if_neg (λz=>e z.symm)];exact ju (p:=(k,y)) e
 | p::r,hn=>by
  rw[nt]
  have hk:¬ p.1=k:=λz=>by rw[jt z]at hn;cases hn
  rw[ju hk]at hn
  have ih:=OT k j y r hn
  by_cases e:p.1=j
  ·rw[jt e,jt e,if_neg (λz=>hk (e.trans z))]
  ·rw[ju e,ju e,ih]
theorem Φ(ao:List (κ × V))(k j:κ)(y:V):eF (gn ao k y) j=if j=k then some y else eF ao j:=by
 unfold gn
 by_cases a:(ao.any λkv=>decide (kv.1=k))=true
 ·rw[if_pos a,OS]
  rw[zO]at a
  by_cases e:j=k
  ·obtain⟨x,hx⟩:=J4.mp a
   rw[if_pos e,e,hx,iC,if_pos rfl]
  ·rw[if_neg e]
   cases eF ao j with
   | none=>rfl
   | some x=>rw[iC,if_neg e]
 ·rw[if_neg a]
  refine OT k j y ao ?_
  rw[zO]at a
  cases q:eF ao k with
  | none=>rfl
  | some x=>rw[q]at a;exact(a rfl).elim
theorem Em(ao:List (κ × V))(k:κ)(v:V):(gn ao k v).length<=ao.length+1:=by
 unfold gn
 split
 ·rw[bV];omega
 ·rw[iQ,gZ,qi];omega
theorem fq.OU{o:Option V}{u:Option Value}(r:fq o u):o.isSome=u.isSome:=by
 cases o with
 | none=>cases u with
  | none=>rfl
  | some _=>exact(show False from r).elim
 | some _=>cases u with
  | none=>exact(show False from r).elim
  | some _=>rfl
theorem fq.getD{o:Option V}{u:Option Value}{d:V}{d':Value}(r:fq o u)(rd:RelV d d'):RelV (o.getD d) (u.getD d'):=by
 cases o with
 | none=>cases u with
  | none=>exact rd
  | some _=>exact(show False from r).elim
 | some _=>cases u with
  | none=>exact(show False from r).elim
  | some _=>exact r
theorem KV.val{ao:List (κ × V)}{vs:List (κ × Value)}(r:KV ao vs)(k:κ):fq (eF ao k) (valueAt vs k):=by
 unfold KV at r
 induction r with
 | nil=>exact jB
 | @cons p q ps qs h t ih =>
  obtain⟨h1,h2⟩:=h
  by_cases e:p.1=k
  ·have e':q.1=k:=h1.symm.trans e
   have b:valueAt (q::qs) k=some q.2:=by simp[valueAt,vo,e']
   rw[jt e,b];exact h2
  ·have e':¬ q.1=k:=λz=>e (h1.trans z)
   have b:valueAt (q::qs) k=valueAt qs k:=by simp[valueAt,vo,e']
   rw[ju e,b];exact ih
theorem KV.any{ao:List (κ × V)}{vs:List (κ × Value)}(r:KV ao vs)(k:κ):(ao.any λkv=>decide (kv.1=k))=vs.any λkv=>decide (kv.1=k):=by
 unfold KV at r
 induction r with
 | nil=>rfl
 | cons h t ih=>rw[xS,xS,ih,h.1]
theorem KV.Eo{ao:List (κ × V)}{vs:List (κ × Value)}(r:KV ao vs)(k:κ){y:V}{u:Value}(ry:RelV y u) :
  KV (ao.map λkv=>if kv.1=k then(kv.1,y)else kv) (vs.map λkv=>if kv.1=k then(kv.1,u)else kv):=by
 unfold KV at r ⊢
 induction r with
 | nil=>exact .nil
 | @cons p q ps qs h t ih =>
  rw[cH,cH]
  refine .cons ?_ ih
  obtain⟨h1,h2⟩:=h
  by_cases e:p.1=k
  ·rw[if_pos e,if_pos (h1.symm.trans e)];exact⟨h1,ry⟩
  ·rw[if_neg e,if_neg (λz=>e (h1.trans z))];exact⟨h1,h2⟩
theorem KV.put{ao:List (κ × V)}{vs:List (κ × Value)}(r:KV ao vs)(k:κ){y:V}{u:Value}(ry:RelV y u):KV (gn ao k y) (stored vs k u):=by
 unfold gn stored
 rw[r.any k]
 by_cases e:(vs.any λkv=>decide (kv.1=k))=true
 ·rw[if_pos e,if_pos e];exact r.Eo k ry
 ·rw[if_neg e,if_neg e];exact Paired.snoc r ⟨rfl,ry⟩
theorem KV.drop{ao:List (κ × V)}{vs:List (κ × Value)}(r:KV ao vs)(k:κ):KV (OR ao k) (without vs k):=by
 unfold KV at r ⊢
 unfold OR without
 induction r with
 | nil=>exact .nil
 | @cons p q ps qs h t ih =>
  obtain⟨h1,h2⟩:=h
  rw[List.filter_cons,List.filter_cons]
  by_cases e:p.1=k
  ·have a:¬ decide (p.1≠k)=true:=by simp[e]
   have b:¬ decide (q.1≠k)=true:=by simp[h1.symm.trans e]
   rw[if_neg a,if_neg b];exact ih
  ·have e':¬ q.1=k:=λz=>e (h1.trans z)
   have a:decide (p.1≠k)=true:=by simp[e]
   have b:decide (q.1≠k)=true:=by simp[e']
   rw[if_pos a,if_pos b];exact .cons ⟨h1,h2⟩ ih
theorem KV.keys{ao:List (κ × V)}{vs:List (κ × Value)}(r:KV ao vs):ao.map (·.1)=vs.map (·.1):=by
 unfold KV at r
 induction r with
 | nil=>rfl
 | cons h t ih=>rw[cH,cH,ih,h.1]
theorem KV.length{ao:List (κ × V)}{vs:List (κ × Value)}(r:KV ao vs):ao.length=vs.length:=Paired.length r
end
theorem Ep{P:Program}{w:World}{k:Key}{u:Value}(r:RelV (kV k) u):(gr P w).is k u=true:=by
 cases k with
 | inl i=>obtain⟨t,e⟩:=(show ∃t,u=si i t from r);subst e;exact SN P w i t
 | inr x=>obtain⟨t,e⟩:=(show ∃t,u=xK x t from r);subst e;exact SO P w x t
theorem OV{P:Program}{w:World}:∀{ks:List Key} {us:List Value},Vals (ks.map kV) us->ItemsAre (gr P w) ks us
 | [],_,r=>by rw[iS]at r;cases r;exact .nil
 | k::ks,_,r=>by
  rw[cH]at r
  cases r with
  | cons h t=>exact .cons (Ep h) (OV t)
noncomputable abbrev KT(H:Hp):List (List Key × V)->List (List Key × Addr × Value)->Prop:=Paired λp q=>p.1=q.1/\H q.2.1=some (.tup (p.1.map kV))/\RelV p.2 q.2.2
theorem KT.val{H:Hp}{ao:List (List Key × V)}{xs:List (List Key × Addr × Value)}(r:KT H ao xs)(k:List Key):fq (eF ao k) ((atKey xs k).map (·.2)):=by
 induction r with
 | nil=>exact jB
 | @cons p q ps qs h t ih =>
  obtain⟨h1,_,h2⟩:=h
  by_cases e:p.1=k
  ·have e':q.1=k:=h1.symm.trans e
   have b:atKey (q::qs) k=some q.2:=by simp[atKey,vo,e']
   rw[jt e,b];exact h2
  ·have e':¬ q.1=k:=λz=>e (h1.trans z)
   have b:atKey (q::qs) k=atKey qs k:=by simp[atKey,vo,e']
   rw[ju e,b];exact ih
theorem KT.Eo{H:Hp}{ao:List (List Key × V)}{xs:List (List Key × Addr × Value)}(r:KT H ao xs)(k:List Key){y:V}{u:Value}(ry:RelV y u) :
  KT H (ao.map λkv=>if kv.1=k then(kv.1,y)else kv) (xs.map (putAt k u)):=by
 induction r with
 | nil=>exact .nil
 | @cons p q ps qs h t ih =>
  rw[cH,cH]
  refine .cons ?_ ih
  obtain⟨h1,h2,h3⟩:=h
  unfold putAt
  by_cases e:p.1=k
  ·rw[if_pos e,if_pos (h1.symm.trans e)];exact⟨h1,h2,ry⟩
  ·rw[if_neg e,if_neg (λz=>e (h1.trans z))];exact⟨h1,h2,h3⟩
theorem KT.put{H:Hp}{ao:List (List Key × V)}{xs:List (List Key × Addr × Value)}(r:KT H ao xs)(k:List Key){b:Addr}{y:V}{u:Value}(hb:H b=some (.tup (k.map kV)))(ry:RelV y u) :
  KT H (gn ao k y) (storedH xs k b u):=by
 have e:(ao.any λkv=>decide (kv.1=k))=(atKey xs k).isSome:=by
  rw[zO,(r.val k).OU,Option.isSome_map]
 unfold gn storedH
 rw[e]
 by_cases q:(atKey xs k).isSome=true
 ·rw[if_pos q,if_pos q];exact r.Eo k ry
 ·rw[if_neg q,if_neg q];exact Paired.snoc r ⟨rfl,hb,ry⟩
theorem KT.keeps{H H':Hp}{ao:List (List Key × V)}{xs:List (List Key × Addr × Value)}(r:KT H ao xs)(ht:∀b ys,H b=some (.tup ys)->H' b=some (.tup ys)):KT H' ao xs :=
 Paired.yc r λ_ _ z=>⟨z.1,ht _ _ z.2.1,z.2.2⟩
section
variable{P:Program}{w:World}{H:Hp}{h:Heap}{a:Addr}
theorem OW{u:HO}(ok:bS P w H h)(e:Rd H a u):cy P w H h a u:=e.ok ok
theorem Ψ{ao:List (Key × V)}(ok:bS P w H h)(e:Rd H a (.dK ao)):ao.length<=sizeLine/\(a==sysModules)=false/\∃vs,KV ao vs/\h.DictOf (gr P w) a vs :=
 show cy P w H h a (.dK ao) from OW ok e
theorem Er{ao:List (Key × V)}(ok:bS P w H h)(e:H a=some (.dK ao)):ao.length<=sizeLine/\(a==sysModules)=false/\∃vs,KV ao vs/\h.DictOf (gr P w) a vs:=Ψ ok (.inl e)
theorem OX{ks:List Key}(ok:bS P w H h)(e:H a=some (.tup (ks.map kV))):(tupleKind (gr P w)).is h ks a:=by
 obtain⟨_,its,r,o,h1,h2,n,h3⟩:=(show cy P w H h a (.tup (ks.map kV)) from ok a _ e)
 exact⟨o,its.toArray,n,h1,h2,h3,by simpa using OV r⟩
theorem Ω{ao:List (List Key × V)}(ok:bS P w H h)(e:Rd H a (.dT ao)):ao.length<=sizeLine/\(a==sysModules)=false /\
  ∃xs,KT H ao xs/\h.DictOfH (tupleKind (gr P w)) a xs:=by
 obtain⟨z,y,xs,r,o,es,ep,h1,h2,h3,h4,h5⟩:=(show cy P w H h a (.dT ao) from OW ok e)
 refine⟨z,y,xs,r,o,es,ep,h1,h2,h3,h4,λx hx=>?_,h5⟩
 have all:∀{l:List (List Key × V)} {m:List (List Key × Addr × Value)},KT H l m->∀x∈m,(tupleKind (gr P w)).is h x.1 x.2.1:=by
  intro l m q
  induction q with
  | nil=>intro x hx;exact nomatch hx
  | @cons p q ps qs hq t ih =>
   intro x hx
   rcases cg.mp hx with e | hx
   ·subst e
    exact OX ok (by rw[<-hq.1];exact hq.2.1)
   ·exact ih x hx
 exact all r x hx
theorem cl3{ao:List (List Key × V)}(ok:bS P w H h)(e:H a=some (.dT ao)):ao.length<=sizeLine/\(a==sysModules)=false /\
  ∃xs,KT H ao xs/\h.DictOfH (tupleKind (gr P w)) a xs:=Ω ok (.inl e)
end
noncomputable def rU(H:Hp)(a:Addr)(y v:V)(H':Hp):Prop :=
 (∃ao k,H a=some (.dK ao)/\y=kV k/\ao.length<sizeLine/\H'=upd H a (.dK (gn ao k v))) \/
 ∃ao k b,H a=some (.dT ao)/\y=.ref b/\H b=some (.tup (k.map kV))/\ao.length<sizeLine/\H'=upd H a (.dT (gn ao k v))
theorem rU.k{H:Hp}{a:Addr}{ao:List (Key × V)}{k:Key}{v:V}(e:H a=some (.dK ao))(hl:ao.length<sizeLine):rU H a (kV k) v (upd H a (.dK (gn ao k v))):=.inl ⟨ao,k,e,rfl,hl,rfl⟩
theorem rU.t{H:Hp}{a b:Addr}{ao:List (List Key × V)}{k:List Key}{v:V}(e:H a=some (.dT ao))(eb:H b=some (.tup (k.map kV)))(hl:ao.length<sizeLine) :
  rU H a (.ref b) v (upd H a (.dT (gn ao k v))):=.inr ⟨ao,k,b,e,rfl,eb,hl,rfl⟩
section
variable{X:Cx}{pins:List (Addr × Obj)}{σ:St}{H:Hp}{s:Shared}{a:Addr}{y v:V}{u r:Value}{o:Option V}{A:Around}{E:Value->Shared->Prop}
theorem Inv.big(I:Inv X pins σ H s):sysModules<s.heap.objs.size:=by
 have h:mainGlobals<s.heap.objs.size:=(I.mod.glob.keeps I.bk).lt
 exact Nat.lt_trans (by decide) h
theorem OY{h':Heap}{t':Nat}{ob:HO}(I:Inv X pins σ H s)(mu:vq (H a))(hs:Be a s.heap h')(he:∃q,h'.get? a=some q)(new:cy X.prog X.w (upd H a ob) h' a ob) :
  Inv X pins σ (upd H a ob) { s with heap:=h',toks:=t' } :=
 I.write (x:=a) (e:=a) mu (.inl rfl) (λb q hb z=>(hs.2 b hb).trans z) he new
theorem ci4{P:Program}{w:World}{H':Hp}{h':Heap}{ao:List (Key × V)}{vs:List (Key × Value)}(z:ao.length<=sizeLine)(hd:(a==sysModules)=false)(rel:KV ao vs)(dd:h'.DictOf (gr P w) a vs) :
  cy P w H' h' a (.dK ao):=⟨z,hd,vs,rel,dd⟩
theorem bC4{H':Hp}{Q:Unit->Shared->Prop}(hu:A.units+1<cLine)(I:Inv X pins σ H s)(g:rU H a y v H')(ry:RelV y u)(rv:RelV v r)(h:∀s',Inv X pins σ H' s'->Q () s') :
  wpAny (model X.prog X.w) A (setItem (.ref a) u r) Q E s:=by
 rcases g with⟨ao,k,e,ey,l,eH⟩ | ⟨ao,k,b,e,ey,eb,l,eH⟩
 ·subst ey eH
  obtain⟨z,hd,vs,rel,dd⟩:=Er I.az e
  have hz:vs.length<=sizeLine:=by rw[<-rel.length];exact z
  have hl:(gn ao k v).length<=sizeLine:=by have:=Em ao k v;omega
  refine wpAny_setItem_pairs (hsz:=hz) (Ep ry) dd λh' zP hs=>h _ ?_
  have he:∃q,h'.get? a=some q:=let⟨q,_,_,hq,_⟩:=zP;⟨q,hq⟩
  exact OY I (by rw[e];exact jB) hs he (ci4 hl hd (rel.put k rv) zP)
 ·subst ey eH
  cases(show u=du b from ry)
  obtain⟨z,hd,xs,rel,dd⟩:=cl3 I.az e
  have hz:xs.length<=sizeLine:=by rw[<-Paired.length rel];exact z
  have hl:(gn ao k v).length<=sizeLine:=by have:=Em ao k v;omega
  refine wpAny_setItem_heap (hsz:=hz) (tupleKind_room_in1 hu) (OX I.az eb) dd λh' zP hs=>h _ ?_
  obtain⟨q,es,ep,hq,h2,h3,h4,_,h5⟩:=zP
  refine OY I (by rw[e];exact jB) hs ⟨q,hq⟩ ⟨hl,hd,_,(rel.put k eb rv).keeps λc ys ec=>?_,q,es,ep,hq,h2,h3,h4,h5⟩
  rw[aN (SQ ec e (λz=>nomatch z))]
  exact ec
end
section
variable{X:Cx}{pins:List (Addr × Obj)}{σ:St}{H:Hp}{s:Shared}{a:Addr}{ao:List (Key × V)}{k:Key}{u:Value}{A:Around}{E:Value->Shared->Prop}
end
noncomputable def cq0(td ty tv:TE):TS:=λD σ H=>tv σ H λv H1=>td σ H1 λx H2=>ty σ H2 λy H3=>∃a H4,x=.ref a/\rU H3 a y v H4/\D.nx σ H4
section
variable{X:Cx}{o i e value:Expr}{pos pos' jL:Pos}{td ty tv:TE}
theorem b63(hu:X.A.units+1<cLine)(ho:PE X o td)(hi:PE X i ty)(hv:PE X value tv)(hs:swapsWith value (some (.Subscript o i pos')) pos.line X.env=pure false) :
  PS X (.Assign [.Subscript o i pos'] value pos) (cq0 td ty tv):=by
 intro pins s σ H D I h
 refine wpAny_Assign_Subscript (aE (hv pins s σ H _ I h) λr s1 ⟨v,H1,I1,rv,q1⟩=>aE (ho pins s1 σ H1 _ I1 q1) λu s2 ⟨x,H2,I2,rx,q2⟩=>aE (hi pins s2 σ H2 _ I2 q2) λiv s3 ⟨y,H3,I3,ry,a,H4,ex,g,q3⟩=>?_) hs
 subst ex
 obtain rfl:u=du a:=rx
 exact bC4 hu I3 g ry rv λs4 I4=>⟨σ,H4,I4,q3⟩
end
theorem bJ6{P:Program}{w:World}{H:Hp}(h:Heap)(hb:sysModules<h.objs.size):cy P w H (h.push { cls:=.type "dict",data:=.dict #[] }) h.objs.size (.dK []) :=
 ⟨jC _,beq_eq_false_iff_ne.mpr (dF (dU hb)),[],.nil,Heap.DictOf.new h⟩
section
variable{X:Cx}{pos:Pos}
end
end L2
namespace L2
open PySem PySem.Spec PyProof.Rows
noncomputable def rV(H:Hp)(p:Addr):Hp:=λa=>if a=p then none else H a
theorem zQ{H:Hp}{p:Addr}:rV H p p=none:=if_pos rfl
theorem zR{H:Hp}{p a:Addr}(h:a≠p):rV H p a=H a:=if_neg h
theorem bQ0{H:Hp}{p:Addr}{o:HO}(h:H p=none):rV (upd H p o) p=H:=funext λa=>by
 by_cases e:a=p
 ·rw[e,zQ,h]
 ·rw[zR e,aN e]
section
variable{X:Cx}{pins:List (Addr × Obj)}{σ:St}{H:Hp}{s:Shared}{p:Addr}
theorem Inv.cw7(I:Inv X pins σ H s)(h:X.bP.heap.objs.size<=p):p ∉ X.fs:=λhb=>by
 obtain⟨_,o,ho,_⟩:=I.ok.eQ.mem hb
 exact absurd (ck (bH ho) h) (dO _)
theorem Inv.hide{o:Obj}{ao:List (Key × V)}(I:Inv X pins σ H s)(hp:H p=some (.dK ao))(hs:X.bP.heap.objs.size<=p)(g:s.heap.get? p=some o)(hd:∀v,o.data≠.cell v):Inv X ((p,o)::pins) σ (rV H p) s:=by
 have nn:∀{b},H b=none->rV H p b=none:=λ{b} h=>by
  by_cases e:b=p
  ·rw[e];exact zQ
  ·rw[zR e];exact h
 have kp:∀{b u},H b=some u->(∀ao,u≠.dK ao)->rV H p b=some u:=λ{b u} h n=>by
  rw[zR λe=>n ao (by rw[e,hp]at h;exact(cu h).symm)];exact h
 refine⟨I.ok,I.os,I.bare,⟨I.base.keep,I.base.slot,λb o a c d=>nn (I.base.free b o a c d),I.base.there,λb xs e=>kp (I.base.eP b xs e) (λ_ z=>by cases z),λb o u e=>kp (I.base.eI b o u e) (λ_ z=>by cases z),λb ps e=>?_⟩,I.loc,I.cell,nn I.free,λx c e=>nn (I.fu x c e),λq hq=>?_,λa u e=>?_,I.len⟩
 ·obtain⟨m,e1⟩:=I.base.dS b ps e
  exact⟨m,kp e1 (λ_ z=>by cases z)⟩
 ·have gz:q=(p,o)\/q∈X.pn++pins:=by
   rcases cw.mp hq with h | h
   ·exact .inr (eG _ h)
   ·rcases cg.mp h with h | h
    ·exact .inl h
    ·exact .inr (cR _ h)
  rcases gz with rfl | h
  ·exact⟨g,zQ,(λz=>by have f:=I.free;rw[<-show p=X.env.locals from z,hp]at f;cases f),I.cw7 hs,hd⟩
  ·obtain⟨a1,a2,a3⟩:=I.pin q h
   exact⟨a1,nn a2,a3⟩
 ·have ne:a≠p:=λz=>by rw[z,zQ]at e;cases e
  rw[zR ne]at e
  exact(I.az a u e).gu (λ_ _ _ q=>q) (λb q=>kp q (λ_ z=>by cases z)) (λb xs q=>kp q (λ_ z=>by cases z)) λb φ q=>kp q (λ_ z=>by cases z)
theorem Inv.show{o:Obj}{u:HO}(I:Inv X ((p,o)::pins) σ H s)(hs:X.bP.heap.objs.size<=p)(hq:∀q∈X.pn++pins,q.1≠p)(new:cy X.prog X.w (upd H p u) s.heap p u):Inv X pins σ (upd H p u) s:=by
 obtain⟨g,hp,nl,nf,nc⟩:=I.pin (p,o) (cR _ jz)
 have nn:∀{b},b≠p->H b=none->upd H p u b=none:=λ{b} n h=>by rw[aN n];exact h
 have kp:∀{b v},H b=some v->upd H p u b=some v:=λ{b v} h=>by
  rw[aN λe=>by rw[e]at h;rw[show H p=none from hp]at h;cases h];exact h
 refine⟨I.ok,I.os,I.bare,⟨I.base.keep,I.base.slot,λb o a c d=>nn (dU (ck (bH a) hs)) (I.base.free b o a c d),I.base.there,λb xs e=>kp (I.base.eP b xs e),λb o u e=>kp (I.base.eI b o u e),λb ps e=>?_⟩,I.loc,I.cell,nn (dF nl) I.free,λx c e=>nn (λz=>?_) (I.fu x c e),λq gz=>?_,λa v e=>?_,I.len⟩
 ·obtain⟨m,e1⟩:=I.base.dS b ps e
  exact⟨m,kp e1⟩
 ·obtain⟨v,ob,h1,h2⟩:=I.cell x c e
  rw[z,show s.heap.get? p=some o from g]at h1
  cases h1
  exact nc v h2
 ·obtain⟨a1,a2,a3⟩:=I.pin q (by
   rcases cw.mp gz with h | h
   ·exact eG _ h
   ·exact cR _ (fm _ h))
  exact⟨a1,nn (hq q gz) a2,a3⟩
 ·by_cases z:a=p
  ·subst z
   rw[bM]at e;cases e
   exact new
  ·rw[aN z]at e
   exact(I.az a v e).gu (λ_ _ _ q=>q) (λb q=>kp q) (λb xs q=>kp q) λb φ q=>kp q
end
section
variable{X:Cx}{pos:Pos}{tg iter:Expr}{wi:TI}
theorem bO3:PE X (.Dict [] [] pos) (λ_ H Q=>∀p,H p=none->X.bP.heap.objs.size<=p->Q (.ref p) (upd H p (.dK []))):=λpins s σ H Q I h =>
 wpAny_Dict_empty ⟨.ref s.heap.objs.size,_,I.laid (a:=s.heap.objs.size) (o:=.dK []) (t':=s.toks) (λ_ _ q=>dP _ q) (bD _) (bJ6 s.heap I.big),rfl,h _ (I.az.fresh (bD _)) I.sz⟩
theorem b00(hi:PI X tg iter wi):PI X tg iter (λσ H R=>∃p,H p=some (.dK [])/\X.bP.heap.objs.size<=p/\wi σ (rV H p) (λJ H1=>H1 p=none->R J (upd H1 p (.dK [])))):=by
 intro pins s σ H R I ⟨p,hp,hs,h⟩
 obtain⟨z,y,vs,rel,dd⟩:=Er I.az hp
 obtain⟨o,es,ep,g,ex,hd,r⟩:=id dd
 have nc:∀v,o.data≠.cell v:=λv e=>by rw[hd]at e;cases e
 have I1:=I.hide hp hs g nc
 refine aE (hi _ s σ _ _ I1 h) λv s1 h1=>aE h1 λyo s2 h2=>?_
 obtain⟨it,fp,tn,J,H2,e,I2,T,st,f2,q⟩:=h2
 have pn:=I2.pin (p,o) (cR _ jz)
 have ne:∀q∈X.pn++pins,q.1≠p:=λq hq z=>by
  have:=(I.pin q hq).2.1
  rw[z,hp]at this;cases this
 refine⟨it,fp,tn,J,upd H2 p (.dK []),e,I2.show hs ne ⟨jC _,y,vs,rel,dd.at λo' e'=>?_⟩,T,st,λb hb=>?_,q pn.2.1⟩
 ·rw[g]at e';cases e'
  exact pn.1
 ·obtain⟨b1,b2,b3,b4,b5,b6⟩:=f2 b hb
  refine⟨?_,b2,b3,b4,b5,λq hq=>b6 q ?_⟩
  ·rw[aN λz=>b6 (p,o) (cR _ jz) z.symm];exact b1
  ·rcases cw.mp hq with h | h
   ·exact eG _ h
   ·exact cR _ (fm _ h)
noncomputable def tT(P:Program)(w:World)(ks:List Int)(a:Addr)(h:Heap):Prop:=(a==sysModules)=false/\∃(ao:List (Key × V)) (vs:List (Key × Value)),(∀k:Int,(eF ao (.inl k)).isSome=decide (k∈ks))/\KV ao vs/\h.DictOf (gr P w) a vs
theorem by3{cA:List Stmt}{t:TS}(hr:PSs X cA t):PSs X cA (λD σ H=>∃p ao ks,H p=some (.dK ao)/\(∀k:Int,(eF ao (.inl k)).isSome=decide (k∈ks))/\t D σ (upd H p (.ext (tT X.prog X.w ks p)))):=by
 intro pins s σ H D I ⟨p,ao,ks,hp,hk,h⟩
 obtain⟨z,y,vs,rel,dd⟩:=Er I.az hp
 have g:∃o,s.heap.get? p=some o:=let⟨o,_,_,g,_⟩:=dd;⟨o,g⟩
 have I1:=I.write (x:=p) (e:=p) (o:=.ext (tT X.prog X.w ks p)) (h':=s.heap) (t':=s.toks) (by rw[hp];trivial) (.inl rfl) (λ_ _ _ q=>q) g ⟨⟨y,ao,vs,hk,rel,dd⟩,g,λh1 h2 ⟨a1,k1,v1,a2,a3,a4⟩ kk=>⟨a1,k1,v1,a2,a3,a4.at λo e=>kk _ o (.inl rfl) e⟩⟩
 exact hr pins s σ _ D I1 h
theorem bR5:bY X (compareOp .In) (λx y H Q=>∃(k:Int) (p:Addr) (ks:List Int),x=.int k/\y=.ref p/\H p=some (.ext (tT X.prog X.w ks p))/\Q (.bl (decide (k∈ks))) H):=by
 intro pins s σ H x y v u Q I rx ry ⟨k,p,ks,ex,ey,hp,q⟩
 subst ex;subst ey
 obtain rfl:u=du p:=ry
 obtain⟨⟨nm,ao,vs,hk,rel,dd⟩,_⟩:=I.az p _ hp
 refine wpAny_in_of (Ep (k:=.inl k) rx) nm dd.mapOf ?_
 rw[<-(rel.val (.inl k)).OU,hk]
 exact⟨.bl _,H,I.tok _,rfl,q⟩
end
end L2
namespace L3
open PySem L2 PySem.Spec PyProof.Rows
section
variable{F H:Hp}{p:Addr}{ao:List (Key × V)}{o:HO}{ds:List D}{vs:List V}{A:List Addr}
theorem iH.swap(hp:H p=some (.dK ao)){q:Addr}:∀{z:qM},iH H q z->iH (upd H p o) q z
 | .ext φ,x=>by
  have x:H q=some (.ext (φ q)):=x
  show upd H p o q=some (.ext (φ q))
  rw[aN λe=>by rw[e,hp]at x;cases x];exact x
 | .lam f oc c k',x=>by
  have ne:∀{b u},H b=some u->(∀ao,u≠.dK ao)->upd H p o b=some u:=λ{b u} h n=>by
   rw[aN λe=>n ao (by rw[e,hp]at h;exact(cu h).symm)];exact h
  exact⟨ne x.fn (λ_ z=>by cases z),ne x.cell (λ_ z=>by cases z),let⟨ψ,e,h⟩:=x.yF;⟨ψ,ne e (λ_ z=>by cases z),h⟩⟩
theorem R.swap(hp:H p=some (.dK ao))(r:R F H ds vs A):R F (upd H p o) ds vs A:=by
 have ne:∀{b u},H b=some u->(∀ao,u≠.dK ao)->upd H p o b=some u:=λ{b u} h n=>by
  rw[aN λe=>n ao (by rw[e,hp]at h;exact(cu h).symm)];exact h
 induction r with
 | nil=>exact .nil
 | ak _ ih=>exact .ak ih
 | bl _ ih=>exact .bl ih
 | int _ ih=>exact .int ih
 | str _ ih=>exact .str ih
 | shr h x _ i1 ih=>exact .shr h i1 ih
 | own h f _ _ i1 i2=>exact .own (ne h (λ_ z=>by cases z)) f i1 i2
 | tup h _ _ i1 i2=>exact .tup (ne h (λ_ z=>by cases z)) i1 i2
 | obj h l x _ i1 ih=>exact .obj (ne h (λ_ z=>by cases z)) l i1 ih
 | fz h x _ i1 ih=>exact .fz h i1 ih
 | aU h _ ih=>exact .aU (h.swap hp) ih
theorem RS.swap{δ:Dl}{σ:L2.St}{C:List Addr}(hp:H p=some (.dK ao))(r:RS F H δ σ C):RS F (upd H p o) δ σ C:=by
 induction r with
 | nil=>exact .nil
 | ak _ ih=>exact .ak ih
 | eM h _ ih=>exact .eM (h.swap hp) ih
theorem OZ{G:Hp}(e:aa G H)(n:G p=none):aa G (upd H p o) :=
 ⟨λb u h t=>by rw[aN λz=>by rw[z,n]at h;cases h];exact e.get b u h t,λb ps h=>by rw[aN λz=>by rw[z,n]at h;cases h];exact e.tb b ps h⟩
theorem aj.swap{B:Bs}{σ:L2.St}{δ:Dl}{ts:List (D × V)}(c:aj B F H σ δ ts)(hp:H p=some (.dK ao))(n1:F p=none)(n2:B.H0 p=none):aj B F (upd H p o) σ δ ts:=by
 obtain⟨A,C,r,s,nd,fr⟩:=c.own
 exact⟨OZ c.ext n1,OZ c.b1 n2,c.b2,c.b3,A,C,r.swap hp,s.swap hp,nd,fr⟩
end
noncomputable def mT(P:Program)(w:World)(ks:List Int):D:=.aU (.ext (tT P w ks))
noncomputable def pE(P:Program)(w:World)(i:Nat)(ti:gb)(g:e7)(te:aC)(t:bX):bX:=λEn δ=>i<δ.length/\ti (δ.set i none) λsh xs ai=>sh=true/\∃(Iv:Nat->Dl->Prop) (ks:Nat->Int),Iv 0 ai /\
 (∀j d ag,xs[j]?=some d->Iv j ag->g d ag λaF=>(te aF λy _=>y=.int (ks j))/\Iv (j+1) aF)/\xs.length<=1000/\∀ag,Iv xs.length ag->t En (ag.set i (some (mT P w ((aP xs.length).map ks))))
theorem cx2{σ:L2.St}{i:Nat}{v:Option V}(h:σ[i]?=some v):σ.set i v=σ:=by
 refine BD λj=>?_
 by_cases e:i=j
 ·subst e
  rw[sr (iA.mp h).1,h]
 ·rw[pQ e]
section
variable{X:Cx}{tg iter e:Expr}{cA:List Stmt}{ti:gb}{g:e7}{te:aC}{t:bX}{i:Nat}{x:Str}{p1 p2 p3 p4 p5 p6 p7 p8:Pos}{j1}
theorem bN5{P:Program}{w:World}(nd:X.N.Nodup)(hN:X.N[i]?=some x)(hx:Loc X.env.scope x)(hv:jJ X.env.scope x)(hu:X.A.units+1<cLine)(hp:PassesOwn (model X.prog X.w) X.A X.env X.xe)(hc:X.calm=true)(hi:PI X tg iter (lI ti))(hg:PG X tg (lG (i+1) g))(he:PE X e (lB te))(hr:PSs X cA (lS X t))
  (hd:(x==("__debug__":Str))=false:=by decide) (cn:(x==("__classdict__":Str))=false:=by decide) (hs:swapsWith (.Dict [] [] p2) (some (.Name x p1)) p3.line X.env=pure false:=by rfl)
  (hf:X.fn x=true\/X.env.scope.names.lookup x=some .local:=by first | exact .inl rfl | exact .inr rfl | assumption) (fv:swapsWith (.Constant (.bool true) j1 p6) (some (.Subscript (.Name x p4) e p5)) p7.line X.env=pure false:=by rfl)
  (hsf:∀x,foldedSetIterable iter X.env x=pure x:=by intro _;rfl) (hP:X.prog=P:=by rfl) (hw:X.w=w:=by rfl) :
  PSs X (.Assign [.Name x p1] (.Dict [] [] p2) p3::.For tg iter [.Assign [.Subscript (.Name x p4) e p5] (.Constant (.bool true) j1 p6) p7] [] p8::cA) (lS X (pE P w i ti g te t)) :=
 yI (g9 (B9 nd hN hx bO3 hs hf) (g9 (KL hp hc (b00 hi) hg (qw (b63 hu (qt hN hv hd cn) he Ky fv)) hsf) (by3 hr))) λEn σ H zz=>by
  subst hP;subst hw
  obtain⟨B,F,δ,Dd,c,⟨hil,q⟩,k⟩:=zz
  intro p Es hsz
  have nB:B.H0 p=none:=c.b1.free Es
  have c0:aj B F H (σ.set i (some (.ref p))) (δ.set i none) []:=(c.forget i).tf _ (by rw[sr hil];exact .inl rfl)
  refine⟨p,bM,hsz,?_⟩
  rw[bQ0 Es]
  refine⟨B,F,δ.set i none,[],_,c0,q,λsh xs ai J F1 H1 hq f1 h1 c1 _ jd zS=>?_⟩
  obtain⟨jP,Iv,ks,i0,turn,hlen,fin⟩:=hq
  obtain⟨bO,jd⟩:=jd jP
  have O0:F1 p=none:=c1.ext.free zS
  have un:∀{F' H':Hp} {av:L2.St} {ag:Dl} {ts:List (D × V)},aj ⟨B.H0,F1⟩ F' H' av ag ts->aj B F' H' av ag ts:=λc'=>c'.Ma c1.b2 c1.b3
  have cx6:(σ.set i (some (V.ref p)))[i]?=some (some (.ref p)):=sr (by have:=c.len;omega)
  refine⟨λj m av H'=>m=xs.length-j/\j<=xs.length/\∃ag ao,aj ⟨B.H0,F1⟩ F1 H' av ag []/\Iv j ag/\H' p=some (.dK ao)/\ao.length<=j/\(∀z:Int,(eF ao (.inl z)).isSome=decide (z∈(aP j).map ks))/\av[i]?=some (some (.ref p)),
   ⟨_,rfl,jC _,ai,[],(c1.grow (aa.upd zS)).rebase,i0,bM,bD _,λ_=>rfl,cx6⟩,?_⟩
  rintro j m i4 H2 ⟨rfl,hj,aF,ao,c2,iv,hk,hkl,O1,O2⟩
  by_cases eZ:j<xs.length
  ·refine .inr ⟨jd.go j H2 c2.ext eZ,λav H'=>∃ag ao,aj ⟨B.H0,F1⟩ F1 H' av ag []/\Iv (j+1) ag/\H' p=some (.dK ao)/\ao.length<=j+1/\(∀z:Int,(eF ao (.inl z)).isSome=decide (z∈(aP (j+1)).map ks))/\av[i]?=some (some (.ref p)),λav H' z=>⟨xs.length-(j+1),by omega,rfl,eZ,z⟩,λv H3 y=>?_⟩
   obtain⟨d,ed,s3,r⟩:=jd.hE j H2 v H3 c2.ext eZ y
   have c3:=(c2.grow s3).pushS (d:=d) (v:=v) r.s (by have:=r.pl;simpa using this)
   refine⟨⟨B.H0,F1⟩,F1,aF,[],d,_,c3,turn j d aF ed iv,λag av hq2 yf kp' c4=>?_⟩
   obtain⟨yD,iv2⟩:=hq2
   have O3:av[i]?=some (some (.ref p)):=by rw[kp' i (by omega)];exact O2
   refine⟨.ref p,O3,⟨B.H0,F1⟩,F1,ag,[],_,c4,yD,λd5 gK v5 F5 H5 hd5 f5 h5 c5 s5=>?_⟩
   subst hd5
   cases s5
   have O4:H5 p=some (.dK ao):=h5 _ _ (s3 _ _ hk)
   have lp:=Em ao (.inl (ks j)) (.bl true)
   refine⟨p,_,rfl,rU.k (k:=.inl (ks j)) O4 (by rw[sizeLine_eq];omega),ag,gn ao (.inl (ks j)) (.bl true),(c4.grow h5).swap O4 O0 nB,iv2,bM,by omega,λz=>?_,O3⟩
   rw[Φ,Kn,kD]
   by_cases ez:z=ks j
   ·subst ez
    rw[if_pos rfl]
    exact(decide_eq_true (cR _ (by simp))).symm
   ·rw[if_neg (λw=>ez (Sum.inl.inj w)),O1 z,decide_eq_decide]
    constructor
    ·exact λw=>eG _ w
    ·intro w
     rcases cw.mp w with w | w
     ·exact w
     ·simp at w;exact absurd w ez
  ·have ej:j=xs.length:=by omega
   subst ej
   refine .inl ⟨jd.stop _ H2 c2.ext (bD _),p,ao,(aP xs.length).map ks,hk,O1,?_⟩
   have c3:=(un (c2.swap (o:=.ext (tT X.prog X.w ((aP xs.length).map ks) p)) hk O0 nB)).pushS (d:=mT X.prog X.w ((aP xs.length).map ks)) (v:=.ref p) (.aU (show iH _ p (.ext _) from bM) .nil) rfl
   have c4:=c3.store i
   rw[cx2 O2]at c4
   exact⟨B,F1,_,Dd,c4,fin aF iv,k⟩
noncomputable def mU(P:Program)(w:World):bZ:=λx y Q=>match x,y with
 | .int k,.aU z=>∃ks,z=.ext (tT P w ks)/\Q (.bl (decide (k∈ks)))
 | _,_=>False
theorem ca5{P:Program}{w:World}(hP:X.prog=P:=by rfl)(hw:X.w=w:=by rfl):bJ X (compareOp .In) (mU P w) :=
 ⟨_,bR5,λ{B F H σ δ ts x y v w' Q Qd} c sx sy h k=>by
  subst hP;subst hw
  unfold mU at h
  split at h
  ·obtain⟨ks,rfl,q⟩:=h
   cases sx
   cases sy with
   | aU z _=>exact⟨_,_,ks,rfl,rfl,z,k _ _ _ q (aa.refl _) (c.pushS (.bl .nil) rfl)⟩
  ·exact h.elim⟩
end
end L3
namespace L2
open PySem PySem.Spec PyProof.Rows
section
variable{X:Cx}
theorem O5{vs:List Value}{ns:List Int}(hi:IntsAre vs ns)(k:Int){m:Nat}(hm:m<vs.length):isInt k vs[m]=decide (ns.getD m 0=k):=by
 obtain⟨t,e⟩:=IntsAre.int_at hi m _ (aQ hm)
 rw[e]
 show(_==k)=_
 rw[sD];simp
theorem bB0:kK X "list.index" (λx xs H Q=>∃(p:Addr) (ns:List Int) (k:Int) (j:Nat),x=.ref p/\xs=[.int k]/\bt X.K H p (ns.map V.int)/\ns[j]?=some k/\(∀m,m<j->ns.getD m 0≠k)/\Q (.int (j:Nat)) H):=by
 intro pins s σ H x xs v us Q I rx r h
 obtain⟨p,ns,k,j,rfl,rfl,hS,hj,hno,q⟩:=h
 cases rx
 obtain⟨u,rfl,ru⟩:=r.one
 obtain⟨t,rfl⟩:=ru
 obtain⟨its,rv,pl,hz⟩:=I.list hS
 have hi:=U7 rv
 have hlen:ns.length=its.length:=by have:=rv.length;rwa [bV]at this
 have hjl:j<ns.length:=(iA.mp hj).1
 have hl:=pl.isList
 obtain⟨⟨cls,dd,data,sl⟩,ho,hc,n,hd⟩:=id hl
 simp only at hc hd
 subst hc hd
 refine call_meets PySem.F.slot_list_index ⟨_,ho,rfl⟩ PySem.F.entry_list_index (PySem.F.args_list_index_2 _ _) (PySem.SeqAt.list_indexAt p its.toArray n dd sl (.int k t) (isInt k) j (by simp;omega) (by have:=qC;rw[bV]at hz;omega) ?_ λm hm hmj=>?_) ⟨ho,λy hy=>(eq_isInt k t hi y (by simpa using hy)).at _ _,⟨.int _,H,I.tok _,⟨_,rfl⟩,q⟩⟩
 ·rw[SE,O5 hi k (by omega)]
  exact decide_eq_true (by rw[aR,hj];rfl)
 ·rw[SE,O5 hi k (by simpa using hm)]
  exact decide_eq_false (hno m hmj)
end
end L2
namespace L3
open PySem L2 PySem.Spec PyProof.Rows
section
variable{X:Cx}{o e:Expr}{t tb:aC}{apos bI:Pos}
noncomputable def pF(t tb:aC):aC:=λδ Q=>t δ λd ai=>∃(o:Bool) (ns:List Int),d=.lst o (aD ns)/\tb ai λb aF=>∃(k:Int) (j:Nat),b=.int k/\ns[j]?=some k/\(∀m,m<j->ns.getD m 0≠k)/\Q (.int (j:Nat)) aF
theorem bO5(ho:PE X o (lB t))(he:PE X e (lB tb))(i7:attributeBase o "index" X.env (eval o X.env)=eval o X.env:=by rfl)
  (vO:((backTo bI (starEach [e] X.env)).all (λx=>!x.1)&&(backToKw bI (keywordEach [] X.env)).all (λx=>x.1.isSome)
   && decide ([e].length+([]:List Keyword).length+(if([]:List Keyword).isEmpty then 0 else 1)<30))=true:=by rfl)
  (i8:(apos.endLine==bI.line)=true:=by rfl) (hs:starEach [e] X.env=(false,eval e X.env)::starEach [] X.env:=by rfl) (vP:(backTo bI (starEach [] X.env)).any (·.1)=false:=by rfl) :
  PE X (.Call (.Attribute o "index" apos) [e] [] bI) (lE (pF t tb)) :=
 cQ (Ld PySem.F.plainAttrs_list PySem.F.slot_list_index PySem.F.type_list_index bB0 ho (eK he hV hs) i7 vO i8 hs vP) λσ H Q ⟨B,F,δ,ts,Qd,c,q,k⟩=>⟨B,F,δ,ts,_,c,q,λd ai v F1 H1 q1 f1 h1 c1 s1=>by
  obtain⟨o,ns,rfl,q1⟩:=q1
  obtain⟨p,ws,rfl,h,t⟩:=lR s1 c1.ext rfl
  rw[DG t]at h
  exact⟨.inl ⟨rfl,_,jk h⟩,B,F1,ai,ts,_,c1,q1,λb aF w F2 H2 q2 f2 h2 c2 s2=>by
   obtain⟨n,j,rfl,a1,a2,q3⟩:=q2
   cases s2
   exact⟨p,ns,n,j,rfl,rfl,jk (h.elim (λz=>.inl (h2 _ _ z)) λ⟨o,z⟩=>.inr ⟨o,h2 _ _ z⟩),a1,a2,k _ aF _ F2 H2 q3 (f1.trans f2) (h1.trans h2) (c2.pushS (.int .nil) rfl)⟩⟩⟩
theorem Dh{A:Around}{k:Nat}(hr:bN k A):A.units+1<cLine:=by have:=hr.un;omega
end
end L3
namespace L3
open PySem L2 Mf
section
variable{m:Bool × Nat}
theorem O6(hm:m∈aM){G:List (List Nat)}{u X:List Nat}(h0:0<G.length)(hu:u.length=G.length)(hR:RT (ae m) (aq G) G)(ha:AllLt (ae m) u)(hX:gk m G u=some X):X.length=aq G/\AllLt (ae m) X/\(∀a,a<G.length->sm (gp m) (aq G) (λj=>gm m (cf (G.getD a []) j) (cf X j))=cf u a)/\∀k,cf X k≠0->k∈(bW m G).map bA:=by
 obtain⟨w1,w2,w3⟩:=pz h0 hu hR ha
 have w4:=w3
 rw[<-w1]at w4
 obtain⟨⟨H,I⟩,iR,il,sp⟩:=pq hm w4
 rw[w1]at I iR
 have r:=rg hm
 obtain⟨e,e1,e2,e3,e4⟩:=OK hm
 have hw:∀i,i<(bW m (bb G u)).length->H i≠aq G:=λi hi z=>by
  unfold gk at hX
  rw[if_pos]at hX
  ·cases hX
  ·rw[qf,I.mem hm iR]
   exact⟨i,hi,z⟩
 have eX:iP (bW m (bb G u)) (aq G)=X:=by
  unfold gk at hX
  split at hX
  ·cases hX
  ·exact cu hX
 obtain⟨X1,X2,X3,X4⟩:=OJ hm iR I hw
 rw[eX]at X1 X2 X3 X4
 refine⟨X1,X2,λa h1=>?_,λk hk=>?_⟩
 ·have dt:sm (gp m) (aq G+1) (λj=>gm m (cf ((bb G u).getD a []) j) (if j<aq G then cf X j else e))=gp m (sm (gp m) (aq G) λj=>gm m (cf (G.getD a []) j) (cf X j)) (gm m (cf u a) e):=by
   obtain⟨c1,c2⟩:=tQ h1 hu (hR _ (cG h1 [])).1
   rw[sm,if_neg (dO _),c2]
   refine congrArg (λz=>gp m z _) (cF λj hj=>?_)
   rw[c1 j hj,if_pos hj]
  have an:∀y∈bW m (bb G u),sm (gp m) (aq G+1) (λj=>gm m (cf y j) (if j<aq G then cf X j else e))=0:=λy hy=>by
   obtain⟨i,hi,rfl⟩:=fe hy
   have lt:=de hm (iR _ (cG hi [])).2
   have hl:H i<aq G:=by have:=I.l i hi;have:=hw i hi;omega
   rw[<-kj hi,sm,if_neg (dO _),mS r (f:=λj=>gm m (cf ((bW m (bb G u)).getD i []) j) (if j<aq G then cf X j else e)) (eO hm _ _) hl λj hj hn=>?_]
   ·rw[if_pos hl,X3 i hi,I.u i i hi hi,if_pos rfl,jo (lt _)]
    exact(e4 (lt _) (lt _)).mpr rfl
   ·rw[if_pos hj]
    by_cases c:∃i',i'<(bW m (bb G u)).length/\H i'=j
    ·obtain⟨i',h1,rfl⟩:=c
     rw[I.u i i' hi h1,if_neg (λz:i=i'=>hn (by rw[z])),gj m _ (cV m hm)]
    ·rw[X4 j λi' h1 h2=>c ⟨i',h1,h2⟩,r.qz]
  have:=bQ.ann hm an ((sp _).mp (bQ.of (cG (show a<(bb G u).length by omega) [])))
  rw[dt]at this
  exact(e4 (mL r λj _=>eO hm _ _) (de hm ha a)).mp this
 ·obtain⟨i,hi,rfl⟩:∃i,i<(bW m (bb G u)).length/\H i=k:=J7 λc=>hk (X4 k λi h1 h2=>c ⟨i,h1,h2⟩)
  have hl:H i<aq G:=by have:=I.l i hi;have:=hw i hi;omega
  obtain⟨⟨H',I'⟩,O7,_,yv⟩:=pq hm hR
  obtain⟨c,hc,hs⟩:=((sp _).mpr (bQ.of (cG hi []))).sum hm w3
  have s1:bQ m G λj=>sm (gp m) G.length λa=>gm m (c a) (cf (G.getD a []) j):=Sp.sm (λa _=>hc a) λa ha=>bQ.of (cG ha [])
  have e0:∀j,j<aq G->sm (gp m) G.length (λa=>gm m (c a) (cf (G.getD a []) j))=cf ((bW m (bb G u)).getD i []) j:=λj hj=>by
   rw[hs j,w2]
   exact cF λa fH=>by rw[(tQ fH hu (hR _ (cG fH [])).1).1 j hj]
  obtain⟨i',h1,h2⟩:=I'.lead hm O7 ((yv _).mp s1) (t:=H i) (by rw[e0 _ hl,I.u i i hi hi,if_pos rfl];decide) λj hj=>by rw[e0 j (by omega),I.z i hi j hj]
  exact(I'.mem hm O7 _).mpr ⟨i',h1,h2⟩
noncomputable def gU(w:Nat):List Nat:=aT w 0++[1]
theorem Et(w j:Nat):cf (gU w) j=if j=w then 1 else 0:=by
 unfold gU
 rw[Ξ,jE,N8]
 by_cases h:j<w
 ·rw[if_pos h,if_neg (by omega)]
 ·rw[if_neg h]
theorem zT(w:Nat):(gU w).length=w+1:=by unfold gU;rw[iQ,jE];rfl
theorem zU(hm:m∈aM)(w:Nat):AllLt (ae m) (gU w):=λx hx=>by
 have:=lo1 hm
 rcases cw.mp hx with h | h
 ·rw[List.eq_of_mem_replicate h];omega
 ·rw[iU]at h;omega
theorem Eu(m:Bool × Nat){xs ys:List Nat}{n:Nat}(hx:xs.length=n)(hy:ys.length=n):gd m xs ys=sm (gp m) n λj=>gm m (cf xs j) (cf ys j):=by rw[Ef m (by omega),hx]
theorem bO1(hm:m∈aM){G:List (List Nat)}{u:List Nat}(h0:0<G.length)(hu:u.length=G.length)(hR:RT (ae m) (aq G) G)(ha:AllLt (ae m) u)(hX:gk m G u=none):∃Y,gk m (dN (bb G u)) (gU (aq G))=some Y/\Y.length=G.length/\AllLt (ae m) Y/\jq m Y G (aq G)=aT (aq G) 0/\gd m Y u=1:=by
 obtain⟨w1,w2,w3⟩:=pz h0 hu hR ha
 have w4:=w3
 rw[<-w1]at w4
 obtain⟨⟨H,I⟩,iR,il,sp⟩:=pq hm w4
 have e1:aq G∈(bW m (bb G u)).map bA:=by
  unfold gk at hX
  split at hX
  ·rename_i c
   exact qf.mp c
  ·cases hX
 obtain⟨i,hi,hH⟩:=(I.mem hm iR _).mp e1
 have ec:cf ((bW m (bb G u)).getD i [])=cf (gU (aq G)):=funext λj=>by
  rw[Et]
  by_cases h1:j<aq G
  ·rw[if_neg (by omega),I.z i hi j (by omega)]
  ·by_cases h2:j=aq G
   ·rw[if_pos h2,h2,<- hH,I.u i i hi hi,if_pos rfl]
   ·rw[if_neg h2,rO (by rw[(iR _ (cG hi [])).1,w1];omega)]
 have s:bQ m (bb G u) (cf (gU (aq G))):=by rw[<-ec];exact(sp _).mpr (bQ.of (cG hi []))
 obtain⟨Y,y1,y2,y3,y4⟩:=τ hm (by omega) w4 (by rw[zT,w1]) (zU hm _) s
 rw[w2]at y2
 have key:∀k,k<aq G+1->sm (gp m) G.length (λa=>gm m (cf Y a) (cf ((bb G u).getD a []) k))=if k=aq G then 1 else 0:=λk hk=>by
  rw[<-Et,<- y4,OG m (by omega) (by omega),w2]
 refine⟨Y,y1,y2,y3,?_,?_⟩
 ·refine OI y2 (by rw[jE]) λk hk=>?_
  have:=key k (by omega)
  rw[if_neg (by omega)]at this
  rw[N8,<- this]
  exact cF λa fH=>by rw[(tQ fH hu (hR _ (cG fH [])).1).1 k hk]
 ·have:=key (aq G) (by omega)
  rw[if_pos rfl]at this
  rw[Eu m y2 hu,<- this]
  exact cF λa fH=>by rw[(tQ fH hu (hR _ (cG fH [])).1).2]
theorem bP3(hm:m∈aM){G:List (List Nat)}{u:List Nat}(h0:0<G.length)(hu:u.length=G.length)(hR:RT (ae m) (aq G) G)(ha:AllLt (ae m) u){x:Nat->Nat}(hx:∀j,x j<ae m)(h:∀a,a<G.length->sm (gp m) (aq G) (λj=>gm m (cf (G.getD a []) j) (x j))=cf u a):gk m (dN (bb G u)) (gU (aq G))=none:=by
 obtain⟨w1,w2,w3⟩:=pz h0 hu hR ha
 have w4:=w3
 rw[<-w1]at w4
 have lo:=lo1 hm
 have r:=rg hm
 obtain⟨t1,t2,t3⟩:=El (show 0<ae m by omega) (by omega) w4
 have t4:=t3
 rw[<-t2]at t4
 cases hY:gk m (dN (bb G u)) (gU (aq G))with
 | none=>rfl
 | some Y =>
  exfalso
  obtain⟨y1,y2,y3,_⟩:=O6 hm (by omega) (by rw[zT,t1,w1]) t4 (zU hm _) hY
  have col:∀k,k<aq G+1->sm (gp m) G.length (λa=>gm m (cf Y a) (cf ((bb G u).getD a []) k))=if k=aq G then 1 else 0:=λk hk=>by
   have:=y3 k (by rw[t1,w1];exact hk)
   rw[Et,t2,w2]at this
   rw[<-this]
   exact cF λa _=>by rw[Ek (by rw[w1];exact hk),Eg,ir]
  have c1:=col (aq G) (by omega)
  rw[if_pos rfl]at c1
  have c0:sm (gp m) G.length (λa=>gm m (cf Y a) (cf ((bb G u).getD a []) (aq G)))=0:=by
   have e1:sm (gp m) G.length (λa=>gm m (cf Y a) (cf ((bb G u).getD a []) (aq G)))=sm (gp m) G.length λa=>sm (gp m) (aq G) λj=>gm m (x j) (gm m (cf Y a) (cf ((bb G u).getD a []) j)):=cF λa fH=>by
    obtain⟨b1,b2⟩:=tQ fH hu (hR _ (cG fH [])).1
    rw[b2,<- h a fH,<- ki r]
    exact cF λj hj=>by rw[b1 j hj,<- ke (cV m hm),ir m (x j)]
   rw[e1,zC r,gQ r λj hj=>?_]
   rw[ki r,col j (by omega),if_neg (by omega),r.qz]
  rw[c0]at c1
  exact absurd c1 (by decide)
end
end L3
namespace HK19
open PySem.W (Frag codeHdIn nsIn fnOf codeIn keepIn findIn isFn specialIn takesIn mroIn mg_of mg_none_of CodeHd)
open PySem L2 L3 Mf
seal L2.PSs L2.PS L2.PE L2.PT L2.PA L2.PI L2.PG L2.PO L2.PW
local macro_rules | `(tactic| walk_at "l3") => do
  let l ← (("nS lJ nU lK dT jg jT jU dC kZ lF lC ly lD nR jZ oB mi oE oF nJ nK nL nM nN nO nQ lh me mf lU n9 lW oa og oh oi oj om iI e8 oo oq ot ou lX lY ji ow oy gN oG oA nV nX nY nZ n5 n6 oH oI lQ ig eB gg fE pZ nh iC sH lH ie gJ mh oM oO oQ rF iM oW mx oS gM rJ rG rH cH iS nt ni gZ qi aT qj qk iD iE ql exists_eq_left' exists_eq_left D.bl.injEq D.int.injEq D.lst.injEq D.fz.injEq D.str.injEq D.tup.injEq qm and_true true_and dh nr jG kC qU qV qW qX qY qZ fB iJ mr q9 rf rh rj rk di je mq q0 q5 q8 eL kX sI sJ pS fo qg qh pU rp rq rz rA rB rC rD jm j8 mv gL mw rm rl oJ rn jn oK if_true sM if_false reduceIte rE decide_eq_true_eq fJ my ka mB nW oY mI oU mE mF o6 mK pj dM rP iO rQ pE mU mT pF sL Zl Zm N2 Zn pf ph".splitOn " ").toArray.map fun (s : String) => Lean.mkIdent s.toName).mapM fun i => `(Lean.Parser.Tactic.simpLemma| $i:term)
  `(tactic| simp only [$l,*])
noncomputable def top (i:Nat):Stmt:=PySem.Challenge.pw_mendfield_k19_solved_or_a_reason.main.body.getD i (.Pass ⟨0,0,0,0⟩)
noncomputable abbrev tU:Stmt:=top 33
theorem Ew:bE ["_law_cell_here","_law_some","_law_primes"] ["_law_cell_here"] (aA tU):=⟨rfl,rfl,rfl,by decide +kernel,rfl,by decide +kernel,by decide +kernel⟩
noncomputable abbrev tV:Stmt:=top 21
theorem zV:bE ["a","product","found","power"] ["a","product"] (aA tV):=⟨rfl,rfl,rfl,by decide +kernel,rfl,by decide +kernel,by decide +kernel⟩
noncomputable abbrev tW:Stmt:=top 22
theorem xb:bE ["many","product","step","found"] ["many","product"] (aA tW):=⟨rfl,rfl,rfl,by decide +kernel,rfl,by decide +kernel,by decide +kernel⟩
noncomputable abbrev tX:Stmt:=top 23
theorem Ey:bE ["powers","logs","n","a"] ["powers"] (aA tX):=⟨rfl,rfl,rfl,by decide +kernel,rfl,by decide +kernel,by decide +kernel⟩
noncomputable abbrev tY:Stmt:=kO (top 27) 8
theorem ax4:bE ["self","n"] ["self","n"] (aA tY):=⟨rfl,rfl,rfl,by decide +kernel,rfl,by decide +kernel,by decide +kernel⟩
noncomputable abbrev tZ:Stmt:=kO (top 27) 0
theorem aD8:bE ["self","many","product"] ["self","many","product"] (aA tZ):=⟨rfl,rfl,rfl,by decide +kernel,rfl,by decide +kernel,by decide +kernel⟩
noncomputable abbrev t7:Stmt:=top 26
theorem aw0:bE ["prime"] ["prime"] (aA t7):=⟨rfl,rfl,rfl,by decide +kernel,rfl,by decide +kernel,by decide +kernel⟩
noncomputable abbrev mV:Stmt:=kO (top 29) 0
theorem ax9:bE ["self","prime"] ["self","prime"] (aA mV):=⟨rfl,rfl,rfl,by decide +kernel,rfl,by decide +kernel,by decide +kernel⟩
noncomputable abbrev t8:Stmt:=top 24
theorem zW:bE ["powers","logs","many","rows","a"] ["powers","logs"] (aA t8):=⟨rfl,rfl,rfl,by decide +kernel,rfl,by decide +kernel,by decide +kernel⟩
noncomputable abbrev t9:Stmt:=top 18
theorem ua:bE ["a","b","quotient","rest","shift"] ["a","b"] (aA t9):=⟨rfl,rfl,rfl,by decide +kernel,rfl,by decide +kernel,by decide +kernel⟩
noncomputable abbrev ub:Stmt:=top 19
theorem Ez:bE ["a","half","b"] ["a"] (aA ub):=⟨rfl,rfl,rfl,by decide +kernel,rfl,by decide +kernel,by decide +kernel⟩
noncomputable abbrev ud:Stmt:=top 25
theorem ay0:bE ["bits"] ["bits"] (aA ud):=⟨rfl,rfl,rfl,by decide +kernel,rfl,by decide +kernel,by decide +kernel⟩
noncomputable abbrev ue:Stmt:=top 17
theorem zX:bE ["a","b","product","k"] ["a","b"] (aA ue):=⟨rfl,rfl,rfl,by decide +kernel,rfl,by decide +kernel,by decide +kernel⟩
noncomputable abbrev mW:Stmt:=kO (top 28) 0
theorem O8:bE ["self","bits","many"] ["self","bits"] (aA mW):=⟨rfl,rfl,rfl,by decide +kernel,rfl,by decide +kernel,by decide +kernel⟩
noncomputable abbrev uf:Stmt:=top 37
theorem aD9:bE ["_law_told_here"] ["_law_told_here"] (aA uf):=⟨rfl,rfl,rfl,by decide +kernel,rfl,by decide +kernel,by decide +kernel⟩
noncomputable abbrev ug:Stmt:=top 35
theorem aF7:bE ["_law_told_here","_law_a","_law_b"] ["_law_told_here","_law_a","_law_b"] (aA ug):=⟨rfl,rfl,rfl,by decide +kernel,rfl,by decide +kernel,by decide +kernel⟩
noncomputable abbrev uh:Stmt:=top 36
theorem ui:bE ["_law_told_here","_law_a","_law_b","_law_total"] ["_law_told_here","_law_a","_law_b"] (aA uh):=⟨rfl,rfl,rfl,by decide +kernel,rfl,by decide +kernel,by decide +kernel⟩
noncomputable abbrev uj:Stmt:=top 38
theorem zY:bE ["_law_told_here","_law_xs","_law_ys","_law_total","_law_x","_law_y"] ["_law_told_here","_law_xs","_law_ys"] (aA uj):=⟨rfl,rfl,rfl,by decide +kernel,rfl,by decide +kernel,by decide +kernel⟩
noncomputable abbrev uk:Stmt:=top 39
theorem aD2:bE ["_law_told_here","_law_xs","_law_table_here","_law_wide"] ["_law_told_here","_law_xs","_law_table_here","_law_wide"] (aA uk):=⟨rfl,rfl,rfl,by decide +kernel,rfl,by decide +kernel,by decide +kernel⟩
noncomputable abbrev um:Stmt:=top 31
theorem aF8:bE ["_law_script","_law_k"] ["_law_script","_law_k"] (aA um):=⟨rfl,rfl,rfl,by decide +kernel,rfl,by decide +kernel,by decide +kernel⟩
noncomputable abbrev uo:Stmt:=top 34
theorem aF9:bE ["_law_told_here"] ["_law_told_here"] (aA uo):=⟨rfl,rfl,rfl,by decide +kernel,rfl,by decide +kernel,by decide +kernel⟩
noncomputable abbrev uq:Stmt:=top 40
theorem ur:bE ["_law_told_here","_law_script","_law_begin","_law_rows","_law_wide","_law_way","_law_table_here","_law_i","_law_row"] ["_law_told_here","_law_script","_law_begin","_law_rows","_law_wide","_law_way"] (aA uq):=⟨rfl,rfl,rfl,by decide +kernel,rfl,by decide +kernel,by decide +kernel⟩
noncomputable abbrev uu:Stmt:=top 2
theorem aI4:bE ["table"] ["table"] (aA uu):=⟨rfl,rfl,rfl,by decide +kernel,rfl,by decide +kernel,by decide +kernel⟩
noncomputable abbrev uv:Stmt:=top 4
theorem O9:bE ["rows","place","number","row"] ["rows","place"] (aA uv):=⟨rfl,rfl,rfl,by decide +kernel,rfl,by decide +kernel,by decide +kernel⟩
noncomputable abbrev uw:Stmt:=kO (top 28) 6
theorem Pa:bE ["self","a","row","by_a"] ["self","a","row"] (aA uw):=⟨rfl,rfl,rfl,by decide +kernel,rfl,by decide +kernel,by decide +kernel⟩
noncomputable abbrev uz:Stmt:=kO (top 29) 6
theorem Pb:bE ["self","a","row","prime"] ["self","a","row"] (aA uz):=⟨rfl,rfl,rfl,by decide +kernel,rfl,by decide +kernel,by decide +kernel⟩
noncomputable abbrev uA:Stmt:=kO (top 28) 7
theorem Pc:bE ["self","row","a","other","by_a"] ["self","row","a","other"] (aA uA):=⟨rfl,rfl,rfl,by decide +kernel,rfl,by decide +kernel,by decide +kernel⟩
noncomputable abbrev uB:Stmt:=kO (top 29) 7
theorem Pd:bE ["self","row","a","other","prime"] ["self","row","a","other"] (aA uB):=⟨rfl,rfl,rfl,by decide +kernel,rfl,by decide +kernel,by decide +kernel⟩
noncomputable abbrev uC:Stmt:=top 5
theorem aJ5:bE ["field","rows","lead_row","place"] ["field","rows","lead_row","place"] (aA uC):=⟨rfl,rfl,rfl,by decide +kernel,rfl,by decide +kernel,by decide +kernel⟩
noncomputable abbrev uD:Stmt:=kO (top 27) 5
theorem aE0:bE ["self","a","b"] ["self","a","b"] (aA uD):=⟨rfl,rfl,rfl,by decide +kernel,rfl,by decide +kernel,by decide +kernel⟩
noncomputable abbrev uE:Stmt:=top 6
theorem pG:bE ["field","table","done","left","place","number","lead_row"] ["field","table"] (aA uE):=⟨rfl,rfl,rfl,by decide +kernel,rfl,by decide +kernel,by decide +kernel⟩
noncomputable abbrev uF:Stmt:=top 7
theorem bN6:bE ["rows"] ["rows"] (aA uF):=⟨rfl,rfl,rfl,by decide +kernel,rfl,by decide +kernel,by decide +kernel⟩
noncomputable abbrev uG:Stmt:=top 9
theorem aI5:bE ["table","due"] ["table","due"] (aA uG):=⟨rfl,rfl,rfl,by decide +kernel,rfl,by decide +kernel,by decide +kernel⟩
noncomputable abbrev uH:Stmt:=top 10
theorem uI:bE ["field","table","due","width","rows","taken","x","lead","row"] ["field","table","due"] (aA uH):=⟨rfl,rfl,rfl,by decide +kernel,rfl,by decide +kernel,by decide +kernel⟩
noncomputable abbrev uJ:Stmt:=top 3
theorem aK0:bE ["table"] ["table"] (aA uJ):=⟨rfl,rfl,rfl,by decide +kernel,rfl,by decide +kernel,by decide +kernel⟩
noncomputable abbrev uK:Stmt:=top 11
theorem Pe:bE ["field","table","due","wanted"] ["field","table","due"] (aA uK):=⟨rfl,rfl,rfl,by decide +kernel,rfl,by decide +kernel,by decide +kernel⟩
noncomputable abbrev uL:Stmt:=top 42
theorem aG0:bE ["_law_table_here"] ["_law_table_here"] (aA uL):=⟨rfl,rfl,rfl,by decide +kernel,rfl,by decide +kernel,by decide +kernel⟩
noncomputable abbrev uM:Stmt:=top 32
theorem aE1:bE ["_law_x"] ["_law_x"] (aA uM):=⟨rfl,rfl,rfl,by decide +kernel,rfl,by decide +kernel,by decide +kernel⟩
noncomputable abbrev uN:Stmt:=top 41
theorem aB3:bE ["_law_row","_law_wide","_law_many_here"] ["_law_row","_law_wide","_law_many_here"] (aA uN):=⟨rfl,rfl,rfl,by decide +kernel,rfl,by decide +kernel,by decide +kernel⟩
noncomputable abbrev uO:Stmt:=top 44
theorem Pf:bE ["_law_told_here","_law_table_here","_law_due","_law_found","_law_wide"] ["_law_told_here","_law_table_here","_law_due","_law_found"] (aA uO):=⟨rfl,rfl,rfl,by decide +kernel,rfl,by decide +kernel,by decide +kernel⟩
noncomputable abbrev uP:Stmt:=top 43
theorem zZ:bE ["_law_told_here","_law_field_here","_law_table_here","_law_due","_law_found","_law_wide","_law_heads","_law_row"] ["_law_told_here","_law_field_here","_law_table_here","_law_due","_law_found"] (aA uP):=⟨rfl,rfl,rfl,by decide +kernel,rfl,by decide +kernel,by decide +kernel⟩
noncomputable abbrev mX:Stmt:=top 45
theorem gW:bE ["_law_script","_law_told_here","_law_field_here","_law_rows","_law_wide","_law_table_here","_law_due","_law_built","_law_signs","_law_handed","_law_found","_law_why","_law_kept"] ["_law_script"] (aA mX):=⟨rfl,rfl,rfl,by decide +kernel,rfl,by decide +kernel,by decide +kernel⟩
set_option genInjectivity false in
set_option genSizeOf false in
structure kN where
 EA:Addr
 EB:FuncData
 EC:Addr
 ED:FuncData
 EE:Addr
 EF:FuncData
 EG:Addr
 EH:FuncData
 xf:Addr
 EI:FuncData
 EJ:Addr
 EK:FuncData
 EL:Addr
 EM:FuncData
 EN:Addr
 z0:FuncData
 EO:Addr
 ER:FuncData
 ES:Addr
 ET:FuncData
 EU:Addr
 EV:FuncData
 EW:Addr
 EX:FuncData
 EY:Addr
 EZ:FuncData
 E1:Addr
 z5:FuncData
 E2:Addr
 E3:FuncData
 E4:Addr
 E5:FuncData
 E6:Addr
 E7:FuncData
 E8:Addr
 E9:FuncData
 Fb:Addr
 Fc:FuncData
 Fd:Addr
 Fe:FuncData
 Ff:Addr
 Fg:FuncData
 Fh:Addr
 Fj:FuncData
 Fl:Addr
 Fm:FuncData
 Fo:Addr
 Fp:FuncData
 Fq:Addr
 Fs:FuncData
 Ft:Addr
 Fu:FuncData
 Fv:Addr
 Fw:FuncData
 Fx:Addr
 Fy:FuncData
 Fz:Addr
 FA:FuncData
 z6:Addr
 FC:FuncData
 FD:Addr
 FE:FuncData
 FF:Addr
 FG:FuncData
 FH:Addr
 FI:FuncData
 FJ:Addr
 FK:FuncData
 FL:Addr
 FN:FuncData
 FP:Addr
 FQ:FuncData
 FR:Addr
 FT:FuncData
 FU:Addr
 FV:FuncData
 FW:Addr
 FX:FuncData
 FY:Addr
 FZ:FuncData
 Ga:Addr
 Gb:FuncData
 Gd:Addr
 Ge:FuncData
 Pg:Addr
 jv:Addr
 Ph:Addr
 jw:Addr
 aV:Addr
 fP:Addr
 jx:Addr
 aY:Addr
structure Txt(K:Frag)(mg:Str->Option Value)(t:kN):Prop where
 Pj:bB K "_law_told" "_law_told" tU t.EA t.EB
 aI6:mg "_law_told"=some (.ref t.EA)
 aI7:Binds K t.EB ["_law_cell_here"] []
 Gf:bB K "powers_of" "powers_of" tV t.EC t.ED
 Pk:mg "powers_of"=some (.ref t.EC)
 Pl:Binds K t.ED ["a","product"] []
 Pm:bB K "step_powers" "step_powers" tW t.EE t.EF
 cA9:mg "step_powers"=some (.ref t.EE)
 cB0:Binds K t.EF ["many","product"] []
 Pn:bB K "logs_of" "logs_of" tX t.EG t.EH
 cB1:mg "logs_of"=some (.ref t.EG)
 cB2:Binds K t.EH ["powers"] []
 ay1:bB K "step_power" "Field.step_power" tY t.xf t.EI
 Gg:Binds K t.EI ["self","n"] []
 aG1:bB K "__init__" "Field.__init__" tZ t.EJ t.EK
 Po:Binds K t.EK ["self","many","product"] []
 Pp:bB K "makes_prime_field" "makes_prime_field" t7 t.EL t.EM
 cB5:mg "makes_prime_field"=some (.ref t.EL)
 cB6:Binds K t.EM ["prime"] []
 aA2:bB K "__init__" "PrimeField.__init__" mV t.EN t.z0
 aA3:Binds K t.z0 ["self","prime"] []
 Pq:bB K "product_rows" "product_rows" t8 t.EO t.ER
 cB9:mg "product_rows"=some (.ref t.EO)
 cC0:Binds K t.ER ["powers","logs"] []
 Gh:bB K "bits_divided" "bits_divided" t9 t.ES t.ET
 Pr:mg "bits_divided"=some (.ref t.ES)
 Pt:Binds K t.ET ["a","b"] []
 Pu:bB K "stands_alone" "stands_alone" ub t.EU t.EV
 cC1:mg "stands_alone"=some (.ref t.EU)
 cC2:Binds K t.EV ["a"] []
 Pw:bB K "makes_bit_field" "makes_bit_field" ud t.EW t.EX
 cC3:mg "makes_bit_field"=some (.ref t.EW)
 cC4:Binds K t.EX ["bits"] []
 Px:bB K "bits_times" "bits_times" ue t.EY t.EZ
 cC5:mg "bits_times"=some (.ref t.EY)
 cC6:Binds K t.EZ ["a","b"] []
 aC2:bB K "__init__" "BitField.__init__" mW t.E1 t.z5
 aC3:Binds K t.z5 ["self","bits"] []
 Py:bB K "_law_field" "_law_field" uf t.E2 t.E3
 aG2:mg "_law_field"=some (.ref t.E2)
 aG3:Binds K t.E3 ["_law_told_here"] []
 Pz:bB K "_law_plus" "_law_plus" ug t.E4 t.E5
 aI8:mg "_law_plus"=some (.ref t.E4)
 aI9:Binds K t.E5 ["_law_told_here","_law_a","_law_b"] []
 PB:bB K "_law_times" "_law_times" uh t.E6 t.E7
 aG4:mg "_law_times"=some (.ref t.E6)
 aG5:Binds K t.E7 ["_law_told_here","_law_a","_law_b"] []
 xg:bB K "_law_dot" "_law_dot" uj t.E8 t.E9
 z7:mg "_law_dot"=some (.ref t.E8)
 z8:Binds K t.E9 ["_law_told_here","_law_xs","_law_ys"] []
 Gi:bB K "_law_by_row" "_law_by_row" uk t.Fb t.Fc
 PC:mg "_law_by_row"=some (.ref t.Fb)
 PD:Binds K t.Fc ["_law_told_here","_law_xs","_law_table_here","_law_wide"] []
 kl:bB K "_law_cell" "_law_cell" um t.Fd t.Fe
 mY:mg "_law_cell"=some (.ref t.Fd)
 mZ:Binds K t.Fe ["_law_script","_law_k"] []
 uQ:bB K "_law_many" "_law_many" uo t.Ff t.Fg
 xh:mg "_law_many"=some (.ref t.Ff)
 xi:Binds K t.Fg ["_law_told_here"] []
 PF:bB K "_law_table" "_law_table" uq t.Fh t.Fj
 aG6:mg "_law_table"=some (.ref t.Fh)
 aG7:Binds K t.Fj ["_law_told_here","_law_script","_law_begin","_law_rows","_law_wide","_law_way"] []
 xj:bB K "width_of" "width_of" uu t.Fl t.Fm
 z9:mg "width_of"=some (.ref t.Fl)
 Aa:Binds K t.Fm ["table"] []
 PH:bB K "first_with" "first_with" uv t.Fo t.Fp
 cD7:mg "first_with"=some (.ref t.Fo)
 cD8:Binds K t.Fp ["rows","place"] []
 aA4:bB K "scaled" "BitField.scaled" uw t.Fq t.Fs
 aA5:Binds K t.Fs ["self","a","row"] []
 ax5:bB K "scaled" "PrimeField.scaled" uz t.Ft t.Fu
 ax6:Binds K t.Fu ["self","a","row"] []
 ax7:bB K "lessened" "BitField.lessened" uA t.Fv t.Fw
 ax8:Binds K t.Fw ["self","row","a","other"] []
 av6:bB K "lessened" "PrimeField.lessened" uB t.Fx t.Fy
 av7:Binds K t.Fy ["self","row","a","other"] []
 Gj:bB K "cleared" "cleared" uC t.Fz t.FA
 PJ:mg "cleared"=some (.ref t.Fz)
 PK:Binds K t.FA ["field","rows","lead_row","place"] []
 aG8:bB K "over" "Field.over" uD t.z6 t.FC
 PL:Binds K t.FC ["self","a","b"] []
 Gk:bB K "reduced" "reduced" uE t.FD t.FE
 PM:mg "reduced"=some (.ref t.FD)
 PN:Binds K t.FE ["field","table"] []
 PQ:bB K "leads" "leads" uF t.FF t.FG
 cE8:mg "leads"=some (.ref t.FF)
 cE9:Binds K t.FG ["rows"] []
 Gm:bB K "with_due" "with_due" uG t.FH t.FI
 PR:mg "with_due"=some (.ref t.FH)
 PU:Binds K t.FI ["table","due"] []
 Ab:bB K "solved" "solved" uH t.FJ t.FK
 Gp:mg "solved"=some (.ref t.FJ)
 Gq:Binds K t.FK ["field","table","due"] []
 PV:bB K "turned" "turned" uJ t.FL t.FN
 cF0:mg "turned"=some (.ref t.FL)
 cF1:Binds K t.FN ["table"] []
 PX:bB K "reason" "reason" uK t.FP t.FQ
 cF2:mg "reason"=some (.ref t.FP)
 cF3:Binds K t.FQ ["field","table","due"] []
 Gr:bB K "_law_copy" "_law_copy" uL t.FR t.FT
 PY:mg "_law_copy"=some (.ref t.FR)
 PZ:Binds K t.FT ["_law_table_here"] []
 P0:bB K "_law_whole" "_law_whole" uM t.FU t.FV
 aG9:mg "_law_whole"=some (.ref t.FU)
 aH0:Binds K t.FV ["_law_x"] []
 Gs:bB K "_law_row_kind" "_law_row_kind" uN t.FW t.FX
 P1:mg "_law_row_kind"=some (.ref t.FW)
 P2:Binds K t.FX ["_law_row","_law_wide","_law_many_here"] []
 P4:bB K "_law_shows" "_law_shows" uO t.FY t.FZ
 aH1:mg "_law_shows"=some (.ref t.FY)
 aH2:Binds K t.FZ ["_law_told_here","_law_table_here","_law_due","_law_found"] []
 P5:bB K "_law_does" "_law_does" uP t.Ga t.Gb
 aJ0:mg "_law_does"=some (.ref t.Ga)
 aJ1:Binds K t.Gb ["_law_told_here","_law_field_here","_law_table_here","_law_due","_law_found"] []
 cG0:bB K "law" "law" mX t.Gd t.Ge
 dx7:mg "law"=some (.ref t.Gd)
 dx8:Binds K t.Ge ["_law_script"] []
 ay9:t.z0.code=.ref t.Pg
 az0:codeHdIn K t.Pg t.jv=true
 aB4:t.z5.code=.ref t.Ph
 aB5:codeHdIn K t.Ph t.jw=true
 gX:dZ K t.aV
 xk:Mk K t.aV t.E1
 aK7:N0 K t.aV
 xm:cC K t.aV "bits"
 pH:cC K t.aV "logs"
 uR:cC K t.aV "many"
 rW:cC K t.aV "powers"
 Ac:cC K t.aV "prime"
 rX:cC K t.aV "products"
 xn:cC K t.aV "step"
 xo:cC K t.aV "wide"
 xp:Meth K t.aV "lessened" t.Fv
 xq:Meth K t.aV "over" t.z6
 xt:Meth K t.aV "scaled" t.Fq
 uS:Meth K t.aV "step_power" t.xf
 jy:dZ K t.aY
 xu:Mk K t.aY t.EN
 aK6:N0 K t.aY
 Ad:cC K t.aY "bits"
 rY:cC K t.aY "logs"
 uT:cC K t.aY "many"
 uU:cC K t.aY "powers"
 rZ:cC K t.aY "prime"
 Ae:cC K t.aY "products"
 xv:cC K t.aY "step"
 xw:cC K t.aY "wide"
 xx:Meth K t.aY "lessened" t.Fx
 xy:Meth K t.aY "over" t.z6
 xA:Meth K t.aY "scaled" t.Ft
 uV:Meth K t.aY "step_power" t.xf
 P6:zf K t.jx "__init__" t.EJ
 Gu:mg "all"=none
 cG5:mg "bool"=none
 Gv:mg "enumerate"=none
 P7:mg "int"=none
 Gw:mg "isinstance"=none
 km:mg "len"=none
 Af:mg "list"=none
 gY:mg "range"=none
 xB:mg "zip"=none
 xC:mg "BitField"=some (.ref t.aV)
 xD:mg "ByNought"=some (.ref t.fP)
 uW:mg "Field"=some (.ref t.jx)
 xE:mg "PrimeField"=some (.ref t.aY)
 P8:Dy K mg "ByNought" t.fP
 aK8:LW K t.fP
section
variable{P:Program}{w:World}{K:Frag}{mg:Str->Option Value}{base:Heap}{t:kN}
noncomputable abbrev aH3:bG:=λds Q=>∃c:Int,ds=[.int c]/\Q (cL (pd c))
theorem aH4(T:Txt K mg t):aS P w K mg base bc 1 t.EA t.EB ["_law_cell_here"] (bK (aH3 )):=by
 refine cq T.Pj Ew ?_ ?_
 ·intro ds Q h
  obtain⟨c,rfl,q⟩:=h<;>rfl
 ·intro aG A outer s H E hr
  refine⟨_,(aK (bw (i:=1) Ew.nd rfl (ay rfl) (MU (ns:=[7,11,13,19,25,31,37,41,47,55,59,61,67,73,87,91,97,103,109,115,117]) (by decide +kernel)))
   (aK (bw (i:=2) Ew.nd rfl (ay rfl) (MU (ns:=[2,3,5,7,11,13,17,19,23,29,31,37,41,43,47,53,59,61]) (by decide +kernel)))
   (aK (cY (cU (fG (dq hr)) (af (aL dJ (bv 0) (af aw))) (af aw) (cB _)) (aO (bf (C3 (e5 jf (e5 (eA (bC (bv 1) (af (aL dJ (af (aL qS (bv 0) (af aw))) (af aw))) (λ_ _=>rfl))) fh))))) cX)
   (aO (bf (C3 (e5 jf (e5 (eA (bC (bv 2) (af (aL dJ (af (aL qS (bv 0) (af aw))) (af aw))) (λ_ _=>rfl))) fh)))))))),λds Q h=>?_⟩
  obtain⟨c,rfl,q⟩:=h
  refine aH λU hU=>?_
  walk_at"l3"
  refine⟨by decide,hU _ ?_⟩
  clear hU U
  refine aH λU hU=>?_
  walk_at"l3"
  refine⟨by decide,hU _ ?_⟩
  clear hU U
  refine aH λU hU=>?_
  walk_at"l3"
  refine⟨by decide,?_⟩
  have n1:=kF (c/2) (show(21:Int)≠0 by decide)
  have n2:=kG (c/2) (show(0:Int)<21 by decide)
  have n3:=kF (c/2) (show(18:Int)≠0 by decide)
  have n4:=kG (c/2) (show(0:Int)<18 by decide)
  split
  ·rename_i hc
   refine⟨qR (by decide) (by decide),by decide,_,j9 n1 (by simpa using n2),rfl,by decide,?_⟩
   have e:cL (pd c)=.tup [.bl true,.int (([7,11,13,19,25,31,37,41,47,55,59,61,67,73,87,91,97,103,109,115,117]:List Int).getD (c/2%21).toNat 0)]:=by
    unfold pd cL
    rw[if_pos hc]
    have:∀k:Nat,((fM.getD k 0:Nat):Int)=([7,11,13,19,25,31,37,41,47,55,59,61,67,73,87,91,97,103,109,115,117]:List Int).getD k 0:=λk=>by
     show _=(fM.map (λ(n:Nat)=>(n:Int))).getD k ((0:Nat):Int)
     rw[aR,aR,cI]
     cases fM[k]?<;>rfl
    rw[<-this]
   rw[<-e];exact q
  ·rename_i hc
   refine hU _ ?_
   walk_at"l3"
   refine⟨qR (by decide) (by decide),by decide,_,j9 n3 (by simpa using n4),rfl,by decide,?_⟩
   have e:cL (pd c)=.tup [.bl false,.int (([2,3,5,7,11,13,17,19,23,29,31,37,41,43,47,53,59,61]:List Int).getD (c/2%18).toNat 0)]:=by
    unfold pd cL
    rw[if_neg hc]
    have:∀k:Nat,((mG.getD k 0:Nat):Int)=([2,3,5,7,11,13,17,19,23,29,31,37,41,43,47,53,59,61]:List Int).getD k 0:=λk=>by
     show _=(mG.map (λ(n:Nat)=>(n:Int))).getD k ((0:Nat):Int)
     rw[aR,aR,cI]
     cases mG[k]?<;>rfl
    rw[<-this]
   rw[<-e];exact q
noncomputable abbrev aH5(L:Obj->Obj->Addr->Addr->tI->Prop):bG:=λds Q=>∃(a:Nat) (of oc:Obj) (c k:Addr) (g:Nat->Nat->Nat) (l:List Int),ds=[.int a,.aU (.lam of oc c k)]/\L of oc c k (wM g)/\a<64/\DT g a=some l/\Q (.lst true (aD l))
theorem P9(T:Txt K mg t):aS P w K mg base bc 5 t.EC t.ED ["a","product"] (bK (aH5 (wF P w K mg base 4))):=by
 refine cq T.Gf zV ?_ ?_
 ·intro ds Q h
  obtain⟨a,of,oc,c,k,g,l,rfl,hL,ha,hp,q⟩:=h<;>rfl
 ·intro aG A outer s H E hr
  refine⟨_,(aK (bw (i:=2) zV.nd rfl (ay rfl) (gI (e5 aw fh)))
   (aK (bw (i:=3) zV.nd rfl (ay rfl) (Nj (n:=4) (i:=1) rfl (by first | exact ay rfl | exact bg (ay rfl)) (hr.mono (by decide)) (ah (af aw) (ah (bv 0) aB))))
   (aK (yN g6 (cU (lZ (dq hr)) (bv 3) (af aw) (cB _))
    (aK (Dr (i:=2) rfl (by first | exact ay rfl | exact bg (ay rfl)) (eA (bv 3)))
    (aO (bw (i:=3) zV.nd rfl (ay rfl) (Nj (n:=4) (i:=1) rfl (by first | exact ay rfl | exact bg (ay rfl)) (hr.mono (by decide)) (ah (bv 3) (ah (bv 0) aB)))))))
   (aO (bf (em 2)))))),λds Q h=>?_⟩
  obtain⟨a,of,oc,c,k,g,l,rfl,hL,ha,hp,q⟩:=h
  refine aH λU hU=>?_
  walk_at"l3"
  refine⟨by decide,hU _ ?_⟩
  clear hU U
  refine aH λU hU=>?_
  walk_at"l3"
  refine⟨of,oc,c,k,wM g,rfl,hL,1,a,⟨rfl,rfl⟩,1,a,rfl,rfl,by decide,ha,hU _ ?_⟩
  clear hU U
  refine aH λU hU=>?_
  walk_at"l3"
  refine⟨λm δ=>∃(p:Nat) (acc:List Int),δ=[some (.int a),some (.aU (.lam of oc c k)),some (.lst true (aD acc)),some (.int p)]/\acc.length+m<=70/\zi g a m p acc=some l,⟨64,_,[1],rfl,by decide,hp⟩,?_⟩
  rintro m δ ⟨p,acc,rfl,hn,hg⟩
  walk_at"l3"
  cases m with
  | zero=>cases hg
  | succ m =>
   unfold zi at hg
   split at hg
   ·rename_i h1
    subst h1
    cases hg
    rw[if_neg (by simp)]
    refine hU _ ?_
    walk_at"l3"
    exact q
   ·rename_i h1
    rw[if_pos (by simp;omega)]
    split at hg
    ·rename_i h2
     clear hU
     refine aH λU hU=>?_
     walk_at"l3"
     refine⟨⟨_,rfl⟩,by omega,hU _ ?_⟩
     clear hU
     walk_at"l3"
     exact⟨of,oc,c,k,wM g,rfl,hL,p,a,⟨rfl,rfl⟩,p,a,rfl,rfl,h2,ha,m,by omega,g p a,acc++[(p:Int)],⟨by rw[<-mw];rfl,rfl⟩,by simp;omega,hg⟩
    ·cases hg
noncomputable abbrev aD3(L:Obj->Obj->Addr->Addr->tI->Prop):bG:=λds Q=>∃(n:Nat) (of oc:Obj) (c k:Addr) (g:Nat->Nat->Nat) (l:List Int),ds=[.int n,.aU (.lam of oc c k)]/\L of oc c k (wM g)/\wL g n=some l/\Q (.lst true (aD l))
theorem aD4(T:Txt K mg t):aS P w K mg base bc 6 t.EE t.EF ["many","product"] (bK (aD3 (wF P w K mg base 4))):=by
 refine cq T.Pm xb ?_ ?_
 ·intro ds Q h
  obtain⟨n,of,oc,c,k,g,l,rfl,hL,hp,q⟩:=h<;>rfl
 ·intro aG A outer s H E hr
  refine⟨_,(aK (bw (i:=2) xb.nd rfl (ay rfl) aw)
   (aK (bw (i:=3) xb.nd rfl (ay rfl) (br ((P9 T).mono (by decide)) hr rfl T.Pk T.Gf.kp T.Pl aX (ah (bv 2) (ah (bv 1) aB))))
   (aK (yN g6 (cU yT (af (iq (j6) (by rfl) T.km jQ (ah (bv 3) aB))) (af (aL jY (bv 0) (af aw))) (cB _))
    (aK (yM (i:=2) xb.nd rfl (ay rfl) (af aw) Xy)
    (aO (bw (i:=3) xb.nd rfl (ay rfl) (br ((P9 T).mono (by decide)) hr rfl T.Pk T.Gf.kp T.Pl aX (ah (bv 2) (ah (bv 1) aB)))))))
   (aO (bf (em 3)))))),λds Q h=>?_⟩
  obtain⟨n,of,oc,c,k,g,l,rfl,hL,hp,q⟩:=h
  unfold wL at hp
  split at hp
  ·rename_i l0 h0
   refine aH λU hU=>?_
   walk_at"l3"
   refine hU _ ?_
   clear hU U
   refine aH λU hU=>?_
   walk_at"l3"
   refine⟨1,of,oc,c,k,g,l0,rfl,hL,by decide,h0,hU _ ?_⟩
   clear hU U
   refine aH λU hU=>?_
   walk_at"l3"
   refine⟨λm δ=>∃(st:Nat) (l1:List Int),δ=[some (.int n),some (.aU (.lam of oc c k)),some (.int st),some (.lst true (aD l1))]/\st+m<=63/\zj g n m st l1=some l,⟨62,1,l0,rfl,by decide,hp⟩,?_⟩
   rintro m δ ⟨st,l1,rfl,hn,hg⟩
   walk_at"l3"
   cases m with
   | zero=>cases hg
   | succ m =>
    unfold zj at hg
    split at hg
    ·rename_i h1
     rw[if_pos (by omega)]
     split at hg
     ·rename_i l2 h2
      clear hU
      refine aH λU hU=>?_
      walk_at"l3"
      refine hU _ ?_
      clear hU
      walk_at"l3"
      exact⟨st+1,of,oc,c,k,g,l2,rfl,hL,by omega,h2,m,by omega,st+1,l2,⟨rfl,rfl⟩,by omega,hg⟩
     ·cases hg
    ·rename_i h1
     rw[if_neg (by omega)]
     cases hg
     refine hU _ ?_
     walk_at"l3"
     exact q
  ·cases hp
noncomputable abbrev aJ6:bG:=λds Q=>∃(l:List Int),ds=[.lst false (aD l)]/\l.length<=64/\(∀x∈l,0<=x/\x.toNat<=l.length)/\Q (.lst true (aD (dr l)))
theorem aJ7(T:Txt K mg t):aS P w K mg base bc 1 t.EG t.EH ["powers"] (bK (aJ6 )):=by
 refine cq T.Pn Ey ?_ ?_
 ·intro ds Q h
  obtain⟨l,rfl,hl,hx,q⟩:=h<;>rfl
 ·intro aG A outer s H E hr
  refine⟨_,(aK (bw (i:=1) Ey.nd rfl (ay rfl) (aL ik (af (gI (e5 aw fh))) (af (aL eT (af (iq (j6) (by rfl) T.km jQ (ah (bv 0) aB))) (af aw)))))
   (aK (lM g6 rfl (DF rfl T.Gv (ah (bv 0) aB)) (oV (i1:=2) (i2:=3) rfl Ey.nd rfl (ay rfl) rfl (ay rfl))
    (aO (Ds (i:=1) rfl (by first | exact ay rfl | exact bg (ay rfl)) (eA (bv 2)) (bv 3))))
   (aO (bf (em 1))))),λds Q h=>?_⟩
  obtain⟨l,rfl,hl,hx,q⟩:=h
  refine aH λU hU=>?_
  walk_at"l3"
  refine⟨by decide,⟨by omega,by omega,by omega⟩,hU _ ?_⟩
  clear hU U
  refine aH λU hU=>?_
  walk_at"l3"
  refine jh.mk (λi δ=>∃o1 o2,δ=[some (.lst false (aD l)),some (.lst true (aD (mH l i))),o1,o2]) ⟨none,none,?_⟩ ?_ ?_
  ·rw[show((l.length:Int)+1).toNat=l.length+1 by omega];rfl
  ·rintro i d δ hd ⟨o1,o2,rfl⟩
   obtain⟨hi,rfl⟩:∃h:i<l.length,d=.tup [.int i,.int l[i]]:=by
    unfold fI aD at hd
    rw[BG,cI]at hd
    by_cases hi:i<l.length
    ·rw[aQ hi]at hd
     simp at hd
     exact⟨hi,hd.symm⟩
    ·rw[iB (by omega)]at hd;simp at hd
   have eD:=hx l[i] (cN _)
   walk_at"l3"
   refine⟨_,(l[i]).toNat,rfl,?_,_,_,?_,rfl,rfl⟩
   ·unfold fV
    rw[jm,wN,if_pos eD.1,if_pos (by omega)]
   ·unfold aD
    rw[<-List.map_set]
    congr 1
    show _=(mH l i).set (l.getD i 0).toNat (i:Int)
    rw[aR,aQ hi];rfl
  ·rintro δ ⟨o1,o2,rfl⟩
   refine hU _ ?_
   simp only[nS,lJ,nU,lK,dT,jg,jT,jU,dC,kZ,lF,lC,ly,lD,nR,jZ,oB,mi,oE,oF,nJ,nK,nL,nM,nN,nO,nQ,lh,me,mf,lU,n9,lW,oa,og,oh,oi,oj,om,iI,e8,oo,oq,ot,ou,lX,lY,ji,ow,oy,gN,oG,oA,nV,nX,nY,nZ,n5,n6,oH,oI,lQ,ig,eB,gg,fE,pZ,nh,iC,sH,lH,ie,gJ,mh,oM,oO,oQ,rF,iM,oW,mx,oS,gM,rJ,rG,rH,cH,iS,nt,ni,gZ,qi,aT,qj,qk,iD,iE,ql,exists_eq_left',exists_eq_left,D.bl.injEq,D.int.injEq,D.lst.injEq,D.fz.injEq,D.str.injEq,D.tup.injEq,qm,and_true,true_and,dh,nr,jG,kC,qU,qV,qW,qX,qY,qZ,fB,iJ,mr,q9,rf,rh,rj,rk,di,je,mq,q0,q5,q8,eL,kX,sI,sJ,pS,fo,qg,qh,pU,rp,rq,rz,rA,rB,rC,rD,jm,j8,mv,gL,mw,rm,rl,oJ,rn,jn,oK,if_true,sM,if_false,reduceIte,rE,decide_eq_true_eq,fJ,my,ka,mB,nW,oY,mI,oU,mE,mF,o6,mK,pj,dM,rP,iO,rQ,pE,mU,mT,pF,wz]
   exact q
noncomputable abbrev Gx(K:Frag):bG:=λds Q=>∃(C:Addr) (ns:List Str) (xs:List D) (n:Int) (many:Nat) (l:List Int) (r:Int),ds=[.obj C ns xs,.int n]/\dZ K C/\cC K C "powers"/\cC K C "many"/\(ns.zip xs).lookup ("powers":Str)=some (.lst false (aD l))/\(ns.zip xs).lookup ("many":Str)=some (.int many)/\2<=many/\l[(n%((many:Int)-1)).toNat]?=some r/\Q (.int r)
theorem Gy(T:Txt K mg t):aS P w K mg base bc 1 t.xf t.EI ["self","n"] (bK (Gx K)):=by
 refine cq T.ay1 ax4 ?_ ?_
 ·intro ds Q h
  obtain⟨C,ns,xs,n,many,l,r,rfl,hC,h1,h2,h3,h4,h5,h6,q⟩:=h<;>rfl
 ·intro aG A outer s H E hr
  refine⟨_,(aO (bf (eA (bC (o9 (K:=K) (bv 0)) (af (aL dJ (bv 1) (af (aL jY (o9 (K:=K) (bv 0)) (af aw))))) (λ_ _=>rfl))))),λds Q h=>?_⟩
  obtain⟨C,ns,xs,n,many,l,r,rfl,hC,h1,h2,h3,h4,h5,h6,q⟩:=h
  walk_at"l3"
  refine⟨C,ns,xs,_,rfl,hC,h1,h3,C,ns,xs,_,rfl,hC,h2,h4,?_⟩
  refine⟨by omega,_,nD (d:=.int r) (kF _ (by omega)) ?_,rfl,q⟩
  unfold aD
  rw[cI,h6];rfl
noncomputable abbrev aE2(P:Program)(w:World)(K:Frag)(mg:Str->Option Value)(base:Heap)(fs:Addr):Sp:=λvs H Q _=>∃(x dx f C:Addr) (b:Str) (n0:Int) (many:Nat) (of oc:Obj) (c k:Addr) (g:Nat->Nat->Nat) (l:List Int) (st:Int),
 vs=[.ref x,.int many,.ref f]/\H x=some (.ins C dx [(b,.int n0)])/\(∀n∈(["many","wide","powers","logs","step","step_power"]:List Str),b≠n)/\Y0 K C fs/\fW H f of oc c k/\wF P w K mg base 4 of oc c k (wM g)/\NG g many l st /\
 ∀H' p1 p2,da x H H'->H' x=some (.ins C dx ((fN b).zip (zk n0 many p1 p2 st)))->LI H' p1 l->LI H' p2 (dr l)->p1≠p2->H p1=none->H p2=none->Q .ak H'
theorem Qa(T:Txt K mg t):aS P w K mg base bc 7 t.EJ t.EK ["self","many","product"] (aE2 P w K mg base t.xf):=by
 refine T.aG1.ok aD8 (λvs H Q E h=>?_) λaG A outer s H vs Q E hr h=>?_
 ·obtain⟨x,dx,f,C,b,n0,many,of,oc,c,k,g,l,st,rfl,_⟩:=h;rfl
 obtain⟨x,dx,f,C,b,n0,many,of,oc,c,k,g,l,st,rfl,hx,hb,hC,cH4,hL,hF,q⟩:=h
 refine⟨_,g9 (nC (pv 0) (pv 1) rfl) (g9 (nC (pv 0) (vI Cg (CH (pv 1)) vC) rfl)
  (g9 (nC (pv 0) (qE ((aD4 T).mono (by decide)) hr rfl T.cA9 T.Pm.kp T.cB0 .nil aX (eK (pv 1) (eK (pv 2) hV))) rfl)
  (g9 (nC (pv 0) (qE ((aJ7 T).mono (by decide)) hr rfl T.cB1 T.Pn.kp T.cB2 .nil aX (eK (yu (pv 0) rfl) hV)) rfl)
  (qw (nC (pv 0) (UZ (pv 0) hC.cls hC.sp ((Gy T).mono (by decide)) hr T.Gg .nil aX (eK vC hV)) rfl))))),?_⟩
 have nb:∀n∈(["many","wide","powers","logs","step","step_power"]:List Str),b≠n:=hb
 refine⟨.int many,rfl,.ref x,rfl,x,C,dx,_,rfl,hx,hC.cls,hC.many,nk (bD 1) (by decide),?_⟩
 rw[tL (by simpa using nb "many" (by simp))]
 generalize e1:upd H x (HO.ins C dx ([(b,V.int n0)]++[(("many":Str),V.int many)]))=H1
 have eD:H1 x=some (.ins C dx [(b,V.int n0),(("many":Str),V.int many)]):=by rw[<-e1,bM];rfl
 have s1:da x H H1:=by rw[<-e1];exact da.upd (C:=C) (dx:=dx) hx rfl
 have l1:fW H1 f of oc c k:=by rw[<-e1];exact cH4.wO hx
 have n1:∀p,H1 p=none->H p=none:=λp h=>wQ hx (by rw[e1];exact h)
 refine⟨_,rfl,rfl,_,rfl,rfl,_,_,rfl,rfl,.ref x,rfl,x,C,dx,_,rfl,eD,hC.cls,hC.wide,nk (bD 2) (by decide),?_⟩
 rw[tL (by simp;exact⟨nb "wide" (by simp),by decide⟩),gq]
 generalize e2:upd H1 x (HO.ins C dx ([(b,V.int n0),(("many":Str),V.int many)]++[(("wide":Str),V.int ((bl many:Nat)-1))]))=H2
 have gi:H2 x=some (.ins C dx [(b,V.int n0),(("many":Str),V.int many),(("wide":Str),V.int ((bl many:Nat)-1))]):=by rw[<-e2,bM];rfl
 have s2:da x H H2:=by rw[<-e2];exact s1.trans (da.upd (C:=C) (dx:=dx) eD rfl)
 have l2:fW H2 f of oc c k:=by rw[<-e2];exact l1.wO eD
 have n2:∀p,H2 p=none->H p=none:=λp h=>n1 p (wQ eD (by rw[e2];exact h))
 refine⟨_,rfl,_,rfl,H2,[.int many,.aU (.lam of oc c k)],λd=>d=.lst true (aD l),aa.refl _,.int (.aU l2 .nil),⟨many,of,oc,c,k,g,l,rfl,hL,hF.step,rfl⟩,λd v F' H3 A' hd hs hf he h3 r nd fr=>?_⟩
 subst hd
 obtain⟨p1,rfl,zS,xF⟩:=NF r fr
 have kn:=hs.get _ _ gi
 have s3:=s2.trans (hs.x (x:=x))
 refine⟨.ref x,rfl,x,C,dx,_,rfl,kn,hC.cls,hC.DU,nk (bD 3) (by decide),?_⟩
 rw[tL (by simp;exact⟨nb "powers" (by simp),by decide,by decide⟩)]
 generalize e4:upd H3 x (HO.ins C dx ([(b,V.int n0),(("many":Str),V.int many),(("wide":Str),V.int ((bl many:Nat)-1))]++[(("powers":Str),V.ref p1)]))=H4
 have pI:H4 x=some (.ins C dx [(b,V.int n0),(("many":Str),V.int many),(("wide":Str),V.int ((bl many:Nat)-1)),(("powers":Str),V.ref p1)]):=by rw[<-e4,bM];rfl
 have s4:da x H H4:=by rw[<-e4];exact s3.trans (da.upd (C:=C) (dx:=dx) kn rfl)
 have p4:LI H4 p1 l:=by rw[<-e4];exact zS.upd kn (λws z=>by cases z)
 have n4:∀p,H4 p=none->H p=none:=λp h=>n2 p (hs.free (wQ kn (by rw[e4];exact h)))
 refine⟨.ref x,rfl,x,C,dx,_,.ref p1,rfl,pI,hC.cls,hC.DU,by rw[zo (nb "powers" (by simp))];rfl,H4,[.lst false (aD l)],λd=>d=.lst true (aD (dr l)),aa.refl _,.shr p4 (jl l) .nil,⟨l,rfl,by have:=hF.len;have:=hF.hi;omega,hF.ins,rfl⟩,λd v F' H5 A' hd pJ hf he h3 r nd fr=>?_⟩
 subst hd
 obtain⟨p2,rfl,Qb,r6⟩:=NF r fr
 have kq:=pJ.get _ _ pI
 have s5:=s4.trans (pJ.x (x:=x))
 have cH5:p1≠p2:=λz=>by rw[<-z]at r6;unfold LI at p4;rw[r6]at p4;cases p4
 refine⟨.ref x,rfl,x,C,dx,_,rfl,kq,hC.cls,hC.Y1,nk (bD 4) (by decide),?_⟩
 rw[tL (by simp;exact⟨nb "logs" (by simp),by decide,by decide,by decide⟩)]
 generalize e6:upd H5 x (HO.ins C dx ([(b,V.int n0),(("many":Str),V.int many),(("wide":Str),V.int ((bl many:Nat)-1)),(("powers":Str),V.ref p1)]++[(("logs":Str),V.ref p2)]))=H6
 have Gz:H6 x=some (.ins C dx (([b,"many","wide","powers","logs"]:List Str).zip [V.int n0,V.int many,V.int ((bl many:Nat)-1),V.ref p1,V.ref p2])):=by rw[<-e6,bM];rfl
 have s6:da x H H6:=by rw[<-e6];exact s5.trans (da.upd (C:=C) (dx:=dx) kq rfl)
 have p6:LI H6 p1 l:=by rw[<-e6];exact(p4.same pJ).upd kq (λws z=>by cases z)
 have q6:LI H6 p2 (dr l):=by rw[<-e6];exact Qb.upd kq (λws z=>by cases z)
 refine⟨.ref x,rfl,x,dx,_,rfl,Gz,by show ky ("step_power":Str) ((b,V.int n0)::_)=none;rw[zo (nb "step_power" (by simp))];rfl,H6,[.obj C [b,"many","wide","powers","logs"] [.int n0,.int many,.int ((bl many:Nat)-1),.lst false (aD l),.lst false (aD (dr l))],.int 1],λd=>d=.int st,aa.refl _,
  .obj Gz rfl (.int (.int (.int (.shr p6 (jl l) (.shr q6 (jl _) .nil))))) (.int .nil),⟨C,_,_,1,many,l,st,rfl,hC.cls,hC.DU,hC.many,by show ky ("powers":Str) ((b,D.int n0)::_)=_;rw[zo (nb "powers" (by simp))];rfl,by show ky ("many":Str) ((b,D.int n0)::_)=_;rw[zo (nb "many" (by simp))];rfl,hF.lo,hF.st,rfl⟩,λd v F' H7 A' hd Ag hf he h3 r nd fr=>?_⟩
 subst hd
 cases r
 have Ah:=Ag.get _ _ Gz
 refine⟨.ref x,rfl,x,C,dx,_,rfl,Ah,hC.cls,hC.step,nk (bD 5) (by decide),?_⟩
 rw[tL (by simp;exact⟨nb "step" (by simp),by decide,by decide,by decide,by decide⟩)]
 refine q _ p1 p2 ((s6.trans (Ag.x (x:=x))).trans (da.upd (C:=C) (dx:=dx) Ah rfl)) (by rw[bM];rfl) ((p6.same Ag).upd Ah (λws z=>by cases z)) ((q6.same Ag).upd Ah (λws z=>by cases z)) cH5 (n2 p1 xF) (n4 p2 r6)
noncomputable abbrev aw2:bG:=λds Q=>∃a:Int,ds=[.int a]/\Q (.bl (decide (2<=a)&&decide (a<=61)&&(aP (a.toNat-2)).all λi=>a%(2+(i:Int)) != 0))
theorem aw3(T:Txt K mg t):aS P w K mg base bc 1 t.EL t.EM ["prime"] (bK (aw2 )):=by
 refine cq T.Pp aw0 ?_ ?_
 ·intro ds Q h
  obtain⟨a,rfl,q⟩:=h<;>rfl
 ·intro aG A outer s H E hr
  refine⟨_,(aO (bf (tu (af (Di wk wk (af aw) (bv 0) (af aw))) (qv (iq (Dk rfl) (by rfl) T.Gu CG (ah (af (eE [("prime",0)] ["d"] rfl (yP rfl T.gY (ah (af aw) (ah (bv 0) aB))) (λ_ _ _ _=>(cZ (i:=1) (show(["prime","d"]:List Str).Nodup by decide +kernel) rfl (ay (lookup_relabel_local rfl)) (by decide) (bg (lookup_relabel_local rfl)))) (λ_ _ _ _=>dB) (λ_ _ _ _=>(nI (lZ (dq hr)) (af (aL dJ (bv 0) (bv 1))) (af aw) (cB _))) rfl ⟨rfl,trivial⟩ (λ_=>by repeat' (first | exact trivial | refine⟨.inl rfl,?_⟩ | refine⟨.inr (.inl rfl),?_⟩ | refine⟨.inr (.inr ⟨_,rfl⟩),?_⟩)) (λ_=>⟨⟨rfl,.inl rfl,.inl rfl,_,rfl,rfl⟩,trivial⟩) rfl (by decide +kernel))) aB)))))),λds Q h=>?_⟩
  obtain⟨a,rfl,q⟩:=h
  walk_at"l3"
  split
  ·rename_i h1
   split
   ·rename_i h2
    refine⟨2,a,⟨rfl,rfl⟩,⟨by decide,by decide,by omega,by omega⟩,?_⟩
    have e0:(a-2).toNat=a.toNat-2:=by omega
    rw[e0]
    refine eC (aP (a.toNat-2)) (λ(k:Nat)=>D.int (2+(k:Int))) (λ(k:Nat)=>D.bl (a%(2+(k:Int)) != 0)) (by rw[wb]) (λx y h=>by injection h with h;omega) (λk hk=>?_) (.inr λ_ _=>rfl) (by rw[dQ,sL];omega) ?_
    ·walk_at"l3"
     refine⟨by omega,?_⟩
     by_cases z:a%(2+(k:Int))=0<;>simp[z]
    ·refine⟨(aP (a.toNat-2)).map λ(k:Nat)=>a%(2+(k:Int)) != 0,?_,?_⟩
     ·unfold wo;rw[cS];rfl
     ·have e:(decide (2<=a)&&decide (a<=61)&&(aP (a.toNat-2)).all λi=>a%(2+(i:Int)) != 0)=((aP (a.toNat-2)).map λ(k:Nat)=>a%(2+(k:Int)) != 0).all id:=by
       simp[h1,h2,qa]
      rw[<-e];exact q
   ·rename_i h2
    have e:(decide (2<=a)&&decide (a<=61)&&(aP (a.toNat-2)).all λi=>a%(2+(i:Int)) != 0)=false:=by simp[h2]
    rw[e]at q;exact q
  ·rename_i h1
   have e:(decide (2<=a)&&decide (a<=61)&&(aP (a.toNat-2)).all λi=>a%(2+(i:Int)) != 0)=false:=by simp[h1]
   rw[e]at q;exact q
noncomputable abbrev aD5:List D->List Str->List D->Prop:=λds ns xs=>∃p:Nat,ds=[.int p]/\p∈mG/\ns=fN "prime"/\xs=[.int p,.int p,.int ((bl p:Nat)-1),.lst true (aD (fl (false,p))),.lst true (aD (dr (fl (false,p)))),.int (fst (false,p))]
theorem az2(T:Txt K mg t)(hB:Bm mg base):aS P w K mg base bc 8 t.EN t.z0 ["self","prime"] (DS [t.jv,t.jw] t.aY aD5):=by
 refine NA T.aA2 T.ay9 ax9 (λvs H Q E h=>?_) λA outer s H vs Q E hr h=>?_
 ·obtain⟨x,dx,cm,ds,ns,xs,rfl,_,_,r,⟨p,rfl,_⟩,_⟩:=h
  have:=r.length
  simp at this
  simp[this]
 obtain⟨x,dx,cm,ds,ns,xs,rfl,tb,hx,r,⟨p,rfl,hp,rfl,rfl⟩,q⟩:=h
 obtain rfl:cm=[.int p]:=by
  cases r with
  | int r=>cases r;rfl
 have hm:(false,p)∈aM:=cR _ (BL hp)
 have hF:=dk hm
 refine⟨_,g9 (B5 (B0 (BZ (qE ((aw3 T).mono (by decide)) hr rfl T.cB5 T.Pp.kp T.cB6 .nil aX (eK (pv 1) hV)))) (qw KA) B3)
  (g9 (nC (pv 0) (pv 1) rfl)
  (qw (B4 (Nt (E:=E0) (i:=1) T.P6 ((Qa T).mono (by decide)) hr T.Po rfl T.uW rfl rfl rfl rfl (eK (pv 0) (eK (pv 1) (eK (Nk rfl rfl T.az0 hB) hV))))))),?_⟩
 refine⟨_,rfl,H,[.int p],λd=>d=.bl true,aa.refl _,.int .nil,⟨p,rfl,by rw[Y3 p hp]⟩,λd v F' H1 A1 hd r9 hf he h3 r nd fr=>?_⟩
 subst hd
 cases r
 refine⟨true,rfl,?_⟩
 refine i9 ?_
 have eD:=r9.get _ _ hx
 refine⟨.int p,rfl,.ref x,rfl,x,t.aY,dx,_,rfl,eD,T.jy,T.rZ,by decide,?_⟩
 generalize e2:upd H1 x (HO.ins t.aY dx (eJ "prime" (.int p) []))=H2
 have gi:H2 x=some (.ins t.aY dx [(("prime":Str),.int p)]):=by rw[<-e2,bM];rfl
 have s2:da x H H2:=by rw[<-e2];exact(r9.x (x:=x)).trans (da.upd (C:=x) (dx:=dx) eD rfl)
 have n2:∀p,H2 p=none->H p=none:=λp h=>r9.free (wQ eD (by rw[e2];exact h))
 obtain⟨ps,hP⟩:=tb t.jv (by simp)
 obtain⟨more,GA⟩:=s2.tb _ ps hP
 refine⟨.ref x,rfl,.int p,rfl,⟨_,GA⟩,λf k qn pm gP H3 nf GB hk kf m3 hl3=>?_⟩
 refine⟨f,_,_,.int p,GB,rfl,rfl,λoc u gw hu nc o5=>?_⟩
 obtain⟨tm,rfl⟩:∃tm,u=si p tm:=hu
 have kn:=m3.get _ _ gi
 refine⟨x,dx,f,t.aY,"prime",p,p,_,oc,_,k,gm (false,p),fl (false,p),fst (false,p),rfl,wR kn (λz=>by rw[z,nf]at gi;cases gi) nc,by decide,⟨T.jy,T.uT,T.xw,T.uU,T.rY,T.xv,T.uV⟩,NI o5 nc hk kf,?_,hF,λH' p1 p2 sx cW GC yy ne xF r6=>?_⟩
 ·refine Ny (n:=3) ⟨rfl,rfl,rfl,by decide,rfl,rfl,by decide,by decide,rfl⟩ gw (λu1 u2=>rfl) λq f A outer s H E hr=>?_
  refine⟨_,aL dJ (af (aL ik (bv 0) (bv 1))) (bv 2),λi j Qd h=>?_⟩
  obtain⟨a,b,rfl,rfl,ha,hb,hq⟩:=h
  walk_at"l3"
  have Es:2<=p:=hF.lo
  refine⟨i6.ok (.inr ⟨by omega,by omega⟩),by omega,?_⟩
  have e:((gm (false,p) a b:Nat):Int)=(a:Int)*b%p:=by
   show((a*b%p:Nat):Int)=_
   rw[sF,ya]
  rw[<-e];exact hq
 ·have gf:H' f=some (.ext (ib _ oc _ f)):=sx.get f _ (λz=>by rw[z]at nf;rw[nf]at gi;cases gi) (by rw[aN o5.symm,bM]) rfl
  have gc:=sx.get _ _ (dR kn nc).symm bM rfl
  refine⟨gf,gc,?_⟩
  refine q _ (zk p p p1 p2 (fst (false,p))) [p1,p2] (s2.trans (NH m3 nf nc sx)) ?_ rfl ?_ (by simp[ne]) (λa ha=>?_)
  ·rw[fL (λz=>by rw[z,gf]at cW;cases cW) (λz=>by rw[z,gc]at cW;cases cW)];exact cW
  ·exact .int (.int (.int (.own (GC.rem gf gc) rfl (jl _) (.own (yy.rem gf gc) rfl (jl _) (.int .nil)))))
  ·simp at ha
   rcases ha with rfl | rfl
   ·exact n2 _ (zr m3 xF)
   ·exact n2 _ (zr m3 r6)
noncomputable abbrev aC5:bG:=λds Q=>∃(l g:List Int),ds=[.lst false (aD l),.lst false (aD g)]/\1<=l.length/\l.length<=63/\g.length=l.length+1/\(∀x∈g,0<=x)/\Q (.lst true (o8 l g))
theorem aC6(T:Txt K mg t):aS P w K mg base bc 1 t.EO t.ER ["powers","logs"] (bK (aC5 )):=by
 refine cq T.Pq zW ?_ ?_
 ·intro ds Q h
  obtain⟨l,g,rfl,h1,h2,h3,h4,q⟩:=h<;>rfl
 ·intro aG A outer s H E hr
  refine⟨_,(aK (bw (i:=2) zW.nd rfl (bg rfl) (aL eT (af (iq (j6) (by rfl) T.km jQ (ah (bv 0) aB))) (af aw)))
   (aK (bw (i:=3) zW.nd rfl (ay rfl) (gI (e5 (aL ik (af (gI (e5 aw fh))) (bv 2)) fh)))
   (aK (lM g6 rfl (yP rfl T.gY (ah (af aw) (ah (bv 2) aB))) (cZ (i:=4) zW.nd rfl (bg rfl))
    (aO (Dr (i:=3) rfl (by first | exact ay rfl | exact bg (ay rfl)) (aL eT (af (gI (e5 aw fh))) (af (eE [("powers",0),("many",2),("logs",1),("a",4)] ["b"] rfl (yP rfl T.gY (ah (af aw) (ah (bv 2) aB))) (λ_ _ _ _=>(cZ (i:=4) (show(["powers","many","logs","a","b"]:List Str).Nodup by decide +kernel) rfl (ay (lookup_relabel_local rfl)) (by decide) (bg (lookup_relabel_local rfl)))) (λ_ _ _ _=>dB) (λ_ _ _ _=>(eA (bC (bv 0) (af (aL dJ (af (aL eT (bC (bv 2) (bv 3) (λ_ _=>rfl)) (bC (bv 2) (bv 4) (λ_ _=>rfl)))) (af (aL jY (bv 1) (af aw))))) (λ_ _=>rfl)))) rfl ⟨rfl,⟨rfl,⟨rfl,⟨rfl,trivial⟩⟩⟩⟩ (λ_=>by repeat' (first | exact trivial | refine⟨.inl rfl,?_⟩ | refine⟨.inr (.inl rfl),?_⟩ | refine⟨.inr (.inr ⟨_,rfl⟩),?_⟩)) (λ_=>⟨⟨rfl,.inl rfl,.inl rfl,_,rfl,rfl⟩,⟨⟨rfl,.inl rfl,.inl rfl,_,rfl,rfl⟩,⟨⟨rfl,.inl rfl,.inl rfl,_,rfl,rfl⟩,⟨⟨rfl,.inl rfl,.inl rfl,_,rfl,rfl⟩,trivial⟩⟩⟩⟩) rfl (by decide +kernel)))))))
   (aO (bf (em 3)))))),λds Q h=>?_⟩
  obtain⟨l,g,rfl,h1,h2,h3,h4,q⟩:=h
  refine aH λU hU=>?_
  walk_at"l3"
  refine hU _ ?_
  clear hU U
  refine aH λU hU=>?_
  walk_at"l3"
  refine⟨by decide,⟨by omega,by omega,by omega⟩,by decide,hU _ ?_⟩
  clear hU U
  refine aH λU hU=>?_
  walk_at"l3"
  refine⟨1,(l.length:Int)+1,⟨rfl,rfl⟩,⟨by decide,by decide,by omega,by omega⟩,?_⟩
  have en:((l.length:Int)+1-1).toNat=l.length:=by omega
  rw[en]
  refine jh.mk (λi δ=>∃o,δ=[some (.lst false (aD l)),some (.lst false (aD g)),some (.int ((l.length:Int)+1)),some (.lst true (tK l g (i+1))),o]) ⟨none,?_⟩ ?_ ?_
  ·rw[show((l.length:Int)+1).toNat=l.length+1 by omega];rfl
  ·rintro i d δ hd ⟨o,rfl⟩
   obtain⟨hi,rfl⟩:i<l.length/\d=.int (1+(i:Int)):=by
    rw[cI]at hd
    by_cases hi:i<l.length
    ·rw[kE hi]at hd
     exact⟨hi,(cu hd).symm⟩
    ·rw[iB (by simpa using hi)]at hd;cases hd
   walk_at"l3"
   refine⟨⟨_,rfl⟩,by decide,1,(l.length:Int)+1,⟨rfl,rfl⟩,⟨by decide,by decide,by omega,by omega⟩,?_⟩
   rw[en]
   refine eC (aP l.length) (λ(k:Nat)=>D.int (1+(k:Int))) (λ(k:Nat)=>D.int (l.getD ((g.getD (i+1) 0+g.getD (k+1) 0)%(l.length:Int)).toNat 0)) (by rw[wb]) (λx y h=>by injection h with h;omega) (λk hk=>?_) (.inr λ_ _=>rfl) (by rw[dQ,sL];omega) ?_
   ·have Oq:=dE.mp hk
    walk_at"l3"
    have e1:(1+(i:Int)).toNat=i+1:=by omega
    have e2:(1+(k:Int)).toNat=k+1:=by omega
    have e3:(l.length:Int)+1-1=l.length:=by omega
    have n0:=kF (g.getD (i+1) 0+g.getD (k+1) 0) (show(l.length:Int)≠0 by omega)
    have n1:=kG (g.getD (i+1) 0+g.getD (k+1) 0) (show(0:Int)<l.length by omega)
    refine⟨_,j9 (by omega) (by omega),_,j9 (by omega) (by omega),?_⟩
    rw[e1,e2,e3]
    exact⟨by omega,_,j9 n0 n1,rfl,rfl⟩
   ·walk_at"l3"
    refine⟨⟨by simp;omega,by rw[qa,dn];intro x _;rfl⟩,by simp[tK];omega,_,?_,rfl⟩
    unfold tK
    rw[Kn (n:=i+1),kD]
    congr 1
    show _=[D.lst true (aD (o7 l g (i+1)))]
    unfold o7
    rw[if_neg (by omega)]
    unfold aD
    rw[cH,cS];rfl
  ·rintro δ ⟨o,rfl⟩
   refine hU _ ?_
   simp only[nS,lJ,nU,lK,dT,jg,jT,jU,dC,kZ,lF,lC,ly,lD,nR,jZ,oB,mi,oE,oF,nJ,nK,nL,nM,nN,nO,nQ,lh,me,mf,lU,n9,lW,oa,og,oh,oi,oj,om,iI,e8,oo,oq,ot,ou,lX,lY,ji,ow,oy,gN,oG,oA,nV,nX,nY,nZ,n5,n6,oH,oI,lQ,ig,eB,gg,fE,pZ,nh,iC,sH,lH,ie,gJ,mh,oM,oO,oQ,rF,iM,oW,mx,oS,gM,rJ,rG,rH,cH,iS,nt,ni,gZ,qi,aT,qj,qk,iD,iE,ql,exists_eq_left',exists_eq_left,D.bl.injEq,D.int.injEq,D.lst.injEq,D.fz.injEq,D.str.injEq,D.tup.injEq,qm,and_true,true_and,dh,nr,jG,kC,qU,qV,qW,qX,qY,qZ,fB,iJ,mr,q9,rf,rh,rj,rk,di,je,mq,q0,q5,q8,eL,kX,sI,sJ,pS,fo,qg,qh,pU,rp,rq,rz,rA,rB,rC,rD,jm,j8,mv,gL,mw,rm,rl,oJ,rn,jn,oK,if_true,sM,if_false,reduceIte,rE,decide_eq_true_eq,fJ,my,ka,mB,nW,oY,mI,oU,mE,mF,o6,mK,pj,dM,rP,iO,rQ,pE,mU,mT,pF,bV,dQ]
   exact q
noncomputable abbrev aC7(t:kN):oN:=λds Q Ex=>∃a b:Nat,ds=[.int a,.int b]/\bl a<=1000000/\bl b<=1000000/\(b=0->Ex t.fP)/\(b≠0->∀q r:Nat,a=cl q b ^^^ r->bl r<bl b->Q (.tup [.int q,.int r]))
theorem Qc(T:Txt K mg t):aS P w K mg base (kW P w) 1 t.ES t.ET ["a","b"] (wu (aC7 t )):=by
 refine MV T.Gh ua ?_ ?_
 ·intro ds Q Ex h
  obtain⟨a,b,rfl,ha,hb,qx,q⟩:=h<;>rfl
 ·intro aG A outer s H E hr
  refine⟨_,(aK (cY (cU (fG (dq hr)) (bv 1) (af aw) (cB _)) (aO (MZ T.P8 rfl (by rfl) (ah (af Me) aB))) cX)
   (aK (bw (i:=2) ua.nd rfl (ay rfl) aw)
   (aK (bw (i:=3) ua.nd rfl (ay rfl) (em 0))
   (aK (XU (yN g6 (cU Xz (af (mm (bv 3))) (af (mm (bv 1))) (cB _))
    (aK (bw (i:=4) ua.nd rfl (ay rfl) (aL jY (af (mm (bv 3))) (af (mm (bv 1)))))
    (aK (yM (i:=2) ua.nd rfl (ay rfl) (af (aL tD (af aw) (bv 4))) Dc)
    (aO (yM (i:=3) ua.nd rfl (ay rfl) (af (aL tD (bv 1) (bv 4))) Dc))))))
   (aO (bf (C3 (e5 (em 2) (e5 (em 3) fh))))))))),λds Q Ex h=>?_⟩
  obtain⟨a,b,rfl,ha,hb,qx,q⟩:=h
  refine aH λU hU=>?_
  walk_at"l3"
  split
  ·rename_i h0
   exact⟨by decide,qx (by omega)⟩
  ·rename_i h0
   have b0:b≠0:=by omega
   refine hU _ ?_
   clear hU U
   refine aH λU hU=>?_
   walk_at"l3"
   refine hU _ ?_
   clear hU U
   refine aH λU hU=>?_
   walk_at"l3"
   refine hU _ ?_
   clear hU U
   refine aH λU hU=>?_
   walk_at"l3"
   refine⟨λm δ=>∃(x r:Nat) (o sh:Option D),δ=[o,some (.int b),some (.int (x:Nat)),some (.int (r:Nat)),sh]/\a=cl x b ^^^ r/\bl r<=bl a/\m=bl r,
    ⟨bl a,0,a,_,none,rfl,by rw[nF,nj],bD _,rfl⟩,?_⟩
   rintro m δ ⟨x,r,o,sh,rfl,inv,hra,rfl⟩
   simp only[nS,lJ,nU,lK,dT,jg,jT,jU,dC,kZ,lF,lC,ly,lD,nR,jZ,oB,mi,oE,oF,nJ,nK,nL,nM,nN,nO,nQ,lh,me,mf,lU,n9,lW,oa,og,oh,oi,oj,om,iI,e8,oo,oq,ot,ou,lX,lY,ji,ow,oy,gN,oG,oA,nV,nX,nY,nZ,n5,n6,oH,oI,lQ,ig,eB,gg,fE,pZ,nh,iC,sH,lH,ie,gJ,mh,oM,oO,oQ,rF,iM,oW,mx,oS,gM,rJ,rG,rH,cH,iS,nt,ni,gZ,qi,aT,qj,qk,iD,iE,ql,exists_eq_left',exists_eq_left,D.bl.injEq,D.int.injEq,D.lst.injEq,D.fz.injEq,D.str.injEq,D.tup.injEq,qm,and_true,true_and,dh,nr,jG,kC,qU,qV,qW,qX,qY,qZ,fB,iJ,mr,q9,rf,rh,rj,rk,di,je,mq,q0,q5,q8,eL,kX,sI,sJ,pS,fo,qg,qh,pU,rp,rq,rz,rA,rB,rC,rD,jm,j8,mv,gL,mw,rm,rl,oJ,rn,jn,oK,if_true,sM,if_false,reduceIte,rE,decide_eq_true_eq,fJ,my,ka,mB,nW,oY,mI,oU,mE,mF,o6,mK,pj,dM,rP,iO,rQ,pE,mU,mT,pF,gq]
   split
   ·rename_i hc
    have hle:bl b<=bl r:=by omega
    have CD:=LB b0 hle
    have es:(((bl r:Nat):Int)-((bl b:Nat):Int))=((bl r-bl b:Nat):Int):=by omega
    clear hU
    refine aH λU hU=>?_
    walk_at"l3"
    simp only[gq,es]
    refine hU _ ?_
    clear hU
    refine aH λU hU=>?_
    walk_at"l3"
    have o1:bl (1:Int).natAbs=1:=by decide
    refine⟨⟨by omega,by omega⟩,hU _ ?_⟩
    clear hU
    simp only[nS,lJ,nU,lK,dT,jg,jT,jU,dC,kZ,lF,lC,ly,lD,nR,jZ,oB,mi,oE,oF,nJ,nK,nL,nM,nN,nO,nQ,lh,me,mf,lU,n9,lW,oa,og,oh,oi,oj,om,iI,e8,oo,oq,ot,ou,lX,lY,ji,ow,oy,gN,oG,oA,nV,nX,nY,nZ,n5,n6,oH,oI,lQ,ig,eB,gg,fE,pZ,nh,iC,sH,lH,ie,gJ,mh,oM,oO,oQ,rF,iM,oW,mx,oS,gM,rJ,rG,rH,cH,iS,nt,ni,gZ,qi,aT,qj,qk,iD,iE,ql,exists_eq_left',exists_eq_left,D.bl.injEq,D.int.injEq,D.lst.injEq,D.fz.injEq,D.str.injEq,D.tup.injEq,qm,and_true,true_and,dh,nr,jG,kC,qU,qV,qW,qX,qY,qZ,fB,iJ,mr,q9,rf,rh,rj,rk,di,je,mq,q0,q5,q8,eL,kX,sI,sJ,pS,fo,qg,qh,pU,rp,rq,rz,rA,rB,rC,rD,jm,j8,mv,gL,mw,rm,rl,oJ,rn,jn,oK,if_true,sM,if_false,reduceIte,rE,decide_eq_true_eq,fJ,my,ka,mB,nW,oY,mI,oU,mE,mF,o6,mK,pj,dM,rP,iO,rQ,pE,mU,mT,pF,gq]
    refine⟨⟨by omega,by rw[gq];omega⟩,_,CD,x ^^^ 2 ^ (bl r-bl b),r ^^^ b <<< (bl r-bl b),o,_,⟨rfl,?_,?_,rfl⟩,VY inv,by omega,rfl⟩
    ·rw[show(1:Int)=((1:Nat):Int) from rfl,sY,qH,BS]
    ·rw[sY,qH]
   ·rename_i hc
    refine hU _ ?_
    walk_at"l3"
    refine⟨by decide,q b0 x r inv (by omega)⟩
noncomputable abbrev aC8:bG:=λds Q=>∃a:Nat,ds=[.int a]/\bl a<=60/\Q (.bl (al a))
theorem aC9(T:Txt K mg t):aS P w K mg base bc 2 t.EU t.EV ["a"] (bK (aC8 )):=by
 refine cq T.Pu Ez ?_ ?_
 ·intro ds Q h
  obtain⟨a,rfl,ha,q⟩:=h<;>rfl
 ·intro aG A outer s H E hr
  refine⟨_,(aK (cY (cU yT (bv 0) (af aw) (cB _)) (aO (bf jf)) cX)
   (aK (bw (i:=1) Ez.nd rfl (ay rfl) (aL qS (af (aL jY (af (mm (bv 0))) (af aw))) (af aw)))
   (aK (lM g6 rfl (yP rfl T.gY (ah (af aw) (ah (af (aL tD (af aw) (af (aL eT (bv 1) (af aw))))) aB))) (cZ (i:=2) Ez.nd rfl (ay rfl))
    (aO (cY (cU (fG (dq hr)) (bC (af (br (DA ((Qc T).mono (by decide))) hr rfl T.Pr T.Gh.kp T.Pt Dz (ah (bv 0) (ah (bv 2) aB)))) (af aw) (λ_ _=>rfl)) (af aw) (cB _)) (aO (bf jf)) cX)))
   (aO (bf jf))))),λds Q h=>?_⟩
  obtain⟨a,rfl,ha,q⟩:=h
  refine aH λU hU=>?_
  walk_at"l3"
  split
  ·rename_i h2
   rw[Wa (by omega)]at q;exact q
  ·rename_i h2
   have h2:2<=a:=by omega
   have hp:=fw (show a≠0 by omega)
   refine hU _ ?_
   clear hU U
   refine aH λU hU=>?_
   walk_at"l3"
   simp only[gq]
   refine⟨qR (by omega) (by omega),hU _ ?_⟩
   clear hU U
   have eh:((((bl a:Nat):Int)-1)/2+1)=(((bl a-1)/2+1:Nat):Int):=by omega
   have e1:(1:Int)*2 ^ ((((bl a:Nat):Int)-1)/2+1).toNat=((2 ^ ((bl a-1)/2+1):Nat):Int):=by
    rw[eh,show(1:Int)=((1:Nat):Int) from rfl,sY,BS]
   have big:2 ^ ((bl a-1)/2+1)<=2 ^ 40:=xT (by decide) (by omega)
   have o1:bl (1:Int).natAbs=1:=by decide
   refine aH λU hU=>?_
   walk_at"l3"
   rw[e1]
   have dy3:((2 ^ ((bl a-1)/2+1):Nat):Int)<=2 ^ 40:=by exact_mod_cast big
   have nn:(0:Int)<=((2 ^ ((bl a-1)/2+1):Nat):Int):=J3 _
   refine⟨⟨by omega,by omega⟩,_,_,⟨rfl,rfl⟩,⟨by decide,by decide,by omega,by omega⟩,?_⟩
   have en:(((2 ^ ((bl a-1)/2+1):Nat):Int)-2).toNat=2 ^ ((bl a-1)/2+1)-2:=by omega
   rw[en]
   refine jh.mk (λi δ=>(∃o1 o2,δ=[some (.int a),o1,o2])/\∀j,j<i->md a (2+j)≠0) ⟨⟨_,_,rfl⟩,λj hj=>absurd hj (by omega)⟩ ?_ ?_
   ·rintro i d δ hd ⟨⟨o1,o2,rfl⟩,inv⟩
    obtain⟨hi,rfl⟩:i<2 ^ ((bl a-1)/2+1)-2/\d=.int (2+(i:Int)):=by
     rw[cI]at hd
     by_cases hi:i<2 ^ ((bl a-1)/2+1)-2
     ·rw[kE hi]at hd
      exact⟨hi,(cu hd).symm⟩
     ·rw[iB (by simpa using hi)]at hd;cases hd
    have bi:bl (2+i)<=60:=by
     have:=(Wd h2 (show 2+i<2 ^ ((bl a-1)/2+1) by omega)).2
     omega
    walk_at"l3"
    refine⟨a,2+i,by rw[show((2+i:Nat):Int)=2+(i:Int) by omega],by omega,by omega,by omega,λ_ x r e l=>?_⟩
    have em:md a (2+i)=r:=vV e l
    refine⟨.int r,rfl,rfl,?_⟩
    rw[jn]
    split
    ·rename_i hz
     have r0:r=0:=by have:=of_decide_eq_true hz;omega
     rw[Wc hi (em.trans r0)]at q
     exact q
    ·rename_i hz
     refine⟨⟨_,_,rfl,rfl⟩,λj hj=>?_⟩
     by_cases ej:j=i
     ·rw[ej,em]
      intro r0
      exact hz (decide_eq_true (by omega))
     ·exact inv j (by omega)
   ·rintro δ ⟨⟨o1,o2,rfl⟩,inv⟩
    rw[bV,dQ]at inv
    rw[Wb h2 inv]at q
    refine hU _ ?_
    walk_at"l3"
    exact q
noncomputable abbrev az3:bG:=λds Q=>∃a:Int,ds=[.int a]/\Q (.bl (decide (4<=a)&&decide (a<=127)&&al a.toNat))
theorem az4(T:Txt K mg t):aS P w K mg base bc 3 t.EW t.EX ["bits"] (bK (az3 )):=by
 refine cq T.Pw ay0 ?_ ?_
 ·intro ds Q h
  obtain⟨a,rfl,q⟩:=h<;>rfl
 ·intro aG A outer s H E hr
  refine⟨_,(aO (bf (tu (af (Di wk wk (af aw) (bv 0) (af aw))) (qv (br ((aC9 T).mono (by decide)) hr rfl T.cC1 T.Pu.kp T.cC2 aX (ah (bv 0) aB)))))),λds Q h=>?_⟩
  obtain⟨a,rfl,q⟩:=h
  walk_at"l3"
  split
  ·rename_i h1
   split
   ·rename_i h2
    refine⟨a.toNat,by rw[xY (by omega)],?_,?_⟩
    ·have:bl a.toNat<=bl 127:=CF (by omega)
     exact dW this (by decide)
    ·have e:(decide (4<=a)&&decide (a<=127)&&al a.toNat)=al a.toNat:=by simp[h1,h2]
     rw[e]at q;exact q
   ·rename_i h2
    have e:(decide (4<=a)&&decide (a<=127)&&al a.toNat)=false:=by simp[h2]
    rw[e]at q;exact q
  ·rename_i h1
   have e:(decide (4<=a)&&decide (a<=127)&&al a.toNat)=false:=by simp[h1]
   rw[e]at q;exact q
noncomputable abbrev aE3:bG:=λds Q=>∃a b:Nat,ds=[.int a,.int b]/\bl a<=1000/\bl b<=1000/\Q (.int (cl a b:Nat))
theorem aE4(T:Txt K mg t):aS P w K mg base bc 1 t.EY t.EZ ["a","b"] (bK (aE3 )):=by
 refine cq T.Px zX ?_ ?_
 ·intro ds Q h
  obtain⟨a,b,rfl,ha,hb,q⟩:=h<;>rfl
 ·intro aG A outer s H E hr
  refine⟨_,(aK (bw (i:=2) zX.nd rfl (ay rfl) aw)
   (aK (lM g6 rfl (jV rfl T.gY (ah (af (mm (bv 1))) aB)) (cZ (i:=3) zX.nd rfl (ay rfl))
    (aO (cY (cU (fG (dq hr)) (af (aL Mx (af (aL Mw (bv 1) (bv 3))) (af aw))) (af aw) (cB _)) (aO (yM (i:=2) zX.nd rfl (ay rfl) (af (aL tD (bv 0) (bv 3))) Dc)) cX)))
   (aO (bf (em 2))))),λds Q h=>?_⟩
  obtain⟨a,b,rfl,ha,hb,q⟩:=h
  refine aH λU hU=>?_
  walk_at"l3"
  refine hU _ ?_
  clear hU U
  refine aH λU hU=>?_
  walk_at"l3"
  simp only[gq]
  refine⟨⟨by omega,by omega⟩,Dx (λi δ=>∃o,δ=[some (.int a),some (.int b),some (.int (Mf.P a b i:Nat)),o]) ⟨none,rfl⟩ ?_ ?_⟩
  ·rintro i δ hi ⟨o,rfl⟩
   walk_at"l3"
   refine⟨by omega,?_⟩
   have Ai:(m6 ((b:Int)/2 ^ ((i:Int)).toNat) 1=1)↔b.testBit i=true:=by
    have h:=Wk b i
    rw[Ki]at h
    rw[<-h,dI]
   split
   ·rename_i hc
    have h:=Wl (a:=a) (Ai.mp hc)
    rw[Ki]at h
    exact⟨⟨by omega,by rw[gq];omega⟩,_,h,rfl⟩
   ·rename_i hc
    exact⟨_,by rw[Wm (λz=>hc (Ai.mpr z))],rfl⟩
  ·rintro δ ⟨o,rfl⟩
   refine hU _ ?_
   walk_at"l3"
   exact q
noncomputable abbrev aH6:List D->List Str->List D->Prop:=λds ns xs=>∃p:Nat,ds=[.int p]/\p∈fM/\ns=fN "bits"++[("products":Str)]/\xs=[.int p,.int (ae (true,p)),.int ((bl (ae (true,p)):Nat)-1),.lst true (aD (fl (true,p))),.lst true (aD (dr (fl (true,p)))),.int (fst (true,p)),.lst true (o8 (fl (true,p)) (dr (fl (true,p))))]
theorem aB6(T:Txt K mg t)(hB:Bm mg base):aS P w K mg base bc 8 t.E1 t.z5 ["self","bits"] (DS [t.jv,t.jw] t.aV aH6):=by
 refine NA T.aC2 T.aB4 O8 (λvs H Q E h=>?_) λA outer s H vs Q E hr h=>?_
 ·obtain⟨x,dx,cm,ds,ns,xs,rfl,_,_,r,⟨p,rfl,_⟩,_⟩:=h
  have:=r.length
  simp at this
  simp[this]
 obtain⟨x,dx,cm,ds,ns,xs,rfl,tb,hx,r,⟨p,rfl,hp,rfl,rfl⟩,q⟩:=h
 obtain rfl:cm=[.int p]:=by
  cases r with
  | int r=>cases r;rfl
 have hm:(true,p)∈aM:=eG _ (BL hp)
 have hF:=dk hm
 refine⟨_,g9 (B5 (B0 (BZ (qE ((az4 T).mono (by decide)) hr rfl T.cC3 T.Pw.kp T.cC4 .nil aX (eK (pv 1) hV)))) (qw KA) B3)
  (g9 (nC (pv 0) (pv 1) rfl)
  (g9 (B9 (i:=2) O8.nd rfl (ay rfl) (vI LN vC (vI Cg (CH (pv 1)) vC)))
  (g9 (B4 (Nt (E:=E0) (i:=1) T.P6 ((Qa T).mono (by decide)) hr T.Po rfl T.uW rfl rfl rfl rfl (eK (pv 0) (eK (pv 2) (eK (Nk rfl rfl T.aB5 hB) hV)))))
  (qw (nC (pv 0) (qE ((aC6 T).mono (by decide)) hr rfl T.cB9 T.Pq.kp T.cC0 .nil aX (eK (yu (pv 0) rfl) (eK (yu (pv 0) rfl) hV))) rfl))))),?_⟩
 refine⟨_,rfl,H,[.int p],λd=>d=.bl true,aa.refl _,.int .nil,⟨p,rfl,by rw[Y4 p hp]⟩,λd v F' H1 A1 hd r9 hf he h3 r nd fr=>?_⟩
 subst hd
 cases r
 refine⟨true,rfl,?_⟩
 refine i9 ?_
 have eD:=r9.get _ _ hx
 refine⟨.int p,rfl,.ref x,rfl,x,t.aV,dx,_,rfl,eD,T.gX,T.xm,by decide,?_⟩
 generalize e2:upd H1 x (HO.ins t.aV dx (eJ "bits" (.int p) []))=H2
 have gi:H2 x=some (.ins t.aV dx [(("bits":Str),.int p)]):=by rw[<-e2,bM];rfl
 have s2:da x H H2:=by rw[<-e2];exact(r9.x (x:=x)).trans (da.upd (C:=x) (dx:=dx) eD rfl)
 have n2:∀p,H2 p=none->H p=none:=λp h=>r9.free (wQ eD (by rw[e2];exact h))
 obtain⟨ps,hP⟩:=tb t.jw (by simp)
 obtain⟨more,GA⟩:=s2.tb _ ps hP
 have bp:bl p<=7:=NM p hp
 have Aj:1<=bl p:=NN p hp
 refine⟨.int p,rfl,rfl,p,rfl,rfl,_,_,rfl,rfl,_,_,rfl,rfl,?_,?_⟩
 ·have o1:bl (1:Int).natAbs=1:=by decide
  rw[gq]
  exact⟨by omega,by omega⟩
 have em:(1:Int)*2 ^ (((bl ((p:Int)).natAbs:Nat):Int)-1).toNat=((ae (true,p):Nat):Int):=by
  rw[gq,show(((bl p:Nat):Int)-1)=((bl p-1:Nat):Int) by omega,show(1:Int)=((1:Nat):Int) from rfl,sY,BS];rfl
 show yl 2 (.int ((1:Int)*2 ^ (((bl ((p:Int)).natAbs:Nat):Int)-1).toNat)) _ _ _
 rw[em]
 refine⟨.ref x,rfl,.int (ae (true,p)),rfl,⟨_,GA⟩,λf k qn pm gP H3 nf GB hk kf m3 hl3=>?_⟩
 refine⟨f,_,_,.int p,GB,rfl,rfl,λoc u gw hu nc o5=>?_⟩
 obtain⟨tm,rfl⟩:∃tm,u=si p tm:=hu
 have kn:=m3.get _ _ gi
 refine⟨x,dx,f,t.aV,"bits",p,ae (true,p),_,oc,_,k,gm (true,p),fl (true,p),fst (true,p),rfl,wR kn (λz=>by rw[z,nf]at gi;cases gi) nc,by decide,⟨T.gX,T.uR,T.xo,T.rW,T.pH,T.xn,T.uS⟩,NI o5 nc hk kf,?_,hF,λH' p1 p2 sx cW GC yy ne xF r6=>?_⟩
 ·refine Ny (n:=3) ⟨rfl,rfl,rfl,by decide,rfl,rfl,by decide,by decide,rfl⟩ gw (λu1 u2=>rfl) λq f A outer s H E hr=>?_
  refine⟨_,eA (bC (af (br (DA ((Qc T).mono (by decide))) hr rfl T.Pr T.Gh.kp T.Pt Dz (ah (af (br ((aE4 T).mono (by decide)) hr rfl T.cC5 T.Px.kp T.cC6 aX (ah (bv 0) (ah (bv 1) aB)))) (ah (bv 2) aB)))) (af aw) (λ_ _=>rfl)),λi j Qd h=>?_⟩
  obtain⟨a,b,rfl,rfl,ha,hb,hq⟩:=h
  walk_at"l3"
  have b1:bl a<=6:=by
   have:bl a<=bl 63:=CF (by omega)
   exact dW this (by decide)
  have b2:bl b<=6:=by
   have:bl b<=bl 63:=CF (by omega)
   exact dW this (by decide)
  have p0:p≠0:=by
   intro z
   rw[z]at Aj
   exact absurd Aj (by decide)
  refine⟨a,b,rfl,by omega,by omega,cl a b,p,rfl,dW (Y5 a b) (by omega),by omega,λz=>p0 z,λ_ x r e l=>⟨by simp[D.pl],.int r,rfl,rfl,r,rfl,?_⟩⟩
  have er:gm (true,p) a b=r:=vV e l
  rw[<-er];exact hq
 ·have gf:H' f=some (.ext (ib _ oc _ f)):=sx.get f _ (λz=>by rw[z]at nf;rw[nf]at gi;cases gi) (by rw[aN o5.symm,bM]) rfl
  have gc:=sx.get _ _ (dR kn nc).symm bM rfl
  refine⟨gf,gc,?_⟩
  have s4:=s2.trans (NH m3 nf nc sx)
  have f1:=n2 _ (zr m3 xF)
  have f2:=n2 _ (zr m3 r6)
  have l1:=GC.rem gf gc
  have l2:=yy.rem gf gc
  have pI:rem H' f (s.heap.objs.size+1) x=some (.ins t.aV dx ((fN "bits").zip (zk p (ae (true,p)) p1 p2 (fst (true,p))))):=by
   rw[fL (λz=>by rw[z,gf]at cW;cases cW) (λz=>by rw[z,gc]at cW;cases cW)];exact cW
  generalize rem H' f (s.heap.objs.size+1)=H4 at s4 l1 l2 pI
  refine⟨.ref x,rfl,x,t.aV,dx,_,.ref p1,rfl,pI,T.gX,T.rW,rfl,.ref x,rfl,x,t.aV,dx,_,.ref p2,rfl,pI,T.gX,T.pH,rfl,H4,[.lst false (aD (fl (true,p))),.lst false (aD (dr (fl (true,p))))],λd=>d=.lst true (o8 (fl (true,p)) (dr (fl (true,p)))),aa.refl _,.shr l1 (jl _) (.shr l2 (jl _) .nil),
   ⟨_,_,rfl,by have:=hF.len;have:=hF.lo;omega,by have:=hF.len;have:=hF.hi;omega,wN _ _,NL _ _,rfl⟩,λd v F' H5 A' hd pJ hf he h3 r nd fr=>?_⟩
  subst hd
  obtain⟨p3,rfl⟩:∃p3,v=.ref p3:=by cases r;exact⟨_,rfl⟩
  have kq:=pJ.get _ _ pI
  have nA:∀{a ws},H4 a=some (.lst ws)->a ∉ A':=λ{a ws} e z=>by rw[fr a z]at e;cases e
  refine⟨.ref x,rfl,x,t.aV,dx,_,rfl,kq,T.gX,T.rX,nk (bD 6) (by decide),?_⟩
  refine q _ (zk p (ae (true,p)) p1 p2 (fst (true,p))++[.ref p3]) (p1::p2::A') ((s4.trans (pJ.x (x:=x))).trans (da.upd (C:=x) (dx:=dx) kq rfl)) (by rw[bM];rfl) rfl ?_ ?_ ?_
  ·exact .int (.int (.int (.own ((l1.same pJ).upd kq (λws z=>by cases z)) rfl (jl _) (.own ((l2.same pJ).upd kq (λws z=>by cases z)) rfl (jl _) (.int ((r.CU (by simp[eL,NK]) (aa.of λb o e=>by cases e)).wO kq (by simp[eL,NK])))))))
  ·exact jD.mpr ⟨by simp[ne];exact nA l1,jD.mpr ⟨nA l2,nd⟩⟩
  ·intro a ha
   rcases cg.mp ha with rfl | ha
   ·exact f1
   ·rcases cg.mp ha with rfl | ha
    ·exact f2
    ·exact s4.free (by rw[pI];simp) (fr a ha)
noncomputable abbrev aE5(cb cp:Addr):bG:=λds Q=>∃m:Bool × Nat,ds=[cL m]/\m∈aM/\Q (fD cb cp m)
theorem aE6(T:Txt K mg t)(hB:Bm mg base):aS P w K mg base bc 10 t.E2 t.E3 ["_law_told_here"] (wD [t.jv,t.jw] (bK (aE5 t.aV t.aY))):=by
 refine Nz T.Py aD9 ?_ ?_
 ·intro ds Q h
  obtain⟨m,rfl,hm,q⟩:=h<;>rfl
 ·intro aG A outer s H E hT hr
  refine⟨_,(aK (cY (lj (bC (bv 0) (af aw) (λ_ _=>rfl))) (aO (bf (NC hT T.xk ((aB6 T hB).mono (by decide)) hr rfl T.xC T.aC3 aX (ah (bC (bv 0) (af aw) (λ_ _=>rfl)) aB)))) cX)
   (aO (bf (NC hT T.xu ((az2 T hB).mono (by decide)) hr rfl T.xE T.aA3 aX (ah (bC (bv 0) (af aw) (λ_ _=>rfl)) aB))))),λds Q h=>?_⟩
  obtain⟨m,rfl,hm,q⟩:=h
  unfold cL at *
  refine aH λU hU=>?_
  walk_at"l3"
  obtain⟨b,n⟩:=m
  cases b with
  | true =>
   refine⟨_,rfl,true,rfl,?_⟩
   rw[if_pos rfl]
   refine⟨_,rfl,_,_,⟨n,rfl,zx hm,rfl,rfl⟩,?_⟩
   rw[Zb];exact q
  | false =>
   refine⟨_,rfl,false,rfl,?_⟩
   rw[if_neg (by decide)]
   refine hU _ ?_
   walk_at"l3"
   refine⟨_,rfl,_,_,⟨n,rfl,Zd hm,rfl,rfl⟩,?_⟩
   rw[Zc];exact q
noncomputable abbrev aH7:bG:=λds Q=>∃(m:Bool × Nat) (a b:Nat),ds=[cL m,.int a,.int b]/\0<m.2/\Q (.int (gp m a b:Nat))
theorem aH8(T:Txt K mg t):aS P w K mg base bc 1 t.E4 t.E5 ["_law_told_here","_law_a","_law_b"] (bK (aH7 )):=by
 refine cq T.Pz aF7 ?_ ?_
 ·intro ds Q h
  obtain⟨m,a,b,rfl,h0,q⟩:=h<;>rfl
 ·intro aG A outer s H E hr
  refine⟨_,(aK (cY (lj (bC (bv 0) (af aw) (λ_ _=>rfl))) (aO (bf (aL yS (bv 1) (bv 2)))) cX)
   (aO (bf (aL dJ (af (aL eT (bv 1) (bv 2))) (bC (bv 0) (af aw) (λ_ _=>rfl)))))),λds Q h=>?_⟩
  obtain⟨m,a,b,rfl,h0,q⟩:=h
  unfold cL at *
  obtain⟨k,n⟩:=m
  refine aH λU hU=>?_
  walk_at"l3"
  cases k with
  | true =>
   refine⟨_,rfl,true,rfl,?_⟩
   rw[if_pos rfl,qH]
   exact q
  | false =>
   refine⟨_,rfl,false,rfl,?_⟩
   rw[if_neg (by decide)]
   refine hU _ ?_
   walk_at"l3"
   refine⟨_,rfl,?_⟩
   refine⟨by omega,?_⟩
   have e:((gp (false,n) a b:Nat):Int)=((a:Int)+b)%n:=by
    show(((a+b)%n:Nat):Int)=_
    rw[sF,Kk]
   rw[<-e];exact q
noncomputable abbrev aE7:bG:=λds Q=>∃(m:Bool × Nat) (a b:Nat),ds=[cL m,.int a,.int b]/\m∈aM/\a<ae m/\b<ae m/\Q (.int (gm m a b:Nat))
theorem aE8(T:Txt K mg t):aS P w K mg base bc 1 t.E6 t.E7 ["_law_told_here","_law_a","_law_b"] (bK (aE7 )):=by
 refine cq T.PB ui ?_ ?_
 ·intro ds Q h
  obtain⟨m,a,b,rfl,hm,ha,hb,q⟩:=h<;>rfl
 ·intro aG A outer s H E hr
  refine⟨_,(aK (cY (wa (lj (bC (bv 0) (af aw) (λ_ _=>rfl)))) (aO (bf (aL dJ (af (aL ik (bv 1) (bv 2))) (bC (bv 0) (af aw) (λ_ _=>rfl))))) cX)
   (aK (bw (i:=3) ui.nd rfl (ay rfl) aw)
   (aK (yN g6 (cU Mz (bv 2) (af aw) (cB _))
    (aK (cY (cU (fG (dq hr)) (af (aL Mx (bv 2) (af aw))) (af aw) (cB _)) (aO (bw (i:=3) ui.nd rfl (ay rfl) (aL yS (bv 3) (bv 1)))) cX)
    (aK (bw (i:=1) ui.nd rfl (ay rfl) (aL tD (bv 1) (af aw)))
    (aK (cY (cU (fG (dq hr)) (af (mm (bv 1))) (af (mm (bC (bv 0) (af aw) (λ_ _=>rfl)))) (cB _)) (aO (bw (i:=1) ui.nd rfl (ay rfl) (aL yS (bv 1) (bC (bv 0) (af aw) (λ_ _=>rfl))))) cX)
    (aO (bw (i:=2) ui.nd rfl (ay rfl) (aL Mw (bv 2) (af aw))))))))
   (aO (bf (em 3)))))),λds Q h=>?_⟩
  obtain⟨m,a,b,rfl,hm,ha,hb,q⟩:=h
  unfold cL at *
  obtain⟨k,n⟩:=m
  refine aH λU hU=>?_
  walk_at"l3"
  have hF:=dk hm
  cases k with
  | false =>
   refine⟨_,rfl,false,rfl,?_⟩
   have uX:n<=64:=hF.hi
   have l2:2<=n:=hF.lo
   have fH:a<n:=ha
   have ze:b<n:=hb
   rw[if_pos (by decide)]
   refine⟨i6.ok (.inr ⟨by omega,by omega⟩),_,rfl,by omega,?_⟩
   have e:((gm (false,n) a b:Nat):Int)=(a:Int)*b%n:=by
    show((a*b%n:Nat):Int)=_
    rw[sF,ya]
   rw[<-e];exact q
  | true =>
   refine⟨_,rfl,true,rfl,?_⟩
   rw[if_neg (by decide)]
   have hp:=zx hm
   have bp:=NM n hp
   have Aj:=NN n hp
   have p0:n≠0:=λz=>by rw[z,kQ]at Aj;omega
   have C8:bl a<bl n:=by
    have:=dy.mpr (show a<2 ^ (bl n-1) from ha)
    omega
   have hy0:bl b<bl n:=by
    have:=dy.mpr (show b<2 ^ (bl n-1) from hb)
    omega
   refine hU _ ?_
   clear hU U
   refine aH λU hU=>?_
   walk_at"l3"
   refine hU _ ?_
   clear hU U
   refine aH λU hU=>?_
   walk_at"l3"
   refine⟨λm δ=>∃(x y z:Nat),δ=[some (.tup [.bl true,.int n]),some (.int (x:Nat)),some (.int (y:Nat)),some (.int (z:Nat))]/\z ^^^ md (cl x y) n=gm (true,n) a b/\bl x<bl n/\bl y<bl n/\m=bl y,
    ⟨bl b,a,b,0,rfl,by rw[nj];rfl,C8,hy0,rfl⟩,?_⟩
   rintro m δ ⟨x,y,z,rfl,inv,hx,hy,rfl⟩
   walk_at"l3"
   split
   ·rename_i GD
    have Qb:=fw (show y≠0 by omega)
    have Ak:bl (y/2)=bl y-1:=V8 y
    have e1:((x:Int)*2 ^ (1:Int).toNat)=((2*x:Nat):Int):=by
     show(x:Int)*(2:Int) ^ 1=_
     omega
    have e2:((y:Int)/2 ^ (1:Int).toNat)=((y/2:Nat):Int):=by
     show(y:Int)/(2:Int) ^ 1=_
     omega
    have a1:m6 (y:Int) 1=((y%2:Nat):Int):=by
     rw[show(1:Int)=((1:Nat):Int) from rfl,LD,Nat.and_one_is_mod]
    have tm:=Zf (y:=y) p0 hx
    have tb:=Zg p0 hx
    clear hU
    refine aH λU hU=>?_
    walk_at"l3"
    have fin:∀z':Nat,z'=z ^^^ (if y%2=1 then x else 0)->U [some (.tup [.bl true,.int n]),some (.int x),some (.int y),some (.int z')]:=by
     intro z' hz
     have cJ9:z' ^^^ md (cl (if bl (2*x)=bl n then 2*x ^^^ n else 2*x) (y/2)) n=gm (true,n) a b:=by
      rw[hz,pY,<- tm];exact inv
     refine hU _ ?_
     clear hU
     refine aH λU hU=>?_
     walk_at"l3"
     refine⟨⟨by decide,by simp only[gq];omega⟩,hU _ ?_⟩
     clear hU
     rw[e1]
     refine aH λU hU=>?_
     walk_at"l3"
     have last:∀x':Nat,x'=(if bl (2*x)=bl n then 2*x ^^^ n else 2*x)->U [some (.tup [.bl true,.int n]),some (.int (x':Nat)),some (.int y),some (.int z')]:=by
      intro x' cW
      refine hU _ ?_
      walk_at"l3"
      exact⟨by decide,bl (y/2),by omega,x',y/2,z',⟨rfl,e2,rfl⟩,by rw[cW];exact cJ9,by rw[cW];exact tb,by omega,rfl⟩
     refine⟨_,rfl,?_⟩
     show(if(((bl (((2*x:Nat):Int)).natAbs:Nat):Int)=((bl ((n:Int)).natAbs:Nat):Int))then _ else _)
     rw[gq,gq]
     split
     ·rename_i hc
      refine⟨_,rfl,?_⟩
      have g:=last (2*x ^^^ n) (by rw[if_pos (by omega)])
      rw[<-qH]at g
      exact g
     ·rename_i hc
      exact last (2*x) (by rw[if_neg (by omega)])
    rw[a1]
    split
    ·rename_i Ai
     have odd:y%2=1:=by omega
     have g:=fin (z ^^^ x) (by rw[if_pos odd])
     rw[<-qH]at g
     exact g
    ·rename_i Ai
     exact fin z (by rw[if_neg (by omega),jF])
   ·rename_i GD
    have hy:y=0:=by omega
    subst hy
    rw[VS,wU (by rw[kQ];exact fw p0),jF]at inv
    subst inv
    refine hU _ ?_
    walk_at"l3"
    exact q
noncomputable abbrev aJ2:bG:=λds Q=>∃(m:Bool × Nat) (xs ys:List Nat),ds=[cL m,.lst false (au xs),.lst false (au ys)]/\m∈aM/\xs.length=ys.length/\xs.length<=64/\(∀x∈xs,x<ae m)/\(∀y∈ys,y<ae m)/\Q (.int (gd m xs ys:Nat))
theorem Al(T:Txt K mg t):aS P w K mg base bc 2 t.E8 t.E9 ["_law_told_here","_law_xs","_law_ys"] (bK (aJ2 )):=by
 refine cq T.xg zY ?_ ?_
 ·intro ds Q h
  obtain⟨m,xs,ys,rfl,hm,hl,h64,hx,hy,q⟩:=h<;>rfl
 ·intro aG A outer s H E hr
  refine⟨_,(aK (bw (i:=3) zY.nd rfl (ay rfl) aw)
   (aK (lM g6 rfl (wA rfl T.xB (ah (bv 1) (ah (bv 2) aB))) (oV (i1:=4) (i2:=5) rfl zY.nd rfl (ay rfl) rfl (ay rfl))
    (aO (bw (i:=3) zY.nd rfl (ay rfl) (br ((aH8 T).mono (by decide)) hr rfl T.aI8 T.Pz.kp T.aI9 aX (ah (bv 0) (ah (bv 3) (ah (af (br ((aE8 T).mono (by decide)) hr rfl T.aG4 T.PB.kp T.aG5 aX (ah (bv 0) (ah (bv 4) (ah (bv 5) aB))))) aB)))))))
   (aO (bf (em 3))))),λds Q h=>?_⟩
  obtain⟨m,xs,ys,rfl,hm,hl,h64,hx,hy,q⟩:=h
  refine aH λU hU=>?_
  walk_at"l3"
  refine hU _ ?_
  clear hU U
  refine aH λU hU=>?_
  walk_at"l3"
  refine⟨_,_,rfl,rfl,?_⟩
  refine jh.mk (λi δ=>∃o1 o2,δ=[some (cL m),some (.lst false (au xs)),some (.lst false (au ys)),some (.int (((eY (gm m) xs ys).take i).foldl (gp m) 0:Nat)),o1,o2]) ⟨none,none,rfl⟩ ?_ ?_
  ·rintro i d δ hd ⟨o1,o2,rfl⟩
   obtain⟨hi,hj,rfl⟩:∃(hi:i<xs.length) (hj:i<ys.length),d=.tup [.int (xs[i]:Nat),.int (ys[i]:Nat)]:=by
    unfold dD at hd
    rw[dj,dj,BF]at hd
    by_cases hi:i<xs.length
    ·have hj:i<ys.length:=by omega
     rw[sG,aQ hi,aQ hj]at hd
     exact⟨hi,hj,(cu hd).symm⟩
    ·rw[iB (by simp;omega)]at hd;cases hd
   have eD:=hx xs[i] (cN _)
   have GD:=hy ys[i] (cN _)
   walk_at"l3"
   have hF:=dk hm
   have t1:(cL m).sh=cL m:=rfl
   have t2:(cL m).pl=true:=rfl
   have m0:0<m.2:=cV m hm
   refine⟨m,xs[i],ys[i],rfl,hm,eD,GD,m,_,gm m xs[i] ys[i],rfl,m0,by simp[D.pl],_,_,?_,rfl,rfl⟩
   rw[List.take_succ,BP,sG,aQ hi,aQ hj];rfl
  ·rintro δ ⟨o1,o2,rfl⟩
   refine hU _ ?_
   walk_at"l3"
   have e:(dD (au xs) (au ys)).length=xs.length:=by unfold dD;rw[qe,fJ,fJ];omega
   rw[e,Bz (by rw[qe];omega)]
   exact q
noncomputable abbrev aD6:bG:=λds Q=>∃(m:Bool × Nat) (xs:List Nat) (T:List (List Nat)) (w:Nat),ds=[cL m,.lst false (au xs),.lst false (aJ false T),.int w]/\m∈aM/\AllLt (ae m) xs/\xs.length<=64/\T.length=xs.length/\w<=1000/\RT (ae m) w T/\Q (.lst true (au (jq m xs T w)))
theorem Qe(T:Txt K mg t):aS P w K mg base bc 3 t.Fb t.Fc ["_law_told_here","_law_xs","_law_table_here","_law_wide"] (bK (aD6 )):=by
 refine cq T.Gi aD2 ?_ ?_
 ·intro ds Q h
  obtain⟨m,xs,G,wi,rfl,hm,hx,wj,hG,hw,hR,q⟩:=h<;>rfl
 ·intro aG A outer s H E hr
  refine⟨_,(aO (bf (eE [("_law_told_here",0),("_law_xs",1),("_law_table_here",2)] ["_law_k"] rfl (jV rfl T.gY (ah (bv 3) aB)) (λ_ _ _ _=>(cZ (i:=3) (show(["_law_told_here","_law_xs","_law_table_here","_law_k"]:List Str).Nodup by decide +kernel) rfl (bg rfl) (by decide) (ay rfl))) (λ_ _ _ _=>dB) (by exact λ_ _ _ _=>(br ((Al T).mono (by decide)) hr rfl T.z7 T.xg.kp T.z8 aX (ah (bv 0) (ah (bv 1) (ah (af (eE [("_law_k",3)] ["_law_row"] rfl (iK (bv 2)) (λ_ _ _ _=>(cZ (i:=1) (show(["_law_k","_law_row"]:List Str).Nodup by decide +kernel) rfl (ay (lookup_relabel_local rfl)) (by decide) (bg (lookup_relabel_local rfl)))) (λ_ _ _ _=>dB) (λ_ _ _ _=>(eA (bC (bv 1) (bv 0) (λ_ _=>rfl)))) rfl ⟨rfl,trivial⟩ (λ_=>by repeat' (first | exact trivial | refine⟨.inl rfl,?_⟩ | refine⟨.inr (.inl rfl),?_⟩ | refine⟨.inr (.inr ⟨_,rfl⟩),?_⟩)) (λ_=>⟨⟨rfl,.inl rfl,.inl rfl,_,rfl,rfl⟩,trivial⟩) rfl (by decide +kernel))) aB))))) rfl ⟨rfl,⟨rfl,⟨rfl,trivial⟩⟩⟩ (λ_=>by repeat' (first | exact trivial | refine⟨.inl rfl,?_⟩ | refine⟨.inr (.inl rfl),?_⟩ | refine⟨.inr (.inr ⟨_,rfl⟩),?_⟩)) (λ_=>⟨⟨rfl,.inl rfl,.inl rfl,_,rfl,rfl⟩,⟨⟨rfl,.inl rfl,.inl rfl,_,rfl,rfl⟩,⟨⟨rfl,.inl rfl,.inl rfl,_,rfl,rfl⟩,trivial⟩⟩⟩) rfl (by decide +kernel)))),λds Q h=>?_⟩
  obtain⟨m,xs,G,wi,rfl,hm,hx,wj,hG,hw,hR,q⟩:=h
  walk_at"l3"
  refine⟨⟨by omega,by omega⟩,eC (aP wi) (λ(i:Nat)=>D.int (i:Int)) (λk=>D.int ((gd m xs (G.map λr=>r.getD k 0):Nat):Int)) (rM _ rfl) iN (λk hk=>?_) (.inr λ_ _=>rfl) (by rw[dQ,sL];omega) ?_⟩
  ·have hk:=dE.mp hk
   walk_at"l3"
   refine eC G (λr=>D.lst false (au r)) (λr=>D.int ((r.getD k 0:Nat):Int)) (by rw[dM];rfl) (λa b h=>rN a b h) (λr bh=>?_) (.inr λr _=>rfl) (by rw[sL];omega) ?_
   ·walk_at"l3"
    have hl:=(hR r bh).1
    exact⟨.int (r.getD k 0:Nat),by rw[kg (by omega) (by omega),g5],rfl,rfl⟩
   ·refine⟨m,xs,G.map λr=>r.getD k 0,?_,hm,by rw[bV,hG],wj,hx,λy hy=>?_,?_⟩
    ·rw[dj (G.map _),cS,di,cS];rfl
    ·obtain⟨r,bh,rfl⟩:=cx.mp hy
     exact(hR r bh).2.getD (by have:=(dk hm).lo;omega) k
    ·exact⟨by rw[mq,fo],rfl⟩
  ·unfold jq at q
   rw[dj,cS]at q
   exact q
noncomputable def eU(ns:List Int)(k:Int):Int:=if k<ns.length then ns.getD k.toNat 0 else(k*k*48271+ns.length*7919)%65537
noncomputable abbrev aH9:bG:=λds Q=>∃(ns:List Int) (k:Int),ds=[.fz (aD ns),.int k]/\0<=k/\k<=1000000/\Q (.int (eU ns k))
theorem m4(T:Txt K mg t):aS P w K mg base bc 1 t.Fd t.Fe ["_law_script","_law_k"] (bK (aH9 )):=by
 refine cq T.kl aF8 ?_ ?_
 ·intro ds Q h
  obtain⟨ns,k,rfl,hk,hk2,q⟩:=h<;>rfl
 ·intro aG A outer s H E hr
  refine⟨_,(aK (cY (cU yT (bv 1) (af (iq (j6) (by rfl) T.km jQ (ah (bv 0) aB))) (cB _)) (aO (bf (eA (bC (bv 0) (bv 1) (λ_ _=>rfl))))) cX)
   (aO (bf (aL dJ (af (aL eT (af (aL ik (af (aL ik (bv 1) (bv 1))) (af aw))) (af (aL ik (af (iq (j6) (by rfl) T.km jQ (ah (bv 0) aB))) (af aw))))) (af aw))))),λds Q h=>?_⟩
  obtain⟨ns,k,rfl,hk,hk2,q⟩:=h
  unfold eU at q
  refine aH λU hU=>?_
  walk_at"l3"
  split
  ·rename_i h
   rw[if_pos h]at q
   exact⟨_,j9 hk h,rfl,q⟩
  ·rename_i h
   rw[if_neg h]at q
   refine hU _ ?_
   walk_at"l3"
   exact⟨i6.ok (.inl ⟨by omega,by omega⟩),i6.ok (.inr ⟨by decide,by decide⟩),i6.ok (.inr ⟨by decide,by decide⟩),by decide,q⟩
noncomputable abbrev aI0:bG:=λds Q=>∃m:Bool × Nat,ds=[cL m]/\bl m.2<=1000/\1<=bl m.2/\Q (.int (ae m:Nat))
theorem xG(T:Txt K mg t):aS P w K mg base bc 1 t.Ff t.Fg ["_law_told_here"] (bK (aI0 )):=by
 refine cq T.uQ aF9 ?_ ?_
 ·intro ds Q h
  obtain⟨m,rfl,h1,h2,q⟩:=h<;>rfl
 ·intro aG A outer s H E hr
  refine⟨_,(aK (cY (lj (bC (bv 0) (af aw) (λ_ _=>rfl))) (aO (bf (aL tD (af aw) (af (aL jY (af (mm (bC (bv 0) (af aw) (λ_ _=>rfl)))) (af aw)))))) cX)
   (aO (bf (eA (bC (bv 0) (af aw) (λ_ _=>rfl)))))),λds Q h=>?_⟩
  obtain⟨m,rfl,h1,h2,q⟩:=h
  unfold cL at *
  refine aH λU hU=>?_
  walk_at"l3"
  obtain⟨b,n⟩:=m
  cases b with
  | true =>
   refine⟨_,rfl,true,rfl,?_⟩
   rw[if_pos rfl]
   refine⟨_,rfl,?_⟩
   have o1:bl (1:Int).natAbs=1:=by decide
   have e:(1:Int)*2 ^ (((bl ((n:Int)).natAbs:Nat):Int)-1).toNat=((ae (true,n):Nat):Int):=by
    have hW:1<=bl n:=h2
    rw[gq,show(((bl n:Nat):Int)-1)=((bl n-1:Nat):Int) by omega,show(1:Int)=((1:Nat):Int) from rfl,sY,BS];rfl
   refine⟨?_,by rw[e];exact q⟩
   rw[gq]
   have iG:bl n<=1000:=h1
   have hW:1<=bl n:=h2
   exact⟨by omega,by omega⟩
  | false =>
   refine⟨_,rfl,false,rfl,?_⟩
   rw[if_neg (by decide)]
   refine hU _ ?_
   walk_at"l3"
   exact⟨_,rfl,rfl,q⟩
theorem cp7{tc:et}{t u:bX}{En:qO}{δ:Dl}(h:∀W:Bool->Dl->Prop,(∀ag,t En ag->W true ag)->(∀ag,u En ag->W false ag)->tc δ W):lK tc t u En δ:=h (λb ag=>if b=true then t En ag else u En ag) (λ_ z=>by rw[if_pos rfl];exact z) (λ_ z=>by rw[if_neg (by decide)];exact z)
noncomputable abbrev aE9:bG:=λds Q=>∃(m:Bool × Nat) (ns:List Int) (b r w y:Nat),ds=[cL m,.fz (aD ns),.int b,.int r,.int w,.int y]/\m∈aM/\b<=1000/\r<=64/\1<=w/\w<=64/\∀T:List (List Nat),T.length=r->RT (ae m) w T->Q (.lst true (aJ true T))
theorem aF0(T:Txt K mg t):aS P w K mg base bc 4 t.Fh t.Fj ["_law_told_here","_law_script","_law_begin","_law_rows","_law_wide","_law_way"] (bK (aE9 )):=by
 refine cq T.PF ur ?_ ?_
 ·intro ds Q h
  obtain⟨m,ns,b,r,wi,y,rfl,hm,hb,bh,Qf,hw,q⟩:=h<;>rfl
 ·intro aG A outer s H E hr
  refine⟨_,(aK (bw (i:=6) ur.nd rfl (ay rfl) (gI fh))
   (aK (lM g6 rfl (jV rfl T.gY (ah (bv 3) aB)) (cZ (i:=7) ur.nd rfl (bg rfl))
    (aK (zI (i:=8) ur.nd rfl (ay rfl) [("_law_script",1),("_law_told_here",0),("_law_begin",2),("_law_i",7),("_law_wide",4)] ["_law_k"] rfl (jV rfl T.gY (ah (bv 4) aB)) (λ_ _ _ _=>(cZ (i:=5) (show(["_law_script","_law_told_here","_law_begin","_law_i","_law_wide","_law_k"]:List Str).Nodup by decide +kernel) rfl (ay (lookup_relabel_local rfl)) (by decide) (bg (lookup_relabel_local rfl)))) (λ_ _ _ _=>dB) (λ_ _ _ _=>(aL dJ (af (br ((m4 T).mono (by decide)) hr rfl T.mY T.kl.kp T.mZ aX (ah (bv 0) (ah (af (aL eT (af (aL eT (bv 2) (af (aL ik (bv 3) (bv 4))))) (bv 5))) aB)))) (af (br ((xG T).mono (by decide)) hr rfl T.xh T.uQ.kp T.xi aX (ah (bv 1) aB))))) rfl ⟨rfl,⟨rfl,⟨rfl,⟨rfl,⟨rfl,trivial⟩⟩⟩⟩⟩ (λ_=>by repeat' (first | exact trivial | refine⟨.inl rfl,?_⟩ | refine⟨.inr (.inl rfl),?_⟩ | refine⟨.inr (.inr ⟨_,rfl⟩),?_⟩)) (λ_=>⟨⟨rfl,.inl rfl,.inl rfl,_,rfl,rfl⟩,⟨⟨rfl,.inl rfl,.inl rfl,_,rfl,rfl⟩,⟨⟨rfl,.inl rfl,.inl rfl,_,rfl,rfl⟩,⟨⟨rfl,.inl rfl,.inl rfl,_,rfl,rfl⟩,⟨⟨rfl,.inl rfl,.inl rfl,_,rfl,rfl⟩,trivial⟩⟩⟩⟩⟩) rfl (by decide +kernel))
    (aK (cY (cU (fG (dq hr)) (af (aL dJ (bv 5) (af aw))) (af aw) (cB _)) (aO (zI (i:=8) ur.nd rfl (ay rfl) [] ["_law_x"] rfl (iK (bv 8)) (λ_ _ _ _=>(cZ (i:=0) (show(["_law_x"]:List Str).Nodup by decide +kernel) rfl (ay (lookup_relabel_local rfl)) (by decide) (bg (lookup_relabel_local rfl)))) (λ_ _ _ _=>dB) (λ_ _ _ _=>(aL dJ (bv 0) (af aw))) rfl trivial (λ_=>by repeat' (first | exact trivial | refine⟨.inl rfl,?_⟩ | refine⟨.inr (.inl rfl),?_⟩ | refine⟨.inr (.inr ⟨_,rfl⟩),?_⟩)) (λ_=>trivial) rfl (by decide +kernel))) cX)
    (aK (cY (PW.pt (Mg (cU (fG (dq hr)) (af (aL dJ (af (aL qS (bv 5) (af aw))) (af aw))) (af aw) (cB _)) (Mg (cU Mz (bv 7) (af aw) (cB _)) (Td (cU (fG (dq hr)) (af (aL dJ (af (aL qS (af (br ((m4 T).mono (by decide)) hr rfl T.mY T.kl.kp T.mZ aX (ah (bv 1) (ah (af (aL eT (bv 2) (af (aL ik (bv 7) (bv 4))))) aB)))) (af aw))) (af aw))) (af aw) (cB _)))))) (aO (bw (i:=8) ur.nd rfl (ay rfl) (br ((Qe T).mono (by decide)) hr rfl T.PC T.Gi.kp T.PD aX (ah (bv 0) (ah (zL (ah (bC (bv 8) (af aw) (λ_ _=>rfl)) (ah (bC (bv 8) (af (aL jY (bv 4) (af aw))) (λ_ _=>rfl)) aB))) (ah (zL (ah (bC (bv 6) (af aw) (λ_ _=>rfl)) (ah (bC (bv 6) (af (aL jY (bv 7) (af aw))) (λ_ _=>rfl)) aB))) (ah (bv 4) aB))))))) cX)
    (aO (Dr (i:=6) rfl (by first | exact ay rfl | exact bg (ay rfl)) (em 8)))))))
   (aO (bf (em 6))))),λds Q h=>?_⟩
  obtain⟨m,ns,b,r,wi,y,rfl,hm,hb,bh,Qf,hw,q⟩:=h
  have iF:=(dk hm).lo
  have GF:=zA m hm
  have Am:∀z:Int,z%(ae m:Int)=(((z%(ae m:Int)).toNat:Nat):Int):=λz=>by
   have n0:=kF z (show(ae m:Int)≠0 by omega)
   omega
  have An:∀z:Int,(z%(ae m:Int)).toNat<ae m:=λz=>by
   have n1:=kG z (show(0:Int)<(ae m:Int) by omega)
   omega
  refine aH λU hU=>?_
  walk_at"l3"
  refine⟨by decide,hU _ ?_⟩
  clear hU U
  refine aH λU hU=>?_
  walk_at"l3"
  refine⟨⟨by omega,by omega⟩,Dx (λi δ=>∃(G:List (List Nat)) (o1 o2:Option D),δ=[some (cL m),some (.fz (aD ns)),some (.int b),some (.int r),some (.int wi),some (.int y),some (.lst true (aJ true G)),o1,o2]/\G.length=i/\RT (ae m) wi G) ⟨[],_,_,rfl,rfl,λ_ h=>nomatch h⟩ ?_ ?_⟩
  ·rintro i δ hi ⟨G,o1,o2,rfl,hG,hR⟩
   simp only[gN,iE,iD]
   clear hU
   have iw:i*wi<=64*64:=Nat.mul_le_mul (by omega) hw
   have eiw:(i:Int)*(wi:Int)=((i*wi:Nat):Int):=by rw[ya]
   refine aH λU hU=>?_
   walk_at"l3"
   refine⟨⟨by omega,by omega⟩,eC (aP wi) (λ(i:Nat)=>D.int (i:Int)) (λk=>D.int (((eU ns ((b:Int)+(i:Int)*(wi:Int)+(k:Int))%(ae m:Int)).toNat:Nat):Int)) (rM _ rfl) iN (λk hk=>?_) (.inr λ_ _=>rfl) (by rw[dQ,sL];omega) ?_⟩
   ·have hk:=dE.mp hk
    walk_at"l3"
    refine⟨i6.ok (.inl ⟨by omega,by omega⟩),ns,_,rfl,by omega,by omega,m,rfl,by omega,by omega,?_⟩
    dsimp only
    exact⟨by omega,Am _⟩
   obtain⟨row,er,m5,pK⟩:∃wd:List Nat,((aP wi).map λ(k:Nat)=>D.int (((eU ns ((b:Int)+(i:Int)*(wi:Int)+(k:Int))%(ae m:Int)).toNat:Nat):Int))=au wd/\AllLt (ae m) wd/\wd.length=wi:=by
    refine⟨(aP wi).map λ(k:Nat)=>(eU ns ((b:Int)+(i:Int)*(wi:Int)+(k:Int))%(ae m:Int)).toNat,by rw[dj,cS];rfl,λa ha=>?_,by simp⟩
    obtain⟨k,_,rfl⟩:=cx.mp ha
    exact An _
   rw[er]
   refine hU _ ?_
   clear hU
   refine aH λU hU=>?_
   walk_at"l3"
   have fin:∀row:List Nat,AllLt (ae m) row->row.length=wi->U [some (cL m),some (D.fz (aD ns)),some (D.int b),some (D.int r),some (D.int wi),some (D.int y),some (D.lst true (aJ true G)),some (D.int i),some (D.lst true (au row))]:=by
    clear er m5 pK row
    intro row m5 pK
    refine hU _ ?_
    clear hU
    refine aH λU hU=>?_
    have fin2:∀row:List Nat,AllLt (ae m) row->row.length=wi->U [some (cL m),some (D.fz (aD ns)),some (D.int b),some (D.int r),some (D.int wi),some (D.int y),some (D.lst true (aJ true G)),some (D.int i),some (D.lst true (au row))]:=by
     clear m5 pK row
     intro row m5 pK
     refine hU _ ?_
     walk_at"l3"
     refine⟨⟨_,rfl⟩,by omega,G++[row],_,_,⟨D1 true G [row],rfl,rfl⟩,by rw[iQ,hG];rfl,hR.app λx hx=>?_⟩
     rw[iU]at hx
     rw[hx];exact⟨pK,m5⟩
    refine cp7 λW wt wf=>?_
    have GG:∀z:Bool,z=false->W z [some (cL m),some (D.fz (aD ns)),some (D.int (b:Nat)),some (D.int r),some (D.int wi),some (D.int y),some (D.lst true (aJ true G)),some (D.int i),some (D.lst true (au row))]:=λz hz=>by
     subst hz
     refine wf _ ?_
     walk_at"l3"
     exact fin2 row m5 pK
    dsimp only[ nS,lJ,nU,lK,dT,jg,jT,jU,dC,kZ,lF,lC,ly,lD,nR,jZ,oB,mi,oE,oF,nJ,nK,nL,nM,nN,nO,nQ,lh,me,mf,lU,n9,lW,oa,og,oh,oi,oj,om,iI,e8,oo,oq,ot,ou,lX,lY,ji,ow,oy,gN,oG,oA,nV,nX,nY,nZ,n5,n6,oH,oI,lQ,ig,eB,gg,fE,pZ,nh,iC,sH,lH,ie,gJ,mh,oM,oO,oQ,rF,iM,oW,mx,oS,gM,rJ,rG,rH,cH,iS,nt,ni,gZ,qi,aT,qj,qk,iD,iE,ql,exists_eq_left',exists_eq_left,D.bl.injEq,D.int.injEq,D.lst.injEq,D.fz.injEq,D.str.injEq,D.tup.injEq,qm,and_true,true_and,dh,nr,jG,kC,qU,qV,qW,qX,qY,qZ,fB,iJ,mr,q9,rf,rh,rj,rk,di,je,mq,q0,q5,q8,eL,kX,sI,sJ,pS,fo,qg,qh,pU,rp,rq,rz,rA,rB,rC,rD,jm,j8,mv,gL,mw,rm,rl,oJ,rn,jn,oK,if_true,sM,if_false,reduceIte,rE,decide_eq_true_eq,fJ,my,ka,mB,nW,oY,mI,oU,mE,mF,o6,mK,pj,dM,rP,iO,rQ,pE,mU,mT,pF]
    walk_at"l3"
    refine⟨qR (by decide) (by decide),by decide,?_⟩
    split
    ·split
     ·rename_i h0
      refine⟨i6.ok (.inl ⟨by omega,by omega⟩),ns,_,rfl,by omega,by omega,?_⟩
      dsimp only
      refine⟨qR (by decide) (by decide),by decide,?_⟩
      cases hc:decide (eU ns ((b:Int)+(i:Int)*(wi:Int))/64%2=1)with
      | false=>exact GG _ rfl
      | true =>
       refine wt _ ?_
       dsimp only[ nS,lJ,nU,lK,dT,jg,jT,jU,dC,kZ,lF,lC,ly,lD,nR,jZ,oB,mi,oE,oF,nJ,nK,nL,nM,nN,nO,nQ,lh,me,mf,lU,n9,lW,oa,og,oh,oi,oj,om,iI,e8,oo,oq,ot,ou,lX,lY,ji,ow,oy,gN,oG,oA,nV,nX,nY,nZ,n5,n6,oH,oI,lQ,ig,eB,gg,fE,pZ,nh,iC,sH,lH,ie,gJ,mh,oM,oO,oQ,rF,iM,oW,mx,oS,gM,rJ,rG,rH,cH,iS,nt,ni,gZ,qi,aT,qj,qk,iD,iE,ql,exists_eq_left',exists_eq_left,D.bl.injEq,D.int.injEq,D.lst.injEq,D.fz.injEq,D.str.injEq,D.tup.injEq,qm,and_true,true_and,dh,nr,jG,kC,qU,qV,qW,qX,qY,qZ,fB,iJ,mr,q9,rf,rh,rj,rk,di,je,mq,q0,q5,q8,eL,kX,sI,sJ,pS,fo,qg,qh,pU,rp,rq,rz,rA,rB,rC,rD,jm,j8,mv,gL,mw,rm,rl,oJ,rn,jn,oK,if_true,sM,if_false,reduceIte,rE,decide_eq_true_eq,fJ,my,ka,mB,nW,oY,mI,oU,mE,mF,o6,mK,pj,dM,rP,iO,rQ,pE,mU,mT,pF]
       walk_at"l3"
       have g0:0<G.length:=by omega
       have g1:i-1<G.length:=by omega
       have l0:0<ae m:=by omega
       refine⟨.int (row.getD 0 0:Nat),by rw[kg (by omega) (by show 0<row.length;omega)];rfl,.int (row.getD (wi-1) 0:Nat),by rw[kg (by omega) (by omega),show((wi:Int)-1).toNat=wi-1 by omega],by decide,.lst true (au G[0]),rR true g0,.lst true (au G[i-1]),by rw[show((i:Int)-1)=((i-1:Nat):Int) by omega];exact rR true g1,by decide,?_⟩
       refine⟨m,[row.getD 0 0,row.getD (wi-1) 0],[G[0],G[i-1]],wi,by rw[mJ,mJ];rfl,hm,λx hx=>?_,by show 2<=64;omega,rfl,by omega,λx hx=>?_,kh _,fin2 _ (π hm _ rfl) (OF _ _ _ _)⟩
       ·simp only[cg,iV,or_false]at hx
        rcases hx with rfl | rfl
        ·exact m5.getD l0 _
        ·exact m5.getD l0 _
       ·simp only[cg,iV,or_false]at hx
        rcases hx with rfl | rfl
        ·exact hR _ (cN g0)
        ·exact hR _ (cN g1)
     ·exact GG _ rfl
    ·exact GG _ rfl
   refine⟨by decide,?_⟩
   split
   ·refine eC row (λ(i:Nat)=>D.int (i:Int)) (λ(i:Nat)=>D.int ((i%2:Nat):Int)) (wB row) iN (λx hx=>?_) (.inr λ_ _=>rfl) (by rw[sL];omega) ?_
    ·walk_at"l3"
     exact⟨by decide,by omega⟩
    ·have:=fin (row.map (· % 2)) (λa ha=>by
      obtain⟨x,_,rfl⟩:=cx.mp ha
      omega) (by rw[bV];exact pK)
     rw[dj,cS]at this
     exact this
   ·exact fin row m5 pK
  ·rintro δ ⟨G,o1,o2,rfl,hG,hR⟩
   refine hU _ ?_
   walk_at"l3"
   exact q G hG hR
noncomputable abbrev aJ3:bG:=λds Q=>∃T:List (List Nat),ds=[.lst false (aJ false T)]/\T.length<=1000/\(∀r∈T,r.length<=1000)/\Q (.int (aq T:Nat))
theorem Ao(T:Txt K mg t):aS P w K mg base bc 1 t.Fl t.Fm ["table"] (bK (aJ3 )):=by
 refine cq T.xj aI4 ?_ ?_
 ·intro ds Q h
  obtain⟨G,rfl,hG,hr,q⟩:=h<;>rfl
 ·intro aG A outer s H E hr
  refine⟨_,(aO (bf (Xi (cU (lZ (dq hr)) (bv 0) (af (gI fh)) (cB _)) (iq (j6) (by rfl) T.km jQ (ah (bC (bv 0) (af aw) (λ_ _=>rfl)) aB)) aw))),λds Q h=>?_⟩
  obtain⟨G,rfl,hG,hr,q⟩:=h
  walk_at"l3"
  refine⟨by decide,⟨Oe 4 _ _ _,rfl⟩,?_⟩
  rw[show(D.lst true ([]:List D))=D.lst true (aJ true []) from rfl,Og]
  cases G with
  | nil=>rw[if_neg (by simp)];exact q
  | cons r G =>
   rw[if_pos (by simp)]
   refine⟨.lst false (au r),rR false (T:=r::G) (i:=0) (Nat.succ_pos _),?_⟩
   show Q (D.int ((au r).length:Nat))
   rw[fJ];exact q
noncomputable abbrev aF1:bG:=λds Q=>∃(T:List (List Nat)) (j:Nat),ds=[.lst false (aJ false T),.int j]/\T.length<=1000/\(∀r∈T,j<r.length)/\Q (match iu T j with | some i=>.int (i:Nat) | none=>.ak)
theorem aF2(T:Txt K mg t):aS P w K mg base bc 1 t.Fo t.Fp ["rows","place"] (bK (aF1 )):=by
 refine cq T.PH O9 ?_ ?_
 ·intro ds Q h
  obtain⟨G,j,rfl,hG,hr,q⟩:=h<;>rfl
 ·intro aG A outer s H E hr
  refine⟨_,(aK (lM g6 rfl (DF rfl T.Gv (ah (bv 0) aB)) (oV (i1:=2) (i2:=3) rfl O9.nd rfl (ay rfl) rfl (ay rfl))
    (aO (cY (cU (lZ (dq hr)) (bC (bv 3) (bv 1) (λ_ _=>rfl)) (af aw) (cB _)) (aO (bf (em 2))) cX)))
   (aO (bf v9))),λds Q h=>?_⟩
  obtain⟨G,j,rfl,hG,hr,q⟩:=h
  refine aH λU hU=>?_
  walk_at"l3"
  refine jh.mk (λi δ=>∃o1 o2,δ=[some (D.lst false (aJ false G)),some (D.int j),o1,o2]/\∀k,k<i->(G.getD k []).getD j 0=0) ⟨_,_,rfl,λk hk=>absurd hk (Kl k)⟩ ?_ ?_
  ·rintro i d δ hd ⟨o1,o2,rfl,hz⟩
   obtain⟨hi,rfl⟩:=ZR hd
   have hj:=hr _ (cN hi)
   have eg:G.getD i []=G[i]:=by rw[aR,aQ hi];rfl
   walk_at"l3"
   refine⟨.int (G[i].getD j 0:Nat),by rw[kg (by omega) (by omega),g5],rfl,?_⟩
   rw[jn]
   by_cases h0:G[i].getD j 0=0
   ·rw[if_neg (by rw[h0];decide)]
    refine⟨_,_,⟨rfl,rfl⟩,λk hk=>?_⟩
    by_cases e:k=i
    ·rw[e,eg];exact h0
    ·exact hz k (by omega)
   ·rw[if_pos (by rw[decide_eq_false (by omega)];rfl)]
    have ef:iu G j=some i:=by
     unfold iu
     rw[Sy]
     refine⟨hi,by simpa using h0,λk hk=>?_⟩
     have:=hz k hk
     rw[aR (l:=G),aQ (by omega)]at this
     simpa using this
    rw[ef]at q
    exact q
  ·rintro δ ⟨o1,o2,rfl,hz⟩
   refine hU _ ?_
   walk_at"l3"
   have ef:iu G j=none:=by
    unfold iu
    rw[SA]
    intro r bh
    obtain⟨i,hi,rfl⟩:=fe bh
    have:=hz i (by rw[wz,iO];exact hi)
    rw[aR (l:=G),aQ hi]at this
    simpa using this
   rw[ef]at q
   exact q
noncomputable abbrev Qg(K:Frag):bG:=λds Q=>∃(C:Addr) (p a:Nat) (xs:List Nat),ds=[zu C p,.int a,.lst false (au xs)]/\dZ K C/\cC K C "products"/\p∈fM/\a<ae (true,p)/\(∀y∈xs,y<ae (true,p))/\xs.length<=1000/\Q (.lst true (au (xs.map (gm (true,p) a))))
theorem az5(T:Txt K mg t):aS P w K mg base bc 1 t.Fq t.Fs ["self","a","row"] (bK (Qg K)):=by
 refine cq T.aA4 Pa ?_ ?_
 ·intro ds Q h
  obtain⟨C,p,a,xs,rfl,hC,hn,hp,ha,hy,hl,q⟩:=h<;>rfl
 ·intro aG A outer s H E hr
  refine⟨_,(aK (bw (i:=3) Pa.nd rfl (bg rfl) (eA (bC (o9 (K:=K) (bv 0)) (bv 1) (λ_ _=>rfl))))
   (aO (bf (eE [("by_a",3)] ["x"] rfl (iK (bv 2)) (λ_ _ _ _=>(cZ (i:=1) (show(["by_a","x"]:List Str).Nodup by decide +kernel) rfl (ay (lookup_relabel_local rfl)) (by decide) (bg (lookup_relabel_local rfl)))) (λ_ _ _ _=>dB) (λ_ _ _ _=>(eA (bC (bv 0) (bv 1) (λ_ _=>rfl)))) rfl ⟨rfl,trivial⟩ (λ_=>by repeat' (first | exact trivial | refine⟨.inl rfl,?_⟩ | refine⟨.inr (.inl rfl),?_⟩ | refine⟨.inr (.inr ⟨_,rfl⟩),?_⟩)) (λ_=>⟨⟨rfl,.inl rfl,.inl rfl,_,rfl,rfl⟩,trivial⟩) rfl (by decide +kernel))))),λds Q h=>?_⟩
  obtain⟨C,p,a,xs,rfl,hC,hn,hp,ha,hy,hl,q⟩:=h
  refine aH λU hU=>?_
  walk_at"l3"
  refine⟨C,_,_,_,rfl,hC,hn,rfl,_,NX hp ha,?_⟩
  refine⟨by rw[fB,j8];rfl,hU _ ?_⟩
  clear hU U
  walk_at"l3"
  refine eC xs (λ(i:Nat)=>D.int (i:Int)) (λx=>D.int ((gm (true,p) a x:Nat):Int)) (wB xs) iN (λx hx=>?_) (.inr λ_ _=>rfl) (by rw[sL];omega) ?_
  ·walk_at"l3"
   exact⟨_,NW hp ha (hy x hx),rfl,rfl⟩
  ·rw[dj,cS]at q
   exact q
noncomputable abbrev Qh(K:Frag):bG:=λds Q=>∃(C:Addr) (p a:Nat) (xs:List Nat),ds=[zt C p,.int a,.lst false (au xs)]/\dZ K C/\cC K C "prime"/\0<p/\a<64/\(∀y∈xs,y<64)/\xs.length<=1000/\Q (.lst true (au (xs.map (gm (false,p) a))))
theorem aw4(T:Txt K mg t):aS P w K mg base bc 1 t.Ft t.Fu ["self","a","row"] (bK (Qh K)):=by
 refine cq T.ax5 Pb ?_ ?_
 ·intro ds Q h
  obtain⟨C,p,a,xs,rfl,hC,hn,hp,ha,hy,hl,q⟩:=h<;>rfl
 ·intro aG A outer s H E hr
  refine⟨_,(aK (bw (i:=3) Pb.nd rfl (bg rfl) (eA (o9 (K:=K) (bv 0))))
   (aO (bf (eE [("prime",3),("a",1)] ["x"] rfl (iK (bv 2)) (λ_ _ _ _=>(cZ (i:=2) (show(["prime","a","x"]:List Str).Nodup by decide +kernel) rfl (ay (lookup_relabel_local rfl)) (by decide) (bg (lookup_relabel_local rfl)))) (λ_ _ _ _=>dB) (λ_ _ _ _=>(aL dJ (af (aL ik (bv 1) (bv 2))) (bv 0))) rfl ⟨rfl,⟨rfl,trivial⟩⟩ (λ_=>by repeat' (first | exact trivial | refine⟨.inl rfl,?_⟩ | refine⟨.inr (.inl rfl),?_⟩ | refine⟨.inr (.inr ⟨_,rfl⟩),?_⟩)) (λ_=>⟨⟨rfl,.inl rfl,.inl rfl,_,rfl,rfl⟩,⟨⟨rfl,.inl rfl,.inl rfl,_,rfl,rfl⟩,trivial⟩⟩) rfl (by decide +kernel))))),λds Q h=>?_⟩
  obtain⟨C,p,a,xs,rfl,hC,hn,hp,ha,hy,hl,q⟩:=h
  refine aH λU hU=>?_
  walk_at"l3"
  refine⟨C,_,_,.int p,rfl,hC,hn,rfl,rfl,hU _ ?_⟩
  clear hU U
  walk_at"l3"
  refine eC xs (λ(i:Nat)=>D.int (i:Int)) (λx=>D.int ((gm (false,p) a x:Nat):Int)) (wB xs) iN (λx hx=>?_) (.inr λ_ _=>rfl) (by rw[sL];omega) ?_
  ·have h2:=hy x hx
   walk_at"l3"
   refine⟨i6.ok (.inr ⟨by omega,by omega⟩),by omega,?_⟩
   show _=((a*x%p:Nat):Int)
   rw[sF,ya]
  ·rw[dj,cS]at q
   exact q
theorem bR2(T:Txt K mg t){m:Bool × Nat}(hm:m∈aM):∃C ns zs sp,fD t.aV t.aY m=.obj C ns zs/\wJ P w K mg base 1 "scaled" C sp/\("scaled":Str) ∉ ns/\∀(xs:List Nat) (a:Nat) (Q:D->Prop),a<ae m->(∀y∈xs,y<ae m)->xs.length<=1000->Q (.lst true (au (xs.map (gm m a))))->sp [.obj C ns zs,.int a,.lst false (au xs)] Q:=by
 have hF:=dk hm
 obtain⟨k,n⟩:=m
 cases k with
 | true=>exact⟨_,_,_,Qg K,rfl,⟨T.gX,_,_,_,T.xt,az5 T,T.aA5⟩,by decide,λxs a Q ha hy hl q=>⟨_,n,a,xs,rfl,T.gX,T.rX,zx hm,ha,hy,hl,q⟩⟩
 | false =>
  have uX:n<=64:=hF.hi
  have l2:2<=n:=hF.lo
  exact⟨_,_,_,Qh K,rfl,⟨T.jy,_,_,_,T.xA,aw4 T,T.ax6⟩,by decide,λxs a Q ha hy hl q=>⟨_,n,a,xs,rfl,T.jy,T.rZ,by omega,ck (show a<n from ha) uX,λy h=>ck (show y<n from hy y h) uX,hl,q⟩⟩
noncomputable abbrev Qi(K:Frag):bG:=λds Q=>∃(C:Addr) (p a:Nat) (xs ys:List Nat),ds=[zu C p,.lst false (au xs),.int a,.lst false (au ys)]/\dZ K C/\cC K C "products"/\p∈fM/\a<ae (true,p)/\(∀y∈ys,y<ae (true,p))/\xs.length<=1000/\Q (.lst true (au (eY (λx y=>cM (true,p) x (gm (true,p) a y)) xs ys)))
theorem aw5(T:Txt K mg t):aS P w K mg base bc 1 t.Fv t.Fw ["self","row","a","other"] (bK (Qi K)):=by
 refine cq T.ax7 Pc ?_ ?_
 ·intro ds Q h
  obtain⟨C,p,a,xs,ys,rfl,hC,hn,hp,ha,hy,hl,q⟩:=h<;>rfl
 ·intro aG A outer s H E hr
  refine⟨_,(aK (bw (i:=4) Pc.nd rfl (bg rfl) (eA (bC (o9 (K:=K) (bv 0)) (bv 2) (λ_ _=>rfl))))
   (aO (bf (eE [("by_a",4)] ["x","y"] rfl (wA rfl T.xB (ah (bv 1) (ah (bv 3) aB))) (λ_ _ _ _=>(oV (i1:=1) (i2:=2) rfl (show(["by_a","x","y"]:List Str).Nodup by decide +kernel) rfl (ay (lookup_relabel_local rfl)) rfl (ay (lookup_relabel_local rfl)) (by decide) (by decide) (bg (lookup_relabel_local rfl)) (bg (lookup_relabel_local rfl)))) (λ_ _ _ _=>dB) (λ_ _ _ _=>(aL yS (bv 1) (bC (bv 0) (bv 2) (λ_ _=>rfl)))) rfl ⟨rfl,trivial⟩ (λ_=>by repeat' (first | exact trivial | refine⟨.inl rfl,?_⟩ | refine⟨.inr (.inl rfl),?_⟩ | refine⟨.inr (.inr ⟨_,rfl⟩),?_⟩)) (λ_=>⟨⟨rfl,.inl rfl,.inl rfl,_,rfl,rfl⟩,trivial⟩) rfl (by decide +kernel))))),λds Q h=>?_⟩
  obtain⟨C,p,a,xs,ys,rfl,hC,hn,hp,ha,hy,hl,q⟩:=h
  refine aH λU hU=>?_
  walk_at"l3"
  refine⟨C,_,_,_,rfl,hC,hn,rfl,_,NX hp ha,?_⟩
  refine⟨by rw[fB,j8];rfl,hU _ ?_⟩
  clear hU U
  walk_at"l3"
  refine⟨_,_,rfl,rfl,N6 (λx y=>cM (true,p) x (gm (true,p) a y)) (λx hx y Ak=>?_) (by omega) q⟩
  walk_at"l3"
  refine⟨_,NW hp ha (hy y Ak),?_⟩
  show m8 (x:Int) ((gm (true,p) a y:Nat):Int)=_
  rw[qH];rfl
noncomputable abbrev Qj(K:Frag):bG:=λds Q=>∃(C:Addr) (p a:Nat) (xs ys:List Nat),ds=[zt C p,.lst false (au xs),.int a,.lst false (au ys)]/\dZ K C/\cC K C "prime"/\0<p/\a<64/\(∀y∈ys,y<64)/\xs.length<=1000/\Q (.lst true (au (eY (λx y=>cM (false,p) x (gm (false,p) a y)) xs ys)))
theorem au6(T:Txt K mg t):aS P w K mg base bc 1 t.Fx t.Fy ["self","row","a","other"] (bK (Qj K)):=by
 refine cq T.av6 Pd ?_ ?_
 ·intro ds Q h
  obtain⟨C,p,a,xs,ys,rfl,hC,hn,hp,ha,hy,hl,q⟩:=h<;>rfl
 ·intro aG A outer s H E hr
  refine⟨_,(aK (bw (i:=4) Pd.nd rfl (bg rfl) (eA (o9 (K:=K) (bv 0))))
   (aO (bf (eE [("prime",4),("a",2)] ["x","y"] rfl (wA rfl T.xB (ah (bv 1) (ah (bv 3) aB))) (λ_ _ _ _=>(oV (i1:=2) (i2:=3) rfl (show(["prime","a","x","y"]:List Str).Nodup by decide +kernel) rfl (ay (lookup_relabel_local rfl)) rfl (ay (lookup_relabel_local rfl)) (by decide) (by decide) (bg (lookup_relabel_local rfl)) (bg (lookup_relabel_local rfl)))) (λ_ _ _ _=>dB) (λ_ _ _ _=>(aL dJ (af (aL jY (bv 2) (af (aL ik (bv 1) (bv 3))))) (bv 0))) rfl ⟨rfl,⟨rfl,trivial⟩⟩ (λ_=>by repeat' (first | exact trivial | refine⟨.inl rfl,?_⟩ | refine⟨.inr (.inl rfl),?_⟩ | refine⟨.inr (.inr ⟨_,rfl⟩),?_⟩)) (λ_=>⟨⟨rfl,.inl rfl,.inl rfl,_,rfl,rfl⟩,⟨⟨rfl,.inl rfl,.inl rfl,_,rfl,rfl⟩,trivial⟩⟩) rfl (by decide +kernel))))),λds Q h=>?_⟩
  obtain⟨C,p,a,xs,ys,rfl,hC,hn,hp,ha,hy,hl,q⟩:=h
  refine aH λU hU=>?_
  walk_at"l3"
  refine⟨C,_,_,.int p,rfl,hC,hn,rfl,rfl,hU _ ?_⟩
  clear hU U
  walk_at"l3"
  refine⟨_,_,rfl,rfl,N6 (λx y=>cM (false,p) x (gm (false,p) a y)) (λx hx y Ak=>?_) (by omega) q⟩
  have h2:=hy y Ak
  walk_at"l3"
  refine⟨i6.ok (.inr ⟨by omega,by omega⟩),by omega,?_⟩
  have e:((x:Int)-((a*y%p:Nat):Int))%(p:Int)=((x:Int)-(a:Int)*y)%p:=by
   rw[sF,ya,Int.sub_emod,Int.emod_emod,<- Int.sub_emod]
  show _=(((((x:Int)-((a*y%p:Nat):Int))%(p:Int)).toNat:Nat):Int)
  rw[e,xY (kF _ (by omega))]
theorem bw8(T:Txt K mg t){m:Bool × Nat}(hm:m∈aM):∃C ns zs sp,fD t.aV t.aY m=.obj C ns zs/\wJ P w K mg base 1 "lessened" C sp/\("lessened":Str) ∉ ns/\∀(xs ys:List Nat) (a:Nat) (Q:D->Prop),a<ae m->(∀y∈ys,y<ae m)->xs.length<=1000->Q (.lst true (au (eY (λx y=>cM m x (gm m a y)) xs ys)))->sp [.obj C ns zs,.lst false (au xs),.int a,.lst false (au ys)] Q:=by
 have hF:=dk hm
 obtain⟨k,n⟩:=m
 cases k with
 | true=>exact⟨_,_,_,Qi K,rfl,⟨T.gX,_,_,_,T.xp,aw5 T,T.ax8⟩,by decide,λxs ys a Q ha hy hl q=>⟨_,n,a,xs,ys,rfl,T.gX,T.rX,zx hm,ha,hy,hl,q⟩⟩
 | false =>
  have uX:n<=64:=hF.hi
  have l2:2<=n:=hF.lo
  exact⟨_,_,_,Qj K,rfl,⟨T.jy,_,_,_,T.xx,au6 T,T.av7⟩,by decide,λxs ys a Q ha hy hl q=>⟨_,n,a,xs,ys,rfl,T.jy,T.rZ,by omega,ck (show a<n from ha) uX,λy h=>ck (show y<n from hy y h) uX,hl,q⟩⟩
noncomputable abbrev aJ8(cb cp:Addr):bG:=λds Q=>∃(m:Bool × Nat) (T:List (List Nat)) (l:List Nat) (j:Nat),ds=[fD cb cp m,.lst false (aJ false T),.lst false (au l),.int j]/\m∈aM/\T.length<=1000/\AllLt (ae m) l/\(∀r∈T,j<r.length/\r.length<=1000/\AllLt (ae m) r)/\Q (.lst true (aJ true (T.map λr=>eY (λx y=>cM m x (gm m (r.getD j 0) y)) r l)))
theorem Qk(T:Txt K mg t):aS P w K mg base bc 2 t.Fz t.FA ["field","rows","lead_row","place"] (bK (aJ8 t.aV t.aY)):=by
 refine cq T.Gj aJ5 ?_ ?_
 ·intro ds Q h
  obtain⟨m,G,l,j,rfl,hm,hG,hl,hr,q⟩:=h<;>rfl
 ·intro aG A outer s H E hr
  refine⟨_,(aO (bf (eE [("lead_row",2),("field",0),("place",3)] ["row"] rfl (iK (bv 1)) (λ_ _ _ _=>(cZ (i:=3) (show(["lead_row","field","place","row"]:List Str).Nodup by decide +kernel) rfl (ay (lookup_relabel_local rfl)) (by decide) (bg (lookup_relabel_local rfl)))) (λ_ _ _ _=>dB) (λ_ _ _ _=>(DY (P:=P) (w:=w) (K:=K) (mg:=mg) (base:=base) (n:=1) (bv 1) (hr.mono (by decide)) (ah (bv 3) (ah (bC (bv 3) (bv 2) (λ_ _=>rfl)) (ah (bv 0) aB))))) rfl ⟨rfl,⟨rfl,⟨rfl,trivial⟩⟩⟩ (λ_=>by repeat' (first | exact trivial | refine⟨.inl rfl,?_⟩ | refine⟨.inr (.inl rfl),?_⟩ | refine⟨.inr (.inr ⟨_,rfl⟩),?_⟩)) (λ_=>⟨⟨rfl,.inl rfl,.inl rfl,_,rfl,rfl⟩,⟨⟨rfl,.inl rfl,.inl rfl,_,rfl,rfl⟩,⟨⟨rfl,.inl rfl,.inl rfl,_,rfl,rfl⟩,trivial⟩⟩⟩) rfl (by decide +kernel)))),λds Q h=>?_⟩
  obtain⟨m,G,l,j,rfl,hm,hG,hl,hr,q⟩:=h
  walk_at"l3"
  refine eC G (λr=>D.lst false (au r)) (λr=>D.lst true (au (eY (λx y=>cM m x (gm m (r.getD j 0) y)) r l))) (by rw[dM];rfl) (λa b h=>rN a b h) (λr bh=>?_) (.inr λr _=>kh _) (by rw[sL];omega) ?_
  ·obtain⟨h1,h2,h3⟩:=hr r bh
   obtain⟨C,ns,zs,sp,e1,e2,e3,e4⟩:=bw8 (P:=P) (w:=w) (base:=base) T hm
   walk_at"l3"
   refine⟨C,ns,zs,sp,e1,e2,e3,.int (r.getD j 0:Nat),by rw[kg (by omega) (by omega),g5],e4 _ _ _ _ (h3.getD (by have:=(dk hm).lo;omega) j) hl h2 ⟨rfl,rfl⟩⟩
  ·rw[aJ,cS]at q
   exact q
noncomputable abbrev Ql(t:kN)(P:Program)(w:World)(K:Frag)(mg:Str->Option Value)(base:Heap):oN:=λds Q Ex=>∃(m:Bool × Nat) (a b:Nat),ds=[fD t.aV t.aY m,.int a,.int b]/\m∈aM/\a<ae m/\b<ae m/\(b=0->Ex t.fP)/\(b≠0->∀r:Nat,r<ae m->gm m r b=a->Q (.int (r:Nat)))
theorem Qm(T:Txt K mg t):aS P w K mg base (kW P w) 2 t.z6 t.FC ["self","a","b"] (wu (Ql t P w K mg base)):=by
 refine MV T.aG8 aE0 ?_ ?_
 ·intro ds Q Ex h
  obtain⟨m,a,b,rfl,hm,ha,hb,qx,q⟩:=h<;>rfl
 ·intro aG A outer s H E hr
  refine⟨_,(aK (cY (cU (fG (dq hr)) (bv 2) (af aw) (cB _)) (aO (MZ T.P8 rfl (by rfl) (ah (af Me) aB))) cX)
   (aK (cY (cU (fG (dq hr)) (bv 1) (af aw) (cB _)) (aO (bf aw)) cX)
   (aO (bf (DY (P:=P) (w:=w) (K:=K) (mg:=mg) (base:=base) (n:=1) (bv 0) (hr.mono (by decide)) (ah (af (aL jY (bC (o9 (K:=K) (bv 0)) (bv 1) (λ_ _=>rfl)) (bC (o9 (K:=K) (bv 0)) (bv 2) (λ_ _=>rfl)))) aB)))))),λds Q Ex h=>?_⟩
  obtain⟨m,a,b,rfl,hm,ha,hb,qx,q⟩:=h
  refine aH λU hU=>?_
  walk_at"l3"
  split
  ·rename_i h0
   exact⟨by decide,qx (by omega)⟩
  ·rename_i h0
   have b0:b≠0:=by omega
   refine hU _ ?_
   clear hU U
   refine aH λU hU=>?_
   walk_at"l3"
   split
   ·rename_i h1
    have a0:a=0:=by omega
    subst a0
    exact q b0 0 ha (gj m b (cV m hm))
   ·rename_i h1
    have a0:a≠0:=by omega
    refine hU _ ?_
    clear hU U
    have hF:=dk hm
    obtain⟨r,e,w9,hr2⟩:=N1 hm (show 1<=a by omega) ha (show 1<=b by omega) hb
    have qr:=q b0 r w9 hr2
    obtain⟨k,n⟩:=m
    cases k with
    | true =>
     walk_at"l3"
     have ll:(dr (fl (true,n))).length=ae (true,n):=(wN _ _).trans hF.len
     have n0:=kF (lg (true,n) a-lg (true,n) b) (show(ae (true,n):Int)-1≠0 by have:=hF.lo;omega)
     have n1:=kG (lg (true,n) a-lg (true,n) b) (show(0:Int)<(ae (true,n):Int)-1 by have:=hF.lo;omega)
     refine⟨_,_,_,Gx K,rfl,⟨T.gX,_,_,_,T.uS,Gy T,T.Gg⟩,by decide,_,_,_,_,rfl,T.gX,T.pH,rfl,_,j9 (by omega) (by rw[ll];omega),_,_,_,_,rfl,T.gX,T.pH,rfl,_,j9 (by omega) (by rw[ll];omega),?_⟩
     refine⟨_,_,_,_,ae (true,n),fl (true,n),r,rfl,T.gX,T.rW,T.uR,rfl,rfl,hF.lo,?_,qr⟩
     have hk:((lg (true,n) a-lg (true,n) b)%((ae (true,n):Int)-1)).toNat<(fl (true,n)).length:=by have:=hF.len;omega
     show(fl (true,n))[((lg (true,n) a-lg (true,n) b)%((ae (true,n):Int)-1)).toNat]?=some (r:Int)
     rw[<-e]
     unfold pw
     rw[aR,aQ hk];rfl
    | false =>
     walk_at"l3"
     have ll:(dr (fl (false,n))).length=ae (false,n):=(wN _ _).trans hF.len
     have n0:=kF (lg (false,n) a-lg (false,n) b) (show(ae (false,n):Int)-1≠0 by have:=hF.lo;omega)
     have n1:=kG (lg (false,n) a-lg (false,n) b) (show(0:Int)<(ae (false,n):Int)-1 by have:=hF.lo;omega)
     refine⟨_,_,_,Gx K,rfl,⟨T.jy,_,_,_,T.uV,Gy T,T.Gg⟩,by decide,_,_,_,_,rfl,T.jy,T.rY,rfl,_,j9 (by omega) (by rw[ll];omega),_,_,_,_,rfl,T.jy,T.rY,rfl,_,j9 (by omega) (by rw[ll];omega),?_⟩
     refine⟨_,_,_,_,ae (false,n),fl (false,n),r,rfl,T.jy,T.uU,T.uT,rfl,rfl,hF.lo,?_,qr⟩
     have hk:((lg (false,n) a-lg (false,n) b)%((ae (false,n):Int)-1)).toNat<(fl (false,n)).length:=by have:=hF.len;omega
     show(fl (false,n))[((lg (false,n) a-lg (false,n) b)%((ae (false,n):Int)-1)).toNat]?=some (r:Int)
     rw[<-e]
     unfold pw
     rw[aR,aQ hk];rfl
theorem bF0(T:Txt K mg t)(m:Bool × Nat):zy P w K mg base 2 "over" (if m.1 then t.aV else t.aY) (Ql t P w K mg base):=by
 obtain⟨k,n⟩:=m
 cases k with
 | true=>exact⟨T.gX,_,_,_,T.xq,Qm T,T.PL⟩
 | false=>exact⟨T.jy,_,_,_,T.xy,Qm T,T.PL⟩
noncomputable abbrev aJ9(t:kN)(P:Program)(w:World)(K:Frag)(mg:Str->Option Value)(base:Heap):bG:=λds Q=>∃(m:Bool × Nat) (G:List (List Nat)),ds=[fD t.aV t.aY m,.lst false (aJ false G)]/\m∈aM/\G.length<=900/\RT (ae m) (aq G) G/\aq G<=900/\Q (.lst true (aJ true (bW m G)))
theorem Qn(T:Txt K mg t):aS P w K mg base bc 3 t.FD t.FE ["field","table"] (bK (aJ9 t P w K mg base)):=by
 refine cq T.Gk pG ?_ ?_
 ·intro ds Q h
  obtain⟨m,G,rfl,hm,hG,hR,hw,q⟩:=h<;>rfl
 ·intro aG A outer s H E hr
  refine⟨_,(aK (bw (i:=2) pG.nd rfl (ay rfl) (gI fh))
   (aK (bw (i:=3) pG.nd rfl (ay rfl) (eA (bv 1)))
   (aK (lM g6 rfl (jV rfl T.gY (ah (af (br ((Ao T).mono (by decide)) hr rfl T.z9 T.xj.kp T.Aa aX (ah (bv 1) aB))) aB)) (cZ (i:=4) pG.nd rfl (ay rfl))
    (C4 3 (aK (bw (i:=5) pG.nd rfl (ay rfl) (br ((aF2 T).mono (by decide)) hr rfl T.cD7 T.PH.kp T.cD8 aX (ah (bv 3) (ah (bv 4) aB))))
    (aO (cY (cU MB (bv 5) (af v9) (cB _)) (aK (bw (i:=6) pG.nd rfl (ay rfl) (DY (P:=P) (w:=w) (K:=K) (mg:=mg) (base:=base) (n:=1) (bv 0) (hr.mono (by decide)) (ah (af (Zi (P:=P) (w:=w) (K:=K) (mg:=mg) (base:=base) (n:=2) (bv 0) (hr.mono (by decide)) (ah (af aw) (ah (bC (bC (bv 3) (bv 5) (λ_ _=>rfl)) (bv 4) (λ_ _=>rfl)) aB)))) (ah (bC (bv 3) (bv 5) (λ_ _=>rfl)) aB))))
     (aK (bw (i:=3) pG.nd rfl (ay rfl) (br ((Qk T).mono (by decide)) hr rfl T.PJ T.Gj.kp T.PK aX (ah (bv 0) (ah (af (aL eT (af (M5 (bv 3) MM (MN (bv 5)))) (af (M5 (bv 3) (MN (af (aL eT (bv 5) (af aw)))) MM)))) (ah (bv 6) (ah (bv 4) aB))))))
     (aO (bw (i:=2) pG.nd rfl (ay rfl) (ZE (br ((Qk T).mono (by decide)) hr rfl T.PJ T.Gj.kp T.PK aX (ah (bv 0) (ah (bv 2) (ah (bv 6) (ah (bv 4) aB))))) (gI (e5 (em 6) fh))))))) cX)))))
   (aO (bf (em 2)))))),λds Q h=>?_⟩
  obtain⟨m,G,rfl,hm,hG,hR,hw,q⟩:=h
  have iF:=(dk hm).lo
  refine aH λU hU=>?_
  walk_at"l3"
  refine⟨by decide,hU _ ?_⟩
  clear hU U
  refine aH λU hU=>?_
  walk_at"l3"
  refine hU _ ?_
  clear hU U
  refine aH λU hU=>?_
  walk_at"l3"
  refine⟨G,rfl,by omega,λr bh=>?_,?_⟩
  ·rw[(hR r bh).1];omega
  refine⟨_,rfl,⟨by omega,by omega⟩,?_⟩
  refine Dx (λk δ=>∃(o:Bool) (o1 o2 o3:Option D),δ=[some (fD t.aV t.aY m),some (D.lst false (aJ false G)),some (D.lst true (aJ true (gR m G k).1)),some (D.lst o (aJ o (gR m G k).2)),o1,o2,o3]) ⟨false,none,none,none,rfl⟩ ?_ ?_
  ·rintro k δ hk ⟨o,o1,o2,o3,rfl⟩
   have I:=wZ hm hR k
   rw[D2]
   generalize gR m G k=s at I ⊢
   simp only[gN,lH,iE,iD,qk,qj,ql,exists_eq_left',di,dM]
   clear hU
   have il:=I.l
   refine aH λU hU=>?_
   walk_at"l3"
   refine⟨s.2,k,rfl,by omega,λr bh=>by rw[(I.b r bh).1];omega,?_⟩
   cases e:iu s.2 k with
   | none =>
    rw[show fO m s k=s by unfold fO;rw[e]]at hU
    refine hU _ ?_
    walk_at"l3"
    exact⟨false,_,_,_,⟨rfl,rfl⟩,rfl,rfl,rfl⟩
   | some i =>
    obtain⟨hi,h1,h2⟩:=zF e
    have er:fO m s k=(fc m s.1 (df m s.2 i k) k++[df m s.2 i k],fc m (s.2.take i++s.2.drop (i+1)) (df m s.2 i k) k):=by unfold fO;rw[e]
    rw[er]at hU
    refine hU _ ?_
    clear hU
    walk_at"l3"
    obtain⟨C,ns,xs,sp,e1,e2,e3,e4⟩:=bR2 (P:=P) (w:=w) (base:=base) T hm
    refine aH λU hU=>?_
    walk_at"l3"
    obtain⟨lw,lr⟩:=I.b _ (cN hi)
    have bk:=lr.getD (show 0<ae m by omega) k
    refine⟨C,ns,xs,sp,e1,e2,e3,_,_,_,_,zB _ _ m,bF0 T m,Zk m _ (by decide),.lst false (au s.2[i]),rR false hi,?_⟩
    dsimp only
    refine⟨.int (s.2[i].getD k 0:Nat),by rw[kg (by omega) (by omega),g5],m,1,s.2[i].getD k 0,by rw[zB];rfl,hm,iF,bk,λz=>absurd z h1,λ_ f hf hfo=>⟨rfl,.lst false (au s.2[i]),rR false hi,?_⟩⟩
    have ef:wX m (s.2[i].getD k 0)=f:=Oh hm hf hfo
    rw[mJ]
    refine e4 _ _ _ hf lr (by omega) ⟨by rw[kh,fo],hU _ ?_⟩
    have el:s.2[i].map (gm m f)=df m s.2 i k:=by unfold df;rw[h2,ef]
    rw[el]
    have ll:(df m s.2 i k).length=aq G:=by rw[<-el,bV];exact lw
    have la:AllLt (ae m) (df m s.2 i k):=λx hx=>by
     rw[<-el]at hx
     obtain⟨y,_,rfl⟩:=cx.mp hx
     exact eO hm _ _
    generalize df m s.2 i k=ld at ll la ⊢
    clear hU
    refine aH λU hU=>?_
    walk_at"l3"
    have GH:∀r∈s.2.take i++s.2.drop (i+1),r.length=aq G/\AllLt (ae m) r:=λr bh=>by
     rcases cw.mp bh with h | h
     ·exact I.b r (BC h)
     ·exact I.b r (BB h)
    have kr:∀X:List (List Nat),(D.lst true (aJ true X)).fr=true:=λX=>by rw[eL,wW];rfl
    rw[Yh,show((i:Int)+1)=((i+1:Nat):Int) by omega,Yi,D1,dM]
    refine⟨by rw[xP,xQ];omega,m,_,ld,k,rfl,hm,by rw[iQ,xP,xQ];omega,la,λr bh=>⟨by rw[(GH r bh).1];exact hk,by rw[(GH r bh).1];omega,(GH r bh).2⟩,kr _,hU _ ?_⟩
    clear hU
    walk_at"l3"
    refine⟨m,s.1,ld,k,rfl,hm,by omega,la,λr bh=>⟨by rw[(I.a r bh).1];exact hk,by rw[(I.a r bh).1];omega,(I.a r bh).2⟩,kr _,by decide,_,_,rfl,rfl,?_,true,_,_,_,D1 true _ [ld],⟨rfl,rfl⟩,rfl,rfl,rfl⟩
    rw[iO,bV]
    show s.1.length+1<=_
    omega
  ·rintro δ ⟨o,o1,o2,o3,rfl⟩
   refine hU _ ?_
   walk_at"l3"
   exact q
noncomputable abbrev bL4:bG:=λds Q=>∃T:List (List Nat),ds=[.lst false (aJ false T)]/\T.length<=1000/\(∀r∈T,r.length<=1000/\∃x∈r,x≠0)/\Q (.lst true (au (T.map bA)))
theorem bJ4(T:Txt K mg t):aS P w K mg base bc 1 t.FF t.FG ["rows"] (bK (bL4 )):=by
 refine cq T.PQ bN6 ?_ ?_
 ·intro ds Q h
  obtain⟨G,rfl,hG,hr,q⟩:=h<;>rfl
 ·intro aG A outer s H E hr
  refine⟨_,(aO (bf (eE [] ["row"] rfl (iK (bv 0)) (λ_ _ _ _=>(cZ (i:=0) (show(["row"]:List Str).Nodup by decide +kernel) rfl (ay (lookup_relabel_local rfl)) (by decide) (bg (lookup_relabel_local rfl)))) (λ_ _ _ _=>dB) (λ_ _ _ _=>(eA (bC (af (eE [] ["place","x"] rfl (DF rfl T.Gv (ah (bv 0) aB)) (λ_ _ _ _=>(oV (i1:=0) (i2:=1) rfl (show(["place","x"]:List Str).Nodup by decide +kernel) rfl (ay (lookup_relabel_local rfl)) rfl (ay (lookup_relabel_local rfl)) (by decide) (by decide) (bg (lookup_relabel_local rfl)) (bg (lookup_relabel_local rfl)))) (λ_ _ _ _=>(Xs (cU (lZ (dq hr)) (bv 1) (af aw) (cB _)))) (λ_ _ _ _=>(eA (bv 0))) rfl trivial (λ_=>by repeat' (first | exact trivial | refine⟨.inl rfl,?_⟩ | refine⟨.inr (.inl rfl),?_⟩ | refine⟨.inr (.inr ⟨_,rfl⟩),?_⟩)) (λ_=>trivial) rfl (by decide +kernel))) (af aw) (λ_ _=>rfl)))) rfl trivial (λ_=>by repeat' (first | exact trivial | refine⟨.inl rfl,?_⟩ | refine⟨.inr (.inl rfl),?_⟩ | refine⟨.inr (.inr ⟨_,rfl⟩),?_⟩)) (λ_=>trivial) rfl (by decide +kernel)))),λds Q h=>?_⟩
  obtain⟨G,rfl,hG,hr,q⟩:=h
  walk_at"l3"
  refine eC G (λr=>D.lst false (au r)) (λr=>D.int (bA r:Nat)) (by rw[dM];rfl) (λa b h=>rN a b h) (λr bh=>?_) (.inr λr _=>rfl) (by rw[sL];omega) ?_
  ·obtain⟨h1,x,hx,h3⟩:=hr r bh
   walk_at"l3"
   refine ZQ (aP r.length) (λ(i:Nat)=>D.tup [.int (i:Int),.int ((r.getD i 0:Nat):Int)]) (λ(i:Nat)=>D.int (i:Int)) (λi=>r.getD i 0 != 0) (ZS r) (λa b h=>by injection h with h;simp at h;omega) (λi hi=>?_) (.inr λ_ _ _=>rfl) (by rw[dQ,sL];omega) ?_
   ·walk_at"l3"
    refine⟨?_,λ_=>trivial⟩
    by_cases h0:r.getD i 0=0
    ·rw[h0];rfl
    ·rw[decide_eq_false (by omega),bne_iff_ne.mpr h0];rfl
   ·refine⟨.int (bA r:Nat),L3.Cp (k:=0) ?_,rfl,rfl⟩
    rw[cI,ZT ⟨x,hx,h3⟩];rfl
  ·rw[dj,cS]at q
   exact q
noncomputable abbrev aJ4:bG:=λds Q=>∃(G:List (List Nat)) (u:List Nat),ds=[.lst false (aJ false G),.lst false (au u)]/\G.length<=1000/\(∀r∈G,r.length<=1000)/\Q (.lst true (aJ true (bb G u)))
theorem Qo(T:Txt K mg t):aS P w K mg base bc 1 t.FH t.FI ["table","due"] (bK (aJ4 )):=by
 refine cq T.Gm aI5 ?_ ?_
 ·intro ds Q h
  obtain⟨G,u,rfl,hG,hr,q⟩:=h<;>rfl
 ·intro aG A outer s H E hr
  refine⟨_,(aO (bf (eE [] ["row","x"] rfl (wA rfl T.xB (ah (bv 0) (ah (bv 1) aB))) (λ_ _ _ _=>(oV (i1:=0) (i2:=1) rfl (show(["row","x"]:List Str).Nodup by decide +kernel) rfl (ay (lookup_relabel_local rfl)) rfl (ay (lookup_relabel_local rfl)) (by decide) (by decide) (bg (lookup_relabel_local rfl)) (bg (lookup_relabel_local rfl)))) (λ_ _ _ _=>dB) (λ_ _ _ _=>(aL eT (bv 0) (zL (ah (bv 1) aB)))) rfl trivial (λ_=>by repeat' (first | exact trivial | refine⟨.inl rfl,?_⟩ | refine⟨.inr (.inl rfl),?_⟩ | refine⟨.inr (.inr ⟨_,rfl⟩),?_⟩)) (λ_=>trivial) rfl (by decide +kernel)))),λds Q h=>?_⟩
  obtain⟨G,u,rfl,hG,hr,q⟩:=h
  walk_at"l3"
  refine⟨_,_,rfl,rfl,?_⟩
  refine NY (G.zip u) (λz=>D.tup [.lst false (au z.1),.int ((z.2:Nat):Int)]) (λz=>D.lst true (au (z.1++[z.2]))) (ZX G u) (λa b h=>?_) (λz hz=>?_) NZ (.inr λz _=>kh _) (by rw[x6,sL];omega) ?_
  ·injection h with h
   simp only[qm,D.lst.injEq,D.int.injEq,and_true,true_and]at h
   exact BN (N7 h.1) (by omega)
  ·have hl:=hr _ (u9 hz).1
   walk_at"l3"
   exact⟨by decide,by omega,mB z.1 [z.2]⟩
  ·unfold bb aJ at q
   rw[sE]at q
   rw[xZ,sE]
   exact q
noncomputable def pL:Option (List Nat)->D
 | some l=>.lst true (au l)
 | none=>.ak
noncomputable abbrev aK1(t:kN)(P:Program)(w:World)(K:Frag)(mg:Str->Option Value)(base:Heap):bG:=λds Q=>∃(m:Bool × Nat) (G:List (List Nat)) (u:List Nat),ds=[fD t.aV t.aY m,.lst false (aJ false G),.lst false (au u)]/\m∈aM/\0<G.length/\G.length<=900/\u.length=G.length/\RT (ae m) (aq G) G/\AllLt (ae m) u/\aq G<=800/\(∀r∈bW m (bb G u),∃x∈r,x≠0)/\Q (pL (gk m G u))
theorem GI(T:Txt K mg t):aS P w K mg base bc 4 t.FJ t.FK ["field","table","due"] (bK (aK1 t P w K mg base)):=by
 refine cq T.Ab uI ?_ ?_
 ·intro ds Q h
  obtain⟨m,G,u,rfl,hm,iz,hG,hu,hR,ku,hw,hn,q⟩:=h<;>rfl
 ·intro aG A outer s H E hr
  refine⟨_,(aK (bw (i:=3) uI.nd rfl (ay rfl) (br ((Ao T).mono (by decide)) hr rfl T.z9 T.xj.kp T.Aa aX (ah (bv 1) aB)))
   (aK (bw (i:=4) uI.nd rfl (ay rfl) (br ((Qn T).mono (by decide)) hr rfl T.PM T.Gk.kp T.PN aX (ah (bv 0) (ah (af (br ((Qo T).mono (by decide)) hr rfl T.PR T.Gm.kp T.PU aX (ah (bv 1) (ah (bv 2) aB)))) aB))))
   (aK (bw (i:=5) uI.nd rfl (ay rfl) (br ((bJ4 T).mono (by decide)) hr rfl T.cE8 T.PQ.kp T.cE9 aX (ah (bv 4) aB)))
   (C4 5 (C4 4 (aK (cY (cU Yj (bv 3) (bv 5) (by with_unfolding_all rfl)) (aO (bf v9)) cX)
   (aK (bw (i:=6) uI.nd rfl (ay rfl) (aL ik (af (gI (e5 aw fh))) (bv 3)))
   (aK (lM g6 rfl (wA rfl T.xB (ah (bv 5) (ah (bv 4) aB))) (oV (i1:=7) (i2:=8) rfl uI.nd rfl (ay rfl) rfl (ay rfl))
    (aO (Ds (i:=6) rfl (by first | exact ay rfl | exact bg (ay rfl)) (eA (bC (bv 8) (bv 3) (λ_ _=>rfl))) (bv 7))))
   (aO (bf (em 6))))))))))),λds Q h=>?_⟩
  obtain⟨m,G,u,rfl,hm,iz,hG,hu,hR,ku,hw,hn,q⟩:=h
  have iF:=(dk hm).lo
  refine aH λU hU=>?_
  walk_at"l3"
  refine⟨G,rfl,by omega,λr bh=>by rw[(hR r bh).1];omega,hU _ ?_⟩
  clear hU U
  refine aH λU hU=>?_
  walk_at"l3"
  refine⟨G,u,rfl,by omega,λr bh=>by rw[(hR r bh).1];omega,?_⟩
  obtain⟨w1,w2,w3⟩:=pz iz hu hR ku
  have w4:=w3
  rw[<-w1]at w4
  have I:=wZ hm w4 (aq (bb G u))
  have il:(bW m (bb G u)).length<=900:=by
   show(gR m (bb G u) (aq (bb G u))).1.length<=900
   have:=I.l
   omega
  have ia:RT (ae m) (aq G+1) (bW m (bb G u)):=by rw[<-w1];exact I.a
  have kr:∀X:List (List Nat),(D.lst true (aJ true X)).fr=true:=λX=>by rw[eL,wW];rfl
  refine⟨m,bb G u,by rw[di,dM],hm,by omega,w4,by omega,by rw[kr,fo],hU _ ?_⟩
  clear hU U
  unfold gk at q
  generalize bW m (bb G u)=R at il ia hn q ⊢
  refine aH λU hU=>?_
  walk_at"l3"
  refine⟨R,rfl,by omega,λr bh=>⟨by rw[(ia r bh).1];omega,hn r bh⟩,kh _,hU _ ?_⟩
  clear hU U
  refine⟨_,rfl,_,rfl,?_⟩
  rw[mJ]
  simp only[iE,iD,di,dM]
  refine aH λU hU=>?_
  walk_at"l3"
  refine⟨_,rfl,?_⟩
  have mc:=ZV (aq G) (R.map bA)
  split
  ·rename_i h
   rw[decide_eq_true h]at mc
   rw[if_pos mc.symm]at q
   exact q
  rename_i h
  rw[decide_eq_false h]at mc
  rw[if_neg (by rw[<-mc];decide)]at q
  refine hU _ ?_
  clear hU U
  refine aH λU hU=>?_
  walk_at"l3"
  have er:aD (aT (aq G) 0)=au (aT (aq G) 0):=by
   rw[dj,BM];unfold aD;rw[BM];rfl
  rw[g5,er]
  refine⟨by decide,⟨by omega,by omega,by omega⟩,hU _ ?_⟩
  clear hU U
  refine aH λU hU=>?_
  walk_at"l3"
  refine⟨_,_,rfl,rfl,?_⟩
  refine jh.mk (λk δ=>∃o3 o4,δ=[some (fD t.aV t.aY m),some (D.lst false (aJ false G)),some (D.lst false (au u)),some (D.int (aq G)),some (D.lst false (aJ false R)),some (D.lst false (au (R.map bA))),some (D.lst true (au ((((R.map bA).zip R).take k).foldl (λx z=>x.set z.1 (z.2.getD (aq G) 0)) (aT (aq G) 0)))),o3,o4]) ⟨_,_,rfl⟩ ?_ ?_
  ·rintro k d δ hd ⟨o3,o4,rfl⟩
   obtain⟨hk,rfl⟩:=ZW hd
   clear hd
   obtain⟨lw,la⟩:=ia _ (cN hk)
   have xl:=Oj (λz:Nat × List Nat=>z.1) (λz=>z.2.getD (aq G) 0) (((R.map bA).zip R).take k) (aT (aq G) 0)
   rw[jE]at xl
   have hld:bA R[k]<aq G:=by
    obtain⟨x,hx,h0⟩:=hn _ (cN hk)
    have h1:bA R[k]<R[k].length:=Km ⟨x,hx,by simpa using h0⟩
    have h2:bA R[k]≠aq G:=λz=>by
     have:(R.map bA).contains (aq G)=true:=qf.mpr (cx.mpr ⟨R[k],cN hk,z⟩)
     rw[<-mc]at this;cases this
    omega
   walk_at"l3"
   refine⟨.int (R[k].getD (aq G) 0:Nat),by rw[kg (by omega) (by omega),g5],?_⟩
   refine⟨rfl,_,bA R[k],rfl,?_,_,_,?_,rfl,rfl⟩
   ·rw[N4 (by omega) (by rw[fJ,xl];omega)];rfl
   ·rw[Zx,Kf,BP]
    have ez:((R.map bA).zip R)[k]?=some (bA R[k],R[k]):=by
     rw[xZ,sG,cI,aQ hk];rfl
    rw[ez];rfl
  ·rintro δ ⟨o3,o4,rfl⟩
   refine hU _ ?_
   walk_at"l3"
   rw[show((R.map bA).zip R).take (dD (au (R.map bA)) (aJ false R)).length=(R.map bA).zip R from Bz (by unfold dD;rw[x6,qe,fJ,iO];exact bD _)]
   exact q
noncomputable abbrev aK2:bG:=λds Q=>∃T:List (List Nat),ds=[.lst false (aJ false T)]/\T.length<=1000/\(∀r∈T,r.length=aq T)/\aq T<=1000/\Q (.lst true (aJ true (dN T)))
theorem aK3(T:Txt K mg t):aS P w K mg base bc 2 t.FL t.FN ["table"] (bK (aK2 )):=by
 refine cq T.PV aK0 ?_ ?_
 ·intro ds Q h
  obtain⟨G,rfl,hG,hr,hw,q⟩:=h<;>rfl
 ·intro aG A outer s H E hr
  refine⟨_,(aO (bf (eE [("table",0)] ["j"] rfl (jV rfl T.gY (ah (af (br ((Ao T).mono (by decide)) hr rfl T.z9 T.xj.kp T.Aa aX (ah (bv 0) aB))) aB)) (λ_ _ _ _=>(cZ (i:=1) (show(["table","j"]:List Str).Nodup by decide +kernel) rfl (bg rfl) (by decide) (ay rfl))) (λ_ _ _ _=>dB) (by exact λ_ _ _ _=>(eE [("j",1)] ["row"] rfl (iK (bv 0)) (λ_ _ _ _=>(cZ (i:=1) (show(["j","row"]:List Str).Nodup by decide +kernel) rfl (ay (lookup_relabel_local rfl)) (by decide) (bg (lookup_relabel_local rfl)))) (λ_ _ _ _=>dB) (λ_ _ _ _=>(eA (bC (bv 1) (bv 0) (λ_ _=>rfl)))) rfl ⟨rfl,trivial⟩ (λ_=>by repeat' (first | exact trivial | refine⟨.inl rfl,?_⟩ | refine⟨.inr (.inl rfl),?_⟩ | refine⟨.inr (.inr ⟨_,rfl⟩),?_⟩)) (λ_=>⟨⟨rfl,.inl rfl,.inl rfl,_,rfl,rfl⟩,trivial⟩) rfl (by decide +kernel))) rfl ⟨rfl,trivial⟩ (λ_=>by repeat' (first | exact trivial | refine⟨.inl rfl,?_⟩ | refine⟨.inr (.inl rfl),?_⟩ | refine⟨.inr (.inr ⟨_,rfl⟩),?_⟩)) (λ_=>⟨⟨rfl,.inl rfl,.inl rfl,_,rfl,rfl⟩,trivial⟩) rfl (by decide +kernel)))),λds Q h=>?_⟩
  obtain⟨G,rfl,hG,hr,hw,q⟩:=h
  walk_at"l3"
  refine⟨G,rfl,hG,λr bh=>by rw[hr r bh];exact hw,?_⟩
  dsimp only
  refine⟨_,rfl,⟨by omega,by omega⟩,?_⟩
  refine eC (aP (aq G)) (λ(i:Nat)=>D.int (i:Int)) (λj=>D.lst true (au (G.map λr=>r.getD j 0))) (rM _ rfl) iN (λj hj=>?_) (.inr λj _=>kh _) (by rw[dQ,sL];omega) ?_
  ·have hj:=dE.mp hj
   walk_at"l3"
   refine eC G (λr=>D.lst false (au r)) (λr=>D.int ((r.getD j 0:Nat):Int)) (by rw[dM];rfl) (λa b h=>rN a b h) (λr bh=>?_) (.inr λr _=>rfl) (by rw[sL];omega) ?_
   ·walk_at"l3"
    have hl:=hr r bh
    exact⟨.int (r.getD j 0:Nat),by rw[kg (by omega) (by omega),g5],rfl,rfl⟩
   ·rw[dj,cS];rfl
  ·unfold dN aJ at q
   rw[cS]at q
   exact q
noncomputable abbrev aK4(t:kN)(P:Program)(w:World)(K:Frag)(mg:Str->Option Value)(base:Heap):bG:=λds Q=>∃(m:Bool × Nat) (G:List (List Nat)) (u:List Nat),ds=[fD t.aV t.aY m,.lst false (aJ false G),.lst false (au u)]/\m∈aM/\0<G.length/\G.length<=64/\u.length=G.length/\RT (ae m) (aq G) G/\AllLt (ae m) u/\aq G<=64/\Q (pL (gk m (dN (bb G u)) (gU (aq G))))
theorem aK5(T:Txt K mg t):aS P w K mg base bc 5 t.FP t.FQ ["field","table","due"] (bK (aK4 t P w K mg base)):=by
 refine cq T.PX Pe ?_ ?_
 ·intro ds Q h
  obtain⟨m,G,u,rfl,hm,iz,hG,hu,hR,ku,hw,q⟩:=h<;>rfl
 ·intro aG A outer s H E hr
  refine⟨_,(aK (bw (i:=3) Pe.nd rfl (ay rfl) (aL eT (af (aL ik (af (gI (e5 aw fh))) (af (br ((Ao T).mono (by decide)) hr rfl T.z9 T.xj.kp T.Aa aX (ah (bv 1) aB))))) (af (gI (e5 aw fh)))))
   (aO (bf (br ((GI T).mono (by decide)) hr rfl T.Gp T.Ab.kp T.Gq aX (ah (bv 0) (ah (af (br ((aK3 T).mono (by decide)) hr rfl T.cF0 T.PV.kp T.cF1 aX (ah (af (br ((Qo T).mono (by decide)) hr rfl T.PR T.Gm.kp T.PU aX (ah (bv 1) (ah (bv 2) aB)))) aB))) (ah (bv 3) aB))))))),λds Q h=>?_⟩
  obtain⟨m,G,u,rfl,hm,iz,hG,hu,hR,ku,hw,q⟩:=h
  have iF:=(dk hm).lo
  obtain⟨w1,w2,w3⟩:=pz iz hu hR ku
  have w4:=w3
  rw[<-w1]at w4
  obtain⟨t1,t2,t3⟩:=El (show 0<ae m by omega) (by omega) w4
  have t4:=t3
  rw[<-t2]at t4
  obtain⟨z1,z2,z3⟩:=pz (G:=dN (bb G u)) (u:=gU (aq G)) (by omega) (by rw[zT];omega) t4 (zU hm _)
  have z4:=z3
  rw[<-z1]at z4
  obtain⟨⟨Hd,I⟩,iR,il,_⟩:=pq hm z4
  refine aH λU hU=>?_
  walk_at"l3"
  refine⟨by decide,G,rfl,by omega,λr bh=>by rw[(hR r bh).1];omega,?_⟩
  dsimp only
  rw[g5]
  have er:(aT (aq G) [D.int 0]).flatten=au (aT (aq G) 0):=by
   rw[dj,BM]
   induction aq G with
   | zero=>rfl
   | succ n ih=>rw[kz,pW,ih,kz];rfl
  rw[er]
  have e2:au (aT (aq G) 0)++[D.int 1]=au (gU (aq G)):=mB _ [1]
  rw[e2]
  refine⟨⟨by omega,by omega,by simp;omega,rfl⟩,by decide,⟨by rw[fJ,jE];omega,my _⟩,hU _ ?_⟩
  clear hU U er e2
  have kr:∀X:List (List Nat),(D.lst true (aJ true X)).fr=true:=λX=>by rw[eL,wW];rfl
  have pM:∀X:List (List Nat),(D.lst true (aJ true X)).sh=D.lst false (aJ false X):=λX=>by rw[di,dM]
  walk_at"l3"
  refine⟨G,u,rfl,by omega,λr bh=>by rw[(hR r bh).1];omega,bb G u,by rw[pM],by omega,λr bh=>by rw[w1];exact(w3 r bh).1,by omega,by rw[kr,fo],m,dN (bb G u),gU (aq G),by rw[pM],hm,by omega,by omega,by rw[zT];omega,t4,zU hm _,by omega,λr bh=>?_,?_,q⟩
  ·obtain⟨i,hi,rfl⟩:=fe bh
   have:=(I.rT hm iR hi).2
   rw[kj hi]at this
   exact this
  ·have:∀o,(pL o).fr=true:=λo=>by
    cases o with
    | none=>rfl
    | some l=>exact kh l
   rw[this,fo]
noncomputable abbrev aI1:bG:=λds Q=>∃T:List (List Nat),ds=[.lst false (aJ false T)]/\T.length<=1000/\Q (.lst true (aJ true T))
theorem Qp(T:Txt K mg t):aS P w K mg base bc 1 t.FR t.FT ["_law_table_here"] (bK (aI1 )):=by
 refine cq T.Gr aG0 ?_ ?_
 ·intro ds Q h
  obtain⟨G,rfl,hG,q⟩:=h<;>rfl
 ·intro aG A outer s H E hr
  refine⟨_,(aO (bf (eE [] ["_law_row"] rfl (iK (bv 0)) (λ_ _ _ _=>(cZ (i:=0) (show(["_law_row"]:List Str).Nodup by decide +kernel) rfl (ay (lookup_relabel_local rfl)) (by decide) (bg (lookup_relabel_local rfl)))) (λ_ _ _ _=>dB) (λ_ _ _ _=>(yU (Dj) (by rfl) T.Af yA (ah (bv 0) aB))) rfl trivial (λ_=>by repeat' (first | exact trivial | refine⟨.inl rfl,?_⟩ | refine⟨.inr (.inl rfl),?_⟩ | refine⟨.inr (.inr ⟨_,rfl⟩),?_⟩)) (λ_=>trivial) rfl (by decide +kernel)))),λds Q h=>?_⟩
  obtain⟨G,rfl,hG,q⟩:=h
  walk_at"l3"
  refine eC G (λr=>D.lst false (au r)) (λr=>D.lst true (au r)) (by rw[dM];rfl) (λa b h=>rN a b h) (λr bh=>?_) (.inr λr _=>kh r) (by rw[sL];omega) q
  walk_at"l3"
noncomputable abbrev aF3:bG:=λds Q=>∃i:Int,ds=[.int i]/\Q (.bl true)
theorem aF4(T:Txt K mg t):aS P w K mg base bc 1 t.FU t.FV ["_law_x"] (bK (aF3 )):=by
 refine cq T.P0 aE1 ?_ ?_
 ·intro ds Q h
  obtain⟨i,rfl,q⟩:=h<;>rfl
 ·intro aG A outer s H E hr
  refine⟨_,(aO (bf (tu (af (Dn (by rfl) T.Gw (by rfl) T.P7 LJ (bv 0))) (qv (Mi (af (Dn (by rfl) T.Gw (by rfl) T.cG5 Wf (bv 0)))))))),λds Q h=>?_⟩
  obtain⟨i,rfl,q⟩:=h
  walk_at"l3"
  exact q
noncomputable abbrev aB7:bG:=λds Q=>∃(l:List Nat) (w n:Nat),ds=[.lst false (au l),.int w,.int n]/\l.length=w/\w<=1000/\AllLt n l/\Q (.bl true)
theorem Qq(T:Txt K mg t):aS P w K mg base bc 2 t.FW t.FX ["_law_row","_law_wide","_law_many_here"] (bK (aB7 )):=by
 refine cq T.Gs aB3 ?_ ?_
 ·intro ds Q h
  obtain⟨l,w,n,rfl,hl,hw,ha,q⟩:=h<;>rfl
 ·intro aG A outer s H E hr
  refine⟨_,(aK (cY (PW.pt (Mh (wa (lj (af (Dn (by rfl) T.Gw (by rfl) T.Af yA (bv 0))))) (Kz (cU (lZ (dq hr)) (af (iq (j6) (by rfl) T.km jQ (ah (bv 0) aB))) (bv 1) (cB _))))) (aO (bf jf)) cX)
   (aO (bf (iq (Dk rfl) (by rfl) T.Gu CG (ah (af (eE [("_law_many_here",2)] ["_law_x"] rfl (iK (bv 0)) (λ_ _ _ _=>(cZ (i:=1) (show(["_law_many_here","_law_x"]:List Str).Nodup by decide +kernel) rfl (ay (lookup_relabel_local rfl)) (by decide) (bg (lookup_relabel_local rfl)))) (λ_ _ _ _=>dB) (λ_ _ _ _=>(tu (af (br ((aF4 T).mono (by decide)) hr rfl T.aG9 T.P0.kp T.aH0 aX (ah (bv 1) aB))) (qv (Di wk yT (af aw) (bv 1) (bv 0))))) rfl ⟨rfl,trivial⟩ (λ_=>by repeat' (first | exact trivial | refine⟨.inl rfl,?_⟩ | refine⟨.inr (.inl rfl),?_⟩ | refine⟨.inr (.inr ⟨_,rfl⟩),?_⟩)) (λ_=>⟨⟨rfl,.inl rfl,.inl rfl,_,rfl,rfl⟩,trivial⟩) rfl (by decide +kernel))) aB))))),λds Q h=>?_⟩
  obtain⟨l,w,n,rfl,hl,hw,ha,q⟩:=h
  refine aH λU hU=>?_
  walk_at"l3"
  rw[if_neg (by rw[hl];simp)]
  refine hU _ ?_
  clear hU U
  walk_at"l3"
  refine eC l (λ(i:Nat)=>D.int (i:Int)) (λ_=>D.bl true) (wB l) iN (λi hi=>?_) (.inr λ_ _=>rfl) (by rw[sL];omega) ?_
  ·walk_at"l3"
   have:=ha i hi
   refine⟨i,rfl,true,rfl,?_⟩
   rw[if_pos rfl,if_pos (by omega)]
   omega
  ·refine⟨l.map λ_=>true,by unfold wo;rw[cS];rfl,?_⟩
   have e:(l.map λ_=>true).all id=true:=by simp
   rw[e];exact q
noncomputable abbrev aF5:bG:=λds Q=>∃(m:Bool × Nat) (G:List (List Nat)) (u Y:List Nat),ds=[cL m,.lst false (aJ false G),.lst false (au u),.lst false (au Y)]/\m∈aM/\0<G.length/\G.length<=64/\u.length=G.length/\RT (ae m) (aq G) G/\AllLt (ae m) u/\aq G<=64/\Y.length=G.length/\AllLt (ae m) Y/\jq m Y G (aq G)=aT (aq G) 0/\gd m Y u=1/\Q (.bl true)
theorem aF6(T:Txt K mg t):aS P w K mg base bc 4 t.FY t.FZ ["_law_told_here","_law_table_here","_law_due","_law_found"] (bK (aF5 )):=by
 refine cq T.P4 Pf ?_ ?_
 ·intro ds Q h
  obtain⟨m,G,u,Y,rfl,hm,iz,hG,hu,hR,ku,hw,hY,Ap,y1,y2,q⟩:=h<;>rfl
 ·intro aG A outer s H E hr
  refine⟨_,(aK (bw (i:=4) Pf.nd rfl (ay rfl) (iq (j6) (by rfl) T.km jQ (ah (bC (bv 1) (af aw) (λ_ _=>rfl)) aB)))
   (aK (cY (wa (lj (af (br ((Qq T).mono (by decide)) hr rfl T.P1 T.Gs.kp T.P2 aX (ah (bv 3) (ah (af (iq (j6) (by rfl) T.km jQ (ah (bv 1) aB))) (ah (af (br ((xG T).mono (by decide)) hr rfl T.xh T.uQ.kp T.xi aX (ah (bv 0) aB))) aB))))))) (aO (bf jf)) cX)
   (aO (bf (tu (af (nI (fG (dq hr)) (af (br ((Qe T).mono (by decide)) hr rfl T.PC T.Gi.kp T.PD aX (ah (bv 0) (ah (bv 3) (ah (bv 1) (ah (bv 4) aB)))))) (af (eE [] ["_law_k"] rfl (jV rfl T.gY (ah (bv 4) aB)) (λ_ _ _ _=>(cZ (i:=0) (show(["_law_k"]:List Str).Nodup by decide +kernel) rfl (ay (lookup_relabel_local rfl)) (by decide) (bg (lookup_relabel_local rfl)))) (λ_ _ _ _=>dB) (λ_ _ _ _=>aw) rfl trivial (λ_=>by repeat' (first | exact trivial | refine⟨.inl rfl,?_⟩ | refine⟨.inr (.inl rfl),?_⟩ | refine⟨.inr (.inr ⟨_,rfl⟩),?_⟩)) (λ_=>trivial) rfl (by decide +kernel))) (cB _))) (qv (nI (fG (dq hr)) (af (br ((Al T).mono (by decide)) hr rfl T.z7 T.xg.kp T.z8 aX (ah (bv 0) (ah (bv 3) (ah (bv 2) aB))))) (af aw) (cB _)))))))),λds Q h=>?_⟩
  obtain⟨m,G,u,Y,rfl,hm,iz,hG,hu,hR,ku,hw,hY,Ap,y1,y2,q⟩:=h
  have iF:=(dk hm).lo
  have GF:=zA m hm
  refine aH λU hU=>?_
  walk_at"l3"
  refine⟨.lst false (au G[0]),rR false iz,?_⟩
  dsimp only
  rw[fJ,(hR _ (cN iz)).1]
  refine hU _ ?_
  clear hU U
  refine aH λU hU=>?_
  walk_at"l3"
  refine⟨m,rfl,by omega,by omega,Y,G.length,ae m,rfl,hY,by omega,Ap,rfl,true,rfl,?_⟩
  rw[if_neg (by decide)]
  refine hU _ ?_
  clear hU U
  walk_at"l3"
  refine⟨m,Y,G,aq G,rfl,hm,Ap,by omega,hY.symm,by omega,hR,⟨by omega,by omega⟩,Zw (n:=aq G) rfl (by omega) ?_⟩
  refine⟨⟨pf 5 true _,pf 5 true _⟩,?_⟩
  rw[ph,decide_eq_true y1,if_pos rfl]
  refine⟨m,Y,u,by simp only[ka,di,N2],hm,by omega,by omega,Ap,ku,by rw[mq,fo],rfl,?_⟩
  rw[y2]
  exact q
theorem Qr{l:List Nat}{i:Nat}(h:i<l.length):cf l i=l[i]:=by unfold cf;rw[aR,aQ h];rfl
theorem bL6{o:Bool}{G:List (List Nat)}{i:Nat}{d:D}(hd:(aJ o G)[i]?=some d):∃hi:i<G.length,d=.lst o (au G[i]):=by
 unfold aJ at hd
 rw[cI]at hd
 by_cases hi:i<G.length
 ·rw[aQ hi]at hd
  exact⟨hi,(cu hd).symm⟩
 ·rw[iB (by omega)]at hd;cases hd
noncomputable abbrev aI2(t:kN)(P:Program)(w:World)(K:Frag)(mg:Str->Option Value)(base:Heap):bG:=λds Q=>∃(m:Bool × Nat) (G:List (List Nat)) (u X:List Nat),ds=[cL m,fD t.aV t.aY m,.lst false (aJ false G),.lst false (au u),.lst false (au X)]/\m∈aM/\0<G.length/\G.length<=64/\u.length=G.length/\RT (ae m) (aq G) G/\AllLt (ae m) u/\aq G<=64/\X.length=aq G/\AllLt (ae m) X/\(∀a,a<G.length->sm (gp m) (aq G) (λj=>gm m (cf (G.getD a []) j) (cf X j))=cf u a)/\(∀k,cf X k≠0->k∈(bW m G).map bA)/\Q (.bl true)
theorem aI3(T:Txt K mg t):aS P w K mg base bc 4 t.Ga t.Gb ["_law_told_here","_law_field_here","_law_table_here","_law_due","_law_found"] (bK (aI2 t P w K mg base)):=by
 refine cq T.P5 zZ ?_ ?_
 ·intro ds Q h
  obtain⟨m,G,u,X,rfl,hm,iz,hG,hu,hR,ku,hw,hX,GJ,x1,x2,q⟩:=h<;>rfl
 ·intro aG A outer s H E hr
  refine⟨_,(aK (bw (i:=5) zZ.nd rfl (ay rfl) (iq (j6) (by rfl) T.km jQ (ah (bC (bv 2) (af aw) (λ_ _=>rfl)) aB)))
   (aK (cY (wa (lj (af (br ((Qq T).mono (by decide)) hr rfl T.P1 T.Gs.kp T.P2 aX (ah (bv 4) (ah (bv 5) (ah (af (br ((xG T).mono (by decide)) hr rfl T.xh T.uQ.kp T.xi aX (ah (bv 0) aB))) aB))))))) (aO (bf jf)) cX)
   (aK (cY (cU (lZ (dq hr)) (af (eE [("_law_told_here",0),("_law_found",4)] ["_law_row"] rfl (iK (bv 2)) (λ_ _ _ _=>(cZ (i:=2) (show(["_law_told_here","_law_found","_law_row"]:List Str).Nodup by decide +kernel) rfl (ay (lookup_relabel_local rfl)) (by decide) (bg (lookup_relabel_local rfl)))) (λ_ _ _ _=>dB) (λ_ _ _ _=>(br ((Al T).mono (by decide)) hr rfl T.z7 T.xg.kp T.z8 aX (ah (bv 0) (ah (bv 2) (ah (bv 1) aB))))) rfl ⟨rfl,⟨rfl,trivial⟩⟩ (λ_=>by repeat' (first | exact trivial | refine⟨.inl rfl,?_⟩ | refine⟨.inr (.inl rfl),?_⟩ | refine⟨.inr (.inr ⟨_,rfl⟩),?_⟩)) (λ_=>⟨⟨rfl,.inl rfl,.inl rfl,_,rfl,rfl⟩,⟨⟨rfl,.inl rfl,.inl rfl,_,rfl,rfl⟩,trivial⟩⟩) rfl (by decide +kernel))) (bv 3) (cB _)) (aO (bf jf)) cX)
   (bN5 (P:=P) (w:=w) (i:=6) zZ.nd rfl (bg rfl) (by first | exact ay rfl | exact bg (ay rfl)) (Dh hr) g6 rfl (Xk (br ((Qn T).mono (by decide)) hr rfl T.PM T.Gk.kp T.PN aX (ah (bv 1) (ah (af (br ((Qp T).mono (by decide)) hr rfl T.PY T.Gr.kp T.PZ aX (ah (bv 2) aB))) aB)))) (cZ (i:=7) zZ.nd rfl (ay rfl)) (af (bO5 (af (eE [] ["_law_x"] rfl (iK (bv 7)) (λ_ _ _ _=>(cZ (i:=0) (show(["_law_x"]:List Str).Nodup by decide +kernel) rfl (ay (lookup_relabel_local rfl)) (by decide) (bg (lookup_relabel_local rfl)))) (λ_ _ _ _=>dB) (λ_ _ _ _=>(yU Zz (by rfl) T.P7 LJ (ah (af (nI (lZ (dq hr)) (bv 0) (af aw) (cB _))) aB))) rfl trivial (λ_=>by repeat' (first | exact trivial | refine⟨.inl rfl,?_⟩ | refine⟨.inr (.inl rfl),?_⟩ | refine⟨.inr (.inr ⟨_,rfl⟩),?_⟩)) (λ_=>trivial) rfl (by decide +kernel))) (af aw)))
   (aO (bf (iq (Dk rfl) (by rfl) T.Gu CG (ah (af (eE [("_law_heads",6),("_law_found",4)] ["_law_k"] rfl (jV rfl T.gY (ah (bv 5) aB)) (λ_ _ _ _=>(cZ (i:=2) (show(["_law_heads","_law_found","_law_k"]:List Str).Nodup by decide +kernel) rfl (ay (lookup_relabel_local rfl)) (by decide) (bg (lookup_relabel_local rfl)))) (λ_ _ _ _=>dB) (λ_ _ _ _=>(Xh (af (nI (fG (dq hr)) (bC (bv 1) (bv 2) (λ_ _=>rfl)) (af aw) (cB _))) (qv (nI (ca5 (P:=P) (w:=w)) (bv 2) (bv 0) (by with_unfolding_all rfl))))) rfl ⟨rfl,⟨rfl,trivial⟩⟩ (λ_=>by repeat' (first | exact trivial | refine⟨.inl rfl,?_⟩ | refine⟨.inr (.inl rfl),?_⟩ | refine⟨.inr (.inr ⟨_,rfl⟩),?_⟩)) (λ_=>⟨⟨rfl,.inl rfl,.inl rfl,_,rfl,rfl⟩,⟨⟨rfl,.inl rfl,.inl rfl,_,rfl,rfl⟩,trivial⟩⟩) rfl (by decide +kernel))) aB)))))))),λds Q h=>?_⟩
  obtain⟨m,G,u,X,rfl,hm,iz,hG,hu,hR,ku,hw,hX,GJ,x1,x2,q⟩:=h
  have iF:=(dk hm).lo
  have GF:=zA m hm
  refine aH λU hU=>?_
  walk_at"l3"
  refine⟨.lst false (au G[0]),rR false iz,?_⟩
  dsimp only
  rw[fJ,(hR _ (cN iz)).1]
  refine hU _ ?_
  clear hU U
  refine aH λU hU=>?_
  walk_at"l3"
  refine⟨m,rfl,by omega,by omega,X,aq G,ae m,rfl,hX,by omega,GJ,rfl,true,rfl,?_⟩
  rw[if_neg (by decide)]
  refine hU _ ?_
  clear hU U
  refine aH λU hU=>?_
  walk_at"l3"
  refine eC G (λr=>D.lst false (au r)) (λr=>D.int ((gd m r X:Nat):Int)) (by rw[dM];rfl) (λa b h=>rN a b h) (λr bh=>?_) (.inr λr _=>rfl) (by rw[sL];omega) ?_
  ·walk_at"l3"
   exact⟨m,r,X,rfl,hm,by rw[(hR r bh).1,hX],by rw[(hR r bh).1];omega,(hR r bh).2,GJ,rfl⟩
  have eu:(G.map λr=>gd m r X)=u:=by
   refine vm (by simp[hu]) λa h1 h2=>?_
   rw[jH]
   have h3:a<G.length:=by simpa using h1
   have:=x1 a h3
   rw[kj h3]at this
   rw[Eu m (hR _ (cN h3)).1 hX,this]
   exact Qr h2
  rw[show(G.map λr=>D.int ((gd m r X:Nat):Int))=au (G.map λr=>gd m r X) by rw[dj,cS];rfl,eu]
  refine⟨⟨pf 5 true _,pf 5 _ _⟩,?_⟩
  rw[ph,decide_eq_true rfl,if_neg (by decide)]
  refine hU _ ?_
  clear hU U
  have kr:∀X:List (List Nat),(D.lst true (aJ true X)).fr=true:=λX=>by rw[eL,wW];rfl
  have pM:∀X:List (List Nat),(D.lst true (aJ true X)).sh=D.lst false (aJ false X):=λX=>by rw[di,dM]
  obtain⟨⟨Hd,I⟩,iR,il,_⟩:=pq hm hR
  have nz:∀r∈bW m G,∃x∈r,x≠0:=λr bh=>by
   obtain⟨i,hi,rfl⟩:=fe bh
   have:=(I.rT hm iR hi).2
   rw[kj hi]at this
   exact this
  walk_at"l3"
  refine⟨by decide,G,rfl,by omega,m,G,by rw[pM],hm,by omega,hR,by omega,by rw[kr,fo],_,rfl,?_⟩
  rw[dM]
  refine⟨λj δ=>∃o,δ=[some (cL m),some (fD t.aV t.aY m),some (D.lst false (aJ false G)),some (D.lst false (au u)),some (D.lst false (au X)),some (D.int ↑(aq G)),none,o],λj=>((bA ((bW m G).getD j []):Nat):Int),⟨_,rfl⟩,?_,by rw[iO];omega,?_⟩
  ·rintro j d δ hd ⟨o,rfl⟩
   obtain⟨hj,rfl⟩:=bL6 hd
   refine⟨?_,_,rfl⟩
   have hz:=nz _ (cN hj)
   have ll:=(iR _ (cN hj)).1
   have eg:=kj hj
   walk_at"l3"
   rw[eg]
   generalize (bW m G)[j]=r at hz ll
   refine eC r (λ(i:Nat)=>D.int (i:Int)) (λx=>D.int (if x=0 then 0 else 1)) (wB _) iN (λx hx=>?_) (.inr λ_ _=>rfl) (by rw[sL];omega) ?_
   ·walk_at"l3"
    by_cases e:x=0
    ·rw[if_pos e,e];rfl
    ·rw[if_neg e,decide_eq_false (by omega)];rfl
   ·obtain⟨x,hx,h0⟩:=hz
    have hl:bA r<r.length:=Km ⟨x,hx,by simpa using h0⟩
    have hp:r[bA r]≠0:=by
     have:=Sw (w:=hl)
     unfold bA
     simpa using this
    refine⟨true,r.map λx=>if x=0 then 0 else 1,by unfold aD;rw[cS];rfl,1,bA r,rfl,?_,λk hk=>?_,rfl⟩
    ·rw[cI,aQ hl,iC,if_neg hp]
    ·have h1:=Sx hk
     have h2:k<r.length:=by omega
     rw[aR,cI,aQ h2,iC,if_pos (by simpa using h1)]
     decide
  ·rintro δ ⟨o,rfl⟩
   rw[iO]
   have ek:(aP (bW m G).length).map (λj=>((bA ((bW m G).getD j []):Nat):Int))=((bW m G).map bA).map λ(n:Nat)=>(n:Int):=by
    refine vm (by simp) λj h1 h2=>?_
    simp at h1
    rw[jH,BR,kj h1,jH,jH]
   rw[ek]
   walk_at"l3"
   refine⟨⟨by omega,by omega⟩,eC (aP (aq G)) (λ(i:Nat)=>D.int (i:Int)) (λ_=>D.bl true) (rM _ rfl) iN (λk hk=>?_) (.inr λ_ _=>rfl) (by rw[dQ,sL];omega) ?_⟩
   ·have hk:=dE.mp hk
    walk_at"l3"
    refine⟨.int (X.getD k 0:Nat),by rw[kg (by omega) (by omega),g5],rfl,?_⟩
    rw[show D.int 0=D.int ((0:Nat):Int) from rfl,jn]
    by_cases h0:X.getD k 0=0
    ·rw[h0,decide_eq_true rfl,if_pos rfl];trivial
    ·rw[decide_eq_false (by omega),if_neg (by decide)]
     exact⟨_,rfl,cx.mpr ⟨k,x2 k h0,rfl⟩⟩
   ·refine⟨(aP (aq G)).map λ_=>true,by unfold wo;rw[cS];rfl,?_⟩
    rw[show(((aP (aq G)).map λ_=>true).all id)=true by simp]
    exact q
theorem Qs(A:List (List Nat))(u:List Nat)(o o1 o2:Bool):aI 6 (.lst o [.lst o1 (aJ o1 A),.lst o2 (au u)])=true:=by
 show([D.lst o1 (aJ o1 A),D.lst o2 (au u)]).all (aI 5)=true
 rw[dh,dh,Oe 3,pf 4];rfl
theorem bR0(A:List (List Nat))(u:List Nat)(o o1 o2 o' o3 o4:Bool):bx (.lst o [.lst o1 (aJ o1 A),.lst o2 (au u)]) (.lst o' [.lst o3 (aJ o3 A),.lst o4 (au u)])=true:=by
 have h1:=Og o1 o3 o1 o3 A A
 have h2:=ph o2 o4 u u
 show(bx _ _&&(bx _ _&&true))=true
 rw[h1,h2,decide_eq_true rfl,decide_eq_true rfl];rfl
theorem cb3(T:Txt K mg t)(hB:Bm mg base):aS P w K mg base bc 11 t.Gd t.Ge ["_law_script"] (wD [t.jv,t.jw] (bK (MQ ))):=by
 refine Nz T.cG0 gW ?_ ?_
 ·intro ds Q h
  obtain⟨ns,rfl,hl,q⟩:=h<;>rfl
 ·intro aG A outer s H E hT hr
  refine⟨_,(aK (bw (i:=1) gW.nd rfl (bg rfl) (br ((aH4 T).mono (by decide)) hr rfl T.aI6 T.Pj.kp T.aI7 aX (ah (af (br ((m4 T).mono (by decide)) hr rfl T.mY T.kl.kp T.mZ aX (ah (bv 0) (ah (af aw) aB)))) aB)))
   (aK (bw (i:=2) gW.nd rfl (ay rfl) (YW hT ((aE6 T hB).mono (by decide)) hr rfl T.aG2 T.Py.kp T.aG3 aX (ah (bv 1) aB)))
   (aK (bw (i:=3) gW.nd rfl (ay rfl) (aL eT (af aw) (af (aL dJ (af (br ((m4 T).mono (by decide)) hr rfl T.mY T.kl.kp T.mZ aX (ah (bv 0) (ah (af aw) aB)))) (af aw)))))
   (aK (bw (i:=4) gW.nd rfl (ay rfl) (aL eT (af aw) (af (aL dJ (af (aL qS (af (br ((m4 T).mono (by decide)) hr rfl T.mY T.kl.kp T.mZ aX (ah (bv 0) (ah (af aw) aB)))) (af aw))) (af aw)))))
   (aK (bw (i:=5) gW.nd rfl (ay rfl) (br ((aF0 T).mono (by decide)) hr rfl T.aG6 T.PF.kp T.aG7 aX (ah (bv 1) (ah (bv 0) (ah (af aw) (ah (bv 3) (ah (bv 4) (ah (af (aL dJ (af (br ((m4 T).mono (by decide)) hr rfl T.mY T.kl.kp T.mZ aX (ah (bv 0) (ah (af aw) aB)))) (af aw))) aB))))))))
   (aK (zI (i:=6) gW.nd rfl (ay rfl) [("_law_script",0),("_law_told_here",1)] ["_law_k"] rfl (jV rfl T.gY (ah (bv 3) aB)) (λ_ _ _ _=>(cZ (i:=2) (show(["_law_script","_law_told_here","_law_k"]:List Str).Nodup by decide +kernel) rfl (ay (lookup_relabel_local rfl)) (by decide) (bg (lookup_relabel_local rfl)))) (λ_ _ _ _=>dB) (λ_ _ _ _=>(aL dJ (af (br ((m4 T).mono (by decide)) hr rfl T.mY T.kl.kp T.mZ aX (ah (bv 0) (ah (af (aL eT (af aw) (bv 2))) aB)))) (af (br ((xG T).mono (by decide)) hr rfl T.xh T.uQ.kp T.xi aX (ah (bv 1) aB))))) rfl ⟨rfl,⟨rfl,trivial⟩⟩ (λ_=>by repeat' (first | exact trivial | refine⟨.inl rfl,?_⟩ | refine⟨.inr (.inl rfl),?_⟩ | refine⟨.inr (.inr ⟨_,rfl⟩),?_⟩)) (λ_=>⟨⟨rfl,.inl rfl,.inl rfl,_,rfl,rfl⟩,⟨⟨rfl,.inl rfl,.inl rfl,_,rfl,rfl⟩,trivial⟩⟩) rfl (by decide +kernel))
   (aK (bw (i:=7) gW.nd rfl (ay rfl) (nI (fG (dq hr)) (af (aL dJ (af (aL qS (af (br ((m4 T).mono (by decide)) hr rfl T.mY T.kl.kp T.mZ aX (ah (bv 0) (ah (af aw) aB)))) (af aw))) (af aw))) (af aw) (cB _)))
   (aK (cY (lj (bv 7)) (aK (bw (i:=8) gW.nd rfl (bg rfl) (eE [("_law_script",0),("_law_told_here",1)] ["_law_k"] rfl (jV rfl T.gY (ah (bv 4) aB)) (λ_ _ _ _=>(cZ (i:=2) (show(["_law_script","_law_told_here","_law_k"]:List Str).Nodup by decide +kernel) rfl (ay (lookup_relabel_local rfl)) (by decide) (bg (lookup_relabel_local rfl)))) (λ_ _ _ _=>dB) (λ_ _ _ _=>(aL dJ (af (br ((m4 T).mono (by decide)) hr rfl T.mY T.kl.kp T.mZ aX (ah (bv 0) (ah (af (aL eT (af aw) (bv 2))) aB)))) (af (br ((xG T).mono (by decide)) hr rfl T.xh T.uQ.kp T.xi aX (ah (bv 1) aB))))) rfl ⟨rfl,⟨rfl,trivial⟩⟩ (λ_=>by repeat' (first | exact trivial | refine⟨.inl rfl,?_⟩ | refine⟨.inr (.inl rfl),?_⟩ | refine⟨.inr (.inr ⟨_,rfl⟩),?_⟩)) (λ_=>⟨⟨rfl,.inl rfl,.inl rfl,_,rfl,rfl⟩,⟨⟨rfl,.inl rfl,.inl rfl,_,rfl,rfl⟩,trivial⟩⟩) rfl (by decide +kernel)))
    (aO (zI (i:=6) gW.nd rfl (ay rfl) [("_law_told_here",1),("_law_signs",8)] ["_law_row"] rfl (iK (bv 5)) (λ_ _ _ _=>(cZ (i:=2) (show(["_law_told_here","_law_signs","_law_row"]:List Str).Nodup by decide +kernel) rfl (ay (lookup_relabel_local rfl)) (by decide) (bg (lookup_relabel_local rfl)))) (λ_ _ _ _=>dB) (λ_ _ _ _=>(br ((Al T).mono (by decide)) hr rfl T.z7 T.xg.kp T.z8 aX (ah (bv 0) (ah (bv 2) (ah (bv 1) aB))))) rfl ⟨rfl,⟨rfl,trivial⟩⟩ (λ_=>by repeat' (first | exact trivial | refine⟨.inl rfl,?_⟩ | refine⟨.inr (.inl rfl),?_⟩ | refine⟨.inr (.inr ⟨_,rfl⟩),?_⟩)) (λ_=>⟨⟨rfl,.inl rfl,.inl rfl,_,rfl,rfl⟩,⟨⟨rfl,.inl rfl,.inl rfl,_,rfl,rfl⟩,trivial⟩⟩) rfl (by decide +kernel)))) cX)
   (aK (bw (i:=9) gW.nd rfl (ay rfl) (gI (e5 (br ((Qp T).mono (by decide)) hr rfl T.PY T.Gr.kp T.PZ aX (ah (bv 5) aB)) (e5 (yU (Dj) (by rfl) T.Af yA (ah (bv 6) aB)) fh))))
   (aK (bw (i:=10) gW.nd rfl (ay rfl) (br ((GI T).mono (by decide)) hr rfl T.Gp T.Ab.kp T.Gq aX (ah (bv 2) (ah (bC (bv 9) (af aw) (λ_ _=>rfl)) (ah (bC (bv 9) (af aw) (λ_ _=>rfl)) aB)))))
   (aK (bw (i:=11) gW.nd rfl (ay rfl) (br ((aK5 T).mono (by decide)) hr rfl T.cF2 T.PX.kp T.cF3 aX (ah (bv 2) (ah (bC (bv 9) (af aw) (λ_ _=>rfl)) (ah (bC (bv 9) (af aw) (λ_ _=>rfl)) aB)))))
   (aK (cY (cU (lZ (dq hr)) (bv 9) (zL (ah (bv 5) (ah (bv 6) aB))) (cB _)) (aO (bf jf)) cX)
   (aK (cY (cU XA (bv 10) (af v9) (cB _)) (aO (bf (tu (af (Mi (bv 7))) (qv (br ((aF6 T).mono (by decide)) hr rfl T.aH1 T.P4.kp T.aH2 aX (ah (bv 1) (ah (bv 5) (ah (bv 6) (ah (bv 11) aB))))))))) cX)
   (aK (cY (PW.pt (Mh (cU MB (bv 11) (af v9) (cB _)) (Kz (wa (lj (af (br ((aI3 T).mono (by decide)) hr rfl T.aJ0 T.P5.kp T.aJ1 aX (ah (bv 1) (ah (bv 2) (ah (bv 5) (ah (bv 6) (ah (bv 10) aB)))))))))))) (aO (bf jf)) cX)
   (aK (bw (i:=12) gW.nd rfl (ay rfl) (yU (Dj) (by rfl) T.Af yA (ah (bv 10) aB)))
   (aK (Ds (i:=10) rfl (by first | exact ay rfl | exact bg (ay rfl)) (aL eT (bC (bv 10) (af aw) (λ_ _=>rfl)) (af aw)) (af aw))
   (aO (bf (nI (fG (dq hr)) (af (br ((GI T).mono (by decide)) hr rfl T.Gp T.Ab.kp T.Gq aX (ah (bv 2) (ah (bC (bv 9) (af aw) (λ_ _=>rfl)) (ah (bC (bv 9) (af aw) (λ_ _=>rfl)) aB))))) (bv 12) (cB _)))))))))))))))))))),λds Q h=>?_⟩
  obtain⟨ns,rfl,hl,q⟩:=h
  refine aH λU hU=>?_
  walk_at"l3"
  refine⟨ns,0,rfl,by decide,by decide,_,rfl,rfl,hU _ ?_⟩
  clear hU U
  generalize hmm:pd (eU ns 0)=m
  have hm:m∈aM:=by rw[<-hmm];exact Zj _
  have hF:=dk hm
  have iF:=hF.lo
  have hhi:=hF.hi
  have GF:=zA m hm
  have m0:=cV m hm
  refine aH λU hU=>?_
  walk_at"l3"
  refine⟨m,rfl,hm,hU _ ?_⟩
  clear hU U
  refine aH λU hU=>?_
  walk_at"l3"
  refine⟨ns,1,rfl,by decide,by decide,by decide,?_⟩
  obtain⟨r,er,w9,hr4⟩:∃k:Nat,1+eU ns 1%4=k/\1<=k/\k<=4:=⟨(1+eU ns 1%4).toNat,by omega,by omega,by omega⟩
  rw[er]
  refine hU _ ?_
  clear hU U
  refine aH λU hU=>?_
  walk_at"l3"
  refine⟨ns,1,rfl,by decide,by decide,?_⟩
  dsimp only
  obtain⟨wi,ew,Qf,hw5⟩:∃k:Nat,1+eU ns 1/4%4=k/\1<=k/\k<=5:=⟨(1+eU ns 1/4%4).toNat,by omega,by omega,by omega⟩
  rw[ew]
  refine⟨qR (by decide) (by decide),by decide,hU _ ?_⟩
  clear hU U
  refine aH λU hU=>?_
  walk_at"l3"
  refine⟨ns,2,rfl,by decide,by decide,?_⟩
  dsimp only
  obtain⟨y,ey⟩:∃k:Nat,eU ns 2%4=k:=⟨(eU ns 2%4).toNat,by omega⟩
  rw[ey]
  refine⟨by decide,m,ns,7,r,wi,y,rfl,hm,by decide,by omega,by omega,by omega,λG hGl fQ=>?_⟩
  have kr:∀X:List (List Nat),(D.lst true (aJ true X)).fr=true:=λX=>by rw[eL,wW];rfl
  have pM:∀X:List (List Nat),(D.lst true (aJ true X)).sh=D.lst false (aJ false X):=λX=>by rw[di,dM]
  have g0:0<G.length:=by omega
  have eW:aq G=wi:=OO fQ (λz=>by rw[z]at g0;simp at g0)
  subst eW
  refine hU _ ?_
  clear hU U
  have Am:∀z:Int,z%(ae m:Int)=(((z%(ae m:Int)).toNat:Nat):Int):=λz=>by
   have n0:=kF z (show(ae m:Int)≠0 by omega)
   omega
  have An:∀z:Int,(z%(ae m:Int)).toNat<ae m:=λz=>by
   have n1:=kG z (show(0:Int)<(ae m:Int) by omega)
   omega
  refine aH λU hU=>?_
  walk_at"l3"
  refine⟨⟨by omega,by omega⟩,eC (aP r) (λ(i:Nat)=>D.int (i:Int)) (λk=>D.int (((eU ns (3+(k:Int))%(ae m:Int)).toNat:Nat):Int)) (rM _ rfl) iN (λk hk=>?_) (.inr λ_ _=>rfl) (by rw[dQ,sL];omega) ?_⟩
  ·have hk:=dE.mp hk
   walk_at"l3"
   refine⟨ns,_,rfl,by omega,by omega,m,rfl,by omega,by omega,?_⟩
   dsimp only
   exact⟨by omega,Am _⟩
  obtain⟨u0,Qt,aW,Qu⟩:∃wd:List Nat,((aP r).map λ(k:Nat)=>D.int (((eU ns (3+(k:Int))%(ae m:Int)).toNat:Nat):Int))=au wd/\AllLt (ae m) wd/\wd.length=r:=by
   refine⟨(aP r).map λ(k:Nat)=>(eU ns (3+(k:Int))%(ae m:Int)).toNat,by rw[dj,cS];rfl,λa ha=>?_,by simp⟩
   obtain⟨k,_,rfl⟩:=cx.mp ha
   exact An _
  rw[Qt]
  clear Qt
  refine hU _ ?_
  clear hU U
  simp only[iE,iD]
  refine aH λU hU=>?_
  walk_at"l3"
  refine⟨ns,2,rfl,by decide,by decide,?_⟩
  dsimp only
  refine⟨qR (by decide) (by decide),by decide,hU _ ?_⟩
  clear hU U
  refine aH λU hU=>?_
  walk_at"l3"
  have fin:∀(bu:Bool) (u:List Nat) (o:Option D),AllLt (ae m) u->u.length=r->(bu=true->∃x:Nat->Nat,(∀j,x j<ae m)/\∀a,a<G.length->sm (gp m) (aq G) (λj=>gm m (cf (G.getD a []) j) (x j))=cf u a)->U [some (D.fz (aD ns)),some (cL m),some (fD t.aV t.aY m),some (D.int ↑r),some (D.int ↑(aq G)),some (D.lst true (aJ true G)),some (D.lst true (au u)),some (D.bl bu),o,none,none,none,none]:=by
   clear aW Qu u0
   intro bu u o hu lu hb
   refine hU _ ?_
   clear hU U
   refine aH λU hU=>?_
   walk_at"l3"
   refine⟨G,rfl,by omega,kr _,by decide,hU _ ?_⟩
   clear hU U
   obtain⟨w1,w2,w3⟩:=pz g0 (show u.length=G.length by omega) fQ hu
   have w4:=w3
   rw[<-w1]at w4
   obtain⟨⟨Hd,I⟩,iR,il,_⟩:=pq hm w4
   have Qv:∀x∈bW m (bb G u),∃z∈x,z≠0:=λx hx=>by
    obtain⟨i,hi,rfl⟩:=fe hx
    have:=(I.rT hm iR hi).2
    rw[kj hi]at this
    exact this
   have GK:∀o,(pL o).fr=true:=λo=>by
    cases o with
    | none=>rfl
    | some l=>exact kh l
   refine aH λU hU=>?_
   walk_at"l3"
   refine⟨_,rfl,_,rfl,m,G,u,by rw[pM,mJ],hm,g0,by omega,by omega,fQ,hu,by omega,Qv,by rw[GK,fo],hU _ ?_⟩
   clear hU U
   refine aH λU hU=>?_
   walk_at"l3"
   refine⟨_,rfl,_,rfl,m,G,u,by rw[pM,mJ],hm,g0,by omega,by omega,fQ,hu,by omega,by rw[GK,fo],hU _ ?_⟩
   clear hU U
   refine aH λU hU=>?_
   walk_at"l3"
   refine⟨by decide,⟨Qs _ _ _ _ _,Qs _ _ _ _ _⟩,?_⟩
   rw[bR0,if_neg (by decide)]
   refine hU _ ?_
   clear hU U
   cases hX:gk m G u with
   | none =>
    obtain⟨Y,y1,y2,y3,y4,y5⟩:=bO1 hm g0 (by omega) fQ hu hX
    have hbf:bu=false:=by
     cases bu with
     | false=>rfl
     | true =>
      obtain⟨x,x1,x2⟩:=hb rfl
      obtain⟨X,e,_⟩:=OL hm g0 (by omega) fQ hu x1 x2
      rw[hX]at e;cases e
    subst hbf
    rw[y1]
    refine aH λU hU=>?_
    walk_at"l3"
    rw[if_pos (by rfl)]
    exact⟨m,G,u,Y,by rw[show(pL (some Y)).sh=D.lst false (au Y) from mJ true Y],hm,g0,by omega,by omega,fQ,hu,by omega,y2,y3,y4,y5,rfl,q⟩
   | some X =>
    obtain⟨x1,x2,x3,x4⟩:=O6 hm g0 (by omega) fQ hu hX
    rw[bP3 hm g0 (by omega) fQ hu (de hm x2) x3]
    refine aH λU hU=>?_
    walk_at"l3"
    rw[if_neg (λz=>by simp[pL]at z)]
    refine hU _ ?_
    clear hU U
    simp only[pL]
    refine aH λU hU=>?_
    walk_at"l3"
    refine⟨m,G,u,X,rfl,hm,g0,by omega,by omega,fQ,hu,by omega,x1,x2,x3,x4,rfl,true,rfl,?_⟩
    rw[if_neg (by decide)]
    refine hU _ ?_
    clear hU U
    refine aH λU hU=>?_
    walk_at"l3"
    refine hU _ ?_
    clear hU U
    refine aH λU hU=>?_
    walk_at"l3"
    refine⟨.int (X.getD 0 0:Nat),by rw[kg (by omega) (by omega)];rfl,?_⟩
    dsimp only
    refine⟨_,0,rfl,by rw[N4 (by omega) (by rw[fJ];omega)];rfl,hU _ ?_⟩
    clear hU U
    generalize (D.lst true ((au X).set 0 (D.int (((X.getD 0 0:Nat):Int)+1))))=dy9
    walk_at"l3"
    refine⟨_,rfl,_,rfl,m,G,u,by rw[pM,mJ],hm,g0,by omega,by omega,fQ,hu,by omega,Qv,by rw[GK,fo],?_⟩
    rw[hX]
    simp only[pL]
    refine⟨pf 5 true _,?_⟩
    rw[ph,decide_eq_true rfl]
    exact q
  split
  ·rename_i fK
   refine aH λU hU=>?_
   walk_at"l3"
   refine⟨⟨by omega,by omega⟩,eC (aP (aq G)) (λ(i:Nat)=>D.int (i:Int)) (λk=>D.int (((eU ns (3+(k:Int))%(ae m:Int)).toNat:Nat):Int)) (rM _ rfl) iN (λk hk=>?_) (.inr λ_ _=>rfl) (by rw[dQ,sL];omega) ?_⟩
   ·have hk:=dE.mp hk
    walk_at"l3"
    refine⟨ns,_,rfl,by omega,by omega,m,rfl,by omega,by omega,?_⟩
    dsimp only
    exact⟨by omega,Am _⟩
   obtain⟨sg,Qw,Qx,GL⟩:∃wd:List Nat,((aP (aq G)).map λ(k:Nat)=>D.int (((eU ns (3+(k:Int))%(ae m:Int)).toNat:Nat):Int))=au wd/\AllLt (ae m) wd/\wd.length=aq G:=by
    refine⟨(aP (aq G)).map λ(k:Nat)=>(eU ns (3+(k:Int))%(ae m:Int)).toNat,by rw[dj,cS];rfl,λa ha=>?_,by simp⟩
    obtain⟨k,_,rfl⟩:=cx.mp ha
    exact An _
   rw[Qw]
   clear Qw
   refine hU _ ?_
   clear hU
   simp only[iE,iD]
   walk_at"l3"
   refine eC G (λr=>D.lst false (au r)) (λr=>D.int ((gd m r sg:Nat):Int)) (by rw[dM];rfl) (λa b h=>rN a b h) (λx hx=>?_) (.inr λ_ _=>rfl) (by rw[sL];omega) ?_
   ·walk_at"l3"
    exact⟨m,x,sg,rfl,hm,by rw[(fQ x hx).1,GL],by rw[(fQ x hx).1];omega,(fQ x hx).2,Qx,rfl⟩
   rw[show(G.map λr=>D.int ((gd m r sg:Nat):Int))=au (G.map λr=>gd m r sg) by rw[dj,cS];rfl]
   simp only[iE,iD]
   refine fin _ _ _ (λz hz=>?_) (by rw[bV,hGl]) λ_=>⟨cf sg,de hm Qx,λa h1=>?_⟩
   ·obtain⟨x,hx,rfl⟩:=cx.mp hz
    exact OH hm (by rw[(fQ x hx).1,GL])
   ·have h2:a<(G.map λr=>gd m r sg).length:=by rw[bV];exact h1
    rw[Qr h2,jH,Eu m (fQ _ (cN h1)).1 GL,kj h1]
  ·rename_i fK
   exact fin _ u0 _ aW Qu λz=>absurd (of_decide_eq_true z) fK
end
set_option maxHeartbeats 0 in
theorem all_mk{l:PySem.W.OpenLaw}{w:World}{K:Frag}{h:Heap}{mg:Str->Option Value}{fa:Addr}{ts:List Addr}(X:K.In h)(G:h.Ns mainGlobals mg)(hfa:mg "law"=some (.ref fa))
  {od0 an0:Option Addr} {sl0:Array (Option Value)} {oc0 kV0 dc0 pm0 Qy ct0:Value} {f0:Addr}
  {od1 an1:Option Addr} {sl1:Array (Option Value)} {oc1 kV1 dc1 pm1 Qz ct1:Value} {f1:Addr}
  {od2 an2:Option Addr} {sl2:Array (Option Value)} {oc2 kV2 dc2 pm2 QB ct2:Value} {f2:Addr}
  {od3 an3:Option Addr} {sl3:Array (Option Value)} {oc3 kV3 dc3 pm3 QC ct3:Value} {f3:Addr}
  {od4 an4:Option Addr} {sl4:Array (Option Value)} {oc4 kV4 dc4 pm4 QD ct4:Value} {f4:Addr}
  {od5 an5:Option Addr} {sl5:Array (Option Value)} {oc5 kV5 dc5 pm5 QE ct5:Value} {f5:Addr}
  {od6 an6:Option Addr} {sl6:Array (Option Value)} {oc6 kV6 dc6 pm6 QF ct6:Value} {f6:Addr}
  {od7 an7:Option Addr} {sl7:Array (Option Value)} {oc7 kV7 dc7 pm7 ct7:Value} {f7:Addr}
  {xH jv:Addr} {az8:Option Addr} {az9:Array (Option Value)} {QG:Array Value} {aA0:Value}
  {od8 an8:Option Addr} {sl8:Array (Option Value)} {oc8 kV8 dc8 pm8 QH ct8:Value} {f8:Addr}
  {od9 an9:Option Addr} {sl9:Array (Option Value)} {oc9 kV9 dc9 pm9 QI ct9:Value} {f9:Addr}
  {cW9 cX0:Option Addr} {cX1:Array (Option Value)} {cX2 cX3 cX4 cX5 QJ cX6:Value} {Aq:Addr}
  {cX7 cX8:Option Addr} {cX9:Array (Option Value)} {cY0 cY1 cY2 cY3 QK cY4:Value} {Ar:Addr}
  {cY5 cY6:Option Addr} {cY7:Array (Option Value)} {cY8 cY9 cZ0 cZ1 QL cZ2:Value} {jW:Addr}
  {cZ3 cZ4:Option Addr} {cZ5:Array (Option Value)} {cZ6 cZ7 cZ8 cZ9 c00:Value} {uY:Addr}
  {xI jw:Addr} {aB8:Option Addr} {aB9:Array (Option Value)} {QM:Array Value} {aC0:Value}
  {c04 c05:Option Addr} {c06:Array (Option Value)} {c07 c08 c09 c42 QN c43:Value} {As:Addr}
  {c44 c45:Option Addr} {c46:Array (Option Value)} {c47 c48 c49 c50 QO c51:Value} {Au:Addr}
  {c52 c53:Option Addr} {c54:Array (Option Value)} {c55 c56 c57 c58 QP c59:Value} {Av:Addr}
  {c60 c61:Option Addr} {c62:Array (Option Value)} {c63 c64 c65 c66 QQ c67:Value} {Aw:Addr}
  {c68 c69:Option Addr} {c70:Array (Option Value)} {c71 c72 c73 c74 QR c75:Value} {Az:Addr}
  {c76 c77:Option Addr} {c78:Array (Option Value)} {c79 c80 c81 c82 QS c83:Value} {AA:Addr}
  {c84 c85:Option Addr} {c86:Array (Option Value)} {c87 c88 c89 c90 QT c91:Value} {AB:Addr}
  {c92 c93:Option Addr} {c94:Array (Option Value)} {c95 c96 c97 c98 QU c99:Value} {AD:Addr}
  {da0 da1:Option Addr} {da2:Array (Option Value)} {da3 da4 da5 da6 QV da7:Value} {AE:Addr}
  {da8 da9:Option Addr} {db0:Array (Option Value)} {db1 db2 db3 db4 QW db5:Value} {AF:Addr}
  {db6 db7:Option Addr} {db8:Array (Option Value)} {db9 dd0 dd1 dd2 QX dd3:Value} {n8:Addr}
  {dd4 dd5:Option Addr} {dd6:Array (Option Value)} {dd7 dd8 dd9 de0 QY de1:Value} {uZ:Addr}
  {de2 de3:Option Addr} {de4:Array (Option Value)} {de5 de6 de7 de8 QZ de9:Value} {u3:Addr}
  {df0 df1:Option Addr} {df2:Array (Option Value)} {df3 df4 df5 df6 Q0 df7:Value} {u4:Addr}
  {df8 df9:Option Addr} {dg0:Array (Option Value)} {dg1 dg2 dg3 dg4 Q1 dg5:Value} {AG:Addr}
  {dg6 dg7:Option Addr} {dg8:Array (Option Value)} {dg9 dh0 dh1 dh2 Q2 dh3:Value} {pO:Addr}
  {dh4 dh5:Option Addr} {dh6:Array (Option Value)} {dh7 dh8 dh9 di0 Q3 di1:Value} {AH:Addr}
  {di2 di3:Option Addr} {di4:Array (Option Value)} {di5 di6 di7 di8 Q4 di9:Value} {AI:Addr}
  {dj0 dj1:Option Addr} {dj2:Array (Option Value)} {dj3 dj4 dj5 dj6 Q5 dj7:Value} {AJ:Addr}
  {dj8 dj9:Option Addr} {dk0:Array (Option Value)} {dk1 dk2 dk3 dk4 Q6 dk5:Value} {AK:Addr}
  {dk6 dk7:Option Addr} {dk8:Array (Option Value)} {dk9 dl0 dl1 dl2 Q7 dl3:Value} {AL:Addr}
  {dl4 dl5:Option Addr} {dl6:Array (Option Value)} {dl7 dl8 dl9 dm0 Q8 dm1:Value} {AM:Addr}
  {dm2 dm3:Option Addr} {dm4:Array (Option Value)} {dm5 dm6 dm7 dm8 Q9 dm9:Value} {AN:Addr}
  {dn0 dn1:Option Addr} {dn2:Array (Option Value)} {dn3 dn4 dn5 dn6 Ra dn7:Value} {AO:Addr}
  {dn8 dn9:Option Addr} {do0:Array (Option Value)} {do1 do2 do3 do4 Rb do5:Value} {AQ:Addr}
  {do6 do7:Option Addr} {do8:Array (Option Value)} {do9 dp0 dp1 dp2 Rc dp3:Value} {AR:Addr}
  {dp4 dp5:Option Addr} {dp6:Array (Option Value)} {dp7 dp8 dp9 dq0 Rh dq1:Value} {AS:Addr}
  {dq2 Ri:Option Addr} {dq3:Array (Option Value)} {dq4 Rj Rk Rl GN Rm:Value} {GO:Addr}
  {aV fP jx aY:Addr}
  (xC:nsIn K mainGlobals "BitField"=some (some (.ref aV)))
  (xD:nsIn K mainGlobals "ByNought"=some (some (.ref fP)))
  (uW:nsIn K mainGlobals "Field"=some (some (.ref jx)))
  (xE:nsIn K mainGlobals "PrimeField"=some (some (.ref aY)))
  (a0:nsIn K mainGlobals "_law_told"=some (some (.ref f0)))
  (l0:K.lookup f0=some ⟨oc0,od0,.func (fnOf "_law_told" "_law_told" (bF tU) (bq tU) (aA tU) .none kV0 dc0 pm0 an0 Qy ct0),sl0⟩)
  (c0:codeIn K Qy "_law_told"=true)
  (k0:keepIn K (.ref f0)=true)
  (a1:nsIn K mainGlobals "powers_of"=some (some (.ref f1)))
  (l1:K.lookup f1=some ⟨oc1,od1,.func (fnOf "powers_of" "powers_of" (bF tV) (bq tV) (aA tV) .none kV1 dc1 pm1 an1 Qz ct1),sl1⟩)
  (c1:codeIn K Qz "powers_of"=true)
  (k1:keepIn K (.ref f1)=true)
  (a2:nsIn K mainGlobals "step_powers"=some (some (.ref f2)))
  (l2:K.lookup f2=some ⟨oc2,od2,.func (fnOf "step_powers" "step_powers" (bF tW) (bq tW) (aA tW) .none kV2 dc2 pm2 an2 QB ct2),sl2⟩)
  (c2:codeIn K QB "step_powers"=true)
  (k2:keepIn K (.ref f2)=true)
  (a3:nsIn K mainGlobals "logs_of"=some (some (.ref f3)))
  (l3:K.lookup f3=some ⟨oc3,od3,.func (fnOf "logs_of" "logs_of" (bF tX) (bq tX) (aA tX) .none kV3 dc3 pm3 an3 QC ct3),sl3⟩)
  (c3:codeIn K QC "logs_of"=true)
  (k3:keepIn K (.ref f3)=true)
  (a4:findIn K (.ref jx) "step_power"=some (some (.ref f4)))
  (l4:K.lookup f4=some ⟨oc4,od4,.func (fnOf "step_power" "Field.step_power" (bF tY) (bq tY) (aA tY) .none kV4 dc4 pm4 an4 QD ct4),sl4⟩)
  (c4:codeIn K QD "Field.step_power"=true)
  (k4:keepIn K (.ref f4)=true)
  (a5:findIn K (.ref jx) "__init__"=some (some (.ref f5)))
  (l5:K.lookup f5=some ⟨oc5,od5,.func (fnOf "__init__" "Field.__init__" (bF tZ) (bq tZ) (aA tZ) .none kV5 dc5 pm5 an5 QE ct5),sl5⟩)
  (c5:codeIn K QE "Field.__init__"=true)
  (k5:keepIn K (.ref f5)=true)
  (a6:nsIn K mainGlobals "makes_prime_field"=some (some (.ref f6)))
  (l6:K.lookup f6=some ⟨oc6,od6,.func (fnOf "makes_prime_field" "makes_prime_field" (bF t7) (bq t7) (aA t7) .none kV6 dc6 pm6 an6 QF ct6),sl6⟩)
  (c6:codeIn K QF "makes_prime_field"=true)
  (k6:keepIn K (.ref f6)=true)
  (a7:findIn K (.ref aY) "__init__"=some (some (.ref f7)))
  (l7:K.lookup f7=some ⟨oc7,od7,.func (fnOf "__init__" "PrimeField.__init__" (bF mV) (bq mV) (aA mV) .none kV7 dc7 pm7 an7 (.ref xH) ct7),sl7⟩)
  (c7:codeIn K (.ref xH) "PrimeField.__init__"=true)
  (k7:keepIn K (.ref f7)=true)
  (Rn:K.lookup xH=some ⟨aA0,az8,.fields QG,az9⟩)
  (Ro:QG[11]?=some (.ref jv))
  (GP:codeHdIn K xH jv=true)
  (a8:nsIn K mainGlobals "product_rows"=some (some (.ref f8)))
  (l8:K.lookup f8=some ⟨oc8,od8,.func (fnOf "product_rows" "product_rows" (bF t8) (bq t8) (aA t8) .none kV8 dc8 pm8 an8 QH ct8),sl8⟩)
  (c8:codeIn K QH "product_rows"=true)
  (k8:keepIn K (.ref f8)=true)
  (a9:nsIn K mainGlobals "bits_divided"=some (some (.ref f9)))
  (l9:K.lookup f9=some ⟨oc9,od9,.func (fnOf "bits_divided" "bits_divided" (bF t9) (bq t9) (aA t9) .none kV9 dc9 pm9 an9 QI ct9),sl9⟩)
  (c9:codeIn K QI "bits_divided"=true)
  (k9:keepIn K (.ref f9)=true)
  (GQ:nsIn K mainGlobals "stands_alone"=some (some (.ref Aq)))
  (GR:K.lookup Aq=some ⟨cX2,cW9,.func (fnOf "stands_alone" "stands_alone" (bF ub) (bq ub) (aA ub) .none cX3 cX4 cX5 cX0 QJ cX6),cX1⟩)
  (GS:codeIn K QJ "stands_alone"=true)
  (GU:keepIn K (.ref Aq)=true)
  (GV:nsIn K mainGlobals "makes_bit_field"=some (some (.ref Ar)))
  (GW:K.lookup Ar=some ⟨cY0,cX7,.func (fnOf "makes_bit_field" "makes_bit_field" (bF ud) (bq ud) (aA ud) .none cY1 cY2 cY3 cX8 QK cY4),cX9⟩)
  (GX:codeIn K QK "makes_bit_field"=true)
  (GY:keepIn K (.ref Ar)=true)
  (GZ:nsIn K mainGlobals "bits_times"=some (some (.ref jW)))
  (G0:K.lookup jW=some ⟨cY8,cY5,.func (fnOf "bits_times" "bits_times" (bF ue) (bq ue) (aA ue) .none cY9 cZ0 cZ1 cY6 QL cZ2),cY7⟩)
  (G1:codeIn K QL "bits_times"=true)
  (G2:keepIn K (.ref jW)=true)
  (Rp:findIn K (.ref aV) "__init__"=some (some (.ref uY)))
  (G3:K.lookup uY=some ⟨cZ6,cZ3,.func (fnOf "__init__" "BitField.__init__" (bF mW) (bq mW) (aA mW) .none cZ7 cZ8 cZ9 cZ4 (.ref xI) c00),cZ5⟩)
  (G4:codeIn K (.ref xI) "BitField.__init__"=true)
  (G5:keepIn K (.ref uY)=true)
  (Rq:K.lookup xI=some ⟨aC0,aB8,.fields QM,aB9⟩)
  (Rt:QM[11]?=some (.ref jw))
  (G6:codeHdIn K xI jw=true)
  (G7:nsIn K mainGlobals "_law_field"=some (some (.ref As)))
  (G8:K.lookup As=some ⟨c07,c04,.func (fnOf "_law_field" "_law_field" (bF uf) (bq uf) (aA uf) .none c08 c09 c42 c05 QN c43),c06⟩)
  (G9:codeIn K QN "_law_field"=true)
  (Ha:keepIn K (.ref As)=true)
  (Hb:nsIn K mainGlobals "_law_plus"=some (some (.ref Au)))
  (Hc:K.lookup Au=some ⟨c47,c44,.func (fnOf "_law_plus" "_law_plus" (bF ug) (bq ug) (aA ug) .none c48 c49 c50 c45 QO c51),c46⟩)
  (He:codeIn K QO "_law_plus"=true)
  (Hf:keepIn K (.ref Au)=true)
  (Hg:nsIn K mainGlobals "_law_times"=some (some (.ref Av)))
  (Hh:K.lookup Av=some ⟨c55,c52,.func (fnOf "_law_times" "_law_times" (bF uh) (bq uh) (aA uh) .none c56 c57 c58 c53 QP c59),c54⟩)
  (Hi:codeIn K QP "_law_times"=true)
  (Hj:keepIn K (.ref Av)=true)
  (Hk:nsIn K mainGlobals "_law_dot"=some (some (.ref Aw)))
  (Hl:K.lookup Aw=some ⟨c63,c60,.func (fnOf "_law_dot" "_law_dot" (bF uj) (bq uj) (aA uj) .none c64 c65 c66 c61 QQ c67),c62⟩)
  (Hm:codeIn K QQ "_law_dot"=true)
  (Ho:keepIn K (.ref Aw)=true)
  (Hq:nsIn K mainGlobals "_law_by_row"=some (some (.ref Az)))
  (Hr:K.lookup Az=some ⟨c71,c68,.func (fnOf "_law_by_row" "_law_by_row" (bF uk) (bq uk) (aA uk) .none c72 c73 c74 c69 QR c75),c70⟩)
  (Hs:codeIn K QR "_law_by_row"=true)
  (Ht:keepIn K (.ref Az)=true)
  (Hu:nsIn K mainGlobals "_law_cell"=some (some (.ref AA)))
  (Hv:K.lookup AA=some ⟨c79,c76,.func (fnOf "_law_cell" "_law_cell" (bF um) (bq um) (aA um) .none c80 c81 c82 c77 QS c83),c78⟩)
  (Hw:codeIn K QS "_law_cell"=true)
  (Hx:keepIn K (.ref AA)=true)
  (Hy:nsIn K mainGlobals "_law_many"=some (some (.ref AB)))
  (Hz:K.lookup AB=some ⟨c87,c84,.func (fnOf "_law_many" "_law_many" (bF uo) (bq uo) (aA uo) .none c88 c89 c90 c85 QT c91),c86⟩)
  (HA:codeIn K QT "_law_many"=true)
  (HB:keepIn K (.ref AB)=true)
  (HC:nsIn K mainGlobals "_law_table"=some (some (.ref AD)))
  (HD:K.lookup AD=some ⟨c95,c92,.func (fnOf "_law_table" "_law_table" (bF uq) (bq uq) (aA uq) .none c96 c97 c98 c93 QU c99),c94⟩)
  (HE:codeIn K QU "_law_table"=true)
  (HF:keepIn K (.ref AD)=true)
  (HG:nsIn K mainGlobals "width_of"=some (some (.ref AE)))
  (HH:K.lookup AE=some ⟨da3,da0,.func (fnOf "width_of" "width_of" (bF uu) (bq uu) (aA uu) .none da4 da5 da6 da1 QV da7),da2⟩)
  (HI:codeIn K QV "width_of"=true)
  (HJ:keepIn K (.ref AE)=true)
  (HK:nsIn K mainGlobals "first_with"=some (some (.ref AF)))
  (HL:K.lookup AF=some ⟨db1,da8,.func (fnOf "first_with" "first_with" (bF uv) (bq uv) (aA uv) .none db2 db3 db4 da9 QW db5),db0⟩)
  (HM:codeIn K QW "first_with"=true)
  (HN:keepIn K (.ref AF)=true)
  (Ru:findIn K (.ref aV) "scaled"=some (some (.ref n8)))
  (HP:K.lookup n8=some ⟨db9,db6,.func (fnOf "scaled" "BitField.scaled" (bF uw) (bq uw) (aA uw) .none dd0 dd1 dd2 db7 QX dd3),db8⟩)
  (HQ:codeIn K QX "BitField.scaled"=true)
  (AU:keepIn K (.ref n8)=true)
  (Rv:findIn K (.ref aY) "scaled"=some (some (.ref uZ)))
  (HR:K.lookup uZ=some ⟨dd7,dd4,.func (fnOf "scaled" "PrimeField.scaled" (bF uz) (bq uz) (aA uz) .none dd8 dd9 de0 dd5 QY de1),dd6⟩)
  (HS:codeIn K QY "PrimeField.scaled"=true)
  (AV:keepIn K (.ref uZ)=true)
  (Rw:findIn K (.ref aV) "lessened"=some (some (.ref u3)))
  (HU:K.lookup u3=some ⟨de5,de2,.func (fnOf "lessened" "BitField.lessened" (bF uA) (bq uA) (aA uA) .none de6 de7 de8 de3 QZ de9),de4⟩)
  (HV:codeIn K QZ "BitField.lessened"=true)
  (AW:keepIn K (.ref u3)=true)
  (Rx:findIn K (.ref aY) "lessened"=some (some (.ref u4)))
  (HW:K.lookup u4=some ⟨df3,df0,.func (fnOf "lessened" "PrimeField.lessened" (bF uB) (bq uB) (aA uB) .none df4 df5 df6 df1 Q0 df7),df2⟩)
  (HX:codeIn K Q0 "PrimeField.lessened"=true)
  (AX:keepIn K (.ref u4)=true)
  (HY:nsIn K mainGlobals "cleared"=some (some (.ref AG)))
  (HZ:K.lookup AG=some ⟨dg1,df8,.func (fnOf "cleared" "cleared" (bF uC) (bq uC) (aA uC) .none dg2 dg3 dg4 df9 Q1 dg5),dg0⟩)
  (Ia:codeIn K Q1 "cleared"=true)
  (Ib:keepIn K (.ref AG)=true)
  (Ry:findIn K (.ref jx) "over"=some (some (.ref pO)))
  (Ic:K.lookup pO=some ⟨dg9,dg6,.func (fnOf "over" "Field.over" (bF uD) (bq uD) (aA uD) .none dh0 dh1 dh2 dg7 Q2 dh3),dg8⟩)
  (Ie:codeIn K Q2 "Field.over"=true)
  (xJ:keepIn K (.ref pO)=true)
  (Ig:nsIn K mainGlobals "reduced"=some (some (.ref AH)))
  (Ih:K.lookup AH=some ⟨dh7,dh4,.func (fnOf "reduced" "reduced" (bF uE) (bq uE) (aA uE) .none dh8 dh9 di0 dh5 Q3 di1),dh6⟩)
  (Ii:codeIn K Q3 "reduced"=true)
  (Ij:keepIn K (.ref AH)=true)
  (Ik:nsIn K mainGlobals "leads"=some (some (.ref AI)))
  (Il:K.lookup AI=some ⟨di5,di2,.func (fnOf "leads" "leads" (bF uF) (bq uF) (aA uF) .none di6 di7 di8 di3 Q4 di9),di4⟩)
  (Im:codeIn K Q4 "leads"=true)
  (Io:keepIn K (.ref AI)=true)
  (Ip:nsIn K mainGlobals "with_due"=some (some (.ref AJ)))
  (Iq:K.lookup AJ=some ⟨dj3,dj0,.func (fnOf "with_due" "with_due" (bF uG) (bq uG) (aA uG) .none dj4 dj5 dj6 dj1 Q5 dj7),dj2⟩)
  (Ir:codeIn K Q5 "with_due"=true)
  (Iu:keepIn K (.ref AJ)=true)
  (Iw:nsIn K mainGlobals "solved"=some (some (.ref AK)))
  (Iy:K.lookup AK=some ⟨dk1,dj8,.func (fnOf "solved" "solved" (bF uH) (bq uH) (aA uH) .none dk2 dk3 dk4 dj9 Q6 dk5),dk0⟩)
  (Iz:codeIn K Q6 "solved"=true)
  (IA:keepIn K (.ref AK)=true)
  (IB:nsIn K mainGlobals "turned"=some (some (.ref AL)))
  (IC:K.lookup AL=some ⟨dk9,dk6,.func (fnOf "turned" "turned" (bF uJ) (bq uJ) (aA uJ) .none dl0 dl1 dl2 dk7 Q7 dl3),dk8⟩)
  (ID:codeIn K Q7 "turned"=true)
  (IE:keepIn K (.ref AL)=true)
  (IF:nsIn K mainGlobals "reason"=some (some (.ref AM)))
  (IG:K.lookup AM=some ⟨dl7,dl4,.func (fnOf "reason" "reason" (bF uK) (bq uK) (aA uK) .none dl8 dl9 dm0 dl5 Q8 dm1),dl6⟩)
  (IH:codeIn K Q8 "reason"=true)
  (II:keepIn K (.ref AM)=true)
  (IJ:nsIn K mainGlobals "_law_copy"=some (some (.ref AN)))
  (IK:K.lookup AN=some ⟨dm5,dm2,.func (fnOf "_law_copy" "_law_copy" (bF uL) (bq uL) (aA uL) .none dm6 dm7 dm8 dm3 Q9 dm9),dm4⟩)
  (IL:codeIn K Q9 "_law_copy"=true)
  (IM:keepIn K (.ref AN)=true)
  (IQ:nsIn K mainGlobals "_law_whole"=some (some (.ref AO)))
  (IS:K.lookup AO=some ⟨dn3,dn0,.func (fnOf "_law_whole" "_law_whole" (bF uM) (bq uM) (aA uM) .none dn4 dn5 dn6 dn1 Ra dn7),dn2⟩)
  (IT:codeIn K Ra "_law_whole"=true)
  (IU:keepIn K (.ref AO)=true)
  (IV:nsIn K mainGlobals "_law_row_kind"=some (some (.ref AQ)))
  (IW:K.lookup AQ=some ⟨do1,dn8,.func (fnOf "_law_row_kind" "_law_row_kind" (bF uN) (bq uN) (aA uN) .none do2 do3 do4 dn9 Rb do5),do0⟩)
  (IY:codeIn K Rb "_law_row_kind"=true)
  (IZ:keepIn K (.ref AQ)=true)
  (I0:nsIn K mainGlobals "_law_shows"=some (some (.ref AR)))
  (Ja:K.lookup AR=some ⟨do9,do6,.func (fnOf "_law_shows" "_law_shows" (bF uO) (bq uO) (aA uO) .none dp0 dp1 dp2 do7 Rc dp3),do8⟩)
  (Jb:codeIn K Rc "_law_shows"=true)
  (Jc:keepIn K (.ref AR)=true)
  (Jd:nsIn K mainGlobals "_law_does"=some (some (.ref AS)))
  (Je:K.lookup AS=some ⟨dp7,dp4,.func (fnOf "_law_does" "_law_does" (bF uP) (bq uP) (aA uP) .none dp8 dp9 dq0 dp5 Rh dq1),dp6⟩)
  (Jf:codeIn K Rh "_law_does"=true)
  (Jg:keepIn K (.ref AS)=true)
  (AY:nsIn K mainGlobals "law"=some (some (.ref GO)))
  (Jh:K.lookup GO=some ⟨dq4,dq2,.func (fnOf "law" "law" (bF mX) (bq mX) (aA mX) .none Rj Rk Rl Ri GN Rm),dq3⟩)
  (Ji:codeIn K GN "law"=true)
  (Jj:keepIn K (.ref GO)=true)
  (AZ:PySem.W.plainGet K aV Str.empty=true)
  (A6:PySem.W.hasDictIn K aV=true)
  (A7:PySem.W.plainOver K aV=true)
  (A8:findIn K (.ref aV) "__setattr__"=some (some (.builtin "object.__setattr__")))
  (xk:PySem.W.makesIn K aV=true)
  (Jk:findIn K (.ref aV) "__init__"=some (some (.ref uY)))
  (Jl:isFn K (.ref uY)=true)
  (Jm:keepIn K (.ref aV)=true)
  (Jn:findIn K (.ref aV) "__class__"=some (some (.builtin "object.__class__")))
  (Jo:specialIn K (.builtin "object.__class__") "__get__"=some (some (.builtin "getset_descriptor.__get__")))
  (Jp:takesIn K (.builtin "object.__class__")=some true)
  (Jq:mroIn K aV (.type "object")=some true)
  (xm:findIn K (.ref aV) "bits"=some none)
  (pH:findIn K (.ref aV) "logs"=some none)
  (uR:findIn K (.ref aV) "many"=some none)
  (rW:findIn K (.ref aV) "powers"=some none)
  (Ac:findIn K (.ref aV) "prime"=some none)
  (rX:findIn K (.ref aV) "products"=some none)
  (xn:findIn K (.ref aV) "step"=some none)
  (xo:findIn K (.ref aV) "wide"=some none)
  (xp:findIn K (.ref aV) "lessened"=some (some (.ref u3)))
  (Jr:isFn K (.ref u3)=true)
  (xq:findIn K (.ref aV) "over"=some (some (.ref pO)))
  (Js:isFn K (.ref pO)=true)
  (xt:findIn K (.ref aV) "scaled"=some (some (.ref n8)))
  (Jt:isFn K (.ref n8)=true)
  (uS:findIn K (.ref aV) "step_power"=some (some (.ref f4)))
  (Ju:isFn K (.ref f4)=true)
  (A9:PySem.W.plainGet K aY Str.empty=true)
  (Ba:PySem.W.hasDictIn K aY=true)
  (Bb:PySem.W.plainOver K aY=true)
  (Bc:findIn K (.ref aY) "__setattr__"=some (some (.builtin "object.__setattr__")))
  (xu:PySem.W.makesIn K aY=true)
  (Jv:findIn K (.ref aY) "__init__"=some (some (.ref f7)))
  (Jw:isFn K (.ref f7)=true)
  (Jx:keepIn K (.ref aY)=true)
  (Jy:findIn K (.ref aY) "__class__"=some (some (.builtin "object.__class__")))
  (Jz:specialIn K (.builtin "object.__class__") "__get__"=some (some (.builtin "getset_descriptor.__get__")))
  (JA:takesIn K (.builtin "object.__class__")=some true)
  (JB:mroIn K aY (.type "object")=some true)
  (Ad:findIn K (.ref aY) "bits"=some none)
  (rY:findIn K (.ref aY) "logs"=some none)
  (uT:findIn K (.ref aY) "many"=some none)
  (uU:findIn K (.ref aY) "powers"=some none)
  (rZ:findIn K (.ref aY) "prime"=some none)
  (Ae:findIn K (.ref aY) "products"=some none)
  (xv:findIn K (.ref aY) "step"=some none)
  (xw:findIn K (.ref aY) "wide"=some none)
  (xx:findIn K (.ref aY) "lessened"=some (some (.ref u4)))
  (JC:isFn K (.ref u4)=true)
  (xy:findIn K (.ref aY) "over"=some (some (.ref pO)))
  (JE:isFn K (.ref pO)=true)
  (xA:findIn K (.ref aY) "scaled"=some (some (.ref uZ)))
  (JF:isFn K (.ref uZ)=true)
  (uV:findIn K (.ref aY) "step_power"=some (some (.ref f4)))
  (JG:isFn K (.ref f4)=true)
  (JH:specialIn K (.ref jx) "__getattribute__"=some (some (.builtin "type.__getattribute__")))
  (JI:PySem.W.readsIn K jx (.type "type")=true)
  (JJ:PySem.W.findCls K (.ref jx) (.type "type") "__init__"=some (.val (.ref f5)))
  (JK:nsIn K mainGlobals "all"=some none)
  (JL:nsIn K mainGlobals "bool"=some none)
  (JM:nsIn K mainGlobals "enumerate"=some none)
  (JN:nsIn K mainGlobals "int"=some none)
  (JO:nsIn K mainGlobals "isinstance"=some none)
  (JP:nsIn K mainGlobals "len"=some none)
  (JQ:nsIn K mainGlobals "list"=some none)
  (JR:nsIn K mainGlobals "range"=some none)
  (JS:nsIn K mainGlobals "zip"=some none)
  (JT:(PySem.W.clsIn K fP).isSome=true)
  (Rz:PySem.W.typeIn K (.ref fP)=some (.type "type"))
  (JU:PySem.W.excIn K fP [.type "ValueError",.type "Exception",.type "BaseException",.type "object"] "ValueError.__new__"=true)
  (JV:findIn K (.ref fP) "__getattribute__"=some (some (.builtin "BaseException.__getattribute__")))
  (JW:findIn K (.ref fP) "__getattr__"=some none)
  (JX:findIn K (.ref fP) "__class__"=some (some (.builtin "object.__class__")))
  (JY:specialIn K (.builtin "object.__class__") "__get__"=some (some (.builtin "getset_descriptor.__get__")))
  (JZ:takesIn K (.builtin "object.__class__")=some true)
  (at2:mroIn K fP (.type "object")=some true)
  (J0:mroIn K fP (.type "BaseException")=some true)
  (nl:K.all (λp=>Dt p.2)=true)
  (sub:∀P∈[jv,jw],P∈ts) :
  ∃fd:FuncData,(∀(s:Shared) (v:Value),BindsTo s fd ⟨[v],[]⟩ [("_law_script",v)])/\∀base:Heap,K.In base->base.Ns mainGlobals mg->Bm mg base->aS l.prog w K mg base bc 11 fa fd ["_law_script"] (y7 ts K):=by
 have e:=hfa.symm.trans (mg_of X G AY)
 cases e
 have F0:=bU (st:=tU) l0 c0 k0
 have b0:=F0.binds (ps:=["_law_cell_here"]) λ_ _ _ _ _ _=>gS (λ_=>rfl)
 have F1:=bU (st:=tV) l1 c1 k1
 have b1:=F1.binds (ps:=["a","product"]) λ_ _ _ _ _ _=>iy (λ_ _=>rfl)
 have F2:=bU (st:=tW) l2 c2 k2
 have b2:=F2.binds (ps:=["many","product"]) λ_ _ _ _ _ _=>iy (λ_ _=>rfl)
 have F3:=bU (st:=tX) l3 c3 k3
 have b3:=F3.binds (ps:=["powers"]) λ_ _ _ _ _ _=>gS (λ_=>rfl)
 have F4:=bU (st:=tY) l4 c4 k4
 have b4:=F4.binds (ps:=["self","n"]) λ_ _ _ _ _ _=>iy (λ_ _=>rfl)
 have F5:=bU (st:=tZ) l5 c5 k5
 have b5:=F5.binds (ps:=["self","many","product"]) λ_ _ _ _ _ _=>js (λ_ _ _=>rfl)
 have F6:=bU (st:=t7) l6 c6 k6
 have b6:=F6.binds (ps:=["prime"]) λ_ _ _ _ _ _=>gS (λ_=>rfl)
 have F7:=bU (st:=mV) l7 c7 k7
 have b7:=F7.binds (ps:=["self","prime"]) λ_ _ _ _ _ _=>iy (λ_ _=>rfl)
 have F8:=bU (st:=t8) l8 c8 k8
 have b8:=F8.binds (ps:=["powers","logs"]) λ_ _ _ _ _ _=>iy (λ_ _=>rfl)
 have F9:=bU (st:=t9) l9 c9 k9
 have b9:=F9.binds (ps:=["a","b"]) λ_ _ _ _ _ _=>iy (λ_ _=>rfl)
 have RA:=bU (st:=ub) GR GS GU
 have b10:=RA.binds (ps:=["a"]) λ_ _ _ _ _ _=>gS (λ_=>rfl)
 have RB:=bU (st:=ud) GW GX GY
 have b11:=RB.binds (ps:=["bits"]) λ_ _ _ _ _ _=>gS (λ_=>rfl)
 have RC:=bU (st:=ue) G0 G1 G2
 have b12:=RC.binds (ps:=["a","b"]) λ_ _ _ _ _ _=>iy (λ_ _=>rfl)
 have RD:=bU (st:=mW) G3 G4 G5
 have b13:=RD.binds (ps:=["self","bits"]) λ_ _ _ _ _ _=>iy (λ_ _=>rfl)
 have RE:=bU (st:=uf) G8 G9 Ha
 have b14:=RE.binds (ps:=["_law_told_here"]) λ_ _ _ _ _ _=>gS (λ_=>rfl)
 have RF:=bU (st:=ug) Hc He Hf
 have b15:=RF.binds (ps:=["_law_told_here","_law_a","_law_b"]) λ_ _ _ _ _ _=>js (λ_ _ _=>rfl)
 have RG:=bU (st:=uh) Hh Hi Hj
 have b16:=RG.binds (ps:=["_law_told_here","_law_a","_law_b"]) λ_ _ _ _ _ _=>js (λ_ _ _=>rfl)
 have RH:=bU (st:=uj) Hl Hm Ho
 have b17:=RH.binds (ps:=["_law_told_here","_law_xs","_law_ys"]) λ_ _ _ _ _ _=>js (λ_ _ _=>rfl)
 have RI:=bU (st:=uk) Hr Hs Ht
 have b18:=RI.binds (ps:=["_law_told_here","_law_xs","_law_table_here","_law_wide"]) λ_ _ _ _ _ _=>tS (λ_ _ _ _=>rfl)
 have RJ:=bU (st:=um) Hv Hw Hx
 have b19:=RJ.binds (ps:=["_law_script","_law_k"]) λ_ _ _ _ _ _=>iy (λ_ _=>rfl)
 have RK:=bU (st:=uo) Hz HA HB
 have b20:=RK.binds (ps:=["_law_told_here"]) λ_ _ _ _ _ _=>gS (λ_=>rfl)
 have RL:=bU (st:=uq) HD HE HF
 have b21:=RL.binds (ps:=["_law_told_here","_law_script","_law_begin","_law_rows","_law_wide","_law_way"]) λ_ _ _ _ _ _=>Λ (λ_ _ _ _ _ _=>rfl)
 have RM:=bU (st:=uu) HH HI HJ
 have b22:=RM.binds (ps:=["table"]) λ_ _ _ _ _ _=>gS (λ_=>rfl)
 have RN:=bU (st:=uv) HL HM HN
 have b23:=RN.binds (ps:=["rows","place"]) λ_ _ _ _ _ _=>iy (λ_ _=>rfl)
 have RO:=bU (st:=uw) HP HQ AU
 have b24:=RO.binds (ps:=["self","a","row"]) λ_ _ _ _ _ _=>js (λ_ _ _=>rfl)
 have RP:=bU (st:=uz) HR HS AV
 have b25:=RP.binds (ps:=["self","a","row"]) λ_ _ _ _ _ _=>js (λ_ _ _=>rfl)
 have RQ:=bU (st:=uA) HU HV AW
 have b26:=RQ.binds (ps:=["self","row","a","other"]) λ_ _ _ _ _ _=>tS (λ_ _ _ _=>rfl)
 have RU:=bU (st:=uB) HW HX AX
 have b27:=RU.binds (ps:=["self","row","a","other"]) λ_ _ _ _ _ _=>tS (λ_ _ _ _=>rfl)
 have RV:=bU (st:=uC) HZ Ia Ib
 have b28:=RV.binds (ps:=["field","rows","lead_row","place"]) λ_ _ _ _ _ _=>tS (λ_ _ _ _=>rfl)
 have RW:=bU (st:=uD) Ic Ie xJ
 have b29:=RW.binds (ps:=["self","a","b"]) λ_ _ _ _ _ _=>js (λ_ _ _=>rfl)
 have RX:=bU (st:=uE) Ih Ii Ij
 have b30:=RX.binds (ps:=["field","table"]) λ_ _ _ _ _ _=>iy (λ_ _=>rfl)
 have RY:=bU (st:=uF) Il Im Io
 have b31:=RY.binds (ps:=["rows"]) λ_ _ _ _ _ _=>gS (λ_=>rfl)
 have RZ:=bU (st:=uG) Iq Ir Iu
 have b32:=RZ.binds (ps:=["table","due"]) λ_ _ _ _ _ _=>iy (λ_ _=>rfl)
 have R0:=bU (st:=uH) Iy Iz IA
 have b33:=R0.binds (ps:=["field","table","due"]) λ_ _ _ _ _ _=>js (λ_ _ _=>rfl)
 have R1:=bU (st:=uJ) IC ID IE
 have b34:=R1.binds (ps:=["table"]) λ_ _ _ _ _ _=>gS (λ_=>rfl)
 have R3:=bU (st:=uK) IG IH II
 have b35:=R3.binds (ps:=["field","table","due"]) λ_ _ _ _ _ _=>js (λ_ _ _=>rfl)
 have R4:=bU (st:=uL) IK IL IM
 have b36:=R4.binds (ps:=["_law_table_here"]) λ_ _ _ _ _ _=>gS (λ_=>rfl)
 have R5:=bU (st:=uM) IS IT IU
 have b37:=R5.binds (ps:=["_law_x"]) λ_ _ _ _ _ _=>gS (λ_=>rfl)
 have R6:=bU (st:=uN) IW IY IZ
 have b38:=R6.binds (ps:=["_law_row","_law_wide","_law_many_here"]) λ_ _ _ _ _ _=>js (λ_ _ _=>rfl)
 have R7:=bU (st:=uO) Ja Jb Jc
 have b39:=R7.binds (ps:=["_law_told_here","_law_table_here","_law_due","_law_found"]) λ_ _ _ _ _ _=>tS (λ_ _ _ _=>rfl)
 have R8:=bU (st:=uP) Je Jf Jg
 have b40:=R8.binds (ps:=["_law_told_here","_law_field_here","_law_table_here","_law_due","_law_found"]) λ_ _ _ _ _ _=>OQ (λ_ _ _ _ _=>rfl)
 have R9:=bU (st:=mX) Jh Ji Jj
 have b41:=R9.binds (ps:=["_law_script"]) λ_ _ _ _ _ _=>gS (λ_=>rfl)
 have T:Txt K mg ⟨f0,_,f1,_,f2,_,f3,_,f4,_,f5,_,f6,_,f7,_,f8,_,f9,_,Aq,_,Ar,_,jW,_,uY,_,As,_,Au,_,Av,_,Aw,_,Az,_,AA,_,AB,_,AD,_,AE,_,AF,_,n8,_,uZ,_,u3,_,u4,_,AG,_,pO,_,AH,_,AI,_,AJ,_,AK,_,AL,_,AM,_,AN,_,AO,_,AQ,_,AR,_,AS,_,fa,_,xH,jv,xI,jw,aV,fP,jx,aY⟩:=⟨F0,mg_of X G a0,b0,F1,mg_of X G a1,b1,F2,mg_of X G a2,b2,F3,mg_of X G a3,b3,F4,b4,F5,b5,F6,mg_of X G a6,b6,F7,b7,F8,mg_of X G a8,b8,F9,mg_of X G a9,b9,RA,mg_of X G GQ,b10,RB,mg_of X G GV,b11,RC,mg_of X G GZ,b12,RD,b13,RE,mg_of X G G7,b14,RF,mg_of X G Hb,b15,RG,mg_of X G Hg,b16,RH,mg_of X G Hk,b17,RI,mg_of X G Hq,b18,RJ,mg_of X G Hu,b19,RK,mg_of X G Hy,b20,RL,mg_of X G HC,b21,RM,mg_of X G HG,b22,RN,mg_of X G HK,b23,RO,b24,RP,b25,RQ,b26,RU,b27,RV,mg_of X G HY,b28,RW,b29,RX,mg_of X G Ig,b30,RY,mg_of X G Ik,b31,RZ,mg_of X G Ip,b32,R0,mg_of X G Iw,b33,R1,mg_of X G IB,b34,R3,mg_of X G IF,b35,R4,mg_of X G IJ,b36,R5,mg_of X G IQ,b37,R6,mg_of X G IV,b38,R7,mg_of X G I0,b39,R8,mg_of X G Jd,b40,R9,mg_of X G AY,b41,rfl,GP,rfl,G6,⟨AZ,A6,A7,A8⟩,⟨xk,Jk,Jl,Jm⟩,⟨⟨AZ,A6,A7,A8⟩,Jn,Jo,Jp,Jq⟩,xm,pH,uR,rW,Ac,rX,xn,xo,⟨xp,Jr,AW⟩,⟨xq,Js,xJ⟩,⟨xt,Jt,AU⟩,⟨uS,Ju,k4⟩,⟨A9,Ba,Bb,Bc⟩,⟨xu,Jv,Jw,Jx⟩,⟨⟨A9,Ba,Bb,Bc⟩,Jy,Jz,JA,JB⟩,Ad,rY,uT,uU,rZ,Ae,xv,xw,⟨xx,JC,AX⟩,⟨xy,JE,xJ⟩,⟨xA,JF,AV⟩,⟨uV,JG,k4⟩,⟨JH,JI,JJ,k5⟩,mg_none_of X G JK,mg_none_of X G JL,mg_none_of X G JM,mg_none_of X G JN,mg_none_of X G JO,mg_none_of X G JP,mg_none_of X G JQ,mg_none_of X G JR,mg_none_of X G JS,mg_of X G xC,mg_of X G xD,mg_of X G uW,mg_of X G xE,X8 (mg_of X G xD) JU,⟨JT,JV,JW,JX,JY,JZ,at2,J0⟩⟩
 exact⟨fnOf "law" "law" (bF mX) (bq mX) (aA mX) .none Rj Rk Rl Ri GN Rm,λs v=>.of_eq rfl,λbase _ _ hB=>(cb3 T hB).imp λvs H Q E h=>let z:=Ys nl h;⟨λP hP=>z.1 P (sub P hP),z.2⟩⟩
theorem aA1{K:Frag}{h:Heap}{c f k P:Addr}{od an:Option Addr}{sl:Array (Option Value)}{oc kV dc pm ct kt:Value}{ko:Option Addr}{ks:Array (Option Value)}{kf:Array Value}(X:K.In h)(a:nsIn K mainGlobals "PrimeField"=some (some (.ref c)))(b:findIn K (.ref c) "__init__"=some (some (.ref f)))
  (l:K.lookup f=some ⟨oc,od,.func (fnOf "__init__" "PrimeField.__init__" (bF mV) (bq mV) (aA mV) .none kV dc pm an (.ref k) ct),sl⟩) (lk:K.lookup k=some ⟨kt,ko,.fields kf,ks⟩) (lp:kf[11]?=some (.ref P)) (n:K.lookup P=none) (e:codeHdIn K k P=true):K.lookup P=none/\∃c,CodeHd h c P:=⟨n,k,PySem.W.codeHd_of_K X e⟩
theorem aC1{K:Frag}{h:Heap}{c f k P:Addr}{od an:Option Addr}{sl:Array (Option Value)}{oc kV dc pm ct kt:Value}{ko:Option Addr}{ks:Array (Option Value)}{kf:Array Value}(X:K.In h)(a:nsIn K mainGlobals "BitField"=some (some (.ref c)))(b:findIn K (.ref c) "__init__"=some (some (.ref f)))
  (l:K.lookup f=some ⟨oc,od,.func (fnOf "__init__" "BitField.__init__" (bF mW) (bq mW) (aA mW) .none kV dc pm an (.ref k) ct),sl⟩) (lk:K.lookup k=some ⟨kt,ko,.fields kf,ks⟩) (lp:kf[11]?=some (.ref P)) (n:K.lookup P=none) (e:codeHdIn K k P=true):K.lookup P=none/\∃c,CodeHd h c P:=⟨n,k,PySem.W.codeHd_of_K X e⟩
theorem walk{l:PySem.W.OpenLaw}{q:Program}{loose:List Str}{XP:(Str->Option Value)->Heap->Prop}{YP:World->Heap->Prop}{d:DefRec}{K:Params->Frag}{ts:List Addr}(hn:l.most=some 63)(vQ:d.params.defaults=[])
  (hY:∀(w:World) (h:Heap),YP w h->(K w.params).In h/\∀P∈ts,h.get? P=some (PySem.W.tabObj #[]))
  (hC:∀(w:World) (h:Heap),(K w.params).In h->∀P∈ts,(K w.params).lookup P=none/\∃c,CodeHd h c P)
  (F:∀(w:World) (mg:Str->Option Value) (fa:Addr) (h:Heap),(K w.params).In h->h.Ns mainGlobals mg->mg d.name=some (.ref fa) ->
   ∃fd:FuncData,(∀(s:Shared) (u:Value),BindsTo s fd ⟨[u],[]⟩ [("_law_script",u)])/\∀base:Heap,(K w.params).In base->base.Ns mainGlobals mg->Bm mg base->aS l.prog w (K w.params) mg base bc 11 fa fd ["_law_script"] (y7 ts (K w.params))) :
  PySem.W.WalkO q loose XP YP l.row.toRowW d [] (λf vs=>PySem.call f vs) :=
 L2.Yr (n:=63) (k:=11) (x:="_law_script") (CX:=λ_=>bc) (sp:=λw=>y7 ts (K w.params)) hn (by decide) vQ ⟨rfl,by decide,by decide⟩ hY hC F (λ_ _ a ns hl hO hS=>⟨a,ns,rfl,hO,hS,hl,λ_=>rfl⟩) λ_ _ _ _ _ z=>z
end HK19
set_option genInjectivity false in
set_option genSizeOf false in
structure PySem.W.Fast:Prop where
 (tw6704181233674865664 tw8299306918342983776 tw642531715351258208 tw11131777879987476704 tw7498696796142580064 tw2373108925274308960 tw5264143174069887360 tw13278281446027923872 tw8628991679109895584 tw3676008925901280736 tw6408657454481277536 tw18153663447373354592 tw13005513416786974336 tw13507838894049215104 tw5135687735150028448 tw4693809409126761216 tw10278783238131897152 tw13427380751302723488 tw16927498310023904160 tw1003320955700086752 tw8316874209378136065 tw1080750903009566753 tw921517858552274977 tw13384500250954514529 tw8721253789906547937 tw13967752138338332897 tw9606941371231665409 tw5630187968510428449 tw13085201266662811937 tw14301680851349131649 tw15554251125557385633 tw7650096979744950721 tw16671113410429532673 tw3716294070526072385 tw11746068895127351873 tw6802749712867181153 tw858756750692434593 tw6938355167801320129 tw8742256013187915553 tw2500016819860798241:True)
 (tw10340353045464979265 tw8233260194984317825 tw3367105714270241890 tw2303980709726648450 tw9418667897940664514 tw6452875047680966946 tw7288435325368683842 tw17496847159314414914 tw17874795541273885026 tw14656078060516559234 tw5460342391578292642 tw16003311177849834946 tw1159130837548575202 tw18012371503093418466 tw4126445358361254402 tw16146836090525043202 tw11982113769472911874 tw17855818687372065314 tw13496885845115946594 tw17225433384499854978 tw6883495429533756034 tw18218127432806276770 tw5178180074693301058 tw9522339993890737986 tw8667353851395573602 tw4703909415530646370 tw5661809195792230242 tw3589881567747269570 tw12849254851125672898 tw8160498643320813538 tw11320023167432903650 tw12698206435027427363 tw8019764265225133283 tw5527473369395748099 tw7421629456123725123 tw14404333556104118691 tw10572937342786422211 tw2596925702937274915 tw15284555583077172899 tw15743900420181958371:True)
 (tw5288960791988256547 tw1186024610664152867 tw3918041748805215043 tw10013298314671857475 tw996091465253931875 tw13959914085517757315 tw10227015001532787716 tw17877367840848008292 tw6677099527193279620 tw6588292217520867460 tw6307396769472832804 tw16186276682878302564 tw17971048315527733668 tw244619068789627364 tw16365776817826872868 tw4918708717571935780 tw2875744367139206724 tw2532348020139943524 tw5665463979388477124 tw12401041247633489764 tw16157790543926466565 tw1049826943180174373 tw11147160670140330085 tw14960414439842023557 tw4379983874040454277 tw7086794809119670469 tw12847173856618581285 tw7972217968915038501 tw479675297803326853 tw2813037053331783173 tw3589443717593531045 tw11400666696368190117 tw5234332676005656229 tw7191711882386583333 tw4369139079226126149 tw17332337576455412645 tw15840818346551864390 tw14939803131283124390 tw11150060630151860454 tw15215413557529295078:True)
 (tw11939742587860871430 tw346903258729876806 tw11151717941757327718 tw16889190450675283366 tw8854578085241856454 tw74842359014082150 tw2520129725532328550 tw967172448935076518 tw10728531927567429382 tw4051788561956400934 tw2131035021923526438 tw7474233395279754086 tw6104042655164499846 tw1143956173240908742 tw6164430386832065478 tw1696940049637468134 tw8184366624033569799 tw17982973448439178343 tw8729683063662535943 tw4024491623871450471 tw1554304889324457415 tw12187950852598354375 tw928032696782213575 tw17531475781034060327 tw12238164517130232359 tw6319710357244511847 tw10609198180811224679 tw1294639462351887047 tw16548559815879092935 tw11719067033029978919 tw3534652780721520487 tw2474642355460919207 tw16885212866821426119 tw12438997015792912456 tw1834307485417713736 tw17741595838816142472 tw13198802501276389544 tw18155426916050967784 tw16926722199457092904 tw9144729880340360488:True)
 (tw9173341259532169576 tw3010165501748749800 tw11318117824423834088 tw4845161308093009384 tw1967028786002660872 tw11583208908230266408 tw7665842022692731432 tw3180552035117111912 tw6543135077645170312 tw5905416838616311432 tw3704388245889282696 tw14588346945610798920 tw5741278019908441960 tw17046708355479397224 tw18298879675887753096 tw5791964527028392872 tw13476508388650657736 tw588247605148899369 tw11742558687648583721 tw4420186531838985385 tw10227574779705037993 tw3832687466980316361 tw14096784316606477673 tw9971048435193229705 tw2706023924701425129 tw3994625820367012361 tw6713542503432701481 tw12138355657113300521 tw2020840675677838921 tw12600596889927293609 tw8017408370277136073 tw11834330994217730921 tw5963104514158675817 tw4582812704666596297 tw16730771410429607978 tw1567217133984782378 tw8893009370167496778 tw17736776824589546602 tw15145415854537460906 tw7628114810384127274:True)
 (tw13078733808374064458 tw12337465755468646762 tw14172085644160054666 tw15444420800485795338 tw15872666798330058282 tw15098113377946647146 tw3043445393146582794 tw9898421659140280074 tw6627221372209458986 tw16874917064816501578 tw6131958245206613866 tw134889742641288203 tw12802878788852855947 tw12704715760113969355 tw1867659894437540043 tw14946006061103332651 tw1209838587907268939 tw16414122824570016107 tw3452396113905497451 tw778317578128261515 tw10777462810943309195 tw16997198551398927755 tw9252860398895295915 tw5293134587442438827 tw14218943357699055371 tw10169015952909198091 tw8995179607549112075 tw10892084369921622827 tw11715991756529239883 tw5957403512693082955 tw1685610601675402091 tw14931753755887636363 tw7694571439364124555 tw13035194166189756331 tw9571269319001507787 tw399315720942882860 tw2751903184085345388 tw16012922654286206124 tw6853739837781062892 tw2356364767032699148:True)
 (tw6211200788056642892 tw3047555573345359212 tw7337855960189011340 tw10393070718140563852 tw7563202306449199564 tw6801053358527125132 tw5822513179201885900 tw1322744670223049452 tw10678596037218836236 tw8372975680119076652 tw2311503650821729100 tw13938731889018401612 tw2953806440061475692 tw8922985942400068556 tw8093336072108663788 tw4201055592428301292 tw620103279057119245 tw7969518757307852877 tw9279929629775759469 tw5404970108721780909 tw11897869672267639981 tw12293196995222964429 tw2749115392669028589 tw2319720019982526701 tw17772539889228947821 tw13255576011226373549 tw9392021575028269677 tw17382824086891094669 tw15923814513715977997 tw7372568465031147341 tw815107482464902125 tw15790645562973553710 tw13453774571312920718 tw5293015831558391982 tw157434142903740622 tw14438146951350033742 tw12632394512054068590 tw7724054280784280974 tw12583899033293558158 tw4198604228177941966:True)
 (tw9844152789872474638 tw15157147606981953102 tw4124618828826682990 tw7089552626081345134 tw1303202275296223918 tw15230489613767467726 tw18242253144552001294 tw14152542211465113358 tw10562648602925690670 tw14416161941263690670 tw3734076439031209934 tw1054245262723739630 tw3717617351089786895 tw17587634116396392463 tw5757181352996517935 tw15444616192988456015 tw12973614377073789039 tw16215532457394233487 tw7996873248614665391 tw859012944939914543 tw13533591606934118767 tw14275575337859034479 tw4151510134006977967 tw2972757717181147599 tw7297731925139860975 tw4886866544472790543 tw2576190894727011983 tw398658961226423983 tw14416937711840101167 tw13850537648207826735 tw14844307281753200463 tw3951982738779007823 tw5644831035695745967 tw10967163309076189167 tw8181493486036703280 tw15934086916278887760 tw10661233218170191216 tw16150507086961590704 tw5484683613478041040 tw10154590618069633520:True)
 (tw9679322394496004592 tw991689415616158224 tw18170618032954412656 tw8760230758214865520 tw9111119437217771216 tw4729962316624402288 tw1323362228129650544 tw12323882022698650480 tw5289168496638822352 tw821181548504722384 tw2307029696939411408 tw13942321247644430320 tw13902776680083600368 tw16586558002959640560 tw8241340936590875665 tw412408642409785361 tw402499368972196945 tw16584956741370171473 tw18381953692523155601 tw15876012423707052209 tw7004002612755821745 tw12296306702977092817 tw8459413128784960817 tw2914199236058496337 tw17579943355193383249 tw16740854250510150033 tw2378915094151440913 tw7828185077695216145 tw9057050143396986417 tw3883657574011877937 tw8678672345101414993 tw16200409252166517393 tw1428268264649968273 tw4827113870833704593 tw7027692126822391505 tw7957872435151777553 tw5217127057049719697 tw18163577900030309297 tw17797806410024455121 tw617493894302272465:True)
 (tw4117354173022118066 tw16832013265626380466 tw9860181576262337714 tw3062377005699921074 tw12122785160861401330 tw14295725026809790706 tw2582798927408676114 tw6144725474120780050 tw954792050160853266 tw52506441374723346 tw16944951225821132082 tw7721830378005273938 tw1106120540205447506 tw7228886846080345458 tw16677231849582472594 tw1300885434767102482 tw3581633272207556146 tw2117507448401671762 tw4826699537213397618 tw2187210740706680466 tw5434070778680670898 tw16518446368043146162 tw6423551378870136754 tw17050117231051440147 tw7177343408648443923 tw5103297576430349459 tw4123772239931094163 tw4971585244640219347 tw9895460544649945331 tw5321753604066054451 tw2747929748694633811 tw8771632182817746259 tw7489971054240932211 tw8331956097704678803 tw648979606717454835 tw18203760291345805875 tw2336544962550949619 tw15878766081428865939 tw7758627539580594131 tw12641822406221887443:True)
 (tw16915033344300412084 tw11255248208300497108 tw12797391975366189268 tw10540176783650023636 tw7534295379125779764 tw8478810573606223188 tw12400520791327141236 tw909944370258513300 tw7952962206566737460 tw5790434665463911060 tw16157077261175338708 tw6769825156438527732 tw5678444451811777268 tw3421224618741941012 tw6299879014238224148 tw10826761033270816660 tw2393741979169347508 tw12886621874843005876 tw6997511463560272884 tw9334542884339518485 tw11648581519130074133 tw1738710646873601077 tw9401586984686899253 tw4721503228130293909 tw1997376172385971381 tw5783954732649652469 tw13598987488626511157 tw13257213710044023125 tw1855930613520259509 tw176578090967401941 tw16595476964487425525 tw2809506059059811893 tw9014722028385143381 tw17359228535838933621 tw4678149977649088117 tw17799478593488782997 tw7535825508121319189 tw11979184841905584981 tw287078485593627509 tw7343203820685453173:True)
 (tw1643490934745994133 tw218446590301816757 tw12947061273113695254 tw879315003657972790 tw14450097415530836054 tw5936875433776512086 tw5119112703811186806 tw781281700647935158 tw2151026937859587350 tw9704148782365885718 tw4513431041846794582 tw13206717834354600342 tw18266178086738461110 tw676876086483144118 tw9734603705897815574 tw9618753656221253142 tw6529827146947329590 tw12026659777367284310 tw7500115409526230646 tw11508059976758283926 tw10939350222052421302 tw8861830242259374870 tw13033829758959162134 tw9832928358241481494 tw6663946403679428502 tw13987962425999208438 tw5874513070712827927 tw64279259054952471 tw13621009274676402231 tw2168211729313502327 tw11779942012264941783 tw4389217291617885431 tw4190524533358915831 tw2502712110657466615 tw9711161849183936887 tw4054169771016104311 tw13573642137731552631 tw2211014826605987223 tw15917853971562158487 tw15855424338772622807:True)
 (tw15652676353961760247 tw9415866094680881751 tw13783833471087940215 tw18434227356960057975 tw8277258820955425463 tw4173562490233609911 tw8892659448828020439 tw12699496690884822743 tw13063828717100682967 tw14303571318463455959 tw11671292487441185527 tw11272035293146854167 tw6352599355645012759 tw4758816642357146423 tw7578597390420079511 tw4643272695710079959 tw7858319976281162872 tw15565043877209352408 tw12612811654926236888 tw9406424693250102520 tw6746841968441542040 tw152858033345090968 tw16364785501881237976 tw11097886703051567608 tw6641226076068846264 tw7341845655620436696 tw17412675006568685272 tw12186994834658422648 tw7526157642789397529 tw10865114836854260953 tw14342155691139125497 tw17481200494377598233 tw4679056334301333945 tw905736198659731929 tw16605263077157779961 tw16878910012906387961 tw17828783787255379513 tw16927076853865363033 tw4159214168662764217 tw11382331835872607929:True)
 (tw9905938324469785305 tw15910322999891896089 tw18262959690437998393 tw4387163659631394681 tw1360309790810123257 tw6035513274465814618 tw4165886842310489178 tw9601353941445415034 tw12306140721078494330 tw18017575532059803866 tw16527433098774748410 tw10204354012382488922 tw13147905195040965018 tw13637170667533265370 tw6980467501202049498 tw17057938100559475258 tw17587039132527689306 tw16946113730389482234 tw7918852474151265050 tw6149283127978199898 tw6906749870408562554 tw3550910140512560026 tw16312017131221396442 tw14047499373519107034 tw13006227524475865147 tw5040258752969483387 tw11218968751614152827 tw17407198783248795835 tw163058210916737307 tw15454444967948874107 tw5736227715528569243 tw3968215309060581883 tw16023552974680566299 tw1513483380602242683 tw17340386419663097467 tw10005009357254246235 tw15675578186905599995 tw12529440725015142460 tw11853351129826321500 tw7478388178821602428:True)
 (tw10186596548052697244 tw1878797302828893404 tw13643906595042264284 tw5591322013935804668 tw15891063231108563324 tw1272443614891646364 tw2789076011076514300 tw17328496696952450620 tw6115100457180108412 tw5058017633016949436 tw10113079309158101724 tw1842964048676763388 tw6833457699323222844 tw7291043242247716668 tw17313691647803153276 tw16941834282766887804 tw8405566771617569692 tw7278490156594981788 tw2167793300847849372 tw7402060443789033372 tw843405899253232701 tw14015534420697880669 tw3843614221812133245 tw4242952704556778909 tw1737013771907654109 tw5128040637191445021 tw9086968644870100541 tw17437364095556511293 tw13717332535801547453 tw9262510204033294045 tw18393379927208265501 tw1930340511089421213 tw7216821841589590013 tw263183563355665470 tw130620744670471262 tw10041995657225235550 tw15957953851091325054 tw11946184289392325822 tw2860731973511095678 tw579815489549841854:True)
 (tw11269328651133951454 tw15545716065326011870 tw6090004906649327102 tw4687931230219100670 tw7765151916627995166 tw16767793372876636766 tw10238994979701524062 tw1006409483262036574 tw12669585577052678846 tw1100401730137701054 tw3836284042574479070 tw7625941515980594014 tw17692316952040373214 tw16839369693058979871 tw12072153739164745823 tw14580752315757423743 tw95941610064971935 tw240679715225976991 tw4098751358712668415 tw3236031691588958559 tw7073426576610484607 tw8643914501855430079 tw1635033320303042015 tw750120617344280095 tw3395774377739754047 tw4201316383902876223 tw1195932750618556031 tw8440171929095339647 tw15955627923480486559 tw17210608788709372671 tw17521933742965240575 tw16037789731427243839 tw3437494524554030943 tw2391003486756296543 tw86448382863175519 tw7575800359763496831 tw14245254386016128991 tw17449509200253018375:True)
open PySem PySem.W PyProof.Rows
set_option maxRecDepth 100000 in
set_option maxHeartbeats 0 in
theorem PySem.Challenge.cw_mendfield_k19_solved_or_a_reason_holds : PySem.Challenge.rw_mendfield_k19_solved_or_a_reason.Holds := by
 w_on;o_law;k_head;(case hw=>w_witness2)
 k_fill
 refine HK19.walk (l:=PySem.Challenge.rw_mendfield_k19_solved_or_a_reason) rfl rfl (λw h Y=>⟨PySem.W.km_in_of Y,PySem.W.km_tabs_of Y⟩) ?C ?F
 case C =>
  intro w h hX
  repeat' (first | exact List.forall_mem_nil _ | refine List.forall_mem_cons.mpr ⟨?_,?_⟩)
  all_goals first | (refine' HK19.aA1 hX ?a ?b ?l ?lk ?lp ?n ?e;(case a=>k_is);(case b=>k_is);(case l=>k_is);(case lk=>k_is);(case lp=>first | rfl | with_unfolding_all rfl);(case n=>kernel_rfl);(case e=>kernel_rfl)) | (refine' HK19.aC1 hX ?a ?b ?l ?lk ?lp ?n ?e;(case a=>k_is);(case b=>k_is);(case l=>k_is);(case lk=>k_is);(case lp=>first | rfl | with_unfolding_all rfl);(case n=>kernel_rfl);(case e=>kernel_rfl))
 case F =>
  intro w mg fa h KX G vR
  refine' HK19.all_mk KX G vR ?xC ?xD ?uW ?xE ?a0 ?l0 ?c0 ?k0 ?a1 ?l1 ?c1 ?k1 ?a2 ?l2 ?c2 ?k2 ?a3 ?l3 ?c3 ?k3 ?a4 ?l4 ?c4 ?k4 ?a5 ?l5 ?c5 ?k5 ?a6 ?l6 ?c6 ?k6 ?a7 ?l7 ?c7 ?k7 ?Rn ?Ro ?GP ?a8 ?l8 ?c8 ?k8 ?a9 ?l9 ?c9 ?k9 ?GQ ?GR ?GS ?GU ?GV ?GW ?GX ?GY ?GZ ?G0 ?G1 ?G2 ?Rp ?G3 ?G4 ?G5 ?Rq ?Rt ?G6 ?G7 ?G8 ?G9 ?Ha ?Hb ?Hc ?He ?Hf ?Hg ?Hh ?Hi ?Hj ?Hk ?Hl ?Hm ?Ho ?Hq ?Hr ?Hs ?Ht ?Hu ?Hv ?Hw ?Hx ?Hy ?Hz ?HA ?HB ?HC ?HD ?HE ?HF ?HG ?HH ?HI ?HJ ?HK ?HL ?HM ?HN ?Ru ?HP ?HQ ?AU ?Rv ?HR ?HS ?AV ?Rw ?HU ?HV ?AW ?Rx ?HW ?HX ?AX ?HY ?HZ ?Ia ?Ib ?Ry ?Ic ?Ie ?xJ ?Ig ?Ih ?Ii ?Ij ?Ik ?Il ?Im ?Io ?Ip ?Iq ?Ir ?Iu ?Iw ?Iy ?Iz ?IA ?IB ?IC ?ID ?IE ?IF ?IG ?IH ?II ?IJ ?IK ?IL ?IM ?IQ ?IS ?IT ?IU ?IV ?IW ?IY ?IZ ?I0 ?Ja ?Jb ?Jc ?Jd ?Je ?Jf ?Jg ?AY ?Jh ?Ji ?Jj ?AZ ?A6 ?A7 ?A8 ?xk ?Jk ?Jl ?Jm ?Jn ?Jo ?Jp ?Jq ?xm ?pH ?uR ?rW ?Ac ?rX ?xn ?xo ?xp ?Jr ?xq ?Js ?xt ?Jt ?uS ?Ju ?A9 ?Ba ?Bb ?Bc ?xu ?Jv ?Jw ?Jx ?Jy ?Jz ?JA ?JB ?Ad ?rY ?uT ?uU ?rZ ?Ae ?xv ?xw ?xx ?JC ?xy ?JE ?xA ?JF ?uV ?JG ?JH ?JI ?JJ ?JK ?JL ?JM ?JN ?JO ?JP ?JQ ?JR ?JS ?JT ?Rz ?JU ?JV ?JW ?JX ?JY ?JZ ?at2 ?J0 ?nl ?sub
  (case xC=>k_is)
  (case xD=>k_is)
  (case uW=>k_is)
  (case xE=>k_is)
  (case a0=>k_is)
  (case l0=>k_is)
  (case c0=>k_is)
  (case k0=>k_is)
  (case a1=>k_is)
  (case l1=>k_is)
  (case c1=>k_is)
  (case k1=>k_is)
  (case a2=>k_is)
  (case l2=>k_is)
  (case c2=>k_is)
  (case k2=>k_is)
  (case a3=>k_is)
  (case l3=>k_is)
  (case c3=>k_is)
  (case k3=>k_is)
  (case a4=>k_is)
  (case l4=>k_is)
  (case c4=>k_is)
  (case k4=>k_is)
  (case a5=>k_is)
  (case l5=>k_is)
  (case c5=>k_is)
  (case k5=>k_is)
  (case a6=>k_is)
  (case l6=>k_is)
  (case c6=>k_is)
  (case k6=>k_is)
  (case a7=>k_is)
  (case l7=>k_is)
  (case c7=>k_is)
  (case k7=>k_is)
  (case Rn=>k_is)
  (case Ro=>first | rfl | with_unfolding_all rfl)
  (case GP=>kernel_rfl)
  (case a8=>k_is)
  (case l8=>k_is)
  (case c8=>k_is)
  (case k8=>k_is)
  (case a9=>k_is)
  (case l9=>k_is)
  (case c9=>k_is)
  (case k9=>k_is)
  (case GQ=>k_is)
  (case GR=>k_is)
  (case GS=>k_is)
  (case GU=>k_is)
  (case GV=>k_is)
  (case GW=>k_is)
  (case GX=>k_is)
  (case GY=>k_is)
  (case GZ=>k_is)
  (case G0=>k_is)
  (case G1=>k_is)
  (case G2=>k_is)
  (case Rp=>k_is)
  (case G3=>k_is)
  (case G4=>k_is)
  (case G5=>k_is)
  (case Rq=>k_is)
  (case Rt=>first | rfl | with_unfolding_all rfl)
  (case G6=>kernel_rfl)
  (case G7=>k_is)
  (case G8=>k_is)
  (case G9=>k_is)
  (case Ha=>k_is)
  (case Hb=>k_is)
  (case Hc=>k_is)
  (case He=>k_is)
  (case Hf=>k_is)
  (case Hg=>k_is)
  (case Hh=>k_is)
  (case Hi=>k_is)
  (case Hj=>k_is)
  (case Hk=>k_is)
  (case Hl=>k_is)
  (case Hm=>k_is)
  (case Ho=>k_is)
  (case Hq=>k_is)
  (case Hr=>k_is)
  (case Hs=>k_is)
  (case Ht=>k_is)
  (case Hu=>k_is)
  (case Hv=>k_is)
  (case Hw=>k_is)
  (case Hx=>k_is)
  (case Hy=>k_is)
  (case Hz=>k_is)
  (case HA=>k_is)
  (case HB=>k_is)
  (case HC=>k_is)
  (case HD=>k_is)
  (case HE=>k_is)
  (case HF=>k_is)
  (case HG=>k_is)
  (case HH=>k_is)
  (case HI=>k_is)
  (case HJ=>k_is)
  (case HK=>k_is)
  (case HL=>k_is)
  (case HM=>k_is)
  (case HN=>k_is)
  (case Ru=>k_is)
  (case HP=>k_is)
  (case HQ=>k_is)
  (case AU=>k_is)
  (case Rv=>k_is)
  (case HR=>k_is)
  (case HS=>k_is)
  (case AV=>k_is)
  (case Rw=>k_is)
  (case HU=>k_is)
  (case HV=>k_is)
  (case AW=>k_is)
  (case Rx=>k_is)
  (case HW=>k_is)
  (case HX=>k_is)
  (case AX=>k_is)
  (case HY=>k_is)
  (case HZ=>k_is)
  (case Ia=>k_is)
  (case Ib=>k_is)
  (case Ry=>k_is)
  (case Ic=>k_is)
  (case Ie=>k_is)
  (case xJ=>k_is)
  (case Ig=>k_is)
  (case Ih=>k_is)
  (case Ii=>k_is)
  (case Ij=>k_is)
  (case Ik=>k_is)
  (case Il=>k_is)
  (case Im=>k_is)
  (case Io=>k_is)
  (case Ip=>k_is)
  (case Iq=>k_is)
  (case Ir=>k_is)
  (case Iu=>k_is)
  (case Iw=>k_is)
  (case Iy=>k_is)
  (case Iz=>k_is)
  (case IA=>k_is)
  (case IB=>k_is)
  (case IC=>k_is)
  (case ID=>k_is)
  (case IE=>k_is)
  (case IF=>k_is)
  (case IG=>k_is)
  (case IH=>k_is)
  (case II=>k_is)
  (case IJ=>k_is)
  (case IK=>k_is)
  (case IL=>k_is)
  (case IM=>k_is)
  (case IQ=>k_is)
  (case IS=>k_is)
  (case IT=>k_is)
  (case IU=>k_is)
  (case IV=>k_is)
  (case IW=>k_is)
  (case IY=>k_is)
  (case IZ=>k_is)
  (case I0=>k_is)
  (case Ja=>k_is)
  (case Jb=>k_is)
  (case Jc=>k_is)
  (case Jd=>k_is)
  (case Je=>k_is)
  (case Jf=>k_is)
  (case Jg=>k_is)
  (case AY=>k_is)
  (case Jh=>k_is)
  (case Ji=>k_is)
  (case Jj=>k_is)
  (case AZ=>k_is)
  (case A6=>k_is)
  (case A7=>k_is)
  (case A8=>k_is)
  (case xk=>k_is)
  (case Jk=>k_is)
  (case Jl=>k_is)
  (case Jm=>k_is)
  (case Jn=>k_is)
  (case Jo=>k_is)
  (case Jp=>k_is)
  (case Jq=>k_is)
  (case xm=>k_is)
  (case pH=>k_is)
  (case uR=>k_is)
  (case rW=>k_is)
  (case Ac=>k_is)
  (case rX=>k_is)
  (case xn=>k_is)
  (case xo=>k_is)
  (case xp=>k_is)
  (case Jr=>k_is)
  (case xq=>k_is)
  (case Js=>k_is)
  (case xt=>k_is)
  (case Jt=>k_is)
  (case uS=>k_is)
  (case Ju=>k_is)
  (case A9=>k_is)
  (case Ba=>k_is)
  (case Bb=>k_is)
  (case Bc=>k_is)
  (case xu=>k_is)
  (case Jv=>k_is)
  (case Jw=>k_is)
  (case Jx=>k_is)
  (case Jy=>k_is)
  (case Jz=>k_is)
  (case JA=>k_is)
  (case JB=>k_is)
  (case Ad=>k_is)
  (case rY=>k_is)
  (case uT=>k_is)
  (case uU=>k_is)
  (case rZ=>k_is)
  (case Ae=>k_is)
  (case xv=>k_is)
  (case xw=>k_is)
  (case xx=>k_is)
  (case JC=>k_is)
  (case xy=>k_is)
  (case JE=>k_is)
  (case xA=>k_is)
  (case JF=>k_is)
  (case uV=>k_is)
  (case JG=>k_is)
  (case JH=>k_is)
  (case JI=>k_is)
  (case JJ=>k_is)
  (case JK=>k_is)
  (case JL=>k_is)
  (case JM=>k_is)
  (case JN=>k_is)
  (case JO=>k_is)
  (case JP=>k_is)
  (case JQ=>k_is)
  (case JR=>k_is)
  (case JS=>k_is)
  (case JT=>first | k_is | rfl | decide)
  (case Rz=>k_is)
  (case JU=>k_exc)
  (case JV=>k_is)
  (case JW=>k_is)
  (case JX=>k_is)
  (case JY=>k_is)
  (case JZ=>k_is)
  (case at2=>k_is)
  (case J0=>k_is)
  (case nl=>first | k_is | rfl | decide)
  (case sub=>decide)
