import PyProof.Rows.All
import Wide.All
import OpenK.AllK
import Wide.FinOn
import Lean
import PyProof.EqAt
import PyProof.EqKinds
import PyProof.TupleCall
import PyProof.NeKinds
import PyProof.Rows.Range3
import PyProof.FitsBits
import PyProof.StationsW
import PyProof.NsDelKeeps
import PyProof.Rows.CatchOwn
import KE.KTryMore
import PyProof.ExcArgsOwn
import PyProof.ExcAttrAll.ValueError
import OpenK.KOwn
import PyProof.ZipIter
import PyProof.WalksEnum
import PyProof.EnumMake
import KE.KIntText
import PyProof.Conv_int
import PyProof.StrWalks
import PyProof.StrLawsFirst
import KE.KLam
import KE.KNestM
import KE.KRevIter
import PyProof.ListRange
import PyProof.Rows.SortWalk
import PySem.Challenge.RW_mendfield_k14_tables_multiplied
open Array renaming append_assoc→sF,getElem?_eq_some_iff→Gp,length_toList→Nm,toList_append→NF
open Bool renaming and_eq_true→dm,or_true→fV,and_true→iQ,true_and→jy,false_and→nu,or_false→ny,not_false→qf,not_true→qg,true_or→qh,false_or→qi,false_eq_true→qj,false_ne_true→vm,eq_iff_iff→yu
open False renaming elim→dA
open ForInStep renaming yield→yv
open Int renaming natAbs_natCast→fw,toNat_natCast→iR,emod_lt_of_pos→nI,natCast_emod→pU,emod_nonneg→qk,natCast_add→vv,natCast_mul→yG,natCast_nonneg→Gd,zero_add→Gw,toNat_of_nonneg→Gy,fdiv_eq_ediv_of_nonneg→Np
open List renaming replicate→aX,range→bf,getElem?_eq_getElem→br,map_map→bQ,mem_cons→bV,append_assoc→cn,mem_append→cA,length_map→cB,mem_append_right→cI,all_eq_true→cQ,map_cons→cV,size_toArray→cW,all_cons→cX,getD_eq_getElem?_getD→cY,mem_map→cZ,getElem?_map→dB,mem_append_left→eu,lookup_cons→eA,length_cons→fu,getElem_mem→fv,mem_range→fU,getElem?_eq_some_iff→gG,nodup_cons→gH,map_append→gI,length_range→gJ,mem_cons_of_mem→hE,mem_singleton→hW,not_mem_nil→ia,cons_append→ib,map_nil→iO,zipWith→iS,lookup→jt,nil_append→jv,set_cons_succ→jz,append_nil→kL,all_map→kO,all_nil→kP,set_cons_zero→kQ,getElem?_set_ne→nr,replicate_succ→nB,perm_append_comm→nF,getElem?_range→nG,filterMap_cons→pJ,length_append→pM,flatten_cons→pO,cons.inj→pQ,append_inj→pS,getElem?_eq_none→pV,length_nil→pZ,getElem?_cons_zero→p8,getElem?_cons_succ→p9,cons.injEq→qe,getElem?_append_right→sH,mem_of_getElem?→sI,map_congr_left→sM,mem_cons_self→vl,of_mem_zip→vo,length_zipWith→vx,getElem?_zipWith→vy,getElem?_set_self→ym,append_eq_nil_iff→yy,set_set→yA,take_add_one→yB,map→yD,zipWith_map→yE,mem_map_of_mem→yF,getElem?_eq_none_iff→FY,length→Gf,getElem?_replicate→Gg,getElem?_append_left→Gh,getElem_of_mem→Gm,Sublist.refl→Gs,take_of_length_le→Gu,sum_cons→Gz,foldl_append→GB,mem_filterMap→Nn,length_singleton→Nr,set_eq_of_length_le→Ny,eq_nil_iff_forall_not_mem→Nz,filter_eq_self→NA,mem_replicate→NB,range_succ_eq_map→NC,getElem?_mapIdx→ND,zip_cons_cons→NG,zipWith_cons_cons→NH
open Nat renaming le_refl→bH,lt_of_lt_of_le→cm,ne_of_lt→dG,le_trans→dW,lt_irrefl→eQ,shiftLeft_eq→hJ,xor_zero→iP,zero_le→ju,mul_comm→jw,testBit_xor→jx,zero_xor→kM,lt_of_le_of_lt→kN,pow_succ→nC,xor_assoc→nD,mod_lt→nH,mul_assoc→pP,lt_succ_self→sG,two_pow_pos→sJ,not_lt→sN,mul_mod→sO,mod_eq_of_lt→sP,mod_add_mod→sQ,succ.inj→sR,le_of_lt→vk,pow_le_pow_right→vq,eq_of_testBit_eq→vt,testBit_zero→vu,le_of_succ_le→vw,succ_pos→vz,testBit_lt_two_pow→yp,testBit_succ→yq,strongRecOn→yr,xor_self→yt,add_sub_cancel_left→yH,one_shiftLeft→yJ,ne_of_gt→FZ,le_of_eq→Ge,xor_comm→Gj,testBit_and→Gk,sub_self→Gv,mod_mod→Gx,add_assoc→GA,testBit_eq_decide_div_mod_eq→Nt,shiftLeft_xor_distrib→Nu,mul_lt_mul_right→Nv,testBit_shiftLeft→Nw,shiftRight_eq_div_pow→Nx,exists_eq_add_of_le→NI
open Ne renaming symm→dz
open Option renaming some.inj→cP,getD_some→nE,getD_none→pW,map_some→pX,map_none→pY,some.injEq→qa,none→yo,map_eq_some_iff→yC,isSome_iff_exists→Nq
open Or renaming inl→ar,inr→aR
open PyProof renaming Rows.callWith_type1→vn
open PySem renaming Heap.lt_size→bj,Value.ref→dF,Heap.get?_push_of_some→dX,Heap.get?_push_size→fb,PassesOwn.never→fW,Builtin.bitAnd→kK,Value.int→nk,Value.none→nq,Builtin.bitXor→nv,Heap.get?_update_other→nz,Heap.size_push→pL,Obj.mapSeq→vp,Value.bool→yl,Heap.get?_update_self→yn,Obj.data_mapFields→yw,Value.type.inj→yx,NameKind.cell→yI,Builtin.List.listTooLong→Gi,Obj.isFreed_of_fields→Gn,Heap.MadeExcOf→Gq,Calls.Name_function_global→Nl
open Sum renaming inl→pH,inr→pI
open True renaming intro→pK
set_option Elab.async false
set_option linter.all false
set_option maxRecDepth 100000
namespace L2
open PySem PySem.Spec PyProof.Rows
noncomputable abbrev Key:=Sum Int Str
noncomputable def GC:Key->Value->Bool
 | .inl k,v=>Value.isInt k v
 | .inr x,v=>Value.isStrOf x v
noncomputable def NJ(w:World):Key->Int
 | .inl k=>hashInt k
 | .inr x=>hashStr w x
theorem jA:∀{k:Key} {v:Value},GC k v=true->(∃i t,k=pH i/\v=nk i t)\/(∃x t,k=pI x/\v=Value.str x t)
 | .inl i,v,h=>by
  obtain⟨t,e⟩:=Value.isInt_shape (k:=i) (v:=v) h
  exact .inl ⟨i,t,rfl,e⟩
 | .inr x,v,h=>by
  obtain⟨t,e⟩:=Value.isStrOf_shape (x:=x) (v:=v) h
  exact .inr ⟨x,t,rfl,e⟩
theorem NK(a b:Int):decide ((pH a:Key)=pH b)=(a==b):=by
 by_cases e:a=b
 ·subst e;simp
 ·have h:¬ (pH a:Key)=pH b:=λq=>e (Sum.inl.inj q)
  rw[decide_eq_false h]
  exact(beq_eq_false_iff_ne.mpr e).symm
theorem NL(a b:Str):decide ((pI a:Key)=pI b)=decide (a=b):=by
 by_cases e:a=b
 ·subst e;simp
 ·have h:¬ (pI a:Key)=pI b:=λq=>e (Sum.inr.inj q)
  rw[decide_eq_false h,decide_eq_false e]
theorem NM(a:Int)(b:Str):decide ((pH a:Key)=pI b)=false:=decide_eq_false (λq=>nomatch q)
theorem NN(a:Str)(b:Int):decide ((pI a:Key)=pH b)=false:=decide_eq_false (λq=>nomatch q)
noncomputable def GD(prog:Program)(w:World):PySem.KeyKind prog w Key where
 is:=GC
 hash:=NJ w
 inj:=λv a b ha hb=>by
  rcases jA ha with⟨i,t,rfl,rfl⟩ | ⟨x,t,rfl,rfl⟩
  ·rcases jA hb with⟨j,u,rfl,e⟩ | ⟨y,u,rfl,e⟩
   ·injection e with e1 _;rw[e1]
   ·exact nomatch e
  ·rcases jA hb with⟨j,u,rfl,e⟩ | ⟨y,u,rfl,e⟩
   ·exact nomatch e
   ·injection e with e1 _;rw[e1]
 byValue:=λk v h=>by
  rcases jA h with⟨i,t,rfl,rfl⟩ | ⟨x,t,rfl,rfl⟩<;>rfl
 pyHash:=λhv h=>by
  rcases jA hv with⟨i,t,rfl,rfl⟩ | ⟨x,t,rfl,rfl⟩
  ·exact wpAny_pyHash_int h
  ·exact wpAny_pyHash_str h
 eqBool:=λhu hv h=>by
  rcases jA hu with⟨i,t,rfl,rfl⟩ | ⟨x,t,rfl,rfl⟩
  ·rcases jA hv with⟨j,u,rfl,rfl⟩ | ⟨y,u,rfl,rfl⟩
   ·rw[NK]at h;exact wpAny_eqBool_int h
   ·rw[NM]at h;exact SeqAt.EqAt.int_str i t y u _ _ _ _ h
  ·rcases jA hv with⟨j,u,rfl,rfl⟩ | ⟨y,u,rfl,rfl⟩
   ·rw[NN]at h;exact SeqAt.EqAt.str_int x t j u _ _ _ _ h
   ·rw[NL]at h;exact wpAny_eqBool_str h
 «strs»:=λk x t v h=>by
  rcases jA h with⟨i,u,rfl,e⟩ | ⟨y,u,rfl,e⟩
  ·exact nomatch e
  ·injection e with e1 _
   subst e1
   cases v<;>rfl
end L2
namespace L2
open PySem PySem.Spec PyProof.Rows
inductive V where
 | ak | bl (b:Bool) | int (i:Int) | str (x:Str) | vA (b:Array UInt8) | nJ (b:UInt64) | ref (a:Addr) | ty (n:String)
 deriving DecidableEq
noncomputable def RelV:V->Value->Prop
 | .ak,u=>u=nq
 | .bl b,u=>u=yl b
 | .int i,u=>∃t,u=nk i t
 | .str x,u=>∃t,u=Value.str x t
 | .vA b,u=>∃t,u=Value.bytes b t
 | .nJ b,u=>∃t,u=Value.float b t
 | .ref a,u=>u=dF a
 | .ty n,u=>u=Value.type n
noncomputable abbrev Vals:List V->List Value->Prop:=Paired RelV
theorem Vals.length{xs:List V}{us:List Value}(r:Vals xs us):xs.length=us.length:=Paired.length r
theorem Vals.get:∀{xs:List V} {us:List Value} {i:Nat} {x:V},Vals xs us->xs[i]?=some x->∃u,us[i]?=some u/\RelV x u
 | _,_,_,_,.nil,e=>by simp at e
 | _,_,0,_,.cons r _,e=>by simp at e;subst e;exact⟨_,rfl,r⟩
 | _,_,i+1,x,.cons _ t,e=>by
  obtain⟨u,h1,h2⟩:=Vals.get (i:=i) (x:=x) t (by simpa using e)
  exact⟨u,by simpa using h1,h2⟩
theorem Vals.set{x:V}{u:Value}(r:RelV x u):∀{xs:List V} {us:List Value} (i:Nat),Vals xs us->Vals (xs.set i x) (us.set i u)
 | _,_,_,.nil=>.nil
 | _,_,0,.cons _ t=>.cons r t
 | _,_,i+1,.cons q t=>.cons q (Vals.set r i t)
theorem Vals.append:∀{xs ys:List V} {us ws:List Value},Vals xs us->Vals ys ws->Vals (xs++ys) (us++ws)
 | _,_,_,_,.nil,s=>s
 | _,_,_,_,.cons r t,s=>.cons r (Vals.append t s)
theorem Vals.take:∀{xs:List V} {us:List Value} (n:Nat),Vals xs us->Vals (xs.take n) (us.take n)
 | _,_,0,_=>.nil
 | _,_,_+1,.nil=>.nil
 | _,_,n+1,.cons r t=>.cons r (Vals.take n t)
theorem Vals.drop:∀{xs:List V} {us:List Value} (n:Nat),Vals xs us->Vals (xs.drop n) (us.drop n)
 | _,_,0,r=>r
 | _,_,_+1,.nil=>.nil
 | _,_,n+1,.cons _ t=>Vals.drop n t
theorem Vals.none_of:∀{xs:List V} {us:List Value} {i:Nat},Vals xs us->xs[i]?=none->us[i]?=none:=λ{xs us i} r e=>by
 have h1:=r.length
 have h2:xs.length<=i:=FY.mp e
 exact FY.mpr (by omega)
noncomputable def iT:Option V->Option Value->Prop
 | some v,some u=>RelV v u
 | none,none=>True
 | _,_=>False
noncomputable def KV{κ:Type}:List (κ × V)->List (κ × Value)->Prop:=Paired λ(p:κ × V) (q:κ × Value)=>p.1=q.1/\RelV p.2 q.2
noncomputable def kV:Key->V
 | .inl i=>.int i
 | .inr x=>.str x
inductive HO where
 | lst (xs:List V)
 | tup (xs:List V)
 | dK (cC:List (Key × V)) | dT (cC:List (List Key × V))
 | set (S:Int->Bool) (n:Nat)
 | ins (C dx:Addr) (fs:List (Str × V))
 | own (x:Addr)
 | xd (fs:List (Str × V))
 | met (f x:Addr)
 | sS (lo hi:Int)
 | bK (o:Obj) (u:HO)
 | cq (ps:Array Value)
 | ext (φ:Heap->Prop)
noncomputable abbrev Hp:=Addr->Option HO
noncomputable def upd(H:Hp)(a:Addr)(o:HO):Hp:=λb=>if b=a then some o else H b
theorem bw{H:Hp}{a:Addr}{o:HO}:upd H a o a=some o:=by unfold upd;rw[if_pos rfl]
theorem aD{H:Hp}{a b:Addr}{o:HO}(h:b≠a):upd H a o b=H b:=by unfold upd;rw[if_neg h]
theorem dq{H:Hp}{a b:Addr}{o:HO}(h:H a=some o)(h':H b=none):a≠b:=by
 intro e;subst e;rw[h]at h';cases h'
section
variable(P:Program)(w:World)
noncomputable def cM(H:Hp)(h:Heap)(a:Addr):HO->Prop
 | .lst xs=>xs.length<=sizeLine/\∃(its:List Value) (n:Nat),Vals xs its/\h.get? a=some { cls:=.type "list",data:=.seq its.toArray n }
 | .tup xs=>xs.length<=sizeLine/\∃its:List Value,Vals xs its/\IsTup h a its.toArray
 | .dK cC=>cC.length<=sizeLine/\(a==sysModules)=false/\∃vs,KV cC vs/\h.DictOf (GD P w) a vs
 | .dT cC=>cC.length<=sizeLine/\(a==sysModules)=false/\∃xs:List (List Key × Addr × Value),
   Paired (λ(p:List Key × V) (q:List Key × Addr × Value)=>p.1=q.1/\H q.2.1=some (.tup (p.1.map kV))/\RelV p.2 q.2.2) cC xs /\
   ∃o es ep,h.get? a=some o/\o.ExactDict/\o.data=.dict es ep/\es.toList=xs.map (entryOfKey (tupleKind (GD P w)))/\(xs.map (·.1)).Nodup
 | .set S n=>h.SetOf (intKind P w) a S n
 | .ins C dx fs=>H dx=some (.own a)/\fs.length<=1000/\dx≠a/\h.get? a=some (PySem.W.instObj C dx) /\
   ∃mA,h.Ns1 dx mA/\(∀f,iT (fs.lookup f) (mA f))/\PySem.Within mA (fs.map (·.1))
 | .own _=>∃o,h.get? a=some o
 | .xd fs=>∃mA,h.Ns1 a mA/\∀f,iT (fs.lookup f) (mA f)
 | .sS lo hi=>∃t u v,h.get? a=some { cls:=.type "range",data:=.fields #[.int lo t,.int hi u,.int 1 v] }
 | .bK o u=>h.get? a=some o/\cM H h a u
 | .cq ps=>h.get? a=some { cls:=.none,data:=.fields ps }/\TriplesOk ps.toList/\∀pos cv,codeAmong pos ps.toList=some cv->∃c φ,cv=.ref c/\H c=some (.ext φ)/\∀h',φ h'->∃q,h'.CodeRec (.ref c) q
 | .met f x=>h.get? a=some (PySem.W.methodObj (.ref f) (.ref x))
 | .ext φ=>φ h/\(∃o,h.get? a=some o)/\∀h1 h2:Heap,φ h1->(∀b o,(b=a\/H b=some (.own a))->h1.get? b=some o->h2.get? b=some o)->φ h2
noncomputable def bR(H:Hp)(h:Heap):Prop:=∀a o,H a=some o->cM P w H h a o
end
section
variable{P:Program}{w:World}{H H':Hp}{h h':Heap}{a:Addr}{o:HO}
theorem cM.lt(x:cM P w H h a o):a<h.objs.size:=by
 cases o with
 | lst xs=>obtain⟨_,_,_,_,e⟩:=x;exact bj e
 | tup xs=>obtain⟨_,_,_,p⟩:=x;exact p.lt
 | dK cC=>obtain⟨_,_,_,_,o,_,_,e,_⟩:=x;exact bj e
 | dT cC=>obtain⟨_,_,_,_,o,_,_,e,_⟩:=x;exact bj e
 | set S n=>obtain⟨o,_,_,_,e,_⟩:=x;exact bj e
 | ins C dx fs=>obtain⟨_,_,_,e,_⟩:=x;exact bj e
 | own y=>obtain⟨_,e⟩:=x;exact bj e
 | xd fs=>obtain⟨_,⟨_,_,_,e,_⟩,_⟩:=x;exact bj e
 | sS lo hi=>obtain⟨_,_,_,e⟩:=x;exact bj e
 | bK ob u=>obtain⟨e,_⟩:=x;exact bj e
 | cq ps=>exact bj (show h.get? a=some _ from x.1)
 | met f y=>exact bj (show h.get? a=some _ from x)
 | ext φ=>obtain⟨_,⟨_,e⟩,_⟩:=x;exact bj e
theorem Paired.yK{α β:Type}{F G:α->β->Prop}:∀{l₁:List α} {l₂:List β},Paired F l₁ l₂->(∀a b,F a b->G a b)->Paired G l₁ l₂
 | _,_,.nil,_=>.nil
 | _,_,.cons r t,f=>.cons (f _ _ r) (Paired.yK t f)
theorem cM.gK(x:cM P w H h a o)(k:∀b u,(b=a\/H b=some (.own a))->h.get? b=some u->h'.get? b=some u)
  (ho:∀b,H b=some (.own a)->H' b=some (.own a)) (ht:∀b xs,H b=some (.tup xs)->H' b=some (.tup xs)) (hx:∀b φ,H b=some (.ext φ)->H' b=some (.ext φ)):cM P w H' h' a o:=by
 induction o with
 | lst xs=>obtain⟨z,its,n,r,e⟩:=x;exact⟨z,its,n,r,k _ _ (.inl rfl) e⟩
 | tup xs=>obtain⟨z,its,r,ob,e,c⟩:=x;exact⟨z,its,r,ob,k _ _ (.inl rfl) e,c⟩
 | dK cC=>obtain⟨z,y,vs,r,ob,es,ep,e,c⟩:=x;exact⟨z,y,vs,r,ob,es,ep,k _ _ (.inl rfl) e,c⟩
 | dT cC =>
  obtain⟨z,y,xs,r,ob,es,ep,e,c⟩:=x
  exact⟨z,y,xs,Paired.yK r λp q z=>⟨z.1,ht _ _ z.2.1,z.2.2⟩,ob,es,ep,k _ _ (.inl rfl) e,c⟩
 | set S n=>obtain⟨ob,es,ep,t,e,c⟩:=x;exact⟨ob,es,ep,t,k _ _ (.inl rfl) e,c⟩
 | ins C dx fs =>
  obtain⟨d,z,ne,e,mA,⟨od,es,ep,e2,c⟩,r⟩:=x
  exact⟨ho _ d,z,ne,k _ _ (.inl rfl) e,mA,⟨od,es,ep,k _ _ (.inr d) e2,c⟩,r⟩
 | own y=>obtain⟨ob,e⟩:=x;exact⟨ob,k _ _ (.inl rfl) e⟩
 | xd fs=>obtain⟨mA,⟨od,es,ep,e,c⟩,r⟩:=x;exact⟨mA,⟨od,es,ep,k _ _ (.inl rfl) e,c⟩,r⟩
 | sS lo hi=>obtain⟨t,u,v,e⟩:=x;exact⟨t,u,v,k _ _ (.inl rfl) e⟩
 | bK ob u ih=>obtain⟨e,q⟩:=x;exact⟨k _ _ (.inl rfl) e,ih q⟩
 | cq ps =>
  obtain⟨e,t,c⟩:=x
  refine⟨k a _ (.inl rfl) e,t,λpos cv q=>?_⟩
  obtain⟨d,φ,e1,e2,e3⟩:=c pos cv q
  exact⟨d,φ,e1,hx _ _ e2,e3⟩
 | met f y =>
  have e:h.get? a=some (PySem.W.methodObj (.ref f) (.ref y)):=x
  show h'.get? a=some (PySem.W.methodObj (.ref f) (.ref y))
  exact k a _ (.inl rfl) e
 | ext φ=>obtain⟨p,⟨o,e⟩,st⟩:=x;exact⟨st _ _ p λb o hb q=>k _ _ hb q,⟨o,k _ _ (.inl rfl) e⟩,λh1 h2 p1 kk=>st h1 h2 p1 λb o hb q=>kk b o (hb.imp id (ho b)) q⟩
theorem bR.lt(x:bR P w H h)(e:H a=some o):a<h.objs.size:=(x a o e).lt
theorem bR.fresh(x:bR P w H h)(e:h.objs.size<=a):H a=none:=by
 cases q:H a with
 | none=>rfl
 | some u=>exact absurd (cm (x.lt q) e) (eQ _)
theorem bR.kept(x:bR P w H h)(k:∀b u,h.get? b=some u->h'.get? b=some u):bR P w H h':=λa o e =>
 (x a o e).gK (λb u _ q=>k b u q) (λ_ q=>q) (λ_ _ q=>q) λ_ _ q=>q
theorem bR.laid(x:bR P w H h)(k:∀b u,h.get? b=some u->h'.get? b=some u)(hp:h.objs.size<=a)(new:cM P w (upd H a o) h' a o):bR P w (upd H a o) h':=λb u e=>by
 have hn:=x.fresh hp
 by_cases hb:b=a
 ·subst hb;rw[bw]at e;cases e;exact new
 ·rw[aD hb]at e
  exact(x b u e).gK (λc v _ q=>k c v q) (λc q=>by rw[aD (dq q hn)];exact q) (λc xs q=>by rw[aD (dq q hn)];exact q) λc xs q=>by rw[aD (dq q hn)];exact q
end
noncomputable def Rd(H:Hp)(a:Addr)(u:HO):Prop:=H a=some u\/∃o,H a=some (.bK o u)
theorem Rd.of{H:Hp}{a:Addr}{u:HO}(h:H a=some u):Rd H a u:=.inl h
theorem Rd.ok{P:Program}{w:World}{H:Hp}{h:Heap}{a:Addr}{u:HO}(r:Rd H a u)(x:bR P w H h):cM P w H h a u:=by
 rcases r with r | ⟨o,r⟩
 ·exact x a u r
 ·obtain⟨_,q⟩:=x a _ r
  exact q
noncomputable def vB:Option HO->Prop
 | some (.lst _)=>True
 | some (.dK _)=>True
 | some (.dT _)=>True
 | some (.set _ _)=>True
 | some (.ins _ _ _)=>True
 | _=>False
section
variable{P:Program}{w:World}{H:Hp}{h h':Heap}{x e:Addr}{o':HO}
theorem bR.write(ok:bR P w H h)(mu:vB (H x))(he:e=x\/H e=some (.own x))(k:∀b u,b≠e->h.get? b=some u->h'.get? b=some u)(ql:∃u,h'.get? e=some u)
  (new:cM P w (upd H x o') h' x o'):bR P w (upd H x o') h':=λb u q=>by
 have GF:∀c y,H c=some (.own y)->c≠x:=λc y r z=>by subst z;rw[r]at mu;exact mu
 have NO:∀c xs,H c=some (.tup xs)->c≠x:=λc xs r z=>by subst z;rw[r]at mu;exact mu
 by_cases hb:b=x
 ·subst hb;rw[bw]at q;cases q;exact new
 ·rw[aD hb]at q
  by_cases nK:b=e
  ·have q':H b=some (.own x):=by
    rcases he with z | z
    ·exact absurd (nK.trans z) hb
    ·rw[nK];exact z
   rw[q]at q';cases q'
   obtain⟨v,hv⟩:=ql
   exact⟨v,by rw[nK];exact hv⟩
  ·refine(ok b u q).gK (λc v hc r=>k c v ?_ r) (λc r=>by rw[aD (GF c b r)];exact r) (λc xs r=>by rw[aD (NO c xs r)];exact r) λc φ r=>by rw[aD (λz=>by rw[z]at r;rw[r]at mu;exact mu)];exact r
   rcases hc with rfl | hc
   ·exact nK
   ·rintro rfl
    rcases he with z | z
    ·exact GF c b hc z
    ·rw[hc]at z;cases z;exact hb rfl
end
structure Un(fs ex:List Addr)(H H':Hp)(h h':Heap):Prop where
 keep:∀b o,h.get? b=some o->H b=none->b ∉ fs->b ∉ ex->h'.get? b=some o
 slot:∀b o,h.get? b=some o->H b=none->b∈fs->b ∉ ex->∃sl,h'.get? b=some { o with slots:=sl }
 free:∀b o,h.get? b=some o->H b=none->b ∉ ex->H' b=none
 there:∀b o,h.get? b=some o->b ∉ ex->∃o',h'.get? b=some o'
 eI:∀b xs,H b=some (.tup xs)->H' b=some (.tup xs)
 eB:∀b o u,H b=some (.bK o u)->H' b=some (.bK o u)
 dH:∀b ps,H b=some (.cq ps)->∃more,H' b=some (.cq (ps++more))
section
variable{fs yL ex GG:List Addr}{H H1 H2:Hp}{h h1 h2 h':Heap}{a x e:Addr}{o:HO}
theorem Un.any(u:Un fs ex H H1 h h1){b:Addr}{ob:Obj}(q:h.get? b=some ob)(n:H b=none)(hx:b ∉ ex):∃sl,h1.get? b=some { ob with slots:=sl }:=by
 by_cases hb:b∈fs
 ·exact u.slot b ob q n hb hx
 ·exact⟨ob.slots,u.keep b ob q n hb hx⟩
theorem Un.trans(a:Un fs ex H H1 h h1)(b:Un fs ex H1 H2 h1 h2):Un fs ex H H2 h h2 where
 keep:=λc ob q n hc hx=>b.keep c ob (a.keep c ob q n hc hx) (a.free c ob q n hx) hc hx
 slot:=λc ob q n hc hx=>by
  obtain⟨sl,e1⟩:=a.slot c ob q n hc hx
  obtain⟨sT,e2⟩:=b.slot c _ e1 (a.free c ob q n hx) hc hx
  exact⟨sT,e2⟩
 free:=λc ob q n hx=>by
  obtain⟨o',e1⟩:=a.there c ob q hx
  exact b.free c o' e1 (a.free c ob q n hx) hx
 there:=λc ob q hx=>by
  obtain⟨o',e1⟩:=a.there c ob q hx
  exact b.there c o' e1 hx
 eI:=λc xs q=>b.eI c xs (a.eI c xs q)
 eB:=λc ob xs q=>b.eB c ob xs (a.eB c ob xs q)
 dH:=λc ps q=>by
  obtain⟨m1,e1⟩:=a.dH c ps q
  obtain⟨m2,e2⟩:=b.dH c _ e1
  exact⟨m1++m2,by rw[e2,sF]⟩
theorem Un.kept(k:∀b u,h.get? b=some u->h'.get? b=some u):Un fs ex H H h h' :=
 ⟨λb ob q _ _ _=>k b ob q,λb ob q _ _ _=>⟨ob.slots,k b ob q⟩,λ_ _ _ n _=>n,λb ob q _=>⟨ob,k b ob q⟩,λ_ _ q=>q,λ_ _ _ q=>q,λ_ ps q=>⟨#[],by rw[q];simp⟩⟩
theorem Un.refl:Un fs ex H H h h:=Un.kept λ_ _ q=>q
theorem Un.laid(k:∀b u,h.get? b=some u->h'.get? b=some u)(hp:h.objs.size<=a)(hn:H a=none):Un fs ex H (upd H a o) h h' where
 keep:=λb u q _ _ _=>k b u q
 slot:=λb u q _ _ _=>⟨u.slots,k b u q⟩
 free:=λb u q n _=>by rw[aD (dG (cm (bj q) hp))];exact n
 there:=λb u q _=>⟨u,k b u q⟩
 eI:=λb xs q=>by rw[aD (dq q hn)];exact q
 eB:=λb u xs q=>by rw[aD (dq q hn)];exact q
 dH:=λb ps q=>⟨#[],by rw[aD (dq q hn),q];simp⟩
theorem Un.write(mu:vB (H x))(he:e=x\/H e=some (.own x))(k:∀b u,b≠e->h.get? b=some u->h'.get? b=some u)(ql:∃u,h'.get? e=some u):Un fs ex H (upd H x o) h h':=by
 have hx:∀b,H b=none->b≠x:=λb n z=>by subst z;rw[n]at mu;exact mu
 have hb:∀b,H b=none->b≠e:=λb n z=>by
  subst z
  rcases he with r | r
  ·exact hx b n r
  ·rw[n]at r;cases r
 have hm:∀b u,H b=some u->¬ vB (some u)->b≠x:=λb u q nm z=>by subst z;rw[q]at mu;exact nm mu
 refine⟨λb u q n _ _=>k b u (hb b n) q,λb u q n _ _=>⟨u.slots,k b u (hb b n) q⟩,λb u q n _=>by rw[aD (hx b n)];exact n,λb u q _=>?_,
  λb xs q=>by rw[aD (hm b _ q λz=>z)];exact q,λb u xs q=>by rw[aD (hm b _ q λz=>z)];exact q,λb ps q=>⟨#[],by rw[aD (hm b _ q λz=>z),q];simp⟩⟩
 by_cases nK:b=e
 ·subst nK;exact ql
 ·exact⟨u,k b u nK q⟩
theorem Un.mono(u:Un fs ex H H1 h h1)(hs:∀b∈fs,b∈yL)(hx:∀b∈ex,b∈GG):Un yL GG H H1 h h1 :=
 ⟨λb ob q n hb he=>u.keep b ob q n (λz=>hb (hs b z)) λz=>he (hx b z),λ_ _ q n _ he=>u.any q n λz=>he (hx _ z),λb ob q n he=>u.free b ob q n λz=>he (hx b z),λb ob q he=>u.there b ob q λz=>he (hx b z),u.eI,u.eB,u.dH⟩
end
noncomputable def vC(h:Heap)(H:Hp):List Addr:=(bf h.objs.size).filter λa=>(H a).isSome
noncomputable def iU(h:Heap)(H:Hp):Heap:=PySem.W.hideAll h (vC h H)
theorem NP(h:Heap)(H:Hp):(iU h H).objs.size=h.objs.size:=PySem.W.hideAll_size _ _
theorem NQ{h:Heap}{H:Hp}{b:Addr}{o:Obj}(e:h.get? b=some o)(n:H b=none):(iU h H).get? b=some o :=
 PySem.W.hideAll_get _ e λhm=>by
  have q:(H b).isSome=true:=(List.mem_filter.mp hm).2
  rw[n]at q;simp at q
theorem NR{h:Heap}{H:Hp}{b:Addr}{o:Obj}(e:(iU h H).get? b=some o):h.get? b=some o/\H b=none:=by
 have e':h.get? b=some o:=PySem.W.of_hideAll (vC h H) e
 refine⟨e',?_⟩
 cases q:H b with
 | none=>rfl
 | some x =>
  have hm:b∈vC h H:=List.mem_filter.mpr ⟨fU.mpr (bj e'),by simp[q]⟩
  have z:(iU h H).get? b=none:=PySem.W.hideAll_none (vC h H) hm
  rw[z]at e;cases e
noncomputable def NS(g h:Heap)(L:Addr):List (Addr × Obj):=(bf h.objs.size).filterMap λa=>if a=L\/(g.get? a).isSome=true then none else(h.get? a).map λo=>(a,o)
noncomputable def cG(g h:Heap)(L d:Addr):List (Addr × Obj):=(NS g h L).filter λp=>decide (p.1≠d)
end L2
namespace L2
open PySem PySem.Spec PyProof.Rows
structure Mod(K:PySem.W.Frag)(mg:Str->Option Value)(base:Heap):Prop where
 kR:K.In base
 glob:base.Ns mainGlobals mg
 blt:∃mb,base.Ns builtinsNs mb/\∀x:Str,x≠"__name__"->mb x=bootBuiltins x
 nolimit:base.NoLimit
structure Cx where
 prog:Program
 w:World
 K:PySem.W.Frag
 mg:Str->Option Value
 base:Heap
 A:Around
 N:List Str
 bL:Shared
 ie:Hp
 env:Env
 outer:List Env
 stack:List Env
 ex:List Addr
 fn:Str->Bool
 calm:Bool
 pn:List (Addr × Obj)
 xe:Value->Shared->Prop
noncomputable def cE(l:List Env):List Addr:=l.filterMap (·.frame)
noncomputable abbrev Cx.fs(X:Cx):List Addr:=cE X.outer
noncomputable def fX(sc:Scope)(x:Str):Prop:=sc.names.lookup x=some .local\/sc.names.lookup x=some .cell\/sc.names.lookup x=some .free
noncomputable def Loc(sc:Scope)(x:Str):Prop:=sc.names.lookup x=some .local\/sc.names.lookup x=some .cell
noncomputable def NT(env:Env)(h:Heap)(m:Str->Option Value)(x:Str)(u:Value):Prop :=
 (env.kindOf x=some .local/\m x=some u)\/((env.kindOf x=some .cell\/env.kindOf x=some .free)/\∃c,env.cells.lookup x=some c/\h.IsCell c (some u))
structure Cx.Ok(X:Cx):Prop where
 mod:Mod X.K X.mg X.base
 kind:X.env.scope.kind=.function
 glob:X.env.globals=mainGlobals
 blt:X.env.builtins=builtinsNs
 above:X.bL.heap.objs.size<=X.env.locals
 inj:∀x y c,X.env.cells.lookup x=some c->X.env.cells.lookup y=some c->x=y
 has:∀x,(X.env.kindOf x=some .cell\/X.env.kindOf x=some .free)->∃c,X.env.cells.lookup x=some c
 nL:∀x c,X.fn x=true->X.env.cells.lookup x=some c->X.bL.heap.objs.size<=c
 hd:X.calm=true->X.A.handled=none
 frames:X.A.frames=some X.stack
 sU:X.stack=X.outer\/(X.stack=X.env::X.outer/\X.env.frame=some X.env.locals)
 sV:∀b∈X.ex,b≠X.env.locals/\∀x c,X.env.cells.lookup x=some c->c≠b
 bs:∀b o,X.base.get? b=some o->X.bL.heap.get? b=some o/\X.ie b=none
 fx:X.base.objs.size<=X.bL.heap.objs.size
 qm:∀b o,X.base.get? b=some o->b ∉ X.ex
 qo:∀b∈X.ex,b ∉ X.fs
 eC:X.bL.heap.FunFrames X.base X.outer
 fY:∀b∈X.fs,X.ie b=none
structure Inv(X:Cx)(pins:List (Addr × Obj))(σ:List (Option V))(H:Hp)(s:Shared):Prop where
 ok:X.Ok
 os:s.os=X.bL.os
 bare:AllBare s.gens
 base:Un X.fs X.ex X.ie H X.bL.heap s.heap
 loc:∃m,s.heap.Ns X.env.locals m/\∀(i:Nat) (x:Str) (v:V),X.N[i]?=some x->σ[i]?=some (some v)->fX X.env.scope x->∃u,RelV v u/\NT X.env s.heap m x u
 cell:∀x c,X.env.cells.lookup x=some c->∃v,s.heap.IsCell c v
 free:H X.env.locals=none
 fy:∀x c,X.env.cells.lookup x=some c->H c=none
 pin:∀p∈X.pn++pins,s.heap.get? p.1=some p.2/\H p.1=none/\p.1≠X.env.locals/\p.1 ∉ X.fs/\∀v,p.2.data≠.cell v
 av:bR X.prog X.w H s.heap
 len:σ.length=X.N.length
section
variable{X:Cx}{pins:List (Addr × Obj)}{σ:List (Option V)}{H H':Hp}{s:Shared}{h':Heap}
theorem Cx.Ok.NU(ok:X.Ok){b:Addr}{o:Obj}(e:X.base.get? b=some o):b ∉ X.fs:=λhb=>by
 have:=(ok.eC.mem hb).1
 rw[e]at this;cases this
theorem Inv.bs(I:Inv X pins σ H s):∀b o,X.base.get? b=some o->s.heap.get? b=some o/\H b=none:=λb o e =>
 ⟨I.base.keep b o (I.ok.bs b o e).1 (I.ok.bs b o e).2 (I.ok.NU e) (I.ok.qm b o e),I.base.free b o (I.ok.bs b o e).1 (I.ok.bs b o e).2 (I.ok.qm b o e)⟩
theorem Inv.bk(I:Inv X pins σ H s):∀b o,X.base.get? b=some o->s.heap.get? b=some o:=λb o e=>(I.bs b o e).1
theorem Inv.mod(I:Inv X pins σ H s):Mod X.K X.mg X.base:=I.ok.mod
theorem Inv.cu(I:Inv X pins σ H s):X.K.In s.heap:=I.ok.mod.kR.keeps I.bk
theorem Inv.nolimit(I:Inv X pins σ H s):s.heap.NoLimit:=I.ok.mod.nolimit.keeps I.bk
theorem Inv.fr(I:Inv X pins σ H s):∃m,Fr X.base X.env.locals s.heap m :=
 let⟨m,hn,_⟩:=I.loc
 ⟨m,hn,I.bk,dW I.ok.fx I.ok.above⟩
theorem Inv.lt(I:Inv X pins σ H s):X.env.locals<s.heap.objs.size:=let⟨_,hn,_⟩:=I.loc;hn.lt
theorem Inv.sz(I:Inv X pins σ H s):X.bL.heap.objs.size<=s.heap.objs.size:=dW I.ok.above (vk I.lt)
theorem Inv.GH(I:Inv X pins σ H s){a:Addr}(h:s.heap.objs.size<=a):a ∉ X.fs:=λhb=>by
 obtain⟨_,o,ho,_⟩:=I.ok.eC.mem hb
 exact absurd (cm (bj ho) (dW I.sz h)) (eQ _)
theorem Inv.kS(I:Inv X pins σ H s):∀x c,X.env.cells.lookup x=some c->c≠X.env.locals:=λx c e z=>by
 obtain⟨v,o,ho,hd⟩:=I.cell x c e
 obtain⟨m,⟨o',es,ep,ig,sW,_⟩,_⟩:=I.loc
 rw[z,ig]at ho;cases ho;rw[sW]at hd;cases hd
theorem Inv.eC(I:Inv X pins σ H s):s.heap.FunFrames X.base X.outer:=by
 have all:∀(l:List Env),(∀b∈cE l,b∈X.fs)->X.bL.heap.FunFrames X.base l->s.heap.FunFrames X.base l:=by
  intro l
  induction l with
  | nil=>intro _ _;trivial
  | cons env r ih =>
   intro hs hl
   obtain⟨hk,⟨L,o,hf,hn,ho,hd⟩,hr⟩:=hl
   have hL:L∈X.fs:=hs L (by unfold cE;rw[pJ,hf];exact vl)
   obtain⟨sl,e⟩:=I.base.slot L o ho (I.ok.fY L hL) hL λz=>I.ok.qo L z hL
   exact⟨hk,⟨L,_,hf,hn,e,hd⟩,ih (λb hb=>hs b (by unfold cE;rw[pJ,hf];exact hE _ hb)) hr⟩
 exact all X.outer (λ_ hb=>hb) I.ok.eC
theorem Inv.stack(I:Inv X pins σ H s):s.heap.FunFrames X.base X.stack:=by
 rcases I.ok.sU with e | ⟨e,hf⟩
 ·rw[e];exact I.eC
 ·rw[e]
  obtain⟨m,hn,_⟩:=I.loc
  refine .cons (by rw[I.ok.kind];decide) hf hn ?_ I.eC
  exact Heap.get?_none_of_le (dW I.ok.fx I.ok.above)
theorem Inv.sX(I:Inv X pins σ H s):∀b∈cE X.stack,b∈X.env.locals::X.fs:=λb hb=>by
 rcases I.ok.sU with e | ⟨e,hf⟩
 ·rw[e]at hb;exact hE _ hb
 ·rw[e]at hb
  unfold cE at hb
  rw[pJ,hf]at hb
  exact hb
theorem Inv.vD(I:Inv X pins σ H s):∀b∈cE X.stack,H b=none:=λb hb=>by
 rcases bV.mp (I.sX b hb)with e | hb
 ·rw[e];exact I.free
 ·obtain⟨_,o,ho,_⟩:=I.ok.eC.mem hb
  exact I.base.free b o ho (I.ok.fY b hb) λz=>I.ok.qo b z hb
theorem Inv.step{g':Array GenState}{t':Nat}{d':Drawn}{ch:List Addr}(I:Inv X pins σ H s)
  (iV:∀b∈ch,(b∈X.ex\/X.bL.heap.objs.size<=b)/\b≠X.env.locals/\(∀x c,X.env.cells.lookup x=some c->c≠b)/\∀p∈X.pn++pins,p.1≠b)
  (keep:∀b o,b≠X.env.locals->b ∉ X.fs->b ∉ ch->s.heap.get? b=some o->H b=none->h'.get? b=some o)
  (slot:∀b o,b≠X.env.locals->b∈X.fs->b ∉ ch->s.heap.get? b=some o->H b=none->∃sl,h'.get? b=some { o with slots:=sl }) (free:∀b o,b ∉ ch->s.heap.get? b=some o->H b=none->H' b=none)
  (there:∀b o,b ∉ ch->s.heap.get? b=some o->∃o',h'.get? b=some o')
  (eI:∀b xs,H b=some (.tup xs)->H' b=some (.tup xs)) (eB:∀b o u,H b=some (.bK o u)->H' b=some (.bK o u)) (dH:∀b ps,H b=some (.cq ps)->∃more,H' b=some (.cq (ps++more)))
  (ns:∀m,s.heap.Ns X.env.locals m->h'.Ns X.env.locals m) (av:bR X.prog X.w H' h') (hg:AllBare g') :
  Inv X pins σ H' { s with heap:=h',gens:=g',drawn:=d',toks:=t' }:=by
 have qp:∀b o,X.bL.heap.get? b=some o->b≠X.env.locals:=λb o e=>dG (cm (bj e) I.ok.above)
 have qq:∀b o,X.bL.heap.get? b=some o->b ∉ X.ex->b ∉ ch:=λb o e hx hb=>by
  rcases(iV b hb).1 with z | z
  ·exact hx z
  ·exact absurd (cm (bj e) z) (eQ _)
 have cellK:∀x c,X.env.cells.lookup x=some c->∀v,s.heap.IsCell c v->h'.IsCell c v:=λx c e v ⟨o,ho,hd⟩=>by
  have sY:c ∉ ch:=λz=>(iV c z).2.2.1 x c e rfl
  by_cases hc:c∈X.fs
  ·obtain⟨sl,q⟩:=slot c o (I.kS x c e) hc sY ho (I.fy x c e)
   exact⟨_,q,hd⟩
  ·exact⟨o,keep c o (I.kS x c e) hc sY ho (I.fy x c e),hd⟩
 refine⟨I.ok,I.os,hg,⟨λb o e n hb hx=>?_,λb o e n hb hx=>?_,λb o e n hx=>?_,λb o e hx=>?_,λb xs e=>eI b xs (I.base.eI b xs e),λb o xs e=>eB b o xs (I.base.eB b o xs e),λb ps e=>?_⟩,?_,λx c e=>?_,?_,λx c e=>?_,λp hp=>?_,av,I.len⟩
 ·exact keep b o (qp b o e) hb (qq b o e hx) (I.base.keep b o e n hb hx) (I.base.free b o e n hx)
 ·obtain⟨sl,e1⟩:=I.base.slot b o e n hb hx
  obtain⟨sT,e2⟩:=slot b _ (qp b o e) hb (qq b o e hx) e1 (I.base.free b o e n hx)
  exact⟨sT,e2⟩
 ·obtain⟨o',e1⟩:=I.base.there b o e hx
  exact free b o' (qq b o e hx) e1 (I.base.free b o e n hx)
 ·obtain⟨o',e1⟩:=I.base.there b o e hx
  exact there b o' (qq b o e hx) e1
 ·obtain⟨m1,e1⟩:=I.base.dH b ps e
  obtain⟨m2,e2⟩:=dH b _ e1
  exact⟨m1++m2,by rw[e2,sF]⟩
 ·obtain⟨m,hn,hl⟩:=I.loc
  refine⟨m,ns m hn,λi x v e1 e2 e3=>?_⟩
  obtain⟨u,r,l⟩:=hl i x v e1 e2 e3
  refine⟨u,r,?_⟩
  rcases l with l | ⟨k,c,e,z⟩
  ·exact .inl l
  ·exact .inr ⟨k,c,e,cellK x c e _ z⟩
 ·obtain⟨v,z⟩:=I.cell x c e
  exact⟨v,cellK x c e v z⟩
 ·obtain⟨m,⟨o,_,_,ho,_⟩,_⟩:=I.loc
  exact free _ o (λz=>(iV _ z).2.1 rfl) ho I.free
 ·obtain⟨v,o,ho,hd⟩:=I.cell x c e
  exact free c o (λz=>(iV c z).2.2.1 x c e rfl) ho (I.fy x c e)
 ·obtain⟨e,n,ne,nf,d⟩:=I.pin p hp
  have sY:p.1 ∉ ch:=λz=>(iV p.1 z).2.2.2 p hp rfl
  exact⟨keep p.1 p.2 ne nf sY e n,free p.1 p.2 sY e n,ne,nf,d⟩
theorem Inv.un{t':Nat}(I:Inv X pins σ H s)(u:Un X.fs [] H H' s.heap h')(av:bR X.prog X.w H' h'):Inv X pins σ H' { s with heap:=h',toks:=t' }:=by
 obtain⟨m,⟨o,es,ep,ho,r⟩,_⟩:=id I.loc
 obtain⟨sl,hL⟩:=u.any ho I.free (by simp)
 exact I.step (g':=s.gens) (d':=s.drawn) (ch:=[]) (λ_ z=>nomatch z) (λb o _ hb _ e n=>u.keep b o e n hb (by simp)) (λb o _ hb _ e n=>u.slot b o e n hb (by simp)) (λb o _ e n=>u.free b o e n (by simp)) (λb o _ e=>u.there b o e (by simp)) u.eI u.eB u.dH (λm' hm=>by
  obtain⟨o',yM,yN,ig,r'⟩:=hm
  rw[ho]at ig;cases ig
  exact⟨_,yM,yN,hL,r'⟩) av I.bare
theorem Inv.call{g':Array GenState}{t':Nat}{d':Drawn}{ch:List Addr}(I:Inv X pins σ H s)(u:Un (cE X.stack) ch H H' s.heap h')(av:bR X.prog X.w H' h')(hg:AllBare g')
  (iV:∀b∈ch,(b∈X.ex\/X.bL.heap.objs.size<=b)/\b≠X.env.locals/\(∀x c,X.env.cells.lookup x=some c->c≠b)/\∀p∈X.pn++pins,p.1≠b) :
  Inv X pins σ H' { s with heap:=h',gens:=g',drawn:=d',toks:=t' }:=by
 obtain⟨m,⟨o,es,ep,ho,r⟩,_⟩:=id I.loc
 obtain⟨sl,hL⟩:=u.any ho I.free λz=>(iV _ z).2.1 rfl
 exact I.step (ch:=ch) iV (λb o hL hb hc e n=>u.keep b o e n (λz=>(bV.mp (I.sX b z)).elim hL hb) hc) (λb o _ _ hc e n=>u.any e n hc) (λb o hc e n=>u.free b o e n hc) (λb o hc e=>u.there b o e hc) u.eI u.eB u.dH (λm' hm=>by
  obtain⟨o',yM,yN,ig,r'⟩:=hm
  rw[ho]at ig;cases ig
  exact⟨_,yM,yN,hL,r'⟩) av hg
theorem Inv.turned{t':Nat}{it:Addr}(I:Inv X pins σ H s)(k:∀b o,b≠it->s.heap.get? b=some o->h'.get? b=some o)(hn:H it=none)(hL:it≠X.env.locals)
  (h1:it∈X.ex\/X.bL.heap.objs.size<=it) (h2:∀x c,X.env.cells.lookup x=some c->c≠it) (h3:∀p∈X.pn++pins,p.1≠it):Inv X pins σ H { s with heap:=h',toks:=t' }:=by
 have kT:∀b u,H b=some u->b≠it:=λb u e z=>by rw[z,hn]at e;cases e
 refine I.step (g':=s.gens) (d':=s.drawn) (ch:=[it]) (λb hb=>?_) (λb o _ _ hc e _=>k b o (λz=>hc (by simp[z])) e) (λb o _ _ hc e _=>⟨o.slots,k b o (λz=>hc (by simp[z])) e⟩) (λ_ _ _ _ n=>n)
  (λb o hc e=>⟨o,k b o (λz=>hc (by simp[z])) e⟩) (λ_ _ e=>e) (λ_ _ _ e=>e) (λb ps e=>⟨#[],by rw[e];simp⟩) (λm hm=>?_) (λb u e=>?_) I.bare
 ·have e:b=it:=by simpa using hb
  subst e
  exact⟨h1,hL,h2,h3⟩
 ·obtain⟨o,es,ep,ho,r⟩:=hm
  exact⟨o,es,ep,k _ o (dz hL) ho,r⟩
 ·refine(I.av b u e).gK (λc v hc q=>k c v ?_ q) (λ_ q=>q) (λ_ _ q=>q) λ_ _ q=>q
  rcases hc with z | z
  ·rw[z];exact kT b u e
  ·exact kT c _ z
theorem Inv.tok(I:Inv X pins σ H s)(t:Nat):Inv X pins σ H { s with toks:=t }:=I.un (h':=s.heap) (t':=t) Un.refl I.av
theorem Inv.kept{t':Nat}(I:Inv X pins σ H s)(k:∀b u,s.heap.get? b=some u->h'.get? b=some u):Inv X pins σ H { s with heap:=h',toks:=t' }:=I.un (Un.kept k) (I.av.kept k)
theorem Inv.laid{a:Addr}{o:HO}{t':Nat}(I:Inv X pins σ H s)(k:∀b u,s.heap.get? b=some u->h'.get? b=some u)(hp:s.heap.objs.size<=a)(new:cM X.prog X.w (upd H a o) h' a o) :
  Inv X pins σ (upd H a o) { s with heap:=h',toks:=t' }:=I.un (Un.laid k hp (I.av.fresh hp)) (I.av.laid k hp new)
theorem Inv.write{x e:Addr}{o:HO}{t':Nat}(I:Inv X pins σ H s)(mu:vB (H x))(he:e=x\/H e=some (.own x))(k:∀b u,b≠e->s.heap.get? b=some u->h'.get? b=some u)(ql:∃u,h'.get? e=some u)
  (new:cM X.prog X.w (upd H x o) h' x o):Inv X pins σ (upd H x o) { s with heap:=h',toks:=t' }:=I.un (Un.write mu he k ql) (I.av.write mu he k ql new)
theorem Inv.weak{ai:List (Option V)}(I:Inv X pins σ H s)(hl:ai.length=σ.length)(w:∀(i:Nat) v,ai[i]?=some (some v)->σ[i]?=some (some v)):Inv X pins ai H s :=
 ⟨I.ok,I.os,I.bare,I.base,let⟨m,hn,qt⟩:=I.loc;⟨m,hn,λi x v e1 e2 e3=>qt i x v e1 (w i v e2) e3⟩,I.cell,I.free,I.fy,I.pin,I.av,hl.trans I.len⟩
theorem Inv.GI{yO:List (Addr × Obj)}(I:Inv X pins σ H s)(h:∀p∈yO,s.heap.get? p.1=some p.2/\H p.1=none/\p.1≠X.env.locals/\p.1 ∉ X.fs/\∀v,p.2.data≠.cell v):Inv X yO σ H s :=
 ⟨I.ok,I.os,I.bare,I.base,I.loc,I.cell,I.free,I.fy,λp hp=>(cA.mp hp).elim (λz=>I.pin p (eu _ z)) (h p),I.av,I.len⟩
theorem GJ{N:List Str}(hN:N.Nodup){i j:Nat}{x:Str}(a:N[i]?=some x)(b:N[j]?=some x):i=j:=by
 obtain⟨h1,e1⟩:=gG.mp a
 obtain⟨h2,e2⟩:=gG.mp b
 exact(List.getElem_inj hN).mp (e1.trans e2.symm)
theorem NV{M:Model}{A:Around}{E:Value->Shared->Prop}{i:Nat}{x:Str}{v:V}{u:Value}{Q:Unit->Shared->Prop}(I:Inv X pins σ H s)(hN:X.N.Nodup)(hi:X.N[i]?=some x)(hx:Loc X.env.scope x)(r:RelV v u)
  (h:∀s',Inv X pins (σ.set i (some v)) H s'->(∃a,Heap.SameBut a s.heap s'.heap/\(a=X.env.locals\/X.env.cells.lookup x=some a))->Q () s') (hf:X.fn x=true\/X.env.scope.names.lookup x=some .local:=by first | exact .inl rfl | exact .inr rfl | assumption):wpAny M A (storeName X.env x u) Q E s:=by
 obtain⟨m,hn,hl⟩:=id I.loc
 have NW:(X.env.scope.kind==.class||(X.env.scope.kind==.module&&X.env.locals != X.env.globals))=false:=by rw[I.ok.kind];rfl
 have GK:i<σ.length:=by rw[I.len];exact(gG.mp hi).1
 have kS:=I.kS
 have tracked:∀{a:Addr} {h':Heap},(∃o,s.heap.get? a=some o/\H a=none)->Heap.SameBut a s.heap h'->bR X.prog X.w H h':=λ{a h'} ha hs b ob e=>by
  obtain⟨_,_,GL⟩:=ha
  refine(I.av b ob e).gK (λc w' hc q=>(hs.2 c ?_).trans q) (λ_ q=>q) (λ_ _ q=>q) λ_ _ q=>q
  rintro rfl
  rcases hc with rfl | hc
  ·rw[GL]at e;cases e
  ·rw[GL]at hc;cases hc
 rcases hx with hk | hk
 ·refine wpAny_storeName_local hk hn (λh' NX hs=>?_) NW
  obtain⟨oL,_,_,NY,_⟩:=id hn
  refine h _ ⟨I.ok,I.os,I.bare,⟨λb o e n hb hx=>?_,λb o e n hb hx=>?_,I.base.free,λb o e hx=>?_,I.base.eI,I.base.eB,I.base.dH⟩,⟨_,NX,λj y v' e1 e2 e3=>?_⟩,λy c e=>?_,I.free,I.fy,λp hp=>?_,tracked ⟨oL,NY,I.free⟩ hs,by simpa using I.len⟩ ⟨_,hs,.inl rfl⟩
  ·exact(hs.2 b (dG (cm (bj e) I.ok.above))).trans (I.base.keep b o e n hb hx)
  ·obtain⟨sl,e1⟩:=I.base.slot b o e n hb hx
   exact⟨sl,(hs.2 b (dG (cm (bj e) I.ok.above))).trans e1⟩
  ·obtain⟨o',e1⟩:=I.base.there b o e hx
   exact⟨o',(hs.2 b (dG (cm (bj e) I.ok.above))).trans e1⟩
  ·by_cases hj:j=i
   ·subst hj
    rw[hi]at e1;cases e1
    rw[ym GK]at e2
    cases e2
    exact⟨u,r,.inl ⟨hk,by simp⟩⟩
   ·rw[nr (dz hj)]at e2
    obtain⟨u',r',q⟩:=hl j y v' e1 e2 e3
    refine⟨u',r',?_⟩
    rcases q with⟨k,e⟩ | ⟨k,c,e,z⟩
    ·refine .inl ⟨k,?_⟩
     have:y≠x:=λe=>hj (GJ hN e1 (e ▸ hi))
     simp[this,e]
    ·exact .inr ⟨k,c,e,z.sameBut hs (kS y c e)⟩
  ·obtain⟨w',z⟩:=I.cell y c e
   exact⟨w',z.sameBut hs (kS y c e)⟩
  ·obtain⟨e,n,ne,nf,d⟩:=I.pin p hp
   exact⟨(hs.2 p.1 ne).trans e,n,ne,nf,d⟩
 ·have sZ:X.fn x=true:=by
   rcases hf with z | z
   ·exact z
   ·rw[z]at hk;cases hk
  obtain⟨c,hc⟩:=I.ok.has x (.inl hk)
  obtain⟨w',z⟩:=I.cell x c hc
  refine wpAny_storeName_cell I.ok.kind hk hc z (λh' kU hs=>?_)
  obtain⟨oc,fA,NZ⟩:=id z
  refine h { s with heap:=h' } ⟨I.ok,I.os,I.bare,⟨λb o e n hb hx=>?_,λb o e n hb hx=>?_,I.base.free,λb o e hx=>?_,I.base.eI,I.base.eB,I.base.dH⟩,⟨m,hn.sameBut hs (dz (kS x c hc)),λj y v' e1 e2 e3=>?_⟩,λy c' e=>?_,I.free,I.fy,λp hp=>?_,tracked ⟨oc,fA,I.fy x c hc⟩ hs,by simpa using I.len⟩ ⟨c,hs,.inr hc⟩
  ·exact(hs.2 b (dG (cm (bj e) (I.ok.nL x c sZ hc)))).trans (I.base.keep b o e n hb hx)
  ·obtain⟨sl,e1⟩:=I.base.slot b o e n hb hx
   exact⟨sl,(hs.2 b (dG (cm (bj e) (I.ok.nL x c sZ hc)))).trans e1⟩
  ·obtain⟨o',e1⟩:=I.base.there b o e hx
   exact⟨o',(hs.2 b (dG (cm (bj e) (I.ok.nL x c sZ hc)))).trans e1⟩
  ·by_cases hj:j=i
   ·subst hj
    rw[hi]at e1;cases e1
    rw[ym GK]at e2
    cases e2
    exact⟨u,r,.inr ⟨.inl hk,c,hc,kU⟩⟩
   ·rw[nr (dz hj)]at e2
    obtain⟨u',r',q⟩:=hl j y v' e1 e2 e3
    refine⟨u',r',?_⟩
    rcases q with q | ⟨k,c',e,z'⟩
    ·exact .inl q
    ·refine .inr ⟨k,c',e,z'.sameBut hs ?_⟩
     rintro rfl
     exact hj (GJ hN e1 (I.ok.inj _ _ _ e hc ▸ hi))
  ·by_cases GN:c'=c
   ·subst GN;exact⟨_,kU⟩
   ·obtain⟨w2,z2⟩:=I.cell y c' e
    exact⟨w2,z2.sameBut hs GN⟩
  ·obtain⟨e,n,ne,nf,d⟩:=I.pin p hp
   refine⟨(hs.2 p.1 ?_).trans e,n,ne,nf,d⟩
   intro q
   rw[q,fA]at e
   have q':oc=p.2:=cP e
   exact d w' (by rw[<-q'];exact NZ)
theorem yP{M:Model}{A:Around}{E:Value->Shared->Prop}{i:Nat}{x:Str}{v:V}{u:Value}{Q:Unit->Shared->Prop}(I:Inv X pins σ H s)(hN:X.N.Nodup)(hi:X.N[i]?=some x)(hx:Loc X.env.scope x)(r:RelV v u)
  (h:∀s',Inv X pins (σ.set i (some v)) H s'->Q () s') (hf:X.fn x=true\/X.env.scope.names.lookup x=some .local:=by first | exact .inl rfl | exact .inr rfl | assumption):wpAny M A (storeName X.env x u) Q E s :=
 NV I hN hi hx r (λs' I' _=>h s' I') hf
theorem Inv.N0{s':Shared}{ch:List Addr}(I:Inv X pins σ H s)(ho:s'.os=s.os)(u:Un (cE X.stack) ch H H' s.heap s'.heap)(av:bR X.prog X.w H' s'.heap)(hg:AllBare s'.gens)
  (iV:∀b∈ch,(b∈X.ex\/X.bL.heap.objs.size<=b)/\b≠X.env.locals/\(∀x c,X.env.cells.lookup x=some c->c≠b)/\∀p∈X.pn++pins,p.1≠b):Inv X pins σ H' s':=by
 obtain⟨h',g',d',t',o'⟩:=s'
 have e:o'=s.os:=ho
 subst e
 exact I.call (g':=g') (t':=t') (d':=d') u av hg iV
end
noncomputable abbrev XK:=Value->Option Addr->Hp->Prop
noncomputable abbrev St:=List (Option V)
noncomputable abbrev VK:=V->Hp->Prop
noncomputable abbrev TE:=St->Hp->VK->Prop
noncomputable abbrev TT:=St->Hp->(Bool->Hp->Prop)->Prop
noncomputable abbrev TA:=St->Hp->(List V->Hp->Prop)->Prop
structure Ends where
 nx:St->Hp->Prop
 rt:VK
 bk:St->Hp->Prop:=λ_ _=>False
 ct:St->Hp->Prop:=λ_ _=>False
noncomputable abbrev TS:=Ends->St->Hp->Prop
noncomputable def EP(X:Cx)(pins:List (Addr × Obj))(σ:St)(Q:VK)(u:Value)(s':Shared):Prop:=∃v H',Inv X pins σ H' s'/\RelV v u/\Q v H'
noncomputable def TP(X:Cx)(pins:List (Addr × Obj))(σ:St)(Q:Bool->Hp->Prop)(b:Bool)(s':Shared):Prop:=∃H',Inv X pins σ H' s'/\Q b H'
noncomputable def AP(X:Cx)(pins:List (Addr × Obj))(σ:St)(Q:List V->Hp->Prop)(us:List Value)(s':Shared):Prop:=∃vs H',Inv X pins σ H' s'/\Vals vs us/\Q vs H'
noncomputable def SP(X:Cx)(pins:List (Addr × Obj))(D:Ends)(f:Flow)(s':Shared):Prop :=
 match f with
 | .next=>∃ai H',Inv X pins ai H' s'/\D.nx ai H'
 | .brk=>∃ai H',Inv X pins ai H' s'/\D.bk ai H'
 | .cont=>∃ai H',Inv X pins ai H' s'/\D.ct ai H'
 | .ret u=>∃v ai H',Inv X pins ai H' s'/\RelV v u/\D.rt v H'
noncomputable def PE(X:Cx)(e:Expr)(t:TE):Prop :=
 ∀(pins:List (Addr × Obj)) (s:Shared) (σ:St) (H:Hp) (Q:VK),Inv X pins σ H s->t σ H Q->wpAny (model X.prog X.w) X.A (eval e X.env) (EP X pins σ Q) X.xe s
noncomputable def PT(X:Cx)(e:Expr)(t:TT):Prop :=
 ∀(pins:List (Addr × Obj)) (s:Shared) (σ:St) (H:Hp) (Q:Bool->Hp->Prop),Inv X pins σ H s->t σ H Q->wpAny (model X.prog X.w) X.A (isTrue e X.env (eval e X.env)) (TP X pins σ Q) X.xe s
noncomputable def PW(X:Cx)(e:Expr)(t:TT):Prop :=
 ∀(whole:Sem Value) (pins:List (Addr × Obj)) (s:Shared) (σ:St) (H:Hp) (Q:Bool->Hp->Prop),Inv X pins σ H s->t σ H Q->wpAny (model X.prog X.w) X.A (isTrue e X.env whole) (TP X pins σ Q) X.xe s
theorem PW.pt{X:Cx}{e:Expr}{t:TT}(h:PW X e t):PT X e t:=h _
noncomputable def PA(X:Cx)(es:List Expr)(t:TA):Prop :=
 ∀(pos:Pos) (pins:List (Addr × Obj)) (s:Shared) (σ:St) (H:Hp) (Q:List V->Hp->Prop),Inv X pins σ H s->t σ H Q->wpAny (model X.prog X.w) X.A (spliced (backTo pos (starEach es X.env))) (AP X pins σ Q) X.xe s
noncomputable def PS(X:Cx)(st:Stmt)(t:TS):Prop :=
 ∀(pins:List (Addr × Obj)) (s:Shared) (σ:St) (H:Hp) (D:Ends),Inv X pins σ H s->t D σ H->wpAny (model X.prog X.w) X.A (exec st X.env) (SP X pins D) X.xe s
noncomputable def PSs(X:Cx)(st:List Stmt)(t:TS):Prop :=
 ∀(pins:List (Addr × Obj)) (s:Shared) (σ:St) (H:Hp) (D:Ends),Inv X pins σ H s->t D σ H->wpAny (model X.prog X.w) X.A (execs st X.env) (SP X pins D) X.xe s
theorem aG{α:Type}{t:Sem α}{Q Q':α->Shared->Prop}{M:Model}{A:Around}{E:Value->Shared->Prop}{s:Shared}(h:wpAny M A t Q E s)(hQ:∀a s,Q a s->Q' a s):wpAny M A t Q' E s:=wpAny_mono h hQ λ_ _ x=>x
end L2
namespace L2
open PySem PySem.Spec PyProof.Rows
section
variable{X:Cx}
noncomputable def GO(i:Nat):TE:=λσ H Q=>∃v,σ[i]?=some (some v)/\Q v H
noncomputable def tC(v:V):TE:=λ_ H Q=>Q v H
theorem iW{i:Nat}{x:Str}{pos:Pos}(hN:X.N[i]?=some x)(hv:fX X.env.scope x)(hd:(x==("__debug__":Str))=false:=by decide)(bI:(x==("__classdict__":Str))=false:=by decide):PE X (.Name x pos) (GO i):=by
 intro pins s σ H Q I h
 obtain⟨v,e,h⟩:=h
 obtain⟨m,hn,hl⟩:=I.loc
 obtain⟨u,r,l⟩:=hl i x v hN e hv
 have fin:EP X pins σ Q u s:=⟨v,H,I,r,h⟩
 rcases l with⟨hk,hm⟩ | ⟨hk,c,hc,vE⟩
 ·exact wpAny_Name (wpAny_loadName_local I.ok.kind hk hn hm fin) hd
 ·rcases hk with hk | hk
  ·exact wpAny_Name (wpAny_loadName_cell I.ok.kind hk hc vE fin) hd
  ·exact wpAny_Name (wpAny_loadName_free I.ok.kind hk hc vE fin bI) hd
theorem qu{i j pos}:PE X (.Constant (.int i) j pos) (tC (.int i)):=λ_ _ _ H _ I h=>wpAny_Constant_int ⟨.int i,H,I.tok _,⟨_,rfl⟩,h⟩
theorem N1{b j pos}:PE X (.Constant (.bool b) j pos) (tC (.bl b)):=λ_ _ _ H _ I h=>Constant_bool ⟨.bl b,H,I,rfl,h⟩
theorem N2{x j pos}:PE X (.Constant (.str x) j pos) (tC (.str x)):=λ_ _ _ H _ I h=>Calls.Constant_str ⟨.str x,H,I.tok _,⟨_,rfl⟩,h⟩
noncomputable def Gl(X:Cx)(x:Str):Prop:=X.env.kindOf x=some .globalImplicit
theorem vF{E:Value->Shared->Prop}{pins:List (Addr × Obj)}{s:Shared}{σ:St}{H:Hp}{x:Str}{u:Value}{pos:Pos}{Q:Value->Shared->Prop}(I:Inv X pins σ H s)(hg:Gl X x)(hm:X.mg x=some u)(h:Q u s)
  (hd:(x==("__debug__":Str))=false:=by decide):wpAny (model X.prog X.w) X.A (eval (.Name x pos) X.env) Q E s :=
 Nl I.ok.kind hg (Calls.loadGlobal_global (by rw[I.ok.glob];exact I.mod.glob.keeps I.bk) hm h) hd
theorem nM{E:Value->Shared->Prop}{pins:List (Addr × Obj)}{s:Shared}{σ:St}{H:Hp}{x:Str}{u:Value}{pos:Pos}{Q:Value->Shared->Prop}(I:Inv X pins σ H s)(hg:Gl X x)(hm:X.mg x=none)(hv:bootBuiltins x=some u)(h:Q u s)
  (hn:x≠"__name__":=by decide) (hd:(x==("__debug__":Str))=false:=by decide):wpAny (model X.prog X.w) X.A (eval (.Name x pos) X.env) Q E s:=by
 obtain⟨mb,h1,h2⟩:=I.mod.blt
 exact Nl I.ok.kind hg (Calls.loadGlobal_builtin (by rw[I.ok.glob];exact I.mod.glob.keeps I.bk) hm (by rw[I.ok.blt];exact h1.keeps I.bk) ((h2 x hn).trans hv) h) hd
theorem N3{x:Str}{v:V}{u:Value}{pos:Pos}(hg:Gl X x)(hm:X.mg x=none)(hv:bootBuiltins x=some u)(r:RelV v u)(hn:x≠"__name__":=by decide)(hd:(x==("__debug__":Str))=false:=by decide):PE X (.Name x pos) (tC v) :=
 λ_ _ _ H _ I h=>nM I hg hm hv ⟨v,H,I,r,h⟩ hn hd
variable{a b:Expr}{ta tb:TE}{pos:Pos}
noncomputable def tB(t:TE):TT:=λσ H Q=>t σ H λx H1=>∃c,x=.bl c/\Q c H1
theorem yQ{e:Expr}{t:TE}(h:PE X e t)(he:∀whole,isTrue e X.env whole=(do let v<-whole;standAt e.pos;holding [v] (truthy v)):=by intro _;rfl):PT X e (tB t):=by
 intro pins s σ H Q I hw
 refine isTrue_plain (aG (h pins s σ H _ I hw) λv s1 ⟨x,H1,I1,r1,q1⟩=>?_) (he _)
 obtain⟨d,rfl,q⟩:=q1
 cases r1
 exact wpAny_truthy_bool ⟨H1,I1,q⟩
variable{tA vG:TT}{cG:List Expr}
noncomputable def N4(t u:TT):TT:=λσ H Q=>t σ H λc H1=>if c=true then u σ H1 Q else Q false H1
noncomputable def N5(t u:TT):TT:=λσ H Q=>t σ H λc H1=>if c=true then Q true H1 else u σ H1 Q
noncomputable def N6(t:TT):TT:=λσ H Q=>t σ H λc H1=>Q (!c) H1
theorem N7(ha:PT X a tA):PW X (.BoolOp .And [a] pos) tA:=by
 intro wh pins s σ H Q I h
 refine isTrue_and (aG (ha pins s σ H Q I h) λc s1 e=>?_)
 cases c with
 | true=>exact isTrue_and_nil e
 | false=>exact e
theorem qv(ha:PT X a tA):PW X (.BoolOp .Or [a] pos) tA:=by
 intro wh pins s σ H Q I h
 refine isTrue_or (aG (ha pins s σ H Q I h) λc s1 e=>?_)
 cases c with
 | false=>exact isTrue_or_nil e
 | true=>exact e
theorem N8(ha:PT X a tA)(hb:PW X (.BoolOp .And (b::cG) pos) vG):PW X (.BoolOp .And (a::b::cG) pos) (N4 tA vG):=by
 intro wh pins s σ H Q I h
 refine isTrue_and (aG (ha pins s σ H _ I h) λc s1 ⟨H1,I1,q1⟩=>?_)
 cases c with
 | true=>exact hb wh pins s1 σ H1 Q I1 q1
 | false=>exact⟨H1,I1,q1⟩
theorem N9(ha:PT X a tA)(hb:PW X (.BoolOp .Or (b::cG) pos) vG):PW X (.BoolOp .Or (a::b::cG) pos) (N5 tA vG):=by
 intro wh pins s σ H Q I h
 refine isTrue_or (aG (ha pins s σ H _ I h) λc s1 ⟨H1,I1,q1⟩=>?_)
 cases c with
 | true=>exact⟨H1,I1,q1⟩
 | false=>exact hb wh pins s1 σ H1 Q I1 q1
theorem yR(ha:PT X a tA):PT X (.UnaryOp .Not a pos) (N6 tA):=by
 intro pins s σ H Q I h
 exact isTrue_not (ha pins s σ H (λc H1=>Q (!c) H1) I h)
noncomputable def Oa(ta tb:TE):TE:=λσ H Q=>ta σ H λx H1=>∃c,x=.bl c/\if c=true then tb σ H1 Q else Q (.bl false) H1
noncomputable def Ob(ta:TE):TE:=λσ H Q=>ta σ H λx H1=>∃c,x=.bl c/\Q (.bl (!c)) H1
theorem qw{op}{t:TE}(h:PE X a t):PE X (.BoolOp op [a] pos) t:=λpins s σ H Q I hw=>BoolOp_one (h pins s σ H Q I hw)
theorem Oc(ha:PE X a ta)(hb:PE X (.BoolOp .And (b::cG) pos) tb):PE X (.BoolOp .And (a::b::cG) pos) (Oa ta tb):=by
 intro pins s σ H Q I h
 refine BoolOp_and (aG (ha pins s σ H _ I h) λv s1 ⟨x,H1,I1,r1,q1⟩=>?_)
 obtain⟨c,rfl,q1⟩:=q1
 cases r1
 refine wpAny_truthy_bool ?_
 cases c with
 | true=>exact hb pins s1 σ H1 Q I1 q1
 | false=>exact⟨.bl false,H1,I1,rfl,q1⟩
theorem Od(ha:PE X a ta):PE X (.UnaryOp .Not a pos) (Ob ta):=by
 intro pins s σ H Q I h
 refine UnaryOp_ (aG (ha pins s σ H _ I h) λv s1 ⟨x,H1,I1,r1,q1⟩=>?_)
 obtain⟨c,rfl,q1⟩:=q1
 cases r1
 exact not_of (wpAny_truthy_bool ⟨.bl (!c),H1,I1,rfl,q1⟩)
noncomputable def Oe(t:TT)(ta tb:TE):TE:=λσ H Q=>t σ H λc H1=>if c=true then ta σ H1 Q else tb σ H1 Q
theorem Of{c:Expr}(hc:PT X c tA)(ha:PE X a ta)(hb:PE X b tb):PE X (.IfExp c a b pos) (Oe tA ta tb):=by
 intro pins s σ H Q I h
 refine wpAny_IfExp (aG (hc pins s σ H _ I h) λd s1 ⟨H1,I1,q1⟩=>?_)
 cases d with
 | true=>exact ha pins s1 σ H1 Q I1 q1
 | false=>exact hb pins s1 σ H1 Q I1 q1
end
end L2
namespace L2
open PySem PySem.Spec PyProof.Rows
noncomputable def aM(K:PySem.W.Frag)(H:Hp)(a:Addr)(xs:List V):Prop :=
 Rd H a (.lst xs) \/
  ∃(o:Obj) (its:Array Value) (n:Nat),K.lookup a=some o/\o.cls=.type "list"/\o.dict=none/\o.data=.seq its n/\its.size<=sizeLine/\Vals xs its.toList
noncomputable def eD(K:PySem.W.Frag)(H:Hp)(a:Addr)(xs:List V):Prop :=
 Rd H a (.tup xs) \/
  ∃(o:Obj) (its:Array Value) (n:Nat),K.lookup a=some o/\o.cls=.type "tuple"/\o.data=.seq its n/\its.size<=sizeLine/\Vals xs its.toList
noncomputable def Og:Value->Option V
 | .none=>some .ak
 | .bool b=>some (.bl b)
 | .int i _=>some (.int i)
 | .str x _=>some (.str x)
 | .bytes b _=>some (.vA b)
 | .float b _=>some (.nJ b)
 | .ref a=>some (.ref a)
 | .type n=>some (.ty n)
 | _=>none
theorem RelV.abs{x:V}{u:Value}(r:RelV x u):Og u=some x:=by
 cases x with
 | ak=>cases r;rfl
 | bl _=>cases r;rfl
 | int _=>obtain⟨t,rfl⟩:=r;rfl
 | str _=>obtain⟨t,rfl⟩:=r;rfl
 | vA _=>obtain⟨t,rfl⟩:=r;rfl
 | nJ _=>obtain⟨t,rfl⟩:=r;rfl
 | ref _=>cases r;rfl
 | ty _=>cases r;rfl
theorem RelV.inj{x y:V}{u:Value}(r:RelV x u)(q:RelV y u):x=y:=cP (r.abs.symm.trans q.abs)
theorem Vals.inj:∀{xs ys:List V} {us:List Value},Vals xs us->Vals ys us->xs=ys
 | _,_,_,.nil,.nil=>rfl
 | _,_,_,.cons r t,.cons r' t'=>by rw[r.inj r',Vals.inj t t']
section
variable{X:Cx}{pins:List (Addr × Obj)}{σ:St}{H:Hp}{s:Shared}{a:Addr}{xs ys:List V}
theorem aM.of{K:PySem.W.Frag}(h:H a=some (.lst xs)):aM K H a xs:=.inl (.inl h)
theorem eD.of{K:PySem.W.Frag}(h:H a=some (.tup xs)):eD K H a xs:=.inl (.inl h)
theorem Inv.list(I:Inv X pins σ H s)(h:aM X.K H a xs):∃its:List Value,Vals xs its/\PlainL s.heap a its.toArray/\xs.length<=sizeLine:=by
 rcases h with h | ⟨o,its,n,hk,hc,hd,hs,hz,r⟩
 ·obtain⟨z,its,n,r,e⟩:=h.ok I.av
  exact⟨its,r,⟨_,n,e,rfl,rfl,rfl⟩,z⟩
 ·refine⟨its.toList,r,⟨o,n,I.cu a o hk,hc,hd,by simpa using hs⟩,?_⟩
  have e:=r.length
  simp only[Nm]at e
  omega
theorem Inv.tuple(I:Inv X pins σ H s)(h:eD X.K H a xs):∃its:List Value,Vals xs its/\IsTup s.heap a its.toArray/\xs.length<=sizeLine:=by
 rcases h with h | ⟨o,its,n,hk,hc,hs,hz,r⟩
 ·obtain⟨z,its,r,p⟩:=h.ok I.av
  exact⟨its,r,p,z⟩
 ·refine⟨its.toList,r,⟨o,I.cu a o hk,hc,n,by simpa using hs⟩,?_⟩
  have e:=r.length
  simp only[Nm]at e
  omega
theorem Inv.vH(I:Inv X pins σ H s)(h:aM X.K H a xs)(h':aM X.K H a ys):xs=ys:=by
 obtain⟨its,r,⟨o,n,e,_,_,d⟩,_⟩:=I.list h
 obtain⟨its',r',⟨o',n',e',_,_,d'⟩,_⟩:=I.list h'
 rw[e]at e';cases e'
 rw[d]at d'
 injection d' with d1 _
 have:its=its':=by simpa using congrArg Array.toList d1
 subst this
 exact r.inj r'
end
noncomputable abbrev Cx.fZ(X:Cx)(E:Value->Shared->Prop):Cx:={ X with xe:=E }
noncomputable abbrev Cx.dY(X:Cx):Cx:=X.fZ λ_ _=>False
theorem Cx.Ok.fZ{X:Cx}(ok:X.Ok)(E:Value->Shared->Prop):(X.fZ E).Ok :=
 ⟨ok.mod,ok.kind,ok.glob,ok.blt,ok.above,ok.inj,ok.has,ok.nL,ok.hd,ok.frames,ok.sU,ok.sV,ok.bs,ok.fx,ok.qm,ok.qo,ok.eC,ok.fY⟩
theorem Cx.Ok.ij{X:Cx}{E:Value->Shared->Prop}(ok:(X.fZ E).Ok):X.Ok :=
 ⟨ok.mod,ok.kind,ok.glob,ok.blt,ok.above,ok.inj,ok.has,ok.nL,ok.hd,ok.frames,ok.sU,ok.sV,ok.bs,ok.fx,ok.qm,ok.qo,ok.eC,ok.fY⟩
section
variable{X:Cx}{pins:List (Addr × Obj)}{σ:St}{H:Hp}{s:Shared}{E:Value->Shared->Prop}
theorem Inv.fZ(I:Inv X pins σ H s)(E:Value->Shared->Prop):Inv (X.fZ E) pins σ H s:=⟨I.ok.fZ E,I.os,I.bare,I.base,I.loc,I.cell,I.free,I.fy,I.pin,I.av,I.len⟩
theorem Inv.ij(I:Inv (X.fZ E) pins σ H s):Inv X pins σ H s:=⟨I.ok.ij,I.os,I.bare,I.base,I.loc,I.cell,I.free,I.fy,I.pin,I.av,I.len⟩
theorem SP.ij{D:Ends}{f:Flow}{s':Shared}(h:SP (X.fZ E) pins D f s'):SP X pins D f s':=by
 cases f with
 | next=>obtain⟨ai,H',I,q⟩:=h;exact⟨ai,H',I.ij,q⟩
 | brk=>obtain⟨ai,H',I,q⟩:=h;exact⟨ai,H',I.ij,q⟩
 | cont=>obtain⟨ai,H',I,q⟩:=h;exact⟨ai,H',I.ij,q⟩
 | ret u=>obtain⟨v,ai,H',I,r,q⟩:=h;exact⟨v,ai,H',I.ij,r,q⟩
theorem PE.dY{e:Expr}{t:TE}(h:PE X.dY e t):PE X e t:=λpins s σ H Q I hw =>
 wpAny_mono (h pins s σ H Q (I.fZ _) hw) (λ_ _ ⟨v,H',I',r,q⟩=>⟨v,H',I'.ij,r,q⟩) λ_ _ z=>dA z
theorem PT.dY{e:Expr}{t:TT}(h:PT X.dY e t):PT X e t:=λpins s σ H Q I hw =>
 wpAny_mono (h pins s σ H Q (I.fZ _) hw) (λ_ _ ⟨H',I',q⟩=>⟨H',I'.ij,q⟩) λ_ _ z=>dA z
theorem PSs.dY{st:List Stmt}{t:TS}(h:PSs X.dY st t):PSs X st t:=λpins s σ H D I hw =>
 wpAny_mono (h pins s σ H D (I.fZ _) hw) (λ_ _ q=>q.ij) λ_ _ z=>dA z
end
section
variable{X:Cx}{st:Stmt}{cG:List Stmt}{t u:TS}{e:Expr}{te:TE}{pos:Pos}
noncomputable def Oh:TS:=λD σ H=>D.nx σ H
noncomputable def Oi(t u:TS):TS:=λD σ H=>t { D with nx:=u D } σ H
theorem yS:PSs X [] Oh:=λ_ _ σ H _ I h=>wpAny_execs_nil ⟨σ,H,I,h⟩
theorem ik(h1:PS X st t)(h2:PSs X cG u):PSs X (st::cG) (Oi t u):=by
 intro pins s σ H D I h
 refine wpAny_execs_cons (aG (h1 pins s σ H { D with nx:=u D } I h) λf s1 q=>?_)
 cases f with
 | next =>
  obtain⟨ai,H',I',q⟩:=q
  exact h2 pins s1 ai H' D I' q
 | ret v=>exact q
 | brk=>exact q
 | cont=>exact q
theorem nN(h1:PS X st t):PSs X [st] t:=by
 intro pins s σ H D I h
 refine wpAny_execs_cons (aG (h1 pins s σ H D I h) λf s1 q=>?_)
 cases f with
 | next=>exact wpAny_execs_nil q
 | ret v=>exact q
 | brk=>exact q
 | cont=>exact q
theorem Inv.quiet{pins:List (Addr × Obj)}{σ:St}{H:Hp}{s:Shared}(I:Inv X pins σ H s):interactive X.env=false:=by simp[interactive,I.ok.kind]
noncomputable def Oj(te:TE):TS:=λD σ H=>te σ H λ_ H1=>D.nx σ H1
theorem s8(he:PE X e te)(hs:swapsWith e none pos.line X.env=pure false:=by rfl):PS X (.Expr e pos) (Oj te):=by
 intro pins s σ H D I h
 exact wpAny_Expr_any (aG (he pins s σ H _ I h) λv s1 ⟨x,H1,I1,r1,q1⟩=>⟨σ,H1,I1,q1⟩) I.quiet hs
noncomputable def Ol(te:TE):TS:=λD σ H=>te σ H D.rt
theorem Om(he:PE X e te):PS X (.Return (some e) pos) (Ol te):=by
 intro pins s σ H D I h
 exact wpAny_Return_some (aG (he pins s σ H _ I h) λv s1 ⟨x,H1,I1,r1,q1⟩=>⟨x,σ,H1,I1,r1,q1⟩)
noncomputable def Oo(c:TT)(t u:TS):TS:=λD σ H=>c σ H λb H1=>if b=true then t D σ H1 else u D σ H1
theorem yT{c:Expr}{a b:List Stmt}{tc:TT}(hc:PT X c tc)(ha:PSs X a t)(hb:PSs X b u):PS X (.If c a b pos) (Oo tc t u):=by
 intro pins s σ H D I h
 refine wpAny_If (aG (hc pins s σ H _ I h) λd s1 ⟨H1,I1,q1⟩=>?_)
 cases d with
 | true=>exact ha pins s1 σ H1 D I1 q1
 | false=>exact hb pins s1 σ H1 D I1 q1
noncomputable def Oq:TS:=λ_ _ _=>False
theorem GP:PS X st Oq:=λ_ _ _ _ _ _ h=>h.elim
end
noncomputable abbrev TG:=V->St->Hp->(St->Hp->Prop)->Prop
noncomputable abbrev nO:=List V->St->Hp->(St->Hp->Prop)->Prop
noncomputable def PG(X:Cx)(target:Expr)(t:TG):Prop :=
 ∀(pins:List (Addr × Obj)) (s:Shared) (σ:St) (H:Hp) (v:V) (u:Value) (Q:St->Hp->Prop),Inv X pins σ H s->RelV v u->t v σ H Q ->
  wpAny (model X.prog X.w) X.A (assign target X.env u) (λ_ s'=>∃ai H',Inv X pins ai H' s'/\Q ai H') X.xe s
noncomputable def vI(X:Cx)(ts:List Expr)(t:nO):Prop :=
 ∀(pins:List (Addr × Obj)) (s:Shared) (σ:St) (H:Hp) (vs:List V) (us:List Value) (Q:St->Hp->Prop),Inv X pins σ H s->Vals vs us->t vs σ H Q ->
  wpAny (model X.prog X.w) X.A (assignInOrder ((assignEach ts X.env).map (·.2)) us) (λ_ s'=>∃ai H',Inv X pins ai H' s'/\Q ai H') X.xe s
noncomputable abbrev yU:=V->V->V->Hp->(Hp->Prop)->Prop
noncomputable def GQ(X:Cx)(t:yU):Prop :=
 ∀(pins:List (Addr × Obj)) (s:Shared) (σ:St) (H:Hp) (o i v:V) (ov iv u:Value) (Q:Hp->Prop),Inv X pins σ H s->RelV o ov->RelV i iv->RelV v u->t o i v H Q ->
  wpAny (model X.prog X.w) X.A (setItem ov iv u) (λ_ s'=>∃H',Inv X pins σ H' s'/\Q H') X.xe s
noncomputable abbrev yV:=V->V->Hp->VK->Prop
noncomputable def Ot(X:Cx)(op:Operator)(t:yV):Prop :=
 ∀(pins:List (Addr × Obj)) (s:Shared) (σ:St) (H:Hp) (x y:V) (v u:Value) (Q:VK),Inv X pins σ H s->RelV x v->RelV y u->t x y H Q ->
  wpAny (model X.prog X.w) X.A (inplaceOp op v u) (EP X pins σ Q) X.xe s
section
variable{X:Cx}{pos:Pos}
noncomputable def vJ(i:Nat):TG:=λv σ H Q=>Q (σ.set i (some v)) H
theorem s9{i:Nat}{x:Str}(hN:X.N.Nodup)(hi:X.N[i]?=some x)(hx:Loc X.env.scope x)(hf:X.fn x=true\/X.env.scope.names.lookup x=some .local:=by first | exact .inl rfl | exact .inr rfl | assumption):PG X (.Name x pos) (vJ i):=by
 intro pins s σ H v u Q I r h
 exact wpAny_assign_Name (yP I hN hi hx r (λs' I'=>⟨_,H,I',h⟩) hf)
noncomputable def Ou:nO:=λvs σ H Q=>vs=[]/\Q σ H
noncomputable def Ov(t:TG)(u:nO):nO:=λvs σ H Q=>∃v r,vs=v::r/\t v σ H λai H'=>u r ai H' Q
theorem Ow:vI X [] Ou:=by
 intro pins s σ H vs us Q I r h
 obtain⟨e,h⟩:=h
 subst e
 cases r
 exact assignInOrder_nil ⟨σ,H,I,h⟩
theorem GR{e:Expr}{es:List Expr}{t:TG}{u:nO}(h1:PG X e t)(h2:vI X es u)
  (hs:(assignEach (e::es) X.env).map (·.2)=assign e X.env::(assignEach es X.env).map (·.2):=by rfl):vI X (e::es) (Ov t u):=by
 intro pins s σ H vs us Q I r h
 obtain⟨v,vr,e1,h⟩:=h
 subst e1
 cases r with
 | cons r rr =>
  rw[hs]
  refine assignInOrder_cons (aG (h1 pins s σ H _ _ _ I r h) λ_ s1 ⟨eJ,H1,I1,q1⟩=>?_)
  exact h2 pins s1 eJ H1 _ _ Q I1 rr q1
noncomputable def Ox(K:PySem.W.Frag)(n:Nat)(t:nO):TG:=λv σ H Q=>∃a xs,v=.ref a/\eD K H a xs/\xs.length=n/\t xs σ H Q
theorem Oy{es:List Expr}{k:Nat}{t:nO}{n:Nat}(hc:X.calm=true)(h:vI X es t)
  (hn:(assignEach es X.env).length=n:=by rfl) (cw:(assignEach es X.env).findIdx? (·.1)=none:=by rfl):PG X (.Tuple es k pos) (Ox X.K n t):=by
 intro pins s σ H v u Q I r hw
 obtain⟨a,xs,e1,hq,hl,hw⟩:=hw
 subst e1
 cases r
 obtain⟨its,rv,ht,hz⟩:=I.tuple hq
 refine assign_Tuple_tuple (I.ok.hd hc) ht (by simp[hn,<- hl,rv.length]) cw λh' hx=>?_
 have I1:Inv X pins σ H { s with heap:=h' }:=I.kept (t':=s.toks) λb o e=>hx b o (dG (bj e)) e
 exact h pins _ σ H xs _ Q I1 (by simpa using rv) hw
noncomputable def Oz(to ti:TE)(t:yU):TG:=λv σ H Q=>to σ H λo H1=>ti σ H1 λi H2=>t o i v H2 λH3=>Q σ H3
theorem GS{o i:Expr}{to ti:TE}{t:yU}(ho:PE X o to)(hi:PE X i ti)(hs:GQ X t)
  (ha:∀v,assign (.Subscript o i pos) X.env v=(do
   let ov<-holding [v] (eval o X.env)
   let iv<-holding [v,ov] (eval i X.env)
   standAt pos
   holding [v,ov,iv] (setItem ov iv v)
   release [v,ov,iv] []):=by intro _;rfl):PG X (.Subscript o i pos) (Oz to ti t):=by
 intro pins s σ H v u Q I r h
 rw[ha]
 refine wpAny_bind (wpAny_holding (aG (ho pins s σ H _ I h) λov s1 ⟨x,H1,I1,r1,q1⟩=>?_))
 refine wpAny_bind (wpAny_holding (aG (hi pins s1 σ H1 _ I1 q1) λiv s2 ⟨y,H2,I2,r2,q2⟩=>?_))
 refine wpAny_bind (wpAny_standAt (wpAny_bind (wpAny_holding (aG (hs pins s2 σ H2 x y v ov iv u _ I2 r1 r2 r q2) λ_ s3 ⟨H3,I3,q3⟩=>?_))))
 exact wpAny_release ⟨σ,H3,I3,q3⟩
noncomputable def yW(te:TE)(g:TG):TS:=λD σ H=>te σ H λx H1=>g x σ H1 D.nx
theorem GU{tg e:Expr}{te:TE}{g:TG}(he:PE X e te)(hg:PG X tg g)(hs:swapsWithSole [tg] e pos.line X.env=pure false:=by rfl)(hw:swappedStores [tg] e X.env=pure none:=by rfl)
  (h1:(assignEach [tg] X.env).map (·.2)=[assign tg X.env]:=by rfl):PS X (.Assign [tg] e pos) (yW te g):=by
 intro pins s σ H D I h
 refine wpAny_Assign_stores (aG (he pins s σ H _ I h) λv s1 ⟨x,H1,I1,r1,q1⟩=>?_) hs hw
 rw[h1]
 exact aG (hg pins s1 σ H1 x v _ I1 r1 q1) λ_ s2 q=>q
theorem GV{i:Nat}{x:Str}{e:Expr}{te:TE}{pos':Pos}(hN:X.N.Nodup)(hi:X.N[i]?=some x)(hx:Loc X.env.scope x)(he:PE X e te)(hs:swapsWith e (some (.Name x pos')) pos.line X.env=pure false:=by rfl)(hf:X.fn x=true\/X.env.scope.names.lookup x=some .local:=by first | exact .inl rfl | exact .inr rfl | assumption) :
  PS X (.Assign [.Name x pos'] e pos) (yW te (vJ i)):=by
 intro pins s σ H D I h
 refine wpAny_Assign_Name (aG (he pins s σ H _ I h) λv s1 ⟨y,H1,I1,r1,q1⟩=>?_) hs
 exact yP I1 hN hi hx r1 (λs2 I2=>⟨_,H1,I2,q1⟩) hf
noncomputable def OA(i:Nat)(te:TE)(ti:yV):TS:=λD σ H=>∃x,σ[i]?=some (some x)/\te σ H λy H1=>ti x y H1 λz H2=>D.nx (σ.set i (some z)) H2
theorem OB{i:Nat}{x:Str}{e:Expr}{te:TE}{op:Operator}{ti:yV}{pos':Pos}(hN:X.N.Nodup)(hi:X.N[i]?=some x)(hx:Loc X.env.scope x)(he:PE X e te)(ho:Ot X op ti)(hf:X.fn x=true\/X.env.scope.names.lookup x=some .local:=by first | exact .inl rfl | exact .inr rfl | assumption) :
  PS X (.AugAssign (.Name x pos') op e pos) (OA i te ti):=by
 intro pins s σ H D I h
 obtain⟨v,e1,h⟩:=h
 obtain⟨m,hn,hl⟩:=I.loc
 have OC:fX X.env.scope x:=by rcases hx with k | k;exact .inl k;exact .inr (.inl k)
 obtain⟨u,r,l⟩:=hl i x v hi e1 OC
 refine wpAny_AugAssign_Name ?_
 have go:wpAny (model X.prog X.w) X.A (eval e X.env) (λw il=>wpAny (model X.prog X.w) X.A (inplaceOp op u w) (λr OD=>wpAny (model X.prog X.w) X.A (storeName X.env x r) (λ_=>SP X pins D .next) X.xe OD) X.xe il) X.xe s:=by
  refine aG (he pins s σ H _ I h) λw s1 ⟨y,H1,I1,r1,q1⟩=>?_
  refine aG (ho pins s1 σ H1 v y u w _ I1 r r1 q1) λz s2 ⟨zv,H2,I2,r2,q2⟩=>?_
  exact yP I2 hN hi hx r2 (λs3 I3=>⟨_,H2,I3,q2⟩) hf
 rcases l with⟨hk,hm⟩ | ⟨hk,c,hc,vE⟩
 ·exact wpAny_loadName_local I.ok.kind hk hn hm go
 ·rcases hk with hk | hk
  ·exact wpAny_loadName_cell I.ok.kind hk hc vE go
  ·rcases hx with k | k
   ·have:X.env.scope.names.lookup x=some .free:=hk
    rw[k]at this;cases this
   ·have:X.env.scope.names.lookup x=some .free:=hk
    rw[k]at this;cases this
end
section
variable{X:Cx}{pos:Pos}
noncomputable def OE(c:TT)(tb:TS):TS:=λD σ H=>∃W:Nat->St->Hp->Prop,(∃m,W m σ H)/\∀m σ H,W m σ H ->
 c σ H λb H1=>if b=true then ∃N:St->Hp->Prop,(∀ai H',N ai H'->∃m',m'<m/\W m' ai H')/\tb { D with nx:=N,ct:=N,bk:=D.nx } σ H1 else D.nx σ H1
theorem OF{c:Expr}{body:List Stmt}{tc:TT}{tb:TS}(hp:PassesOwn (model X.prog X.w) X.A X.env X.xe)(hc:PT X c tc)(hb:PSs X body tb):PS X (.While c body [] pos) (OE tc tb):=by
 intro pins s σ H D I h
 obtain⟨W,⟨m0,w0⟩,turn⟩:=h
 refine wpAny_While (codeAny_whileLoop (λn s'=>∃ai H',Inv X pins ai H' s'/\W n ai H') ?_ m0 ⟨σ,H,I,w0⟩)
 rintro n s1 ⟨eJ,H1,I1,w1⟩
 refine wpAny_passesOwn hp (aG (hc pins s1 eJ H1 _ I1 (turn n eJ H1 w1)) λb s2 ⟨H2,I2,q2⟩=>?_)
 cases b with
 | true =>
  obtain⟨N,hN,q2⟩:=q2
  rw[if_pos rfl]
  refine wpAny_passesOwn hp (aG (hb pins s2 eJ H2 _ I2 q2) λf s3 q3=>?_)
  cases f with
  | next =>
   obtain⟨iq,H3,I3,n3⟩:=q3
   obtain⟨m',hm,w3⟩:=hN iq H3 n3
   exact⟨m',hm,iq,H3,I3,w3⟩
  | cont =>
   obtain⟨iq,H3,I3,n3⟩:=q3
   obtain⟨m',hm,w3⟩:=hN iq H3 n3
   exact⟨m',hm,iq,H3,I3,w3⟩
  | brk=>exact q3
  | ret v=>exact q3
 | false =>
  rw[if_neg vm]
  exact wpAny_execs_nil ⟨eJ,H2,I2,q2⟩
end
structure It where
 go:Nat->Hp->Prop
 gL:Nat->Hp->V->Hp->Prop
 stop:Nat->Hp->Prop
noncomputable def fB(X:Cx)(pins:List (Addr × Obj))(H:Hp)(b:Addr):Prop :=
 H b=none/\b≠X.env.locals/\b ∉ X.fs/\(b∈X.ex\/X.bL.heap.objs.size<=b)/\(∀x c,X.env.cells.lookup x=some c->c≠b)/\∀p∈X.pn++pins,p.1≠b
theorem Inv.vK{X:Cx}{pins:List (Addr × Obj)}{σ:St}{H H':Hp}{s:Shared}{b:Addr}(I:Inv X pins σ H s)(hb:s.heap.objs.size<=b)(hn:H' b=none):fB X pins H' b:=by
 refine⟨hn,FZ (cm I.lt hb),I.GH hb,.inr (dW I.sz hb),λx c e z=>?_,λp hp z=>?_⟩
 ·obtain⟨v,q⟩:=I.cell x c e
  exact absurd (cm q.lt (by rw[z];exact hb)) (eQ _)
 ·exact absurd (cm (bj (I.pin p hp).1) (by rw[z];exact hb)) (eQ _)
structure Turn(P:Program)(w:World)(K:PySem.W.Frag)(tg:Expr)(J:It)(fp:List Addr)(it:Addr)(tn:Nat->Heap->Prop):Prop where
 mem:it∈fp
 obj:∀i h,tn i h->∀b∈fp,∃o,h.get? b=some o/\∀v,o.data≠.cell v
 keep:∀i h h',tn i h->(∀b∈fp,∀o,h.get? b=some o->h'.get? b=some o)->tn i h'
 item:∀(X:Cx),X.prog=P->X.w=w->X.K=K->X.calm=true->∀(i:Nat) (pins:List (Addr × Obj)) (s:Shared) (σ:St) (H:Hp) (E:Value->Shared->Prop),Inv X pins σ H s->(∀b∈fp,fB X pins H b)->tn i s.heap->J.go i H ->
  wpAny (model P w) X.A (pyNext (.ref it)) (λr s1=>∃u,r=some u /\
   wpAny (model P w) X.A (letOwnedTupleGo tg (.ref it) u) (λ_ s2=>∃x H',Inv X pins σ H' s2/\RelV x u/\J.gL i H x H'/\tn (i+1) s2.heap/\∀b∈fp,H' b=none) E s1) E s
 done:∀(X:Cx),X.prog=P->X.w=w->X.K=K->X.calm=true->∀(i:Nat) (pins:List (Addr × Obj)) (s:Shared) (σ:St) (H:Hp) (E:Value->Shared->Prop),Inv X pins σ H s->(∀b∈fp,fB X pins H b)->tn i s.heap->J.stop i H ->
  wpAny (model P w) X.A (pyNext (.ref it)) (λr s1=>r=none/\Inv X pins σ H s1) E s
 self:∀(A:Around) (i:Nat) (s:Shared) (Q:Value->Shared->Prop) (E:Value->Shared->Prop),tn i s.heap->Q (.ref it) s->wpAny (model P w) A (pyIter (.ref it)) Q E s
noncomputable abbrev TI:=St->Hp->(It->Hp->Prop)->Prop
noncomputable def GW(X:Cx)(pins:List (Addr × Obj))(σ:St)(tg:Expr)(R:It->Hp->Prop)(yX:Value)(s2:Shared):Prop :=
 ∃(it:Addr) (fp:List Addr) (tn:Nat->Heap->Prop) (J:It) (H':Hp),yX=.ref it/\Inv X pins σ H' s2/\Turn X.prog X.w X.K tg J fp it tn/\tn 0 s2.heap/\(∀b∈fp,fB X pins H' b)/\R J H'
noncomputable def PI(X:Cx)(tg iter:Expr)(wi:TI):Prop :=
 ∀(pins:List (Addr × Obj)) (s:Shared) (σ:St) (H:Hp) (R:It->Hp->Prop),Inv X pins σ H s->wi σ H R ->
  wpAny (model X.prog X.w) X.A (eval iter X.env) (λv s1=>wpAny (model X.prog X.w) X.A (pyIter v) (GW X pins σ tg R) X.xe s1) X.xe s
theorem GX{M:Model}{A:Around}{E:Value->Shared->Prop}{s:Shared}{tg:Expr}{it:Addr}{u:Value}{o:Obj}{n:String}{vs:Array Value}{Q:Unit->Shared->Prop}(ho:s.heap.get? it=some o)(hc:o.cls=.type n)(hd:o.data=.fields vs)
  (hn:["enumerate","zip","dict_itemiterator","dict_reverseitemiterator","odict_iterator","itertools.zip_longest","itertools.pairwise"].contains n=false) (hQ:Q () s):wpAny M A (letOwnedTupleGo tg (.ref it) u) Q E s:=by
 unfold letOwnedTupleGo
 cases tg<;>first
  | exact wpAny_pure hQ
  | (cases u<;>first
    | exact wpAny_pure hQ
    | (refine wpAny_bind (wpAny_load ho ?_)
       rw[hc,hd]
       show wpAny M A (if(["enumerate","zip","dict_itemiterator","dict_reverseitemiterator","odict_iterator","itertools.zip_longest","itertools.pairwise"].contains n&&vs[0]?==some (rawInt _))=true then _ else _) Q E s
       rw[if_neg (by intro h;rw[hn,nu]at h;cases h)]
       exact wpAny_pure hQ))
noncomputable def yY(K:PySem.W.Frag)(a:Addr):It :=
 ⟨λi H=>∃xs x,aM K H a xs/\xs[i]?=some x,λi H x H'=>H'=H/\∀xs,aM K H a xs->xs[i]?=some x,λi H=>∃xs,aM K H a xs/\xs.length<=i⟩
noncomputable def tf(lo:Int)(n:Nat):It:=⟨λi _=>i<n,λi H x H'=>H'=H/\x=.int (lo+i),λi _=>n<=i⟩
theorem OG{P:Program}{w:World}{K:PySem.W.Frag}{tg:Expr}(a it:Addr):Turn P w K tg (yY K a) [it] it (λi h=>h.IsListIter it a i) where
 mem:=by simp
 obj:=λi h st b hb=>by
  have e:b=it:=by simpa using hb
  subst e
  obtain⟨o,e,c,d⟩:=st
  exact⟨o,e,λv z=>by rw[d]at z;cases z⟩
 keep:=λi h h' st k=>st.at λo e=>k it (by simp) o e
 item:=by
  intro X hP hw hK hc i pins s σ H E I hf st hg
  subst hP hw hK
  obtain⟨xs,x,hq,hx⟩:=hg
  obtain⟨its,rv,p,hz⟩:=I.list hq
  obtain⟨u,hu,ru⟩:=rv.get hx
  obtain⟨f0,f1,f2,f3,f4,f5⟩:=hf it (by simp)
  refine wpAny_pyNext_list_item st p.isList (x:=u) (by simpa using hu) λh' kW sb=>?_
  have I1:Inv X pins σ H { s with heap:=h' }:=I.turned (t':=s.toks) (λb o hb e=>(sb.2 b hb).trans e) f0 f1 f3 f4 f5
  obtain⟨o,e,c,d⟩:=id kW
  exact⟨u,rfl,GX (s:={ s with heap:=h' }) e c d (by decide) ⟨x,H,I1,ru,⟨rfl,λys hy=>by rw[I.vH hy hq];exact hx⟩,kW,λb hb=>(hf b hb).1⟩⟩
 done:=by
  intro X hP hw hK hc i pins s σ H E I hf st hg
  subst hP hw hK
  obtain⟨xs,hq,hx⟩:=hg
  obtain⟨its,rv,p,hz⟩:=I.list hq
  obtain⟨f0,f1,f2,f3,f4,f5⟩:=hf it (by simp)
  have hl:=rv.length
  exact wpAny_pyNext_list_end (I.ok.hd hc) st p.isList (by simp;omega) λh' eb=>⟨rfl,I.turned (t':=s.toks) (λb o hb e=>eb b o hb e) f0 f1 f3 f4 f5⟩
 self:=λ_ _ _ _ _ st h=>wpAny_pyIter_listiter st h
theorem OH{P:Program}{w:World}{K:PySem.W.Frag}{tg:Expr}(it:Addr)(lo:Int)(n:Nat):Turn P w K tg (tf lo n) [it] it (λi h=>IsRangeIter h it (lo+(i:Nat)*1) ((n:Int)-(i:Nat)) 1) where
 mem:=by simp
 obj:=λi h st b hb=>by
  have e:b=it:=by simpa using hb
  subst e
  exact⟨_,st,λv z=>by
   have z':Data.fields _=Data.cell v:=z
   cases z'⟩
 keep:=λi h h' st k=>k it (by simp) _ st
 item:=by
  intro X hP hw hK hc i pins s σ H E I hf st hg
  subst hP hw hK
  obtain⟨f0,f1,f2,f3,f4,f5⟩:=hf it (by simp)
  have W:=Walks.range (prog:=X.prog) (w:=X.w) (I.ok.hd hc) it lo 1 n
  refine W.item i s _ _ hg st λv h' tk hv kW kk=>?_
  obtain⟨t,rfl⟩:=hv
  have I1:Inv X pins σ H { s with heap:=h',toks:=tk }:=I.turned (λb o hb e=>kk b o (by simpa using hb) e) f0 f1 f3 f4 f5
  refine⟨_,rfl,GX (s:={ s with heap:=h',toks:=tk }) (n:="range_iterator") kW rfl rfl (by decide) ⟨.int (lo+i),H,I1,⟨t,?_⟩,⟨rfl,rfl⟩,kW,λb hb=>(hf b hb).1⟩⟩
  rw[Int.mul_one]
 done:=by
  intro X hP hw hK hc i pins s σ H E I hf st hg
  subst hP hw hK
  obtain⟨f0,f1,f2,f3,f4,f5⟩:=hf it (by simp)
  exact wpAny_pyNext_range_end (I.ok.hd hc) st (by have:n<=i:=hg;omega) λh' eb=>⟨rfl,I.turned (t':=s.toks) (λb o hb e=>eb b o hb e) f0 f1 f3 f4 f5⟩
 self:=λ_ _ _ _ _ st h=>wpAny_pyIter_rangeiter st h
end L2
namespace L2
open PySem PySem.Spec PyProof.Rows
section
variable{X:Cx}{tg:Expr}
noncomputable def OI(K:PySem.W.Frag)(tl:TE):TI:=λσ H R=>tl σ H λx H1=>∃a,x=.ref a/\(∃xs,aM K H1 a xs)/\R (yY K a) H1
theorem yZ{l:Expr}{tl:TE}(hl:PE X l tl):PI X tg l (OI X.K tl):=by
 intro pins s σ H R I h
 refine aG (hl pins s σ H _ I h) λv s1 ⟨x,H1,I1,r1,q1⟩=>?_
 obtain⟨a,e,⟨xs,hq⟩,q⟩:=q1
 subst e
 cases r1
 obtain⟨its,rv,p,hz⟩:=I1.list hq
 refine wpAny_pyIter_list p.isList ?_
 refine⟨s1.heap.objs.size,[s1.heap.objs.size],_,_,H1,rfl,I1.kept (t':=s1.toks) λb o e=>dX _ e,OG a _,⟨_,fb _ rfl,rfl,rfl⟩,λb hb=>?_,q⟩
 have e:b=s1.heap.objs.size:=by simpa using hb
 subst e
 exact I1.vK (bH _) (I1.av.fresh (bH _))
theorem GY{pins:List (Addr × Obj)}{σ:St}{H:Hp}{s:Shared}{R:It->Hp->Prop}{E:Value->Shared->Prop}{lo hi:Int}{t u v:Tok}{tk:Nat}(I:Inv X pins σ H s)(h1:-(2 ^ 62)<=lo)(h2:lo<2 ^ 62)(h3:-(2 ^ 62)<=hi)(h4:hi<2 ^ 62)
  (q:R (tf lo (hi-lo).toNat) H):wpAny (model X.prog X.w) X.A (pyIter (.ref s.heap.objs.size)) (GW X pins σ tg R) E { s with heap:=s.heap.push { cls:=.type "range",data:=.fields #[.int lo t,.int hi u,.int 1 v] },toks:=tk }:=by
 refine wpAny_pyIter_range (IsRange.new ..) (small_one h1 h2 h3 h4) ?_
 have I1:Inv X pins σ H { s with heap:=s.heap.push { cls:=.type "range",data:=.fields #[.int lo t,.int hi u,.int 1 v] },toks:=tk }:=I.kept λb o e=>dX _ e
 refine⟨(s.heap.push { cls:=.type "range",data:=.fields #[.int lo t,.int hi u,.int 1 v] }).objs.size,[(s.heap.push { cls:=.type "range",data:=.fields #[.int lo t,.int hi u,.int 1 v] }).objs.size],_,_,H,rfl,
  I1.kept (t':=tk) λb o e=>dX _ e,OH _ lo (hi-lo).toNat,?_,λb hb=>?_,q⟩
 ·have e1:lo+((0:Nat):Int)*1=lo:=by simp
  have e2:(((hi-lo).toNat:Nat):Int)-((0:Nat):Int)=Builtin.Range.rangeSize lo hi 1:=by rw[rangeSize_one];split<;>omega
  show IsRangeIter _ _ (lo+((0:Nat):Int)*1) ((((hi-lo).toNat:Nat):Int)-((0:Nat):Int)) 1
  rw[e1,e2]
  exact fb _ rfl
 ·have e:b=(s.heap.push { cls:=.type "range",data:=.fields #[.int lo t,.int hi u,.int 1 v] }).objs.size:=by simpa using hb
  subst e
  exact I1.vK (bH _) (I1.av.fresh (bH _))
noncomputable def OJ(ta:TA):TI:=λσ H R=>ta σ H λvs H1=>∃j:Int,vs=[.int j]/\-(2 ^ 62)<=j/\j<2 ^ 62/\R (tf 0 j.toNat) H1
noncomputable def OK(ta:TA):TI:=λσ H R=>ta σ H λvs H1=>∃i j:Int,vs=[.int i,.int j]/\(-(2 ^ 62)<=i/\i<2 ^ 62/\-(2 ^ 62)<=j/\j<2 ^ 62)/\R (tf i (j-i).toNat) H1
theorem OL{a:Expr}{ta:TA}{p pos:Pos}(hg:Gl X "range")(hm:X.mg "range"=none)(ha:PA X [a] ta)(hs:starEach [a] X.env=[(false,eval a X.env)]:=by rfl):PI X tg (.Call (.Name "range" p) [a] [] pos) (OJ ta):=by
 intro pins s σ H R I h
 refine Call_ (nM I hg hm boot_range (vn (aG (ha pos pins s σ H _ I h) λus s1 ⟨vs,H1,I1,r1,q1⟩=>?_) hs rfl))
 obtain⟨j,e,q1,q2,q⟩:=q1
 subst e
 cases r1 with
 | cons r rr =>
  cases rr
  obtain⟨t,rfl⟩:=r
  exact call_range_1 (GY I1 (by omega) (by omega) q1 q2 (by simpa using q))
theorem OM{a b:Expr}{ta:TA}{p pos:Pos}(hg:Gl X "range")(hm:X.mg "range"=none)(ha:PA X [a,b] ta)(hs:starEach [a,b] X.env=[(false,eval a X.env),(false,eval b X.env)]:=by rfl)(fC:starEach [b] X.env=[(false,eval b X.env)]:=by rfl) :
  PI X tg (.Call (.Name "range" p) [a,b] [] pos) (OK ta):=by
 intro pins s σ H R I h
 refine Call_ (nM I hg hm boot_range (vn (aG (ha pos pins s σ H _ I h) λus s1 ⟨vs,H1,I1,r1,q1⟩=>?_) (by rw[hs,fC]) (by rw[fC];rfl)))
 obtain⟨i,j,e,⟨q1,q2,q3,q4⟩,q⟩:=q1
 subst e
 cases r1 with
 | cons r rr =>
  cases rr with
  | cons r' rr =>
   cases rr
   obtain⟨t,rfl⟩:=r
   obtain⟨t',rfl⟩:=r'
   exact call_range_2 (GY I1 q1 q2 q3 q4 q)
noncomputable def ON(wi:TI)(g:TG)(tb:TS):TS:=λD σ H=>wi σ H λJ H1=>∃W:Nat->Nat->St->Hp->Prop,(∃m,W 0 m σ H1)/\∀i m σ H,W i m σ H ->
 (J.stop i H/\D.nx σ H)\/(J.go i H/\∃N:St->Hp->Prop,(∀ai H',N ai H'->∃m',m'<m/\W (i+1) m' ai H')/\∀x H',J.gL i H x H'->g x σ H' λgb H2=>tb { D with nx:=N,ct:=N,bk:=D.nx } gb H2)
noncomputable def tj(fp:List Addr)(h:Heap):List (Addr × Obj):=fp.filterMap λb=>(h.get? b).map λo=>(b,o)
theorem vL{fp:List Addr}{h:Heap}{b:Addr}{o:Obj}(hb:b∈fp)(e:h.get? b=some o):(b,o)∈tj fp h:=Nn.mpr ⟨b,hb,by rw[e];rfl⟩
theorem OO{fp:List Addr}{h:Heap}{p:Addr × Obj}(hp:p∈tj fp h):p.1∈fp/\h.get? p.1=some p.2:=by
 obtain⟨b,hb,e⟩:=Nn.mp hp
 cases q:h.get? b with
 | none=>rw[q]at e;cases e
 | some o =>
  rw[q]at e
  have e':(b,o)=p:=cP e
  subst e'
  exact⟨hb,q⟩
theorem Inv.pinned{pins:List (Addr × Obj)}{σ:St}{H:Hp}{s:Shared}{fp:List Addr}(I:Inv X pins σ H s)(hf:∀b∈fp,fB X pins H b)(ho:∀b∈fp,∃o,s.heap.get? b=some o/\∀v,o.data≠.cell v):Inv X (pins++tj fp s.heap) σ H s :=
 I.GI λp hp=>(cA.mp hp).elim (λz=>I.pin p (cI _ z)) λz=>by
  obtain⟨hb,e⟩:=OO z
  obtain⟨f0,f1,f2,_⟩:=hf p.1 hb
  obtain⟨o,e',d⟩:=ho p.1 hb
  rw[e]at e';cases e'
  exact⟨e,f0,f1,f2,d⟩
theorem Inv.tu{pins pl:List (Addr × Obj)}{σ:St}{H:Hp}{s:Shared}(I:Inv X (pins++pl) σ H s):Inv X pins σ H s:=I.GI λp hp=>I.pin p (cI _ (eu _ hp))
theorem y0{iter:Expr}{body:List Stmt}{wi:TI}{g:TG}{tb:TS}{pos:Pos}(hp:PassesOwn (model X.prog X.w) X.A X.env X.xe)(hc:X.calm=true)(hi:PI X tg iter wi)(hg:PG X tg g)(hb:PSs X body tb)
  (hs:∀x,foldedSetIterable iter X.env x=pure x:=by intro _;rfl):PS X (.For tg iter body [] pos) (ON wi g tb):=by
 intro pins s σ H D I h
 refine wpAny_For (aG (hi pins s σ H _ I h) λv s1 h1=>aG h1 λyX s2 h2=>?_) hs
 obtain⟨it,fp,tn,J,H2,e,I2,T,tw,f2,W,⟨m0,w0⟩,turn⟩:=h2
 subst e
 have y6:∀{H':Hp},(∀b∈fp,H' b=none)->∀b∈fp,fB X pins H' b:=λhn b hb=>⟨hn b hb,(f2 b hb).2⟩
 refine codeAny_forLoop_any (λn s'=>∃i ai H',Inv X pins ai H' s'/\tn i s'.heap/\(∀b∈fp,H' b=none)/\W i n ai H') ?_ m0 ⟨0,σ,H2,I2,tw,λb hb=>(f2 b hb).1,w0⟩
 rintro n s3 ⟨i,iq,H3,I3,GZ,G0,w3⟩
 rcases turn i n iq H3 w3 with⟨stop,qn⟩ | ⟨go,N,hN,step⟩
 ·refine wpAny_passesOwn hp (aG (T.done X rfl rfl rfl hc i pins s3 iq H3 X.xe I3 (y6 G0) GZ stop) λr s4 ⟨hr,I4⟩=>?_)
  subst hr
  exact wpAny_execs_nil ⟨iq,H3,I4,qn⟩
 ·refine wpAny_passesOwn hp (aG (T.item X rfl rfl rfl hc i pins s3 iq H3 X.xe I3 (y6 G0) GZ go) λr s4 ⟨u,hr,h4⟩=>?_)
  subst hr
  refine wpAny_passesOwn hp (aG h4 λ_ s5 ⟨x,H5,I5,r5,y5,nQ,y7⟩=>?_)
  have y8:=I5.pinned (y6 y7) (T.obj _ _ nQ)
  refine wpAny_passesOwn hp (aG (hg _ s5 iq H5 x u _ y8 r5 (step x H5 y5)) λ_ s6 ⟨y9,H6,I6,q6⟩=>?_)
  refine wpAny_passesOwn hp (aG (hb _ s6 y9 H6 _ I6 q6) λf s7 q7=>?_)
  have again:∀{ir:St} {H7:Hp},Inv X (pins++tj fp s5.heap) ir H7 s7->N ir H7->∃m,m<n/\∃i ai H',Inv X pins ai H' s7/\tn i s7.heap/\(∀b∈fp,H' b=none)/\W i m ai H':=λ{ir H7} I7 n7=>by
   obtain⟨m',hm,w7⟩:=hN ir H7 n7
   refine⟨m',hm,i+1,ir,H7,I7.tu,T.keep _ _ _ nQ λb hb o e=>(I7.pin (b,o) (cI _ (cI _ (vL hb e)))).1,λb hb=>?_,w7⟩
   obtain⟨o,e,d⟩:=T.obj _ _ nQ b hb
   exact(I7.pin (b,o) (cI _ (cI _ (vL hb e)))).2.1
  cases f with
  | next=>obtain⟨ir,H7,I7,n7⟩:=q7;exact again I7 n7
  | cont=>obtain⟨ir,H7,I7,n7⟩:=q7;exact again I7 n7
  | brk=>obtain⟨ir,H7,I7,q7⟩:=q7;exact⟨ir,H7,I7.tu,q7⟩
  | ret v=>obtain⟨x7,ir,H7,I7,r7,q7⟩:=q7;exact⟨x7,ir,H7,I7.tu,r7,q7⟩
end
end L2
namespace L2
open PySem PySem.Spec PyProof.Rows
noncomputable abbrev R2:=V->V->Hp->VK->Prop
noncomputable def bW(X:Cx)(f:Value->Value->Sem Value)(r:R2):Prop :=
 ∀(pins:List (Addr × Obj)) (s:Shared) (σ:St) (H:Hp) (x y:V) (v u:Value) (Q:VK),Inv X pins σ H s->RelV x v->RelV y u->r x y H Q ->
  wpAny (model X.prog X.w) X.A (f v u) (EP X pins σ Q) X.xe s
noncomputable def fE(X:Cx)(f:Value)(r:List V->Hp->VK->Prop):Prop :=
 ∀(pins:List (Addr × Obj)) (s:Shared) (σ:St) (H:Hp) (xs:List V) (us:List Value) (Q:VK),Inv X pins σ H s->Vals xs us->r xs H Q ->
  wpAny (model X.prog X.w) X.A (call f us) (EP X pins σ Q) X.xe s
noncomputable def tD(r:R2)(ta tb:TE):TE:=λσ H Q=>ta σ H λx H1=>tb σ H1 λy H2=>r x y H2 Q
noncomputable def rI(C:Int->Int->Prop)(g:Int->Int->V):R2:=λx y H Q=>∃i j,x=.int i/\y=.int j/\C i j/\Q (g i j) H
noncomputable def gg(g:Int->Int->V):R2:=λx y H Q=>∃i j,x=.int i/\y=.int j/\Q (g i j) H
section
variable{X:Cx}{a b c:Expr}{ta tb tc:TE}{pos:Pos}
theorem ze(ha:PE X a ta)(hb:PE X b tb){pins:List (Addr × Obj)}{s:Shared}{σ:St}{H:Hp}{R:V->V->Hp->Prop}(I:Inv X pins σ H s)
  (h:ta σ H λx H1=>tb σ H1 λy H2=>R x y H2) {Q:Value->Shared->Prop} {f:Value->Value->Sem Value}
  (hf:∀v u s2 x y H2,Inv X pins σ H2 s2->RelV x v->RelV y u->R x y H2->wpAny (model X.prog X.w) X.A (f v u) Q X.xe s2) :
  wpAny (model X.prog X.w) X.A (eval a X.env) (λv aS=>wpAny (model X.prog X.w) X.A (eval b X.env) (λu il=>wpAny (model X.prog X.w) X.A (f v u) Q X.xe il) X.xe aS) X.xe s:=by
 refine aG (ha pins s σ H _ I h) λv s1 ⟨x,H1,I1,r1,q1⟩=>?_
 refine aG (hb pins s1 σ H1 _ I1 q1) λu s2 ⟨y,H2,I2,r2,q2⟩=>?_
 exact hf v u s2 x y H2 I2 r1 r2 q2
theorem vM{op:Operator}{r:R2}(ho:bW X (binaryOp op) r)(ha:PE X a ta)(hb:PE X b tb):PE X (.BinOp a op b pos) (tD r ta tb):=by
 intro pins s σ H Q I h
 exact wpAny_BinOp (ze ha hb I h λv u s2 x y H2 I2 rx ry q=>ho pins s2 σ H2 x y v u Q I2 rx ry q)
theorem tE{f:Value->Value->Sem Value}{C:Int->Int->Prop}{g:Int->Int->Int}
  (rule:∀(i j:Int) (t u:Tok) (s:Shared) (Q:Value->Shared->Prop) (E:Value->Shared->Prop),C i j->Q (.int (g i j) s.toks) { s with toks:=s.toks+1 }->wpAny (model X.prog X.w) X.A (f (.int i t) (.int j u)) Q E s) :
  bW X f (rI C λi j=>.int (g i j)):=by
 intro pins s σ H x y v u Q I rx ry h
 obtain⟨i,j,rfl,rfl,hc,q⟩:=h
 obtain⟨t,rfl⟩:=rx
 obtain⟨t',rfl⟩:=ry
 exact rule i j t t' s _ _ hc ⟨.int (g i j),H,I.tok _,⟨_,rfl⟩,q⟩
theorem qy{f:Value->Value->Sem Value}{g:Int->Int->Int}
  (rule:∀(i j:Int) (t u:Tok) (s:Shared) (Q:Value->Shared->Prop) (E:Value->Shared->Prop),Q (.int (g i j) s.toks) { s with toks:=s.toks+1 }->wpAny (model X.prog X.w) X.A (f (.int i t) (.int j u)) Q E s) :
  bW X f (gg λi j=>.int (g i j)):=by
 intro pins s σ H x y v u Q I rx ry h
 obtain⟨i,j,rfl,rfl,q⟩:=h
 obtain⟨t,rfl⟩:=rx
 obtain⟨t',rfl⟩:=ry
 exact rule i j t t' s _ _ ⟨.int (g i j),H,I.tok _,⟨_,rfl⟩,q⟩
theorem vN{f:Value->Value->Sem Value}{g:Int->Int->Bool}
  (rule:∀(i j:Int) (t u:Tok) (s:Shared) (Q:Value->Shared->Prop) (E:Value->Shared->Prop),Q (.bool (g i j)) s->wpAny (model X.prog X.w) X.A (f (.int i t) (.int j u)) Q E s) :
  bW X f (gg λi j=>.bl (g i j)):=by
 intro pins s σ H x y v u Q I rx ry h
 obtain⟨i,j,rfl,rfl,q⟩:=h
 obtain⟨t,rfl⟩:=rx
 obtain⟨t',rfl⟩:=ry
 exact rule i j t t' s _ _ ⟨.bl (g i j),H,I,rfl,q⟩
noncomputable def iX(i j:Int):Prop:=(-(2 ^ 64)<i/\i<2 ^ 64)\/(-(2 ^ 64)<j/\j<2 ^ 64)
theorem iX.ok{i j:Int}(h:iX i j):IntMulOk i j:=by
 rcases h with⟨h1,h2⟩ | ⟨h1,h2⟩
 ·exact .of_left (intBits_le_64 h1 h2)
 ·exact .of_right (intBits_le_64 h1 h2)
theorem OP(k:Nat):(0:Int)<=2 ^ k:=by
 rw[two_pow_cast]
 exact Gd _
theorem OQ:bW X (binaryOp .Add) (gg λi j=>.int (i+j)):=qy λ_ _ _ _ _ _ _ q=>add_int q
theorem zf:bW X (binaryOp .Sub) (gg λi j=>.int (i-j)):=qy λ_ _ _ _ _ _ _ q=>sub_int q
theorem OR:bW X (binaryOp .Mod) (rI (λ_ j=>0<j) λi j=>.int (i%j)):=tE λi j _ _ _ _ _ hc q=>by
 have h1:(0:Int)<j:=hc
 exact mod_int' (by omega) (by rw[Int.fmod_eq_emod_of_nonneg i (by omega)];exact q)
theorem OS:bW X (binaryOp .RShift) (rI (λ_ j=>0<=j) λi j=>.int (i/2 ^ j.toNat)):=tE λi j _ _ _ _ _ hc q =>
 rshift_int hc (by rw[Np i (OP _)];exact q)
theorem OT:bW X (binaryOp .BitAnd) (gg λi j=>.int (kK i j)):=qy λ_ _ _ _ _ _ _ q=>and_int q
theorem OU:bW X (binaryOp .BitXor) (gg λi j=>.int (nv i j)):=qy λ_ _ _ _ _ _ _ q=>xor_int q
theorem OV:bW X (inplaceOp .Add) (gg λi j=>.int (i+j)):=qy λ_ _ _ _ _ _ _ q=>iadd_int q
theorem OW:bW X (inplaceOp .BitXor) (gg λi j=>.int (nv i j)):=qy λ_ _ _ _ _ _ _ q=>ixor_int q
end
section
variable{X:Cx}{a b c:Expr}{ta tb tc:TE}{pos:Pos}
theorem OX:bW X (compareOp .Lt) (gg λi j=>.bl (decide (i<j))):=vN λ_ _ _ _ _ _ _ q=>lt_int q
theorem OY:bW X (compareOp .LtE) (gg λi j=>.bl (decide (i<=j))):=vN λ_ _ _ _ _ _ _ q=>le_int q
theorem OZ:bW X (compareOp .Gt) (gg λi j=>.bl (decide (j<i))):=vN λ_ _ _ _ _ _ _ q=>gt_int q
theorem O0:bW X (compareOp .GtE) (gg λi j=>.bl (decide (j<=i))):=vN λ_ _ _ _ _ _ _ q=>ge_int q
theorem bW.or{f:Value->Value->Sem Value}{r r':R2}(h:bW X f r)(h':bW X f r'):bW X f (λx y H Q=>r x y H Q\/r' x y H Q):=by
 intro pins s σ H x y v u Q I rx ry q
 rcases q with q | q
 ·exact h pins s σ H x y v u Q I rx ry q
 ·exact h' pins s σ H x y v u Q I rx ry q
theorem cy(b:Expr){op:CmpOp}(h:op≠.In:=by decide)(h2:op≠.NotIn:=by decide):behindInMarks op b=false:=by
 have e1:(op==CmpOp.In)=false:=by cases op<;>first | rfl | exact absurd rfl h
 have e2:(op==CmpOp.NotIn)=false:=by cases op<;>first | rfl | exact absurd rfl h2
 cases b<;>simp[behindInMarks,e1,e2]
theorem O1{op:CmpOp}{r:R2}(ho:bW X (compareOp op) r)(ha:PE X a ta)(hb:PE X b tb)(hm:behindInMarks op b=false):PE X (.Compare a [op] [b] pos) (tD r ta tb):=by
 intro pins s σ H Q I h
 exact wpAny_Compare1 (ze ha hb I h λv u s2 x y H2 I2 rx ry q=>ho pins s2 σ H2 x y v u Q I2 rx ry q) hm
noncomputable def G1(t:TE):TT:=λσ H Q=>t σ H λx H'=>∃k,x=.bl k/\Q k H'
theorem O2{op:CmpOp}{r:R2}(ho:bW X (compareOp op) r)(ha:PE X a ta)(hb:PE X b tb)(hm:behindInMarks op b=false):PT X (.Compare a [op] [b] pos) (G1 (tD r ta tb)):=by
 intro pins s σ H Q I h
 refine wpAny_isTrue_Compare1 (aG (ha pins s σ H _ I h) λv s1 ⟨x,H1,I1,r1,q1⟩=>aG (hb pins s1 σ H1 _ I1 q1) λu s2 ⟨y,H2,I2,r2,q2⟩ =>
  aG (ho pins s2 σ H2 x y v u _ I2 r1 r2 q2) λc s3 ⟨z,H3,I3,r3,k,e,q3⟩=>?_) hm
 subst e
 cases r3
 exact wpAny_truthy_bool ⟨H3,I3,q3⟩
noncomputable def G2(r r':R2)(ta tb tc:TE):TE:=λσ H Q=>ta σ H λx H1=>tb σ H1 λy H2=>r x y H2 λz H3=>∃k,z=.bl k /\
 (if k=true then tc σ H3 λw' H4=>r' y w' H4 Q else Q (.bl false) H3)
theorem O3{op nR:CmpOp}{r r':R2}(ho:bW X (compareOp op) r)(ig:bW X (compareOp nR) r')(ha:PE X a ta)(hb:PE X b tb)(hc:PE X c tc)
  (hm:lastMarks [op,nR] [b,c]=false:=by with_unfolding_all rfl):PE X (.Compare a [op,nR] [b,c] pos) (G2 r r' ta tb tc):=by
 intro pins s σ H Q I h
 refine Compare_chain (aG (ha pins s σ H _ I h) λv s1 ⟨x,H1,I1,r1,q1⟩=>chain_link (aG (hb pins s1 σ H1 _ I1 q1) λu s2 ⟨y,H2,I2,r2,q2⟩ =>
  aG (ho pins s2 σ H2 x y v u _ I2 r1 r2 q2) λd s3 ⟨z,H3,I3,r3,k,e,q3⟩=>?_)) hm
 subst e
 cases r3
 refine wpAny_truthy_bool ?_
 cases k with
 | false=>exact ite_ff ⟨.bl false,H3,I3,rfl,q3⟩
 | true=>exact ite_tt (chain_last (aG (hc pins s3 σ H3 _ I3 q3) λw' s4 ⟨z',H4,I4,r4,q4⟩=>ig pins s4 σ H4 y z' u w' Q I4 r2 r4 q4))
theorem qA:(sizeLine:Nat)<2 ^ 63:=by rw[sizeLine_eq];decide
theorem O4:bW X (binaryOp .Add) (λx y H Q=>∃i j,x=.str i/\y=.str j/\i.length+j.length<=sizeLine/\Q (.str (i++j)) H):=by
 intro pins s σ H x y v u Q I rx ry h
 obtain⟨i,j,rfl,rfl,hz,q⟩:=h
 obtain⟨t,rfl⟩:=rx
 obtain⟨t',rfl⟩:=ry
 exact add_str (λt' tk=>⟨.str (i++j),H,I.tok _,⟨_,rfl⟩,q⟩) hz
theorem zg{x:V}{us:List Value}(r:Vals [x] us):∃u,us=[u]/\RelV x u:=by
 cases r with
 | cons r1 r2=>cases r2;exact⟨_,rfl,r1⟩
end
end L2
namespace L2
open PySem PySem.Spec PyProof.Rows
structure nS(h:Heap)(x dx C:Addr)(mA:Str->Option Value):Prop where
 obj:h.get? x=some (PySem.W.instObj C dx)
 ns:h.Ns1 dx mA
 ne:dx≠x
theorem O5{h:Heap}{dx:Addr}{mA:Str->Option Value}(n:h.Ns1 dx mA):∃od,h.get? dx=some od/\∀name,PySem.W.lookIn name od=some (mA name):=by
 obtain⟨o,es,ep,ho,hd,hk,_,hm⟩:=n
 refine⟨o,ho,λname=>?_⟩
 have e:=hm name
 unfold nsFind findBy at e
 rw[<-Array.find?_toList]at e
 unfold PySem.W.lookIn
 rw[hd]
 dsimp only
 split
 ·rename_i y q
  rw[q]at e
  exact congrArg some e
 ·rename_i q
  rw[q]at e
  have a:es.toList.any (·.refKey)=false:=by
   rw[List.any_eq_false]
   intro y hy
   obtain⟨z,t,O6⟩:=hk y (Array.mem_toList_iff.mp hy)
   simp[DictEntry.refKey,O6]
  have a':¬ es.toList.any (·.refKey)=true:=by rw[a];exact vm
  rw[if_neg a']
  exact congrArg some e
theorem nS.look{h:Heap}{x dx C:Addr}{mA:Str->Option Value}(I:nS h x dx C mA):∃od,PySem.W.InstAt h x (PySem.W.instObj C dx) C (some od)/\∀name,PySem.W.lookIn name od=some (mA name) :=
 let⟨od,ho,hl⟩:=O5 I.ns
 ⟨od,⟨I.obj,rfl,rfl,ho⟩,hl⟩
section
variable{prog:Program}{w:World}{A:Around}{E:Value->Shared->Prop}{s:Shared}{K:PySem.W.Frag}{x dx C f:Addr}{mA:Str->Option Value}{name:Str}{v:Value}
theorem O7{expr:Bool}{Q:Value->Shared->Prop}(X:K.In s.heap)(I:nS s.heap x dx C mA)(hg:PySem.W.plainGet K C name=true)(hh:PySem.W.hasDictIn K C=true)
  (ha:PySem.W.findIn K (.ref C) name=some none) (hv:mA name=some v) (O8:PySem.W.handedIn v=true) (h:Q v { s with toks:=s.toks+1 }) :
  wpAny (model prog w) A (getAttr (.ref x) name expr) Q E s:=by
 obtain⟨od,J,hl⟩:=I.look
 exact PySem.W.get_value X J (PySem.W.plainGet_of hg).1 (PySem.W.findObj_own hh ha rfl (by rw[hl,hv])) O8 h
theorem O9{pl:Sem Bool}{Q:Value × List Value->Shared->Prop}(X:K.In s.heap)(I:nS s.heap x dx C mA)(hg:PySem.W.plainGet K C name=true)
  (hf:PySem.W.findIn K (.ref C) name=some (some (.ref f))) (ht:PySem.W.isFn K (.ref f)=true) (hv:mA name=none) (h:Q (.ref f,[.ref x]) s) :
  wpAny (model prog w) A (getMethod (.ref x) name pl) Q E s:=by
 obtain⟨od,J,hl⟩:=I.look
 exact PySem.W.method_fn X J (PySem.W.plainGet_of hg).1 (PySem.W.plainGet_of hg).2 hf (beq_iff_eq.mp ht) (by show(PySem.W.lookIn name od).map (·.isSome)=some false;rw[hl,hv];rfl) h
theorem Pa{ns:List Str}{Q:Unit->Shared->Prop}(X:K.In s.heap)(I:nS s.heap x dx C mA)
  (hs:PySem.W.findIn K (.ref C) "__setattr__"=some (some (.builtin "object.__setattr__"))) (hp:PySem.W.plainOver K C=true) (ht:PySem.W.takerIn K C name=some none) (hh:PySem.W.hasDictIn K C=true)
  (hw:PySem.Within mA ns) (iY:ns.length<=sizeLine)
  (h:∀h',nS h' x dx C (λy=>if y=name then some v else mA y)->Heap.SameBut dx s.heap h'->Q () { s with heap:=h',toks:=s.toks+2 }) :
  wpAny (model prog w) A (setAttr (.ref x) name v) Q E s:=by
 obtain⟨od,J,hl⟩:=I.look
 refine PySem.W.set_plain X J hs (PySem.W.osa_open (s:={ s with toks:=s.toks+1 }) (r:=none) X J hp ht λb=>?_)
 obtain⟨cd,hc,sW⟩:=PySem.W.any_some hh
 have hx:s.heap.get? x=some ⟨.ref C,some dx,.plain,#[]⟩:=I.obj
 refine wpAny_bind (wpAny_pure (wpAny_bind (wpAny_bind (wpAny_loadPart hx (wpAny_bind (PySem.W.Looks.here (s:={ s with toks:=s.toks+1 }) (PySem.W.looks_clsIn X hc) ?_))))))
 rw[sW]
 refine wpAny_pure (a:=some dx) (wpAny_bind (wpAny_pure (wpAny_bind ?_)))
 refine wpAny_nsSet1 (s:={ s with toks:=s.toks+1 }) I.ns λh' vO fC=>?_
 obtain⟨oD,esD,epD,Pb,Pc,Pd⟩:=vO.count (PySem.Within.cons name v hw)
 refine wpAny_bind (wpAny_lookBehind Pb (by rw[Pc];exact pastItsLine_dict (dW Pd (by rw[fu];omega))) ?_)
 exact wpAny_pure (h _ ⟨(fC.2 _ (dz I.ne)).trans I.obj,vO,I.ne⟩ fC)
theorem Pe{R:Result->Shared->Prop}{vs:List Value}{kw:List (Str × Value)}(X:K.In s.heap)(hm:PySem.W.makesIn K C=true)
  (hi:PySem.W.findIn K (.ref C) "__init__"=some (some (.ref f))) (hf:PySem.W.typeIn K (.ref f)=some (.type "function"))
  (h:codeAny (model prog w) (A.under (.builtin "type.__call__" ⟨.ref C::vs,kw⟩)) (.call (.ref f) ⟨.ref (s.heap.objs.size+1)::vs,kw⟩) (PySem.W.InitBack (s.heap.objs.size+1) R)
   { s with heap:=(s.heap.push PySem.W.emptyDict).push (PySem.W.instObj C s.heap.objs.size) }) :
  codeAny (model prog w) A (.call (.ref C) ⟨vs,kw⟩) R s:=by
 obtain⟨hh,g,d,t,os⟩:=s
 exact PySem.W.make_core (PySem.W.makes_of X hm) (PySem.W.looks_findIn X hi) (λself=>PySem.W.bind_fn X self hf) (.inl rfl) h
end
noncomputable def dJ(f:Str)(v:V):List (Str × V)->List (Str × V)
 | []=>[(f,v)]
 | (g,x)::r=>if g=f then(g,v)::r else(g,x)::dJ f v r
theorem G3(f g:Str)(v:V):∀fs:List (Str × V),(dJ f v fs).lookup g=if g=f then some v else fs.lookup g
 | []=>by
  show jt g [(f,v)]=_
  by_cases h:g=f
  ·have hb:(g==f)=true:=beq_iff_eq.mpr h
   simp only[jt,hb,if_pos h]
  ·have hb:(g==f)=false:=beq_eq_false_iff_ne.mpr h
   simp only[jt,hb,if_neg h]
 | (k,x)::r=>by
  have ih:=G3 f g v r
  rw[show dJ f v ((k,x)::r)=(if k=f then(k,v)::r else(k,x)::dJ f v r) from rfl]
  by_cases hk:k=f
  ·rw[if_pos hk]
   by_cases h:g=k
   ·have hb:(g==k)=true:=beq_iff_eq.mpr h
    simp only[jt,hb,if_pos (h.trans hk)]
   ·have hb:(g==k)=false:=beq_eq_false_iff_ne.mpr h
    simp only[jt,hb,if_neg (λe:g=f=>h (e.trans hk.symm))]
  ·rw[if_neg hk]
   by_cases h:g=k
   ·have hb:(g==k)=true:=beq_iff_eq.mpr h
    simp only[jt,hb,if_neg (λe:g=f=>hk (h.symm.trans e))]
   ·have hb:(g==k)=false:=beq_eq_false_iff_ne.mpr h
    simp only[jt,hb]
    exact ih
theorem zh(f:Str)(v:V):∀fs:List (Str × V),f∈(dJ f v fs).map (·.1)/\∀g,g∈fs.map (·.1)->g∈(dJ f v fs).map (·.1)
 | []=>⟨by simp[dJ],λg h=>by simp at h⟩
 | (k,x)::r=>by
  obtain⟨i1,i2⟩:=zh f v r
  rw[show dJ f v ((k,x)::r)=(if k=f then(k,v)::r else(k,x)::dJ f v r) from rfl]
  by_cases hk:k=f
  ·rw[if_pos hk]
   subst hk
   exact⟨by simp,λg h=>by simpa using h⟩
  ·rw[if_neg hk]
   refine⟨?_,λg h=>?_⟩
   ·rw[cV]
    exact hE _ i1
   ·rw[cV]at h ⊢
    rcases bV.mp h with e | e
    ·exact bV.mpr (.inl e)
    ·exact hE _ (i2 g e)
theorem G4(f:Str)(v:V):∀fs:List (Str × V),(dJ f v fs).length<=fs.length+1
 | []=>by simp[dJ]
 | (k,x)::r=>by
  have ih:=G4 f v r
  rw[show dJ f v ((k,x)::r)=(if k=f then(k,v)::r else(k,x)::dJ f v r) from rfl]
  by_cases hk:k=f
  ·rw[if_pos hk,fu,fu];omega
  ·rw[if_neg hk,fu,fu];omega
theorem iT.some_of{v:V}{o:Option Value}(r:iT (some v) o):∃u,o=some u/\RelV v u:=by
 cases o with
 | none=>exact(show False from r).elim
 | some u=>exact⟨u,rfl,r⟩
theorem iT.none_of{o:Option Value}(r:iT none o):o=none:=by
 cases o with
 | none=>rfl
 | some u=>exact(show False from r).elim
theorem Pf{v:V}{u:Value}(r:RelV v u):PySem.W.handedIn u=true:=by
 cases v with
 | ak=>cases(show u=nq from r);rfl
 | bl b=>cases(show u=yl b from r);rfl
 | int i=>obtain⟨t,e⟩:=(show ∃t,u=nk i t from r);cases e;rfl
 | str x=>obtain⟨t,e⟩:=(show ∃t,u=Value.str x t from r);cases e;rfl
 | vA b=>obtain⟨t,e⟩:=(show ∃t,u=Value.bytes b t from r);cases e;rfl
 | nJ b=>obtain⟨t,e⟩:=(show ∃t,u=Value.float b t from r);cases e;rfl
 | ref a=>cases(show u=dF a from r);rfl
 | ty n=>cases(show u=Value.type n from r);rfl
section
variable{P:Program}{w:World}{H H':Hp}{h h':Heap}{a C dx:Addr}{fs yL:List (Str × V)}
theorem vP(av:bR P w H h)(e:H a=some (.ins C dx fs)):∃mA,nS h a dx C mA/\(∀f,iT (fs.lookup f) (mA f))/\PySem.Within mA (fs.map (·.1))/\fs.length<=1000/\H dx=some (.own a):=by
 obtain⟨d,z,ne,ob,mA,n,r,q⟩:=(show cM P w H h a (.ins C dx fs) from av a _ e)
 exact⟨mA,⟨ob,n,ne⟩,r,q,z,d⟩
end
structure eE(K:PySem.W.Frag)(C:Addr):Prop where
 pg:PySem.W.plainGet K C Str.empty=true
 hd:PySem.W.hasDictIn K C=true
 po:PySem.W.plainOver K C=true
 sa:PySem.W.findIn K (.ref C) "__setattr__"=some (some (.builtin "object.__setattr__"))
theorem eE.get{K:PySem.W.Frag}{C:Addr}(c:eE K C)(f:Str):PySem.W.plainGet K C f=true:=c.pg
noncomputable def bY(K:PySem.W.Frag)(C:Addr)(f:Str):Prop:=PySem.W.findIn K (.ref C) f=some none
theorem bY.Pg{K:PySem.W.Frag}{C:Addr}{f:Str}(n:bY K C f):PySem.W.takerIn K C f=some none:=by
 unfold PySem.W.takerIn
 rw[show PySem.W.findIn K (.ref C) f=some none from n]
 rfl
structure Meth(K:PySem.W.Frag)(C:Addr)(m:Str)(f:Addr):Prop where
 at_:PySem.W.findIn K (.ref C) m=some (some (.ref f))
 fn:PySem.W.isFn K (.ref f)=true
 kp:PySem.W.keepIn K (.ref f)=true
section
variable{X:Cx}{pins:List (Addr × Obj)}{σ:St}{H:Hp}{s:Shared}{a C dx:Addr}{fs:List (Str × V)}{f:Str}{v:V}{A:Around}{E:Value->Shared->Prop}
theorem Ph{b:Bool}{Q:Value->Shared->Prop}(I:Inv X pins σ H s)(e:H a=some (.ins C dx fs))(c:eE X.K C)(n:bY X.K C f)(l:fs.lookup f=some v)
  (h:∀u s',Inv X pins σ H s'->RelV v u->Q u s'):wpAny (model X.prog X.w) A (getAttr (.ref a) f b) Q E s:=by
 obtain⟨mA,O,r,_,_,_⟩:=vP I.av e
 obtain⟨u,hu,ru⟩:=iT.some_of (v:=v) (o:=mA f) (by rw[<-l];exact r f)
 exact O7 I.cu O (c.get f) c.hd n hu (Pf ru) (h u _ (I.tok _) ru)
theorem G5{m:Str}{g:Addr}{pl:Sem Bool}{Q:Value × List Value->Shared->Prop}(I:Inv X pins σ H s)(e:H a=some (.ins C dx fs))(c:eE X.K C)(k:Meth X.K C m g)(l:fs.lookup m=none)
  (h:Q (.ref g,[.ref a]) s):wpAny (model X.prog X.w) A (getMethod (.ref a) m pl) Q E s:=by
 obtain⟨mA,O,r,_,_,_⟩:=vP I.av e
 have hn:mA m=none:=iT.none_of (by rw[<-l];exact r m)
 exact O9 I.cu O (c.get m) k.at_ k.fn hn h
theorem Pj{y:V}{u:Value}{Q:Unit->Shared->Prop}(I:Inv X pins σ H s)(e:H a=some (.ins C dx fs))(c:eE X.K C)(n:bY X.K C f)(hl:fs.length<1000)(ry:RelV y u)
  (h:∀s',Inv X pins σ (upd H a (.ins C dx (dJ f y fs))) s'->Q () s'):wpAny (model X.prog X.w) A (setAttr (.ref a) f u) Q E s:=by
 obtain⟨mA,O,r,wi,_,ho⟩:=vP I.av e
 have hz:(fs.map (·.1)).length<=sizeLine:=by rw[cB,sizeLine_eq];omega
 refine Pa I.cu O c.sa c.po n.Pg c.hd wi hz λh' O' sb=>h _ ?_
 have hd:∃o,h'.get? dx=some o:=let⟨o,_,_,e',_⟩:=O'.ns;⟨o,e'⟩
 refine I.write (x:=a) (e:=dx) (by rw[e];exact pK) (.inr ho) (λb q hb z=>(sb.2 b hb).trans z) hd ?_
 refine⟨by rw[aD O.ne];exact ho,?_,O.ne,O'.obj,_,O'.ns,λg=>?_,λg hg=>?_⟩
 ·have:=G4 f y fs;omega
 ·show iT ((dJ f y fs).lookup g) (if g=f then some u else mA g)
  rw[G3]
  by_cases q:g=f
  ·rw[if_pos q,if_pos q];exact ry
  ·rw[if_neg q,if_neg q];exact r g
 ·by_cases q:g=f
  ·rw[q];exact(zh f y fs).1
  ·refine(zh f y fs).2 g (wi g λz=>hg ?_)
   show(if g=f then some u else mA g)=none
   rw[if_neg q];exact z
theorem Inv.made(I:Inv X pins σ H s):Inv X pins σ (upd (upd H s.heap.objs.size (.own (s.heap.objs.size+1))) (s.heap.objs.size+1) (.ins C s.heap.objs.size []))
  { s with heap:=(s.heap.push PySem.W.emptyDict).push (PySem.W.instObj C s.heap.objs.size) }:=by
 have e1:(s.heap.push PySem.W.emptyDict).get? s.heap.objs.size=some PySem.W.emptyDict:=fb s.heap rfl
 have e2:((s.heap.push PySem.W.emptyDict).push (PySem.W.instObj C s.heap.objs.size)).get? (s.heap.objs.size+1)=some (PySem.W.instObj C s.heap.objs.size):=by
  have:=fb (s.heap.push PySem.W.emptyDict) (o:=PySem.W.instObj C s.heap.objs.size) rfl
  rwa [pL]at this
 have e3:(s.heap.push PySem.W.emptyDict).Ns s.heap.objs.size (λ_=>none):=⟨PySem.W.emptyDict,#[],_,e1,rfl,(λe he=>absurd he (by simp)),λ_=>rfl⟩
 have I1:=I.laid (a:=s.heap.objs.size) (o:=.own (s.heap.objs.size+1)) (h':=s.heap.push PySem.W.emptyDict) (t':=s.toks) (λb u q=>dX _ q) (bH _) ⟨_,e1⟩
 refine I1.laid (a:=s.heap.objs.size+1) (o:=.ins C s.heap.objs.size []) (t':=s.toks) (λb u q=>dX _ q) (Ge (pL _ _)) ?_
 have ne:s.heap.objs.size≠s.heap.objs.size+1:=dG (sG _)
 refine⟨by rw[aD ne,bw],ju _,ne,e2,λ_=>none,(Heap.Ns1.of_empty e3).at λo q=>dX _ q,λ_=>pK,λy hy=>absurd rfl hy⟩
theorem Pk{prog:Program}{w:World}{env:Env}{e:Expr}{f:Str}{pos:Pos}{s:Shared}{Q:Value->Shared->Prop}(hb:attributeBase e f env (eval e env)=eval e env)
  (h:wpAny (model prog w) A (eval e env) (λo aS=>wpAny (model prog w) A (getAttr o f true) Q E aS) E s):wpAny (model prog w) A (eval (.Attribute e f pos) env) Q E s :=
 Attribute_any_ h (by rw[arm_eval_Attribute,hb])
end
noncomputable def Pl(K:PySem.W.Frag)(ta:TE)(f:Str):TE:=λσ H Q=>ta σ H λx H1=>∃a C dx fs v,x=.ref a/\H1 a=some (.ins C dx fs)/\eE K C/\bY K C f/\fs.lookup f=some v/\Q v H1
noncomputable def Pm(K:PySem.W.Frag)(ta tv:TE)(f:Str):TS:=λD σ H=>tv σ H λy H1=>ta σ H1 λx H2=>∃a C dx fs,x=.ref a/\H2 a=some (.ins C dx fs)/\eE K C/\bY K C f/\fs.length<1000 /\
 D.nx σ (upd H2 a (.ins C dx (dJ f y fs)))
section
variable{X:Cx}{o e value:Expr}{f:Str}{pos pos' nU:Pos}{ta tv:TE}
theorem vQ(he:PE X e ta)(hb:attributeBase e f X.env (eval e X.env)=eval e X.env):PE X (.Attribute e f pos) (Pl X.K ta f):=by
 intro pins s σ H Q I h
 refine Pk hb (aG (he pins s σ H _ I h) λu s1 ⟨x,H1,I1,rx,a,C,dx,fs,v,ex,ea,c,n,l,q⟩=>?_)
 subst ex
 obtain rfl:u=dF a:=rx
 exact Ph I1 ea c n l λu' s2 I2 ru=>⟨v,H1,I2,ru,q⟩
theorem kX(ha:PE X o ta)(hv:PE X value tv)(hs:swapsWith value (some (.Attribute o f pos')) pos.line X.env=pure false):PS X (.Assign [.Attribute o f pos'] value pos) (Pm X.K ta tv f):=by
 intro pins s σ H D I h
 refine plainObj_wpAny_Assign_Attribute (aG (hv pins s σ H _ I h) λu s1 ⟨y,H1,I1,ry,q⟩=>aG (ha pins s1 σ H1 _ I1 q) λov s2 ⟨x,H2,I2,rx,a,C,dx,fs,ex,ea,c,n,l,q2⟩=>?_) hs
 subst ex
 obtain rfl:ov=dF a:=rx
 exact Pj I2 ea c n l ry λs3 I3=>⟨σ,_,I3,q2⟩
end
section
variable{X:Cx}{pins:List (Addr × Obj)}{σ:St}{H:Hp}{s:Shared}{A:Around}{E:Value->Shared->Prop}{Q:Value->Shared->Prop}{c:Value}{b:Bool}
inductive fc(K:PySem.W.Frag)(H:Hp):V->Value->Prop where
 | ak:fc K H .ak (.type "NoneType")
 | bl (x:Bool):fc K H (.bl x) (.type "bool")
 | int (i:Int):fc K H (.int i) (.type "int")
 | str (x:Str):fc K H (.str x) (.type "str")
 | nJ (x:UInt64):fc K H (.nJ x) (.type "float")
 | lst {a:Addr} {xs:List V} (e:H a=some (.lst xs)):fc K H (.ref a) (.type "list")
 | bK {a:Addr} {o:Obj} {xs:List V} (e:H a=some (.bK o (.lst xs))):fc K H (.ref a) (.type "list")
 | tup {a:Addr} {xs:List V} (e:H a=some (.tup xs)):fc K H (.ref a) (.type "tuple")
 | dK {a:Addr} {cC:List (Key × V)} (e:H a=some (.dK cC)):fc K H (.ref a) (.type "dict")
 | dT {a:Addr} {cC:List (List Key × V)} (e:H a=some (.dT cC)):fc K H (.ref a) (.type "dict")
 | ins {a C dx:Addr} {fs:List (Str × V)} (e:H a=some (.ins C dx fs)) (cl:eE K C) (ha:PySem.W.findIn K (.ref C) "__class__"=some (some (.builtin "object.__class__")))
   (hn:PySem.W.specialIn K (.builtin "object.__class__") "__get__"=some (some (.builtin "getset_descriptor.__get__"))) (zj:PySem.W.takesIn K (.builtin "object.__class__")=some true)
   (hm:PySem.W.mroIn K C (.type "object")=some true):fc K H (.ref a) (.ref C)
theorem Pn{x:V}{u t:Value}(I:Inv X pins σ H s)(rx:RelV x u)(ty:fc X.K H x t)(e:PySem.W.kitOne X.K t c=some b)(h:∀tk,Q (.bool b) { s with toks:=tk }) :
  wpAny (model X.prog X.w) A (call (.builtin "isinstance") [u,c]) Q E s:=by
 cases ty with
 | ak=>cases(show u=nq from rx);exact PySem.W.kia_one PySem.W.kitx_none I.cu pK e (λz=>nomatch z) h
 | bl y=>cases(show u=yl y from rx);exact PySem.W.kia_one PySem.W.kitx_bool I.cu pK e (λz=>nomatch z) h
 | int i=>obtain⟨t,q⟩:=(show ∃t,u=nk i t from rx);cases q;exact PySem.W.kia_one PySem.W.kitx_int I.cu pK e (λz=>nomatch z) h
 | str y=>obtain⟨t,q⟩:=(show ∃t,u=Value.str y t from rx);cases q;exact PySem.W.kia_one PySem.W.kitx_str I.cu pK e (λz=>nomatch z) h
 | nJ y=>obtain⟨t,q⟩:=(show ∃t,u=Value.float y t from rx);cases q;exact PySem.W.kia_one PySem.W.kitx_float I.cu pK e (λz=>nomatch z) h
 | @lst a xs ea =>
  cases(show u=dF a from rx)
  obtain⟨_,_,n,_,h1⟩:=(show cM X.prog X.w H s.heap a (.lst xs) from I.av a _ ea)
  exact PySem.W.kia_one PySem.W.kitx_list I.cu ⟨_,h1,rfl⟩ e (λz=>nomatch z) h
 | @bK a ob xs ea =>
  cases(show u=dF a from rx)
  obtain⟨_,_,_,n,_,h1⟩:=(show cM X.prog X.w H s.heap a (.bK ob (.lst xs)) from I.av a _ ea)
  exact PySem.W.kia_one PySem.W.kitx_list I.cu ⟨_,h1,rfl⟩ e (λz=>nomatch z) h
 | @tup a xs ea =>
  cases(show u=dF a from rx)
  obtain⟨_,_,_,p⟩:=(show cM X.prog X.w H s.heap a (.tup xs) from I.av a _ ea)
  obtain⟨o,h1,h2,_⟩:=p
  exact PySem.W.kia_one PySem.W.kitx_tuple I.cu ⟨o,h1,h2⟩ e (λz=>nomatch z) h
 | @dK a cC ea =>
  cases(show u=dF a from rx)
  obtain⟨_,_,vs,_,p⟩:=(show cM X.prog X.w H s.heap a (.dK cC) from I.av a _ ea)
  obtain⟨o,es,ep,h1,h2,_⟩:=p
  exact PySem.W.kia_one PySem.W.kitx_dict I.cu ⟨o,h1,h2.1⟩ e (λz=>nomatch z) h
 | @dT a cC ea =>
  cases(show u=dF a from rx)
  obtain⟨_,_,xs,_,o,es,ep,h1,h2,_⟩:=(show cM X.prog X.w H s.heap a (.dT cC) from I.av a _ ea)
  exact PySem.W.kia_one PySem.W.kitx_dict I.cu ⟨o,h1,h2.1⟩ e (λz=>nomatch z) h
 | @ins a C dx fs ea cl ha hn zj hm =>
  cases(show u=dF a from rx)
  obtain⟨mA,O,_⟩:=vP I.av ea
  obtain⟨od,J,_⟩:=O.look
  exact PySem.W.kia_one (PySem.W.kitx_own (cl.get _) cl.hd ha hn zj hm) I.cu J e (λz=>nomatch z) h
end
end L2
namespace L2
open PySem PySem.Spec PyProof.Rows
structure bF(k:Nat)(A:Around):Prop where
 hd:A.handled=none
 dp:A.depth+3*k+5<recursionLimit
 un:A.units+16*k+200<cLine
theorem bF.mono{j k:Nat}{A:Around}(r:bF k A)(h:j<=k):bF j A:=⟨r.hd,by have:=r.dp;omega,by have:=r.un;omega⟩
theorem bF.deeper{k:Nat}{A:Around}(r:bF (k+1) A)(env:Env):bF k (A.deeper env) :=
 ⟨r.hd,by have:=r.dp;show A.depth+1+3*k+5<_;omega,by have:=r.un;show A.units+3+16*k+200<_;omega⟩
theorem bF.in1{k:Nat}{A:Around}(r:bF (k+1) A):bF k A.in1 :=
 ⟨r.hd,by have:=r.dp;show A.depth+3*k+5<_;omega,by have:=r.un;show A.units+1+16*k+200<_;omega⟩
theorem Po{A:Around}{C:Addr}{us:List Value}{kw:List (Str × Value)}:(A.under (.builtin "type.__call__" ⟨.ref C::us,kw⟩)).depth=A.depth+1:=by
 first | rfl | simp[Around.under,Code.weight,Code.isCreation,Code.isGuard,Code.isCaller,Code.frames,Code.isFrame,guardIds]
theorem Pp{A:Around}{C:Addr}{us:List Value}{kw:List (Str × Value)}:(A.under (.builtin "type.__call__" ⟨.ref C::us,kw⟩)).units=A.units+1:=by
 first | rfl | simp[Around.under,Code.cUnits,Code.frames,Code.isFrame]
theorem bF.make{k:Nat}{A:Around}(r:bF (k+1) A)(C:Addr)(us:List Value)(kw:List (Str × Value)):bF k (A.under (.builtin "type.__call__" ⟨.ref C::us,kw⟩)) :=
 ⟨r.hd,by have:=r.dp;rw[Po];omega,by have:=r.un;rw[Pp];omega⟩
theorem bF.depth{k:Nat}{A:Around}(r:bF k A):A.depth<recursionLimit:=by have:=r.dp;omega
theorem bF.units{k:Nat}{A:Around}(r:bF k A):A.units+64<cLine:=by have:=r.un;omega
noncomputable def Pq:TA:=λ_ H Q=>Q [] H
noncomputable def Pr(ta:TE)(tr:TA):TA:=λσ H Q=>ta σ H λx H1=>tr σ H1 λxs H2=>Q (x::xs) H2
section
variable{X:Cx}{e:Expr}{es:List Expr}{te:TE}{t:TA}{pos:Pos}
theorem gh:PA X [] Pq:=λ_ _ _ _ H Q I h=>Calls.spliced_nil ⟨[],H,I,.nil,h⟩
theorem dM(ha:PE X e te)(hr:PA X es t)(hs:starEach (e::es) X.env=(false,eval e X.env)::starEach es X.env:=by rfl):PA X (e::es) (Pr te t):=by
 intro pos pins s σ H Q I h
 rw[hs]
 show wpAny _ _ (spliced ((false,eval e X.env)::backTo pos (starEach es X.env))) _ _ s
 refine Calls.spliced_cons (aG (ha pins s σ H _ I h) λu s1 ⟨x,H1,I1,r1,q1⟩=>?_)
 exact aG (hr pos pins s1 σ H1 _ I1 q1) λus s2 ⟨xs,H2,I2,r2,q2⟩=>⟨x::xs,H2,I2,.cons r1 r2,q2⟩
noncomputable def Pt(t:TA):TE:=λσ H Q=>t σ H λxs H1=>xs.length<=sizeLine/\∀p,H1 p=none->Q (.ref p) (upd H1 p (.tup xs))
noncomputable def Pu(t:TA):TE:=λσ H Q=>t σ H λxs H1=>xs.length<=sizeLine/\∀p,H1 p=none->Q (.ref p) (upd H1 p (.lst xs))
theorem Pw{x1}(h:PA X es t):PE X (.Tuple es x1 pos) (Pt t):=by
 intro pins s σ H Q I hq
 refine wpAny_Tuple_spliced (aG (h pos pins s σ H _ I hq) λus s1 ⟨xs,H1,I1,r,z,q⟩=>⟨by rw[<-r.length];exact z,?_⟩)
 have hf:H1 s1.heap.objs.size=none:=I1.av.fresh (bH _)
 refine⟨.ref s1.heap.objs.size,upd H1 s1.heap.objs.size (.tup xs),I1.laid (t':=s1.toks) (λb u e=>dX _ e) (bH _) ?_,rfl,q _ hf⟩
 exact⟨z,us,r,⟨_,fb _ rfl,rfl,_,rfl⟩⟩
theorem G6(h:PA X es t):PE X (.List es pos) (Pu t):=by
 intro pins s σ H Q I hq
 refine wpAny_List_spliced (aG (h pos pins s σ H _ I hq) λus s1 ⟨xs,H1,I1,r,z,q⟩=>⟨by rw[<-r.length];exact z,?_⟩)
 have hf:H1 s1.heap.objs.size=none:=I1.av.fresh (bH _)
 refine⟨.ref s1.heap.objs.size,upd H1 s1.heap.objs.size (.lst xs),I1.laid (t':=s1.toks) (λb u e=>dX _ e) (bH _) ?_,rfl,q _ hf⟩
 exact⟨z,us,0,r,fb _ rfl⟩
end
noncomputable abbrev Sp:=List V->Hp->VK->XK->Prop
noncomputable abbrev di:=List Env->Hp->Shared->XK->Value->Shared->Prop
structure eK(P:Program)(w:World)(K:PySem.W.Frag)(mg:Str->Option Value)(base:Heap)(A:Around)(outer:List Env)(s:Shared)(H:Hp):Prop where
 frames:A.frames=some outer
 mod:Mod K mg base
 bs:∀b o,base.get? b=some o->s.heap.get? b=some o/\H b=none
 fx:base.objs.size<=s.heap.objs.size
 eC:s.heap.FunFrames base outer
 fY:∀b∈cE outer,H b=none
 av:bR P w H s.heap
 bare:AllBare s.gens
noncomputable def CE(outer:List Env)(P:Program)(w:World)(H:Hp)(s:Shared)(Q:VK)(u:Value)(s':Shared):Prop :=
 ∃v H',s'.os=s.os/\AllBare s'.gens/\Un (cE outer) [] H H' s.heap s'.heap/\bR P w H' s'.heap/\RelV v u/\Q v H'
noncomputable def CR(CX:di)(outer:List Env)(P:Program)(w:World)(H:Hp)(s:Shared)(Q:VK)(E:XK)(r:Result)(s':Shared):Prop :=
 match r with
 | .ok (.ret u)=>CE outer P w H s Q u s'
 | .ok _=>False
 | .error e=>CX outer H s E e s'
structure aL(P:Program)(w:World)(K:PySem.W.Frag)(mg:Str->Option Value)(base:Heap)(CX:di)(k:Nat)(f:Addr)(fd:FuncData)(ps:List Str)(sp:Sp):Prop where
 len:∀vs H Q E,sp vs H Q E->vs.length=ps.length
 run:∀(A:Around) (outer:List Env) (s:Shared) (H:Hp) (args:Args) (us:List Value) (vs:List V) (Q:VK) (E:XK),bF k A->eK P w K mg base A outer s H->BindsTo s fd args (ps.zip us)->Vals vs us->sp vs H Q E ->
  codeAny (model P w) A (.call (.ref f) args) (CR CX outer P w H s Q E) s
theorem aL.mono{P:Program}{w:World}{K:PySem.W.Frag}{mg:Str->Option Value}{base:Heap}{CX:di}{j k:Nat}{f:Addr}{fd:FuncData}{ps:List Str}{sp:Sp}(F:aL P w K mg base CX j f fd ps sp)(h:j<=k) :
  aL P w K mg base CX k f fd ps sp:=⟨F.len,λA outer s H args us vs Q E hr=>F.run A outer s H args us vs Q E (hr.mono h)⟩
theorem aL.imp{P:Program}{w:World}{K:PySem.W.Frag}{mg:Str->Option Value}{base:Heap}{CX:di}{k:Nat}{f:Addr}{fd:FuncData}{ps:List Str}{sp G7:Sp}(F:aL P w K mg base CX k f fd ps sp)
  (h:∀vs H Q E,G7 vs H Q E->sp vs H Q E):aL P w K mg base CX k f fd ps G7 :=
 ⟨λvs H Q E q=>F.len vs H Q E (h _ _ _ _ q),λA outer s H args us vs Q E hr he hb hv hs=>F.run A outer s H args us vs Q E hr he hb hv (h _ _ _ _ hs)⟩
theorem eK.make{P:Program}{w:World}{K:PySem.W.Frag}{mg:Str->Option Value}{base:Heap}{A:Around}{outer:List Env}{s:Shared}{H:Hp}(e:eK P w K mg base A outer s H)(C:Addr)(us:List Value)(kw:List (Str × Value)) :
  eK P w K mg base (A.under (.builtin "type.__call__" ⟨.ref C::us,kw⟩)) outer s H:=⟨by first | exact e.frames | (simpa[Around.under,Code.envs,Code.isFrame,pushEnvs]using e.frames),e.mod,e.bs,e.fx,e.eC,e.fY,e.av,e.bare⟩
theorem eK.in1{P:Program}{w:World}{K:PySem.W.Frag}{mg:Str->Option Value}{base:Heap}{A:Around}{outer:List Env}{s:Shared}{H:Hp}(e:eK P w K mg base A outer s H) :
  eK P w K mg base A.in1 outer s H:=⟨e.frames,e.mod,e.bs,e.fx,e.eC,e.fY,e.av,e.bare⟩
section
variable{X:Cx}{pins:List (Addr × Obj)}{σ:St}{H:Hp}{s s':Shared}
theorem Inv.tF(I:Inv X pins σ H s):eK X.prog X.w X.K X.mg X.base X.A X.stack s H :=
 ⟨I.ok.frames,I.ok.mod,I.bs,dW I.ok.fx I.sz,I.stack,I.vD,I.av,I.bare⟩
theorem Inv.after{Q:VK}{u:Value}(I:Inv X pins σ H s)(h:CE X.stack X.prog X.w H s Q u s'):EP X pins σ Q u s':=by
 obtain⟨v,H',os,bare,un,av,r,q⟩:=h
 obtain⟨hh,g,d,t,Px⟩:=s'
 obtain rfl:Px=s.os:=os
 exact⟨v,H',I.call (h':=hh) (g':=g) (d':=d) (t':=t) (ch:=[]) un av bare (λb z=>absurd z (by simp)),r,q⟩
end
noncomputable def Py(sp:Sp)(dN:List V)(E:XK)(t:TA):TE:=λσ H Q=>t σ H λvs H1=>sp (vs++dN) H1 Q E
noncomputable def Pz(C:Addr)(m:Str)(sp:Sp)(dN:List V)(E:XK)(ta:TE)(t:TA):TE:=λσ H Q=>ta σ H λx H1=>∃a dx fs,x=.ref a/\H1 a=some (.ins C dx fs)/\fs.lookup m=none /\
 t σ H1 λvs H2=>sp (x::(vs++dN)) H2 Q E
noncomputable def PB(C:Addr)(sp:Sp)(dN:List V)(E:XK)(t:TA):TE:=λσ H Q=>t σ H λvs H1=>∀x dx,H1 x=none->H1 dx=none->dx≠x ->
 sp (.ref x::(vs++dN)) (upd (upd H1 dx (.own x)) x (.ins C dx [])) (λv H2=>v=.ak/\Q (.ref x) H2) E
noncomputable def Binds(K:PySem.W.Frag)(fd:FuncData)(ps:List Str)(ds:List Value):Prop :=
 ∀(s:Shared) (us:List Value),K.In s.heap->(us++ds).length=ps.length->BindsTo s fd ⟨us,[]⟩ (ps.zip (us++ds))
theorem Binds.all{K:PySem.W.Frag}{fd:FuncData}{ps:List Str}(h:∀us:List Value,us.length=ps.length->bindArgs fd ⟨us,[]⟩=pure (ps.zip us)):Binds K fd ps []:=λs us _ hl=>by
 rw[kL]at hl ⊢
 exact .of_eq (h us hl)
noncomputable def iZ(CX:di)(X:Cx)(E:XK):Prop:=∀(pins:List (Addr × Obj)) (σ:St) (H:Hp) (s:Shared) (e:Value) (s':Shared),Inv X pins σ H s->CX X.stack H s E e s'->X.xe e s'
section
variable{X:Cx}{CX:di}{k:Nat}{f C:Addr}{fd:FuncData}{ps:List Str}{sp:Sp}{dN:List V}{ds:List Value}{E:XK}{x m:Str}{p pos apos:Pos}{e o:Expr}{es:List Expr}{ta:TE}{t:TA}
theorem zk{pins:List (Addr × Obj)}{σ:St}{H:Hp}{s:Shared}{Q:VK}{us:List Value}{vs:List V}(F:aL X.prog X.w X.K X.mg X.base CX k f fd ps sp)(hr:bF k X.A)(hb:Binds X.K fd ps ds)(hd:Vals dN ds)(hx:iZ CX X E)
  (I:Inv X pins σ H s) (r:Vals vs us) (h:sp (vs++dN) H Q E):wpAny (model X.prog X.w) X.A (call (.ref f) us) (EP X pins σ Q) X.xe s:=by
 have r2:Vals (vs++dN) (us++ds):=r.append hd
 have hl:(us++ds).length=ps.length:=by rw[<-r2.length];exact F.len _ _ _ _ h
 refine wpAny_call (codeAny_mono (F.run X.A X.stack s H ⟨us,[]⟩ (us++ds) (vs++dN) Q E hr I.tF (hb s us I.cu hl) r2 h) λr s' hq=>?_)
 cases r with
 | error e=>exact hx pins σ H s e s' I hq
 | ok fl =>
  cases fl with
  | ret u=>exact I.after hq
  | next=>exact dA hq
  | brk=>exact dA hq
  | cont=>exact dA hq
theorem nV(F:aL X.prog X.w X.K X.mg X.base CX k f fd ps sp)(hr:bF k X.A)(hg:Gl X x)(hm:X.mg x=some (.ref f))(hk:PySem.W.keepIn X.K (.ref f)=true)(hb:Binds X.K fd ps ds)(hd:Vals dN ds)(hx:iZ CX X E)
  (ha:PA X (e::es) t) (dj:(x==("__debug__":Str))=false:=by decide) (he:starEach (e::es) X.env=(false,eval e X.env)::starEach es X.env:=by rfl) (bG:(backTo pos (starEach es X.env)).any (·.1)=false:=by rfl) :
  PE X (.Call (.Name x p) (e::es) [] pos) (Py sp dN E t):=by
 intro pins s σ H Q I h
 refine wpAny_Call_Name_kw (vF I hg hm ?_ dj)
 refine PySem.W.callWith_K (h₀:=X.base) I.ok.mod.kR hk (aG (ha pos pins s σ H _ I h) λus s1 ⟨vs,H1,I1,r,q⟩=>⟨I1.cu,?_⟩) he bG
 exact zk F hr hb hd hx I1 r q
theorem PC{pl:Sem Bool}(he:PE X o ta)(c:eE X.K C)(hm:Meth X.K C m f)(F:aL X.prog X.w X.K X.mg X.base CX k f fd ps sp)(hr:bF k X.A)(hb:Binds X.K fd ps ds)(hd:Vals dN ds)(hx:iZ CX X E)(ha:PA X (e::es) t)
  (cw:starEach (e::es) X.env=(false,eval e X.env)::starEach es X.env:=by rfl) (bG:(backTo pos (starEach es X.env)).any (·.1)=false:=by rfl)
  (ht:eval (.Call (.Attribute o m apos) (e::es) [] pos) X.env=(do
   let ov<-eval o X.env
   standAt apos.atName
   let (f,first)<-holding [ov] (getMethod ov m pl)
   callWith pos f first (backTo pos (starEach (e::es) X.env)) (backToKw pos (keywordEach [] X.env))):=by rfl) :
  PE X (.Call (.Attribute o m apos) (e::es) [] pos) (Pz C m sp dN E ta t):=by
 intro pins s σ H Q I h
 refine PySem.W.methodCall_KW (pl:=pl) (aG (he pins s σ H _ I h) λu s1 ⟨x,H1,I1,rx,a,dx,fs,ex,ea,l,q⟩=>?_) ht
 subst ex
 obtain rfl:u=dF a:=rx
 refine G5 I1 ea c hm l ?_
 refine PySem.W.callWith_K (first:=[.ref a]) (h₀:=X.base) I.ok.mod.kR hm.kp (aG (ha pos pins s1 σ H1 _ I1 q) λus s2 ⟨vs,H2,I2,r,q2⟩=>⟨I2.cu,?_⟩) cw bG
 exact zk (us:=.ref a::us) (vs:=.ref a::vs) F hr hb hd hx I2 (.cons rfl r) q2
structure Mk(K:PySem.W.Frag)(C f:Addr):Prop where
 makes:PySem.W.makesIn K C=true
 init:PySem.W.findIn K (.ref C) "__init__"=some (some (.ref f))
 fn:PySem.W.isFn K (.ref f)=true
 kp:PySem.W.keepIn K (.ref C)=true
theorem PD{pins:List (Addr × Obj)}{σ:St}{H:Hp}{s:Shared}{Q:VK}{us:List Value}{vs:List V}(M:Mk X.K C f)(F:aL X.prog X.w X.K X.mg X.base CX k f fd ps sp)(hr:bF (k+1) X.A)(hb:Binds X.K fd ps ds)(hd:Vals dN ds)
  (hx:iZ CX X E) (I:Inv X pins σ H s) (r:Vals vs us)
  (h:∀x dx,H x=none->H dx=none->dx≠x->sp (.ref x::(vs++dN)) (upd (upd H dx (.own x)) x (.ins C dx [])) (λv H2=>v=.ak/\Q (.ref x) H2) E) :
  wpAny (model X.prog X.w) X.A (call (.ref C) us) (EP X pins σ Q) X.xe s:=by
 have hq:=h (s.heap.objs.size+1) s.heap.objs.size (I.av.fresh (Nat.le_succ _)) (I.av.fresh (bH _)) (dG (sG _))
 have I2:=Inv.made (C:=C) I
 have r2:Vals (V.ref (s.heap.objs.size+1)::(vs++dN)) (dF (s.heap.objs.size+1)::(us++ds)):=.cons rfl (r.append hd)
 have hl:(dF (s.heap.objs.size+1)::us++ds).length=ps.length:=by
  have e:=r2.length
  rw[F.len _ _ _ _ hq]at e
  exact e.symm
 refine wpAny_call (Pe (f:=f) I.cu M.makes M.init (beq_iff_eq.mp M.fn) (codeAny_mono (F.run _ X.stack _ _ ⟨dF (s.heap.objs.size+1)::us,[]⟩ (dF (s.heap.objs.size+1)::(us++ds)) _ _ E (hr.make C us [])
  (I2.tF.make C us []) (hb _ (dF (s.heap.objs.size+1)::us) I2.cu hl) r2 hq) λr s' fF=>?_))
 cases r with
 | error e=>exact hx pins σ _ _ e s' I2 fF
 | ok fl =>
  cases fl with
  | ret u =>
   obtain⟨v,H',I3,rv,ev,q3⟩:=I2.after fF
   subst ev
   exact⟨rv,⟨V.ref (s.heap.objs.size+1),H',I3,rfl,q3⟩⟩
  | next=>exact dA fF
  | brk=>exact dA fF
  | cont=>exact dA fF
theorem PF(M:Mk X.K C f)(F:aL X.prog X.w X.K X.mg X.base CX k f fd ps sp)(hr:bF (k+1) X.A)(hg:Gl X x)(hm:X.mg x=some (.ref C))(hb:Binds X.K fd ps ds)(hd:Vals dN ds)(hx:iZ CX X E)
  (ha:PA X (e::es) t) (dj:(x==("__debug__":Str))=false:=by decide) (he:starEach (e::es) X.env=(false,eval e X.env)::starEach es X.env:=by rfl) (bG:(backTo pos (starEach es X.env)).any (·.1)=false:=by rfl) :
  PE X (.Call (.Name x p) (e::es) [] pos) (PB C sp dN E t):=by
 intro pins s σ H Q I h
 refine wpAny_Call_Name_kw (vF I hg hm ?_ dj)
 refine PySem.W.callWith_K (h₀:=X.base) I.ok.mod.kR M.kp (aG (ha pos pins s σ H _ I h) λus s1 ⟨vs,H1,I1,r,q⟩=>⟨I1.cu,?_⟩) he bG
 exact PD M F hr hb hd hx I1 r q
end
section
variable{X:Cx}{CX:di}{k:Nat}{f C:Addr}{fd:FuncData}{ps ks:List Str}{sp:Sp}{E:XK}{x m:Str}{p pos apos cv0:Pos}{e o:Expr}{es:List Expr}{kws:List Keyword}{te ta:TE}{t tk:TA}{nm:Option Str}
variable{g:List Value->List Value->List Value}{gV:List V->List V->List V}
end
structure bx(N P:List Str)(sc:Scope):Prop where
 kind:sc.kind=.function
 co:sc.isCoroutine=false
 gen:sc.isGenerator=false
 nd:N.Nodup
 pre:N.take P.length=P
 par:∀x∈P,sc.names.lookup x=some .local\/sc.names.lookup x=some .cell
 PH:∀y∈sc.names,y.2≠.free
theorem G8{kindOf:Str->Option NameKind}{x:Str}:∀{binds:List (Str × Value)} {m:Str->Option Value},(∀v,(x,v) ∉ binds)->bindL kindOf binds m x=m x
 | [],_,_=>rfl
 | (n,v)::r,m,h=>by
  unfold bindL
  rw[G8 λw hw=>h w (hE _ hw)]
  split
  ·have:x≠n:=by rintro rfl;exact h v vl
   simp[this]
  ·rfl
theorem G9{kindOf:Str->Option NameKind}{x:Str}:∀{binds:List (Str × Value)} {m:Str->Option Value},(∀v,(x,v) ∉ binds)->bindC kindOf binds m x=m x
 | [],_,_=>rfl
 | (n,v)::r,m,h=>by
  unfold bindC
  rw[G9 λw hw=>h w (hE _ hw)]
  split
  ·rfl
  ·have:x≠n:=by rintro rfl;exact h v vl
   simp[this]
theorem Ha{kindOf:Str->Option NameKind}{x:Str}{v:Value}:∀{P:List Str} {vs:List Value} {i:Nat} {m:Str->Option Value},P.Nodup->P[i]?=some x->vs[i]?=some v->kindOf x=some .local ->
  bindL kindOf (P.zip vs) m x=some v
 | [],_,_,_,_,h,_,_=>by simp at h
 | _::_,[],_,_,_,_,h,_=>by simp at h
 | p::P,w::vs,0,m,nd,h1,h2,hk=>by
  simp at h1 h2;subst h1;subst h2
  show bindL kindOf ((p,w)::P.zip vs) m p=_
  unfold bindL
  rw[G8 λv hv=>(gH.mp nd).1 (vo hv).1,if_pos hk]
  simp
 | p::P,w::vs,i+1,m,nd,h1,h2,hk=>by
  show bindL kindOf ((p,w)::P.zip vs) m x=_
  unfold bindL
  exact Ha (i:=i) (gH.mp nd).2 (by simpa using h1) (by simpa using h2) hk
theorem Hb{kindOf:Str->Option NameKind}{x:Str}{v:Value}:∀{P:List Str} {vs:List Value} {i:Nat} {m:Str->Option Value},P.Nodup->P[i]?=some x->vs[i]?=some v->kindOf x≠some .local ->
  bindC kindOf (P.zip vs) m x=some v
 | [],_,_,_,_,h,_,_=>by simp at h
 | _::_,[],_,_,_,_,h,_=>by simp at h
 | p::P,w::vs,0,m,nd,h1,h2,hk=>by
  simp at h1 h2;subst h1;subst h2
  show bindC kindOf ((p,w)::P.zip vs) m p=_
  unfold bindC
  rw[G9 λv hv=>(gH.mp nd).1 (vo hv).1,if_neg hk]
  simp
 | p::P,w::vs,i+1,m,nd,h1,h2,hk=>by
  show bindC kindOf ((p,w)::P.zip vs) m x=_
  unfold bindC
  exact Hb (i:=i) (gH.mp nd).2 (by simpa using h1) (by simpa using h2) hk
noncomputable def start(N:List Str)(vs:List V):St:=vs.map some++aX (N.length-vs.length) none
noncomputable def fG(CX:di)(P:Program)(w:World)(K:PySem.W.Frag)(mg:Str->Option Value)(base:Heap)(N:List Str)(qual:Str)(scope:Scope)(f:Addr)(cd:Value)(A:Around)(outer:List Env)(s:Shared)(H:Hp)(E:XK):Cx where
 prog:=P
 w:=w
 K:=K
 mg:=mg
 base:=base
 A:=A.deeper (envOfC qual scope s.heap.objs.size f cd)
 N:=N
 bL:=s
 ie:=H
 env:=envOfC qual scope s.heap.objs.size f cd
 outer:=outer
 stack:=envOfC qual scope s.heap.objs.size f cd::outer
 ex:=[]
 calm:=true
 fn:=λ_=>true
 pn:=[]
 xe:=λe s'=>wpAny (model P w) (A.deeper (envOfC qual scope s.heap.objs.size f cd)) (leaving (envOfC qual scope s.heap.objs.size f cd) e) (λ_ nW=>CX outer H s E e nW) (λe' nW=>CX outer H s E e' nW) s'
theorem Hc{sc:Scope}{n:Nat}{x:Str}(h:sc.names.lookup x=some .cell):∃c,(cellsFrom n sc.names []).lookup x=some c:=by
 have q:=PySem.W.cellsFrom_some sc.names n [] (.inl h)
 exact Nq.mp q
theorem PJ{CX:di}{P:Program}{w:World}{K:PySem.W.Frag}{mg:Str->Option Value}{base:Heap}{N ps:List Str}{qual:Str}{scope:Scope}{f:Addr}{cd:Value}{A:Around}{outer:List Env}{s s1:Shared}{H:Hp}{E:XK}{us:List Value}{vs:List V}
  (S:bx N ps scope) (hd:A.handled=none) (e0:eK P w K mg base A outer s H) (hl:vs.length=ps.length) (r:Vals vs us)
  (x:InCallC s s.heap.objs.size (bindL (envOfC qual scope s.heap.objs.size f cd).kindOf (ps.zip us) λ_=>none) (cellsFrom (s.heap.objs.size+1) scope.names []) (bindC (envOfC qual scope s.heap.objs.size f cd).kindOf (ps.zip us) λ_=>none) s1) :
  Inv (fG CX P w K mg base N qual scope f cd A outer s H E) [] (start N vs) H s1:=by
 have bG:ps.length<=N.length:=by have:=congrArg Gf S.pre;rw[List.length_take]at this;omega
 obtain⟨h1,tk,rfl,hk⟩:=x.done
 have tG:∀b:Addr,b ∉ (fG CX P w K mg base N qual scope f cd A outer s H E).ex:=λb z=>absurd (show b∈([]:List Addr) from z) (by simp)
 refine⟨⟨e0.mod,S.kind,rfl,rfl,bH _,λy z c h1 h2=>?_,λy hy=>?_,λy c _ h=>?_,λ_=>hd,Around.frames_deeper e0.frames,.inr ⟨rfl,rfl⟩,λb z=>absurd z (tG b),e0.bs,e0.fx,λb _ _=>tG b,λb z=>absurd z (tG b),e0.eC,e0.fY⟩,
  rfl,e0.bare,Un.kept hk,⟨_,x.toInCall.ns,λi y v h1 h2 h3=>?_⟩,λy c h=>⟨_,x.cell y c h⟩,e0.av.fresh (bH _),λy c h=>?_,λp hp=>absurd (show p∈([]:List (Addr × Obj)) from hp) (by simp),e0.av.kept hk,?_⟩
 ·exact name_of_addr x.apart (PySem.mem_of_lookup h1) (PySem.mem_of_lookup h2)
 ·have hy:scope.names.lookup y=some .cell\/scope.names.lookup y=some .free:=hy
  rcases hy with hy | hy
  ·exact Hc hy
  ·exact absurd rfl (S.PH _ (PySem.mem_of_lookup hy))
 ·exact vk (x.above y c (PySem.mem_of_lookup h))
 ·have hi:i<vs.length:=by
   unfold start at h2
   by_cases hi:i<vs.length
   ·exact hi
   ·rw[sH (by simpa using hi)]at h2
    rw[Gg]at h2
    split at h2<;>cases h2
  have ha:vs[i]?=some v:=by
   unfold start at h2
   rw[Gh (by simpa using hi),dB]at h2
   cases e:vs[i]? with
   | none=>rw[e]at h2;cases h2
   | some a=>rw[e]at h2;cases h2;rfl
  obtain⟨u,hu,rv⟩:=r.get ha
  have hp:ps[i]?=some y:=by
   rw[<-S.pre,List.getElem?_take_of_lt (by omega)];exact h1
  have Hd:ps.Nodup:=by rw[<-S.pre];exact S.nd.sublist (List.take_sublist _ _)
  refine⟨u,rv,?_⟩
  rcases S.par y (sI hp)with k | k
  ·exact .inl ⟨k,Ha Hd hp hu k⟩
  ·obtain⟨c,e⟩:=Hc (n:=s.heap.objs.size+1) k
   refine .inr ⟨.inl k,c,e,?_⟩
   have q:=x.cell y c e
   rw[Hb Hd hp hu (by show scope.names.lookup y≠_;rw[k];decide)]at q
   exact q
 ·exact e0.av.fresh (vk (x.above y c (PySem.mem_of_lookup h)))
 ·unfold start
  show _=N.length
  rw[pM,cB,List.length_replicate]
  omega
theorem zl{CX:di}{P:Program}{w:World}{K:PySem.W.Frag}{mg:Str->Option Value}{base:Heap}{k:Nat}{f:Addr}{name qual:Str}{params:Arguments}{body:List Stmt}{scope:Scope}{dV kV doc pm aE ct oc:Value}{an od:Option Addr}
  {i3:Array (Option Value)} {N ps:List Str} {sp:Sp} (lk:K.lookup f=some ⟨oc,od,.func (PySem.W.fnOf name qual params body scope dV kV doc pm an aE ct),i3⟩) (bI:PySem.W.codeIn K aE qual=true) (S:bx N ps scope)
  (len:∀vs H Q E,sp vs H Q E->vs.length=ps.length)
  (fe:∀(A:Around) (outer:List Env) (s:Shared) (H:Hp) (vs:List V) (Q:VK) (E:XK),bF k (A.deeper (envOfC qual scope s.heap.objs.size f aE))->sp vs H Q E ->
   ∃t,PSs (fG CX P w K mg base N qual scope f aE A outer s H E) body t/\t { nx:=λ_ H'=>Q .ak H',rt:=Q } (start N vs) H) :
  aL P w K mg base CX (k+1) f (PySem.W.fnOf name qual params body scope dV kV doc pm an aE ct) ps sp:=by
 refine⟨len,λA outer s H args us vs Q E hr e0 hb r gM=>?_⟩
 have hl:=len _ _ _ _ gM
 have KX:K.In s.heap:=e0.mod.kR.keeps λb o e=>(e0.bs b o e).1
 have lim:s.heap.NoLimit:=e0.mod.nolimit.keeps λb o e=>(e0.bs b o e).1
 have fH:∀y∈ps.zip us,scope.names.lookup y.1=some .local\/(scope.names.lookup y.1=some .cell/\((cellsFrom (s.heap.objs.size+1) scope.names []).lookup y.1).isSome=true):=λ⟨n,v⟩ hy=>by
  rcases S.par n (vo hy).1 with q | q
  ·exact .inl q
  ·exact .inr ⟨q,PySem.W.cellsFrom_some _ _ _ (.inl q)⟩
 refine codeAny_call_function hr.depth (KX _ _ lk) rfl S.co S.gen rfl (PySem.W.codeRec_of KX bI) (hb _ _ _ _ ?_)
 refine wpAny_newFunctionEnv_cells S.kind fH λenv he s1 x=>?_
 subst he
 refine⟨lim.keeps x.toInCall.keep,codeAny_func ?_⟩
 obtain⟨t,ht,hq⟩:=fe A outer s H vs Q E (hr.deeper _) gM
 have I:Inv (fG CX P w K mg base N qual scope f aE A outer s H E) [] (start N vs) H s1:=PJ S hr.hd e0 hl r x
 refine wpAny_mono (ht [] s1 (start N vs) H _ I hq) (λfl s' hs=>?_) λe s' hs=>hs
 have fin:∀{ai:St} {H':Hp} {v:V} {u:Value},Inv (fG CX P w K mg base N qual scope f aE A outer s H E) [] ai H' s'->RelV v u->Q v H'->CE outer P w H s Q u s' :=
  λ{ai H' v u} J rv q=>⟨v,H',J.os,J.bare,J.base,J.av,rv,q⟩
 cases fl with
 | ret u =>
  obtain⟨v,ai,H',J,rv,q⟩:=hs
  exact fin J rv q
 | next =>
  obtain⟨ai,H',J,q⟩:=hs
  exact fin (v:=V.ak) (u:=nq) J rfl q
 | brk =>
  obtain⟨_,_,_,q⟩:=hs
  exact dA q
 | cont =>
  obtain⟨_,_,_,q⟩:=hs
  exact dA q
end L2
namespace L2
open PySem PySem.Spec PyProof.Rows
section
variable{X:Cx}{x:Str}{p pos:Pos}{e:Expr}{es:List Expr}{t:TA}{id T:String}{r:List V->Hp->VK->Prop}
noncomputable def zm(r:List V->Hp->VK->Prop)(t:TA):TE:=λσ H Q=>t σ H λvs H1=>r vs H1 Q
theorem He(hc:fE X (.builtin id) r)(hg:Gl X x)(hm:X.mg x=none)(hv:bootBuiltins x=some (.builtin id))(ha:PA X (e::es) t)(hn:x≠"__name__":=by decide)(dj:(x==("__debug__":Str))=false:=by decide)
  (he:starEach (e::es) X.env=(false,eval e X.env)::starEach es X.env:=by rfl) (bG:(backTo pos (starEach es X.env)).any (·.1)=false:=by rfl):PE X (.Call (.Name x p) (e::es) [] pos) (zm r t):=by
 intro pins s σ H Q I h
 refine wpAny_Call_Name_kw (nM I hg hm hv ?_ hn dj)
 exact PyProof.Rows.callWith_builtin1 (aG (ha pos pins s σ H _ I h) λus s1 ⟨vs,H1,I1,r1,q1⟩=>hc pins s1 σ H1 vs us Q I1 r1 q1) he bG
theorem PK(hc:fE X (.type T) r)(hg:Gl X x)(hm:X.mg x=none)(hv:bootBuiltins x=some (.type T))(ha:PA X (e::es) t)(hn:x≠"__name__":=by decide)(dj:(x==("__debug__":Str))=false:=by decide)
  (he:starEach (e::es) X.env=(false,eval e X.env)::starEach es X.env:=by rfl) (bG:(backTo pos (starEach es X.env)).any (·.1)=false:=by rfl):PE X (.Call (.Name x p) (e::es) [] pos) (zm r t):=by
 intro pins s σ H Q I h
 refine wpAny_Call_Name_kw (nM I hg hm hv ?_ hn dj)
 exact vn (aG (ha pos pins s σ H _ I h) λus s1 ⟨vs,H1,I1,r1,q1⟩=>hc pins s1 σ H1 vs us Q I1 r1 q1) he bG
end
end L2
namespace HT
open PySem PyProof.Rows
section
open PySem.SeqAt
open PySem.AutoSeq1 (wpAny_loadPart')
open PySem.MeetsSeq PySem.MeetsSeq2 PySem.MeetsSeq3
end
section
variable{prog:Program}{w:World}{A:Around}{E:Value->Shared->Prop}{s:Shared}
end
end HT
namespace L2
open PySem PySem.Spec PyProof.Rows
noncomputable abbrev TO:=St->Hp->(Option Int->Hp->Prop)->Prop
noncomputable def PO(X:Cx)(e:Option Expr)(t:TO):Prop :=
 ∀(pins:List (Addr × Obj)) (s:Shared) (σ:St) (H:Hp) (Q:Option Int->Hp->Prop),Inv X pins σ H s->t σ H Q ->
  wpAny (model X.prog X.w) X.A (evalPart e X.env) (λu s'=>∃o H',Inv X pins σ H' s'/\IsPart u o/\Q o H') X.xe s
theorem PL{ns:List Int}:∀{us:List Value},Vals (ns.map V.int) us->IntsAre us ns:=by
 induction ns with
 | nil=>intro us r;rw[iO]at r;cases r;exact .nil
 | cons n ns ih =>
  intro us r
  rw[cV]at r
  cases r with
  | cons r1 r2 =>
   obtain⟨t,e⟩:=r1
   subst e
   exact .cons n t (ih r2)
section
variable{X:Cx}{e:Expr}{te:TE}{lo hi:Option Expr}{tl th:TO}{pos p2:Pos}
end
end L2
namespace L2
open PySem PySem.Spec PyProof.Rows
noncomputable def eR(n:Nat)(i:Int):Option Nat:=if 0<=i then(if i<n then some i.toNat else none)else if -(n:Int)<=i then some (i+n).toNat else none
noncomputable def da{α:Type}(xs:List α)(i:Int):Option α:=(eR xs.length i).bind λj=>xs[j]?
theorem Hf{n:Nat}{i:Int}{j:Nat}(h:eR n i=some j):seqIndex? i n=some j/\j<n/\-(n:Int)<=i/\i<n:=by
 unfold eR at h
 by_cases h0:0<=i
 ·rw[if_pos h0]at h
  by_cases h1:i<n
  ·rw[if_pos h1]at h
   have e:i.toNat=j:=cP h
   exact⟨by rw[seqIndex_of h0 h1,e],by omega,by omega,h1⟩
  ·rw[if_neg h1]at h;cases h
 ·rw[if_neg h0]at h
  by_cases h1:-(n:Int)<=i
  ·rw[if_pos h1]at h
   have e:(i+n).toNat=j:=cP h
   exact⟨by rw[seqIndex_neg (by omega) h1,e],by omega,h1,by omega⟩
  ·rw[if_neg h1]at h;cases h
theorem kY{α:Type}{xs:List α}{i:Int}{v:α}(h:da xs i=some v):∃j,seqIndex? i xs.length=some j/\xs[j]?=some v/\j<xs.length/\-(xs.length:Int)<=i/\i<xs.length:=by
 unfold da at h
 cases e:eR xs.length i with
 | none=>rw[e]at h;cases h
 | some j =>
  rw[e]at h
  obtain⟨h1,h2,h3,h4⟩:=Hf e
  exact⟨j,h1,h,h2,h3,h4⟩
theorem zo{α:Type}{xs:List α}{j:Nat}{v:α}(h:xs[j]?=some v):da xs (j:Int)=some v:=by
 have hj:j<xs.length:=(gG.mp h).1
 have e:eR xs.length (j:Int)=some j:=by
  unfold eR
  rw[if_pos (by omega),if_pos (by omega)];simp
 unfold da;rw[e];exact h
noncomputable def Hg(b:Expr):Prop:=∀o i,subscripted b false o i=operate [o,i] (getItem o i)
noncomputable def jB(X:Cx)(r:R2):Prop :=
 ∀(value slice:Expr) (pins:List (Addr × Obj)) (s:Shared) (σ:St) (H:Hp) (x y:V) (v u:Value) (Q:VK),Inv X pins σ H s->RelV x v->RelV y u->r x y H Q ->
  subscripted slice false v u=operate [v,u] (getItem v u)->wpAny (model X.prog X.w) X.A (subscriptTail value slice v u) (EP X pins σ Q) X.xe s
noncomputable def kZ(X:Cx)(id:String)(r:V->List V->Hp->VK->Prop):Prop :=
 ∀(pins:List (Addr × Obj)) (s:Shared) (σ:St) (H:Hp) (x:V) (xs:List V) (v:Value) (us:List Value) (Q:VK),Inv X pins σ H s->RelV x v->Vals xs us->r x xs H Q ->
  wpAny (model X.prog X.w) X.A (call (.builtin id) (v::us)) (EP X pins σ Q) X.xe s
section
variable{X:Cx}{a b:Expr}{ta tb:TE}{pos:Pos}
theorem jB.or{r r':R2}(h:jB X r)(h':jB X r'):jB X (λx y H Q=>r x y H Q\/r' x y H Q):=by
 intro value slice pins s σ H x y v u Q I rx ry q hs
 rcases q with q | q
 ·exact h value slice pins s σ H x y v u Q I rx ry q hs
 ·exact h' value slice pins s σ H x y v u Q I rx ry q hs
theorem kZ.or{id:String}{r r':V->List V->Hp->VK->Prop}(h:kZ X id r)(h':kZ X id r'):kZ X id (λx xs H Q=>r x xs H Q\/r' x xs H Q):=by
 intro pins s σ H x xs v us Q I rx rs q
 rcases q with q | q
 ·exact h pins s σ H x xs v us Q I rx rs q
 ·exact h' pins s σ H x xs v us Q I rx rs q
theorem Hh{r:R2}(hr:jB X r)(ha:PE X a ta)(hb:PE X b tb)(hs:Hg b):PE X (.Subscript a b pos) (tD r ta tb):=by
 intro pins s σ H Q I h
 exact Subscript_ (ze ha hb I h λv u s2 x y H2 I2 rx ry q=>hr a b pins s2 σ H2 x y v u Q I2 rx ry q (hs _ _))
noncomputable def Hi(K:PySem.W.Frag):R2:=λx y H Q=>∃p xs i v,x=.ref p/\y=.int i/\aM K H p xs/\da xs i=some v/\Q v H
noncomputable def Hj(K:PySem.W.Frag):R2:=λx y H Q=>∃p xs i v,x=.ref p/\y=.int i/\eD K H p xs/\da xs i=some v/\Q v H
noncomputable def Hk:R2:=λx y H Q=>∃z i c,x=.str z/\y=.int i/\z.length<=sizeLine/\da z.cps.toList i=some c/\Q (.str ⟨#[c]⟩) H
theorem Hl:jB X (Hi X.K):=by
 intro value slice pins s σ H x y v u Q I rx ry h hs
 obtain⟨p,xs,i,z,rfl,rfl,hq,he,q⟩:=h
 cases rx
 obtain⟨t,rfl⟩:=ry
 obtain⟨its,r,pl,hz⟩:=I.list hq
 obtain⟨j,h1,h2,h3,h4,h5⟩:=kY he
 obtain⟨w,ew,aN⟩:=r.get h2
 have hl:=r.length
 have hn:=qA
 have fin:EP X pins σ Q w s:=⟨z,H,I,aN,q⟩
 by_cases h0:0<=i
 ·have hj:i.toNat=j:=by
   rw[seqIndex_of h0 h5]at h1
   exact cP h1
  exact item_listR pl.isList h0 (by omega) (by rw[hj];simpa using ew) fin hs
 ·have hj:(i+(its.toArray.size:Int)).toNat=j:=by
   rw[seqIndex_neg (by omega) h4]at h1
   rw[cW,<- hl]
   exact cP h1
  exact subscriptTail_builtinR (x:=w) pl.isList.typeIs slot_list_getitem.lookup
   (wpAny_getItem_list_neg (Q:=λr s'=>r=w/\EP X pins σ Q r s') pl.isList (by omega) (by rw[cW]<;>omega) (by omega) (by rw[hj];simpa using ew) ⟨rfl,fin⟩) hs
theorem PM:jB X (Hj X.K):=by
 intro value slice pins s σ H x y v u Q I rx ry h hs
 obtain⟨p,xs,i,z,rfl,rfl,hq,he,q⟩:=h
 cases rx
 obtain⟨t,rfl⟩:=ry
 obtain⟨its,r,pl,hz⟩:=I.tuple hq
 obtain⟨j,h1,h2,h3,h4,h5⟩:=kY he
 obtain⟨w,ew,aN⟩:=r.get h2
 have hl:=r.length
 have hn:=qA
 have fin:EP X pins σ Q w s:=⟨z,H,I,aN,q⟩
 exact subscriptTail_builtinR (x:=w) pl.typeIs slot_tuple_getitem.lookup
  (getItem_tuple (j:=j) (Q:=λr s'=>r=w/\EP X pins σ Q r s') pl (by omega) (by omega) (by rw[cW,<- hl];exact h1) (by simpa using ew) ⟨rfl,fin⟩) hs
theorem PN:jB X Hk:=by
 intro value slice pins s σ H x y v u Q I rx ry h hs
 obtain⟨z,i,c,rfl,rfl,hz,he,q⟩:=h
 obtain⟨t,rfl⟩:=rx
 obtain⟨t',rfl⟩:=ry
 obtain⟨j,h1,h2,h3,h4,h5⟩:=kY he
 have hl:z.cps.toList.length=z.length:=by simp[Str.length]
 rw[hl]at h1 h4 h5
 have hn:=qA
 exact tail_any (typeIs_str s z t) slot_str_getitem.lookup (getItem_str (c:=c) (by
  have e1:decide (i < -(2 ^ 63:Int))=false:=decide_eq_false (by omega)
  have e2:decide (i ≥ 2 ^ 63)=false:=decide_eq_false (by omega)
  rw[e1,e2,ny]) (by rw[h1];simpa using h2) ⟨.str ⟨#[c]⟩,H,I.tok _,⟨_,rfl⟩,q⟩) hs
noncomputable def PQ(K:PySem.W.Frag):R2:=λx y H Q=>Hi K x y H Q\/Hj K x y H Q\/Hk x y H Q
theorem PR:jB X (PQ X.K):=Hl.or (PM.or PN)
theorem PU(its:List Value)(n j:Nat)(u:Value):vp (·.setIfInBounds j u) { cls:=.type "list",data:=.seq its.toArray n }={ cls:=.type "list",data:=.seq (its.set j u).toArray n }:=by
 simp[vp]
theorem Inv.lst{pins:List (Addr × Obj)}{σ:St}{H:Hp}{s:Shared}{p:Addr}{xs:List V}(I:Inv X pins σ H s)(h:H p=some (.lst xs)) :
  ∃(its:List Value) (n:Nat),Vals xs its/\s.heap.get? p=some { cls:=.type "list",data:=.seq its.toArray n }/\xs.length<=sizeLine:=by
 obtain⟨z,its,n,r,e⟩:=I.av p _ h
 exact⟨its,n,r,e,z⟩
theorem Inv.PV{pins:List (Addr × Obj)}{σ:St}{H:Hp}{s:Shared}{p:Addr}{xs ys:List V}{its its':List Value}{n n':Nat}{f:Obj->Obj}(I:Inv X pins σ H s)(h:H p=some (.lst xs))
  (ho:s.heap.get? p=some { cls:=.type "list",data:=.seq its.toArray n }) (hf:f { cls:=.type "list",data:=.seq its.toArray n }={ cls:=.type "list",data:=.seq its'.toArray n' }) (r:Vals ys its') (hz:ys.length<=sizeLine) (t:Nat) :
  Inv X pins σ (upd H p (.lst ys)) { s with heap:=s.heap.update p f,toks:=t }:=by
 have e:(s.heap.update p f).get? p=some { cls:=.type "list",data:=.seq its'.toArray n' }:=by
  rw[yn f ho (by rw[hf]<;>rfl),hf]
 refine I.write (x:=p) (e:=p) (by rw[h];trivial) (.inl rfl) (λb u hb q=>(nz _ _ (dz hb)).trans q) ⟨_,e⟩ ?_
 exact⟨hz,its',n',r,e⟩
noncomputable def PX:V->V->V->Hp->(Hp->Prop)->Prop:=λo i v H Q=>∃p xs k j,o=.ref p/\i=.int k/\H p=some (.lst xs)/\eR xs.length k=some j/\Q (upd H p (.lst (xs.set j v)))
theorem Hm:GQ X PX:=by
 intro pins s σ H o i v ov iv u Q I ro ri rv h
 obtain⟨p,xs,k,j,rfl,rfl,hp,hj,q⟩:=h
 cases ro
 obtain⟨t,rfl⟩:=ri
 obtain⟨its,n,r,ho,hz⟩:=I.lst hp
 obtain⟨h1,h2,h3,h4⟩:=Hf hj
 have hl:=r.length
 have hn:=qA
 have I':Inv X pins σ (upd H p (.lst (xs.set j v))) { s with heap:=s.heap.update p (vp (·.setIfInBounds j u)) } :=
  I.PV hp ho (PU its n j u) (r.set rv j) (by rw[List.length_set];exact hz) s.toks
 by_cases h0:0<=k
 ·have hk:k.toNat=j:=by
   rw[seqIndex_of h0 h4]at h1
   exact cP h1
  exact PySem.W.ki_setAt ho h0 (by omega) (by rw[cW,<- hl];exact h4) (by rw[hk];exact⟨_,I',q⟩)
 ·have hk:(k+(its.toArray.size:Int)).toNat=j:=by
   rw[seqIndex_neg (by omega) h3]at h1
   rw[cW,<- hl]
   exact cP h1
  exact PySem.W.ki_setBack ho (by omega) (by rw[cW,<- hl];exact h3) (by omega) (by rw[hk];exact⟨_,I',q⟩)
theorem PY:fE X (.builtin "len") (λxs H Q=>∃p ys,xs=[.ref p]/\(aM X.K H p ys\/eD X.K H p ys)/\Q (.int ys.length) H):=by
 intro pins s σ H xs us Q I r h
 obtain⟨p,ys,rfl,hq,q⟩:=h
 obtain⟨u,rfl,rx⟩:=zg r
 cases rx
 have hn:=qA
 rcases hq with hq | hq
 ·obtain⟨its,r',pl,hz⟩:=I.list hq
  have hlen:=r'.length
  exact Calls.call_len_list pl.isList (by simp only[cW]<;>omega) ⟨.int ys.length,H,I.tok _,⟨s.toks+1,by rw[cW,hlen]⟩,q⟩
 ·obtain⟨its,r',pl,hz⟩:=I.tuple hq
  have hlen:=r'.length
  exact len_tuple pl (by simp only[cW]<;>omega) ⟨.int ys.length,H,I.tok _,⟨s.toks+1,by rw[cW,hlen]⟩,q⟩
theorem PZ:fE X (.builtin "len") (λxs H Q=>∃z,xs=[.str z]/\z.length<=sizeLine/\Q (.int z.length) H):=by
 intro pins s σ H xs us Q I r h
 obtain⟨z,rfl,hz,q⟩:=h
 obtain⟨u,rfl,t,rfl⟩:=zg r
 have hn:=qA
 exact len_str (by omega) ⟨.int z.length,H,I.tok _,⟨_,rfl⟩,q⟩
theorem fE.or{f:Value}{r r':List V->Hp->VK->Prop}(h:fE X f r)(h':fE X f r'):fE X f (λxs H Q=>r xs H Q\/r' xs H Q):=by
 intro pins s σ H xs us Q I rs q
 rcases q with q | q
 ·exact h pins s σ H xs us Q I rs q
 ·exact h' pins s σ H xs us Q I rs q
theorem P0:fE X (.type "list") (λxs H Q=>∃p ys,xs=[.ref p]/\(aM X.K H p ys\/eD X.K H p ys)/\∀l,H l=none->Q (.ref l) (upd H l (.lst ys))):=by
 intro pins s σ H xs us Q I r h
 obtain⟨p,ys,rfl,hq,q⟩:=h
 obtain⟨u,rfl,rx⟩:=zg r
 cases rx
 have fin:∀(its:List Value),Vals ys its->ys.length<=sizeLine->∀(h':Heap) (c':Nat),(∀b o',s.heap.get? b=some o'->h'.get? b=some o') ->
   h'.get? s.heap.objs.size=some { cls:=.type "list",dict:=none,data:=.seq its.toArray c',slots:=#[] }->EP X pins σ Q (.ref s.heap.objs.size) { s with heap:=h' }:=λits r' hz h' c' kp e =>
  ⟨.ref s.heap.objs.size,_,I.laid (t':=s.toks) kp (bH _) (show cM X.prog X.w _ h' _ (.lst ys) from⟨hz,its,c',r',e⟩),rfl,q _ (I.av.fresh (bH _))⟩
 rcases hq with hq | hq
 ·obtain⟨its,r',pl,hz⟩:=I.list hq
  have hlen:=r'.length
  obtain⟨o,ho,hc,n,hd⟩:=pl.isList
  exact call_list_seq p (.inl rfl) ho hc hd (λh' c' kp e=>fin its r' hz h' c' kp e) (by simp only[cW]<;>omega)
 ·obtain⟨its,r',pl,hz⟩:=I.tuple hq
  have hlen:=r'.length
  obtain⟨o,ho,hc,n,hd⟩:=pl
  exact call_list_seq p (.inr rfl) ho hc hd (λh' c' kp e=>fin its r' hz h' c' kp e) (by simp only[cW]<;>omega)
noncomputable def zr(K:PySem.W.Frag)(T:String)(x:V)(H:Hp):Prop:=match x with
 | .str _=>T="str"
 | .int _=>T="int"
 | .ref p=>(T="list"/\∃xs,aM K H p xs)\/(T="tuple"/\∃o,K.lookup p=some o/\o.cls=.type "tuple"/\o.dict=none) \/
   (T="dict"/\((∃cC,H p=some (.dK cC))\/∃cC,H p=some (.dT cC)))\/(T="set"/\∃S n,H p=some (.set S n))
 | _=>False
theorem Ho{pins:List (Addr × Obj)}{σ:St}{H:Hp}{s:Shared}{T:String}{x:V}{v:Value}(I:Inv X pins σ H s)(r:RelV x v)(ty:zr X.K T x H) :
  s.TypeIs v T/\∀a,v=.ref a->∃ob,s.heap.get? a=some ob/\ob.dict=none:=by
 cases x with
 | str z =>
  obtain⟨t,rfl⟩:=r
  cases(show T="str" from ty)
  exact⟨typeIs_str s z t,λ_ e=>nomatch e⟩
 | int i =>
  obtain⟨t,rfl⟩:=r
  cases(show T="int" from ty)
  exact⟨typeIs_int s i t,λ_ e=>nomatch e⟩
 | ref p =>
  cases r
  rcases ty with⟨rfl,xs,hq⟩ | ⟨rfl,o,hk,hc,hd⟩ | ⟨rfl,hk⟩ | ⟨rfl,S,n,hk⟩
  ·obtain⟨its,_,pl,_⟩:=I.list hq
   refine⟨pl.isList.typeIs,λa e=>?_⟩
   cases e
   obtain⟨o,n,e,c,hd,_⟩:=pl
   exact⟨o,e,hd⟩
  ·refine⟨⟨o,I.cu p o hk,hc⟩,λa e=>?_⟩
   cases e
   exact⟨o,I.cu _ o hk,hd⟩
  ·have z:∃o,s.heap.get? p=some o/\o.ExactDict:=by
    rcases hk with⟨cC,hk⟩ | ⟨cC,hk⟩
    ·obtain⟨_,_,_,_,o,_,_,e,ex,_⟩:=I.av p _ hk
     exact⟨o,e,ex⟩
    ·obtain⟨_,_,_,_,o,_,_,e,ex,_⟩:=I.av p _ hk
     exact⟨o,e,ex⟩
   obtain⟨o,e,ex⟩:=z
   refine⟨⟨o,e,ex.1⟩,λa e2=>?_⟩
   cases e2
   exact⟨o,e,ex.2.1⟩
  ·obtain⟨o,_,_,_,e,ex,_⟩:=I.av p _ hk
   refine⟨⟨o,e,ex.1⟩,λa e2=>?_⟩
   cases e2
   exact⟨o,e,ex.2.1⟩
 | _=>exact dA ty
noncomputable def Hq(K:PySem.W.Frag)(T:String)(r:V->List V->Hp->VK->Prop)(to:TE):TE:=λσ H Q=>to σ H λx H1=>zr K T x H1/\r x [] H1 Q
noncomputable def P1(K:PySem.W.Frag)(T:String)(r:V->List V->Hp->VK->Prop)(to:TE)(t:TA):TE:=λσ H Q=>to σ H λx H1=>zr K T x H1/\t σ H1 λxs H2=>r x xs H2 Q
variable{o e:Expr}{es:List Expr}{to:TE}{t:TA}{name:Str}{apos bh:Pos}{T id:String}{r:V->List V->Hp->VK->Prop}
theorem Hr(pa:PlainAttrs T)(slot:Slot T name id)(zt:typeOf (.builtin id)=pure (.type "method_descriptor"))(hm:kZ X id r)(ho:PE X o to)
  (gi:attributeBase o name X.env (eval o X.env)=eval o X.env:=by rfl) (gj:(apos.endLine==bh.line)=true:=by rfl):PE X (.Call (.Attribute o name apos) [] [] bh) (Hq X.K T r to):=by
 intro pins s σ H Q I h
 refine wpAny_Call_method0_late gi gj (aG (ho pins s σ H _ I h) λv s1 ⟨x,H1,I1,r1,ty,q1⟩=>?_)
 obtain⟨h1,h2⟩:=Ho I1 r1 ty
 exact⟨T,id,pa,slot,zt,h1,h2,Calls.callWith_builtin rfl (PySem.evalArgs_none (hm pins s1 σ H1 x [] v [] Q I1 r1 .nil q1))⟩
theorem Hs(pa:PlainAttrs T)(slot:Slot T name id)(zt:typeOf (.builtin id)=pure (.type "method_descriptor"))(hm:kZ X id r)(ho:PE X o to)(ha:PA X (e::es) t)
  (gi:attributeBase o name X.env (eval o X.env)=eval o X.env:=by rfl)
  (tH:((backTo bh (starEach (e::es) X.env)).all (λx=>!x.1)&&(backToKw bh (keywordEach [] X.env)).all (λx=>x.1.isSome)
   && decide ((e::es).length+([]:List Keyword).length+(if([]:List Keyword).isEmpty then 0 else 1)<30))=true:=by rfl)
  (gj:(apos.endLine==bh.line)=true:=by rfl) (hs:starEach (e::es) X.env=(false,eval e X.env)::starEach es X.env:=by rfl) (tI:(backTo bh (starEach es X.env)).any (·.1)=false:=by rfl) :
  PE X (.Call (.Attribute o name apos) (e::es) [] bh) (P1 X.K T r to t):=by
 intro pins s σ H Q I h
 refine wpAny_Call_method_late gi tH gj rfl (aG (ho pins s σ H _ I h) λv s1 ⟨x,H1,I1,r1,ty,q1⟩=>?_)
 obtain⟨h1,h2⟩:=Ho I1 r1 ty
 refine⟨T,id,pa,slot,zt,h1,h2,?_⟩
 have hA:=ha bh pins s1 σ H1 _ I1 q1
 rw[hs]at hA ⊢
 refine Calls.callWith_builtin (by show(false||(backTo bh (starEach es X.env)).any (·.1))=false;rw[tI]<;>rfl) (Calls.evalArgs_plain ?_)
 exact aG hA λus s2 ⟨vs,H2,I2,r2,q2⟩=>hm pins s2 σ H2 x vs v us Q I2 r1 r2 q2
/- xs.append(e),list.index on a cv2 tuple .. are kZ facts of 06m -/
end
end L2
namespace L2
open PySem PySem.Spec PyProof.Rows
noncomputable def Ht(X:Cx)(id:String)(r:V->List V->Hp->VK->Prop):Prop :=
 ∀(pins:List (Addr × Obj)) (s:Shared) (σ:St) (H:Hp) (x:V) (xs:List V) (v:Value) (us:List Value) (Q:VK),Inv X pins σ H s->RelV x v->Vals xs us->r x xs H Q ->
  wpAny (model X.prog X.w) X.A (call (.builtin id) (v::us)) (EP X pins σ Q) X.xe s
theorem Vals.one:∀{x:V} {us:List Value},Vals [x] us->∃u,us=[u]/\RelV x u
 | _,_,.cons r .nil=>⟨_,rfl,r⟩
theorem Vals.two:∀{x y:V} {us:List Value},Vals [x,y] us->∃u v,us=[u,v]/\RelV x u/\RelV y v
 | _,_,_,.cons r (.cons q .nil)=>⟨_,_,rfl,r,q⟩
theorem Vals.zero:∀{us:List Value},Vals [] us->us=[]
 | _,.nil=>rfl
theorem Vals.eraseIdx:∀{xs:List V} {us:List Value} (i:Nat),Vals xs us->Vals (xs.eraseIdx i) (us.eraseIdx i)
 | _,_,_,.nil=>.nil
 | _,_,0,.cons _ t=>t
 | _,_,i+1,.cons r t=>.cons r (Vals.eraseIdx i t)
theorem Vals.reverse{xs:List V}{us:List Value}(h:Vals xs us):Vals xs.reverse us.reverse:=by
 induction h with
 | nil=>exact .nil
 | cons r t ih=>rw[List.reverse_cons,List.reverse_cons];exact Vals.append ih (.cons r .nil)
theorem Vals.rep{xs:List V}{us:List Value}(h:Vals xs us):∀k:Nat,Vals (aX k xs).flatten (aX k us).flatten
 | 0=>.nil
 | k+1=>by
  rw[nB,nB,pO,pO]
  exact Vals.append h (Vals.rep h k)
theorem Hu(its:List Value):∀(k:Nat) (acc:List Value),
  List.foldl (λx1 x2=>x1++x2) acc.toArray (aX k its.toArray)=(acc++(aX k its).flatten).toArray
 | 0,acc=>by simp
 | k+1,acc=>by
  have e:acc.toArray++its.toArray=(acc++its).toArray:=by simp
  have e2:(acc++its)++(aX k its).flatten=acc++(aX (k+1) its).flatten:=by
   rw[nB,pO,cn]
  rw[<-e2,<- Hu its k (acc++its),<- e,nB,List.foldl_cons]
section
variable{X:Cx}{pins:List (Addr × Obj)}{σ:St}{H:Hp}{s:Shared}{l b:Addr}{xs ys zs:List V}
theorem Inv.Hv{its its':List Value}{n:Nat}{f:Array Value->Array Value}{t':Nat}(I:Inv X pins σ H s)(hH:H l=some (.lst xs))
  (e:s.heap.get? l=some { cls:=.type "list",data:=.seq its.toArray n }) (hf:f its.toArray=its'.toArray) (hv:Vals ys its') (hz:ys.length<=sizeLine) :
  Inv X pins σ (upd H l (.lst ys)) { s with heap:=s.heap.update l (vp f),toks:=t' }:=by
 have q:=PySem.IsL.update e f
 rw[hf]at q
 refine I.write (x:=l) (e:=l) (by rw[hH];exact trivial) (.inl rfl) (λb' u hb hu=>(nz s.heap (vp f) (dz hb)).trans hu) ⟨_,q⟩ ?_
 exact⟨hz,its',_,hv,q⟩
theorem Inv.Hw{its:List Value}{t':Nat}(I:Inv X pins σ H s)(hv:Vals ys its)(hz:ys.length<=sizeLine) :
  Inv X pins σ (upd H s.heap.objs.size (.lst ys)) { s with heap:=s.heap.push { cls:=.type "list",data:=.seq its.toArray },toks:=t' } :=
 I.laid (λ_ _ q=>dX _ q) (bH _) ⟨hz,its,0,hv,fb _ rfl⟩
theorem Inv.fresh(I:Inv X pins σ H s):H s.heap.objs.size=none:=I.av.fresh (bH _)
theorem Inv.tJ(I:Inv X pins σ H s)(hH:H l=some (.lst xs)):xs.length<=sizeLine/\∃(its:List Value) (n:Nat),Vals xs its/\xs.length=its.length/\s.heap.get? l=some { cls:=.type "list",data:=.seq its.toArray n }:=by
 obtain⟨z,its,n,r,e⟩:=I.av l _ hH
 exact⟨z,its,n,r,r.length,e⟩
theorem P2{n:Nat}(h:n<=sizeLine):Gi n=false:=by
 unfold Gi
 exact decide_eq_false (by omega)
end
section
variable{X:Cx}
noncomputable def P4:V->List V->Hp->VK->Prop:=λx vs H Q=>∃l xs y,x=.ref l/\vs=[y]/\H l=some (.lst xs)/\xs.length<sizeLine/\Q .ak (upd H l (.lst (xs++[y])))
theorem zu:Ht X "list.append" P4:=by
 intro pins s σ H x vs v us Q I rx rv h
 obtain⟨l,xs,y,rfl,rfl,hH,hz,q⟩:=h
 cases rx
 obtain⟨u,rfl,ru⟩:=rv.one
 obtain⟨z,its,n,r,hl,e⟩:=I.tJ hH
 refine call_meets F.slot_list_append ⟨_,e,rfl⟩ F.entry_list_append (F.args_list_append_2 _ _) (PySem.list_append l its.toArray n u (by rw[cW];omega)) ⟨e,?_⟩
 refine⟨.ak,_,I.Hv (its':=its++[u]) hH e (by simp) (r.append (.cons ru .nil)) ?_,rfl,q⟩
 rw[pM,Nr]
 omega
noncomputable def P5:V->List V->Hp->VK->Prop:=λx vs H Q=>∃l xs,x=.ref l/\vs=[]/\H l=some (.lst xs)/\Q .ak (upd H l (.lst []))
theorem P6:Ht X "list.clear" P5:=by
 intro pins s σ H x vs v us Q I rx rv h
 obtain⟨l,xs,rfl,rfl,hH,q⟩:=h
 cases rx
 have zw:=rv.zero
 subst zw
 obtain⟨z,its,n,r,hl,e⟩:=I.tJ hH
 refine call_meets F.slot_list_clear ⟨_,e,rfl⟩ F.entry_list_clear (F.args_list_clear_1 _) (AutoSeq1.list_clear_list_0 l its.toArray n (by rw[cW];omega)) ⟨e,?_⟩
 exact⟨.ak,_,I.Hv (its':=[]) (ys:=[]) hH e rfl .nil (ju _),rfl,q⟩
noncomputable def P7:R2:=λx y H Q=>∃l b xs zs,x=.ref l/\y=.ref b/\H l=some (.lst xs)/\H b=some (.lst zs)/\xs.length+zs.length<=sizeLine/\∀p,H p=none->Q (.ref p) (upd H p (.lst (xs++zs)))
theorem P8:bW X (binaryOp .Add) P7:=by
 intro pins s σ H x y v u Q I rx ry h
 obtain⟨l,b,xs,zs,rfl,rfl,hH,hB,hz,q⟩:=h
 cases rx
 cases ry
 obtain⟨z,its,n,r,hl,e⟩:=I.tJ hH
 obtain⟨z2,Hx,n2,r2,vR,e2⟩:=I.tJ hB
 refine PySem.P.add_list e e2 ?_ (by rw[cW,cW];omega)
 have ea:its.toArray++Hx.toArray=(its++Hx).toArray:=by simp
 rw[ea]
 exact⟨.ref _,_,I.Hw (t':=s.toks) (r.append r2) (by rw[pM];omega),rfl,q _ I.fresh⟩
noncomputable def P9:R2:=λx y H Q=>∃l k xs,x=.ref l/\y=.int k/\H l=some (.lst xs)/\-(2 ^ 63)<=k/\k<2 ^ 63/\xs.length*k.toNat<=sizeLine /\
 ∀p,H p=none->Q (.ref p) (upd H p (.lst (aX k.toNat xs).flatten))
theorem Qa{α:Type}(xs:List α)(k:Nat):(aX k xs).flatten.length=k*xs.length:=by
 induction k with
 | zero=>simp
 | succ k ih=>rw[nB,pO,pM,ih,Nat.succ_mul,Nat.add_comm]
theorem Qb:bW X (binaryOp .Mult) P9:=by
 intro pins s σ H x y v u Q I rx ry h
 obtain⟨l,k,xs,rfl,rfl,hH,h1,h2,hz,q⟩:=h
 cases rx
 obtain⟨t,rfl⟩:=ry
 obtain⟨z,its,n,r,hl,e⟩:=I.tJ hH
 have hlen:its.toArray.size*k.toNat<=sizeLine:=by rw[cW,<- hl];exact hz
 have Qc:¬ its.toArray.size*k.toNat>(2 ^ 63-1)/8:=by
  have:(sizeLine:Nat)<=(2 ^ 63-1)/8:=by decide
  omega
 have Qe:¬ (!Builtin.List.listFitsIndex k)=true:=by
  rw[fitsIndex_both h1 h2]
  exact vm
 have Qf:¬ Gi (its.toArray.size*k.toNat)=true:=by
  rw[P2 hlen]
  exact vm
 have Qg:List.foldl (λx1 x2=>x1++x2) #[] (aX (if its.toArray.isEmpty=true then 0 else k.toNat) its.toArray)=(aX k.toNat its).flatten.toArray:=by
  have f0:∀m:Nat,List.foldl (λx1 x2=>x1++x2) #[] (aX m its.toArray)=(aX m its).flatten.toArray:=λm=>by
   have:=Hu its m []
   rw[jv]at this
   exact this
  rw[f0]
  cases its with
  | nil=>simp
  | cons a r'=>rw[if_neg (by simp)]
 refine wpAny_binaryOp_repeat_ref (T:="list") (U:="int") (by decide) ⟨_,e,rfl⟩ (λs'=>typeIs_int s' k t) noFill_list_mul F.fills_int_mul F.slot_int_rmul repeat_list F.slot_int_index.lookup
  (call_meets F.slot_int_rmul (typeIs_int s k t) F.entry_int_rmul (F.args_int_rmul_2 _ _) (int___rmul___int_list k t l its.toArray n)
   ⟨e,rfl,⟨_,e,rfl⟩,call_meets F.slot_list_mul ⟨_,e,rfl⟩ F.entry_list_mul (F.args_list_mul_2 _ _) (AutoListH.list___mul___list_int_3 l its.toArray n k t Qe Qc Qf) ⟨e,?_⟩⟩)
 rw[Qg]
 exact⟨.ref _,_,I.Hw (t':=s.toks) (r.rep k.toNat) (by rw[Qa,jw];exact hz),rfl,q _ I.fresh⟩
end
section
variable{prog:Program}{w:World}{A:Around}{E:Value->Shared->Prop}{s:Shared}
end
section
variable{X:Cx}
end
end L2
namespace Att
open PySem PySem.W PySem.Calls PyProof.Rows
theorem Qh{P:Params}{h:Heap}:∀(ns:List Int) (vs:List Value),WellAll P h vs (ns.map WData.int)->IntsAre vs ns:=by
 intro ns
 induction ns with
 | nil =>
  intro vs w
  rw[iO]at w
  cases w
  exact .nil
 | cons n ns ih =>
  intro vs w
  rw[cV]at w
  cases w with
  | cons a b =>
   cases a
   exact .cons _ _ (ih _ b)
theorem Qi{l:OpenLaw}{n:Nat}(hn:l.most=some n){P:Params}{h:Heap}{args:List WData}{vals:List Value}
  (vS:l.row.toRowW.claim.pre args=true) (zx:WellAll P h vals args) :
  ∃a vs ns,vals=[dF a]/\args=[WData.list (ns.map WData.int)]/\h.get? a=some { cls:=.type "list",data:=.seq vs.toArray }/\IntsAre vs ns/\ns.length<=n:=by
 have lh:WShape.hasAll [] args [.list .int]=true:=(pre_splitW vS).1
 have hc:l.pre.holds [] { args:=args }=true:=(pre_splitW vS).2
 obtain⟨d,r,rfl,h1,h2⟩:=hasAllW_cons lh
 obtain rfl:=hasAllW_nil h2
 obtain⟨xs,rfl,h3⟩:=hasW_list h1
 obtain⟨ns,rfl⟩:=items_int h3
 have hlen:ns.length<=n:=by
  unfold OpenLaw.pre at hc
  have h4:(WTm.not (.lt (.lit (.int (n:Int))) (.len (.arg 0)))).holds [] { args:=[.list (ns.map .int)] }=true:=by
   have h4:=(holds_andW hc).1
   rw[hn]at h4
   exact h4
  have h5:=condW_of h4 (w_not (w_lt w_lit (w_len_list (w_arg rfl))))
  rw[cB]at h5
  refine Nat.le_of_not_lt λq=>?_
  have q':(n:Int)<((ns.length:Nat):Int):=by omega
  first
   | (rw[decide_eq_true q']at h5;exact absurd h5 (by decide))
   | (simp at h5;omega)
 cases zx with
 | cons w1 w2 =>
  cases w2
  cases w1 with
  | list ho Qj=>exact⟨_,_,ns,rfl,rfl,ho,Qh ns _ Qj,hlen⟩
theorem Qk(l:OpenLaw)(args:List WData):l.row.toRowW.claim.post args (.bool true) args=true :=
 postW_of (r:=l.row.toRowW) (X:=(true==true))
  (show WShape.has [] (.bool true) .bool=true by first | rfl | decide | simp[WShape.has,WShape.arms,WShape.armsAll])
  (show(WTm.eq .res (.lit (.bool true))).value [] { args:=args,res:=some (.bool true),after:=args }=some (.bool (true==true)) from w_eq_bool (w_res rfl) w_lit) rfl
theorem Ql{l:OpenLaw}{n:Nat}{q:Program}{loose:List Str}{XP:(Str->Option Value)->Heap->Prop}{YP:World->Heap->Prop}{d:DefRec}
  (hn:l.most=some n) (tK:d.params.defaults=[])
  (call:∀(w:World) (bL aS:Shared) (mg mb:Str->Option Value) (fa:Addr) (o:Obj) (pm cd doc:Value) (a:Addr) (vs:List Value) (ns:List Int),
   Ground q loose [] XP w bL mg mb aS.heap->YP w aS.heap ->
   aS.heap.get? fa=some o->o.data=.func (docDef d.name d.params d.body d.scope pm cd doc)->aS.heap.CodeRec cd d.name->mg d.name=some (.ref fa) ->
   aS.heap.get? a=some { cls:=.type "list",data:=.seq vs.toArray }->IntsAre vs ns->ns.length<=n->aS.gens=#[] ->
   codeAny (model l.prog w) callerA (.call (.ref fa) ⟨[.ref a],[]⟩) (λr s'=>r=.ok (.ret (.bool true))/\OldK aS.heap s'.heap/\s'.os=aS.os/\AllBare s'.gens) aS) :
  WalkO q loose XP YP l.row.toRowW d [] (λf vs=>PySem.call f vs):=by
 intro w bL aS mg mb G Y fa o pm cd doc dV kV ho hd bI hD tL hg args vals as vS cv3 hrd zx lj
 obtain rfl:dV=.none:=Dflts.none hD tK
 obtain rfl:kV=.none:=Dflts.noKw hD
 obtain⟨a,vs,ns,rfl,rfl,zy,hints,hlen⟩:=Qi hn vS zx
 refine enter_call (codeAny_mono (call w bL aS mg mb fa o pm cd doc a vs ns G Y ho (fd_plain hd) bI tL zy hints hlen hg) λr s' hq=>?_)
 obtain⟨rfl,h2,h3,h4⟩:=hq
 exact⟨.inl ⟨.bool true,.bool true,[],rfl,λ_=>rfl,.bool true,Qk l _,λ_=>⟨List.Pairwise.nil,λ_ hm=>(nomatch hm)⟩⟩,h2,h3,h4⟩
section
variable{prog:Program}{w:World}{A:Around}{E:Value->Shared->Prop}{s:Shared}{K:Frag}
noncomputable def b61(h:Heap)(L d:Addr):List (Addr × Obj):=(bf h.objs.size).filterMap λa=>if a=L\/a=d then none else(h.get? a).map λo=>(a,o)
end
end Att
namespace L2
open PySem PySem.Spec PyProof.Rows
theorem Hy:∀{vs:List Value} {ns:List Int},IntsAre vs ns->Vals (ns.map V.int) vs
 | _,_,.nil=>.nil
 | _,_,.cons n t h=>.cons ⟨t,rfl⟩ (Hy h)
end L2
namespace L2
open PySem PySem.Spec PyProof.Rows
end L2
/- THE cv7 cv8 (shape;LID,My.* are cw0):
   My.nX: a structure of Hz addresses cw1 cw2 cw3 names (classes,cw4);My.Txt K t: a structure (Prop) of Hz equations over K;
   My.cw5:{K} {implicit addresses ..} (e1:nsIn K mainGlobals "law"=some (some (.ref f))) (e2:K.lookup f=some ⟨oc,od,.func (fnOf "law" "law" params body scope dV kV doc pm an aE ct),sl⟩) (e3:codeIn K aE "law"=true) ..:∃t,My.Txt K t
(Hz tactic k_is has no namespace: write k_is) -/
namespace L2
open PySem PySem.Spec PyProof.Rows
noncomputable def qB(s:Stmt)(j:Nat):Stmt:=match s with
 | .ClassDef _ _ _ body _ _ _ _ _ _ _=>body.getD j (.Pass ⟨0,0,0,0⟩)
 | _=>.Pass ⟨0,0,0,0⟩
noncomputable def bA(s:Stmt):Arguments:=match s with
 | .FunctionDef _ a _ _ _ _ _ _ _ _=>a
 | _=>{ posonlyargs:=[],args:=[],vararg:=none,kwonlyargs:=[],kw_defaults:=[],kwarg:=none,defaults:=[] }
noncomputable def aZ(s:Stmt):List Stmt:=match s with
 | .FunctionDef _ _ b _ _ _ _ _ _ _=>b
 | _=>[]
noncomputable def aw(s:Stmt):Scope:=match s with
 | .FunctionDef _ _ _ _ _ _ sc _ _ _=>sc
 | _=>{ kind:=.function,names:=[],isGenerator:=false,isCoroutine:=false }
noncomputable abbrev aT:di:=λ_ _ _ _ _ _=>False
noncomputable abbrev E0:XK:=λ_ _ _=>False
theorem aV{X:Cx}:iZ aT X E0:=λ_ _ _ _ _ _ _ h=>h.elim
structure bq(K:PySem.W.Frag)(x qual:Str)(st:Stmt)(f:Addr)(fd:FuncData):Prop where
 ex:∃(oc:Value) (od:Option Addr) (kV doc pm:Value) (an:Option Addr) (aE ct:Value) (i3:Array (Option Value)),
  fd=PySem.W.fnOf x qual (bA st) (aZ st) (aw st) .none kV doc pm an aE ct/\K.lookup f=some ⟨oc,od,.func fd,i3⟩/\PySem.W.codeIn K aE qual=true
 kp:PySem.W.keepIn K (.ref f)=true
section
variable{P:Program}{w:World}{K:PySem.W.Frag}{mg:Str->Option Value}{base:Heap}
theorem bq.ok{x qual:Str}{st:Stmt}{f:Addr}{fd:FuncData}{N ps:List Str}{k:Nat}{sp:Sp}(F:bq K x qual st f fd)(S:bx N ps (aw st))(len:∀vs H Q E,sp vs H Q E->vs.length=ps.length)
  (fe:∀(aE:Value) (A:Around) (outer:List Env) (s:Shared) (H:Hp) (vs:List V) (Q:VK) (E:XK),bF k (A.deeper (envOfC qual (aw st) s.heap.objs.size f aE))->sp vs H Q E ->
   ∃t,PSs (fG aT P w K mg base N qual (aw st) f aE A outer s H E).dY (aZ st) t/\t { nx:=λ_ H'=>Q .ak H',rt:=Q } (start N vs) H):aL P w K mg base aT (k+1) f fd ps sp:=by
 obtain⟨oc,od,kV,doc,pm,an,aE,ct,i3,rfl,lk,bI⟩:=F.ex
 refine zl lk bI S len λA outer s H vs Q E hr gM=>?_
 obtain⟨t,h,q⟩:=fe aE A outer s H vs Q E hr gM
 exact⟨t,h.dY,q⟩
theorem bq.binds{x qual:Str}{st:Stmt}{f:Addr}{fd:FuncData}{ps:List Str}(F:bq K x qual st f fd)
  (h:∀(kV doc pm:Value) (an:Option Addr) (aE ct:Value) (us:List Value),us.length=ps.length->bindArgs (PySem.W.fnOf x qual (bA st) (aZ st) (aw st) .none kV doc pm an aE ct) ⟨us,[]⟩=pure (ps.zip us)):Binds K fd ps []:=by
 obtain⟨oc,od,kV,doc,pm,an,aE,ct,i3,rfl,lk,bI⟩:=F.ex
 exact .all (h kV doc pm an aE ct)
theorem bO{x qual:Str}{st:Stmt}{f:Addr}{oc:Value}{od an:Option Addr}{i3:Array (Option Value)}{kV doc pm aE ct:Value}(l:K.lookup f=some ⟨oc,od,.func (PySem.W.fnOf x qual (bA st) (aZ st) (aw st) .none kV doc pm an aE ct),i3⟩)
  (c:PySem.W.codeIn K aE qual=true) (k:PySem.W.keepIn K (.ref f)=true):bq K x qual st f (PySem.W.fnOf x qual (bA st) (aZ st) (aw st) .none kV doc pm an aE ct):=⟨⟨oc,od,kV,doc,pm,an,aE,ct,i3,rfl,l,c⟩,k⟩
end
section
variable{X:Cx}
theorem pv(i:Nat){x:Str}{pos:Pos}(hN:X.N[i]?=some x:=by rfl)(hv:fX X.env.scope x:=by first | exact ar rfl | exact aR (ar rfl) | exact aR (aR rfl))(hd:(x==("__debug__":Str))=false:=by decide)
  (bI:(x==("__classdict__":Str))=false:=by decide):PE X (.Name x pos) (GO i):=iW hN hv hd bI
end
theorem i4{A B:Prop}(h:B):if false=true then A else B:=by
 rw[if_neg vm]
 exact h
theorem ll{A B:Prop}(h:A):if true=true then A else B:=by
 rw[if_pos rfl]
 exact h
noncomputable def ae(H H':Hp):Prop:=∀b o,H b=some o->H' b=some o
theorem ae.refl(H:Hp):ae H H:=λ_ _ h=>h
theorem ae.trans{H H1 H2:Hp}(a:ae H H1)(b:ae H1 H2):ae H H2:=λc o h=>b c o (a c o h)
theorem ae.free{H H':Hp}(e:ae H H'){l:Addr}(h:H' l=yo):H l=yo:=by
 cases q:H l with
 | none=>rfl
 | some o =>
  rw[e l o q]at h
  cases h
theorem ae.seq{K:PySem.W.Frag}{H H':Hp}{a:Addr}{xs:List V}(e:ae H H')(h:aM K H a xs):aM K H' a xs:=by
 rcases h with (h | ⟨o,h⟩) | h
 ·exact .inl (.inl (e _ _ h))
 ·exact .inl (.inr ⟨o,e _ _ h⟩)
 ·exact .inr h
end L2
namespace Mf
noncomputable def bl(n:Nat):Nat:=if n=0 then 0 else n.log2+1
theorem de{n m:Nat}:bl n<=m↔n<2 ^ m:=by
 unfold bl
 by_cases h:n=0
 ·simp[h,sJ]
 ·rw[if_neg h]
  rw[<-Nat.log2_lt h]
  omega
theorem zA{n m:Nat}:m<bl n↔2 ^ m<=n:=by
 have:=@de n m
 omega
theorem fI(n:Nat):n<2 ^ bl n:=de.mp (bH _)
theorem HA{n:Nat}(h:n≠0):2 ^ (bl n-1)<=n:=by
 have:0<bl n:=by unfold bl;rw[if_neg h];omega
 exact zA.mp (by omega)
theorem eS{n:Nat}(h:n≠0):0<bl n:=by
 unfold bl;rw[if_neg h];omega
theorem jC:bl 0=0:=rfl
theorem qC{n:Nat}(h:n≠0):n.testBit (bl n-1)=true:=by
 have h1:=HA h
 have h2:=fI n
 have hp:=eS h
 have e:bl n=(bl n-1)+1:=by omega
 rw[e,nC]at h2
 rw[Nt]
 have:n/2 ^ (bl n-1)=1:=by
  apply Nat.div_eq_of_lt_le
  ·omega
  ·omega
 rw[this];rfl
theorem Qm{x n:Nat}(h:∀i,n<=i->x.testBit i=false):x<2 ^ n:=by
 apply Nat.lt_pow_two_of_testBit
 intro i hi
 exact h i hi
theorem HB{x y n:Nat}(hx:x<2 ^ (n+1))(hy:y<2 ^ (n+1))(tx:x.testBit n=true)(ty:y.testBit n=true):x ^^^ y<2 ^ n:=by
 apply Qm
 intro i hi
 rw[jx]
 by_cases e:i=n
 ·rw[e,tx,ty];rfl
 ·have gk:n+1<=i:=by omega
  have p:2 ^ (n+1)<=2 ^ i:=vq (by decide) gk
  rw[yp (cm hx p),yp (cm hy p)]
  rfl
theorem HC(x y z:Nat):(x ^^^ y) ^^^ (z ^^^ y)=x ^^^ z:=by
 apply vt;intro i;simp only[jx]
 cases x.testBit i<;>cases y.testBit i<;>cases z.testBit i<;>rfl
theorem HD(x y z t:Nat):(x ^^^ y) ^^^ (z ^^^ t)=(x ^^^ z) ^^^ (y ^^^ t):=by
 apply vt;intro i;simp only[jx]
 cases x.testBit i<;>cases y.testBit i<;>cases z.testBit i<;>cases t.testBit i<;>rfl
noncomputable def P(a b:Nat):Nat->Nat
 | 0=>0
 | k+1=>P a b k ^^^ (if b.testBit k then a <<< k else 0)
noncomputable def cl(a b:Nat):Nat:=P a b (bl b)
theorem HE{a b k:Nat}(h:b<2 ^ k):∀j,P a b (k+j)=P a b k
 | 0=>rfl
 | j+1=>by
  show P a b (k+j) ^^^ (if b.testBit (k+j)then a <<< (k+j)else 0)=_
  rw[HE h j]
  have p:2 ^ k<=2 ^ (k+j):=vq (by decide) (by omega)
  rw[yp (cm h p)]
  simp
theorem qD{a b k:Nat}(h:b<2 ^ k):P a b k=cl a b:=by
 have h1:=de.mpr h
 have e:k=bl b+(k-bl b):=by omega
 rw[e,HE (fI b)]
 rfl
theorem HF(a a' b:Nat):∀k,P (a ^^^ a') b k=P a b k ^^^ P a' b k
 | 0=>(iP 0).symm
 | k+1=>by
  show P (a ^^^ a') b k ^^^ _=(P a b k ^^^ _) ^^^ (P a' b k ^^^ _)
  rw[HF a a' b k]
  by_cases t:b.testBit k=true
  ·rw[if_pos t,if_pos t,if_pos t,Nu]
   ac_rfl
  ·rw[if_neg t,if_neg t,if_neg t]
   simp
theorem HG(a b b':Nat):∀k,P a (b ^^^ b') k=P a b k ^^^ P a b' k
 | 0=>(iP 0).symm
 | k+1=>by
  show P a (b ^^^ b') k ^^^ _=(P a b k ^^^ _) ^^^ (P a b' k ^^^ _)
  rw[HG a b b' k,jx]
  cases b.testBit k<;>cases b'.testBit k<;>simp
  ·ac_rfl
  ·ac_rfl
  ·exact(HC _ _ _).symm
theorem lr(a a' b:Nat):cl (a ^^^ a') b=cl a b ^^^ cl a' b:=HF a a' b _
theorem qE{x y n:Nat}(hx:x<2 ^ n)(hy:y<2 ^ n):x ^^^ y<2 ^ n:=Nat.xor_lt_two_pow hx hy
theorem Qn(a b b':Nat):cl a (b ^^^ b')=cl a b ^^^ cl a b':=by
 let k:=bl b+bl b'
 have h1:b<2 ^ k:=de.mp (by omega)
 have h2:b'<2 ^ k:=de.mp (by omega)
 rw[<-qD (qE h1 h2),<- qD h1,<- qD h2,HG]
theorem Qo(a:Nat):cl a 0=0:=rfl
theorem HH(b:Nat):∀k,P 0 b k=0
 | 0=>rfl
 | k+1=>by
  show P 0 b k ^^^ _=0
  rw[HH b k];simp
theorem lu(b:Nat):cl 0 b=0:=HH b _
theorem Qp(b k:Nat):(b/2).testBit k=b.testBit (k+1):=by
 rw[yq]
theorem HI(a b:Nat):∀k,P a b (k+1)=(if b%2=1 then a else 0) ^^^ P (2*a) (b/2) k
 | 0=>by
  show 0 ^^^ _=_ ^^^ 0
  rw[kM,iP,vu]
  simp
 | k+1=>by
  show P a b (k+1) ^^^ _=_ ^^^ (P (2*a) (b/2) k ^^^ _)
  rw[HI a b k,Qp,nD]
  have e:a <<< (k+1)=(2*a) <<< k:=by
   rw[hJ,hJ,nC]
   rw[jw 2 a,pP,jw 2]
  rw[e]
theorem HJ{b k:Nat}(h:b<2 ^ (k+1)):b/2<2 ^ k:=by
 rw[nC]at h;omega
theorem HK(a b:Nat):cl a b=(if b%2=1 then a else 0) ^^^ cl (2*a) (b/2):=by
 have h:b<2 ^ (bl b+1):=Nat.lt_trans (fI b) (by rw[nC];have:=sJ (bl b);omega)
 rw[<-qD h,HI,qD (HJ h)]
theorem HL(a b:Nat):∀k,P (2*a) b k=2*P a b k
 | 0=>rfl
 | k+1=>by
  show P (2*a) b k ^^^ _=2*(P a b k ^^^ _)
  rw[HL a b k]
  have d:∀x y:Nat,2*(x ^^^ y)=2*x ^^^ 2*y:=by
   intro x y
   have h:=@Nu 1 x y
   rw[hJ,hJ,hJ,Nat.pow_one]at h
   rw[jw 2 (x ^^^ y),jw 2 x,jw 2 y]
   exact h
  rw[d]
  by_cases t:b.testBit k=true
  ·rw[if_pos t,if_pos t,hJ,hJ,pP]
  ·rw[if_neg t,if_neg t]
theorem zB(a b:Nat):cl (2*a) b=2*cl a b:=HL a b _
theorem tM(a c t:Nat)(ht:t<2):cl a (2*c+t)=2*cl a c ^^^ (if t=1 then a else 0):=by
 rw[HK,zB,Gj]
 have e1:(2*c+t)/2=c:=by omega
 have e2:(2*c+t)%2=t:=by omega
 rw[e1,e2]
theorem Qq(a c:Nat):cl a (2*c)=2*cl a c:=by
 have h:=tM a c 0 (by decide)
 simpa using h
theorem HM(c t:Nat)(ht:t<2):2*c ^^^ t=2*c+t:=by
 apply vt
 intro i
 cases i with
 | zero =>
  rw[jx,vu,vu,vu]
  have:t=0\/t=1:=by omega
  rcases this with h | h<;>subst h<;>simp<;>omega
 | succ i =>
  rw[jx,yq,yq,yq]
  have e1:2*c/2=c:=by omega
  have e2:t/2=0:=by omega
  have e3:(2*c+t)/2=c:=by omega
  rw[e1,e2,e3];simp
theorem zC:∀b:Nat,cl 1 b=b:=by
 intro b
 induction b using yr with
 | ind b ih =>
  by_cases h:b=0
  ·subst h;rfl
  ·have e:b=2*(b/2)+b%2:=by omega
   rw[e,tM 1 (b/2) (b%2) (by omega),ih (b/2) (by omega)]
   have:b%2=0\/b%2=1:=by omega
   rcases this with h | h
   ·rw[h];simp
   ·rw[h];rw[if_pos rfl];exact HM _ _ (by decide)
theorem tN:∀b a:Nat,cl a b=cl b a:=by
 intro b
 induction b using yr with
 | ind b ih =>
  intro a
  by_cases h:b=0
  ·subst h;rw[lu];rfl
  ·have e:b=2*(b/2)+b%2:=by omega
   have lt:b%2<2:=by omega
   have e':cl b a=cl (2*(b/2) ^^^ b%2) a:=by rw[HM _ _ lt,<- e]
   rw[e',lr,zB,<- ih (b/2) (by omega) a]
   have Qr:cl a b=cl a (2*(b/2)+b%2):=by rw[<-e]
   rw[Qr,tM _ _ _ lt]
   have:b%2=0\/b%2=1:=by omega
   rcases this with h | h
   ·rw[h,lu];rfl
   ·rw[h,zC];rfl
theorem zD{a m:Nat}(h:a<2 ^ m)(b:Nat):∀k,P a b (k+1)<2 ^ (m+k)
 | 0=>by
  show 0 ^^^ _<_
  rw[kM,Nat.add_zero]
  by_cases t:b.testBit 0=true
  ·rw[if_pos t];simpa using h
  ·rw[if_neg t];exact sJ m
 | k+1=>by
  show P a b (k+1) ^^^ _<_
  have i:=zD h b k
  have p:2 ^ (m+k)<=2 ^ (m+(k+1)):=vq (by decide) (by omega)
  apply qE (cm i p)
  by_cases t:b.testBit (k+1)=true
  ·rw[if_pos t,hJ,Nat.pow_add 2 m]
   exact(Nv (sJ _)).mpr h
  ·rw[if_neg t];exact sJ _
theorem Qs{a b m n:Nat}(h:a<2 ^ m)(h':b<2 ^ (n+1)):cl a b<2 ^ (m+n):=by
 rw[<-qD h'];exact zD h b n
theorem Qt{a b:Nat}(ha:a≠0)(hb:b≠0):2 ^ (bl a-1+(bl b-1))<=cl a b:=by
 have e:bl b=(bl b-1)+1:=by have:=eS hb;omega
 have ta:=qC ha
 have tb:=qC hb
 apply Nat.ge_two_pow_of_testBit
 unfold cl
 rw[e]
 show(P a b (bl b-1) ^^^ _).testBit _=true
 have e2:bl b-1+1-1=bl b-1:=by omega
 rw[e2,jx,if_pos tb]
 have f:(P a b (bl b-1)).testBit (bl a-1+(bl b-1))=false:=by
  cases q:bl b-1 with
  | zero=>show Nat.testBit 0 _=false;exact Nat.zero_testBit _
  | succ k =>
   apply yp
   have l:=zD (fI a) b k
   have p:=eS ha
   have e3:bl a-1+(k+1)=bl a+k:=by omega
   rw[e3];exact l
 rw[f,Nw]
 have e4:bl a-1+(bl b-1)-(bl b-1)=bl a-1:=by omega
 rw[e4,ta]
 simp
theorem HN{a b:Nat}(ha:a≠0)(hb:b≠0):bl (cl a b)=bl a+bl b-1:=by
 have p1:=eS ha
 have p2:=eS hb
 have h1:bl (cl a b)<=bl a+(bl b-1):=de.mpr (Qs (fI a) (by
  have e:bl b-1+1=bl b:=by omega
  rw[e];exact fI b))
 have h2:=zA.mpr (Qt ha hb)
 omega
theorem HP(s b:Nat):cl (2 ^ s) b=b <<< s:=by
 induction s with
 | zero=>rw[Nat.pow_zero,zC];rfl
 | succ s ih =>
  rw[nC,jw,zB,ih,hJ,hJ,nC]
  rw[<-pP,jw 2,pP,jw 2,<- pP,pP]
theorem Qu{a q b r s:Nat}(h:a=cl q b ^^^ r):a=cl (q ^^^ 2 ^ s) b ^^^ (r ^^^ b <<< s):=by
 rw[lr,HP,h,HC]
theorem HQ{b r:Nat}(hb:b≠0)(h:bl b<=bl r):bl (r ^^^ b <<< (bl r-bl b))<bl r:=by
 have p:=eS hb
 have hr:r≠0:=by
  intro z;rw[z,jC]at h;omega
 have:r ^^^ b <<< (bl r-bl b)<2 ^ (bl r-1):=by
  apply HB
  ·have e:bl r-1+1=bl r:=by omega
   rw[e];exact fI r
  ·have e:bl r-1+1=bl b+(bl r-bl b):=by omega
   rw[e,hJ,Nat.pow_add]
   exact(Nv (sJ _)).mpr (fI b)
  ·exact qC hr
  ·rw[Nw]
   have e:bl r-1-(bl r-bl b)=bl b-1:=by omega
   rw[e,qC hb]
   simp;omega
 have:=de.mpr this
 omega
theorem Qv{x y z:Nat}(h:x ^^^ y=z):x=z ^^^ y:=by
 rw[<-h,nD,yt,iP]
theorem zE{x y:Nat}(h:x ^^^ y=0):x=y:=by
 have:=Qv h
 rwa [kM]at this
theorem Qw{b q r q' r':Nat}(h:cl q b ^^^ r=cl q' b ^^^ r')(hr:bl r<bl b)(aU:bl r'<bl b):q=q'/\r=r':=by
 have hb:b≠0:=by intro z;rw[z,jC]at hr;omega
 have e:cl (q ^^^ q') b=r ^^^ r':=by
  rw[lr]
  have z:(cl q b ^^^ r) ^^^ (cl q' b ^^^ r')=0:=by rw[h,yt]
  rw[HD]at z
  exact zE z
 have lt:bl (r ^^^ r')<bl b:=by
  have h1:r<2 ^ (bl b-1):=de.mp (by omega)
  have h2:r'<2 ^ (bl b-1):=de.mp (by omega)
  have:=de.mpr (qE h1 h2)
  have:=eS hb
  omega
 have z:q ^^^ q'=0:=by
  apply Classical.byContradiction
  intro hq
  have h1:=HN hq hb
  have h2:=eS hq
  rw[e]at h1
  omega
 have zq:=zE z
 subst zq
 rw[z,lu]at e
 exact⟨rfl,zE e.symm⟩
end Mf
namespace Mf
open PySem PySem.Builtin.Int
theorem Qx(x y:Nat):(x ^^^ y)+2*(x &&& y)=x+y:=by
 induction x using yr generalizing y with
 | ind x ih =>
  by_cases h:x=0
  ·subst h;simp
  ·have h1:=ih (x/2) (by omega) (y/2)
   have e1:(x ^^^ y)/2=x/2 ^^^ y/2:=Nat.xor_div_two
   have e2:(x &&& y)/2=x/2 &&& y/2:=Nat.and_div_two
   have t:∀n:Nat,n%2=if n.testBit 0=true then 1 else 0:=by
    intro n
    rw[vu]
    by_cases h:n%2=1
    ·simp[h]
    ·simp[h];omega
   have m1:(x ^^^ y)%2=(x%2+y%2)%2:=by
    rw[t (x ^^^ y),t x,t y,jx]
    cases x.testBit 0<;>cases y.testBit 0<;>rfl
   have m2:(x &&& y)%2=x%2*(y%2):=by
    rw[t (x &&& y),t x,t y,Gk]
    cases x.testBit 0<;>cases y.testBit 0<;>rfl
   have d1:=Nat.div_add_mod (x ^^^ y) 2
   have d2:=Nat.div_add_mod (x &&& y) 2
   rw[e1]at d1
   rw[e2]at d2
   have hx:x%2=0\/x%2=1:=by omega
   have hy:y%2=0\/y%2=1:=by omega
   rcases hx with hx | hx<;>rcases hy with hy | hy<;>rw[hx,hy]at m1 m2<;>omega
theorem HR{x y:Int}(hx:0<=x)(hy:0<=y):kK x y=((x.toNat &&& y.toNat:Nat):Int):=by
 unfold kK
 rw[decide_eq_true hx,decide_eq_true hy]
theorem Qy{x y:Int}(hx:0<=x)(hy:0<=y):Builtin.bitOr x y=((x.toNat ||| y.toNat:Nat):Int):=by
 unfold Builtin.bitOr kK Builtin.bitNot
 rw[decide_eq_false (by omega),decide_eq_false (by omega)]
 show-(-((((- (-x-1)-1).toNat ||| (-(-y-1)-1).toNat:Nat):Int))-1)-1=_
 have e1:(- (-x-1)-1).toNat=x.toNat:=by omega
 have e2:(- (-y-1)-1).toNat=y.toNat:=by omega
 rw[e1,e2]
 omega
theorem Qz(x y:Nat):(x ||| y)=(x ^^^ y)+(x &&& y):=by
 have d:(x ^^^ y) &&& (x &&& y)=0:=by
  apply vt;intro i
  simp only[jx,Gk,Nat.zero_testBit]
  cases x.testBit i<;>cases y.testBit i<;>rfl
 have e:(x ||| y)=(x ^^^ y) ^^^ (x &&& y):=by
  apply vt;intro i
  simp only[jx,Gk,Nat.testBit_or]
  cases x.testBit i<;>cases y.testBit i<;>rfl
 have h:=Qx (x ^^^ y) (x &&& y)
 rw[d]at h
 rw[e];omega
theorem QB{x y:Int}(hx:0<=x)(hy:0<=y):nv x y=((x.toNat ^^^ y.toNat:Nat):Int):=by
 unfold nv
 rw[Qy hx hy,HR hx hy,Qz]
 omega
theorem nY(x y:Nat):nv (x:Int) (y:Int)=((x ^^^ y:Nat):Int):=by
 rw[QB (by omega) (by omega)];rfl
theorem HS(x y:Nat):kK (x:Int) (y:Int)=((x &&& y:Nat):Int):=by
 rw[HR (by omega) (by omega)];rfl
theorem qF(x k:Nat):(x:Int)*2 ^ ((k:Int)).toNat=((x <<< k:Nat):Int):=by
 rw[hJ]
 simp
theorem QC(x k:Nat):(x:Int)/2 ^ ((k:Int)).toNat=((x >>> k:Nat):Int):=by
 rw[Nx]
 simp
theorem QD(x k:Nat):((x >>> k) &&& 1=1)↔x.testBit k=true:=by
 rw[Nt,Nx]
 have:(x/2 ^ k) &&& 1=(x/2 ^ k)%2:=Nat.and_two_pow_sub_one_eq_mod _ 1
 rw[this]
 simp
end Mf
namespace Mf
end Mf
namespace Mf
theorem HU(a b:Nat):∀c,cl (cl a b) c=cl a (cl b c):=by
 intro c
 induction c using yr with
 | ind c ih =>
  by_cases h:c=0
  ·subst h;rfl
  ·have e:c=2*(c/2)+c%2:=by omega
   have lt:c%2<2:=by omega
   have i:=ih (c/2) (by omega)
   rw[e,tM _ _ _ lt,tM _ _ _ lt,i,Qn,Qq]
   have:c%2=0\/c%2=1:=by omega
   rcases this with h | h
   ·rw[h];rfl
   ·rw[h];rfl
noncomputable def qG:Nat->Nat->Nat->Nat
 | 0,a,_=>a
 | n+1,a,b=>if bl a<bl b then a else qG n (a ^^^ b <<< (bl a-bl b)) b
noncomputable def md(a b:Nat):Nat:=qG (bl a+1) a b
theorem HV{b:Nat}(hb:b≠0):∀n a,bl a<n->(∃q,a=cl q b ^^^ qG n a b)/\bl (qG n a b)<bl b
 | 0,_,h=>absurd h (by omega)
 | n+1,a,h=>by
  unfold qG
  by_cases l:bl a<bl b
  ·rw[if_pos l]
   exact⟨⟨0,by rw[lu,kM]⟩,l⟩
  ·rw[if_neg l]
   have zF:=HQ hb (show bl b<=bl a by omega)
   obtain⟨⟨q,e⟩,l2⟩:=HV hb n (a ^^^ b <<< (bl a-bl b)) (by omega)
   refine⟨⟨q ^^^ 2 ^ (bl a-bl b),?_⟩,l2⟩
   rw[lr,HP]
   have e2:a=(a ^^^ b <<< (bl a-bl b)) ^^^ b <<< (bl a-bl b):=by rw[nD,yt,iP]
   rw[e]at e2
   refine e2.trans ?_
   generalize qG n _ b=r
   rw[nD,Gj r,<- nD]
theorem tO{b:Nat}(hb:b≠0)(a:Nat):(∃q,a=cl q b ^^^ md a b)/\bl (md a b)<bl b:=HV hb _ a (by omega)
theorem tP{a b q r:Nat}(h:a=cl q b ^^^ r)(hr:bl r<bl b):md a b=r:=by
 have hb:b≠0:=by intro z;rw[z,jC]at hr;omega
 obtain⟨⟨q',e⟩,l⟩:=tO hb a
 exact(Qw (e.symm.trans h) l hr).2
theorem QE(q:Nat){b:Nat}(hb:b≠0):md (cl q b) b=0 :=
 tP (q:=q) (by rw[iP]) (by rw[jC];exact eS hb)
noncomputable def HW:Nat->Nat->Nat->Nat
 | 0,a,_=>a
 | n+1,a,b=>if b=0 then a else HW n b (md a b)
noncomputable def gc(a b:Nat):Nat:=HW (bl b+1) a b
end Mf
namespace Mf
theorem QF(y:Nat):bl (y/2)=bl y-1:=by
 by_cases h:y=0
 ·subst h;rfl
 ·have p:=eS h
  have h1:bl (y/2)<=bl y-1:=de.mpr (HJ (by
   have e:bl y-1+1=bl y:=by omega
   rw[e];exact fI y))
  have h2:bl y<=bl (y/2)+1:=de.mpr (by
   have:=fI (y/2)
   rw[nC];omega)
  omega
theorem QG(x:Nat):bl (2*x)<=bl x+1:=de.mpr (by
 have:=fI x
 rw[nC];omega)
theorem zG{x y:Nat}(h:x<=y):bl x<=bl y:=de.mpr (kN h (fI y))
end Mf
namespace Mf
noncomputable def al(a:Nat):Bool:=decide (2<=a)&&(bf (2 ^ ((bl a-1)/2+1)-2)).all λi=>md a (2+i) != 0
theorem QH{a:Nat}(h:a<2):al a=false:=by
 unfold al;rw[decide_eq_false (by omega)];rfl
theorem QI{a:Nat}(h:2<=a)(k:∀i,i<2 ^ ((bl a-1)/2+1)-2->md a (2+i)≠0):al a=true:=by
 unfold al
 rw[decide_eq_true h,jy,cQ]
 intro i hi
 have:=k i (fU.mp hi)
 simpa using this
theorem QJ{a i:Nat}(k:i<2 ^ ((bl a-1)/2+1)-2)(z:md a (2+i)=0):al a=false:=by
 unfold al
 rw[Bool.and_eq_false_iff]
 right
 rw[List.all_eq_false]
 exact⟨i,fU.mpr k,by simp[z]⟩
theorem QK{a:Nat}(h:2<=a){b:Nat}(hb:b<2 ^ ((bl a-1)/2+1)):b<a/\2*bl b<=bl a+1:=by
 have h2:2<=bl a:=by
  have:=zA.mpr (show 2 ^ 1<=a by omega)
  omega
 have l:=de.mpr hb
 refine⟨cm hb (dW (vq (by decide) ?_) (HA (by omega))),by omega⟩
 omega
end Mf
namespace L2
open PySem PySem.Spec PyProof.Rows Mf
theorem i5:bootBuiltins "len"=some (.builtin "len"):=by decide +kernel
theorem QL:bootBuiltins "isinstance"=some (.builtin "isinstance"):=by decide +kernel
theorem zH:bootBuiltins "all"=some (.builtin "all"):=by decide +kernel
theorem QM:bootBuiltins "sum"=some (.builtin "sum"):=by decide +kernel
theorem QN:bootBuiltins "int"=some (.type "int"):=by decide +kernel
theorem QO:bootBuiltins "bool"=some (.type "bool"):=by decide +kernel
theorem qH:bootBuiltins "list"=some (.type "list"):=by decide +kernel
section
variable{X:Cx}{a b o:Expr}{ta tb to:TE}{pos apos bh:Pos}
theorem HX(i:Int):Builtin.Int.intBits i=bl i.natAbs:=by
 unfold Builtin.Int.intBits bl
 by_cases h:i=0
 ·subst h;rfl
 ·have h':¬ i.natAbs=0:=by omega
  rw[if_neg h',if_neg (by simpa using h)]
noncomputable def HY:V->List V->Hp->VK->Prop:=λx vs H Q=>∃i,x=.int i/\vs=[]/\Q (.int (bl i.natAbs:Nat)) H
theorem QP:kZ X "int.bit_length" HY:=by
 intro pins s σ H x xs v us Q I rx rs h
 obtain⟨i,rfl,rfl,q⟩:=h
 obtain⟨t,rfl⟩:=rx
 cases rs
 refine call_int_bit_length ?_
 rw[HX]
 exact⟨.int _,H,I.tok _,⟨_,rfl⟩,q⟩
theorem zI(ho:PE X o to)(gi:attributeBase o "bit_length" X.env (eval o X.env)=eval o X.env:=by rfl)(gj:(apos.endLine==bh.line)=true:=by rfl) :
  PE X (.Call (.Attribute o "bit_length" apos) [] [] bh) (Hq X.K "int" HY to) :=
 Hr PySem.F.plainAttrs_int PySem.F.slot_int_bit_length PySem.F.type_int_bit_length QP ho gi gj
noncomputable def HZ(i j:Int):Prop:=0<=j/\((bl i.natAbs:Nat):Int)+j<=134217728
theorem Ia:bW X (binaryOp .LShift) (rI HZ λi j=>.int (i*2 ^ j.toNat)):=tE λi j _ _ _ _ _ hc q =>
 lshift_int hc.1 (by rw[HX];exact Int.le_trans hc.2 (by decide)) q
theorem QQ{x:Str}{n:String}(hg:Gl X x)(hm:X.mg x=none)(hv:bootBuiltins x=some (.type n))(hn:x≠"__name__":=by decide)(hd:(x==("__debug__":Str))=false:=by decide):PE X (.Name x pos) (tC (.ty n)) :=
 N3 hg hm hv rfl hn hd
noncomputable def QR(K:PySem.W.Frag):List V->Hp->VK->Prop:=λxs H Q=>∃x n t b,xs=[x,.ty n]/\fc K H x t/\PySem.W.kitOne K t (.type n)=some b/\Q (.bl b) H
theorem QS:fE X (.builtin "isinstance") (QR X.K):=by
 intro pins s σ H xs us Q I r h
 obtain⟨x,n,t,b,rfl,ty,e,q⟩:=h
 obtain⟨u,v,rfl,ru,rv⟩:=r.two
 cases(show v=Value.type n from rv)
 exact Pn I ru ty e λtk=>⟨.bl b,H,I.tok _,rfl,q⟩
end
theorem QT(b i:Nat):decide (V.int (kK ((b:Int)/2 ^ ((0:Int)+(i:Int)).toNat) 1)=V.int 1)=b.testBit i:=by
 have e:((0:Int)+(i:Int)).toNat=((i:Int)).toNat:=by omega
 rw[e,QC,show(1:Int)=((1:Nat):Int) from rfl,HS,yu,decide_eq_true_iff,<- QD]
 constructor
 ·intro h;injection h with h;omega
 ·intro h;rw[h]
theorem QU{a b i:Nat}(h:b.testBit i=true):nv ((P a b i:Nat):Int) ((a:Int)*2 ^ ((0:Int)+(i:Int)).toNat)=((P a b (i+1):Nat):Int):=by
 have e:((0:Int)+(i:Int)).toNat=((i:Int)).toNat:=by omega
 rw[e,qF,nY]
 show _=((P a b i ^^^ (if b.testBit i then a <<< i else 0):Nat):Int)
 rw[if_pos h]
theorem QV{a b i:Nat}(h:¬ b.testBit i=true):P a b (i+1)=P a b i:=by
 show P a b i ^^^ (if b.testBit i then a <<< i else 0)=_
 rw[if_neg h,iP]
theorem dI{i j:Int}:decide (V.int i=V.int j)=true↔i=j:=by
 rw[decide_eq_true_iff]
 exact⟨λh=>by injection h,λh=>by rw[h]⟩
end L2
namespace L2
open PySem PySem.Spec PyProof.Rows
section
variable{X:Cx}
end
end L2
namespace L2
open PySem PySem.Spec PyProof.Rows
noncomputable def vT(X:Cx)(scope:Scope)(N:List Str)(cl:List (Str × Addr))(C:Addr)(s:Shared)(H:Hp)(fp:List Addr):Cx where
 prog:=X.prog
 w:=X.w
 K:=X.K
 mg:=X.mg
 base:=X.base
 A:=X.A
 N:=N
 bL:=s
 ie:=H
 env:=compEnvC scope cl C X.env
 outer:=X.stack
 stack:=X.stack
 ex:=fp
 fn:=λ_=>false
 calm:=X.calm
 pn:=[]
 xe:=λ_ _=>False
noncomputable def jD(X:Cx)(scope:Scope)(cl:List (Str × Addr)):List (Str × Nat)->Prop
 | []=>True
 | (y,i)::r=>(X.N[i]?=some y/\(X.env.scope.names.lookup y=some .cell\/X.env.scope.names.lookup y=some .free)/\((relabel scope X.env).names.lookup y=some .cell\/(relabel scope X.env).names.lookup y=some .free)/\∃c,cl.lookup y=some c/\X.env.cells.lookup y=some c)/\jD X scope cl r
theorem jD.at{X:Cx}{scope:Scope}{cl:List (Str × Addr)}:∀{aq:List (Str × Nat)},jD X scope cl aq->∀p∈aq,X.N[p.2]?=some p.1/\(X.env.scope.names.lookup p.1=some .cell\/X.env.scope.names.lookup p.1=some .free)/\((relabel scope X.env).names.lookup p.1=some .cell\/(relabel scope X.env).names.lookup p.1=some .free)/\∃c,cl.lookup p.1=some c/\X.env.cells.lookup p.1=some c
 | [],_,p,hp=>absurd hp (by simp)
 | (y,i)::r,h,p,hp=>by
  rcases bV.mp hp with e | e
  ·subst e;exact h.1
  ·exact jD.at h.2 p e
noncomputable def nZ(Y:Cx)(ifs:List Expr)(t:TT):Prop :=
 ∀(pins:List (Addr × Obj)) (s:Shared) (σ:St) (H:Hp) (Q:Bool->Hp->Prop),Inv Y pins σ H s->t σ H Q ->
  wpAny (model Y.prog Y.w) Y.A (forIn ifs true λc r=>if r=true then do let ok<-isTrue c Y.env (eval c Y.env);pure (yv ok)else pure (yv r)) (TP Y pins σ Q) Y.xe s
noncomputable def QW:TT:=λ_ H Q=>Q true H
theorem QX{Y:Cx}:nZ Y [] QW:=λ_ _ _ H _ I h=>wpAny_tests_nil ⟨H,I,h⟩
section
variable{X:Cx}{elt iter:Expr}{x:Str}{px pos:Pos}{ifs:List Expr}{scope:Scope}{cl:List (Str × Addr)}{aq:List (Str × Nat)}{wi:TI}{tt:TT}{te:TE}
end
section
variable{prog:Program}{w:World}{A:Around}{R:Result->Shared->Prop}{s:Shared}
theorem QY{elt target iter:Expr}{ifs:List Expr}{scope:Scope}{pos:Pos}{it acc:Value}{env:Env}(Iv:Nat->Shared->Prop)
  (turn:∀n s,Iv n s->wpAny (model prog w) A (pyNext it) (λr s1=>match r with
   | none=>R (.ok .next) s1
   | some v=>wpAny (model prog w) A (letOwnedTupleGo target it v) (λ_ t1=>wpAny (model prog w) A (assign target env v) (λ_ s2 =>
     wpAny (model prog w) A (forIn ifs true λc r=>if r=true then do let ok<-isTrue c env (eval c env);pure (yv ok)else pure (yv r)) (λok s3 =>
      if ok=true then wpAny (model prog w) A (eval elt env) (λy s4=>wpAny (model prog w) A (call (.builtin "list.append") [acc,y]) (λ_ s5=>∃m,m<n/\Iv m s5) (λ_ _=>False) s4) (λ_ _=>False) s3
      else ∃m,m<n/\Iv m s3) (λ_ _=>False) s2) (λ_ _=>False) t1) (λ_ _=>False) s1) (λ_ _=>False) s)
  (n:Nat) (h:Iv n s):codeAny (model prog w) A (.compLoop (.ListComp elt [⟨target,iter,ifs,0⟩] scope pos) 0 it acc env) R s:=by
 refine codeAny_loop rfl Iv (λn s hI=>?_) n h
 change wpAny _ A (Sem.onRaise (compTurn (.ListComp elt [⟨target,iter,ifs,0⟩] scope pos) 0 it acc env) λx=>do noteFrame x env;theTreesLotGoes x) _ _ s
 refine wpAny_noted (wpAny_mono (E:=λ_ _=>False) ?_ (λ_ _ q=>q) λ_ _ z=>z.elim)
 rw[compTurn_list]
 refine wpAny_bind (wpAny_standAt (wpAny_bind (aG (turn n s hI) λr s1 h1=>?_)))
 cases r with
 | none=>exact wpAny_pure h1
 | some v =>
  refine wpAny_bind (aG h1 λ_ t1 k1=>wpAny_bind (aG k1 λ_ s2 h2=>wpAny_bind (aG h2 λok s3 h3=>?_)))
  cases ok with
  | false=>exact wpAny_pure ⟨rfl,h3⟩
  | true=>exact wpAny_bind (wpAny_bind (aG h3 λy s4 h4=>wpAny_bind (aG h4 λ_ s5 h5=>wpAny_pure (wpAny_pure ⟨rfl,h5⟩))))
end
section
variable{X:Cx}{elt iter:Expr}{x:Str}{px pos:Pos}{ifs:List Expr}{scope:Scope}{cl:List (Str × Addr)}{aq:List (Str × Nat)}{wi:TI}{tt:TT}{te:TE}
end
end L2
namespace L2
open PySem PySem.Spec PyProof.Rows
section
variable{X:Cx}
theorem QZ{bs:List Bool}{us:List Value}(r:Vals (bs.map V.bl) us):bs.length=us.length/\∀(i:Nat) (v:Value),us[i]?=some v->∃b,bs[i]?=some b/\v=.bool b:=by
 have l:=r.length
 rw[cB]at l
 refine⟨l,λi v e=>?_⟩
 have hi:i<us.length:=(gG.mp e).1
 have hb:i<bs.length:=by omega
 obtain⟨u,e2,q⟩:=r.get (i:=i) (x:=V.bl bs[i]) (by rw[dB,br hb];rfl)
 rw[e]at e2
 cases e2
 exact⟨bs[i],br hb,q⟩
theorem Ib{s:Shared}{h':Heap}{o:Obj}(hk:∀b x,b ∉ [s.heap.objs.size]->(s.heap.push o).get? b=some x->h'.get? b=some x)(b:Addr)(x:Obj)(e:s.heap.get? b=some x):h'.get? b=some x :=
 hk b x (λhm=>eQ _ (by have:=bj e;rw[hW.mp hm]at this;exact this)) (dX _ e)
theorem Q0(bs:List Bool):((bf bs.length).all λi=>(bs[i]?).getD true)=bs.all id:=by
 rw[yu,cQ,cQ]
 constructor
 ·intro h b hb
  obtain⟨i,hi,rfl⟩:=Gm hb
  have:=h i (fU.mpr hi)
  rwa [br hi]at this
 ·intro h i hi
  have gk:=fU.mp hi
  rw[br gk]
  exact h _ (fv gk)
theorem Q1(hc:X.calm=true):fE X (.builtin "all") (λxs H Q=>∃(p:Addr) (bs:List Bool),xs=[.ref p]/\aM X.K H p (bs.map V.bl)/\Q (.bl (bs.all id)) H):=by
 intro pins s σ H xs us Q I r h
 obtain⟨p,bs,rfl,hS,q⟩:=h
 obtain⟨u,rfl,ru⟩:=r.one
 cases ru
 obtain⟨its,rv,pl,hz⟩:=I.list hS
 obtain⟨hlen,Q2⟩:=QZ rv
 have hl:=pl.isList
 have dD:p<s.heap.objs.size:=by obtain⟨_,e,_⟩:=hl;exact bj e
 refine call_all_walk (wpAny_pyIter_list hl ?_)
 refine⟨s.heap.objs.size,[s.heap.objs.size,p],[s.heap.objs.size],its.toArray.size,_,_,λi=>(bs[i]?).getD true,rfl,Walks.list (A:=X.A.in1) (I.ok.hd hc) _ p (dG dD) its.toArray,
  ⟨⟨_,fb _ rfl,rfl,rfl⟩,hl.push _⟩,λi v s' Q' E' hP hQ=>?_,λh' tk hk=>?_⟩
 ·obtain⟨b,e,rfl⟩:=Q2 i v (by simpa using hP)
  simp only[e,nE]at hQ
  exact wpAny_truthy_bool hQ
 ·have e:((bf its.toArray.size).all λi=>(bs[i]?).getD true)=bs.all id:=by
   rw[cW,<- hlen];exact Q0 bs
  rw[e]
  exact⟨.bl _,H,I.kept (h':=h') (t':=tk) (Ib hk),rfl,q⟩
end
noncomputable def jE(X:Cx):List (Str × Addr)->Prop
 | []=>True
 | (y,c)::r=>X.env.cells.lookup y=some c/\jE X r
theorem jE.all{X:Cx}:∀{cl:List (Str × Addr)},jE X cl->∀y c,cl.lookup y=some c->X.env.cells.lookup y=some c
 | [],_,y,c,h=>by simp at h
 | (z,d)::r,h,y,c,e=>by
  rw[eA]at e
  cases q:y==z with
  | true =>
   rw[q]at e
   cases e
   rw[eq_of_beq q]
   exact h.1
  | false =>
   rw[q]at e
   exact jE.all h.2 y c e
noncomputable def jF(cl:List (Str × Addr)):List (Str × NameKind)->Prop
 | []=>True
 | (y,k)::r=>(k=.local\/k=.globalImplicit\/∃c,cl.lookup y=some c)/\jF cl r
theorem jF.all{cl:List (Str × Addr)}:∀{ns:List (Str × NameKind)},jF cl ns->∀y,(ns.lookup y=some .cell\/ns.lookup y=some .free)->∃c,cl.lookup y=some c
 | [],_,y,h=>by simp at h
 | (z,k)::r,h,y,e=>by
  rw[eA]at e
  cases q:y==z with
  | true =>
   rw[q]at e
   rw[eq_of_beq q]
   rcases h.1 with g | g | g
   ·rw[g]at e;rcases e with e | e<;>cases e
   ·rw[g]at e;rcases e with e | e<;>cases e
   ·exact g
  | false =>
   rw[q]at e
   exact jF.all h.2 y e
section
variable{X:Cx}{elt iter:Expr}{x:Str}{px pos:Pos}{ifs:List Expr}{scope:Scope}{cl:List (Str × Addr)}{wi:TI}{tt:TT}{te:TE}
end
end L2
namespace L2
open PySem PySem.Spec PyProof.Rows Mf
end L2
namespace L2
end L2
namespace L2
open PySem PySem.Spec PyProof.Rows
noncomputable def eT(aq:List (Str × Nat))(n:Nat)(σ:L2.St):St:=(aq.map λp=>(σ[p.2]?).getD none)++aX n none
noncomputable def Ic(J:It)(aq:List (Str × Nat))(n:Nat)(g:TG)(tt:TT)(te:TE)(σ:L2.St)(H1:Hp)(Q:VK):Prop:=∀D,H1 D=none->∃W:Nat->Nat->List V->Hp->Prop,(∃m,W 0 m [] (upd H1 D (.lst []))) /\
 ∀i m acc H2,W i m acc H2->H2 D=some (.lst acc)/\((J.stop i H2/\Q (.ref D) H2)\/(J.go i H2/\∀x H3,J.gL i H2 x H3->H3 D=some (.lst acc)/\g x (eT aq n σ) H3 λeJ H4 =>
  (eJ.length=(eT aq n σ).length/\∀j,j<aq.length->eJ[j]?=(eT aq n σ)[j]?)/\tt eJ H4 λb H5=>H5 D=some (.lst acc) /\
  if b=true then te eJ H5 λy H6=>H6 D=some (.lst acc)/\acc.length<sizeLine/\∃m',m'<m/\W (i+1) m' (acc++[y]) (upd H6 D (.lst (acc++[y])))else ∃m',m'<m/\W (i+1) m' acc H5))
noncomputable def vU(wi:TI)(aq:List (Str × Nat))(n:Nat)(g:TG)(tt:TT)(te:TE):TE:=λσ H Q=>wi σ H λJ H1=>Ic J aq n g tt te σ H1 Q
section
variable{X:Cx}{elt iter tg:Expr}{pos:Pos}{ifs:List Expr}{scope:Scope}{cl:List (Str × Addr)}{wi:TI}{tt:TT}{te:TE}{g:TG}
end
end L2
namespace L2
open PySem PySem.Spec PyProof.Rows
section
variable{X:Cx}{tg:Expr}
end
end L2
namespace L2
open PySem PySem.Spec PyProof.Rows
noncomputable def zJ(h:Heap)(a T:Addr)(cls fl:Value):Prop :=
 ∃oe vs oT ts,h.get? a=some oe/\oe.cls=cls/\oe.dict=none/\oe.data=.fields vs/\vs[1]?=some (.ref T)/\T≠a/\h.get? T=some oT/\oT.data=.fields ts/\ts[3]?=some fl
noncomputable abbrev n8(h:Heap)(a T:Addr)(cls:Value):Prop:=zJ h a T cls .none
theorem Q3(o:Obj)(f:Array Value->Array Value):(o.mapFields f).dict=o.dict:=by
 obtain⟨c,d,dt,sl⟩:=o
 cases dt<;>rfl
section
variable{M:Model}{A:Around}{E:Value->Shared->Prop}{s:Shared}{base:Heap}{env:Env}{outer:List Env}{L a T:Addr}{cls:Value}{oe:Obj}{vs:Array Value}{Q:Unit->Shared->Prop}
structure Ent(fs:List Addr)(h h':Heap)(a T:Addr)(oe:Obj)(L:Addr):Prop where
 new:h.get? T=none
 ne:T≠a
 keep:∀b o,b≠a->b ∉ fs->h.get? b=some o->h'.get? b=some o
 slot:∀b o,b≠a->h.get? b=some o->∃sl,h'.get? b=some { o with slots:=sl }
 exc:h'.get? a=some (oe.mapFields λz=>z.setIfInBounds 1 (.ref T))
 ent:∃oT ts,h'.get? T=some oT/\oT.data=.fields ts/\ts[3]?=some (rawInt L)
theorem Ie{head:Value}{Q4:Bool}(dr:A.frames=some (env::outer))(hl:s.heap.FunFrames base (env::outer))(hf:env.frame=some L)(he:s.heap.get? a=some oe)(hd:oe.data=.fields vs)(iY:1<vs.size)
  (na:a ∉ (env::outer).filterMap (·.frame)) (k:∀h' T',Ent ((env::outer).filterMap (·.frame)) s.heap h' a T' oe L->Q () { s with heap:=h' }) :
  wpAny M A (do let x<-frameOf env;let pl<-entryPlaceOf L Q4;let b<-EntryCells.newEntry head x .none (rawInt L) .none pl;setField (.ref a) 1 b) Q E s:=by
 refine wpAny_bind (wpAny_frameOf_fun dr hl hf λg1 so=>wpAny_bind (wpAny_entryPlaceOf λpl ip=>?_))
 unfold EntryCells.newEntry newFields
 have e1:g1.get? a=some oe:=(so.2.1 a na).trans he
 refine wpAny_bind (wpAny_newObj_type ?_ (ip.sizeOk5 _ _ _ _ _))
 generalize Ig:({ cls:=.type "traceback",dict:=none,data:=.fields ([head,dF L,.none,rawInt L,.none]++(if pl.isEmpty then aX 6 nq else pl)).toArray }:Obj)=te
 have e2:(g1.push te).get? a=some oe:=dX te e1
 have Q5:te.data=.fields ([head,dF L,.none,rawInt L,.none]++(if pl.isEmpty then aX 6 nq else pl)).toArray:=by rw[<-Ig]
 have nf:te.isFreed=false:=by rw[<-Ig];rfl
 refine wpAny_setField e2 hd iY ?_
 have d3:=yw hd λz=>z.setIfInBounds 1 (dF g1.objs.size)
 have nT:g1.objs.size≠a:=FZ (bj e1)
 refine k _ g1.objs.size ⟨?_,nT,λb o hb hz q=>?_,λb o hb q=>?_,yn _ e2 (Gn d3),⟨te,_,?_,Q5,?_⟩⟩
 ·cases q:s.heap.get? g1.objs.size with
  | none=>rfl
  | some o=>obtain⟨sl,z⟩:=so.2.2 _ _ q;exact absurd (bj z) (eQ _)
 ·rw[nz _ _ (dz hb)]
  exact dX te ((so.2.1 b hz).trans q)
 ·obtain⟨sl,z⟩:=so.2.2 b o q
  refine⟨sl,?_⟩
  rw[nz _ _ (dz hb)]
  exact dX te z
 ·rw[nz _ _ (dz nT)]
  exact fb g1 nf
 ·first | (simp;done) | (rcases ip with rfl | ⟨_,_,_,_,_,_,_,rfl⟩<;>simp)
structure Ih(fs Z:List Addr)(h h':Heap)(a T:Addr)(cls:Value):Prop where
 new:h.get? T=none
 keep:∀b o,b ∉ Z->b ∉ fs->h.get? b=some o->h'.get? b=some o
 slot:∀b o,b ∉ Z->h.get? b=some o->∃sl,h'.get? b=some { o with slots:=sl }
 tQ:n8 h' a T cls
theorem Ii{fl:Value}(tr:zJ s.heap a T cls fl)(k:∀h',(∀b o,b≠T->s.heap.get? b=some o->h'.get? b=some o)->n8 h' a T cls->Q () { s with heap:=h' }):wpAny M A (setFlight (.ref a) none) Q E s:=by
 obtain⟨oe,vs,oT,ts,h1,h2,h3,h4,h5,h6,h7,h8,h9⟩:=tr
 have sz:3<ts.size:=(Gp.mp h9).1
 unfold setFlight
 refine wpAny_bind (wpAny_field h1 h4 h5 ?_)
 rw[if_pos (by simp)]
 refine wpAny_setField h7 h8 sz (k _ (λb o hb q=>(nz _ _ (dz hb)).trans q) ?_)
 have d:=yw h8 λz=>z.setIfInBounds 3 ((none:Option Addr).elim nq λf=>rawInt f)
 exact⟨oe,vs,_,_,(nz _ _ h6).trans h1,h2,h3,h4,h5,h6,yn _ h7 (Gn d),d,by simp[sz]⟩
theorem Ent.fin{fs:List Addr}{h h':Heap}{a T L:Addr}{oe:Obj}{vs:Array Value}(e:Ent fs h h' a T oe L)(hd:oe.data=.fields vs)(iY:1<vs.size)(Q6:oe.dict=none):zJ h' a T oe.cls (rawInt L):=by
 obtain⟨oT,ts,e1,e2,e3⟩:=e.ent
 exact⟨_,_,oT,ts,e.exc,Obj.cls_mapFields _ _,by rw[Q3];exact Q6,yw hd _,by simp[iY],e.ne,e1,e2,e3⟩
theorem Q7(dr:A.frames=some (env::outer))(hl:s.heap.FunFrames base (env::outer))(hf:env.frame=some L)(na:a ∉ (env::outer).filterMap (·.frame))(tr:n8 s.heap a T cls)
  (k:∀h' T',Ih ((env::outer).filterMap (·.frame)) [a,T] s.heap h' a T' cls->Q () { s with heap:=h' }):wpAny M A (noteFrame (.ref a) env) (λ_ il=>wpAny M A (setFlight (.ref a) none) Q E il) E s:=by
 obtain⟨oe,vs,oT,ts,h1,h2,h3,h4,h5,h6,h7,h8,h9⟩:=tr
 have s1:1<vs.size:=(Gp.mp h5).1
 have s3:3<ts.size:=(Gp.mp h9).1
 unfold noteFrame
 simp only[hf]
 refine wpAny_bind (wpAny_field h1 h4 h5 ?_)
 rw[if_pos (by simp)]
 refine wpAny_bind (wpAny_field h7 h8 h9 ?_)
 rw[if_neg (by simp[rawInt])]
 refine wpAny_bind (wpAny_setField h7 h8 s3 ?_)
 generalize hg:s.heap.update T (Obj.mapFields λz=>z.setIfInBounds 3 nq)=g
 have n9:∀b,b≠T->g.get? b=s.heap.get? b:=λb hb=>by rw[<-hg];exact nz _ _ (dz hb)
 have bT:∀b o,s.heap.get? b=some o->(∀ws,o.data≠.fields ws)->b≠T:=λb o q hn z=>by subst z;rw[h7]at q;cases q;exact hn ts h8
 have gT:∃Q8,g.get? T=some Q8:=⟨_,by rw[<-hg];exact yn _ h7 (Gn (yw h8 _))⟩
 refine Ie (s:={ s with heap:=g }) dr (hl.of_keeps λb o q hn=>⟨o,(n9 b (bT b o q hn)).trans q,rfl⟩) hf ((n9 a (dz h6)).trans h1) h4 s1 na λh' T' en=>?_
 have Q9:T'≠T:=λz=>by subst z;obtain⟨o,q⟩:=gT;rw[en.new]at q;cases q
 refine Ii (s:={ s with heap:=h' }) (h2 ▸ en.fin h4 s1 h3) λzK kp zL=>?_
 refine k zK T' ⟨(n9 T' Q9).symm.trans en.new,λb o hz hb q=>?_,λb o hz q=>?_,zL⟩
 ·have z1:b≠a:=λz=>hz (by simp[z])
  have z2:b≠T:=λz=>hz (by simp[z])
  have z3:b≠T':=λz=>by have:=en.new;rw[<-z,n9 b z2,q]at this;cases this
  exact kp b o z3 (en.keep b o z1 hb ((n9 b z2).trans q))
 ·have z1:b≠a:=λz=>hz (by simp[z])
  have z2:b≠T:=λz=>hz (by simp[z])
  have z3:b≠T':=λz=>by have:=en.new;rw[<-z,n9 b z2,q]at this;cases this
  obtain⟨sl,r⟩:=en.slot b o z1 ((n9 b z2).trans q)
  exact⟨sl,kp b _ z3 r⟩
theorem Ra{h1:Heap}{args:List Value}(dr:A.frames=some (env::outer))(hl:s.heap.FunFrames base (env::outer))(hf:env.frame=some L)(hx:Gq s.heap h1 a cls args)
  (k:∀h' T',Ih ((env::outer).filterMap (·.frame)) [] s.heap h' a T' cls->Q () { s with heap:=h' }):wpAny M A (noteFrame (.ref a) env) (λ_ il=>wpAny M A (setFlight (.ref a) none) Q E il) E { s with heap:=h1 }:=by
 obtain⟨t,e1,_,_⟩:=hx.there
 have na:a ∉ (env::outer).filterMap (·.frame):=λhb=>by obtain⟨_,o,ho,_⟩:=hl.mem hb;rw[hx.new]at ho;cases ho
 unfold noteFrame
 simp only[hf]
 refine wpAny_bind (wpAny_field (s:={ s with heap:=h1 }) e1 rfl (x:=.none) (by rfl) ?_)
 rw[if_neg (by decide)]
 refine Ie (s:={ s with heap:=h1 }) dr (hl.of_keeps λb o q _=>⟨o,hx.keeps b o q,rfl⟩) hf e1 rfl (by simp) na λh' T' en=>?_
 refine Ii (s:={ s with heap:=h' }) (en.fin rfl (by simp) rfl) λzK kp zL=>?_
 have ba:∀b o,s.heap.get? b=some o->b≠a:=λb o q z=>by rw[z,hx.new]at q;cases q
 have bT:∀b o,s.heap.get? b=some o->b≠T':=λb o q z=>by have:=hx.keeps b o q;rw[z,en.new]at this;cases this
 refine k zK T' ⟨?_,λb o _ hb q=>kp b o (bT b o q) (en.keep b o (ba b o q) hb (hx.keeps b o q)),λb o _ q=>?_,zL⟩
 ·cases q:s.heap.get? T' with
  | none=>rfl
  | some o=>exact absurd rfl (bT T' o q)
 ·obtain⟨sl,r⟩:=en.slot b o (ba b o q) (hx.keeps b o q)
  exact⟨sl,kp b _ (bT b o q) r⟩
end
end L2
namespace L2
open PySem PySem.Spec PyProof.Rows
theorem cM.there{P:Program}{w:World}{H:Hp}{h:Heap}{a:Addr}{o:HO}(x:cM P w H h a o):∃u,h.get? a=some u:=by
 cases o with
 | lst xs=>obtain⟨_,_,_,_,e⟩:=x;exact⟨_,e⟩
 | tup xs=>obtain⟨_,_,_,o,e,_⟩:=x;exact⟨o,e⟩
 | dK cC=>obtain⟨_,_,_,_,o,_,_,e,_⟩:=x;exact⟨_,e⟩
 | dT cC=>obtain⟨_,_,_,_,o,_,_,e,_⟩:=x;exact⟨_,e⟩
 | set S n=>obtain⟨o,_,_,_,e,_⟩:=x;exact⟨_,e⟩
 | ins C dx fs=>obtain⟨_,_,_,e,_⟩:=x;exact⟨_,e⟩
 | own y=>exact x
 | xd fs=>obtain⟨_,⟨_,_,_,e,_⟩,_⟩:=x;exact⟨_,e⟩
 | sS lo hi=>obtain⟨_,_,_,e⟩:=x;exact⟨_,e⟩
 | bK ob u=>obtain⟨e,_⟩:=x;exact⟨_,e⟩
 | cq ps=>exact⟨_,show h.get? a=some _ from x.1⟩
 | met f y=>exact⟨_,show h.get? a=some _ from x⟩
 | ext φ=>obtain⟨_,e,_⟩:=x;exact e
theorem bR.none{P:Program}{w:World}{H:Hp}{h:Heap}{a:Addr}(x:bR P w H h)(e:h.get? a=.none):H a=.none:=by
 cases q:H a with
 | none=>rfl
 | some u=>obtain⟨o,z⟩:=(x a u q).there;rw[e]at z;cases z
structure Apart(X:Cx)(pins:List (Addr × Obj))(H:Hp)(b:Addr):Prop where
 old:X.bL.heap.get? b=none
 free:H b=none
 loc:b≠X.env.locals
 cell:∀x c,X.env.cells.lookup x=some c->c≠b
 pin:∀p∈X.pn++pins,p.1≠b
 fr:b ∉ cE X.stack
section
variable{X:Cx}{pins:List (Addr × Obj)}{σ:St}{H H':Hp}{s:Shared}{a T b:Addr}{cls:Value}{M:Model}{Q:Unit->Shared->Prop}{E:Value->Shared->Prop}{h':Heap}
theorem Rb(I:Inv X pins σ H s)(hb:b∈cE X.stack):∃o,s.heap.get? b=some o/\∀vs,o.data≠.fields vs:=(I.stack.mem hb).2
theorem Inv.old(I:Inv X pins σ H s)(hex:X.ex=[])(e:s.heap.get? b=none):X.bL.heap.get? b=none:=by
 cases q:X.bL.heap.get? b with
 | none=>rfl
 | some o=>obtain⟨o',z⟩:=I.base.there b o q (by rw[hex];simp);rw[e]at z;cases z
theorem Inv.apart(I:Inv X pins σ H s)(hex:X.ex=[])(e:s.heap.get? b=none)(n:H' b=none):Apart X pins H' b where
 old:=I.old hex e
 free:=n
 loc:=λz=>by obtain⟨m,⟨o,_,_,ho,_⟩,_⟩:=I.loc;rw[z,ho]at e;cases e
 cell:=λx c hc z=>by obtain⟨v,o,ho,_⟩:=I.cell x c hc;rw[z,e]at ho;cases ho
 pin:=λp hp z=>by have:=(I.pin p hp).1;rw[z,e]at this;cases this
 fr:=λhb=>by obtain⟨o,ho,_⟩:=Rb I hb;rw[e]at ho;cases ho
theorem Ij(I:Inv X pins σ H s)(cw:X.stack=X.env::X.outer)(hex:X.ex=[])(hf:X.env.frame=some X.env.locals)(Z:List Addr)(hZ:∀b∈Z,X.bL.heap.get? b=none/\H b=none)
  (keep:∀b o,b ∉ Z->b ∉ cE X.stack->s.heap.get? b=some o->h'.get? b=some o) (slots:∀b o,b ∉ Z->s.heap.get? b=some o->∃sl,h'.get? b=some { o with slots:=sl }) :
  Un (cE X.outer) [] X.ie H X.bL.heap h'/\bR X.prog X.w H h':=by
 have oa:∀b o,X.bL.heap.get? b=some o->b ∉ Z:=λb o e z=>by rw[(hZ b z).1]at e;cases e
 have sub:∀b,b∈cE X.stack->b=X.env.locals\/b∈cE X.outer:=λb hb=>by
  rw[cw]at hb
  unfold cE at hb
  rw[pJ,hf]at hb
  exact bV.mp hb
 have sup:∀b,b∈cE X.outer->b∈cE X.stack:=λb hb=>by
  rw[cw]
  unfold cE
  rw[pJ,hf]
  exact hE _ hb
 have qp:∀b o,X.bL.heap.get? b=some o->b≠X.env.locals:=λb o e=>dG (cm (bj e) I.ok.above)
 have nx:∀b:Addr,b ∉ X.ex:=λb=>by rw[hex];simp
 refine⟨⟨λb o e n hb _=>?_,λb o e n hb _=>?_,λb o e n _=>I.base.free b o e n (nx b),λb o e _=>?_,I.base.eI,I.base.eB,I.base.dH⟩,λb ob e=>?_⟩
 ·exact keep b o (oa b o e) (λz=>(sub b z).elim (qp b o e) hb) (I.base.keep b o e n hb (nx b))
 ·obtain⟨sl,e1⟩:=I.base.slot b o e n hb (nx b)
  exact(slots b _ (oa b o e) e1).imp λsl h=>h
 ·obtain⟨o',e1⟩:=I.base.there b o e (nx b)
  exact(slots b o' (oa b o e) e1).elim λsl q=>⟨_,q⟩
 ·refine(I.av b ob e).gK (λc u hc q=>keep c u (λz=>?_) (λz=>?_) q) (λ_ q=>q) (λ_ _ q=>q) λ_ _ q=>q
  ·have n:=(hZ c z).2
   rcases hc with rfl | hc
   ·rw[n]at e;cases e
   ·rw[n]at hc;cases hc
  ·have n:=I.vD c z
   rcases hc with rfl | hc
   ·rw[n]at e;cases e
   ·rw[n]at hc;cases hc
structure Ik(X:Cx)(H:Hp)(h':Heap)(a T:Addr)(cls:Value):Prop where
 un:Un (cE X.outer) [] X.ie H X.bL.heap h'
 av:bR X.prog X.w H h'
 tQ:n8 h' a T cls
 a0:X.bL.heap.get? a=none
 a1:H a=none
 t0:X.bL.heap.get? T=none
 t1:H T=none
theorem Rc(I:Inv X pins σ H s)(cw:X.stack=X.env::X.outer)(hex:X.ex=[])(hf:X.env.frame=some X.env.locals)(tr:n8 s.heap a T cls)(pa:Apart X pins H a)(pT:Apart X pins H T)
  (hQ:∀h' T',Ik X H h' a T' cls->Q () { s with heap:=h' }):wpAny M X.A (leaving X.env (.ref a)) Q E s:=by
 have hZ:∀b∈[a,T],X.bL.heap.get? b=none/\H b=none:=λb hb=>by
  rcases bV.mp hb with rfl | hb
  ·exact⟨pa.old,pa.free⟩
  ·rw[hW.mp hb];exact⟨pT.old,pT.free⟩
 have na:a ∉ (X.env::X.outer).filterMap (·.frame):=by have:=pa.fr;rw[cw]at this;exact this
 refine wpAny_bind (Q7 (base:=X.base) (by rw[I.ok.frames,cw]) (cw ▸ I.stack) hf na tr λh' T' st=>?_)
 have kp:∀b o,b ∉ [a,T]->b ∉ cE X.stack->s.heap.get? b=some o->h'.get? b=some o:=λb o hz hb q=>st.keep b o hz (by rw[cw]at hb;exact hb) q
 obtain⟨un,av⟩:=Ij (h':=h') I cw hex hf [a,T] hZ kp st.slot
 exact hQ h' T' ⟨un,av,st.tQ,pa.old,pa.free,I.old hex st.new,I.av.none st.new⟩
theorem Rh{h1:Heap}{args:List Value}(I:Inv X pins σ H s)(cw:X.stack=X.env::X.outer)(hex:X.ex=[])(hf:X.env.frame=some X.env.locals)(hx:Gq s.heap h1 a cls args)
  (hQ:∀h' T',Ik X H h' a T' cls->Q () { s with heap:=h' }):wpAny M X.A (leaving X.env (.ref a)) Q E { s with heap:=h1 }:=by
 refine wpAny_bind (Ra (base:=X.base) (by rw[I.ok.frames,cw]) (cw ▸ I.stack) hf hx λh' T' st=>?_)
 have kp:∀b o,b ∉ ([]:List Addr)->b ∉ cE X.stack->s.heap.get? b=some o->h'.get? b=some o:=λb o hz hb q=>st.keep b o hz (by rw[cw]at hb;exact hb) q
 obtain⟨un,av⟩:=Ij (h':=h') I cw hex hf [] (λb hb=>absurd hb (by simp)) kp st.slot
 exact hQ h' T' ⟨un,av,st.tQ,I.old hex hx.new,I.av.none hx.new,I.old hex st.new,I.av.none st.new⟩
end
noncomputable def og(P:Program)(w:World):di:=λouter H s E e s'=>∃a T cls H',e=.ref a/\s'.os=s.os/\AllBare s'.gens/\Un (cE outer) [] H H' s.heap s'.heap/\bR P w H' s'.heap/\n8 s'.heap a T cls /\
 s.heap.get? a=none/\H' a=none/\s.heap.get? T=none/\H' T=none/\E cls none H'
section
variable{X:Cx}{pins:List (Addr × Obj)}{σ:St}{H H':Hp}{s:Shared}{a T b:Addr}{cls:Value}{M:Model}{Q:Unit->Shared->Prop}{E:Value->Shared->Prop}{h':Heap}
theorem Inv.cw6(I:Inv X pins σ H s)(hex:X.ex=[])(Z:List Addr)(hZ:∀b∈Z,Apart X pins H b)
  (keep:∀b o,b ∉ Z->b ∉ cE X.stack->s.heap.get? b=some o->h'.get? b=some o) (slots:∀b o,b ∉ Z->s.heap.get? b=some o->∃sl,h'.get? b=some { o with slots:=sl }) (g':Array GenState) (t':Nat) (d':Drawn) (hg:AllBare g') :
  Inv X pins σ H { s with heap:=h',gens:=g',toks:=t',drawn:=d' }:=by
 have nx:∀b:Addr,b ∉ X.ex:=λb=>by rw[hex];simp
 have any:=slots
 have oa:∀b o,X.bL.heap.get? b=some o->b ∉ Z:=λb o e z=>by rw[(hZ b z).old]at e;cases e
 have qp:∀b o,X.bL.heap.get? b=some o->b≠X.env.locals:=λb o e=>dG (cm (bj e) I.ok.above)
 have cz:∀x c,X.env.cells.lookup x=some c->c ∉ Z:=λx c e z=>(hZ c z).cell x c e rfl
 have cellK:∀x c,X.env.cells.lookup x=some c->∀v,s.heap.IsCell c v->h'.IsCell c v:=λx c e v zz=>by
  obtain⟨o,ho,hd⟩:=zz
  obtain⟨sl,q⟩:=any c o (cz x c e) ho
  exact⟨_,q,hd⟩
 have Il:∀b,b ∉ X.fs->b≠X.env.locals->b ∉ cE X.stack:=λb h1 h2 h3=>(bV.mp (I.sX b h3)).elim h2 h1
 refine⟨I.ok,I.os,hg,⟨λb o e n hb hx=>?_,λb o e n hb hx=>?_,I.base.free,λb o e hx=>?_,I.base.eI,I.base.eB,I.base.dH⟩,?_,λx c e=>?_,I.free,I.fy,λp hp=>?_,λb ob e=>?_,I.len⟩
 ·exact keep b o (oa b o e) (Il b hb (qp b o e)) (I.base.keep b o e n hb hx)
 ·obtain⟨sl,e1⟩:=I.base.slot b o e n hb hx
  obtain⟨sT,e2⟩:=any b _ (oa b o e) e1
  exact⟨sT,e2⟩
 ·obtain⟨o',e1⟩:=I.base.there b o e hx
  obtain⟨sl,e2⟩:=any b o' (oa b o e) e1
  exact⟨_,e2⟩
 ·obtain⟨m,hn,hl⟩:=I.loc
  obtain⟨o,es,ep,ho,hd,r⟩:=id hn
  obtain⟨sl,q⟩:=slots _ o (λz=>(hZ _ z).loc rfl) ho
  refine⟨m,⟨_,es,ep,q,hd,r⟩,λi x v e1 e2 e3=>?_⟩
  obtain⟨u,r,l⟩:=hl i x v e1 e2 e3
  refine⟨u,r,?_⟩
  rcases l with l | ⟨k,c,e,z⟩
  ·exact .inl l
  ·exact .inr ⟨k,c,e,cellK x c e _ z⟩
 ·obtain⟨v,z⟩:=I.cell x c e
  exact⟨v,cellK x c e v z⟩
 ·obtain⟨e,n,ne,nf,d⟩:=I.pin p hp
  exact⟨keep p.1 p.2 (λz=>(hZ _ z).pin p hp rfl) (Il _ nf ne) e,n,ne,nf,d⟩
 ·refine(I.av b ob e).gK (λc u hc q=>keep c u (λz=>?_) (λz=>?_) q) (λ_ q=>q) (λ_ _ q=>q) λ_ _ q=>q
  ·have n:=(hZ c z).free
   rcases hc with rfl | hc
   ·rw[n]at e;cases e
   ·rw[n]at hc;cases hc
  ·have n:=I.vD c z
   rcases hc with rfl | hc
   ·rw[n]at e;cases e
   ·rw[n]at hc;cases hc
end
end L2
namespace L2
open PySem PySem.W PySem.Spec PySem.Calls PyProof.Rows
section
variable{prog:Program}{w:World}{A:Around}{E:Value->Shared->Prop}{s:Shared}{K:Frag}{x D:Addr}{ox:Obj}{Ri:Option Obj}
end
end L2
namespace L2
open PySem PySem.W PySem.Spec PySem.Calls PyProof.Rows
section
variable{prog:Program}{w:World}{A:Around}{E:Value->Shared->Prop}{s:Shared}{K:Frag}{x D:Addr}{ox:Obj}{Ri:Option Obj}
structure Rj(K:Frag)(C:Addr):Prop where
 cls:(clsIn K C).isSome=true
 ga:findIn K (.ref C) "__getattribute__"=some (some (.builtin "BaseException.__getattribute__"))
 gt:findIn K (.ref C) "__getattr__"=some none
 ca:findIn K (.ref C) "__class__"=some (some (.builtin "object.__class__"))
 hn:specialIn K (.builtin "object.__class__") "__get__"=some (some (.builtin "getset_descriptor.__get__"))
 tk:takesIn K (.builtin "object.__class__")=some true
 mo:mroIn K C (.type "object")=some true
 mb:mroIn K C (.type "BaseException")=some true
noncomputable def Rk(a C:Addr)(h:Heap):Prop:=∃o,h.get? a=some o/\o.cls=.ref C/\notCls o=true/\o.dict=none
end
end L2
namespace L2
open PySem PySem.Spec PyProof.Rows
section
variable{X:Cx}{pins:List (Addr × Obj)}{σ:St}{H:Hp}{s:Shared}{h':Heap}{its:List Addr}{T:Addr}{o:HO}{t':Nat}
theorem Inv.vV(I:Inv X pins σ H s)(k:∀b o,b ∉ its->s.heap.get? b=some o->h'.get? b=some o)(hf:∀b∈its,fB X pins H b):Inv X pins σ H { s with heap:=h',toks:=t' }:=by
 have kT:∀b u,H b=some u->b ∉ its:=λb u e z=>by have:=(hf b z).1;rw[this]at e;cases e
 refine I.step (g':=s.gens) (d':=s.drawn) (ch:=its) (λb hb=>?_) (λb o _ _ hc e _=>k b o hc e) (λb o _ _ hc e _=>⟨o.slots,k b o hc e⟩) (λ_ _ _ _ n=>n)
  (λb o hc e=>⟨o,k b o hc e⟩) (λ_ _ e=>e) (λ_ _ _ e=>e) (λb ps e=>⟨#[],by rw[e];simp⟩) (λm hm=>?_) (λb u e=>?_) I.bare
 ·obtain⟨_,h1,_,h2,h3,h4⟩:=hf b hb
  exact⟨h2,h1,h3,h4⟩
 ·obtain⟨o,es,ep,ho,r⟩:=hm
  exact⟨o,es,ep,k _ o (λz=>(hf _ z).2.1 rfl) ho,r⟩
 ·refine(I.av b u e).gK (λc v hc q=>k c v ?_ q) (λ_ q=>q) (λ_ _ q=>q) λ_ _ q=>q
  rcases hc with z | z
  ·rw[z];exact kT b u e
  ·exact kT c _ z
theorem Inv.Im(I:Inv X pins σ H s)(k:∀b o,b ∉ its->s.heap.get? b=some o->h'.get? b=some o)(hf:∀b∈its,fB X pins H b)(hT:s.heap.objs.size<=T)(new:cM X.prog X.w (upd H T o) h' T o) :
  Inv X pins σ (upd H T o) { s with heap:=h',toks:=t' }:=by
 have kT:∀b u,H b=some u->b ∉ its:=λb u e z=>by have:=(hf b z).1;rw[this]at e;cases e
 have fT:H T=none:=I.av.fresh hT
 have neT:∀b u,H b=some u->b≠T:=λb u e z=>by rw[z,fT]at e;cases e
 have Rl:∀b u,s.heap.get? b=some u->b≠T:=λb u e z=>absurd (cm (bj e) hT) (by rw[z];exact eQ _)
 refine I.step (g':=s.gens) (d':=s.drawn) (ch:=its) (λb hb=>?_) (λb o _ _ hc e _=>k b o hc e) (λb o _ _ hc e _=>⟨o.slots,k b o hc e⟩) (λb u _ e n=>by rw[aD (Rl b u e)];exact n)
  (λb o hc e=>⟨o,k b o hc e⟩) (λb _ e=>by rw[aD (neT b _ e)];exact e) (λb _ _ e=>by rw[aD (neT b _ e)];exact e) (λb ps e=>⟨#[],by rw[aD (neT b _ e),e];simp⟩) (λm hm=>?_) (λb u e=>?_) I.bare
 ·obtain⟨_,h1,_,h2,h3,h4⟩:=hf b hb
  exact⟨h2,h1,h3,h4⟩
 ·obtain⟨o,es,ep,ho,r⟩:=hm
  exact⟨o,es,ep,k _ o (λz=>(hf _ z).2.1 rfl) ho,r⟩
 ·by_cases hb:b=T
  ·subst hb;rw[bw]at e;cases e;exact new
  ·rw[aD hb]at e
   refine(I.av b u e).gK (λc v hc q=>k c v ?_ q) (λc q=>by rw[aD (neT c _ q)];exact q) (λc _ q=>by rw[aD (neT c _ q)];exact q) λc _ q=>by rw[aD (neT c _ q)];exact q
   rcases hc with z | z
   ·rw[z];exact kT b u e
   ·exact kT c _ z
noncomputable def zM(K:PySem.W.Frag)(a b:Addr):It :=
 ⟨λi H=>∃xs ys x y,aM K H a xs/\aM K H b ys/\xs[i]?=some x/\ys[i]?=some y,
  λi H v H'=>∃T x y,v=.ref T/\H T=none/\H'=upd H T (.tup [x,y])/\(∀xs,aM K H a xs->xs[i]?=some x)/\∀ys,aM K H b ys->ys[i]?=some y,
  λi H=>∃xs ys,aM K H a xs/\aM K H b ys/\(xs.length<=i\/ys.length<=i)⟩
theorem ly{K:PySem.W.Frag}{a c:Addr}{xs:List V}(hk:X.K=K)(I:Inv X pins σ H s)(h:aM K H a xs)(hf:fB X pins H c)(ho:∃o,s.heap.get? c=some o/\o.cls≠.type "list"):a≠c:=by
 subst hk
 obtain⟨its,rv,p,hz⟩:=I.list h
 obtain⟨o,e,d⟩:=ho
 obtain⟨o',e',c',_⟩:=p.isList
 intro z
 subst z
 rw[e]at e';cases e'
 exact d c'
theorem Rm{P:Program}{w:World}{K:PySem.W.Frag}{elts:List Expr}{k:Nat}{pos:Pos}(a b z TI TO i1 i2:Addr)(D5:[z,TI,TO,i1,i2].Nodup) :
  Turn P w K (.Tuple elts k pos) (zM K a b) [z,TI,TO,i1,i2] z (λi h=>IsZip h z TI TO .none/\IsPair h TI (.ref i1) (.ref i2)/\(∃u v,IsPair h TO u v)/\h.IsListIter i1 a i/\h.IsListIter i2 b i):=by
 have ap:∀(X:Cx) (pins:List (Addr × Obj)) (s:Shared) (σ:St) (H:Hp) (i:Nat) (xs ys:List V),X.K=K->Inv X pins σ H s->(∀b∈[z,TI,TO,i1,i2],fB X pins H b)->IsZip s.heap z TI TO .none->(∃u v,IsPair s.heap TO u v)->s.heap.IsListIter i1 a i->s.heap.IsListIter i2 b i ->
   aM K H a xs->aM K H b ys->ZipApart z TI TO i1 i2 a b:=by
  intro X pins s σ H i xs ys hK I hf hz fJ h1 h2 hx hy
  simp only[gH,bV,not_or,ia,not_false_eq_true,and_true]at D5
  obtain⟨⟨d1,d2,d3,d4⟩,⟨d5,d6,d7⟩,⟨d8,d9⟩,Rn,_⟩:=D5
  have oz:∃o,s.heap.get? z=some o/\o.cls≠.type "list":=⟨_,hz,by intro q;exact absurd (yx q) (by decide)⟩
  have Io:∃o,s.heap.get? TO=some o/\o.cls≠.type "list":=by obtain⟨u,v,e⟩:=fJ;exact⟨_,e,by intro q;exact absurd (yx q) (by decide)⟩
  have o1:∃o,s.heap.get? i1=some o/\o.cls≠.type "list":=by obtain⟨o,e,c,d⟩:=h1;exact⟨_,e,by rw[c];intro q;exact absurd (yx q) (by decide)⟩
  have o2:∃o,s.heap.get? i2=some o/\o.cls≠.type "list":=by obtain⟨o,e,c,d⟩:=h2;exact⟨_,e,by rw[c];intro q;exact absurd (yx q) (by decide)⟩
  exact⟨dz d1,dz d2,dz d3,dz d4,d5,d6,d7,d8,d9,Rn,
   ly hK I hx (hf z (by simp)) oz,ly hK I hx (hf TO (by simp)) Io,ly hK I hx (hf i1 (by simp)) o1,ly hK I hx (hf i2 (by simp)) o2,
   ly hK I hy (hf z (by simp)) oz,ly hK I hy (hf TO (by simp)) Io,ly hK I hy (hf i1 (by simp)) o1,ly hK I hy (hf i2 (by simp)) o2⟩
 refine⟨by simp,λi h st c hc=>?_,λi h h' st kk=>?_,?_,?_,λ_ _ _ _ _ st h=>wpAny_pyIter_zip st.1 h⟩
 ·obtain⟨hz,iu,⟨u,v,fJ⟩,⟨o1,e1,c1,d1⟩,⟨o2,e2,c2,d2⟩⟩:=st
  simp only[bV,ia,or_false]at hc
  rcases hc with rfl | rfl | rfl | rfl | rfl
  ·exact⟨_,hz,λv q=>by cases q⟩
  ·exact⟨_,iu,λv q=>by cases q⟩
  ·exact⟨_,fJ,λv q=>by cases q⟩
  ·exact⟨_,e1,λv q=>by rw[d1]at q;cases q⟩
  ·exact⟨_,e2,λv q=>by rw[d2]at q;cases q⟩
 ·obtain⟨hz,iu,⟨u,v,fJ⟩,h1,h2⟩:=st
  exact⟨kk _ (by simp) _ hz,kk _ (by simp) _ iu,⟨u,v,kk _ (by simp) _ fJ⟩,h1.at λo e=>kk _ (by simp) o e,h2.at λo e=>kk _ (by simp) o e⟩
 ·intro X hP hw hK hc i pins s σ H E I hf st hg
  obtain⟨xs,ys,x,y,hx,hy,ex,ey⟩:=hg
  obtain⟨hz,iu,⟨u,v,fJ⟩,h1,h2⟩:=st
  have D:=ap X pins s σ H i xs ys hK I hf hz ⟨u,v,fJ⟩ h1 h2 hx hy
  subst hP hw hK
  obtain⟨as,ra,pa,_⟩:=I.list hx
  obtain⟨bs,rb,pb,_⟩:=I.list hy
  obtain⟨ux,zN,rx⟩:=ra.get ex
  obtain⟨uy,Ro,ry⟩:=rb.get ey
  refine wpAny_pyNext_zip_item D hz iu fJ h1 h2 pa.isList pb.isList (x:=ux) (y:=uy) (by simpa using zN) (by simpa using Ro) λh' z' Rp eU gn T' sz kk=>?_
  have fT:H s.heap.objs.size=none:=I.av.fresh (bH _)
  have I1:Inv X pins σ (upd H s.heap.objs.size (.tup [x,y])) { s with heap:=h',toks:=s.toks }:=I.Im (its:=[z,TO,i1,i2]) (λc o hc e=>kk c o (λq=>hc (by simp[q])) (λq=>hc (by simp[q])) (λq=>hc (by simp[q])) (λq=>hc (by simp[q])) e)
   (λc hc=>hf c (by simp only[bV,ia,or_false]at hc ⊢;rcases hc with rfl | rfl | rfl | rfl<;>simp)) (bH _) ⟨by show 2<=sizeLine;decide,[ux,uy],.cons rx (.cons ry .nil),⟨_,T',rfl,_,rfl⟩⟩
  have nT:∀c∈[z,TI,TO,i1,i2],c≠s.heap.objs.size:=λc hc q=>by
   have:∃o,s.heap.get? c=some o:=by
    simp only[bV,ia,or_false]at hc
    rcases hc with rfl | rfl | rfl | rfl | rfl
    ·exact⟨_,hz⟩
    ·exact⟨_,iu⟩
    ·exact⟨_,fJ⟩
    ·obtain⟨o,e,_⟩:=h1;exact⟨o,e⟩
    ·obtain⟨o,e,_⟩:=h2;exact⟨o,e⟩
   obtain⟨o,e⟩:=this
   exact absurd (bj e) (by rw[q];exact eQ _)
  refine⟨_,rfl,wpAny_letOwnedTupleGo_zip z' λzO zP sb=>?_⟩
  have zQ:∀c∈[z],fB X pins (upd H s.heap.objs.size (.tup [x,y])) c:=λc hc=>by
   have e:c=z:=by simpa using hc
   subst e
   obtain⟨f0,fr⟩:=hf c (by simp)
   exact⟨by rw[aD (nT c (by simp))];exact f0,fr⟩
  have I2:=Inv.vV (h':=zO) (its:=[z]) (t':=s.toks) I1 (λc o hc e=>sb.extBut _ _ (λq=>hc (by simp[q])) e) zQ
  refine⟨.ref s.heap.objs.size,_,I2,rfl,⟨_,x,y,rfl,fT,rfl,λRq dO=>by rw[I.vH dO hx];exact ex,λys' Rt=>by rw[I.vH Rt hy];exact ey⟩,⟨zP,sb.extBut _ _ D.TIz (kk _ _ D.TIz D.TITO D.TIi1 D.TIi2 iu),⟨ux,uy,sb.extBut _ _ D.TOz Rp⟩,eU.extBut sb.extBut D.i1z,gn.extBut sb.extBut D.i2z⟩,λc hc=>?_⟩
  rw[aD (nT c hc)]
  exact(hf c hc).1
 ·intro X hP hw hK hc i pins s σ H E I hf st hg
  obtain⟨xs,ys,hx,hy,hl⟩:=hg
  obtain⟨hz,iu,⟨u,v,fJ⟩,h1,h2⟩:=st
  have D:=ap X pins s σ H i xs ys hK I hf hz ⟨u,v,fJ⟩ h1 h2 hx hy
  subst hP hw hK
  obtain⟨as,ra,pa,_⟩:=I.list hx
  obtain⟨bs,rb,pb,_⟩:=I.list hy
  have la:=ra.length
  have lb:=rb.length
  refine wpAny_pyNext_zip_end (I.ok.hd hc) D hz iu fJ h1 h2 pa.isList pb.isList (hl.imp (λq=>by simp;omega) λq=>by simp;omega) λh' kk=>⟨rfl,?_⟩
  exact I.vV (its:=[z,TO,i1,i2]) (t':=s.toks) (λc o hc e=>kk c o (λq=>hc (by simp[q])) (λq=>hc (by simp[q])) (λq=>hc (by simp[q])) (λq=>hc (by simp[q])) e)
   (λc hc=>hf c (by simp only[bV,ia,or_false]at hc ⊢;rcases hc with rfl | rfl | rfl | rfl<;>simp))
noncomputable def zR(K:PySem.W.Frag)(a:Addr):It :=
 ⟨λi H=>∃xs x,aM K H a xs/\xs[i]?=some x,
  λi H v H'=>∃T x,v=.ref T/\H T=none/\H'=upd H T (.tup [.int i,x])/\∀xs,aM K H a xs->xs[i]?=some x,
  λi H=>∃xs,aM K H a xs/\xs.length<=i⟩
theorem Ru{P:Program}{w:World}{K:PySem.W.Frag}{elts:List Expr}{k:Nat}{pos:Pos}(a z it:Addr)(oh:z≠it) :
  Turn P w K (.Tuple elts k pos) (zR K a) [z,it] z (λi h=>(∃old,IsEnum h z it i old)/\h.IsListIter it a i):=by
 refine⟨by simp,λi h st c hc=>?_,λi h h' st kk=>?_,?_,?_,λ_ _ _ _ _ st h=>by obtain⟨⟨old,e⟩,_⟩:=st;exact wpAny_pyIter_enum e h⟩
 ·obtain⟨⟨old,hz⟩,⟨o1,e1,c1,d1⟩⟩:=st
  simp only[bV,ia,or_false]at hc
  rcases hc with rfl | rfl
  ·exact⟨_,hz,λv q=>by cases q⟩
  ·exact⟨_,e1,λv q=>by rw[d1]at q;cases q⟩
 ·obtain⟨⟨old,hz⟩,h1⟩:=st
  exact⟨⟨old,kk _ (by simp) _ hz⟩,h1.at λo e=>kk _ (by simp) o e⟩
 ·intro X hP hw hK hc i pins s σ H E I hf st hg
  subst hP hw hK
  obtain⟨xs,x,hx,ex⟩:=hg
  obtain⟨⟨old,hz⟩,h1⟩:=st
  obtain⟨as,ra,pa,_⟩:=I.list hx
  obtain⟨ux,zN,rx⟩:=ra.get ex
  refine wpAny_pyNext_enum_item hz h1 pa.isList (x:=ux) (by simpa using zN) oh λh' z' eU T' sz kk=>?_
  have fT:H s.heap.objs.size=none:=I.av.fresh (bH _)
  have I1:Inv X pins σ (upd H s.heap.objs.size (.tup [.int i,x])) { s with heap:=h',toks:=s.toks+1 }:=I.Im (its:=[z,it]) (λc o hc e=>kk c o (λq=>hc (by simp[q])) (λq=>hc (by simp[q])) e)
   (λc hc=>hf c hc) (bH _) ⟨by show 2<=sizeLine;decide,[.int i s.toks,ux],.cons ⟨_,rfl⟩ (.cons rx .nil),⟨_,T',rfl,_,rfl⟩⟩
  have nT:∀c∈[z,it],c≠s.heap.objs.size:=λc hc q=>by
   have:∃o,s.heap.get? c=some o:=by
    simp only[bV,ia,or_false]at hc
    rcases hc with rfl | rfl
    ·exact⟨_,hz⟩
    ·obtain⟨o,e,_⟩:=h1;exact⟨o,e⟩
   obtain⟨o,e⟩:=this
   exact absurd (bj e) (by rw[q];exact eQ _)
  refine⟨_,rfl,wpAny_letOwnedTupleGo_enum z' λzO zP sb=>?_⟩
  have zQ:∀c∈[z],fB X pins (upd H s.heap.objs.size (.tup [.int i,x])) c:=λc hc=>by
   have e:c=z:=by simpa using hc
   subst e
   obtain⟨f0,fr⟩:=hf c (by simp)
   exact⟨by rw[aD (nT c (by simp))];exact f0,fr⟩
  have I2:=Inv.vV (h':=zO) (its:=[z]) (t':=s.toks+1) I1 (λc o hc e=>sb.extBut _ _ (λq=>hc (by simp[q])) e) zQ
  refine⟨.ref s.heap.objs.size,_,I2,rfl,⟨_,x,rfl,fT,rfl,λRq dO=>by rw[I.vH dO hx];exact ex⟩,⟨⟨ux,by simpa using zP⟩,eU.extBut sb.extBut (dz oh)⟩,λc hc=>?_⟩
  rw[aD (nT c hc)]
  exact(hf c hc).1
 ·intro X hP hw hK hc i pins s σ H E I hf st hg
  subst hP hw hK
  obtain⟨xs,hx,hl⟩:=hg
  obtain⟨⟨old,hz⟩,h1⟩:=st
  obtain⟨as,ra,pa,_⟩:=I.list hx
  have la:=ra.length
  refine wpAny_pyNext_enum_end (I.ok.hd hc) hz h1 pa.isList (by simp;omega) λh' kk=>⟨rfl,?_⟩
  exact I.vV (its:=[it]) (t':=s.toks) (λc o hc e=>kk c o (λq=>hc (by simp[q])) e) (λc hc=>hf c (by simp at hc ⊢;simp[hc]))
end
section
variable{X:Cx}{a b:Expr}{ta:TA}{p pos nU:Pos}{elts:List Expr}{x1:Nat}
noncomputable def Rv(K:PySem.W.Frag)(ta:TA):TI:=λσ H R=>ta σ H λvs H1=>∃a b,vs=[.ref a,.ref b]/\(∃xs,aM K H1 a xs)/\(∃ys,aM K H1 b ys)/\R (zM K a b) H1
theorem Rw:bootBuiltins "zip"=some (.type "zip"):=by decide +kernel
theorem Rx(hg:Gl X "zip")(hm:X.mg "zip"=none)(ha:PA X [a,b] ta)(hs:starEach [a,b] X.env=[(false,eval a X.env),(false,eval b X.env)]:=by rfl)(fC:starEach [b] X.env=[(false,eval b X.env)]:=by rfl) :
  PI X (.Tuple elts x1 nU) (.Call (.Name "zip" p) [a,b] [] pos) (Rv X.K ta):=by
 intro pins s σ H R I h
 refine Call_ (nM I hg hm Rw (vn (aG (ha pos pins s σ H _ I h) λus s1 ⟨vs,H1,I1,r1,q1⟩=>?_) (by rw[hs,fC]) (by rw[fC];rfl)))
 obtain⟨a,b,e,⟨xs,hx⟩,⟨ys,hy⟩,q⟩:=q1
 subst e
 cases r1 with
 | cons r rr =>
  cases rr with
  | cons r2 rr =>
   cases rr
   cases r
   cases r2
   obtain⟨as,ra,pa,_⟩:=I1.list hx
   obtain⟨bs,rb,pb,_⟩:=I1.list hy
   refine call_zip_2 pa.isList pb.isList λh' hz iu fJ h1 h2 sz kk=>wpAny_pyIter_zip hz ?_
   refine⟨_,[s1.heap.objs.size+4,s1.heap.objs.size+2,s1.heap.objs.size+3,s1.heap.objs.size,s1.heap.objs.size+1],_,_,H1,rfl,I1.kept (t':=s1.toks) kk,Rm a b _ _ _ _ _ (by simp),⟨hz,iu,⟨_,_,fJ⟩,h1,h2⟩,λc hc=>?_,q⟩
   have hle:s1.heap.objs.size<=c:=by
    simp only[bV,ia,or_false]at hc
    rcases hc with rfl | rfl | rfl | rfl | rfl<;>omega
   exact I1.vK hle (I1.av.fresh hle)
noncomputable def Ry(K:PySem.W.Frag)(ta:TA):TI:=λσ H R=>ta σ H λvs H1=>∃a,vs=[.ref a]/\(∃xs,aM K H1 a xs)/\R (zR K a) H1
theorem Rz:bootBuiltins "enumerate"=some (.type "enumerate"):=by decide +kernel
theorem RA(hg:Gl X "enumerate")(hm:X.mg "enumerate"=none)(ha:PA X [a] ta)(hs:starEach [a] X.env=[(false,eval a X.env)]:=by rfl) :
  PI X (.Tuple elts x1 nU) (.Call (.Name "enumerate" p) [a] [] pos) (Ry X.K ta):=by
 intro pins s σ H R I h
 refine Call_ (nM I hg hm Rz (vn (aG (ha pos pins s σ H _ I h) λus s1 ⟨vs,H1,I1,r1,q1⟩=>?_) hs rfl))
 obtain⟨a,e,⟨xs,hx⟩,q⟩:=q1
 subst e
 cases r1 with
 | cons r rr =>
  cases rr
  cases r
  obtain⟨as,ra,pa,_⟩:=I1.list hx
  refine call_enumerate_list pa.isList λh' hz h1 sz kk=>wpAny_pyIter_enum hz ?_
  refine⟨_,[s1.heap.objs.size+1,s1.heap.objs.size],_,_,H1,rfl,I1.kept (t':=s1.toks) kk,Ru a (s1.heap.objs.size+1) s1.heap.objs.size (Nat.succ_ne_self _),⟨⟨_,hz⟩,h1⟩,λc hc=>?_,q⟩
  have hle:s1.heap.objs.size<=c:=by
   simp only[bV,ia,or_false]at hc
   rcases hc with rfl | rfl<;>omega
  exact I1.vK hle (I1.av.fresh hle)
end
end L2
namespace L2
open PySem PySem.Spec PyProof.Rows PySem.W PySem.Calls
section
variable{X:Cx}
end
end L2
namespace L3
open PySem L2
noncomputable def eV:HO->Bool
 | .cq _=>false
 | _=>true
structure ae(H H':Hp):Prop where
 get:∀b o,H b=some o->(h:eV o=true:=by rfl)->H' b=some o
 tb:∀b ps,H b=some (.cq ps)->∃more,H' b=some (.cq (ps++more))
noncomputable instance {H H':Hp}:CoeFun (ae H H') λ_=>∀b o,H b=some o->(h:eV o=true:=by rfl)->H' b=some o:=⟨λs=>@ae.get _ _ s⟩
theorem tR{o:HO}(h:eV o=false):∃ps,o=.cq ps:=by
 cases o with
 | cq ps=>exact⟨ps,rfl⟩
 | _=>cases h
theorem ae.of{H H':Hp}(h:∀b o,H b=some o->H' b=some o):ae H H':=⟨λb o e _=>h b o e,λb ps e=>⟨#[],by rw[h b _ e];simp⟩⟩
theorem ae.refl(H:Hp):ae H H:=.of λ_ _ h=>h
theorem ae.trans{H H1 H2:Hp}(a:ae H H1)(b:ae H1 H2):ae H H2 :=
 ⟨λc o h n=>b.get c o (a.get c o h n) n,λc ps h=>by
  obtain⟨m1,e1⟩:=a.tb c ps h
  obtain⟨m2,e2⟩:=b.tb c _ e1
  exact⟨m1++m2,by rw[e2,sF]⟩⟩
theorem ae.any{H H':Hp}(e:ae H H'){l:Addr}{o:HO}(h:H l=some o):∃o',H' l=some o':=by
 cases n:eV o with
 | true=>exact⟨o,e.get l o h n⟩
 | false =>
  obtain⟨ps,rfl⟩:=tR n
  obtain⟨m,q⟩:=e.tb l ps h
  exact⟨_,q⟩
theorem ae.free{H H':Hp}(e:ae H H'){l:Addr}(h:H' l=yo):H l=yo:=by
 cases q:H l with
 | none=>rfl
 | some o =>
  obtain⟨o',z⟩:=e.any q
  rw[z]at h
  cases h
theorem ae.seq{K:PySem.W.Frag}{H H':Hp}{a:Addr}{xs:List V}(e:ae H H')(h:aM K H a xs):aM K H' a xs:=by
 rcases h with (h | ⟨o,h⟩) | h
 ·exact .inl (.inl (e _ _ h))
 ·exact .inl (.inr ⟨o,e _ _ h⟩)
 ·exact .inr h
inductive qI where
 | ext (φ:Addr->Heap->Prop)
 | lam (of oc:Obj) (c k:Addr)
noncomputable instance:Coe (Addr->Heap->Prop) qI:=⟨.ext⟩
noncomputable def zS(H:Hp)(k:Addr):Prop:=∃ψ,H k=some (.ext ψ)/\∀h,ψ h->∃q,h.CodeRec (.ref k) q
noncomputable def gq(of oc:Obj)(c p:Addr):Heap->Prop:=λh=>h.get? p=some of/\h.get? c=some oc
structure ff(H:Hp)(p:Addr)(of oc:Obj)(c k:Addr):Prop where
 fn:H p=some (.ext (gq of oc c p))
 cell:H c=some (.own p)
 zT:zS H k
noncomputable def lz(H:Hp)(p:Addr):qI->Prop
 | .ext φ=>H p=some (.ext (φ p))
 | .lam of oc c k=>ff H p of oc c k
theorem lz.mono{H H':Hp}{p:Addr}:∀{z:qI},lz H p z->(∀a o,H a=some o->(∀ws,o≠.lst ws)->eV o=true->H' a=some o)->lz H' p z
 | .ext φ,x,k=>k _ _ x (λws q=>by cases q) rfl
 | .lam of oc c k',x,k=>⟨k _ _ x.fn (λws q=>by cases q) rfl,k _ _ x.cell (λws q=>by cases q) rfl,let⟨ψ,e,h⟩:=x.zT;⟨ψ,k _ _ e (λws q=>by cases q) rfl,h⟩⟩
inductive D where
 | ak | bl (b:Bool) | int (i:Int) | str (x:Str)
 | lst (o:Bool) (xs:List D)
 | tup (xs:List D)
 | obj (C:Addr) (ns:List Str) (xs:List D)
 | fz (xs:List D)
 | aQ (z:qI)
 deriving Inhabited
noncomputable def D.pl:D->Bool
 | .lst o xs=>!o&&tS xs
 | .tup xs=>tS xs
 | _=>true
where tS:List D->Bool
 | []=>true
 | d::ds=>d.pl&&tS ds
noncomputable def D.fr:D->Bool
 | .lst o xs=>o&&tT xs
 | .tup xs=>tT xs
 | .obj _ _ _=>false
 | .fz _=>false
 | _=>true
where tT:List D->Bool
 | []=>true
 | d::ds=>d.fr&&tT ds
noncomputable def D.sh:D->D
 | .lst _ xs=>.lst false (tU xs)
 | .tup xs=>.tup (tU xs)
 | d=>d
where tU:List D->List D
 | []=>[]
 | d::ds=>d.sh::tU ds
theorem Ip(ds:List D):D.pl.tS ds=ds.all D.pl:=by induction ds with | nil=>rfl | cons d ds ih=>simp[D.pl.tS,ih]
theorem Iq(ds:List D):D.fr.tT ds=ds.all D.fr:=by induction ds with | nil=>rfl | cons d ds ih=>simp[D.fr.tT,ih]
theorem Ir(ds:List D):D.sh.tU ds=ds.map D.sh:=by induction ds with | nil=>rfl | cons d ds ih=>simp[D.sh.tU,ih]
theorem eW(o:Bool)(xs:List D):(D.lst o xs).pl=(!o&&xs.all D.pl):=by simp[D.pl,Ip]
theorem gO(xs:List D):(D.tup xs).pl=xs.all D.pl:=by simp[D.pl,Ip]
theorem eF(o:Bool)(xs:List D):(D.lst o xs).fr=(o&&xs.all D.fr):=by simp[D.fr,Iq]
theorem jG(xs:List D):(D.tup xs).fr=xs.all D.fr:=by simp[D.fr,Iq]
theorem dZ(o:Bool)(xs:List D):(D.lst o xs).sh=.lst false (xs.map D.sh):=by simp[D.sh,Ir]
theorem iy(xs:List D):(D.tup xs).sh=.tup (xs.map D.sh):=by simp[D.sh,Ir]
inductive R(F H:Hp):List D->List V->List Addr->Prop
 | nil:R F H [] [] []
 | ak {ds vs B}:R F H ds vs B->R F H (.ak::ds) (.ak::vs) B
 | bl {b ds vs B}:R F H ds vs B->R F H (.bl b::ds) (.bl b::vs) B
 | int {i ds vs B}:R F H ds vs B->R F H (.int i::ds) (.int i::vs) B
 | str {x ds vs B}:R F H ds vs B->R F H (.str x::ds) (.str x::vs) B
 | shr {p ws xs ds vs B}:F p=some (.lst ws)->R F H xs ws []->R F H ds vs B->R F H (.lst false xs::ds) (.ref p::vs) B
 | own {p ws xs A ds vs B}:H p=some (.lst ws)->F p=none->R F H xs ws A->R F H ds vs B->R F H (.lst true xs::ds) (.ref p::vs) (p::(A++B))
 | tup {p ws xs A ds vs B}:H p=some (.tup ws)->R F H xs ws A->R F H ds vs B->R F H (.tup xs::ds) (.ref p::vs) (A++B)
 | obj {p C dx ns ws xs ds vs B}:H p=some (.ins C dx (ns.zip ws))->ns.length=ws.length->R F H xs ws []->R F H ds vs B->R F H (.obj C ns xs::ds) (.ref p::vs) B
 | fz {p o ws xs ds vs B}:F p=some (.bK o (.lst ws))->R F H xs ws []->R F H ds vs B->R F H (.fz xs::ds) (.ref p::vs) B
 | aQ {p z ds vs B}:lz H p z->R F H ds vs B->R F H (.aQ z::ds) (.ref p::vs) B
inductive S(F H:Hp):List D->List V->Prop
 | nil:S F H [] []
 | ak {ds vs}:S F H ds vs->S F H (.ak::ds) (.ak::vs)
 | bl {b ds vs}:S F H ds vs->S F H (.bl b::ds) (.bl b::vs)
 | int {i ds vs}:S F H ds vs->S F H (.int i::ds) (.int i::vs)
 | str {x ds vs}:S F H ds vs->S F H (.str x::ds) (.str x::vs)
 | shr {p ws xs ds vs}:F p=some (.lst ws)->R F H xs ws []->S F H ds vs->S F H (.lst false xs::ds) (.ref p::vs)
 | own {p ws xs ds vs}:H p=some (.lst ws)->S F H xs ws->S F H ds vs->S F H (.lst true xs::ds) (.ref p::vs)
 | tup {p ws xs ds vs}:H p=some (.tup ws)->S F H xs ws->S F H ds vs->S F H (.tup xs::ds) (.ref p::vs)
 | obj {p C dx ns ws xs ds vs}:H p=some (.ins C dx (ns.zip ws))->ns.length=ws.length->R F H xs ws []->S F H ds vs->S F H (.obj C ns xs::ds) (.ref p::vs)
 | fz {p o ws xs ds vs}:F p=some (.bK o (.lst ws))->R F H xs ws []->S F H ds vs->S F H (.fz xs::ds) (.ref p::vs)
 | aQ {p z ds vs}:lz H p z->S F H ds vs->S F H (.aQ z::ds) (.ref p::vs)
section
variable{F F' H H':Hp}{d:D}{ds es:List D}{v:V}{vs ws:List V}{A B:List Addr}
theorem R.length(r:R F H ds vs A):ds.length=vs.length:=by
 induction r<;>simp_all
theorem S.length(r:S F H ds vs):ds.length=vs.length:=by
 induction r<;>simp_all
theorem R.cons(r:R F H [d] [v] A)(q:R F H ds vs B):R F H (d::ds) (v::vs) (A++B):=by
 cases r with
 | ak r=>cases r;exact .ak q
 | bl r=>cases r;exact .bl q
 | int r=>cases r;exact .int q
 | str r=>cases r;exact .str q
 | shr h x r=>cases r;exact .shr h x q
 | own h f x r=>cases r;simpa using R.own h f x q
 | tup h x r=>cases r;simpa using R.tup h x q
 | obj h l x r=>cases r;exact .obj h l x q
 | fz h x r=>cases r;exact .fz h x q
 | aQ h r=>cases r;exact .aQ h q
theorem R.bZ(r:R F H (d::ds) vs A):∃v bS A1 A2,vs=v::bS/\A=A1++A2/\R F H [d] [v] A1/\R F H ds bS A2:=by
 cases r with
 | ak r=>exact⟨_,_,[],_,rfl,rfl,.ak .nil,r⟩
 | bl r=>exact⟨_,_,[],_,rfl,rfl,.bl .nil,r⟩
 | int r=>exact⟨_,_,[],_,rfl,rfl,.int .nil,r⟩
 | str r=>exact⟨_,_,[],_,rfl,rfl,.str .nil,r⟩
 | shr h x r=>exact⟨_,_,[],_,rfl,rfl,.shr h x .nil,r⟩
 | @own p _ _ A1 _ _ B1 h f x r=>exact⟨_,_,p::A1,B1,rfl,rfl,by simpa using R.own h f x .nil,r⟩
 | @tup p _ _ A1 _ _ B1 h x r=>exact⟨_,_,A1,B1,rfl,rfl,by simpa using R.tup h x .nil,r⟩
 | obj h l x r=>exact⟨_,_,[],_,rfl,rfl,.obj h l x .nil,r⟩
 | fz h x r=>exact⟨_,_,[],_,rfl,rfl,.fz h x .nil,r⟩
 | aQ h r=>exact⟨_,_,[],_,rfl,rfl,.aQ h .nil,r⟩
theorem S.cons(r:S F H [d] [v])(q:S F H ds vs):S F H (d::ds) (v::vs):=by
 cases r with
 | ak r=>exact .ak q
 | bl r=>exact .bl q
 | int r=>exact .int q
 | str r=>exact .str q
 | shr h x r=>exact .shr h x q
 | own h x r=>exact .own h x q
 | tup h x r=>exact .tup h x q
 | obj h l x r=>exact .obj h l x q
 | fz h x r=>exact .fz h x q
 | aQ h r=>exact .aQ h q
theorem S.bZ(r:S F H (d::ds) vs):∃v bS,vs=v::bS/\S F H [d] [v]/\S F H ds bS:=by
 cases r with
 | ak r=>exact⟨_,_,rfl,.ak .nil,r⟩
 | bl r=>exact⟨_,_,rfl,.bl .nil,r⟩
 | int r=>exact⟨_,_,rfl,.int .nil,r⟩
 | str r=>exact⟨_,_,rfl,.str .nil,r⟩
 | shr h x r=>exact⟨_,_,rfl,.shr h x .nil,r⟩
 | own h x r=>exact⟨_,_,rfl,.own h x .nil,r⟩
 | tup h x r=>exact⟨_,_,rfl,.tup h x .nil,r⟩
 | obj h l x r=>exact⟨_,_,rfl,.obj h l x .nil,r⟩
 | fz h x r=>exact⟨_,_,rfl,.fz h x .nil,r⟩
 | aQ h r=>exact⟨_,_,rfl,.aQ h .nil,r⟩
theorem R.append:∀{ds:List D} {vs:List V} {A:List Addr},R F H ds vs A->R F H es ws B->R F H (ds++es) (vs++ws) (A++B)
 | [],_,_,r,q=>by cases r;exact q
 | d::ds,_,_,r,q=>by
  obtain⟨v,bS,A1,A2,rfl,rfl,h1,h2⟩:=r.bZ
  simpa using h1.cons (R.append h2 q)
theorem S.append:∀{ds:List D} {vs:List V},S F H ds vs->S F H es ws->S F H (ds++es) (vs++ws)
 | [],_,r,q=>by cases r;exact q
 | d::ds,_,r,q=>by
  obtain⟨v,bS,rfl,h1,h2⟩:=r.bZ
  exact h1.cons (S.append h2 q)
theorem R.split:∀{ds:List D} {vs:List V} {A:List Addr},R F H (ds++es) vs A->∃v1 v2 A1 A2,vs=v1++v2/\A=A1++A2/\R F H ds v1 A1/\R F H es v2 A2
 | [],vs,A,r=>⟨[],vs,[],A,rfl,rfl,.nil,r⟩
 | d::ds,_,_,r=>by
  obtain⟨v,bS,A1,A2,rfl,rfl,h1,h2⟩:=R.bZ (ds:=ds++es) r
  obtain⟨v1,v2,B1,B2,rfl,rfl,h3,h4⟩:=R.split (ds:=ds) h2
  exact⟨v::v1,v2,A1++B1,B2,rfl,by simp,h1.cons h3,h4⟩
theorem R.get:∀{ds:List D} {vs:List V} {A:List Addr} {i:Nat},R F H ds vs A->ds[i]?=some d->∃v A1,vs[i]?=some v/\R F H [d] [v] A1/\A1 ⊆ A
 | [],_,_,_,_,e=>by simp at e
 | d'::ds,_,_,i,r,e=>by
  obtain⟨v,bS,A1,A2,rfl,rfl,h1,h2⟩:=r.bZ
  cases i with
  | zero=>simp at e;subst e;exact⟨v,A1,rfl,h1,by simp⟩
  | succ i =>
   obtain⟨w,B1,e2,q,sb⟩:=R.get (ds:=ds) (i:=i) h2 (by simpa using e)
   exact⟨w,B1,by simpa using e2,q,λx hx=>cI _ (sb hx)⟩
theorem S.get:∀{ds:List D} {vs:List V} {i:Nat},S F H ds vs->ds[i]?=some d->∃v,vs[i]?=some v/\S F H [d] [v]
 | [],_,_,_,e=>by simp at e
 | d'::ds,_,i,r,e=>by
  obtain⟨v,bS,rfl,h1,h2⟩:=r.bZ
  cases i with
  | zero=>simp at e;subst e;exact⟨v,rfl,h1⟩
  | succ i =>
   obtain⟨w,e2,q⟩:=S.get (ds:=ds) (i:=i) h2 (by simpa using e)
   exact⟨w,by simpa using e2,q⟩
theorem S.get':∀{ds:List D} {vs:List V} {i:Nat},S F H ds vs->vs[i]?=some v->∃d,ds[i]?=some d/\S F H [d] [v]
 | [],_,_,r,e=>by cases r;simp at e
 | d'::ds,_,i,r,e=>by
  obtain⟨v,bS,rfl,h1,h2⟩:=r.bZ
  cases i with
  | zero=>simp at e;subst e;exact⟨d',rfl,h1⟩
  | succ i =>
   obtain⟨w,e2,q⟩:=S.get' (ds:=ds) (i:=i) h2 (by simpa using e)
   exact⟨w,by simpa using e2,q⟩
theorem S.take:∀{ds:List D} {vs:List V} (n:Nat),S F H ds vs->S F H (ds.take n) (vs.take n)
 | _,_,0,r=>by simpa using S.nil
 | [],_,n+1,r=>by cases r;exact .nil
 | d::ds,_,n+1,r=>by
  obtain⟨v,bS,rfl,h1,h2⟩:=r.bZ
  exact h1.cons (S.take n h2)
theorem S.drop:∀{ds:List D} {vs:List V} (n:Nat),S F H ds vs->S F H (ds.drop n) (vs.drop n)
 | _,_,0,r=>by simpa using r
 | [],_,n+1,r=>by cases r;exact .nil
 | d::ds,_,n+1,r=>by
  obtain⟨v,bS,rfl,h1,h2⟩:=r.bZ
  exact S.drop n h2
theorem fg{p:Addr}{o:HO}(h:Rd F p o)(s:ae F F')(n:eV o=true:=by rfl):Rd F' p o:=by
 rcases h with h | ⟨u,h⟩
 ·exact .inl (s.get _ _ h n)
 ·exact .inr ⟨u,s _ _ h⟩
theorem R.s(r:R F H ds vs A):S F H ds vs:=by
 induction r with
 | nil=>exact .nil
 | ak _ ih=>exact .ak ih
 | bl _ ih=>exact .bl ih
 | int _ ih=>exact .int ih
 | str _ ih=>exact .str ih
 | shr h x _ _ ih=>exact .shr h x ih
 | own h f _ _ i1 i2=>exact .own h i1 i2
 | tup h _ _ i1 i2=>exact .tup h i1 i2
 | obj h l x _ _ ih=>exact .obj h l x ih
 | fz h x _ _ ih=>exact .fz h x ih
 | aQ h _ ih=>exact .aQ h ih
structure eX(W:List Addr)(H H':Hp):Prop where
 get:∀a o,H a=some o->a ∉ W->(h:eV o=true:=by rfl)->H' a=some o
noncomputable instance {W:List Addr} {H H':Hp}:CoeFun (eX W H H') λ_=>∀a o,H a=some o->a ∉ W->(h:eV o=true:=by rfl)->H' a=some o:=⟨λs=>@eX.get _ _ _ s⟩
noncomputable def fK(W:List Addr)(H:Hp):Prop:=∀a∈W,∃ws,H a=some (.lst ws)
theorem R.keep{W:List Addr}(hf:ae F F')(hb:eX W H H')(hl:fK W H)(r:R F H ds vs A)(hn:∀a∈A,F' a=none)(hd:∀a∈A,a ∉ W):R F' H' ds vs A:=by
 induction r with
 | nil=>exact .nil
 | ak _ ih=>exact .ak (ih hn hd)
 | bl _ ih=>exact .bl (ih hn hd)
 | int _ ih=>exact .int (ih hn hd)
 | str _ ih=>exact .str (ih hn hd)
 | shr h x _ i1 ih=>exact .shr (hf _ _ h) (i1 (by simp) (by simp)) (ih hn hd)
 | own h f _ _ i1 i2 =>
  refine .own (hb _ _ h (hd _ (by simp))) (hn _ (by simp)) (i1 (λa ha=>hn a ?_) λa ha=>hd a ?_) (i2 (λa ha=>hn a ?_) λa ha=>hd a ?_)<;>simp[ha]
 | @tup p ws _ _ _ _ _ h _ _ i1 i2 =>
  refine .tup (hb _ _ h λz=>?_) (i1 (λa ha=>hn a ?_) λa ha=>hd a ?_) (i2 (λa ha=>hn a ?_) λa ha=>hd a ?_)<;>try simp[ha]
  obtain⟨q,e⟩:=hl _ z
  rw[h]at e;cases e
 | obj h l x _ i1 ih =>
  refine .obj (hb _ _ h λz=>?_) l (i1 (by simp) (by simp)) (ih hn hd)
  obtain⟨q,e⟩:=hl _ z
  rw[h]at e;cases e
 | fz h x _ i1 ih=>exact .fz (hf _ _ h) (i1 (by simp) (by simp)) (ih hn hd)
 | aQ h _ ih =>
  exact .aQ (h.mono λa o e n t=>hb.get a o e (λz=>by
   obtain⟨q,e'⟩:=hl _ z
   rw[e]at e';cases e';exact n _ rfl) t) (ih hn hd)
theorem eX.same(h:ae H H'):eX [] H H':=⟨λa o e _ n=>h.get a o e n⟩
theorem fK.nil:fK [] H:=λa h=>absurd h (by simp)
theorem R.grow(hf:ae F F')(hb:ae H H')(r:R F H ds vs A)(hn:∀a∈A,F' a=none):R F' H' ds vs A :=
 r.keep hf (eX.same hb) fK.nil hn (by simp)
theorem R.shared(hf:ae F F')(hb:ae H H')(r:R F H ds vs []):R F' H' ds vs []:=r.grow hf hb (by simp)
theorem S.mono(hf:ae F F')(hb:ae H H')(r:S F H ds vs):S F' H' ds vs:=by
 induction r with
 | nil=>exact .nil
 | ak _ ih=>exact .ak ih
 | bl _ ih=>exact .bl ih
 | int _ ih=>exact .int ih
 | str _ ih=>exact .str ih
 | shr h x _ ih=>exact .shr (hf _ _ h) (x.shared hf hb) ih
 | own h _ _ i1 i2=>exact .own (hb _ _ h) i1 i2
 | tup h _ _ i1 i2=>exact .tup (hb _ _ h) i1 i2
 | obj h l x _ ih=>exact .obj (hb _ _ h) l (x.shared hf hb) ih
 | fz h x _ ih=>exact .fz (hf _ _ h) (x.shared hf hb) ih
 | aQ h _ ih=>exact .aQ (h.mono λa o e _ t=>hb.get a o e t) ih
theorem S.r(s:S F H ds vs)(p:ds.all D.pl=true):R F H ds vs []:=by
 induction s with
 | nil=>exact .nil
 | ak _ ih=>exact .ak (ih (by simpa[D.pl]using p))
 | bl _ ih=>exact .bl (ih (by simpa[D.pl]using p))
 | int _ ih=>exact .int (ih (by simpa[D.pl]using p))
 | str _ ih=>exact .str (ih (by simpa[D.pl]using p))
 | shr h x _ ih=>exact .shr h x (ih (by simp[eW]at p;simpa using p.2))
 | own h _ _ i1 i2=>simp[eW]at p
 | tup h _ _ i1 i2 =>
  rw[cX,gO,dm]at p
  simpa using R.tup h (i1 p.1) (i2 p.2)
 | obj h l x _ ih=>exact .obj h l x (ih (by simpa[D.pl]using p))
 | fz h x _ ih=>exact .fz h x (ih (by simpa[D.pl]using p))
 | aQ h _ ih=>exact .aQ h (ih (by simpa[D.pl]using p))
theorem R.pl(r:R F H ds vs []):ds.all D.pl=true:=by
 generalize e:([]:List Addr)=A at r
 induction r with
 | nil=>rfl
 | ak _ ih=>simp[D.pl];simpa using ih e
 | bl _ ih=>simp[D.pl];simpa using ih e
 | int _ ih=>simp[D.pl];simpa using ih e
 | str _ ih=>simp[D.pl];simpa using ih e
 | shr h x _ i1 ih=>simp only[cX,eW,i1 rfl,ih e];rfl
 | own h f _ _ i1 i2=>cases e
 | tup h _ _ i1 i2 =>
  obtain⟨e1,e2⟩:=yy.mp e.symm
  simp only[cX,gO,i1 e1.symm,i2 e2.symm];rfl
 | obj h l x _ i1 ih=>simp[D.pl];simpa using ih e
 | fz h x _ i1 ih=>simp[D.pl];simpa using ih e
 | aQ h _ ih=>simp[D.pl];simpa using ih e
theorem D.vW:∀{d:D},d.pl=true->d.sh=d
 | .ak,_=>rfl
 | .bl _,_=>rfl
 | .int _,_=>rfl
 | .str _,_=>rfl
 | .obj _ _ _,_=>rfl
 | .fz _,_=>rfl
 | .aQ _,_=>rfl
 | .lst o xs,h=>by
  rw[eW,dm]at h
  have:∀(l:List D),(∀x∈l,x∈xs)->l.all D.pl=true->l.map D.sh=l:=by
   intro l hl hp
   induction l with
   | nil=>rfl
   | cons x l ih =>
    simp only[cX,dm]at hp
    have hx:x∈xs:=hl x (by simp)
    rw[cV,D.vW hp.1,ih (λy hy=>hl y (by simp[hy])) hp.2]
  rw[dZ,this xs (λ_ h=>h) h.2]
  cases o<;>simp_all
 | .tup xs,h=>by
  rw[gO]at h
  have:∀(l:List D),(∀x∈l,x∈xs)->l.all D.pl=true->l.map D.sh=l:=by
   intro l hl hp
   induction l with
   | nil=>rfl
   | cons x l ih =>
    simp only[cX,dm]at hp
    have hx:x∈xs:=hl x (by simp)
    rw[cV,D.vW hp.1,ih (λy hy=>hl y (by simp[hy])) hp.2]
  rw[iy,this xs (λ_ h=>h) h]
termination_by d=>sizeOf d
theorem lC{l:List D}(h:l.all D.pl=true):l.map D.sh=l:=by
 induction l with
 | nil=>rfl
 | cons x l ih =>
  simp only[cX,dm]at h
  rw[cV,D.vW h.1,ih h.2]
theorem S.frozen(e:ae F H)(s:S F H ds vs):R H H (ds.map D.sh) vs []:=by
 induction s with
 | nil=>exact .nil
 | ak _ ih=>exact .ak ih
 | bl _ ih=>exact .bl ih
 | int _ ih=>exact .int ih
 | str _ ih=>exact .str ih
 | shr h x _ ih =>
  rw[cV,dZ,lC x.pl]
  exact .shr (e _ _ h) (x.shared e (ae.refl _)) ih
 | own h _ _ i1 i2=>rw[cV,dZ];exact .shr h i1 i2
 | tup h _ _ i1 i2=>rw[cV,iy];simpa using R.tup h i1 i2
 | obj h l x _ ih=>exact .obj h l (x.shared e (ae.refl _)) ih
 | fz h x _ ih=>exact .fz (e _ _ h) (x.shared e (ae.refl _)) ih
 | aQ h _ ih=>exact .aQ h ih
noncomputable def bK(F H:Hp)(A:List Addr):Hp:=λa=>if a∈A then H a else F a
theorem qJ(e:ae F H):ae F (bK F H A):=⟨λa o h n=>by unfold bK;split;exact e.get _ _ h n;exact h,λa ps h=>by unfold bK;split;exact e.tb _ _ h;exact⟨#[],by rw[h];simp⟩⟩
theorem RB(e:ae F H):ae (bK F H A) H:=⟨λa o h n=>by unfold bK at h;split at h;exact h;exact e.get _ _ h n,λa ps h=>by unfold bK at h;split at h;exact⟨#[],by rw[h];simp⟩;exact e.tb _ _ h⟩
theorem Iu{a:Addr}(h:a ∉ A):bK F H A a=F a:=by unfold bK;rw[if_neg h]
theorem RC{a:Addr}(h:a∈A):bK F H A a=H a:=by unfold bK;rw[if_pos h]
theorem R.bK(e:ae F H)(r:R F H ds vs A):∀A',A ⊆ A'->R (L3.bK F H A') H (ds.map D.sh) vs []:=by
 induction r with
 | nil=>exact λ_ _=>.nil
 | ak _ ih=>exact λA' h=>.ak (ih A' h)
 | bl _ ih=>exact λA' h=>.bl (ih A' h)
 | int _ ih=>exact λA' h=>.int (ih A' h)
 | str _ ih=>exact λA' h=>.str (ih A' h)
 | shr h x _ i1 ih =>
  intro A' hA
  rw[cV,dZ,lC x.pl]
  exact .shr (qJ e _ _ h) (x.shared (qJ e) (ae.refl _)) (ih A' hA)
 | own h f _ _ i1 i2 =>
  intro A' hA
  rw[cV,dZ]
  exact .shr ((RC (hA (by simp))).trans h) (i1 A' λa ha=>hA (by simp[ha])) (i2 A' λa ha=>hA (by simp[ha]))
 | tup h _ _ i1 i2 =>
  intro A' hA
  rw[cV,iy]
  simpa using R.tup h (i1 A' λa ha=>hA (by simp[ha])) (i2 A' λa ha=>hA (by simp[ha]))
 | obj h l x _ i1 ih=>exact λA' hA=>.obj h l (x.shared (qJ e) (ae.refl _)) (ih A' hA)
 | fz h x _ i1 ih=>exact λA' hA=>.fz (qJ e _ _ h) (x.shared (qJ e) (ae.refl _)) (ih A' hA)
 | aQ h _ ih=>exact λA' hA=>.aQ h (ih A' hA)
theorem R.lists(r:R F H ds vs A):∀a∈A,(∃ws,H a=some (.lst ws))/\F a=none:=by
 induction r with
 | nil=>simp
 | ak _ ih=>exact ih
 | bl _ ih=>exact ih
 | int _ ih=>exact ih
 | str _ ih=>exact ih
 | shr h x _ i1 ih=>exact ih
 | own h f _ _ i1 i2 =>
  intro a ha
  rcases bV.mp ha with rfl | ha
  ·exact⟨⟨_,h⟩,f⟩
  ·exact(cA.mp ha).elim (i1 a) (i2 a)
 | tup h _ _ i1 i2=>exact λa ha=>(cA.mp ha).elim (i1 a) (i2 a)
 | obj h l x _ i1 ih=>exact ih
 | fz h x _ i1 ih=>exact ih
 | aQ h _ ih=>exact ih
theorem R.zU(r:R F H ds vs A)(hd:ds.all D.fr=true)(e:ae F' F):R F' H ds vs A:=by
 induction r with
 | nil=>exact .nil
 | ak _ ih=>exact .ak (ih (by simpa[D.fr]using hd))
 | bl _ ih=>exact .bl (ih (by simpa[D.fr]using hd))
 | int _ ih=>exact .int (ih (by simpa[D.fr]using hd))
 | str _ ih=>exact .str (ih (by simpa[D.fr]using hd))
 | shr h x _ i1 ih=>simp[eF]at hd
 | own h f _ _ i1 i2 =>
  rw[cX,eF,dm,jy]at hd
  exact .own h (e.free f) (i1 hd.1) (i2 hd.2)
 | tup h _ _ i1 i2 =>
  rw[cX,jG,dm]at hd
  exact .tup h (i1 hd.1) (i2 hd.2)
 | obj h l x _ i1 ih=>simp[D.fr]at hd
 | fz h x _ i1 ih=>simp[D.fr]at hd
 | aQ h _ ih=>exact .aQ h (ih (by simpa[D.fr]using hd))
theorem R.inj(r:R F H ds vs A):∀{B:List Addr},R F H ds vs B->A=B:=by
 induction r with
 | nil=>intro B q;cases q;rfl
 | ak _ ih=>intro B q;cases q with | ak q=>exact ih q
 | bl _ ih=>intro B q;cases q with | bl q=>exact ih q
 | int _ ih=>intro B q;cases q with | int q=>exact ih q
 | str _ ih=>intro B q;cases q with | str q=>exact ih q
 | shr h x _ i1 ih=>intro B q;cases q with | shr _ _ q=>exact ih q
 | own h f _ _ i1 i2 =>
  intro B q
  cases q with
  | own h' f' x' q =>
   rw[h]at h';cases h'
   rw[i1 x',i2 q]
 | tup h _ _ i1 i2 =>
  intro B q
  cases q with
  | tup h' x' q =>
   rw[h]at h';cases h'
   rw[i1 x',i2 q]
 | obj h l x _ i1 ih=>intro B q;cases q with | obj _ _ _ q=>exact ih q
 | fz h x _ i1 ih=>intro B q;cases q with | fz _ _ q=>exact ih q
 | aQ h _ ih=>intro B q;cases q with | aQ _ q=>exact ih q
theorem R.perm{ps qs:List (D × V)}(hp:ps.Perm qs):∀{A:List Addr},R F H (ps.map (·.1)) (ps.map (·.2)) A->∃A',R F H (qs.map (·.1)) (qs.map (·.2)) A'/\A.Perm A':=by
 induction hp with
 | nil=>exact λr=>⟨_,r,.refl _⟩
 | cons x _ ih =>
  intro A r
  obtain⟨v,bS,A1,A2,e,rfl,h1,h2⟩:=R.bZ r
  obtain⟨rfl,rfl⟩:=pQ e
  obtain⟨A',r',p⟩:=ih h2
  exact⟨A1++A',h1.cons r',p.append_left _⟩
 | swap x y l =>
  intro A r
  obtain⟨v,bS,A1,A2,e,rfl,h1,h2⟩:=R.bZ r
  obtain⟨rfl,rfl⟩:=pQ e
  obtain⟨v2,Iw,B1,B2,e,rfl,h3,h4⟩:=R.bZ h2
  obtain⟨rfl,rfl⟩:=pQ e
  exact⟨B1++(A1++B2),h3.cons (h1.cons h4),by rw[<-cn,<- cn];exact nF.append_right _⟩
 | trans _ _ i1 i2 =>
  intro A r
  obtain⟨A',r',p⟩:=i1 r
  obtain⟨A2,r2,p2⟩:=i2 r'
  exact⟨A2,r2,p.trans p2⟩
noncomputable def Full(F H:Hp):Prop:=∀a o,H a=some o->(∀ws,o≠.lst ws)->F a=some o
theorem Full.refl(H:Hp):Full H H:=λ_ _ h _=>h
theorem R.full(hF:Full F H)(hs:ae F H')(r:R F H ds vs A)(e:A=[]):R F H' ds vs []:=by
 induction r with
 | nil=>exact .nil
 | ak _ ih=>exact .ak (ih e)
 | bl _ ih=>exact .bl (ih e)
 | int _ ih=>exact .int (ih e)
 | str _ ih=>exact .str (ih e)
 | shr h x _ i1 ih=>exact .shr h (i1 rfl) (ih e)
 | own h f _ _ i1 i2=>cases e
 | tup h _ _ i1 i2 =>
  obtain⟨e1,e2⟩:=yy.mp e
  exact R.tup (A:=[]) (B:=[]) (hs _ _ (hF _ _ h (by intro ws z;cases z))) (i1 e1) (i2 e2)
 | obj h l x _ i1 ih=>exact .obj (hs _ _ (hF _ _ h (by intro ws z;cases z))) l (i1 rfl) (ih e)
 | fz h x _ i1 ih=>exact .fz h (i1 rfl) (ih e)
 | aQ h _ ih=>exact .aQ (h.mono λa o e n t=>hs.get a o (hF a o e n) t) (ih e)
open Classical in
noncomputable def snap(F H:Hp):Hp:=λa=>if(∃o,H a=some o/\∀ws,o≠.lst ws)then H a else F a
theorem vX:Full (snap F H) H:=λa o h n=>by unfold snap;rw[if_pos ⟨o,h,n⟩];exact h
theorem qK(e:ae F H):ae F (snap F H):=⟨λa o h n=>by
 unfold snap;split
 ·exact e.get a o h n
 ·exact h,λa ps h=>by
 unfold snap;split
 ·exact e.tb a ps h
 ·exact⟨#[],by rw[h];simp⟩⟩
theorem RD(e:ae F H):ae (snap F H) H:=⟨λa o h n=>by
 unfold snap at h;split at h
 ·exact h
 ·exact e.get a o h n,λa ps h=>by
 unfold snap at h;split at h
 ·exact⟨#[],by rw[h];simp⟩
 ·exact e.tb a ps h⟩
theorem RE(e:ae F H){a:Addr}{ws:List V}(h:snap F H a=some (.lst ws)):F a=some (.lst ws):=by
 unfold snap at h;split at h
 ·rename_i z
  obtain⟨o,h1,h2⟩:=z
  rw[h]at h1;exact absurd (cP h1).symm (h2 ws)
 ·exact h
theorem RF{a:Addr}{ws:List V}(h:H a=some (.lst ws))(n:F a=none):snap F H a=none:=by
 unfold snap;split
 ·rename_i z
  obtain⟨o,h1,h2⟩:=z
  rw[h]at h1;exact absurd (cP h1).symm (h2 ws)
 ·exact n
end
end L3
namespace L3
open PySem L2
noncomputable abbrev Dl:=List (Option D)
inductive RS(F H:Hp):Dl->St->List Addr->Prop
 | nil:RS F H [] [] []
 | ak {δ σ o C}:RS F H δ σ C->RS F H (none::δ) (o::σ) C
 | eG {d v A δ σ C}:R F H [d] [v] A->RS F H δ σ C->RS F H (some d::δ) (some v::σ) (A++C)
theorem cN{A B:List Addr}:(A++B).Nodup↔A.Nodup/\B.Nodup/\∀a∈A,a ∉ B:=by
 rw[List.nodup_append]
 constructor
 ·rintro⟨h1,h2,h3⟩;exact⟨h1,h2,λa ha hb=>h3 a ha a hb rfl⟩
 ·rintro⟨h1,h2,h3⟩;exact⟨h1,h2,λa ha b hb e=>h3 a ha (e ▸ hb)⟩
section
variable{F F' H H':Hp}{d:D}{v:V}{δ:Dl}{σ:St}{A C:List Addr}{i:Nat}
theorem RS.length(r:RS F H δ σ C):δ.length=σ.length:=by induction r<;>simp_all
theorem RS.pick:∀{δ:Dl} {σ:St} {C:List Addr} {i:Nat},RS F H δ σ C->δ[i]?=some (some d)->∃v A C',σ[i]?=some (some v)/\R F H [d] [v] A/\RS F H (δ.set i none) σ C'/\C.Perm (A++C')
 | _,_,_,_,.nil,e=>by simp at e
 | _,_,_,i,.ak r,e=>by
  cases i with
  | zero=>simp at e
  | succ i =>
   obtain⟨v,A,C',e1,h1,h2,p⟩:=RS.pick r (by simpa using e)
   exact⟨v,A,C',by simpa using e1,h1,.ak h2,p⟩
 | _,_,_,i,.eG (A:=A0) (C:=C0) h r,e=>by
  cases i with
  | zero =>
   simp at e;subst e
   exact⟨_,A0,C0,rfl,h,.ak r,.refl _⟩
  | succ i =>
   obtain⟨v,A,C',e1,h1,h2,p⟩:=RS.pick r (by simpa using e)
   refine⟨v,A,A0++C',by simpa using e1,h1,.eG h h2,(p.append_left A0).trans ?_⟩
   rw[<-cn,<- cn]
   exact nF.append_right _
theorem RS.fill:∀{δ:Dl} {σ:St} {C:List Addr} {i:Nat},RS F H δ σ C->δ[i]?=some none->σ[i]?=some (some v)->R F H [d] [v] A->∃C',RS F H (δ.set i (some d)) σ C'/\C'.Perm (A++C)
 | _,_,_,_,.nil,e,_,_=>by simp at e
 | _,_,_,i,.ak r,e,e2,h=>by
  cases i with
  | zero=>simp at e2;subst e2;exact⟨_,.eG h r,.refl _⟩
  | succ i =>
   obtain⟨C',h1,p⟩:=RS.fill r (by simpa using e) (by simpa using e2) h
   exact⟨C',.ak h1,p⟩
 | _,_,_,i,.eG (A:=A0) (C:=C0) h0 r,e,e2,h=>by
  cases i with
  | zero=>simp at e
  | succ i =>
   obtain⟨C',h1,p⟩:=RS.fill r (by simpa using e) (by simpa using e2) h
   refine⟨A0++C',.eG h0 h1,(p.append_left A0).trans ?_⟩
   rw[<-cn,<- cn]
   exact nF.append_right _
theorem RS.drop:∀{δ:Dl} {σ:St} {C:List Addr} (i:Nat),RS F H δ σ C->∃C',RS F H (δ.set i none) σ C'/\C'.Sublist C
 | _,_,_,_,.nil=>⟨_,.nil,.refl _⟩
 | _,_,_,i,.ak r=>by
  cases i with
  | zero=>exact⟨_,.ak r,.refl _⟩
  | succ i=>obtain⟨C',h,s⟩:=RS.drop i r;exact⟨C',.ak h,s⟩
 | _,_,_,i,.eG (A:=A0) h0 r=>by
  cases i with
  | zero=>exact⟨_,.ak r,List.sublist_append_right _ _⟩
  | succ i=>obtain⟨C',h,s⟩:=RS.drop i r;exact⟨_,.eG h0 h,(Gs A0).append s⟩
theorem RS.qL:∀{δ:Dl} {σ:St} {C:List Addr} {i:Nat} (o:Option V),RS F H δ σ C->(δ[i]?=some none\/δ[i]?=none)->RS F H δ (σ.set i o) C
 | _,_,_,_,_,.nil,_=>.nil
 | _,_,_,i,_,.ak r,e=>by
  cases i with
  | zero=>exact .ak r
  | succ i=>exact .ak (RS.qL _ r (by simpa using e))
 | _,_,_,i,_,.eG h0 r,e=>by
  cases i with
  | zero=>simp at e
  | succ i=>exact .eG h0 (RS.qL _ r (by simpa using e))
theorem RS.keep{W:List Addr}(hf:ae F F')(hb:eX W H H')(hl:fK W H)(r:RS F H δ σ C)(hn:∀a∈C,F' a=none)(hd:∀a∈C,a ∉ W):RS F' H' δ σ C:=by
 induction r with
 | nil=>exact .nil
 | ak _ ih=>exact .ak (ih hn hd)
 | eG h _ ih=>exact .eG (h.keep hf hb hl (λa ha=>hn a (by simp[ha])) λa ha=>hd a (by simp[ha])) (ih (λa ha=>hn a (by simp[ha])) λa ha=>hd a (by simp[ha]))
theorem RS.lists(r:RS F H δ σ C):∀a∈C,(∃ws,H a=some (.lst ws))/\F a=none:=by
 induction r with
 | nil=>simp
 | ak _ ih=>exact ih
 | eG h _ ih=>exact λa ha=>(cA.mp ha).elim (h.lists a) (ih a)
theorem RS.none_of:∀{δ:Dl} {σ:St} {C:List Addr} {ai:St},RS F H δ σ C->ai.length=σ.length->RS F H (ai.map λ_=>none) ai []
 | _,_,_,[],_,_=>.nil
 | _,_,_,o::ai,.nil,e=>by simp at e
 | _,_,_,o::ai,.ak r,e=>.ak (RS.none_of r (by simpa using e))
 | _,_,_,o::ai,.eG _ r,e=>.ak (RS.none_of r (by simpa using e))
end
structure Bs where
 H0:Hp
 F0:Hp
structure ag(B:Bs)(F H:Hp)(σ:St)(δ:Dl)(ts:List (D × V)):Prop where
 ext:ae F H
 b1:ae B.H0 H
 b2:ae B.F0 F
 b3:∀a ws,F a=some (.lst ws)->B.F0 a=some (.lst ws)\/B.H0 a=none
 own:∃A C,R F H (ts.map (·.1)) (ts.map (·.2)) A/\RS F H δ σ C/\(A++C).Nodup/\∀a∈A++C,B.H0 a=none
section
variable{B:Bs}{F F' H H':Hp}{d:D}{v:V}{δ:Dl}{σ:St}{ts ps:List (D × V)}{A C W:List Addr}{i:Nat}{p:Addr}{xs ys:List D}{vs ws:List V}
theorem ag.look(c:ag B F H σ δ ts)(e:δ[i]?=some (some d)):∃v,σ[i]?=some (some v)/\S F H [d] [v]:=by
 obtain⟨A,C,r,s,nd,fr⟩:=c.own
 obtain⟨v,A',C',e1,h1,h2,p⟩:=s.pick e
 exact⟨v,e1,h1.s⟩
theorem ag.len(c:ag B F H σ δ ts):δ.length=σ.length:=let⟨_,_,_,s,_⟩:=c.own;s.length
theorem ag.grow(c:ag B F H σ δ ts)(h:ae H H'):ag B F H' σ δ ts:=by
 obtain⟨A,C,r,s,nd,fr⟩:=c.own
 exact⟨c.ext.trans h,c.b1.trans h,c.b2,c.b3,A,C,r.grow (ae.refl _) h λa ha=>(r.lists a ha).2,s.keep (ae.refl _) (eX.same h) fK.nil (λa ha=>(s.lists a ha).2) (by simp),nd,fr⟩
theorem ag.pop(c:ag B F H σ δ ((d,v)::ts)):ag B F H σ δ ts:=by
 obtain⟨A,C,r,s,nd,fr⟩:=c.own
 obtain⟨w,bS,A1,A2,e,rfl,h1,h2⟩:=R.bZ r
 obtain⟨rfl,rfl⟩:=pQ e
 refine⟨c.ext,c.b1,c.b2,c.b3,A2,C,h2,s,?_,λa ha=>fr a (by simp at ha ⊢;exact .inr ha)⟩
 rw[cn]at nd
 exact(cN.mp nd).2.1
theorem ag.top(c:ag B F H σ δ ((d,v)::ts)):S F H [d] [v]:=by
 obtain⟨A,C,r,s,nd,fr⟩:=c.own
 obtain⟨w,bS,A1,A2,e,rfl,h1,h2⟩:=R.bZ r
 obtain⟨rfl,rfl⟩:=pQ e
 exact h1.s
theorem ag.pushS(c:ag B F H σ δ ts)(s:S F H [d] [v])(pl:d.pl=true):ag B F H σ δ ((d,v)::ts):=by
 obtain⟨A,C,r,q,nd,fr⟩:=c.own
 exact⟨c.ext,c.b1,c.b2,c.b3,A,C,(s.r (by simp[pl])).cons r,q,nd,fr⟩
theorem ae.upd{o:HO}(h:H p=none):ae H (upd H p o):=.of λb u e=>by rw[aD (dq e h)];exact e
theorem ag.pack(c:ag B F H σ δ (ps++ts))(hs:ae H H')(k:∀A1,R F H' (ps.map (·.1)) (ps.map (·.2)) A1->A1.Nodup->∃A',R F H' [d] [v] A'/\A'.Nodup/\∀a∈A',a∈A1\/H a=none):ag B F H' σ δ ((d,v)::ts):=by
 obtain⟨A,C,r,s,nd,fr⟩:=c.own
 rw[gI,gI]at r
 obtain⟨v1,v2,A1,A2,e,rfl,h1,h2⟩:=R.split r
 have l1:(ps.map (·.2)).length=v1.length:=by rw[<-h1.length];simp
 obtain⟨rfl,rfl⟩:=pS e l1
 rw[cn]at nd fr
 obtain⟨n1,n2,n3⟩:=cN.mp nd
 have g1:=h1.grow (ae.refl F) hs λa ha=>(h1.lists a ha).2
 have g2:=h2.grow (ae.refl F) hs λa ha=>(h2.lists a ha).2
 have gs:=s.keep (ae.refl F) (eX.same hs) fK.nil (λa ha=>(s.lists a ha).2) (by simp)
 obtain⟨A',r',i6,sub⟩:=k A1 g1 n1
 refine⟨c.ext.trans hs,c.b1.trans hs,c.b2,c.b3,A'++A2,C,r'.cons g2,gs,?_,?_⟩
 ·rw[cn]
  refine cN.mpr ⟨i6,n2,λa ha hb=>?_⟩
  rcases sub a ha with z | z
  ·exact n3 a z hb
  ·rcases cA.mp hb with y | y
   ·obtain⟨⟨_,q⟩,_⟩:=h2.lists a y;rw[z]at q;cases q
   ·obtain⟨⟨_,q⟩,_⟩:=s.lists a y;rw[z]at q;cases q
 ·intro a ha
  rw[cn]at ha
  rcases cA.mp ha with y | y
  ·rcases sub a y with z | z
   ·exact fr a (by simp[z])
   ·exact c.b1.free z
  ·exact fr a (cI _ y)
theorem ag.zV(c:ag B F H σ δ ts)(hs:ae H H')(r:R F H' [d] [v] A)(nd:A.Nodup)(fr:∀a∈A,H a=none):ag B F H' σ δ ((d,v)::ts) :=
 ag.pack (ps:=[]) c hs λ_ _ _=>⟨A,r,nd,λa ha=>.inr (fr a ha)⟩
theorem ag.qM(c:ag B F H σ δ ts)(hp:H p=none)(s:S F H xs vs)(pl:xs.all D.pl=true):ag B F (upd H p (.lst vs)) σ δ ((.lst true xs,.ref p)::ts) :=
 c.zV (ae.upd hp) (A:=[p]) (by simpa using R.own bw (c.ext.free hp) ((s.r pl).shared (ae.refl _) (ae.upd hp)) .nil) (by simp) (by simp[hp])
theorem ag.RG(c:ag B F H σ δ (ps++ts))(hp:H p=none):ag B F (upd H p (.lst (ps.map (·.2)))) σ δ ((.lst true (ps.map (·.1)),.ref p)::ts):=by
 refine c.pack (ae.upd hp) λA1 r nd=>⟨p::A1,by simpa using R.own bw (c.ext.free hp) r .nil,gH.mpr ⟨λh=>?_,nd⟩,λa ha=>?_⟩
 ·obtain⟨A,C,r0,_,_,_⟩:=c.own
  rw[gI,gI]at r0
  obtain⟨v1,v2,B1,B2,e,rfl,h1,h2⟩:=R.split r0
  have l1:(ps.map (·.2)).length=v1.length:=by rw[<-h1.length];simp
  obtain⟨rfl,rfl⟩:=pS e l1
  have g1:=h1.grow (ae.refl F) (ae.upd (o:=.lst (ps.map (·.2))) hp) λa ha=>(h1.lists a ha).2
  have:A1=B1:=R.inj r g1
  subst this
  obtain⟨⟨_,q⟩,_⟩:=h1.lists p h
  rw[hp]at q;cases q
 ·rcases bV.mp ha with rfl | h
  ·exact .inr hp
  ·exact .inl h
theorem ag.RH(c:ag B F H σ δ (ps++ts))(hp:H p=none):ag B F (upd H p (.tup (ps.map (·.2)))) σ δ ((.tup (ps.map (·.1)),.ref p)::ts) :=
 c.pack (ae.upd hp) λA1 r nd=>⟨A1,by simpa using R.tup (F:=F) bw r .nil,nd,λa ha=>.inl ha⟩
theorem ag.perm(c:ag B F H σ δ ps)(h:ps.Perm ts):ag B F H σ δ ts:=by
 obtain⟨A,C,r,s,nd,fr⟩:=c.own
 obtain⟨A',r',p⟩:=r.perm h
 have pp:=p.append_right C
 exact⟨c.ext,c.b1,c.b2,c.b3,A',C,r',s,pp.nodup_iff.mp nd,λa ha=>fr a (pp.mem_iff.mpr ha)⟩
theorem ag.move(c:ag B F H σ δ ts)(e:δ[i]?=some (some d)):∃v,σ[i]?=some (some v)/\ag B F H σ (δ.set i none) ((d,v)::ts):=by
 obtain⟨A,C,r,s,nd,fr⟩:=c.own
 obtain⟨v,A',C',e1,h1,h2,p⟩:=s.pick e
 have pp:(A++C).Perm ((A'++A)++C'):=by
  refine(p.append_left A).trans ?_
  rw[<-cn]
  exact nF.append_right _
 exact⟨v,e1,c.ext,c.b1,c.b2,c.b3,A'++A,C',h1.cons r,h2,pp.nodup_iff.mp nd,λa ha=>fr a (pp.mem_iff.mpr ha)⟩
theorem ag.forget(c:ag B F H σ δ ts)(i:Nat):ag B F H σ (δ.set i none) ts:=by
 obtain⟨A,C,r,s,nd,fr⟩:=c.own
 obtain⟨C',h,sb⟩:=s.drop i
 exact⟨c.ext,c.b1,c.b2,c.b3,A,C',r,h,nd.sublist ((Gs A).append sb),λa ha=>fr a (((Gs A).append sb).subset ha)⟩
theorem ag.fill(c:ag B F H σ δ ((d,v)::ts))(e:δ[i]?=some none)(e2:σ[i]?=some (some v)):ag B F H σ (δ.set i (some d)) ts:=by
 obtain⟨A,C,r,s,nd,fr⟩:=c.own
 obtain⟨w,bS,A1,A2,e',rfl,h1,h2⟩:=R.bZ r
 obtain⟨rfl,rfl⟩:=pQ e'
 obtain⟨C',s',p⟩:=s.fill e e2 h1
 have pp:((A1++A2)++C).Perm (A2++C'):=by
  refine((nF (l₁:=A1) (l₂:=A2)).append_right C).trans ?_
  rw[cn]
  exact(p.symm).append_left A2
 exact⟨c.ext,c.b1,c.b2,c.b3,A2,C',h2,s',pp.nodup_iff.mp nd,λa ha=>fr a (pp.mem_iff.mpr ha)⟩
theorem ag.qL(c:ag B F H σ δ ts)(o:Option V)(e:δ[i]?=some none\/δ[i]?=none):ag B F H (σ.set i o) δ ts:=by
 obtain⟨A,C,r,s,nd,fr⟩:=c.own
 exact⟨c.ext,c.b1,c.b2,c.b3,A,C,r,s.qL o e,nd,fr⟩
theorem ag.store(c:ag B F H σ δ ((d,v)::ts))(i:Nat):ag B F H (σ.set i (some v)) (δ.set i (some d)) ts:=by
 by_cases hi:i<δ.length
 ·have c1:=c.forget i
  have hs:i<σ.length:=by rw[<-c.len];exact hi
  have e:(δ.set i none)[i]?=some none:=by simp[hi]
  have c2:=(c1.qL (some v) (.inl e)).fill (i:=i) e (by simp[hs])
  rwa [yA]at c2
 ·have hs:¬ i<σ.length:=by rw[<-c.len];exact hi
  rw[Ny (by omega),Ny (by omega)]
  exact c.pop
theorem ag.mut(c:ag B F H σ δ (ps++ts))(e:δ[i]?=some (some (.lst true xs)))(e2:σ[i]?=some (some (.ref p)))
  (k:∀ws A1 A2,H p=some (.lst ws)->R F H xs ws A1->R F H (ps.map (·.1)) (ps.map (·.2)) A2->(A1++A2).Nodup->∃A',R F H ys vs A'/\A'.Nodup/\∀a∈A',a∈A1++A2) :
  ag B F (upd H p (.lst vs)) σ (δ.set i (some (.lst true ys))) ts:=by
 have hi:i<δ.length:=(gG.mp e).1
 obtain⟨v,e3,c1⟩:=c.move e
 rw[e2]at e3;cases e3
 obtain⟨A,C,r,s,nd,fr⟩:=c1.own
 have r':R F H (([.lst true xs]++ps.map (·.1))++ts.map (·.1)) ((.ref p::ps.map (·.2))++ts.map (·.2)) A:=by simpa using r
 obtain⟨v1,v2,A1,A2,e4,rfl,h1,h2⟩:=R.split r'
 have l1:(V.ref p::ps.map (·.2)).length=v1.length:=by rw[<-h1.length];simp
 obtain⟨rfl,rfl⟩:=pS e4 l1
 cases h1 with
 | @own _ qN _ B1 _ _ B2 hH hF hx hr =>
  rw[cn]at nd fr
  obtain⟨n1,n2,n3⟩:=cN.mp nd
  obtain⟨m1,m2⟩:=gH.mp n1
  obtain⟨A',ra,zW,sub⟩:=k qN B1 B2 hH hx hr m2
  have pA:p ∉ A':=λz=>m1 (sub _ z)
  have pR:p ∉ A2++C:=λz=>n3 p (by simp) z
  have but:eX [p] H (upd H p (.lst vs)):=⟨λa o q z _=>by rw[aD (by simpa using z)];exact q⟩
  have hl:fK [p] H:=λa ha=>by rw[hW.mp ha];exact⟨_,hH⟩
  have g1:=ra.keep (ae.refl F) but hl (λa ha=>(ra.lists a ha).2) λa ha z=>pA (by rw[<-hW.mp z];exact ha)
  have g2:=h2.keep (ae.refl F) but hl (λa ha=>(h2.lists a ha).2) λa ha z=>pR (by rw[<-hW.mp z];exact eu _ ha)
  have gs:=s.keep (ae.refl F) but hl (λa ha=>(s.lists a ha).2) λa ha z=>pR (by rw[<-hW.mp z];exact cI _ ha)
  have fp:B.H0 p=none:=fr p (by simp)
  have b1:ae B.H0 (upd H p (.lst vs)):=⟨λa o q n=>by
   rw[aD (λz=>by rw[z,fp]at q;cases q)]
   exact c1.b1.get a o q n,λa ps q=>by
   rw[aD (λz=>by rw[z,fp]at q;cases q)]
   exact c1.b1.tb a ps q⟩
  have ext:ae F (upd H p (.lst vs)):=⟨λa o q n=>by
   rw[aD (λz=>by rw[z,hF]at q;cases q)]
   exact c1.ext.get a o q n,λa ps q=>by
   rw[aD (λz=>by rw[z,hF]at q;cases q)]
   exact c1.ext.tb a ps q⟩
  have c2:ag B F (upd H p (.lst vs)) σ (δ.set i none) ((.lst true ys,.ref p)::ts):=by
   refine⟨ext,b1,c1.b2,c1.b3,(p::A')++A2,C,R.cons (by simpa using R.own bw hF g1 .nil) g2,gs,?_,?_⟩
   ·rw[cn]
    refine cN.mpr ⟨gH.mpr ⟨pA,zW⟩,n2,λa ha hb=>?_⟩
    rcases bV.mp ha with rfl | ha
    ·exact pR hb
    ·exact n3 a (hE _ (sub a ha)) hb
   ·intro a ha
    rw[cn]at ha
    rcases cA.mp ha with z | z
    ·rcases bV.mp z with rfl | z
     ·exact fp
     ·exact fr a (eu _ (hE _ (sub a z)))
    ·exact fr a (cI _ z)
  have c3:=c2.fill (i:=i) (by simp[hi]) e2
  rwa [yA]at c3
theorem ag.rebase(c:ag B F H σ δ ts):ag ⟨B.H0,F⟩ F H σ δ ts:=⟨c.ext,c.b1,ae.refl _,λ_ _ q=>.inl q,c.own⟩
theorem ag.RI{F1:Hp}(c:ag ⟨B.H0,F1⟩ F H σ δ ts)(h:ae B.F0 F1)(h3:∀a ws,F1 a=some (.lst ws)->B.F0 a=some (.lst ws)\/B.H0 a=none):ag B F H σ δ ts :=
 ⟨c.ext,c.b1,h.trans c.b2,λa o q=>(c.b3 a o q).elim (h3 a o) .inr,c.own⟩
theorem ag.only(c:ag B F H σ δ ts){ai:St}{af:Dl}(h:RS F H af ai []):ag B F H ai af ts:=by
 obtain⟨A,C,r,s,nd,fr⟩:=c.own
 exact⟨c.ext,c.b1,c.b2,c.b3,A,[],r,h,by simpa using(cN.mp nd).1,λa ha=>fr a (by simp at ha;simp[ha])⟩
theorem ag.call(c:ag B F H σ δ ts)(hs:ae H H')(hf:ae F F')(he:ae F' H')(h3:∀a ws,F' a=some (.lst ws)->F a=some (.lst ws)\/H a=none)(r:R F' H' [d] [v] A)(nd:A.Nodup)(fr:∀a∈A,H a=none) :
  ag B F' H' σ δ ((d,v)::ts):=by
 obtain⟨A0,C,r0,s,RJ,RK⟩:=c.own
 have no:∀a,(∃ws,H a=some (.lst ws))/\F a=none->F' a=none:=λa zz=>by
  obtain⟨⟨ws,e⟩,n⟩:=zz
  cases q:F' a with
  | none=>rfl
  | some o =>
   have q2:H' a=some o:=by
    cases n:eV o with
    | true=>exact he.get a o q n
    | false =>
     obtain⟨ps,rfl⟩:=tR n
     obtain⟨m,z⟩:=he.tb a ps q
     rw[hs a _ e]at z
     cases z
   rw[hs a _ e]at q2
   cases q2
   rcases h3 a ws q with z | z
   ·rw[n]at z;cases z
   ·rw[e]at z;cases z
 refine⟨he,c.b1.trans hs,c.b2.trans hf,λa o q=>(h3 a o q).elim (c.b3 a o) λz=>.inr (c.b1.free z),A++A0,C,R.cons r (r0.grow hf hs λa ha=>no a (r0.lists a ha)),
  s.keep hf (eX.same hs) fK.nil (λa ha=>no a (s.lists a ha)) (by simp),?_,?_⟩
 ·rw[cn]
  refine cN.mpr ⟨nd,RJ,λa ha hb=>?_⟩
  have z:=fr a ha
  rcases cA.mp hb with y | y
  ·obtain⟨⟨_,q⟩,_⟩:=r0.lists a y;rw[z]at q;cases q
  ·obtain⟨⟨_,q⟩,_⟩:=s.lists a y;rw[z]at q;cases q
 ·intro a ha
  rw[cn]at ha
  rcases cA.mp ha with y | y
  ·exact c.b1.free (fr a y)
  ·exact RK a y
theorem ag.Iy(c:ag B F H σ δ ((d,v)::ts)):ag B F H (some v::σ) (some d::δ) ts:=by
 obtain⟨A,C,r,s,nd,fr⟩:=c.own
 obtain⟨w,bS,A1,A2,e',rfl,h1,h2⟩:=R.bZ r
 obtain⟨rfl,rfl⟩:=pQ e'
 have pp:((A1++A2)++C).Perm (A2++(A1++C)):=by
  rw[<-cn];exact nF.append_right C
 exact⟨c.ext,c.b1,c.b2,c.b3,A2,A1++C,h2,.eG h1 s,pp.nodup_iff.mp nd,λa ha=>fr a (pp.mem_iff.mpr ha)⟩
theorem ag.RL{w:V}(c:ag B F H (some w::σ) (some d::δ) ts):ag B F H σ δ ((d,w)::ts):=by
 obtain⟨A,C,r,s,nd,fr⟩:=c.own
 cases s with
 | @eG _ _ A1 _ _ C1 h1 s =>
  have pp:(A++(A1++C1)).Perm ((A1++A)++C1):=by
   rw[<-cn];exact nF.append_right C1
  exact⟨c.ext,c.b1,c.b2,c.b3,A1++A,C1,R.cons h1 r,s,pp.nodup_iff.mp nd,λa ha=>fr a (pp.mem_iff.mpr ha)⟩
theorem ag.RM(c:ag B F H σ δ ((d,v)::(.lst true xs,.ref p)::ts))(hp:H p=some (.lst ws)):ag B F (upd H p (.lst (ws++[v]))) σ δ ((.lst true (xs++[d]),.ref p)::ts):=by
 have c1:=(c.perm (List.Perm.swap _ _ _)).Iy
 refine(ag.mut (ps:=[(d,v)]) (i:=0) (ys:=xs++[d]) (vs:=ws++[v]) c1 rfl rfl λdP A1 A2 h r1 r2 nd=>?_).RL
 rw[hp]at h;cases h
 exact⟨A1++A2,r1.append r2,nd,λa ha=>ha⟩
theorem ag.app(c:ag B F H σ δ ((d,v)::ts))(e:δ[i]?=some (some (.lst true xs)))(e2:σ[i]?=some (some (.ref p)))(hp:H p=some (.lst ws)) :
  ag B F (upd H p (.lst (ws++[v]))) σ (δ.set i (some (.lst true (xs++[d])))) ts :=
 ag.mut (ps:=[(d,v)]) c e e2 λdP A1 A2 h r1 r2 nd=>by
  rw[hp]at h;cases h
  exact⟨A1++A2,r1.append r2,nd,λa ha=>ha⟩
theorem R.zX:∀{xs:List D} {ws:List V} {A1 A2:List Addr} (j:Nat),R F H xs ws A1->R F H [d] [v] A2->(A1++A2).Nodup->∃A',R F H (xs.set j d) (ws.set j v) A'/\A'.Nodup/\∀a∈A',a∈A1++A2
 | [],_,A1,A2,j,r,q,nd=>by cases r;exact⟨[],.nil,by simp,by simp⟩
 | x::xs,_,A1,A2,j,r,q,nd=>by
  obtain⟨w,dP,B1,B2,rfl,rfl,h1,h2⟩:=r.bZ
  rw[cn]at nd
  obtain⟨n1,n2,n3⟩:=cN.mp nd
  cases j with
  | zero =>
   refine⟨A2++B2,q.cons h2,(nF (l₁:=B2) (l₂:=A2)).nodup_iff.mp n2,λa ha=>?_⟩
   simp only[cA]at ha ⊢
   rcases ha with z | z
   ·exact .inr z
   ·exact .inl (.inr z)
  | succ j =>
   obtain⟨A',r',i6,sub⟩:=R.zX j h2 q n2
   refine⟨B1++A',h1.cons r',cN.mpr ⟨n1,i6,λa ha hb=>n3 a ha (sub a hb)⟩,λa ha=>?_⟩
   rcases cA.mp ha with z | z
   ·simp[z]
   ·have:=sub a z
    simp only[cA]at this ⊢
    rcases this with z | z
    ·exact .inl (.inr z)
    ·exact .inr z
theorem ag.RN(c:ag B F H σ δ ((d,v)::ts))(e:δ[i]?=some (some (.lst true xs)))(e2:σ[i]?=some (some (.ref p)))(hp:H p=some (.lst ws))(j:Nat) :
  ag B F (upd H p (.lst (ws.set j v))) σ (δ.set i (some (.lst true (xs.set j d)))) ts :=
 ag.mut (ps:=[(d,v)]) c e e2 λdP A1 A2 h r1 r2 nd=>by
  rw[hp]at h;cases h
  exact r1.zX j r2 nd
theorem ag.ownAt(c:ag B F H σ δ ts)(e:δ[i]?=some (some (.lst true xs))):∃p ws,σ[i]?=some (some (.ref p))/\H p=some (.lst ws)/\xs.length=ws.length:=by
 obtain⟨v,e1,s⟩:=c.look e
 cases s with
 | own h x _=>exact⟨_,_,e1,h,x.length⟩
theorem RS.start{ds:List D}{vs:List V}(r:R F H ds vs [])(n:Nat):RS F H (ds.map some++aX n none) (vs.map some++aX n none) []:=by
 have z:∀n,RS F H (aX n none) (aX n none) []:=λn=>by
  induction n with
  | zero=>exact .nil
  | succ n ih=>exact .ak ih
 have:∀(ds:List D) (vs:List V),R F H ds vs []->RS F H (ds.map some++aX n none) (vs.map some++aX n none) []:=by
  intro ds
  induction ds with
  | nil=>intro vs r;cases r;exact z n
  | cons d ds ih =>
   intro vs r
   obtain⟨v,bS,A1,A2,rfl,e,h1,h2⟩:=r.bZ
   obtain⟨rfl,rfl⟩:=yy.mp e.symm
   exact .eG (A:=[]) h1 (ih _ h2)
 exact this ds vs r
theorem ag.start{ds:List D}{vs:List V}(e:ae F H)(r:R F H ds vs [])(n:Nat):ag ⟨H,F⟩ F H (vs.map some++aX n none) (ds.map some++aX n none) [] :=
 ⟨e,ae.refl _,ae.refl _,λ_ _ q=>.inl q,[],[],.nil,RS.start r n,by simp,by simp⟩
theorem ag.snap(c:ag B F H σ δ ts):ag B (L3.snap F H) H σ δ ts:=by
 obtain⟨A,C,r,s,nd,fr⟩:=c.own
 have no:∀a,(∃ws,H a=some (.lst ws))/\F a=none->L3.snap F H a=none:=λa ⟨⟨ws,e⟩,n⟩=>RF e n
 exact⟨RD c.ext,c.b1,c.b2.trans (qK c.ext),λa ws q=>c.b3 a ws (RE c.ext q),A,C,r.grow (qK c.ext) (ae.refl _) λa ha=>no a (r.lists a ha),
  s.keep (qK c.ext) (eX.same (ae.refl _)) fK.nil (λa ha=>no a (s.lists a ha)) (by simp),nd,fr⟩
end
end L3
namespace L3
open PySem L2 PySem.Spec PyProof.Rows
noncomputable abbrev aH:=Dl->(D->Dl->Prop)->Prop
noncomputable abbrev dQ:=Dl->(Bool->Dl->Prop)->Prop
noncomputable abbrev bX:=Dl->(List D->Dl->Prop)->Prop
structure lD where
 nx:Dl->Prop
 rt:D->Prop
 bk:Dl->Prop:=λ_=>False
 ct:Dl->Prop:=λ_=>False
 xc:Addr->Dl->Prop:=λ_ _=>False
 xr:Addr->Dl->Prop:=λ_ _=>False
noncomputable abbrev bM:=lD->Dl->Prop
noncomputable def lE(t:aH):TE:=λσ H Q=>∃B F δ ts Qd,ag B F H σ δ ts/\t δ Qd/\∀d af v F' H',Qd d af->ae F F'->ae H H'->ag B F' H' σ af ((d,v)::ts)->Q v H'
noncomputable def lB(t:aH):TE:=λσ H Q=>∃B F δ ts Qd,ag B F H σ δ ts/\t δ Qd/\∀d af v F' H',Qd d af->ae F F'->ae H H'->ag B F' H' σ af ts->S F' H' [d] [v]->Q v H'
noncomputable def lT(t:dQ):TT:=λσ H Q=>∃B F δ ts Qd,ag B F H σ δ ts/\t δ Qd/\∀b af F' H',Qd b af->ae F F'->ae H H'->ag B F' H' σ af ts->Q b H'
noncomputable def lA(t:bX):TA:=λσ H Q=>∃B F δ ts Qd,ag B F H σ δ ts/\t δ Qd/\∀ds af vs F' H',Qd ds af->ae F F'->ae H H'->ag B F' H' σ af ts->S F' H' ds vs->Q vs H'
noncomputable def lO(t:bX):TA:=λσ H Q=>∃B F δ ts Qd,ag B F H σ δ ts/\t δ Qd/\∀(ps:List (D × V)) af F' H',Qd (ps.map (·.1)) af->ae F F'->ae H H'->ag B F' H' σ af (ps++ts)->Q (ps.map (·.2)) H'
noncomputable def XL(X:Cx)(B:Bs)(Dd:lD):Prop :=
 (∀C af pins ai F' H' s' a T,Dd.xc C af->ag B F' H' ai af []->Inv X pins ai H' s'->n8 s'.heap a T (.ref C)->Apart X pins H' a->Apart X pins H' T->X.xe (.ref a) s') /\
 (∀C af pins ai F' H' s' h' e vs,Dd.xr C af->ag B F' H' ai af []->Inv X pins ai H' s'->Gq s'.heap h' e (.ref C) vs->X.xe (.ref e) { s' with heap:=h' })
theorem XL.none{X:Cx}{B:Bs}{Dd:lD}(h1:∀C δ,¬ Dd.xc C δ)(h2:∀C δ,¬ Dd.xr C δ):XL X B Dd:=⟨λC δ _ _ _ _ _ _ _ h=>absurd h (h1 C δ),λC δ _ _ _ _ _ _ _ _ h=>absurd h (h2 C δ)⟩
noncomputable def lS(X:Cx)(t:bM):TS:=λD σ H=>∃B F δ Dd,ag B F H σ δ []/\t Dd δ/\(∀af ai F' H',Dd.nx af->ag B F' H' ai af []->D.nx ai H')/\(∀d v af ai F' H',Dd.rt d->ag B F' H' ai af [(d,v)]->D.rt v H') /\
 (∀af ai F' H',Dd.bk af->ag B F' H' ai af []->D.bk ai H')/\(∀af ai F' H',Dd.ct af->ag B F' H' ai af []->D.ct ai H')/\XL X B Dd
section
variable{X:Cx}{e a b c:Expr}{es:List Expr}{pos:Pos}{st:Stmt}{zY:List Stmt}
theorem cR{t t':TE}(h:PE X e t)(m:∀σ H Q,t' σ H Q->t σ H Q):PE X e t':=λpins s σ H Q I q=>h pins s σ H Q I (m σ H Q q)
theorem zZ{t t':TT}(h:PT X e t)(m:∀σ H Q,t' σ H Q->t σ H Q):PT X e t':=λpins s σ H Q I q=>h pins s σ H Q I (m σ H Q q)
theorem Iz{t t':TT}(h:PW X e t)(m:∀σ H Q,t' σ H Q->t σ H Q):PW X e t':=λwh pins s σ H Q I q=>h wh pins s σ H Q I (m σ H Q q)
theorem tV{t t':TA}(h:PA X es t)(m:∀σ H Q,t' σ H Q->t σ H Q):PA X es t':=λp pins s σ H Q I q=>h p pins s σ H Q I (m σ H Q q)
theorem gr{t t':TS}(h:PS X st t)(m:∀D σ H,t' D σ H->t D σ H):PS X st t':=λpins s σ H D I q=>h pins s σ H D I (m D σ H q)
theorem IA{t t':TS}(h:PSs X zY t)(m:∀D σ H,t' D σ H->t D σ H):PSs X zY t':=λpins s σ H D I q=>h pins s σ H D I (m D σ H q)
variable{t u ta tb tc:aH}
theorem aa(h:PE X e (lE t)):PE X e (lB t):=cR h λσ H Q ⟨B,F,δ,ts,Qd,c,q,k⟩=>⟨B,F,δ,ts,Qd,c,q,λd af v F' H' hd sf sh c'=>k d af v F' H' hd sf sh c'.pop c'.top⟩
noncomputable def iz(t:aH):aH:=λδ Q=>t δ λd af=>d.pl=true/\Q d af
theorem dR(h:PE X e (lB t)):PE X e (lE (iz t)):=cR h λσ H Q ⟨B,F,δ,ts,Qd,c,q,k⟩=>⟨B,F,δ,ts,_,c,q,λd af v F' H' hd sf sh c' s=>k d af v F' H' hd.2 sf sh (c'.pushS s hd.1)⟩
noncomputable def fL(i:Nat):aH:=λδ Q=>match δ[i]? with
 | some (some d)=>Q d δ
 | _=>False
noncomputable def i7(i:Nat):aH:=λδ Q=>match δ[i]? with
 | some (some d)=>Q d (δ.set i none)
 | _=>False
theorem RO{i:Nat}{δ:Dl}{Q:D->Dl->Prop}(h:fL i δ Q):∃d,δ[i]?=some (some d)/\Q d δ:=by
 unfold fL at h
 split at h
 ·rename_i d e;exact⟨d,e,h⟩
 ·exact h.elim
theorem RP{i:Nat}{δ:Dl}{Q:D->Dl->Prop}(h:i7 i δ Q):∃d,δ[i]?=some (some d)/\Q d (δ.set i none):=by
 unfold i7 at h
 split at h
 ·rename_i d e;exact⟨d,e,h⟩
 ·exact h.elim
noncomputable def dC(d:D):aH:=λδ Q=>Q d δ
theorem bv(i:Nat){x:Str}(hN:X.N[i]?=some x:=by rfl)(hv:fX X.env.scope x:=by first | exact ar rfl | exact aR (ar rfl) | exact aR (aR rfl))(hd:(x==("__debug__":Str))=false:=by decide)
  (bI:(x==("__classdict__":Str))=false:=by decide):PE X (.Name x pos) (lB (fL i)):=cR (iW hN hv hd bI) λσ H Q ⟨B,F,δ,ts,Qd,c,q,k⟩=>by
 obtain⟨d,e,q⟩:=RO q
 obtain⟨v,e1,s⟩:=c.look e
 exact⟨v,e1,k d δ v F H q (ae.refl _) (ae.refl _) c s⟩
theorem em(i:Nat){x:Str}(hN:X.N[i]?=some x:=by rfl)(hv:fX X.env.scope x:=by first | exact ar rfl | exact aR (ar rfl) | exact aR (aR rfl))(hd:(x==("__debug__":Str))=false:=by decide)
  (bI:(x==("__classdict__":Str))=false:=by decide):PE X (.Name x pos) (lE (i7 i)):=cR (iW hN hv hd bI) λσ H Q ⟨B,F,δ,ts,Qd,c,q,k⟩=>by
 obtain⟨d,e,q⟩:=RP q
 obtain⟨v,e1,c'⟩:=c.move e
 exact⟨v,e1,k d _ v F H q (ae.refl _) (ae.refl _) c'⟩
theorem z0{B:Bs}{F H:Hp}{σ:L2.St}{δ:Dl}{ts:List (D × V)}{Qd:D->Dl->Prop}{Q:VK}{d:D}{v:V}(c:ag B F H σ δ ts)(q:Qd d δ)(s:S F H [d] [v])(p:d.pl=true)
  (k:∀d af v F' H',Qd d af->ae F F'->ae H H'->ag B F' H' σ af ((d,v)::ts)->Q v H'):Q v H:=k d δ v F H q (ae.refl _) (ae.refl _) (c.pushS s p)
theorem ao{i j}:PE X (.Constant (.int i) j pos) (lE (dC (.int i))):=cR qu λσ H Q ⟨B,F,δ,ts,Qd,c,q,k⟩=>z0 c q (.int .nil) rfl k
theorem gP{i j}:PE X (.Constant (.bool i) j pos) (lE (dC (.bl i))):=cR N1 λσ H Q ⟨B,F,δ,ts,Qd,c,q,k⟩=>z0 c q (.bl .nil) rfl k
theorem RQ{x j}:PE X (.Constant (.str x) j pos) (lE (dC (.str x))):=cR N2 λσ H Q ⟨B,F,δ,ts,Qd,c,q,k⟩=>z0 c q (.str .nil) rfl k
noncomputable abbrev bU:=D->D->(D->Prop)->Prop
noncomputable def vY(r:R2)(rd:bU):Prop:=∀{B:Bs} {F H:Hp} {σ:L2.St} {δ:Dl} {ts:List (D × V)} {x y:D} {v w:V} {Q:VK} {Qd:D->Prop},ag B F H σ δ ts->S F H [x] [v]->S F H [y] [w]->rd x y Qd ->
 (∀d z H',Qd d->ae H H'->ag B F H' σ δ ((d,z)::ts)->Q z H')->r v w H Q
noncomputable def bC(X:Cx)(f:Value->Value->Sem Value)(rd:bU):Prop:=∃r,bW X f r/\vY r rd
theorem bC.or{f:Value->Value->Sem Value}{r1 r2:bU}(h1:bC X f r1)(h2:bC X f r2):bC X f λx y Q=>r1 x y Q\/r2 x y Q:=by
 obtain⟨q1,a1,b1⟩:=h1
 obtain⟨q2,a2,b2⟩:=h2
 refine⟨_,a1.or a2,λ{B F H σ δ ts x y v w Q Qd} c sx sy h k=>?_⟩
 rcases h with h | h
 ·exact .inl (b1 c sx sy h k)
 ·exact .inr (b2 c sx sy h k)
theorem bC.imp{f:Value->Value->Sem Value}{r1 r2:bU}(h1:bC X f r1)(h:∀x y Q,r2 x y Q->r1 x y Q):bC X f r2:=by
 obtain⟨q1,a1,b1⟩:=h1
 exact⟨q1,a1,λ{B F H σ δ ts x y v w Q Qd} c sx sy h2 k=>b1 c sx sy (h _ _ _ h2) k⟩
noncomputable def gu(rd:bU)(ta tb:aH):aH:=λδ Q=>ta δ λx aj=>tb aj λy aF=>rd x y λd=>Q d aF
theorem z7{r:R2}{rd:bU}(hl:vY r rd):∀σ H Q,lE (gu rd ta tb) σ H Q->tD r (lB ta) (lB tb) σ H Q:=λσ H Q ⟨B,F,δ,ts,Qd,c,q,k⟩ =>
 ⟨B,F,δ,ts,_,c,q,λx aj v F1 H1 q1 f1 h1 c1 s1=>⟨B,F1,aj,ts,_,c1,q1,λy aF w F2 H2 q2 f2 h2 c2 s2 =>
  hl c2 (s1.mono f2 h2) s2 q2 λd z H' hd hs c3=>k d aF z F2 H' hd (f1.trans f2) ((h1.trans h2).trans hs) c3⟩⟩
theorem aA{op:Operator}{rd:bU}(ho:bC X (binaryOp op) rd)(ha:PE X a (lB ta))(hb:PE X b (lB tb)):PE X (.BinOp a op b pos) (lE (gu rd ta tb)):=by
 obtain⟨r,h1,h2⟩:=ho
 exact cR (vM h1 ha hb) (z7 h2)
theorem vZ{op:CmpOp}{rd:bU}(ho:bC X (compareOp op) rd)(ha:PE X a (lB ta))(hb:PE X b (lB tb))(hm:behindInMarks op b=false):PE X (.Compare a [op] [b] pos) (lE (gu rd ta tb)):=by
 obtain⟨r,h1,h2⟩:=ho
 exact cR (O1 h1 ha hb hm) (z7 h2)
noncomputable def dT(t:aH):dQ:=λδ Q=>t δ λd af=>∃k,d=.bl k/\Q k af
theorem RR{te:TE}(h:∀σ H Q,lE t σ H Q->te σ H Q):∀σ H Q,lT (dT t) σ H Q->G1 te σ H Q:=λσ H Q zz=>by
 obtain⟨B,F,δ,ts,Qd,c,q,k⟩:=zz
 refine h σ H _ ⟨B,F,δ,ts,_,c,q,λd af v F' H' hd sf sh c'=>?_⟩
 obtain⟨b,rfl,qb⟩:=hd
 have s:=c'.top
 cases s with
 | bl _=>exact⟨b,rfl,k b af F' H' qb sf sh c'.pop⟩
theorem cO{op:CmpOp}{rd:bU}(ho:bC X (compareOp op) rd)(ha:PE X a (lB ta))(hb:PE X b (lB tb))(hm:behindInMarks op b=false):PT X (.Compare a [op] [b] pos) (lT (dT (gu rd ta tb))):=by
 obtain⟨r,h1,h2⟩:=ho
 exact zZ (O2 h1 ha hb hm) (RR (z7 h2))
noncomputable def jH(r r':bU)(ta tb tc:aH):aH:=λδ Q=>ta δ λx aj=>tb aj λy aF=>r x y λd=>∃k,d=.bl k/\if k=true then tc aF λz oi=>r' y z λd'=>Q d' oi else Q (.bl false) aF
theorem jI(h:PE X e (lB t))(he:∀whole,isTrue e X.env whole=(do let v<-whole;standAt e.pos;holding [v] (truthy v)):=by intro _;rfl):PT X e (lT (dT t)) :=
 zZ (yQ h he) λσ H Q ⟨B,F,δ,ts,Qd,c,q,k⟩=>⟨B,F,δ,ts,_,c,q,λd af v F' H' hd sf sh c' s=>by
  obtain⟨b,rfl,qb⟩:=hd
  cases s with
  | bl _=>exact⟨b,rfl,k b af F' H' qb sf sh c'⟩⟩
variable{tA tB:dQ}{cG:List Expr}
noncomputable def lF(t u:dQ):dQ:=λδ Q=>t δ λc aj=>if c=true then u aj Q else Q false aj
noncomputable def lH(t u:dQ):dQ:=λδ Q=>t δ λc aj=>if c=true then Q true aj else u aj Q
noncomputable def lJ(t:dQ):dQ:=λδ Q=>t δ λc aj=>Q (!c) aj
theorem IB(ha:PT X a (lT tA))(hb:PW X (.BoolOp .And (b::cG) pos) (lT tB)):PW X (.BoolOp .And (a::b::cG) pos) (lT (lF tA tB)) :=
 Iz (N8 ha hb) λσ H Q ⟨B,F,δ,ts,Qd,c,q,k⟩=>⟨B,F,δ,ts,_,c,q,λb aj F1 H1 q1 f1 h1 c1=>by
  cases b with
  | true=>exact ll ⟨B,F1,aj,ts,Qd,c1,by simpa using q1,λb af F' H' hd sf sh c'=>k b af F' H' hd (f1.trans sf) (h1.trans sh) c'⟩
  | false=>exact i4 (k false aj F1 H1 (by simpa using q1) f1 h1 c1)⟩
theorem qO(ha:PT X a (lT tA))(hb:PW X (.BoolOp .Or (b::cG) pos) (lT tB)):PW X (.BoolOp .Or (a::b::cG) pos) (lT (lH tA tB)) :=
 Iz (N9 ha hb) λσ H Q ⟨B,F,δ,ts,Qd,c,q,k⟩=>⟨B,F,δ,ts,_,c,q,λb aj F1 H1 q1 f1 h1 c1=>by
  cases b with
  | true=>exact ll (k true aj F1 H1 (by simpa using q1) f1 h1 c1)
  | false=>exact i4 ⟨B,F1,aj,ts,Qd,c1,by simpa using q1,λb af F' H' hd sf sh c'=>k b af F' H' hd (f1.trans sf) (h1.trans sh) c'⟩⟩
theorem qP(ha:PT X a (lT tA)):PT X (.UnaryOp .Not a pos) (lT (lJ tA)) :=
 zZ (yR ha) λσ H Q ⟨B,F,δ,ts,Qd,c,q,k⟩=>⟨B,F,δ,ts,_,c,q,λb aj F1 H1 q1 f1 h1 c1=>k _ aj F1 H1 q1 f1 h1 c1⟩
noncomputable def lK(ta tb:aH):aH:=λδ Q=>ta δ λx aj=>∃c,x=.bl c/\if c=true then tb aj Q else Q (.bl false) aj
noncomputable def lL(ta:aH):aH:=λδ Q=>ta δ λx aj=>∃c,x=.bl c/\Q (.bl (!c)) aj
theorem qQ(ha:PE X a (lB ta))(hb:PE X (.BoolOp .And (b::cG) pos) (lE tb)):PE X (.BoolOp .And (a::b::cG) pos) (lE (lK ta tb)) :=
 cR (Oc ha hb) λσ H Q ⟨B,F,δ,ts,Qd,c,q,k⟩=>⟨B,F,δ,ts,_,c,q,λd aj v F1 H1 q1 f1 h1 c1 s1=>by
  obtain⟨b,rfl,qb⟩:=q1
  cases s1 with
  | bl _ =>
   refine⟨b,rfl,?_⟩
   cases b with
   | true=>exact ll ⟨B,F1,aj,ts,Qd,c1,by simpa using qb,λd af v F' H' hd sf sh c'=>k d af v F' H' hd (f1.trans sf) (h1.trans sh) c'⟩
   | false=>exact i4 (k _ aj _ F1 H1 (by simpa using qb) f1 h1 (c1.pushS (.bl .nil) rfl))⟩
theorem RU(ha:PE X a (lB ta)):PE X (.UnaryOp .Not a pos) (lE (lL ta)) :=
 cR (Od ha) λσ H Q ⟨B,F,δ,ts,Qd,c,q,k⟩=>⟨B,F,δ,ts,_,c,q,λd aj v F1 H1 q1 f1 h1 c1 s1=>by
  obtain⟨b,rfl,qb⟩:=q1
  cases s1 with
  | bl _=>exact⟨b,rfl,k _ aj _ F1 H1 qb f1 h1 (c1.pushS (.bl .nil) rfl)⟩⟩
noncomputable def lM(t:dQ)(ta tb:aH):aH:=λδ Q=>t δ λc aj=>if c=true then ta aj Q else tb aj Q
theorem RV(hc:PT X c (lT tA))(ha:PE X a (lE ta))(hb:PE X b (lE tb)):PE X (.IfExp c a b pos) (lE (lM tA ta tb)) :=
 cR (Of hc ha hb) λσ H Q ⟨B,F,δ,ts,Qd,c,q,k⟩=>⟨B,F,δ,ts,_,c,q,λb aj F1 H1 q1 f1 h1 c1=>by
  cases b with
  | true=>exact ll ⟨B,F1,aj,ts,Qd,c1,by simpa using q1,λd af v F' H' hd sf sh c'=>k d af v F' H' hd (f1.trans sf) (h1.trans sh) c'⟩
  | false=>exact i4 ⟨B,F1,aj,ts,Qd,c1,by simpa using q1,λd af v F' H' hd sf sh c'=>k d af v F' H' hd (f1.trans sf) (h1.trans sh) c'⟩⟩
noncomputable def jJ:bX:=λδ Q=>Q [] δ
noncomputable def jK(t:aH)(r:bX):bX:=λδ Q=>t δ λd aj=>r aj λds aF=>Q (d::ds) aF
theorem az:PA X [] (lA jJ):=tV gh λσ H Q ⟨B,F,δ,ts,Qd,c,q,k⟩=>k [] δ [] F H q (ae.refl _) (ae.refl _) c .nil
variable{tr:bX}
theorem ah(ha:PE X e (lB t))(hr:PA X es (lA tr))(hs:starEach (e::es) X.env=(false,eval e X.env)::starEach es X.env:=by rfl):PA X (e::es) (lA (jK t tr)) :=
 tV (dM ha hr hs) λσ H Q ⟨B,F,δ,ts,Qd,c,q,k⟩=>⟨B,F,δ,ts,_,c,q,λd aj v F1 H1 q1 f1 h1 c1 s1=>⟨B,F1,aj,ts,_,c1,q1,λds aF vs F2 H2 q2 f2 h2 c2 s2 =>
  k (d::ds) aF (v::vs) F2 H2 q2 (f1.trans f2) (h1.trans h2) c2 ((s1.mono f2 h2).cons s2)⟩⟩
theorem eH:PA X [] (lO jJ):=tV gh λσ H Q ⟨B,F,δ,ts,Qd,c,q,k⟩=>k [] δ F H q (ae.refl _) (ae.refl _) c
theorem cS(ha:PE X e (lE t))(hr:PA X es (lO tr))(hs:starEach (e::es) X.env=(false,eval e X.env)::starEach es X.env:=by rfl):PA X (e::es) (lO (jK t tr)) :=
 tV (dM ha hr hs) λσ H Q ⟨B,F,δ,ts,Qd,c,q,k⟩=>⟨B,F,δ,ts,_,c,q,λd aj v F1 H1 q1 f1 h1 c1=>⟨B,F1,aj,(d,v)::ts,_,c1,q1,λps aF F2 H2 q2 f2 h2 c2 =>
  k ((d,v)::ps) aF F2 H2 q2 (f1.trans f2) (h1.trans h2) (c2.perm (List.perm_middle))⟩⟩
noncomputable def jL(t:bX):aH:=λδ Q=>t δ λds af=>ds.length<=sizeLine/\Q (.lst true ds) af
noncomputable def lN(t:bX):aH:=λδ Q=>t δ λds af=>ds.length<=sizeLine/\Q (.tup ds) af
theorem gv(h:PA X es (lO tr)):PE X (.List es pos) (lE (jL tr)) :=
 cR (G6 h) λσ H Q ⟨B,F,δ,ts,Qd,c,q,k⟩=>⟨B,F,δ,ts,_,c,q,λps aj F1 H1 q1 f1 h1 c1=>⟨by simpa using q1.1,λp hp=>k _ aj _ F1 _ q1.2 f1 (h1.trans (ae.upd hp)) (c1.RG hp)⟩⟩
theorem tW{x1}(h:PA X es (lO tr)):PE X (.Tuple es x1 pos) (lE (lN tr)) :=
 cR (Pw h) λσ H Q ⟨B,F,δ,ts,Qd,c,q,k⟩=>⟨B,F,δ,ts,_,c,q,λps aj F1 H1 q1 f1 h1 c1=>⟨by simpa using q1.1,λp hp=>k _ aj _ F1 _ q1.2 f1 (h1.trans (ae.upd hp)) (c1.RH hp)⟩⟩
end
end L3
namespace L3
open PySem L2 PySem.Spec PyProof.Rows
noncomputable abbrev bB:=List D->(D->Prop)->Prop
noncomputable def bD(sp:bB):Sp:=λvs H Q _=>∃F ds Qd,ae F H/\R F H ds vs []/\sp ds Qd/\∀d v F' H' A,Qd d->ae H H'->ae F F'->ae F' H'->(∀a ws,F' a=some (.lst ws)->F a=some (.lst ws)\/H a=none)->R F' H' [d] [v] A->A.Nodup->(∀a∈A,H a=none)->Q v H'
noncomputable def jM(sp:bB)(t:bX):aH:=λδ Q=>t δ λds af=>sp (ds.map D.sh) λd=>(ds.all D.pl||d.fr)=true/\Q d af
theorem z8{B:Bs}{F H:Hp}{σ:L2.St}{δ:Dl}{ts:List (D × V)}{Qd:D->Prop}{Q:VK}{E:XK}{ds:List D}{vs:List V}{sp:bB}(c:ag B F H σ δ ts)(s:S F H ds vs)(q:sp (ds.map D.sh) λd=>(ds.all D.pl||d.fr)=true/\Qd d)
  (k:∀d v F' H',Qd d->ae F F'->ae H H'->ag B F' H' σ δ ((d,v)::ts)->Q v H'):bD sp vs H Q E:=by
 by_cases hp:ds.all D.pl=true
 ·rw[lC hp]at q
  exact⟨F,ds,_,c.ext,s.r hp,q,λd v F' H' A hd hs hf he h3 r nd fr=>k d v F' H' hd.2 hf hs (c.call hs hf he h3 r nd fr)⟩
 ·refine⟨H,ds.map D.sh,_,ae.refl _,s.frozen c.ext,q,λd v F' H' A hd hs hf he h3 r nd fr=>?_⟩
  have dr:d.fr=true:=by
   have:=hd.1
   rw[Bool.or_eq_true]at this
   exact this.resolve_left hp
  exact k d v F H' hd.2 (ae.refl _) hs (c.zV hs (r.zU (by simp[dr]) (c.ext.trans hf)) nd fr)
section
variable{X:Cx}{CX:di}{n:Nat}{f:Addr}{fd:FuncData}{ps:List Str}{sp:bB}{E:XK}{x:Str}{p pos:Pos}{e:Expr}{es:List Expr}{t:bX}
theorem bt(F:aL X.prog X.w X.K X.mg X.base CX n f fd ps (bD sp))(hr:bF n X.A)(hg:Gl X x)(hm:X.mg x=some (.ref f))(hk:PySem.W.keepIn X.K (.ref f)=true)(hb:Binds X.K fd ps [])(hx:iZ CX X E)
  (ha:PA X (e::es) (lA t)) (dj:(x==("__debug__":Str))=false:=by decide) (he:starEach (e::es) X.env=(false,eval e X.env)::starEach es X.env:=by rfl) (bG:(backTo pos (starEach es X.env)).any (·.1)=false:=by rfl) :
  PE X (.Call (.Name x p) (e::es) [] pos) (lE (jM sp t)) :=
 cR (nV F hr hg hm hk hb .nil hx ha dj he bG) λσ H Q ⟨B,F,δ,ts,Qd,c,q,k⟩=>⟨B,F,δ,ts,_,c,q,λds aj vs F1 H1 q1 f1 h1 c1 s1=>by
  show bD sp (vs++[]) H1 Q E
  rw[kL]
  exact z8 c1 s1 q1 λd v F' H' hd hf hs c'=>k d aj v F' H' hd (f1.trans hf) (h1.trans hs) c'⟩
end
noncomputable def gw(N:List Str)(ds:List D):Dl:=ds.map some++aX (N.length-ds.length) none
section
variable{P:Program}{w:World}{K:PySem.W.Frag}{mg:Str->Option Value}{base:Heap}
theorem cg{x qual:Str}{st:Stmt}{f:Addr}{fd:FuncData}{N ps:List Str}{k:Nat}{sp:bB}(F:bq K x qual st f fd)(S:bx N ps (aw st))(len:∀ds Q,sp ds Q->ds.length=ps.length)
  (fe:∀(aE:Value) (A:Around) (outer:List Env) (s:Shared) (H:Hp) (E:XK),bF k (A.deeper (envOfC qual (aw st) s.heap.objs.size f aE)) ->
   ∃t:bM,PSs (fG aT P w K mg base N qual (aw st) f aE A outer s H E).dY (aZ st) (lS (fG aT P w K mg base N qual (aw st) f aE A outer s H E).dY t)/\∀ds Q,sp ds Q->t { nx:=λ_=>Q .ak,rt:=Q } (gw N ds)):aL P w K mg base aT (k+1) f fd ps (bD sp):=by
 refine F.ok S (λvs H Q E ⟨F,ds,Qd,e,r,h,_⟩=>by rw[<-r.length];exact len ds Qd h) λaE A outer s H vs Q E hr zz=>?_
 obtain⟨F,ds,Qd,e,r,h,k⟩:=zz
 obtain⟨t,ht,hq⟩:=fe aE A outer s H E hr
 have fin:∀d v af ai F' H',Qd d->ag ⟨H,F⟩ F' H' ai af [(d,v)]->Q v H':=λd v af ai F' H' hd c=>by
  obtain⟨A,C,r',s',nd,fr⟩:=c.own
  exact k d v F' H' A hd c.b1 c.b2 c.ext c.b3 r' (cN.mp nd).1 λa ha=>fr a (eu _ ha)
 have e1:L2.start N vs=vs.map some++aX (N.length-ds.length) none:=by unfold L2.start;rw[r.length]
 refine⟨_,ht,⟨H,F⟩,F,gw N ds,_,?_,hq ds Qd h,λaf ai F' H' hd c=>fin .ak .ak af ai F' H' hd (c.pushS (.ak .nil) rfl),fin,λ_ _ _ _ z=>z.elim,λ_ _ _ _ z=>z.elim,XL.none (λ_ _ z=>z) λ_ _ z=>z⟩
 rw[e1]
 exact ag.start e r _
end
section
variable{X:Cx}{e a b c:Expr}{es:List Expr}{pos:Pos}{st:Stmt}{zY cG:List Stmt}{t u:bM}{te:aH}{tt:dQ}
noncomputable def jN:bM:=λD δ=>D.nx δ
noncomputable def v7(t u:bM):bM:=λD δ=>t { D with nx:=u D } δ
theorem aI{t u:bM}{En:lD}{δ:Dl}(h:∀U:Dl->Prop,(∀af,u En af->U af)->t { En with nx:=U } δ):v7 t u En δ:=h (u En) λ_ z=>z
theorem du:PSs X [] (lS X jN):=IA yS λD σ H ⟨B,F,δ,Dd,c,q,k1,_⟩=>k1 δ σ F H q c
theorem aJ(h1:PS X st (lS X t))(h2:PSs X cG (lS X u)):PSs X (st::cG) (lS X (v7 t u)) :=
 IA (ik h1 h2) λD σ H ⟨B,F,δ,Dd,c,q,k1,k2,k3,k4⟩=>⟨B,F,δ,{ Dd with nx:=u Dd },c,q,λaf ai F' H' hq c'=>⟨B,F',af,Dd,c',hq,k1,k2,k3,k4⟩,k2,k3,k4⟩
theorem aK(h1:PS X st (lS X t)):PSs X [st] (lS X t):=nN h1
noncomputable def jO(i:Nat)(t:aH):bM:=λD δ=>t δ λd af=>D.nx (af.set i (some d))
theorem bN{i:Nat}{x:Str}{pos':Pos}(hN:X.N.Nodup)(hi:X.N[i]?=some x)(hx:Loc X.env.scope x)(he:PE X e (lE te))(hs:swapsWith e (some (.Name x pos')) pos.line X.env=pure false:=by rfl)
  (hf:X.fn x=true\/X.env.scope.names.lookup x=some .local:=by first | exact .inl rfl | exact .inr rfl | assumption):PS X (.Assign [.Name x pos'] e pos) (lS X (jO i te)) :=
 gr (GV hN hi hx he hs hf) λD σ H ⟨B,F,δ,Dd,c,q,k1,k2,k3,k4⟩=>⟨B,F,δ,[],_,c,q,λd af v F' H' hd sf sh c'=>k1 _ _ F' H' hd (c'.store i)⟩
noncomputable def jP(t:aH):bM:=λD δ=>t δ λd _=>D.rt d
theorem bb(he:PE X e (lE te)):PS X (.Return (some e) pos) (lS X (jP te)) :=
 gr (Om he) λD σ H ⟨B,F,δ,Dd,c,q,k1,k2,k3,k4⟩=>⟨B,F,δ,[],_,c,q,λd af v F' H' hd sf sh c'=>k2 d v af σ F' H' hd c'⟩
noncomputable def i8(tc:dQ)(t u:bM):bM:=λD δ=>tc δ λb af=>if b=true then t D af else u D af
theorem dv{l r:List Stmt}(hc:PT X c (lT tt))(ha:PSs X l (lS X t))(hb:PSs X r (lS X u)):PS X (.If c l r pos) (lS X (i8 tt t u)) :=
 gr (yT hc ha hb) λD σ H ⟨B,F,δ,Dd,c,q,k⟩=>⟨B,F,δ,[],_,c,q,λb af F' H' hq sf sh c'=>by
  cases b with
  | true=>exact ll ⟨B,F',af,Dd,c',by simpa using hq,k⟩
  | false=>exact i4 ⟨B,F',af,Dd,c',by simpa using hq,k⟩⟩
noncomputable def lP(i:Nat)(rd:bU)(t:aH):bM:=λD δ=>∃x,δ[i]?=some (some x)/\t δ λy aj=>rd x y λz=>D.nx (aj.set i (some z))
theorem tX{i:Nat}{x:Str}{op:Operator}{rd:bU}{pos':Pos}(hN:X.N.Nodup)(hi:X.N[i]?=some x)(hx:Loc X.env.scope x)(he:PE X e (lB te))(ho:bC X (inplaceOp op) rd)
  (hf:X.fn x=true\/X.env.scope.names.lookup x=some .local:=by first | exact .inl rfl | exact .inr rfl | assumption):PS X (.AugAssign (.Name x pos') op e pos) (lS X (lP i rd te)):=by
 obtain⟨r,h1,h2⟩:=ho
 refine gr (OB hN hi hx he (ti:=r) h1 hf) λD σ H zz=>?_
 obtain⟨B,F,δ,Dd,c,⟨d0,e0,q⟩,k1,k2,k3,k4⟩:=zz
 obtain⟨v0,e1,s0⟩:=c.look e0
 exact⟨v0,e1,B,F,δ,[],_,c,q,λd af v F' H' hd sf sh c' s=>h2 c' (s0.mono sf sh) s hd λz w H2 hz h3 c3=>k1 _ _ F' H2 hz (c3.store i)⟩
noncomputable def lQ(tc:dQ)(tb:bM):bM:=λD δ=>∃W:Nat->Dl->Prop,(∃m,W m δ)/\∀m δ,W m δ->tc δ λb af=>if b=true then tb { D with nx:=λaf=>∃m',m'<m/\W m' af,ct:=λaf=>∃m',m'<m/\W m' af,bk:=D.nx } af else D.nx af
theorem v9{body:List Stmt}(hp:PassesOwn (model X.prog X.w) X.A X.env X.xe)(hc:PT X c (lT tt))(hb:PSs X body (lS X t)):PS X (.While c body [] pos) (lS X (lQ tt t)) :=
 gr (OF hp hc hb) λD σ H zz=>by
  obtain⟨B,F,δ,Dd,c,⟨W,⟨m0,w0⟩,hw⟩,k1,k2,k3,k4⟩:=zz
  refine⟨λm σ H=>∃F δ,ag B F H σ δ []/\W m δ,⟨m0,F,δ,c,w0⟩,λm σ H ⟨F,δ,c,w⟩=>⟨B,F,δ,[],_,c,hw m δ w,λb af F' H' hq sf sh c'=>?_⟩⟩
  cases b with
  | true =>
   refine ll ⟨λai H'=>∃m',m'<m/\∃F δ,ag B F H' ai δ []/\W m' δ,λai H' z=>z,B,F',af,{ Dd with nx:=λaf=>∃m',m'<m/\W m' af,ct:=λaf=>∃m',m'<m/\W m' af,bk:=Dd.nx },c',by simpa using hq,λaF gb F2 H2 ⟨m',hm,w2⟩ c2=>⟨m',hm,F2,aF,c2,w2⟩,k2,λaF gb F2 H2 z c2=>k1 aF gb F2 H2 z c2,λaF gb F2 H2 ⟨m',hm,w2⟩ c2=>⟨m',hm,F2,aF,c2,w2⟩,k4.2⟩
  | false=>exact i4 (k1 af σ F' H' (by simpa using hq) c')
end
structure JD(J:It)(F:Hp)(xs:List D):Prop where
 go:∀i H,ae F H->i<xs.length->J.go i H
 gL:∀i H x H',ae F H->i<xs.length->J.gL i H x H'->∃d,xs[i]?=some d/\ae H H'/\R F H' [d] [x] []
 stop:∀i H,ae F H->xs.length<=i->J.stop i H
noncomputable abbrev gQ:=Dl->(Bool->List D->Dl->Prop)->Prop
noncomputable def lI(t:gQ):TI:=λσ H Rr=>∃B F δ ts Qd,ag B F H σ δ ts/\t δ Qd/\∀g xs af J F' H',Qd g xs af->ae F F'->ae H H'->ag B F' H' σ af ts->JD J H' (xs.map D.sh)->(g=true->xs.all D.pl=true/\JD J F' xs)->Rr J H'
noncomputable abbrev eY:=D->Dl->(Dl->Prop)->Prop
noncomputable def lG(m:Nat)(t:eY):TG:=λv σ H Q=>∃B F δ ts d Qd,ag B F H σ δ ((d,v)::ts)/\t d δ Qd/\∀af ai,Qd af->ai.length=σ.length->(∀j,j<m->ai[j]?=σ[j]?)->ag B F H ai af ts->Q ai H
noncomputable def gx:D->Option (List D)
 | .lst _ xs=>some xs
 | .fz xs=>some xs
 | _=>none
section
variable{B:Bs}{F H F1:Hp}{σ:L2.St}{δ:Dl}{ts:List (D × V)}
end
section
variable{X:Cx}{e a b c tg l iter:Expr}{es:List Expr}{pos:Pos}{t u:bM}{te:aH}{tt:dQ}{ta:bX}{m:Nat}
theorem tY{w w':TI}(h:PI X tg iter w)(m:∀σ H Q,w' σ H Q->w σ H Q):PI X tg iter w':=λpins s σ H Q I q=>h pins s σ H Q I (m σ H Q q)
theorem IC{w w':TG}(h:PG X tg w)(m:∀v σ H Q,w' v σ H Q->w v σ H Q):PG X tg w':=λpins s σ H v u Q I r q=>h pins s σ H v u Q I r (m v σ H Q q)
noncomputable def gN(i:Nat):eY:=λd δ Q=>Q (δ.set i (some d))
theorem ck{i:Nat}{x:Str}(hN:X.N.Nodup)(hi:X.N[i]?=some x)(hx:Loc X.env.scope x)(hm:m<=i:=by decide)(hf:X.fn x=true\/X.env.scope.names.lookup x=some .local:=by first | exact .inl rfl | exact .inr rfl | assumption):PG X (.Name x pos) (lG m (gN i)) :=
 IC (s9 hN hi hx hf) λv σ H Q ⟨B,F,δ,ts,d,Qd,c,q,k⟩=>k _ _ q (by simp) (λj hj=>by rw[nr (by omega)]) (c.store i)
theorem tZ{K:PySem.W.Frag}{F H:Hp}{p:Addr}{xs:List D}{ws:List V}(hp:Rd F p (.lst ws))(r:R F H xs ws [])(hF:Full F H):JD (yY K p) F xs where
 go:=λi H' hs hi=>by
  have l:=r.length
  have gk:i<ws.length:=by omega
  exact⟨ws,ws[i],.inl (fg hp hs),br gk⟩
 gL:=λi H' x H2 hs hi zz=>by
  obtain⟨e,y⟩:=zz
  subst e
  have hx:=y ws (.inl (fg hp hs))
  obtain⟨v,A1,e2,r1,sub⟩:=(r.full hF hs rfl).get (br hi)
  rw[hx]at e2;cases e2
  have:A1=[]:=Nz.mpr λa ha=>by simpa using sub ha
  subst this
  exact⟨_,br hi,ae.refl _,r1⟩
 stop:=λi H' hs hi=>⟨ws,.inl (fg hp hs),by have:=r.length;omega⟩
theorem wa{F:Hp}(lo:Int)(n:Nat):JD (tf lo n) F ((bf n).map λ(k:Nat)=>D.int (lo+(k:Int))) where
 go:=λi H' hs hi=>by
  have gk:i<n:=by simpa using hi
  exact gk
 gL:=λi H' x H2 hs hi zz=>by
  obtain⟨e,y⟩:=zz
  subst e y
  have gk:i<n:=by simpa using hi
  exact⟨.int (lo+i),by simp[nG gk],ae.refl _,.int .nil⟩
 stop:=λi H' hs hi=>by
  have gk:n<=i:=by simpa using hi
  exact gk
noncomputable def lR(t:aH):gQ:=λδ Q=>t δ λd af=>∃xs,gx d=some xs/\Q d.pl xs af
theorem ef(h:PE X l (lB te)):PI X tg l (lI (lR te)) :=
 tY (yZ h) λσ H Q ⟨B,F,δ,ts,Qd,c,q,k⟩=>⟨B,F,δ,ts,_,c,q,λd aj v F1 H1 hd f1 h1 c1 s=>by
  obtain⟨xs,e,hq⟩:=hd
  have c3:=c1.snap
  have e2:=c1.ext
  have sn:=qK e2
  cases s with
  | @shr p ws ys _ _ hp r _ =>
   obtain rfl:=cP e
   refine⟨p,rfl,⟨ws,aM.of (e2 _ _ hp)⟩,k _ _ aj _ _ H1 hq (f1.trans sn) h1 c3 ?_ λ_=>⟨r.pl,tZ (.inl (sn _ _ hp)) (r.shared sn (ae.refl _)) vX⟩⟩
   rw[lC r.pl]
   exact tZ (.inl (e2 _ _ hp)) (r.shared e2 (ae.refl _)) (Full.refl _)
  | @own p ws ys _ _ hp r _ =>
   obtain rfl:=cP e
   refine⟨p,rfl,⟨ws,aM.of hp⟩,k _ _ aj _ _ H1 hq (f1.trans sn) h1 c3 (tZ (.inl hp) (r.frozen e2) (Full.refl _)) λz=>by simp[eW]at z⟩
  | @fz p o ws ys _ _ hp r _ =>
   obtain rfl:=cP e
   refine⟨p,rfl,⟨ws,.inl (.inr ⟨o,e2 _ _ hp⟩)⟩,k _ _ aj _ _ H1 hq (f1.trans sn) h1 c3 ?_ λ_=>⟨r.pl,tZ (.inr ⟨o,sn _ _ hp⟩) (r.shared sn (ae.refl _)) vX⟩⟩
   rw[lC r.pl]
   exact tZ (.inr ⟨o,e2 _ _ hp⟩) (r.shared e2 (ae.refl _)) (Full.refl _)
  | ak _=>cases e
  | bl _=>cases e
  | int _=>cases e
  | str _=>cases e
  | tup _ _ _=>cases e
  | obj _ _ _ _=>cases e
  | aQ _ _=>cases e⟩
theorem t7(f:Nat->Int)(l:List Nat):(l.map λk=>D.int (f k)).map D.sh=l.map λk=>D.int (f k):=by simp[D.sh]
theorem ID(f:Nat->Int)(l:List Nat):(l.map λk=>D.int (f k)).all D.pl=true:=by simp[D.pl]
noncomputable def lU(t:bX):gQ:=λδ Q=>t δ λds af=>∃j:Int,ds=[.int j]/\(-(2 ^ 62)<=j/\j<2 ^ 62)/\Q true ((bf j.toNat).map λ(k:Nat)=>D.int (0+(k:Int))) af
theorem lV{p:Pos}(hg:Gl X "range")(hm:X.mg "range"=none)(ha:PA X [a] (lA ta))(hs:starEach [a] X.env=[(false,eval a X.env)]:=by rfl):PI X tg (.Call (.Name "range" p) [a] [] pos) (lI (lU ta)) :=
 tY (OL hg hm ha hs) λσ H Q ⟨B,F,δ,ts,Qd,c,q,k⟩=>⟨B,F,δ,ts,_,c,q,λds aj vs F1 H1 hd f1 h1 c1 s=>by
  obtain⟨j,rfl,⟨b1,b2⟩,hq⟩:=hd
  cases s with
  | int s =>
   cases s
   refine⟨j,rfl,b1,b2,k true _ aj _ _ H1 hq f1 h1 c1 ?_ λ_=>⟨ID _ _,wa 0 _⟩⟩
   rw[t7]
   exact wa 0 _⟩
noncomputable def lW(t:bX):gQ:=λδ Q=>t δ λds af=>∃i j:Int,ds=[.int i,.int j]/\(-(2 ^ 62)<=i/\i<2 ^ 62/\-(2 ^ 62)<=j/\j<2 ^ 62)/\Q true ((bf (j-i).toNat).map λ(k:Nat)=>D.int (i+(k:Int))) af
theorem wb{p:Pos}(hg:Gl X "range")(hm:X.mg "range"=none)(ha:PA X [a,b] (lA ta))(hs:starEach [a,b] X.env=[(false,eval a X.env),(false,eval b X.env)]:=by rfl)(fC:starEach [b] X.env=[(false,eval b X.env)]:=by rfl) :
  PI X tg (.Call (.Name "range" p) [a,b] [] pos) (lI (lW ta)) :=
 tY (OM hg hm ha hs fC) λσ H Q ⟨B,F,δ,ts,Qd,c,q,k⟩=>⟨B,F,δ,ts,_,c,q,λds aj vs F1 H1 hd f1 h1 c1 s=>by
  obtain⟨i,j,rfl,bd,hq⟩:=hd
  cases s with
  | int s =>
   cases s with
   | int s =>
    cases s
    refine⟨i,j,rfl,bd,k true _ aj _ _ H1 hq f1 h1 c1 ?_ λ_=>⟨ID _ _,wa i _⟩⟩
    rw[t7]
    exact wa i _⟩
noncomputable def i9(xs:List D)(g:eY)(tb:bM):bM:=λEn aj=>∃Iv:Nat->Dl->Prop,Iv 0 aj /\
 (∀i d af,xs[i]?=some d->Iv i af->g d af λaF=>tb { En with nx:=Iv (i+1),ct:=Iv (i+1),bk:=En.nx } aF)/\∀af,Iv xs.length af->En.nx af
theorem i9.mk{xs:List D}{g:eY}{tb:bM}{En:lD}{δ:Dl}(Iv:Nat->Dl->Prop)(h0:Iv 0 δ)(ht:∀i d af,xs[i]?=some d->Iv i af->g d af λaF=>tb { En with nx:=Iv (i+1),ct:=Iv (i+1),bk:=En.nx } aF)
  (hf:∀af,Iv xs.length af->En.nx af):i9 xs g tb En δ:=⟨Iv,h0,ht,hf⟩
noncomputable def lX(ti:gQ)(g:eY)(tb:bM):bM:=λEn δ=>ti δ λsh xs aj=>sh=true/\i9 xs g tb En aj
theorem lY{ti:gQ}{g:eY}{body:List Stmt}(hp:PassesOwn (model X.prog X.w) X.A X.env X.xe)(hc:X.calm=true)(hi:PI X tg iter (lI ti))(hg:PG X tg (lG 0 g))(hb:PSs X body (lS X t))
  (hs:∀x,foldedSetIterable iter X.env x=pure x:=by intro _;rfl):PS X (.For tg iter body [] pos) (lS X (lX ti g t)) :=
 gr (y0 hp hc hi hg hb hs) λEn σ H ⟨B,F,δ,Dd,c,q,k1,k2,k3,k4⟩=>⟨B,F,δ,[],_,c,q,λsh xs aj J F1 H1 hq f1 h1 c1 _ jd=>by
  obtain⟨lh,Iv,i0,turn,fin⟩:=hq
  obtain⟨bG,jd⟩:=jd lh
  have un:∀{F' H':Hp} {ai:L2.St} {af:Dl} {ts:List (D × V)},ag ⟨B.H0,F1⟩ F' H' ai af ts->ag B F' H' ai af ts:=λc'=>c'.RI c1.b2 c1.b3
  refine⟨λi m σ H=>m=xs.length-i/\i<=xs.length/\∃F δ,ag ⟨B.H0,F1⟩ F H σ δ []/\Iv i δ,⟨_,rfl,ju _,F1,aj,c1.rebase,i0⟩,?_⟩
  rintro i m gb H2 ⟨rfl,hi,F2,aF,c2,iv⟩
  have s2:ae F1 H2:=c2.b2.trans c2.ext
  by_cases dD:i<xs.length
  ·refine .inr ⟨jd.go i H2 s2 dD,λai H'=>∃F δ,ag ⟨B.H0,F1⟩ F H' ai δ []/\Iv (i+1) δ,λai H' z=>⟨xs.length-(i+1),by omega,rfl,dD,z⟩,λx H3 y=>?_⟩
   obtain⟨d,e,s3,r⟩:=jd.gL i H2 x H3 s2 dD y
   have c3:=(c2.grow s3).pushS (d:=d) (v:=x) ((r.s).mono c2.b2 (ae.refl _)) (by have:=r.pl;simpa using this)
   refine⟨⟨B.H0,F1⟩,F2,aF,[],d,_,c3,turn i d aF e iv,λaf ai hq _ _ c4=>?_⟩
   exact⟨⟨B.H0,F1⟩,F2,af,_,c4,hq,λbP cF F5 H5 h5 c5=>⟨F5,bP,c5,h5⟩,λd5 v5 bP cF F5 H5 h5 c5=>k2 d5 v5 bP cF F5 H5 h5 (un c5),λbP cF F5 H5 h5 c5=>k1 bP cF F5 H5 h5 (un c5),λbP cF F5 H5 h5 c5=>⟨F5,bP,c5,h5⟩,⟨λC bP pins cF F5 H5 s5 a T h5 c5=>k4.2.1 C bP pins cF F5 H5 s5 a T h5 (un c5),λC bP pins cF F5 H5 s5 h' e vs h5 c5=>k4.2.2 C bP pins cF F5 H5 s5 h' e vs h5 (un c5)⟩⟩
  ·have e:i=xs.length:=by omega
   subst e
   exact .inl ⟨jd.stop _ H2 s2 (bH _),k1 aF gb F2 H2 (fin aF iv) (un c2)⟩⟩
end
end L3
namespace L3
open PySem L2 PySem.Spec PyProof.Rows
noncomputable def fh(δ:Dl)(q:Str × Nat):Option D:=(δ[q.2]?).getD none
noncomputable def fi(δ:Dl)(q:Str × Nat):Bool:=match fh δ q with
 | some d=>d.pl
 | none=>true
noncomputable def ek(aq:List (Str × Nat))(n:Nat)(δ:Dl):Dl:=(aq.map λq=>(fh δ q).map D.sh)++aX n none
noncomputable def t8(sh:Bool)(xs:List D)(aq:List (Str × Nat))(n:Nat)(g:eY)(tt:dQ)(te:aH)(aj:Dl)(Q:D->Dl->Prop):Prop:=∃(p:D->Bool) (f:D->D),
 (∀x∈xs.map D.sh,g x (ek aq n aj) λaF=>tt aF λb oi=>b=p x/\(p x=true->te oi λd _=>d=f x)) /\
 ((sh&&aq.all (fi aj))=true\/∀x∈xs.map D.sh,p x=true->(f x).fr=true)/\xs.length<=sizeLine/\Q (.lst true (((xs.map D.sh).filter p).map f)) aj
noncomputable def jQ(ti:gQ)(aq:List (Str × Nat))(n:Nat)(g:eY)(tt:dQ)(te:aH):aH:=λδ Q=>ti δ λsh xs aj=>t8 sh xs aq n g tt te aj Q
noncomputable def gR:dQ:=λδ Q=>Q true δ
theorem RW{sh:Bool}{xs:List D}{aq:List (Str × Nat)}{n m:Nat}{te:aH}{aj:Dl}{Q:D->Dl->Prop}(f:D->D)(hx:∀x∈xs.map D.sh,te ((ek aq n aj).set m (some x)) λd _=>d=f x)
  (dr:(sh&&aq.all (fi aj))=true\/∀x∈xs.map D.sh,(f x).fr=true) (hl:xs.length<=sizeLine) (hq:Q (.lst true ((xs.map D.sh).map f)) aj):t8 sh xs aq n (gN m) gR te aj Q :=
 ⟨λ_=>true,f,λx h=>⟨rfl,λ_=>hx x h⟩,dr.imp id λh x hx _=>h x hx,hl,by rw[NA.mpr (λ_ _=>rfl)];exact hq⟩
section
variable{B:Bs}{F H:Hp}{σ:L2.St}{δ:Dl}{ts:List (D × V)}
theorem IE(c:ag B F H σ δ ts)(n:Nat):∀(aq:List (Str × Nat)),aq.all (fi δ)=true->RS F H (ek aq n δ) (eT aq n σ) []
 | [],_=>by
  have z:∀n,RS F H (aX n none) (aX n none) []:=λn=>by
   induction n with
   | zero=>exact .nil
   | succ n ih=>exact .ak ih
  exact z n
 | q::r,h=>by
  rw[cX,dm]at h
  have ih:=IE c n r h.2
  show RS F H ((fh δ q).map D.sh::ek r n δ) ((σ[q.2]?).getD none::eT r n σ) []
  cases e:fh δ q with
  | none=>exact .ak ih
  | some d =>
   have e2:δ[q.2]?=some (some d):=by
    unfold fh at e
    cases z:δ[q.2]? with
    | none=>rw[z]at e;cases e
    | some o=>rw[z]at e;exact congrArg some e
   have hp:d.pl=true:=by have:=h.1;unfold fi at this;rw[e]at this;exact this
   obtain⟨v,e3,s⟩:=c.look e2
   rw[e3]
   show RS F H (some d.sh::_) (some v::_) []
   rw[D.vW hp]
   exact .eG (A:=[]) (s.r (by simp[hp])) ih
theorem IF(c:ag B F H σ δ ts)(n:Nat):∀(aq:List (Str × Nat)),RS H H (ek aq n δ) (eT aq n σ) []
 | []=>by
  have z:∀n,RS H H (aX n none) (aX n none) []:=λn=>by
   induction n with
   | zero=>exact .nil
   | succ n ih=>exact .ak ih
  exact z n
 | q::r=>by
  have ih:=IF c n r
  show RS H H ((fh δ q).map D.sh::ek r n δ) ((σ[q.2]?).getD none::eT r n σ) []
  cases e:fh δ q with
  | none=>exact .ak ih
  | some d =>
   have e2:δ[q.2]?=some (some d):=by
    unfold fh at e
    cases z:δ[q.2]? with
    | none=>rw[z]at e;cases e
    | some o=>rw[z]at e;exact congrArg some e
   obtain⟨v,e3,s⟩:=c.look e2
   rw[e3]
   exact .eG (A:=[]) (s.frozen c.ext) ih
theorem IG{α:Type}(xs:List α)(p:α->Bool)(i:Nat)(x:α)(h:xs[i]?=some x):(xs.take (i+1)).filter p=(xs.take i).filter p++(if p x=true then [x]else []):=by
 rw[yB,h,List.filter_append]
 simp only[Option.toList_some]
 by_cases hp:p x=true<;>simp[hp]
end
section
variable{X:Cx}{elt iter tg:Expr}{pos:Pos}{ifs:List Expr}{scope:Scope}{cl:List (Str × Addr)}{ti:gQ}{tt:dQ}{te:aH}{g:eY}
theorem IH{B:Bs}{F1 H1:Hp}{σ:L2.St}{aj:Dl}{ts:List (D × V)}{J:It}{Qd:D->Dl->Prop}{Q:VK}{xs:List D}{sh:Bool}{aq:List (Str × Nat)}{n:Nat}(c1:ag B F1 H1 σ aj ts)
  (oj:JD J H1 (xs.map D.sh)) (t9:sh=true->xs.all D.pl=true/\JD J F1 xs) (p:D->Bool) (f:D->D)
  (hx:∀x∈xs.map D.sh,g x (ek aq n aj) λaF=>tt aF λb oi=>b=p x/\(p x=true->te oi λd _=>d=f x))
  (dr:(sh&&aq.all (fi aj))=true\/∀x∈xs.map D.sh,p x=true->(f x).fr=true) (hlen:xs.length<=sizeLine) (hq:Qd (.lst true (((xs.map D.sh).filter p).map f)) aj)
  (k:∀d af v F' H',Qd d af->ae F1 F'->ae H1 H'->ag B F' H' σ af ((d,v)::ts)->Q v H'):Ic J aq n (lG aq.length g) (lT tt) (lE te) σ H1 Q:=by
 intro Dp hD
 have cD:ag B F1 (upd H1 Dp (.lst [])) σ aj ((.lst true [],.ref Dp)::ts):=c1.qM hD .nil rfl
 refine⟨λi m acc H2=>m=xs.length-i/\i<=xs.length/\H2 Dp=some (.lst acc)/\ae H1 H2/\acc.length<=i/\∃F2,ae F1 F2 /\
  ag B F2 H2 σ aj ((.lst true ((((xs.map D.sh).take i).filter p).map f),.ref Dp)::ts),⟨xs.length,rfl,ju _,bw,ae.upd hD,bH _,F1,ae.refl _,by simpa using cD⟩,?_⟩
 rintro i m acc H2 ⟨rfl,hi,z9,ua,RX,F2,ja,c2⟩
 refine⟨z9,?_⟩
 by_cases dD:i<xs.length
 case neg =>
  have e:i=xs.length:=by omega
  subst e
  refine .inl ⟨oj.stop _ H2 ua (by simp),k _ aj _ F2 H2 ?_ ja ua c2⟩
  have:(xs.map D.sh).take xs.length=xs.map D.sh:=by rw[Gu (by simp)]
  rw[this]
  exact hq
 case pos =>
  refine .inr ⟨oj.go i H2 ua (by simpa using dD),λx H3 y=>?_⟩
  obtain⟨d0,e0,Aa,r0⟩:=oj.gL i H2 x H3 ua (by simpa using dD) y
  have II:d0∈xs.map D.sh:=sI e0
  have IJ:H3 Dp=some (.lst acc):=Aa _ _ z9
  have c3:=c2.grow Aa
  have Ab:=ua.trans Aa
  refine⟨IJ,?_⟩
  have Ac:=hx d0 II
  have turn:∀Fi,ae Fi H3->RS Fi H3 (ek aq n aj) (eT aq n σ) []->S Fi H3 [d0] [x]->d0.pl=true ->
    (∀d v F' H' A,d=f d0->p d0=true->ae H3 H'->ae Fi F'->ae F' H'->(∀a ws,F' a=some (.lst ws)->Fi a=some (.lst ws)\/H3 a=none)->R F' H' [d] [v] A->A.Nodup->(∀a∈A,H3 a=none) ->
     ∃F4,ae F2 F4/\ag B F4 H' σ aj ((d,v)::(.lst true ((((xs.map D.sh).take i).filter p).map f),.ref Dp)::ts)) ->
    lG aq.length g x (eT aq n σ) H3 λeJ H4 =>
     (eJ.length=(eT aq n σ).length/\∀j,j<aq.length->eJ[j]?=(eT aq n σ)[j]?)/\lT tt eJ H4 λb H5=>H5 Dp=some (.lst acc) /\
     if b=true then lE te eJ H5 λy H6=>H6 Dp=some (.lst acc)/\acc.length<sizeLine/\∃m',m'<xs.length-i /\
      (m'=xs.length-(i+1)/\i+1<=xs.length/\upd H6 Dp (.lst (acc++[y])) Dp=some (.lst (acc++[y]))/\ae H1 (upd H6 Dp (.lst (acc++[y])))/\(acc++[y]).length<=i+1/\∃F2,ae F1 F2 /\
       ag B F2 (upd H6 Dp (.lst (acc++[y]))) σ aj ((.lst true ((((xs.map D.sh).take (i+1)).filter p).map f),.ref Dp)::ts))
     else ∃m',m'<xs.length-i/\(m'=xs.length-(i+1)/\i+1<=xs.length/\H5 Dp=some (.lst acc)/\ae H1 H5/\acc.length<=i+1/\∃F2,ae F1 F2 /\
       ag B F2 H5 σ aj ((.lst true ((((xs.map D.sh).take (i+1)).filter p).map f),.ref Dp)::ts)):=by
   intro Fi RY RZ hS bG back
   have ci:ag ⟨H3,Fi⟩ Fi H3 (eT aq n σ) (ek aq n aj) []:=⟨RY,ae.refl _,ae.refl _,λ_ _ q=>.inl q,[],[],.nil,RZ,by simp,by simp⟩
   refine⟨⟨H3,Fi⟩,Fi,ek aq n aj,[],d0,_,ci.pushS hS bG,Ac,λaf eJ R0 l1 k1 c4=>⟨⟨l1,k1⟩,⟨H3,Fi⟩,Fi,af,[],_,c4,R0,λb bP F5 H5 hb f5 h5 c5=>?_⟩⟩
   obtain⟨hb,ht⟩:=hb
   have wc:H5 Dp=some (.lst acc):=h5 _ _ IJ
   refine⟨wc,?_⟩
   by_cases hp:p d0=true
   ·rw[hb,hp]
    refine ll ⟨⟨H3,Fi⟩,F5,bP,[],_,c5,ht hp,λd δ6 v F6 H6 hd f6 h6 c6=>?_⟩
    have IK:H6 Dp=some (.lst acc):=h6 _ _ wc
    obtain⟨A,C,r,s,nd,fr⟩:=c6.own
    obtain⟨F4,lZ,c7⟩:=back d v F6 H6 A hd hp c6.b1 c6.b2 c6.ext c6.b3 r (cN.mp nd).1 λa ha=>fr a (eu _ ha)
    have c8:=c7.RM IK
    refine⟨IK,by omega,xs.length-(i+1),by omega,rfl,dD,bw,?_,by simpa using RX,F4,ja.trans lZ,?_⟩
    ·have IL:=Ab.trans c6.b1
     exact⟨λa o q n=>by rw[aD (dq q hD)];exact IL.get a o q n,λa ps q=>by rw[aD (dq q hD)];exact IL.tb a ps q⟩
    ·have e9:(((xs.map D.sh).take (i+1)).filter p).map f=(((xs.map D.sh).take i).filter p).map f++[d]:=by
      rw[IG _ p i d0 e0,hp,hd];simp
     rw[e9]
     exact c8
   ·have IM:p d0=false:=by simpa using hp
    rw[hb,IM]
    refine i4 ⟨xs.length-(i+1),by omega,rfl,dD,wc,Ab.trans h5,by omega,F2,ja,?_⟩
    have e9:(((xs.map D.sh).take (i+1)).filter p).map f=(((xs.map D.sh).take i).filter p).map f:=by
     rw[IG _ p i d0 e0,IM];simp
    rw[e9]
    exact c3.grow h5
  by_cases hA:(sh&&aq.all (fi aj))=true
  ·rw[dm]at hA
   obtain⟨bG,jd⟩:=t9 hA.1
   have lh:=lC bG
   rw[lh]at e0
   obtain⟨d1,e1,_,r1⟩:=jd.gL i H2 x H3 (ja.trans c2.ext) dD y
   rw[e0]at e1;cases e1
   have R1:d0.pl=true:=by have:=r1.pl;simpa using this
   refine turn F2 c3.ext (IE c3 n aq hA.2) ((r1.s).mono ja (ae.refl _)) R1 λd v F' H' A hd hp hs hf he h3 r nd fr=>⟨F',hf,c3.call hs hf he h3 r nd fr⟩
  ·have R3:=dr.resolve_left hA
   refine turn H3 (ae.refl _) (IF c3 n aq) ((r0.shared Ab (ae.refl _)).s) (by have:=r0.pl;simpa using this) λd v F' H' A hd hp hs hf he h3 r nd fr=>⟨F2,ae.refl _,?_⟩
   exact c3.zV hs (r.zU (by rw[hd];simp[R3 d0 II hp]) (c3.ext.trans hf)) nd fr
theorem cJ{Y:Cx}:nZ Y [] (lT gR):=λ_ _ _ H _ I ⟨B,F,δ,ts,Qd,c,q,k⟩=>QX _ _ _ H _ I (k true δ F H q (ae.refl _) (ae.refl _) c)
end
end L3
namespace L3
open PySem L2 PySem.Spec PyProof.Rows
section
variable{X:Cx}{F H:Hp}{v w:V}
noncomputable def l2(rd:bU):R2:=λv w H Q=>∃B F σ δ ts x y Qd,ag B F H σ δ ts/\S F H [x] [v]/\S F H [y] [w]/\rd x y Qd/\∀d z H',Qd d->ae H H'->ag B F H' σ δ ((d,z)::ts)->Q z H'
theorem bC.of{f:Value->Value->Sem Value}{rd:bU}(h:bW X f (l2 rd)):bC X f rd:=⟨_,h,λ{B F H σ δ ts x y v w Q Qd} c sx sy q k=>⟨B,F,σ,δ,ts,x,y,Qd,c,sx,sy,q,k⟩⟩
theorem ub{f:Value->Value->Sem Value}{C:Int->Int->Prop}{g:Int->Int->V}{gd:Int->Int->D}(ho:bW X f (rI C g))(hg:∀i j F H,S F H [gd i j] [g i j])(hp:∀i j,(gd i j).pl=true):bC X f λx y Q=>∃i j,x=.int i/\y=.int j/\C i j/\Q (gd i j) :=
 ⟨_,ho,λ{B F H σ δ ts x y v w Q Qd} c sx sy h k=>by
  obtain⟨i,j,rfl,rfl,hc,q⟩:=h
  cases sx;cases sy
  exact⟨i,j,rfl,rfl,hc,k _ _ _ q (ae.refl _) (c.pushS (hg i j F H) (hp i j))⟩⟩
theorem jb{f:Value->Value->Sem Value}{g:Int->Int->V}{gd:Int->Int->D}(ho:bW X f (gg g))(hg:∀i j F H,S F H [gd i j] [g i j])(hp:∀i j,(gd i j).pl=true):bC X f λx y Q=>∃i j,x=.int i/\y=.int j/\Q (gd i j) :=
 ⟨_,ho,λ{B F H σ δ ts x y v w Q Qd} c sx sy h k=>by
  obtain⟨i,j,rfl,rfl,q⟩:=h
  cases sx;cases sy
  exact⟨i,j,rfl,rfl,k _ _ _ q (ae.refl _) (c.pushS (hg i j F H) (hp i j))⟩⟩
theorem fM{o:Bool}{xs:List D}(s:S F H [.lst o xs] [v])(e:ae F H):∃p ws,v=.ref p/\H p=some (.lst ws)/\S F H xs ws:=by
 cases s with
 | shr h r _=>exact⟨_,_,rfl,e _ _ h,r.s⟩
 | own h r _=>exact⟨_,_,rfl,h,r⟩
theorem gy{xs:List D}(s:S F H [.tup xs] [v]):∃p ws,v=.ref p/\H p=some (.tup ws)/\S F H xs ws:=by
 cases s with
 | tup h r _=>exact⟨_,_,rfl,h,r⟩
theorem om{d:D}{xs:List D}(s:S F H [d] [v])(e:ae F H)(h:gx d=some xs):∃p ws,v=.ref p/\Rd H p (.lst ws)/\S F H xs ws:=by
 cases s with
 | shr h' r _=>cases h;exact⟨_,_,rfl,.inl (e _ _ h'),r.s⟩
 | own h' r _=>cases h;exact⟨_,_,rfl,.inl h',r⟩
 | fz h' r _=>cases h;exact⟨_,_,rfl,.inr ⟨_,e _ _ h'⟩,r.s⟩
 | ak _=>cases h
 | bl _=>cases h
 | int _=>cases h
 | str _=>cases h
 | tup _ _ _=>cases h
 | obj _ _ _ _=>cases h
 | aQ _ _=>cases h
theorem S.rep{xs:List D}{ws:List V}(s:S F H xs ws):∀k:Nat,S F H (aX k xs).flatten (aX k ws).flatten
 | 0=>by simpa using S.nil
 | k+1=>by
  rw[nB,nB,pO,pO]
  exact s.append (S.rep s k)
noncomputable def jR:bU:=λx y Q=>match x,y with
 | .int i,.int j=>Q (.int (i+j))
 | .str a,.str b=>a.length+b.length<=sizeLine/\Q (.str (a++b))
 | .lst _ xs,.lst _ ys=>(xs.length+ys.length<=sizeLine/\xs.all D.pl=true/\ys.all D.pl=true)/\Q (.lst true (xs++ys))
 | _,_=>False
theorem R4:bC X (binaryOp .Add) λx y Q=>∃o xs o' ys,x=.lst o xs/\y=.lst o' ys/\(xs.length+ys.length<=sizeLine/\xs.all D.pl=true/\ys.all D.pl=true)/\Q (.lst true (xs++ys)) :=
 ⟨_,P8,λ{B F H σ δ ts x y v w Q Qd} c sx sy h k=>by
  obtain⟨o,xs,o',ys,rfl,rfl,⟨hz,h1,h2⟩,q⟩:=h
  obtain⟨p,ws,rfl,e1,s1⟩:=fM sx c.ext
  obtain⟨p',dP,rfl,e2,s2⟩:=fM sy c.ext
  refine⟨p,p',ws,dP,rfl,rfl,e1,e2,by rw[<-s1.length,<- s2.length];exact hz,λr hr=>?_⟩
  exact k _ _ _ q (ae.upd hr) (c.qM hr (s1.append s2) (by simp[h1,h2]))⟩
theorem R5:bC X (binaryOp .Add) λx y Q=>∃i j,x=.str i/\y=.str j/\i.length+j.length<=sizeLine/\Q (.str (i++j)) :=
 ⟨_,O4,λ{B F H σ δ ts x y v w Q Qd} c sx sy h k=>by
  obtain⟨i,j,rfl,rfl,hz,q⟩:=h
  cases sx;cases sy
  exact⟨i,j,rfl,rfl,hz,k _ _ _ q (ae.refl _) (c.pushS (.str .nil) rfl)⟩⟩
theorem eZ:bC X (binaryOp .Add) jR:=((jb (gd:=λi j=>.int (i+j)) OQ (λ_ _ _ _=>.int .nil) λ_ _=>rfl).or (R5.or R4)).imp λx y Q h=>by
 unfold jR at h
 split at h
 ·exact .inl ⟨_,_,rfl,rfl,h⟩
 ·exact .inr (.inl ⟨_,_,rfl,rfl,h.1,h.2⟩)
 ·exact .inr (.inr ⟨_,_,_,_,rfl,rfl,h.1,h.2⟩)
 ·exact h.elim
noncomputable def iI(C:Int->Int->Prop)(g:Int->Int->D):bU:=λx y Q=>match x,y with
 | .int i,.int j=>C i j/\Q (g i j)
 | _,_=>False
noncomputable def eo(g:Int->Int->D):bU:=λx y Q=>match x,y with
 | .int i,.int j=>Q (g i j)
 | _,_=>False
theorem we{f:Value->Value->Sem Value}{C:Int->Int->Prop}{g:Int->Int->D}(h:bC X f λx y Q=>∃i j,x=.int i/\y=.int j/\C i j/\Q (g i j)):bC X f (iI C g):=h.imp λx y Q h=>by
 unfold iI at h
 split at h
 ·exact⟨_,_,rfl,rfl,h.1,h.2⟩
 ·exact h.elim
theorem jS{f:Value->Value->Sem Value}{g:Int->Int->D}(h:bC X f λx y Q=>∃i j,x=.int i/\y=.int j/\Q (g i j)):bC X f (eo g):=h.imp λx y Q h=>by
 unfold eo at h
 split at h
 ·exact⟨_,_,rfl,rfl,h⟩
 ·exact h.elim
noncomputable def me:bU:=eo λi j=>.int (i-j)
theorem gz:bC X (binaryOp .Sub) me:=jS (jb zf (λ_ _ _ _=>.int .nil) λ_ _=>rfl)
noncomputable def Ad(_ j:Int):Prop:=0<j/\j.natAbs.log2<9000
theorem iA{i j:Int}(h1:0<j)(h2:j<1073741824):Ad i j:=⟨h1,by
 have h:j.natAbs<2 ^ 30:=by omega
 have:=(Nat.log2_lt (show j.natAbs≠0 by omega)).mpr h
 omega⟩
theorem R6:bW X (binaryOp .FloorDiv) (rI Ad λi j=>.int (i/j)):=tE λi j _ _ _ _ _ hc q =>
 floordiv_int (show j≠0 by have:=hc.1;omega) (by rw[Np i (by have:=hc.1;omega)];exact q) (.inl (PyProof.noPylong_of_log2 hc.2))
noncomputable def mf:bU:=iI Ad λi j=>.int (i/j)
theorem iB:bC X (binaryOp .FloorDiv) mf:=we (ub R6 (λ_ _ _ _=>.int .nil) λ_ _=>rfl)
noncomputable def mh:bU:=iI (λ_ j=>0<j) λi j=>.int (i%j)
theorem cT:bC X (binaryOp .Mod) mh:=we (ub OR (λ_ _ _ _=>.int .nil) λ_ _=>rfl)
noncomputable def mi:bU:=iI HZ λi j=>.int (i*2 ^ j.toNat)
theorem qR:bC X (binaryOp .LShift) mi:=we (ub Ia (λ_ _ _ _=>.int .nil) λ_ _=>rfl)
noncomputable def mj:bU:=iI (λ_ j=>0<=j) λi j=>.int (i/2 ^ j.toNat)
theorem IQ:bC X (binaryOp .RShift) mj:=we (ub OS (λ_ _ _ _=>.int .nil) λ_ _=>rfl)
noncomputable def mm:bU:=eo λi j=>.int (kK i j)
theorem IS:bC X (binaryOp .BitAnd) mm:=jS (jb OT (λ_ _ _ _=>.int .nil) λ_ _=>rfl)
noncomputable def mq:bU:=eo λi j=>.int (nv i j)
theorem Ae:bC X (binaryOp .BitXor) mq:=jS (jb OU (λ_ _ _ _=>.int .nil) λ_ _=>rfl)
theorem R7:bW X (binaryOp .Mult) (rI IntMulOk λi j=>.int (i*j)):=tE λ_ _ _ _ _ _ _ hc q=>mul_int q hc
noncomputable def jT:bU:=λx y Q=>match x,y with
 | .int i,.int j=>IntMulOk i j/\Q (.int (i*j))
 | .lst _ xs,.int k=>(-(2 ^ 63)<=k/\k<2 ^ 63/\xs.length*k.toNat<=sizeLine/\xs.all D.pl=true)/\Q (.lst true (aX k.toNat xs).flatten)
 | _,_=>False
theorem R8:bC X (binaryOp .Mult) λx y Q=>∃o xs k,x=.lst o xs/\y=.int k/\(-(2 ^ 63)<=k/\k<2 ^ 63/\xs.length*k.toNat<=sizeLine/\xs.all D.pl=true)/\Q (.lst true (aX k.toNat xs).flatten) :=
 ⟨_,Qb,λ{B F H σ δ ts x y v w Q Qd} c sx sy h k=>by
  obtain⟨o,xs,n,rfl,rfl,⟨b1,b2,hz,h1⟩,q⟩:=h
  obtain⟨p,ws,rfl,e1,s1⟩:=fM sx c.ext
  cases sy
  refine⟨p,n,ws,rfl,rfl,e1,b1,b2,by rw[<-s1.length];exact hz,λr hr=>?_⟩
  refine k _ _ _ q (ae.upd hr) (c.qM hr (s1.rep _) ?_)
  rw[cQ]
  intro x hx
  obtain⟨l,hl,mr⟩:=List.mem_flatten.mp hx
  rw[(NB.mp hl).2]at mr
  exact cQ.mp h1 x mr⟩
theorem jc:bC X (binaryOp .Mult) jT:=((ub (gd:=λi j=>.int (i*j)) R7 (λ_ _ _ _=>.int .nil) λ_ _=>rfl).or R8).imp λx y Q h=>by
 unfold jT at h
 split at h
 ·exact .inl ⟨_,_,rfl,rfl,h.1,h.2⟩
 ·exact .inr ⟨_,_,_,rfl,rfl,h.1,h.2⟩
 ·exact h.elim
theorem R9:bC X (inplaceOp .Add) (eo λi j=>.int (i+j)):=jS (jb OV (λ_ _ _ _=>.int .nil) λ_ _=>rfl)
theorem wg:bC X (inplaceOp .BitXor) (eo λi j=>.int (nv i j)):=jS (jb OW (λ_ _ _ _=>.int .nil) λ_ _=>rfl)
noncomputable def mv:bU:=eo λi j=>.bl (decide (i<j))
noncomputable def mw:bU:=eo λi j=>.bl (decide (i<=j))
noncomputable def mx:bU:=eo λi j=>.bl (decide (j<i))
noncomputable def my:bU:=eo λi j=>.bl (decide (j<=i))
theorem ud:bC X (compareOp .Lt) mv:=jS (jb OX (λ_ _ _ _=>.bl .nil) λ_ _=>rfl)
theorem ue:bC X (compareOp .LtE) mw:=jS (jb OY (λ_ _ _ _=>.bl .nil) λ_ _=>rfl)
theorem IT:bC X (compareOp .Gt) mx:=jS (jb OZ (λ_ _ _ _=>.bl .nil) λ_ _=>rfl)
theorem Sa:bC X (compareOp .GtE) my:=jS (jb O0 (λ_ _ _ _=>.bl .nil) λ_ _=>rfl)
noncomputable def oo:D->Bool
 | .ak=>true
 | _=>false
noncomputable def aY:D->D->Bool
 | .ak,.ak=>true
 | .bl a,.bl b=>a==b
 | .bl a,.int b=>(if a then 1 else 0)==b
 | .int a,.bl b=>a==(if b then 1 else 0)
 | .int a,.int b=>a==b
 | .str a,.str b=>a==b
 | .lst _ xs,.lst _ ys=>dS xs ys
 | .tup xs,.tup ys=>dS xs ys
 | _,_=>false
where dS:List D->List D->Bool
 | [],[]=>true
 | x::xs,y::ys=>aY x y&&dS xs ys
 | _,_=>false
noncomputable def aB:Nat->D->Bool
 | _,.ak=>true
 | _,.bl _=>true
 | _,.int _=>true
 | _,.str _=>true
 | n+1,.lst _ xs=>xs.all (aB n)
 | n+1,.tup xs=>xs.all (aB n)
 | _,_=>false
theorem Af:∀(xs ys:List D),xs.length=ys.length->aY.dS xs ys=(bf xs.length).all λj=>aY (xs.getD j .ak) (ys.getD j .ak)
 | [],[],_=>rfl
 | x::xs,y::ys,h=>by
  rw[fu,NC,cX,kO]
  show(aY x y&&aY.dS xs ys)=_
  rw[Af xs ys (by simpa using h)]
  rfl
theorem Ag:∀(xs ys:List D),xs.length≠ys.length->aY.dS xs ys=false
 | [],[],h=>absurd rfl h
 | [],_::_,_=>rfl
 | _::_,[],_=>rfl
 | x::xs,y::ys,h=>by
  show(aY x y&&aY.dS xs ys)=false
  rw[Ag xs ys (by simpa using h),Bool.and_false]
noncomputable def Sb:V->D
 | .bl b=>.bl b
 | .int i=>.int i
 | .str z=>.str z
 | _=>.ak
theorem IU{x:D}{v:V}(h:aB 0 x=true)(s:S F H [x] [v]):x=Sb v:=by
 cases s with
 | ak _=>rfl
 | bl _=>rfl
 | int _=>rfl
 | str _=>rfl
 | _=>cases h
theorem Sd{x:D}(h:aB 0 x=true):aY x x=true:=by
 cases x with
 | ak=>rfl
 | bl b=>exact beq_self_eq_true b
 | int i=>exact beq_self_eq_true i
 | str z=>exact beq_self_eq_true z
 | _=>cases h
theorem IV:∀(n:Nat) {xs ys:List D} {vs:List V},xs.all (aB n)=true->ys.all (aB n)=true->S F H xs vs->S F H ys vs->ae F H->aY.dS xs ys=true:=by
 intro n
 induction n with
 | zero =>
  intro xs
  induction xs with
  | nil=>intro ys vs _ _ s1 s2 _;cases s1;cases s2;rfl
  | cons x xs ih =>
   intro ys vs h1 h2 s1 s2 e
   obtain⟨v,bS,rfl,q1,r1⟩:=s1.bZ
   cases ys with
   | nil=>cases s2
   | cons y ys =>
    obtain⟨v',Iw,ee,q2,r2⟩:=s2.bZ
    cases ee
    rw[cX,dm]at h1 h2
    show(aY x y&&aY.dS xs ys)=true
    rw[ih h1.2 h2.2 r1 r2 e,iQ]
    have e1:=IU h1.1 q1
    have e2:=IU h2.1 q2
    rw[e2,<- e1]
    exact Sd h1.1
 | succ n IW =>
  intro xs
  induction xs with
  | nil=>intro ys vs _ _ s1 s2 _;cases s1;cases s2;rfl
  | cons x xs ih =>
   intro ys vs h1 h2 s1 s2 e
   obtain⟨v,bS,rfl,q1,r1⟩:=s1.bZ
   cases ys with
   | nil=>cases s2
   | cons y ys =>
    obtain⟨v',Iw,ee,q2,r2⟩:=s2.bZ
    cases ee
    rw[cX,dm]at h1 h2
    show(aY x y&&aY.dS xs ys)=true
    rw[ih h1.2 h2.2 r1 r2 e,iQ]
    cases x with
    | lst o1 a1 =>
     obtain⟨p,ws,rfl,e1,t1⟩:=fM q1 e
     cases y with
     | lst o2 a2 =>
      obtain⟨p2,Ah,ev,e2,t2⟩:=fM q2 e
      cases ev
      rw[e1]at e2;cases e2
      exact IW h1.1 h2.1 t1 t2 e
     | tup a2=>obtain⟨p2,Ah,ev,e2,t2⟩:=gy q2;cases ev;rw[e1]at e2;cases e2
     | _=>first | (cases q2;done) | (exact absurd h2.1 (by simp[aB]))
    | tup a1 =>
     obtain⟨p,ws,rfl,e1,t1⟩:=gy q1
     cases y with
     | tup a2 =>
      obtain⟨p2,Ah,ev,e2,t2⟩:=gy q2
      cases ev
      rw[e1]at e2;cases e2
      exact IW h1.1 h2.1 t1 t2 e
     | lst o2 a2=>obtain⟨p2,Ah,ev,e2,t2⟩:=fM q2 e;cases ev;rw[e1]at e2;cases e2
     | _=>first | (cases q2;done) | (exact absurd h2.1 (by simp[aB]))
    | ak=>cases q1;cases q2;simp[aY]
    | bl _=>cases q1;cases q2;simp[aY]
    | int _=>cases q1;cases q2;simp[aY]
    | str _=>cases q1;cases q2;simp[aY]
    | obj _ _ _=>exact absurd h1.1 (by simp[aB])
    | fz _=>exact absurd h1.1 (by simp[aB])
    | aQ _=>exact absurd h1.1 (by simp[aB])
end
end L3
namespace L3
open PySem L2 PySem.Spec PyProof.Rows
structure Se(A:Around)(s:Shared)(u w:Value)(b:Bool):Prop where
 rc:SeqAt.RcAt A s u w b
 ne:SeqAt.RcNeAt A s u w (!b)
 eq:SeqAt.EqAt A s u w b
section
variable{X:Cx}{F H:Hp}{v w:V}
theorem IY{xs:List V}{us:List Value}(r:Vals xs us){j:Nat}(h:j<us.toArray.size):∃x,xs[j]?=some x/\RelV x us.toArray[j]:=by
 have l:=r.length
 have hj:j<xs.length:=by rw[l];simpa using h
 obtain⟨u,e,q⟩:=r.get (br hj)
 obtain⟨_,z⟩:=gG.mp e
 refine⟨_,br hj,?_⟩
 have:us.toArray[j]=u:=by simpa using z
 rw[this];exact q
theorem IZ{xs:List D}{j:Nat}{d:D}(h:xs[j]?=some d):xs.getD j .ak=d:=by rw[cY,h];rfl
theorem I0{pins:List (Addr × Obj)}{σ:L2.St}{s:Shared}(I:Inv X pins σ H s)(e:ae F H):∀(n:Nat) (x y:D) (v w:V) (u u':Value) (A:Around),aB n x=true->aB n y=true->S F H [x] [v]->S F H [y] [w]->RelV v u->RelV w u' ->
  A.units+n<cLine->Se A s u u' (aY x y):=by
 intro n
 induction n with
 | zero =>
  intro x y v w u u' A hx hy sx sy rv aN hu
  cases sx with
  | ak _ =>
   cases rv
   cases sy with
   | ak _=>cases aN;exact⟨.none_none,.none_none,.same _⟩
   | bl _=>cases aN;exact⟨.none_bool _,.none_bool _,.none_bool _⟩
   | int _=>obtain⟨t,rfl⟩:=aN;exact⟨.none_int _ _,.none_int _ _,.none_int _ _⟩
   | str _=>obtain⟨t,rfl⟩:=aN;exact⟨.none_str _ _,.none_str _ _,.none_str _ _⟩
   | _=>simp[aB]at hy
  | bl _ =>
   cases rv
   cases sy with
   | ak _=>cases aN;exact⟨.bool_none _,.bool_none _,.bool_none _⟩
   | bl _=>cases aN;exact⟨.bool_bool _ _,.bool_bool _ _,.bool_bool _ _⟩
   | int _=>obtain⟨t,rfl⟩:=aN;exact⟨.bool_int _ _ _,.bool_int _ _ _,.bool_int _ _ _⟩
   | str _=>obtain⟨t,rfl⟩:=aN;exact⟨.bool_str _ _ _,.bool_str _ _ _,.bool_str _ _ _⟩
   | _=>simp[aB]at hy
  | int _ =>
   obtain⟨t0,rfl⟩:=rv
   cases sy with
   | ak _=>cases aN;exact⟨.int_none _ _,.int_none _ _,.int_none _ _⟩
   | bl _=>cases aN;exact⟨.int_bool _ _ _,.int_bool _ _ _,.int_bool _ _ _⟩
   | int _=>obtain⟨t,rfl⟩:=aN;exact⟨.int_int _ _ _ _,.int_int _ _ _ _,.int_int _ _ _ _⟩
   | str _=>obtain⟨t,rfl⟩:=aN;exact⟨.int_str _ _ _ _,.int_str _ _ _ _,.int_str _ _ _ _⟩
   | _=>simp[aB]at hy
  | str _ =>
   obtain⟨t0,rfl⟩:=rv
   cases sy with
   | ak _=>cases aN;exact⟨.str_none _ _,.str_none _ _,.str_none _ _⟩
   | bl _=>cases aN;exact⟨.str_bool _ _ _,.str_bool _ _ _,.str_bool _ _ _⟩
   | int _=>obtain⟨t,rfl⟩:=aN;exact⟨.str_int _ _ _ _,.str_int _ _ _ _,.str_int _ _ _ _⟩
   | str _=>obtain⟨t,rfl⟩:=aN;exact⟨.str_str _ _ _ _,.str_str _ _ _ _,.str_str _ _ _ _⟩
   | _=>simp[aB]at hy
  | _=>simp[aB]at hx
 | succ n ih =>
  intro x y v w u u' A hx hy sx sy rv aN hu
  have aO:A.units<cLine:=by omega
  have Sf:A.in1.units+n<cLine:=by show A.units+1+n<cLine;omega
  have items:∀{xs ys:List D} {vs ws:List V} {us us':List Value},xs.all (aB n)=true->ys.all (aB n)=true->S F H xs vs->S F H ys ws->Vals vs us->Vals ws us' ->
    ∀j (h1:j<us.toArray.size) (h2:j<us'.toArray.size),SeqAt.EqAt A.in1 s us.toArray[j] us'.toArray[j] (aY (xs.getD j .ak) (ys.getD j .ak)):=by
   intro xs ys vs ws us us' hx hy sx sy r1 r2 j h1 h2
   obtain⟨a,e1,q1⟩:=IY r1 h1
   obtain⟨b,e2,q2⟩:=IY r2 h2
   obtain⟨d1,g1,t1⟩:=sx.get' e1
   obtain⟨d2,g2,t2⟩:=sy.get' e2
   rw[IZ g1,IZ g2]
   exact(ih d1 d2 a b _ _ A.in1 (cQ.mp hx d1 (sI g1)) (cQ.mp hy d2 (sI g2)) t1 t2 q1 q2 Sf).eq
  have low:∀x:D,(aB 0 x=true)\/(∃o xs,x=.lst o xs)\/(∃xs,x=.tup xs)\/aB (n+1) x=false:=by
   intro x;cases x<;>simp[aB]
  cases x with
  | lst o xs =>
   obtain⟨p,ws,rfl,e1,t1⟩:=fM sx e
   cases rv
   obtain⟨its,r1,p1,z1⟩:=I.list (aM.of (K:=X.K) e1)
   have l1:=r1.length
   cases y with
   | lst o' ys =>
    obtain⟨p',dP,rfl,e2,t2⟩:=fM sy e
    cases aN
    obtain⟨eL,r2,p2,z2⟩:=I.list (aM.of (K:=X.K) e2)
    have l2:=r2.length
    have k1:=t1.length
    have k2:=t2.length
    by_cases hl:xs.length=ys.length
    ·have iY:its.toArray.size=eL.toArray.size:=by simp;omega
     have ev:(bf its.toArray.size).all (λj=>aY (xs.getD j .ak) (ys.getD j .ak))=aY (.lst o xs) (.lst o' ys):=by
      show _=aY.dS xs ys
      rw[Af xs ys hl,cW,<- l1,<- k1]
     have a:=SeqAt.RcAt.lists (e:=λj=>aY (xs.getD j .ak) (ys.getD j .ak)) p1.isList p2.isList iY aO (items hx hy t1 t2 r1 r2)
     have b:=SeqAt.RcNeAt.lists (e:=λj=>aY (xs.getD j .ak) (ys.getD j .ak)) p1.isList p2.isList iY aO (items hx hy t1 t2 r1 r2)
     rw[ev]at a b
     refine⟨a,b,?_⟩
     by_cases oq:p=p'
     ·subst oq
      rw[e1]at e2;cases e2
      have:aY (.lst o xs) (.lst o' ys)=true:=IV n hx hy t1 t2 e
      rw[this]
      exact .same _
     ·exact .of_refs oq a
    ·have iY:(its.toArray.size != eL.toArray.size)=true:=by simp;omega
     have ev:aY (.lst o xs) (.lst o' ys)=false:=Ag xs ys hl
     rw[ev]
     have a:=SeqAt.RcAt.lists_lengths p1.isList p2.isList iY aO
     refine⟨a,SeqAt.RcNeAt.lists_lengths p1.isList p2.isList iY aO,.of_refs (λoq=>?_) a⟩
     subst oq
     rw[e1]at e2;cases e2
     omega
   | tup ys =>
    obtain⟨p',dP,rfl,e2,t2⟩:=gy sy
    cases aN
    obtain⟨eL,r2,p2,z2⟩:=I.tuple (eD.of (K:=X.K) e2)
    exact⟨.list_tuple p1.isList p2 aO,.list_tuple p1.isList p2 aO,.list_tuple p1.isList p2 aO⟩
   | ak=>cases sy;cases aN;exact⟨.list_none p1.isList aO,.list_none p1.isList aO,.list_none p1.isList aO⟩
   | bl _=>cases sy;cases aN;exact⟨.list_bool _ p1.isList aO,.list_bool _ p1.isList aO,.list_bool _ p1.isList aO⟩
   | int _=>cases sy;obtain⟨t,rfl⟩:=aN;exact⟨.list_int _ _ p1.isList aO,.list_int _ _ p1.isList aO,.list_int _ _ p1.isList aO⟩
   | str _=>cases sy;obtain⟨t,rfl⟩:=aN;exact⟨.list_str _ _ p1.isList aO,.list_str _ _ p1.isList aO,.list_str _ _ p1.isList aO⟩
   | obj _ _ _=>simp[aB]at hy
   | fz _=>simp[aB]at hy
   | aQ _=>simp[aB]at hy
  | tup xs =>
   obtain⟨p,ws,rfl,e1,t1⟩:=gy sx
   cases rv
   obtain⟨its,r1,p1,z1⟩:=I.tuple (eD.of (K:=X.K) e1)
   have l1:=r1.length
   cases y with
   | tup ys =>
    obtain⟨p',dP,rfl,e2,t2⟩:=gy sy
    cases aN
    obtain⟨eL,r2,p2,z2⟩:=I.tuple (eD.of (K:=X.K) e2)
    have l2:=r2.length
    have k1:=t1.length
    have k2:=t2.length
    have ev:((bf (min its.toArray.size eL.toArray.size)).all (λj=>aY (xs.getD j .ak) (ys.getD j .ak))&&its.toArray.size==eL.toArray.size)=aY (.tup xs) (.tup ys):=by
     show _=aY.dS xs ys
     by_cases hl:xs.length=ys.length
     ·have e3:its.length=eL.length:=by omega
      rw[Af xs ys hl,cW,cW,<- e3,Nat.min_self,<- l1,<- k1];simp
     ·have e3:(its.length==eL.length)=false:=by simp;omega
      rw[Ag xs ys hl,cW,cW,e3,Bool.and_false]
    have a:=SeqAt.RcAt.tuples (e:=λj=>aY (xs.getD j .ak) (ys.getD j .ak)) p1 p2 aO (items hx hy t1 t2 r1 r2)
    have b:=SeqAt.RcNeAt.tuples (e:=λj=>aY (xs.getD j .ak) (ys.getD j .ak)) p1 p2 aO (items hx hy t1 t2 r1 r2)
    rw[ev]at a b
    refine⟨a,b,?_⟩
    by_cases oq:p=p'
    ·subst oq
     rw[e1]at e2;cases e2
     have:aY (.tup xs) (.tup ys)=true:=IV n hx hy t1 t2 e
     rw[this]
     exact .same _
    ·exact .of_refs oq a
   | lst o' ys =>
    obtain⟨p',dP,rfl,e2,t2⟩:=fM sy e
    cases aN
    obtain⟨eL,r2,p2,z2⟩:=I.list (aM.of (K:=X.K) e2)
    exact⟨.tuple_list p1 p2.isList aO,.tuple_list p1 p2.isList aO,.tuple_list p1 p2.isList aO⟩
   | ak=>cases sy;cases aN;exact⟨.tuple_none p1 aO,.tuple_none p1 aO,.tuple_none p1 aO⟩
   | bl _=>cases sy;cases aN;exact⟨.tuple_bool _ p1 aO,.tuple_bool _ p1 aO,.tuple_bool _ p1 aO⟩
   | int _=>cases sy;obtain⟨t,rfl⟩:=aN;exact⟨.tuple_int _ _ p1 aO,.tuple_int _ _ p1 aO,.tuple_int _ _ p1 aO⟩
   | str _=>cases sy;obtain⟨t,rfl⟩:=aN;exact⟨.tuple_str _ _ p1 aO,.tuple_str _ _ p1 aO,.tuple_str _ _ p1 aO⟩
   | obj _ _ _=>simp[aB]at hy
   | fz _=>simp[aB]at hy
   | aQ _=>simp[aB]at hy
  | ak =>
   cases sx;cases rv
   cases y with
   | lst o' ys =>
    obtain⟨p',dP,rfl,e2,t2⟩:=fM sy e;cases aN
    obtain⟨eL,r2,p2,z2⟩:=I.list (aM.of (K:=X.K) e2)
    exact⟨.none_list p2.isList aO,.none_list p2.isList aO,.none_list p2.isList aO⟩
   | tup ys =>
    obtain⟨p',dP,rfl,e2,t2⟩:=gy sy;cases aN
    obtain⟨eL,r2,p2,z2⟩:=I.tuple (eD.of (K:=X.K) e2)
    exact⟨.none_tuple p2 aO,.none_tuple p2 aO,.none_tuple p2 aO⟩
   | ak=>exact ih _ _ _ _ _ _ A (by simp[aB]) (by simp[aB]) (.ak .nil) sy rfl aN (by omega)
   | bl _=>exact ih _ _ _ _ _ _ A (by simp[aB]) (by simp[aB]) (.ak .nil) sy rfl aN (by omega)
   | int _=>exact ih _ _ _ _ _ _ A (by simp[aB]) (by simp[aB]) (.ak .nil) sy rfl aN (by omega)
   | str _=>exact ih _ _ _ _ _ _ A (by simp[aB]) (by simp[aB]) (.ak .nil) sy rfl aN (by omega)
   | obj _ _ _=>simp[aB]at hy
   | fz _=>simp[aB]at hy
   | aQ _=>simp[aB]at hy
  | bl b =>
   cases sx;cases rv
   cases y with
   | lst o' ys =>
    obtain⟨p',dP,rfl,e2,t2⟩:=fM sy e;cases aN
    obtain⟨eL,r2,p2,z2⟩:=I.list (aM.of (K:=X.K) e2)
    exact⟨.bool_list _ p2.isList aO,.bool_list _ p2.isList aO,.bool_list _ p2.isList aO⟩
   | tup ys =>
    obtain⟨p',dP,rfl,e2,t2⟩:=gy sy;cases aN
    obtain⟨eL,r2,p2,z2⟩:=I.tuple (eD.of (K:=X.K) e2)
    exact⟨.bool_tuple _ p2 aO,.bool_tuple _ p2 aO,.bool_tuple _ p2 aO⟩
   | ak=>exact ih _ _ _ _ _ _ A (by simp[aB]) (by simp[aB]) (.bl .nil) sy rfl aN (by omega)
   | bl _=>exact ih _ _ _ _ _ _ A (by simp[aB]) (by simp[aB]) (.bl .nil) sy rfl aN (by omega)
   | int _=>exact ih _ _ _ _ _ _ A (by simp[aB]) (by simp[aB]) (.bl .nil) sy rfl aN (by omega)
   | str _=>exact ih _ _ _ _ _ _ A (by simp[aB]) (by simp[aB]) (.bl .nil) sy rfl aN (by omega)
   | obj _ _ _=>simp[aB]at hy
   | fz _=>simp[aB]at hy
   | aQ _=>simp[aB]at hy
  | int b =>
   cases sx
   cases y with
   | lst o' ys =>
    obtain⟨t0,rfl⟩:=rv
    obtain⟨p',dP,rfl,e2,t2⟩:=fM sy e;cases aN
    obtain⟨eL,r2,p2,z2⟩:=I.list (aM.of (K:=X.K) e2)
    exact⟨.int_list _ _ p2.isList aO,.int_list _ _ p2.isList aO,.int_list _ _ p2.isList aO⟩
   | tup ys =>
    obtain⟨t0,rfl⟩:=rv
    obtain⟨p',dP,rfl,e2,t2⟩:=gy sy;cases aN
    obtain⟨eL,r2,p2,z2⟩:=I.tuple (eD.of (K:=X.K) e2)
    exact⟨.int_tuple _ _ p2 aO,.int_tuple _ _ p2 aO,.int_tuple _ _ p2 aO⟩
   | ak=>exact ih _ _ _ _ _ _ A (by simp[aB]) (by simp[aB]) (.int .nil) sy rv aN (by omega)
   | bl _=>exact ih _ _ _ _ _ _ A (by simp[aB]) (by simp[aB]) (.int .nil) sy rv aN (by omega)
   | int _=>exact ih _ _ _ _ _ _ A (by simp[aB]) (by simp[aB]) (.int .nil) sy rv aN (by omega)
   | str _=>exact ih _ _ _ _ _ _ A (by simp[aB]) (by simp[aB]) (.int .nil) sy rv aN (by omega)
   | obj _ _ _=>simp[aB]at hy
   | fz _=>simp[aB]at hy
   | aQ _=>simp[aB]at hy
  | str b =>
   cases sx
   cases y with
   | lst o' ys =>
    obtain⟨t0,rfl⟩:=rv
    obtain⟨p',dP,rfl,e2,t2⟩:=fM sy e;cases aN
    obtain⟨eL,r2,p2,z2⟩:=I.list (aM.of (K:=X.K) e2)
    exact⟨.str_list _ _ p2.isList aO,.str_list _ _ p2.isList aO,.str_list _ _ p2.isList aO⟩
   | tup ys =>
    obtain⟨t0,rfl⟩:=rv
    obtain⟨p',dP,rfl,e2,t2⟩:=gy sy;cases aN
    obtain⟨eL,r2,p2,z2⟩:=I.tuple (eD.of (K:=X.K) e2)
    exact⟨.str_tuple _ _ p2 aO,.str_tuple _ _ p2 aO,.str_tuple _ _ p2 aO⟩
   | ak=>exact ih _ _ _ _ _ _ A (by simp[aB]) (by simp[aB]) (.str .nil) sy rv aN (by omega)
   | bl _=>exact ih _ _ _ _ _ _ A (by simp[aB]) (by simp[aB]) (.str .nil) sy rv aN (by omega)
   | int _=>exact ih _ _ _ _ _ _ A (by simp[aB]) (by simp[aB]) (.str .nil) sy rv aN (by omega)
   | str _=>exact ih _ _ _ _ _ _ A (by simp[aB]) (by simp[aB]) (.str .nil) sy rv aN (by omega)
   | obj _ _ _=>simp[aB]at hy
   | fz _=>simp[aB]at hy
   | aQ _=>simp[aB]at hy
  | obj _ _ _=>simp[aB]at hx
  | fz _=>simp[aB]at hx
  | aQ _=>simp[aB]at hx
noncomputable def mz:bU:=λx y Q=>(aB 6 x=true/\aB 6 y=true)/\Q (.bl (aY x y))
noncomputable def jU:bU:=λx y Q=>(aB 6 x=true/\aB 6 y=true)/\Q (.bl (!aY x y))
theorem gS(hu:X.A.units+6<cLine):bC X (compareOp .Eq) mz:=bC.of λpins s σ H v w u u' Q I rv aN zz=>by
 obtain⟨B,F,ai,δ,ts,x,y,Qd,c,sx,sy,⟨⟨hx,hy⟩,q⟩,k⟩:=zz
 exact(I0 I c.ext 6 x y v w u u' X.A hx hy sx sy rv aN hu).rc _ _ _ _ ⟨.bl _,H,I,rfl,k _ _ _ q (ae.refl _) (c.pushS (.bl .nil) rfl)⟩
theorem iC(hu:X.A.units+6<cLine):bC X (compareOp .NotEq) jU:=bC.of λpins s σ H v w u u' Q I rv aN zz=>by
 obtain⟨B,F,ai,δ,ts,x,y,Qd,c,sx,sy,⟨⟨hx,hy⟩,q⟩,k⟩:=zz
 exact(I0 I c.ext 6 x y v w u u' X.A hx hy sx sy rv aN hu).ne _ _ _ _ ⟨.bl _,H,I,rfl,k _ _ _ q (ae.refl _) (c.pushS (.bl .nil) rfl)⟩
end
end L3
namespace L3
open PySem L2 PySem.Spec PyProof.Rows
section
variable{X:Cx}{F H:Hp}{v w:V}{e a b c o:Expr}{es:List Expr}{pos p p2 apos bh:Pos}{t ta tb tc te:aH}{tr:bX}{x:Str}
theorem Sg{r r':R2}{rd uf:bU}(hl:vY r rd)(qt:vY r' uf):∀σ H Q,lE (jH rd uf ta tb tc) σ H Q->G2 r r' (lB ta) (lB tb) (lB tc) σ H Q:=λσ H Q ⟨B,F,δ,ts,Qd,c,q,k⟩ =>
 ⟨B,F,δ,ts,_,c,q,λx aj v F1 H1 q1 f1 h1 c1 s1=>⟨B,F1,aj,ts,_,c1,q1,λy aF w F2 H2 q2 f2 h2 c2 s2=>by
  refine hl c2 (s1.mono f2 h2) s2 q2 λd z H' hd hs c3=>?_
  obtain⟨b,rfl,qb⟩:=hd
  have st:=c3.top
  cases st with
  | bl _ =>
   refine⟨b,rfl,?_⟩
   cases b with
   | true =>
    refine ll ⟨B,F2,aF,ts,_,c3.pop,by simpa using qb,λz oi w3 F3 H3 q3 f3 h3 c4 s3=>?_⟩
    exact qt c4 (s2.mono f3 (hs.trans h3)) s3 q3 λd z H' hd Sh c5=>k d oi z F3 H' hd ((f1.trans f2).trans f3) ((((h1.trans h2).trans hs).trans h3).trans Sh) c5
   | false=>exact i4 (k _ aF _ F2 H' (by simpa using qb) (f1.trans f2) ((h1.trans h2).trans hs) (c3.pop.pushS (.bl .nil) rfl))⟩⟩
theorem Ai{op nR:CmpOp}{rd uf:bU}(ho:bC X (compareOp op) rd)(ig:bC X (compareOp nR) uf)(ha:PE X a (lB ta))(hb:PE X b (lB tb))(hc:PE X c (lB tc))
  (hm:lastMarks [op,nR] [b,c]=false:=by with_unfolding_all rfl):PE X (.Compare a [op,nR] [b,c] pos) (lE (jH rd uf ta tb tc)):=by
 obtain⟨r,h1,h2⟩:=ho
 obtain⟨r',eU,gn⟩:=ig
 exact cR (O3 h1 eU ha hb hc hm) (Sg h2 gn)
noncomputable abbrev iD:=List D->(D->Prop)->Prop
noncomputable def lc(rd:iD):List V->Hp->VK->Prop:=λvs H Q=>∃B F σ δ ts ds Qd,ag B F H σ δ ts/\S F H ds vs/\rd ds Qd/\∀d z H',Qd d->ae H H'->ag B F H' σ δ ((d,z)::ts)->Q z H'
noncomputable def gU(X:Cx)(f:Value)(rd:iD):Prop:=fE X f (lc rd)
theorem gU.of{f:Value}{r:List V->Hp->VK->Prop}{rd:iD}(h:fE X f r)(m:∀vs H Q,lc rd vs H Q->r vs H Q):gU X f rd:=λpins s σ H xs us Q I r q=>h pins s σ H xs us Q I r (m xs H Q q)
noncomputable def je(rd:iD)(t:bX):aH:=λδ Q=>t δ λds af=>rd ds λd=>Q d af
theorem Ja{rd:iD}:∀σ H Q,lE (je rd tr) σ H Q->zm (lc rd) (lA tr) σ H Q:=λσ H Q ⟨B,F,δ,ts,Qd,c,q,k⟩=>⟨B,F,δ,ts,_,c,q,λds aj vs F1 H1 q1 f1 h1 c1 s1 =>
 ⟨B,F1,σ,aj,ts,ds,_,c1,s1,q1,λd z H' hd hs c'=>k d aj z F1 H' hd f1 (h1.trans hs) c'⟩⟩
theorem fN{id:String}{rd:iD}(hc:gU X (.builtin id) rd)(hg:Gl X x)(hm:X.mg x=none)(hv:bootBuiltins x=some (.builtin id))(ha:PA X (e::es) (lA tr))(hn:x≠"__name__":=by decide)(dj:(x==("__debug__":Str))=false:=by decide)
  (he:starEach (e::es) X.env=(false,eval e X.env)::starEach es X.env:=by rfl) (bG:(backTo pos (starEach es X.env)).any (·.1)=false:=by rfl):PE X (.Call (.Name x p) (e::es) [] pos) (lE (je rd tr)) :=
 cR (He hc hg hm hv ha hn dj he bG) Ja
theorem Aj{T:String}{rd:iD}(hc:gU X (.type T) rd)(hg:Gl X x)(hm:X.mg x=none)(hv:bootBuiltins x=some (.type T))(ha:PA X (e::es) (lA tr))(hn:x≠"__name__":=by decide)(dj:(x==("__debug__":Str))=false:=by decide)
  (he:starEach (e::es) X.env=(false,eval e X.env)::starEach es X.env:=by rfl) (bG:(backTo pos (starEach es X.env)).any (·.1)=false:=by rfl):PE X (.Call (.Name x p) (e::es) [] pos) (lE (je rd tr)) :=
 cR (PK hc hg hm hv ha hn dj he bG) Ja
theorem jV{d:D}{vs:List V}(s:S F H [d] vs):∃v,vs=[v]/\S F H [d] [v]:=by
 obtain⟨v,bS,rfl,h1,h2⟩:=s.bZ
 cases h2
 exact⟨v,rfl,h1⟩
theorem mB{K:PySem.W.Frag}{p:Addr}{ws:List V}(h:Rd H p (.lst ws)):aM K H p ws:=.inl h
noncomputable def by4:iD:=λds Q=>match ds with
 | [.lst _ xs]=>Q (.int xs.length)
 | [.fz xs]=>Q (.int xs.length)
 | [.tup xs]=>Q (.int xs.length)
 | [.str z]=>z.length<=sizeLine/\Q (.int z.length)
 | _=>False
theorem jf:gU X (.builtin "len") by4:=gU.of (PY.or PZ) λvs H Q zz=>by
 obtain⟨B,F,σ,δ,ts,ds,Qd,c,s,q,k⟩:=zz
 unfold by4 at q
 split at q
 ·obtain⟨v,rfl,s1⟩:=jV s
  obtain⟨p,ws,rfl,h,t⟩:=om s1 c.ext rfl
  refine .inl ⟨p,ws,rfl,.inl (mB h),?_⟩
  rw[<-t.length]
  exact k _ _ _ q (ae.refl _) (c.pushS (.int .nil) rfl)
 ·obtain⟨v,rfl,s1⟩:=jV s
  obtain⟨p,ws,rfl,h,t⟩:=om s1 c.ext rfl
  refine .inl ⟨p,ws,rfl,.inl (mB h),?_⟩
  rw[<-t.length]
  exact k _ _ _ q (ae.refl _) (c.pushS (.int .nil) rfl)
 ·obtain⟨v,rfl,s1⟩:=jV s
  obtain⟨p,ws,rfl,h,t⟩:=gy s1
  refine .inl ⟨p,ws,rfl,.inr (eD.of h),?_⟩
  rw[<-t.length]
  exact k _ _ _ q (ae.refl _) (c.pushS (.int .nil) rfl)
 ·obtain⟨v,rfl,s1⟩:=jV s
  cases s1
  exact .inr ⟨_,rfl,q.1,k _ _ _ q.2 (ae.refl _) (c.pushS (.int .nil) rfl)⟩
 ·exact q.elim
noncomputable def jW:iD:=λds Q=>match ds with
 | [.lst _ xs]=>xs.all D.pl=true/\Q (.lst true xs)
 | [.fz xs]=>Q (.lst true xs)
 | [.tup xs]=>xs.all D.pl=true/\Q (.lst true xs)
 | _=>False
theorem Ak:gU X (.type "list") jW:=gU.of P0 λvs H Q zz=>by
 obtain⟨B,F,σ,δ,ts,ds,Qd,c,s,q,k⟩:=zz
 unfold jW at q
 split at q
 ·obtain⟨v,rfl,s1⟩:=jV s
  obtain⟨p,ws,rfl,h,t⟩:=om s1 c.ext rfl
  exact⟨p,ws,rfl,.inl (mB h),λl hl=>k _ _ _ q.2 (ae.upd hl) (c.qM hl t q.1)⟩
 ·obtain⟨v,rfl,s1⟩:=jV s
  cases s1 with
  | fz h r _=>exact⟨_,_,rfl,.inl (mB (.inr ⟨_,c.ext _ _ h⟩)),λl hl=>k _ _ _ q (ae.upd hl) (c.qM hl r.s r.pl)⟩
 ·obtain⟨v,rfl,s1⟩:=jV s
  obtain⟨p,ws,rfl,h,t⟩:=gy s1
  exact⟨p,ws,rfl,.inr (eD.of h),λl hl=>k _ _ _ q.2 (ae.upd hl) (c.qM hl t q.1)⟩
 ·exact q.elim
noncomputable def ug(bs:List Bool):List D:=bs.map D.bl
theorem Jb:∀{bs:List Bool} {ws:List V},S F H (ug bs) ws->ws=bs.map V.bl
 | [],_,s=>by cases s;rfl
 | b::bs,_,s=>by
  cases s with
  | bl s=>rw[Jb s];rfl
noncomputable def jX:iD:=λds Q=>match ds with
 | [.lst _ xs]=>∃bs,xs=ug bs/\Q (.bl (bs.all id))
 | _=>False
theorem Al(hc:X.calm=true):gU X (.builtin "all") jX:=gU.of (Q1 hc) λvs H Q zz=>by
 obtain⟨B,F,σ,δ,ts,ds,Qd,c,s,q,k⟩:=zz
 unfold jX at q
 split at q
 ·obtain⟨v,rfl,s1⟩:=jV s
  obtain⟨bs,rfl,q⟩:=q
  obtain⟨p,ws,rfl,h,t⟩:=om s1 c.ext rfl
  rw[Jb t]at h
  exact⟨p,bs,rfl,mB h,k _ _ _ q (ae.refl _) (c.pushS (.bl .nil) rfl)⟩
 ·exact q.elim
noncomputable def Am:D->Option String
 | .int _=>some "int"
 | .bl _=>some "bool"
 | .ak=>some "NoneType"
 | .str _=>some "str"
 | .lst _ _=>some "list"
 | .fz _=>some "list"
 | .tup _=>some "tuple"
 | _=>none
noncomputable def An(k n:String):Option Bool:=([("int","int",true),("int","bool",false),("int","list",false),("int","tuple",false),("int","str",false),("bool","int",true),("bool","bool",true),("bool","list",false),("bool","tuple",false),("bool","str",false),
 ("NoneType","int",false),("NoneType","bool",false),("NoneType","list",false),("NoneType","tuple",false),("NoneType","str",false),("str","int",false),("str","bool",false),("str","list",false),("str","tuple",false),("str","str",true),
 ("list","int",false),("list","bool",false),("list","list",true),("list","tuple",false),("list","str",false),("tuple","int",false),("tuple","bool",false),("tuple","list",false),("tuple","tuple",true),("tuple","str",false)].find? λz=>z.1==k&&z.2.1==n).map (·.2.2)
noncomputable def jg(n:String)(d:D):Option Bool:=(Am d).bind λk=>An k n
theorem Si{K:PySem.W.Frag}{k n:String}{r:Bool}(h:An k n=some r):PySem.W.kitOne K (.type k) (.type n)=some r:=by
 unfold An at h
 obtain⟨z,hz,rfl⟩:=yC.mp h
 have hm:=List.mem_of_find?_eq_some hz
 have hp:=List.find?_some hz
 rw[dm,beq_iff_eq,beq_iff_eq]at hp
 obtain⟨rfl,rfl⟩:=hp
 simp only[bV,ia,or_false]at hm
 repeat' (rcases hm with hm | hm)
 all_goals rfl
theorem Sj{K:PySem.W.Frag}{d:D}(s:S F H [d] [v])(e:ae F H){k:String}(h:Am d=some k):fc K H v (.type k):=by
 cases s with
 | int _=>cases h;exact .int _
 | bl _=>cases h;exact .bl _
 | ak _=>cases h;exact .ak
 | str _=>cases h;exact .str _
 | shr h' _ _=>cases h;exact .lst (e _ _ h')
 | own h' _ _=>cases h;exact .lst h'
 | fz h' _ _=>cases h;exact .bK (e _ _ h')
 | tup h' _ _=>cases h;exact .tup h'
 | obj _ _ _ _=>cases h
 | aQ _ _=>cases h
theorem Sk{K:PySem.W.Frag}{d:D}(s:S F H [d] [v])(e:ae F H){n:String}{r:Bool}(h:jg n d=some r):∃t,fc K H v t/\PySem.W.kitOne K t (.type n)=some r:=by
 unfold jg at h
 cases hk:Am d with
 | none=>rw[hk]at h;cases h
 | some k=>rw[hk]at h;exact⟨_,Sj s e hk,Si h⟩
noncomputable def mC(n:String)(t:aH):aH:=λδ Q=>t δ λd af=>∃r,jg n d=some r/\Q (.bl r) af
theorem uh{n:String}{y:Str}{q:Pos}(hg:Gl X "isinstance")(hm:X.mg "isinstance"=none)(Sl:Gl X y)(Jc:X.mg y=none)(Ao:bootBuiltins y=some (.type n))(ha:PE X a (lB ta))
  (hn:y≠"__name__":=by decide) (hd:(y==("__debug__":Str))=false:=by decide)
  (hs:starEach [a,.Name y q] X.env=(false,eval a X.env)::starEach [.Name y q] X.env:=by rfl) (fC:starEach [.Name y q] X.env=(false,eval (.Name y q) X.env)::starEach [] X.env:=by rfl) (bG:(backTo pos (starEach [.Name y q] X.env)).any (·.1)=false:=by rfl) :
  PE X (.Call (.Name "isinstance" p) [a,.Name y q] [] pos) (lE (mC n ta)) :=
 cR (He QS hg hm QL (dM ha (dM (QQ Sl Jc Ao hn hd) gh fC) hs) (by decide) (by decide) hs bG) λσ H Q ⟨B,F,δ,ts,Qd,c,q,k⟩=>⟨B,F,δ,ts,_,c,q,λd aj v F1 H1 q1 f1 h1 c1 s1=>by
  obtain⟨r,e,qr⟩:=q1
  obtain⟨t,h2,h3⟩:=Sk (K:=X.K) s1 c1.ext e
  exact⟨v,n,t,r,rfl,h2,h3,k _ aj _ F1 H1 qr f1 h1 (c1.pushS (.bl .nil) rfl)⟩⟩
theorem Ap{xs:List D}{ws:List V}{i:Int}{d:D}(s:S F H xs ws)(h:da xs i=some d):∃v,da ws i=some v/\S F H [d] [v]:=by
 unfold da at h ⊢
 rw[<-s.length]
 cases e:eR xs.length i with
 | none=>rw[e]at h;cases h
 | some j =>
  rw[e]at h
  exact s.get h
noncomputable def jY(x y:D)(Q:D->Prop):Prop:=match x,y with
 | .lst _ xs,.int i=>∃d,da xs i=some d/\Q d
 | .fz xs,.int i=>∃d,da xs i=some d/\Q d
 | .tup xs,.int i=>∃d,da xs i=some d/\Q d
 | .str z,.int i=>z.length<=sizeLine/\∃ch,da z.cps.toList i=some ch/\Q (.str ⟨#[ch]⟩)
 | _,_=>False
noncomputable def jh(ta tb:aH):aH:=λδ Q=>ta δ λx aj=>tb aj λy aF=>jY x y λd=>Q d aF
theorem aP(ha:PE X a (lB ta))(hb:PE X b (lB tb))(hs:Hg b):PE X (.Subscript a b pos) (lB (jh ta tb)) :=
 cR (Hh PR ha hb hs) λσ H Q ⟨B,F,δ,ts,Qd,c,q,k⟩=>⟨B,F,δ,ts,_,c,q,λx aj v F1 H1 q1 f1 h1 c1 s1=>⟨B,F1,aj,ts,_,c1,q1,λy aF w F2 H2 q2 f2 h2 c2 s2=>by
  have mD:=s1.mono f2 h2
  have fin:∀d z,Qd d aF->S F2 H2 [d] [z]->Q z H2:=λd z hd s=>k d aF z F2 H2 hd (f1.trans f2) (h1.trans h2) c2 s
  unfold jY at q2
  split at q2
  ·obtain⟨d,ed,qd⟩:=q2
   cases s2
   obtain⟨p,ws,rfl,h,t⟩:=om mD c2.ext rfl
   obtain⟨z,ez,sz⟩:=Ap t ed
   exact .inl ⟨p,ws,_,z,rfl,rfl,mB h,ez,fin d z qd sz⟩
  ·obtain⟨d,ed,qd⟩:=q2
   cases s2
   obtain⟨p,ws,rfl,h,t⟩:=om mD c2.ext rfl
   obtain⟨z,ez,sz⟩:=Ap t ed
   exact .inl ⟨p,ws,_,z,rfl,rfl,mB h,ez,fin d z qd sz⟩
  ·obtain⟨d,ed,qd⟩:=q2
   cases s2
   obtain⟨p,ws,rfl,h,t⟩:=gy mD
   obtain⟨z,ez,sz⟩:=Ap t ed
   exact .inr (.inl ⟨p,ws,_,z,rfl,rfl,eD.of h,ez,fin d z qd sz⟩)
  ·obtain⟨hz,ch,ec,qc⟩:=q2
   cases mD
   cases s2
   exact .inr (.inr ⟨_,_,ch,rfl,rfl,hz,ec,fin _ _ qc (.str .nil)⟩)
  ·exact q2.elim⟩⟩
noncomputable abbrev Sm:=Dl->(Option Int->Dl->Prop)->Prop
noncomputable def mE(t:aH):aH:=λδ Q=>t δ λd af=>match d with
 | .int i=>Q (.int (Mf.bl i.natAbs:Nat)) af
 | _=>False
theorem jZ(ho:PE X o (lB t))(gi:attributeBase o "bit_length" X.env (eval o X.env)=eval o X.env:=by rfl)(gj:(apos.endLine==bh.line)=true:=by rfl):PE X (.Call (.Attribute o "bit_length" apos) [] [] bh) (lE (mE t)) :=
 cR (zI ho gi gj) λσ H Q ⟨B,F,δ,ts,Qd,c,q,k⟩=>⟨B,F,δ,ts,_,c,q,λd aj v F1 H1 q1 f1 h1 c1 s1=>by
  cases s1 with
  | int _=>exact⟨rfl,_,rfl,rfl,k _ aj _ F1 H1 q1 f1 h1 (c1.pushS (.int .nil) rfl)⟩
  | _=>exact q1.elim⟩
end
end L3
namespace L3
open PySem L2 PySem.Spec PyProof.Rows
section
variable{X:Cx}{F H:Hp}{v w:V}{e a b c o tg:Expr}{es:List Expr}{pos p p2 apos bh pos':Pos}{t ta tb tc te ti:aH}{tr:bX}{x:Str}{i:Nat}
noncomputable def mF(i:Nat)(t:aH):bM:=λD δ=>(∃xs,δ[i]?=some (some (.lst true xs)))/\t δ λd af=>∃xs,af[i]?=some (some (.lst true xs))/\xs.length<sizeLine/\D.nx (af.set i (some (.lst true (xs++[d]))))
theorem wj(hN:X.N[i]?=some x)(hv:fX X.env.scope x)(he:PE X e (lE t))(hd:(x==("__debug__":Str))=false:=by decide)(bI:(x==("__classdict__":Str))=false:=by decide)
  (gi:attributeBase (.Name x p) "append" X.env (eval (.Name x p) X.env)=eval (.Name x p) X.env:=by rfl)
  (tH:((backTo bh (starEach [e] X.env)).all (λx=>!x.1)&&(backToKw bh (keywordEach [] X.env)).all (λx=>x.1.isSome)
   && decide ([e].length+([]:List Keyword).length+(if([]:List Keyword).isEmpty then 0 else 1)<30))=true:=by rfl)
  (gj:(apos.endLine==bh.line)=true:=by rfl) (hs:starEach [e] X.env=(false,eval e X.env)::starEach [] X.env:=by rfl) (tI:(backTo bh (starEach [] X.env)).any (·.1)=false:=by rfl)
  (j0:swapsWith (.Call (.Attribute (.Name x p) "append" apos) [e] [] bh) none pos.line X.env=pure false:=by rfl) :
  PS X (.Expr (.Call (.Attribute (.Name x p) "append" apos) [e] [] bh) pos) (lS X (mF i t)) :=
 gr (s8 (Hs PySem.F.plainAttrs_list PySem.F.slot_list_append PySem.F.type_list_append zu (iW hN hv hd bI) (dM he gh hs) gi tH gj hs tI) j0) λEn σ H zz=>by
  obtain⟨B,F,δ,Dd,c,⟨⟨ys,ey⟩,q⟩,k1,k2,k3,k4⟩:=zz
  obtain⟨p0,qN,g1,g2,g3⟩:=c.ownAt ey
  refine⟨.ref p0,g1,.inl ⟨rfl,_,aM.of g2⟩,B,F,δ,[],_,c,q,λd af v F' H' hd sf sh c'=>?_⟩
  obtain⟨xs,ex,hl,hn⟩:=hd
  obtain⟨p1,ws,r1,r2,r3⟩:=c'.ownAt ex
  rw[g1]at r1;cases r1
  exact⟨p0,ws,v,rfl,rfl,r2,by omega,k1 _ _ F' _ hn (c'.app ex g1 r2)⟩
noncomputable def mG(i:Nat)(te ti:aH):bM:=λD δ=>te δ λd aj=>∃ys,aj[i]?=some (some (.lst true ys))/\iz ti aj λk aF=>match k with
 | .int n=>∃xs j,aF[i]?=some (some (.lst true xs))/\eR xs.length n=some j/\D.nx (aF.set i (some (.lst true (xs.set j d))))
 | _=>False
theorem Jd(hN:X.N[i]?=some x)(hv:fX X.env.scope x)(he:PE X e (lE te))(hi:PE X b (lB ti))(hd:(x==("__debug__":Str))=false:=by decide)(bI:(x==("__classdict__":Str))=false:=by decide)
  (ha:∀v,assign (.Subscript (.Name x p) b pos') X.env v=(do
   let ov<-holding [v] (eval (.Name x p) X.env)
   let iv<-holding [v,ov] (eval b X.env)
   standAt pos'
   holding [v,ov,iv] (setItem ov iv v)
   release [v,ov,iv] []):=by intro _;rfl)
  (hs:swapsWithSole [.Subscript (.Name x p) b pos'] e pos.line X.env=pure false:=by rfl) (hw:swappedStores [.Subscript (.Name x p) b pos'] e X.env=pure none:=by rfl)
  (h1:(assignEach [.Subscript (.Name x p) b pos'] X.env).map (·.2)=[assign (.Subscript (.Name x p) b pos') X.env]:=by rfl) :
  PS X (.Assign [.Subscript (.Name x p) b pos'] e pos) (lS X (mG i te ti)) :=
 gr (GU he (GS (iW hN hv hd bI) (dR hi) Hm ha) hs hw h1) λEn σ H ⟨B,F,δ,Dd,c,q,k1,k2,k3,k4⟩=>⟨B,F,δ,[],_,c,q,λd aj v F1 H1 hq f1 h1 c1=>by
  obtain⟨ys,ey,hq⟩:=hq
  obtain⟨p0,qN,g1,g2,g3⟩:=c1.ownAt ey
  refine⟨.ref p0,g1,B,F1,aj,[(d,v)],_,c1,hq,λkd aF kv F2 H2 hk f2 h2 c2=>?_⟩
  have st:=c2.top
  split at hk
  ·obtain⟨xs,j,ex,ej,hn⟩:=hk
   cases st
   have c3:=c2.pop
   obtain⟨p1,ws,r1,r2,r3⟩:=c3.ownAt ex
   rw[g1]at r1;cases r1
   exact⟨p0,ws,_,j,rfl,rfl,r2,by rw[<-r3];exact ej,k1 _ _ F2 _ hn (c3.RN ex g1 r2 j)⟩
  ·exact hk.elim⟩
noncomputable def j3(i:Nat):bM:=λD δ=>∃xs,δ[i]?=some (some (.lst true xs))/\D.nx (δ.set i (some (.lst true [])))
theorem Sn(hN:X.N[i]?=some x)(hv:fX X.env.scope x)(hd:(x==("__debug__":Str))=false:=by decide)(bI:(x==("__classdict__":Str))=false:=by decide)
  (gi:attributeBase (.Name x p) "clear" X.env (eval (.Name x p) X.env)=eval (.Name x p) X.env:=by rfl) (gj:(apos.endLine==bh.line)=true:=by rfl)
  (j0:swapsWith (.Call (.Attribute (.Name x p) "clear" apos) [] [] bh) none pos.line X.env=pure false:=by rfl) :
  PS X (.Expr (.Call (.Attribute (.Name x p) "clear" apos) [] [] bh) pos) (lS X (j3 i)) :=
 gr (s8 (Hr PySem.F.plainAttrs_list PySem.F.slot_list_clear PySem.F.type_list_clear P6 (iW hN hv hd bI) gi gj) j0) λEn σ H zz=>by
  obtain⟨B,F,δ,Dd,c,⟨ys,ey,hn⟩,k1,k2,k3,k4⟩:=zz
  obtain⟨p0,qN,g1,g2,g3⟩:=c.ownAt ey
  refine⟨.ref p0,g1,.inl ⟨rfl,_,aM.of g2⟩,p0,qN,rfl,rfl,g2,k1 _ _ F _ hn ?_⟩
  exact ag.mut (ps:=[]) c ey g1 λdP A1 A2 h r1 r2 nd=>⟨[],.nil,by simp,by simp⟩
end
end L3
namespace L3
open PySem L2 PySem.Spec PyProof.Rows
theorem dk{A:Around}{k:Nat}(hr:bF k A):A.units+6<cLine:=by have:=hr.un;omega
noncomputable def ay(ns:List Int):List D:=ns.map D.int
noncomputable def Aq(o:Obj):Bool:=match o.cls with
 | .type n=>n != "list"
 | _=>true
noncomputable def Je:bB:=λds Q=>∃ns:List Int,ds=[.fz (ay ns)]/\ns.length<=63/\Q (.bl true)
theorem iE{F H:Hp}:∀ns:List Int,R F H (ay ns) (ns.map V.int) []
 | []=>.nil
 | n::ns=>.int (iE ns)
theorem So{K:PySem.W.Frag}{a:Addr}{o:Obj}(h:K.lookup a=some o):(a,o)∈K:=by
 induction K with
 | nil=>cases h
 | cons p K ih =>
  obtain⟨b,u⟩:=p
  rw[eA]at h
  split at h
  ·rename_i z
   have:a=b:=by simpa using z
   cases h;subst this;simp
  ·exact hE _ (ih h)
end L3
namespace L3
open PySem L2 PySem.Spec PyProof.Rows
section
variable{B:Bs}{F H:Hp}{σ:L2.St}{δ:Dl}{ts ps:List (D × V)}{i k:Nat}{p q:Addr}{l1 l2 ys ys':List D}{ws us':List V}
theorem ag.Jf(c:ag B F H σ δ (ps++ts))(e:δ[i]?=some (some (.lst true (l1++.lst true ys::l2))))(e2:σ[i]?=some (some (.ref p)))(hp:H p=some (.lst ws))(hq:ws[l1.length]?=some (.ref q))
  (kk:∀us A1 A2,H q=some (.lst us)->R F H ys us A1->R F H (ps.map (·.1)) (ps.map (·.2)) A2->(A1++A2).Nodup->∃A',R F H ys' us' A'/\A'.Nodup/\∀a∈A',a∈A1++A2) :
  ag B F (upd H q (.lst us')) σ (δ.set i (some (.lst true (l1++.lst true ys'::l2)))) ts:=by
 have hi:i<δ.length:=(gG.mp e).1
 obtain⟨v,e3,c1⟩:=c.move e
 rw[e2]at e3;cases e3
 obtain⟨A,C,r,s,nd,fr⟩:=c1.own
 have r':R F H ([.lst true (l1++.lst true ys::l2)]++(ps.map (·.1)++ts.map (·.1))) ([.ref p]++(ps.map (·.2)++ts.map (·.2))) A:=by simpa using r
 obtain⟨v1,v2,A1,A2,e4,rfl,h1,h2⟩:=R.split r'
 have Sq:v1.length=1:=by rw[<-h1.length];rfl
 obtain⟨rfl,rfl⟩:=pS e4 (by simp[Sq])
 obtain⟨v3,v4,B1,B2,e5,rfl,h3,h4⟩:=R.split h2
 have l3:(ps.map (·.2)).length=v3.length:=by rw[<-h3.length];simp
 obtain⟨rfl,rfl⟩:=pS e5 l3
 cases h1 with
 | @own _ qN _ Ax _ _ Bx hH hF hx hr =>
  cases hr
  rw[hp]at hH;cases hH
  obtain⟨w1,w2,X1,X2,e6,rfl,g1,g2⟩:=R.split hx
  obtain⟨wq,w3,X3,X4,rfl,rfl,g3,g4⟩:=R.bZ g2
  have lw:w1.length=l1.length:=g1.length.symm
  have Sr:wq=.ref q:=by
   rw[e6,<- lw,sH (bH _),Gv]at hq
   simpa using hq
  subst Sr
  cases g3 with
  | @own _ us _ Y1 _ _ Y2 Jg Ar hy Ss =>
   cases Ss
   simp only[kL]at *
   have i6:(p::(X1++(q::Y1++X4))++(B1++B2)++C).Nodup:=by simpa[cn]using nd
   have fO:∀a∈p::(X1++(q::Y1++X4))++(B1++B2)++C,B.H0 a=none:=λa ha=>fr a (by simpa[cn]using ha)
   have wk:=i6
   simp only[ib,cn,gH,cN,cA,bV,not_or]at wk
   have Su:(Y1++B1).Nodup:=cN.mpr ⟨by grind,by grind,by grind⟩
   obtain⟨A',ra,zW,sub⟩:=kk us Y1 B1 Jg hy h3 Su
   have wm:∀a∈A',a∈Y1\/a∈B1:=λa ha=>cA.mp (sub a ha)
   have but:eX [q] H (upd H q (.lst us')):=⟨λa o z w _=>by rw[aD (by simpa using w)];exact z⟩
   have hl:fK [q] H:=λa ha=>by rw[hW.mp ha];exact⟨_,Jg⟩
   have kp:∀{ds:List D} {vs:List V} {A:List Addr},R F H ds vs A->q ∉ A->R F (upd H q (.lst us')) ds vs A:=λr n=>r.keep (ae.refl F) but hl (λa ha=>(r.lists a ha).2) λa ha z=>n (by rw[<-hW.mp z];exact ha)
   have fq:B.H0 q=none:=fO q (by simp)
   have As:p≠q:=by grind
   have b1:ae B.H0 (upd H q (.lst us')):=⟨λa o z n=>by
    rw[aD (λw=>by rw[w,fq]at z;cases z)]
    exact c1.b1.get a o z n,λa ps z=>by
    rw[aD (λw=>by rw[w,fq]at z;cases z)]
    exact c1.b1.tb a ps z⟩
   have ext:ae F (upd H q (.lst us')):=⟨λa o z n=>by
    rw[aD (λw=>by rw[w,Ar]at z;cases z)]
    exact c1.ext.get a o z n,λa ps z=>by
    rw[aD (λw=>by rw[w,Ar]at z;cases z)]
    exact c1.ext.tb a ps z⟩
   have big:R F (upd H q (.lst us')) [.lst true (l1++.lst true ys'::l2)] [.ref p] (p::(X1++(q::(A'++X4)))):=by
    have Au:R F (upd H q (.lst us')) (l1++.lst true ys'::l2) (w1++.ref q::w3) (X1++(q::(A'++X4))) :=
     R.append (kp g1 (by grind)) (R.own bw Ar (kp ra (by grind)) (kp g4 (by grind)))
    have:=R.own (F:=F) (H:=upd H q (.lst us')) (p:=p) (by rw[aD As,hp,e6]) hF Au .nil
    simpa using this
   have c2:ag B F (upd H q (.lst us')) σ (δ.set i none) ((.lst true (l1++.lst true ys'::l2),.ref p)::ts):=by
    refine⟨ext,b1,c1.b2,c1.b3,(p::(X1++(q::(A'++X4))))++B2,C,R.cons big (kp h4 (by grind)),s.keep (ae.refl F) but hl (λa ha=>(s.lists a ha).2) (λa ha z=>?_),?_,?_⟩
    ·have:a=q:=by simpa using z
     subst this
     grind
    ·obtain⟨⟨p1,p2,p3,p4,p5,p6,p7⟩,x1,⟨⟨q1,q2,q3,q4,q5⟩,y1,⟨x4,⟨b1',⟨Sv,cc,Sw⟩,Jh⟩,Ji⟩,Sx⟩,Sy⟩:=wk
     simp only[ib,cn,gH,cN,cA,bV,not_or]
     refine⟨⟨p1,p2,λz=>(wm _ z).elim p3 p5,p4,p6,p7⟩,x1,⟨⟨λz=>(wm _ z).elim q1 q3,q2,q4,q5⟩,zW,⟨x4,⟨Sv,cc,Sw⟩,λa ha=>?_⟩,λa ha=>?_⟩,λa ha=>?_⟩
     ·obtain⟨z1,z2,z3⟩:=Ji a ha;exact⟨z2,z3⟩
     ·rcases wm a ha with z | z
      ·obtain⟨z1,z2,z3,z4⟩:=Sx a z;exact⟨z1,z3,z4⟩
      ·refine⟨λw=>(Ji a w).1 z,(Jh a z).1,(Jh a z).2⟩
     ·obtain⟨z1,z2,z3,z4,z5,z6⟩:=Sy a ha
      exact⟨z1,λw=>(wm a w).elim z2 z4,z3,z5,z6⟩
    ·intro a ha
     simp only[ib,cn,bV,cA]at ha fO
     apply fO
     grind
   have c3:=c2.fill (i:=i) (by simp[hi]) e2
   rwa [yA]at c3
end
section
variable{X:Cx}{F H:Hp}{e b:Expr}{pos p pr apos bh qS:Pos}{t ti te:aH}{x y:Str}{i j:Nat}
theorem Jj{α:Type}:∀{l:List α} {i:Nat} {x:α},l[i]?=some x->l.set i x=l
 | [],_,_,h=>by simp at h
 | _::_,0,_,h=>by simp at h;simp[h]
 | _::l,i+1,_,h=>by rw[jz,Jj (by simpa using h)]
end
end L3
namespace L3
open PySem L2 PySem.Spec PyProof.Rows
theorem ot(i:Int):(D.int i).pl=true:=rfl
theorem ou(i:Bool):(D.bl i).pl=true:=rfl
theorem ow(i:Str):(D.str i).pl=true:=rfl
theorem oy:D.ak.pl=true:=rfl
theorem oA(xs:List D):(D.fz xs).pl=true:=rfl
theorem oB(C:Addr)(ns:List Str)(xs:List D):(D.obj C ns xs).pl=true:=rfl
theorem mH(i:Int):(D.int i).fr=true:=rfl
theorem oE(i:Bool):(D.bl i).fr=true:=rfl
theorem oF(i:Str):(D.str i).fr=true:=rfl
theorem oG:D.ak.fr=true:=rfl
theorem j4(i:Int):(D.int i).sh=.int i:=rfl
theorem oH(i:Bool):(D.bl i).sh=.bl i:=rfl
theorem oI(i:Str):(D.str i).sh=.str i:=rfl
theorem oJ:D.ak.sh=.ak:=rfl
theorem oK(xs:List D):(D.fz xs).sh=.fz xs:=rfl
theorem oM(C:Addr)(ns:List Str)(xs:List D):(D.obj C ns xs).sh=.obj C ns xs:=rfl
theorem oN{α:Type}(n:Nat)(x:α):(aX n [x]).flatten=aX n x:=by
 induction n with
 | zero=>rfl
 | succ n ih=>rw[nB,pO,ih];rfl
theorem iF(ns:List Int):(ay ns).length=ns.length:=by simp[ay]
theorem j5(ns:List Int):(ay ns).all D.pl=true:=by simp[ay,D.pl]
theorem j6(ns:List Int):(ay ns).all D.fr=true:=by simp[ay,D.fr]
theorem fP(ns:List Int):(ay ns).map D.sh=ay ns:=by simp[ay,D.sh]
theorem mI(a b:List Int):ay a++ay b=ay (a++b):=by simp[ay]
theorem oO(n:Nat)(i:Int):aX n (D.int i)=ay (aX n i):=by simp[ay]
theorem mJ(n:Nat)(i:Int):aB n (.int i)=true:=by cases n<;>rfl
theorem oQ(n:Nat)(i:Str):aB n (.str i)=true:=by cases n<;>rfl
theorem j7(i j:Int):aY (.int i) (.int j)=decide (i=j):=by
 show(i==j)=_
 rw[Bool.beq_eq_decide_eq]
theorem Jk:∀(a b:List Int),aY.dS (ay a) (ay b)=decide (a=b)
 | [],[]=>rfl
 | [],_::_=>by simp[ay,aY.dS]
 | _::_,[]=>by simp[ay,aY.dS]
 | x::xs,y::ys=>by
  show(aY (.int x) (.int y)&&aY.dS (ay xs) (ay ys))=_
  rw[Jk xs ys,j7,yu];simp
theorem mK(o o':Bool)(a b:List Int):aY (.lst o (ay a)) (.lst o' (ay b))=decide (a=b):=Jk a b
theorem Sz{ns:List Int}{k:Nat}(h:k<ns.length):(ay ns)[k]?=some (.int ns[k]):=by simp[ay,h]
theorem qT{ns:List Int}{k:Int}(h0:0<=k)(h:k<ns.length):da (ay ns) k=some (.int (ns.getD k.toNat 0)):=by
 unfold da eR
 rw[if_pos h0,iF,if_pos h]
 show(ay ns)[k.toNat]?=_
 have hk:k.toNat<ns.length:=by omega
 rw[Sz hk,cY,br hk];rfl
theorem oR(i:Int):jg "int" (.int i)=some true:=by rfl
theorem oS(i:Int):jg "bool" (.int i)=some false:=by rfl
theorem oU(i:Int):jg "list" (.int i)=some false:=by rfl
theorem oV(o:Bool)(xs:List D):jg "list" (.lst o xs)=some true:=by rfl
theorem oW:jg "int" .ak=some false:=by rfl
theorem oX(x:Str):jg "str" (.str x)=some true:=by rfl
theorem oY(xs:List D):jg "tuple" (.tup xs)=some true:=by rfl
theorem sL:sizeLine=16777216:=rfl
theorem oZ{p:Prop}[Decidable p]:(decide p=true)=p:=by simp
end L3
namespace L2
open PySem PySem.Spec PyProof.Rows
section
variable{X:Cx}{e:Expr}{te:TE}{lo hi:Option Expr}{st:Expr}{tl th ts:TO}{pos p2:Pos}
theorem Jl(ns:List Int):∀k,k<=ns.length->preSum (λi=>ns.getD i 0) k=(ns.take k).sum
 | 0,_=>rfl
 | k+1,h=>by
  show preSum (λi=>ns.getD i 0) k+ns.getD k 0=_
  rw[Jl ns k (by omega),yB,br (by omega),List.sum_append,cY,br (by omega)]
  simp
theorem SA(hc:X.calm=true):fE X (.builtin "sum") (λxs H Q=>∃(p:Addr) (ns:List Int),xs=[.ref p]/\aM X.K H p (ns.map V.int)/\Q (.int ns.sum) H):=by
 intro pins s σ H xs us Q I r h
 obtain⟨p,ns,rfl,hS,q⟩:=h
 obtain⟨u,rfl,ru⟩:=r.one
 cases ru
 obtain⟨its,rv,pl,hz⟩:=I.list hS
 have hi:=PL rv
 have hlen:ns.length=its.length:=by have:=rv.length;simpa using this
 have hl:=pl.isList
 have dD:p<s.heap.objs.size:=by obtain⟨_,e,_⟩:=hl;exact bj e
 refine call_sum_walkG (wpAny_pyIter_list hl ?_)
 refine⟨s.heap.objs.size,[s.heap.objs.size,p],[s.heap.objs.size],its.toArray.size,_,_,λi=>ns.getD i 0,rfl,Walks.list (A:=X.A.in1) (I.ok.hd hc) _ p (dG dD) its.toArray,
  ⟨⟨_,fb _ rfl,rfl,rfl⟩,hl.push _⟩,λb hb=>?_,λi v hP=>?_,λh' tk t' hk=>?_⟩
 ·simp only[pL]
  rcases bV.mp hb with rfl | hb
  ·exact sG _
  ·rw[hW.mp hb];exact Nat.lt_succ_of_lt dD
 ·have e:its[i]?=some v:=by simpa using hP
  obtain⟨x,ex,q2⟩:∃x,(ns.map V.int)[i]?=some x/\RelV x v:=by
   have gk:i<its.length:=(gG.mp e).1
   obtain⟨u,e2,q2⟩:=rv.get (i:=i) (x:=V.int ns[i]) (by rw[dB,br (by omega)];rfl)
   rw[e]at e2;cases e2
   exact⟨_,by rw[dB,br (by omega)];rfl,q2⟩
  rw[dB]at ex
  obtain⟨n,en,rfl⟩:=yC.mp ex
  obtain⟨t,rfl⟩:=q2
  exact⟨t,by show nk n t=nk (ns.getD i 0) t;rw[cY,en];rfl⟩
 ·rw[cW,<- hlen,Jl ns _ (bH _),List.take_length]
  exact⟨.int _,H,I.kept (h':=h') (t':=tk) (Ib hk),⟨_,rfl⟩,q⟩
noncomputable def Av{α:Type}(xs:List α)(lo hi st:Option Int):List α:=(sliceRange (sliceBounds lo hi st xs.length).1 (sliceBounds lo hi st xs.length).2.1 (sliceBounds lo hi st xs.length).2.2).filterMap (xs[·]?)
end
end L2
namespace L3
open PySem L2 PySem.Spec PyProof.Rows
section
variable{X:Cx}{F H:Hp}{e:Expr}{t:aH}{lo hi:Option Expr}{st:Expr}{tl th td:Sm}{pos p2:Pos}
theorem Aw:∀{a:List Int} {ws:List V},S F H (ay a) ws->ws=a.map V.int
 | [],_,s=>by cases s;rfl
 | b::bs,_,s=>by
  cases s with
  | int s=>rw[Aw s];rfl
noncomputable def j8:iD:=λds Q=>match ds with
 | [.lst _ xs]=>∃a,xs=ay a/\Q (.int a.sum)
 | _=>False
theorem SD(hc:X.calm=true):gU X (.builtin "sum") j8:=gU.of (SA hc) λvs H Q zz=>by
 obtain⟨B,F,σ,δ,ts,ds,Qd,c,s,q,k⟩:=zz
 unfold j8 at q
 split at q
 ·obtain⟨v,rfl,s1⟩:=jV s
  obtain⟨a,rfl,q⟩:=q
  obtain⟨p,ws,rfl,h,t⟩:=om s1 c.ext rfl
  rw[Aw t]at h
  exact⟨p,a,rfl,mB h,k _ _ _ q (ae.refl _) (c.pushS (.int .nil) rfl)⟩
 ·exact q.elim
theorem S.Ay{xs:List D}{ws:List V}(s:S F H xs ws):∀ix:List Nat,S F H (ix.filterMap (xs[·]?)) (ix.filterMap (ws[·]?))
 | []=>.nil
 | i::ix=>by
  rw[pJ,pJ]
  cases e:xs[i]? with
  | none =>
   have:ws[i]?=none:=by
    have:=s.length
    rw[FY]at e ⊢
    omega
   rw[this];exact S.Ay s ix
  | some x =>
   obtain⟨u,e2,q⟩:=s.get e
   rw[e2]
   exact q.cons (S.Ay s ix)
theorem S.pick{xs:List D}{ws:List V}(s:S F H xs ws)(l u d:Option Int):S F H (Av xs l u d) (Av ws l u d):=by
 unfold Av;rw[<-s.length];exact s.Ay _
noncomputable def Az:Expr->Option Int
 | .Constant (.int i) _ _=>some i
 | _=>none
noncomputable def wo:List Expr->Option (List Int)
 | []=>some []
 | e::es=>(Az e).bind λi=>(wo es).map (i :: ·)
theorem SE{e:Expr}{i:Int}(h:Az e=some i):∃a b,e=.Constant (.int i) a b:=by
 cases e with
 | Constant c a b =>
  cases c with
  | int j=>cases h;exact⟨_,_,rfl⟩
  | _=>cases h
 | _=>cases h
noncomputable def SF(ns:List Int):bX:=λδ Q=>Q (ay ns) δ
theorem Jm:∀(es:List Expr) (ns:List Int),wo es=some ns->PA X es (lO (SF ns))
 | [],ns,h=>by cases h;exact eH
 | e::es,ns,h=>by
  obtain⟨i,hi,h2⟩:=Option.bind_eq_some_iff.mp (show(Az e).bind (λi=>(wo es).map (i :: ·))=some ns from h)
  obtain⟨ms,hm,rfl⟩:=yC.mp h2
  obtain⟨a,b,rfl⟩:=SE hi
  exact tV (cS (ao (i:=i)) (Jm es ms hm)) λ_ _ _ q=>q
noncomputable def mL(ns:List Int):aH:=λδ Q=>ns.length<=sizeLine/\Q (.lst true (ay ns)) δ
theorem Jn{es:List Expr}{ns:List Int}(h:wo es=some ns):PE X (.List es pos) (lE (mL ns)) :=
 cR (gv (Jm es ns h)) λ_ _ _ ⟨B,F,δ,ts,Qd,c,q,k⟩=>⟨B,F,δ,ts,Qd,c,by
  show(ay ns).length<=sizeLine/\_
  rw[iF];exact q,k⟩
noncomputable def tab(f:Nat->Int)(n:Nat):List Int:=(bf n).map f
theorem AA{n:Nat}{g:eY}{tb:bM}{En:lD}{δ:Dl}(Iv:Nat->Dl->Prop)(h0:Iv 0 δ)(ht:∀k af,k<n->Iv k af->g (.int k) af λaF=>tb { En with nx:=Iv (k+1),ct:=Iv (k+1),bk:=En.nx } aF)
  (hf:∀af,Iv n af->En.nx af):i9 (yD (λ(k:Nat)=>D.int (0+(k:Int))) (bf (n:Int).toNat)) g tb En δ:=by
 rw[iR]
 refine i9.mk Iv h0 (λi d af hd iv=>?_) λaf iv=>hf af (by simpa using iv)
 rw[dB]at hd
 obtain⟨k,hk,rfl⟩:=yC.mp hd
 have hi:i<n:=by have:=(gG.mp hk).1;simpa using this
 rw[nG hi]at hk
 cases hk
 rw[Gw]
 exact ht i af hi iv
theorem kY{xs:List D}{k:Int}{d:D}(h0:0<=k)(h:xs[k.toNat]?=some d):da xs k=some d:=by
 unfold da eR
 have hk:k.toNat<xs.length:=(gG.mp h).1
 rw[if_pos h0,if_pos (by omega)]
 exact h
end
end L3
namespace L3
open PySem L2 PySem.Spec PyProof.Rows
noncomputable abbrev ui:=List D->(D->Prop)->(Addr->Prop)->Prop
noncomputable def AB(sp:ui):Sp:=λvs H Q E=>∃F ds Qd Ed,ae F H/\R F H ds vs []/\sp ds Qd Ed/\(∀d v F' H' A,Qd d->ae H H'->ae F F'->ae F' H'->(∀a ws,F' a=some (.lst ws)->F a=some (.lst ws)\/H a=none)->R F' H' [d] [v] A->A.Nodup->(∀a∈A,H a=none)->Q v H') /\
 ∀C H',Ed C->ae H H'->E (.ref C) none H'
section
variable{P:Program}{w:World}{K:PySem.W.Frag}{mg:Str->Option Value}{base:Heap}
theorem SG{x qual:Str}{st:Stmt}{f:Addr}{fd:FuncData}{N ps:List Str}{k:Nat}{sp:ui}(F:bq K x qual st f fd)(S:bx N ps (aw st))(len:∀ds Q E,sp ds Q E->ds.length=ps.length)
  (fe:∀(aE:Value) (A:Around) (outer:List Env) (s:Shared) (H:Hp) (E:XK),bF k (A.deeper (envOfC qual (aw st) s.heap.objs.size f aE)) ->
   ∃t:bM,PSs (fG (og P w) P w K mg base N qual (aw st) f aE A outer s H E) (aZ st) (lS (fG (og P w) P w K mg base N qual (aw st) f aE A outer s H E) t) /\
    ∀ds Q Ex,sp ds Q Ex->t { nx:=λ_=>Q .ak,rt:=Q,xc:=λC _=>Ex C,xr:=λC _=>Ex C } (gw N ds)):aL P w K mg base (og P w) (k+1) f fd ps (AB sp):=by
 obtain⟨oc,od,kV,doc,pm,an,aE,ct,i3,rfl,lk,bI⟩:=F.ex
 refine zl lk bI S (λvs H Q E ⟨F,ds,Qd,Ed,e,r,h,_⟩=>by rw[<-r.length];exact len ds Qd Ed h) λA outer s H vs Q E hr zz=>?_
 obtain⟨F,ds,Qd,Ed,e,r,h,k,kx⟩:=zz
 obtain⟨t,ht,hq⟩:=fe aE A outer s H E hr
 have fin:∀d v af ai F' H',Qd d->ag ⟨H,F⟩ F' H' ai af [(d,v)]->Q v H':=λd v af ai F' H' hd c=>by
  obtain⟨A,C,r',s',nd,fr⟩:=c.own
  exact k d v F' H' A hd c.b1 c.b2 c.ext c.b3 r' (cN.mp nd).1 λa ha=>fr a (eu _ ha)
 have e1:L2.start N vs=vs.map some++aX (N.length-ds.length) none:=by unfold L2.start;rw[r.length]
 refine⟨_,ht,⟨H,F⟩,F,gw N ds,_,?_,hq ds Qd Ed h,λaf ai F' H' hd c=>fin .ak .ak af ai F' H' hd (c.pushS (.ak .nil) rfl),fin,λ_ _ _ _ z=>z.elim,λ_ _ _ _ z=>z.elim,λC af pins ai F' H' s' a T hx c I tr pa pT=>?_,λC af pins ai F' H' s' h' e vs hx c I hm=>?_⟩
 ·rw[e1]
  exact ag.start e r _
 ·exact Rc I rfl rfl rfl tr pa pT λh' T' g=>⟨a,T',.ref C,H',rfl,I.os,I.bare,g.un,g.av,g.tQ,g.a0,g.a1,g.t0,g.t1,kx C H' hx c.b1⟩
 ·exact Rh I rfl rfl rfl hm λh' T' g=>⟨e,T',.ref C,H',rfl,I.os,I.bare,g.un,g.av,g.tQ,g.a0,g.a1,g.t0,g.t1,kx C H' hx c.b1⟩
end
noncomputable abbrev SH:=Dl->(D->Dl->Prop)->(Addr->Dl->Prop)->Prop
section
variable{X:Cx}{n:Nat}{f:Addr}{fd:FuncData}{ps:List Str}{sp:ui}{x:Str}{p pos:Pos}{e:Expr}{es:List Expr}{t:bX}{tx:SH}
noncomputable def mM(t:bM):bM:=λD δ=>t { D with xc:=λ_ _=>False,xr:=λ_ _=>False } δ
theorem SI{st:Stmt}{u:bM}(h:PS X.dY st (lS X.dY u)):PS X st (lS X (mM u)):=by
 intro pins s σ H D I zz
 obtain⟨B,F,δ,Dd,c,q,k1,k2,k3,k4,xl⟩:=zz
 exact wpAny_mono (h pins s σ H D (I.fZ _) ⟨B,F,δ,_,c,q,k1,k2,k3,k4,XL.none (λ_ _ z=>z) λ_ _ z=>z⟩) (λ_ _ q=>q.ij) λ_ _ z=>dA z
noncomputable def mO(C:Addr)(t:bX):bM:=λD δ=>t δ λds af=>ds.length<=9/\D.xr C af
structure AD(K:PySem.W.Frag)(mg:Str->Option Value)(x:Str)(C:Addr):Prop where
 own:∀h:Heap,K.In h->h.Ns mainGlobals mg->∃newId Bn AE Jo B Jp Jq wu,OwnCls x C wu newId mg h/\ExcBaseFacts Bn newId AE Jo/\wu.contains (.type Bn)=true/\ExcBaseFacts B Jp Jq wu
theorem SJ{C:Addr}{np bh:Pos}(hm:AD X.K X.mg x C)(hc:X.calm=true)(hg:Gl X x)(ha:PA X (e::es) (lA t))(dj:(x==("__debug__":Str))=false:=by decide)
  (he:starEach (e::es) X.env=(false,eval e X.env)::starEach es X.env:=by rfl) (bG:(backTo bh (starEach es X.env)).any (·.1)=false:=by rfl) :
  PS X (.Raise (some (.Call (.Name x np) (e::es) [] bh)) none pos) (lS X (mO C t)):=by
 intro pins s σ H D I zz
 obtain⟨B,F,δ,Dd,c,q,k1,k2,k3,k4,xl⟩:=zz
 obtain⟨newId,Bn,AE,Jo,B',Jp,Jq,wu,O,Fn,SK,FB⟩:=hm.own X.base I.ok.mod.kR I.ok.mod.glob
 obtain⟨tl,N,nm,qn,bs,hdct,sn,sub,ab,col,dd,k0,SM,SN,SO,k5,mN,hC,hN,mP,T⟩:=O.obj
 refine wpAny_Raise_call_subU (k5:=k5) (k3:=SO) (k2:=SN) (k1:=SM) (k0:=k0) (dd:=dd) (col:=col) (ab:=ab) (sub:=sub) (sn:=sn) (hdct:=hdct) (bs:=bs) (N:=N) (q:=qn) (nm:=nm) (C:=C) Fn SK FB (mN:=mN) (T.hasType FB.hasBase) (I.ok.hd hc) (by rw[he];show(false||(backTo bh (starEach es X.env)).any (·.1))=false;rw[bG];rfl) mP (vF I hg O.bound ⟨rfl,?_⟩ dj)
 have AF:=ha bh pins s σ H (λvs H1=>vs.length<=9/\∃af F',Dd.xr C af/\ag B F' H1 σ af []) I ⟨B,F,δ,[],_,c,q,λds aj vs F1 H1 q1 f1 h1 c1 s1=>⟨by rw[<-s1.length];exact q1.1,aj,F1,q1.2,c1⟩⟩
 rw[he]at AF ⊢
 refine Calls.evalArgs_plain (wpAny_mono AF (λus s2 h2=>?_) λ_ _ y=>y)
 obtain⟨vs,H1,I1,r,hl,af,F',hx,c'⟩:=h2
 exact⟨rfl,by rw[<-r.length];exact dW hl (by decide),I1.bk _ _ hC,hN.keeps I1.bk,T.keeps I1.bk,λh' e' SQ=>xl.2 C af pins σ F' H1 s2 h' e' _ hx c' I1 SQ⟩
end
end L3
namespace L3
open PySem L2 PySem.Spec PyProof.Rows
section
variable{X:Cx}{pins yO:List (Addr × Obj)}{σ:L2.St}{H:Hp}{s:Shared}{a:Addr}
noncomputable abbrev tr(X:Cx)(xe:Value->Shared->Prop)(pn:List (Addr × Obj)):Cx:={ X with xe:=xe,pn:=pn }
end
noncomputable abbrev exc(C:Addr):D:=.aQ (.ext λa=>Rk a C)
section
variable{X:Cx}{tb th:bM}{body SR:List Stmt}{SS:Stmt}{K n:Str}{Kc:Addr}{i:Nat}{kp SU pos:Pos}
end
end L3
namespace L3
open PySem L2 PySem.Spec PyProof.Rows
section
variable{X:Cx}{F H:Hp}{v:V}{a:Expr}{ta:aH}{p pos:Pos}
end
section
variable{K:PySem.W.Frag}{mg:Str->Option Value}{x:Str}{C:Addr}
theorem SV(hm:mg x=some (.ref C))(q:PySem.W.excIn K C [.type "ValueError",.type "Exception",.type "BaseException",.type "object"] "ValueError.__new__"=true):AD K mg x C:=by
 refine⟨λh X G=>⟨"ValueError.__new__","ValueError",_,_,"ValueError",_,_,[.type "ValueError",.type "Exception",.type "BaseException",.type "object"],?_,PySem.F.excBase_ValueError,rfl,PySem.F.excBase_ValueError⟩⟩
 refine⟨hm,?_⟩
 unfold PySem.W.excIn at q
 split at q
 ·rename_i dd cd sl ho
  split at q
  ·rename_i C' bm k0 k1 k2 k3 n k5 hm hs
   simp only[dm,beq_iff_eq,Bool.not_eq_true']at q
   obtain⟨⟨⟨⟨⟨rfl,rfl⟩,Jr⟩,ht⟩,av⟩,mP⟩:=q
   obtain⟨nm,bs,mro,ns,qn,hd,sn,sub,ab,col,del⟩:=cd
   dsimp only at hm Jr av mP
   subst hm Jr
   have SW:sl=#[k0,k1,k2,k3,some (.builtin "ValueError.__new__"),k5]:=by
    obtain⟨l⟩:=sl
    simp only at hs
    rw[hs]
   subst SW
   exact⟨bm,ns,nm,qn,bs,hd,sn,sub,ab,col,dd,k0,k1,k2,k3,k5,_,X _ _ ho,.of_isNs (PySem.W.isNs_of_in X av),PySem.W.nsMap_none_of_in X av mP,PySem.W.tail_of_in X ht⟩
  ·cases q
 ·cases q
end
theorem Js{P:Program}{w:World}{X:Cx}:iZ (og P w) X E0:=by
 rintro _ _ _ _ _ _ _ ⟨_,_,_,_,_,_,_,_,_,_,_,_,_,_,z⟩
 exact z.elim
theorem Jt{P:Program}{w:World}{K:PySem.W.Frag}{mg:Str->Option Value}{base:Heap}{k:Nat}{f:Addr}{fd:FuncData}{ps:List Str}{sp:ui}(h:aL P w K mg base (og P w) k f fd ps (AB sp)) :
  aL P w K mg base (og P w) k f fd ps (bD λds Q=>sp ds Q λ_=>False) :=
 h.imp λvs H Q E ⟨F,ds,Qd,e,r,q,k⟩=>⟨F,ds,Qd,_,e,r,q,k,λ_ _ z=>z.elim⟩
end L3
namespace L3
open PySem L2 PySem.Spec PyProof.Rows
theorem o6{CX:di}{P:Program}{w:World}{K:PySem.W.Frag}{mg:Str->Option Value}{base:Heap}{N:List Str}{q:Str}{sc:Scope}{f:Addr}{aE:Value}{A:Around}{outer:List Env}{s:Shared}{H:Hp}{E:XK}:(fG CX P w K mg base N q sc f aE A outer s H E).K=K:=rfl
theorem o7(φ:qI):(D.aQ φ).pl=true:=rfl
theorem o8(φ:qI):(D.aQ φ).sh=.aQ φ:=rfl
end L3
namespace L3
open PySem L2 PySem.Spec PyProof.Rows
theorem o9{X:Cx}:X.dY.K=X.K:=rfl
end L3
namespace L3
open PySem L2 PySem.Spec PyProof.Rows
noncomputable def et(xs ys:List D):List D:=iS (λx y=>D.tup [x,y]) xs ys
noncomputable def gW(xs:List D):List D:=xs.mapIdx λi x=>D.tup [.int i,x]
theorem Ju(xs ys:List D):(et xs ys).map D.sh=et (xs.map D.sh) (ys.map D.sh):=by
 unfold et
 rw[List.map_zipWith,yE]
 congr 1
theorem SX{xs ys:List D}(h1:xs.all D.pl=true)(h2:ys.all D.pl=true):(et xs ys).all D.pl=true:=by
 unfold et
 rw[cQ]at h1 h2 ⊢
 intro d hd
 obtain⟨i,hi,e⟩:=Gm hd
 rw[List.getElem_zipWith]at e
 subst e
 rw[gO]
 simp only[cX,kP,iQ,dm]
 exact⟨h1 _ (fv _),h2 _ (fv _)⟩
theorem SY(xs:List D):(gW xs).map D.sh=gW (xs.map D.sh):=by
 unfold gW
 apply List.ext_getElem?
 intro i
 simp only[dB,ND,Option.map_map]
 cases xs[i]? with
 | none=>rfl
 | some x =>
  show some (D.sh (.tup [.int i,x]))=some (D.tup [.int i,x.sh])
  rw[iy];rfl
theorem S0{xs:List D}(h1:xs.all D.pl=true):(gW xs).all D.pl=true:=by
 unfold gW
 rw[cQ]at h1 ⊢
 intro d hd
 obtain⟨i,hi,e⟩:=Gm hd
 rw[List.getElem_mapIdx]at e
 subst e
 rw[gO]
 simp only[cX,kP,iQ,dm]
 exact⟨rfl,h1 _ (fv _)⟩
theorem wx(xs:List D):(gW xs).length=xs.length:=by simp[gW]
theorem AG(xs ys:List D):(et xs ys).length=min xs.length ys.length:=by simp[et]
section
variable{F H:Hp}{d:D}{v:V}{xs ys:List D}{ws us:List V}{p q:Addr}{K:PySem.W.Frag}
theorem AH(s:S F H [d] [v])(e2:ae F H)(e:gx d=some xs):∃p ws,v=.ref p/\Rd H p (.lst ws)/\R H H (xs.map D.sh) ws []/\(d.pl=true->xs.all D.pl=true/\Rd F p (.lst ws)/\R F H xs ws []):=by
 cases s with
 | @shr p ws ys _ _ hp r _ =>
  obtain rfl:=cP e
  refine⟨p,ws,rfl,.inl (e2 _ _ hp),?_,λ_=>⟨r.pl,.inl hp,r⟩⟩
  rw[lC r.pl]
  exact r.shared e2 (ae.refl _)
 | @own p ws ys _ _ hp r _ =>
  obtain rfl:=cP e
  exact⟨p,ws,rfl,.inl hp,r.frozen e2,λz=>by simp[eW]at z⟩
 | @fz p o ws ys _ _ hp r _ =>
  obtain rfl:=cP e
  refine⟨p,ws,rfl,.inr ⟨o,e2 _ _ hp⟩,?_,λ_=>⟨r.pl,.inr ⟨o,hp⟩,r⟩⟩
  rw[lC r.pl]
  exact r.shared e2 (ae.refl _)
 | ak _=>cases e
 | bl _=>cases e
 | int _=>cases e
 | str _=>cases e
 | tup _ _ _=>cases e
 | obj _ _ _ _=>cases e
 | aQ _ _=>cases e
theorem AI(r:R F H xs ws []){i:Nat}(hi:i<xs.length){x:V}(hx:ws[i]?=some x):R F H [xs[i]] [x] []:=by
 obtain⟨v,A1,e2,r1,sub⟩:=r.get (br hi)
 rw[hx]at e2;cases e2
 have:A1=[]:=Nz.mpr λa ha=>by simpa using sub ha
 subst this
 exact r1
theorem Jv(hp:Rd F p (.lst ws))(r:R F H xs ws [])(hq:Rd F q (.lst us))(t:R F H ys us [])(hF:Full F H):JD (zM K p q) F (et xs ys) where
 go:=λi H' hs hi=>by
  rw[AG]at hi
  have l1:=r.length
  have l2:=t.length
  exact⟨ws,us,_,_,.inl (fg hp hs),.inl (fg hq hs),br (show i<ws.length by omega),br (show i<us.length by omega)⟩
 gL:=λi H' v H2 hs hi zz=>by
  obtain⟨T,x,y,e1,e2,e3,hx,hy⟩:=zz
  subst e1 e3
  have wy:=hi
  rw[AG]at wy
  have h1:=AI (r.full hF hs rfl) (show i<xs.length by omega) (hx ws (.inl (fg hp hs)))
  have h2:=AI (t.full hF hs rfl) (show i<ys.length by omega) (hy us (.inl (fg hq hs)))
  have sm:=ae.upd (o:=.tup [x,y]) e2
  refine⟨_,br hi,sm,?_⟩
  have eg:(et xs ys)[i]=.tup [xs[i]'(by omega),ys[i]'(by omega)]:=by simp[et]
  rw[eg]
  exact R.tup (A:=[]) (B:=[]) bw ((h1.shared (ae.refl _) sm).cons (h2.shared (ae.refl _) sm)) .nil
 stop:=λi H' hs hi=>by
  rw[AG]at hi
  have l1:=r.length
  have l2:=t.length
  exact⟨ws,us,.inl (fg hp hs),.inl (fg hq hs),by omega⟩
theorem Jw(hp:Rd F p (.lst ws))(r:R F H xs ws [])(hF:Full F H):JD (zR K p) F (gW xs) where
 go:=λi H' hs hi=>by
  rw[wx]at hi
  have l1:=r.length
  exact⟨ws,_,.inl (fg hp hs),br (show i<ws.length by omega)⟩
 gL:=λi H' v H2 hs hi zz=>by
  obtain⟨T,x,e1,e2,e3,hx⟩:=zz
  subst e1 e3
  have wy:=hi
  rw[wx]at wy
  have h1:=AI (r.full hF hs rfl) wy (hx ws (.inl (fg hp hs)))
  have sm:=ae.upd (o:=.tup [.int i,x]) e2
  refine⟨_,br hi,sm,?_⟩
  have eg:(gW xs)[i]=.tup [.int i,xs[i]]:=by simp[gW]
  rw[eg]
  exact R.tup (A:=[]) (B:=[]) bw (.int (h1.shared (ae.refl _) sm)) .nil
 stop:=λi H' hs hi=>by
  rw[wx]at hi
  have l1:=r.length
  exact⟨ws,.inl (fg hp hs),by omega⟩
end
section
variable{X:Cx}{a b:Expr}{ta:bX}{p pos nU:Pos}{elts:List Expr}{x1:Nat}
noncomputable def mQ(t:bX):gQ:=λδ Q=>t δ λds af=>match ds with
 | [d1,d2]=>∃xs ys,gx d1=some xs/\gx d2=some ys/\Q (d1.pl&&d2.pl) (et xs ys) af
 | _=>False
theorem AJ(hg:Gl X "zip")(hm:X.mg "zip"=none)(ha:PA X [a,b] (lA ta))(hs:starEach [a,b] X.env=[(false,eval a X.env),(false,eval b X.env)]:=by rfl)(fC:starEach [b] X.env=[(false,eval b X.env)]:=by rfl) :
  PI X (.Tuple elts x1 nU) (.Call (.Name "zip" p) [a,b] [] pos) (lI (mQ ta)) :=
 tY (Rx hg hm ha hs fC) λσ H Q ⟨B,F,δ,ts,Qd,c,q,k⟩=>⟨B,F,δ,ts,_,c,q,λds aj vs F1 H1 hd f1 h1 c1 s=>by
  match ds,hd,s with
  | [d1,d2],⟨xs,ys,i1,i2,hq⟩,s =>
   obtain⟨v1,bS,rfl,s1,s2⟩:=s.bZ
   obtain⟨v2,cw9,rfl,s2,s3⟩:=s2.bZ
   cases s3
   have e2:=c1.ext
   have sn:=qK e2
   obtain⟨p1,w1,rfl,r1,t1,u1⟩:=AH s1 e2 i1
   obtain⟨p2,w2,rfl,r2,t2,u2⟩:=AH s2 e2 i2
   refine⟨p1,p2,rfl,⟨w1,.inl r1⟩,⟨w2,.inl r2⟩,k _ _ aj _ _ H1 hq (f1.trans sn) h1 c1.snap ?_ λz=>?_⟩
   ·rw[Ju]
    exact Jv r1 t1 r2 t2 (Full.refl _)
   ·rw[dm]at z
    obtain⟨a1,a2,a3⟩:=u1 z.1
    obtain⟨b1,b2,b3⟩:=u2 z.2
    exact⟨SX a1 b1,Jv (fg a2 sn) (a3.shared sn (ae.refl _)) (fg b2 sn) (b3.shared sn (ae.refl _)) vX⟩⟩
noncomputable def mR(t:bX):gQ:=λδ Q=>t δ λds af=>match ds with
 | [d1]=>∃xs,gx d1=some xs/\Q d1.pl (gW xs) af
 | _=>False
theorem S1(hg:Gl X "enumerate")(hm:X.mg "enumerate"=none)(ha:PA X [a] (lA ta))(hs:starEach [a] X.env=[(false,eval a X.env)]:=by rfl) :
  PI X (.Tuple elts x1 nU) (.Call (.Name "enumerate" p) [a] [] pos) (lI (mR ta)) :=
 tY (RA hg hm ha hs) λσ H Q ⟨B,F,δ,ts,Qd,c,q,k⟩=>⟨B,F,δ,ts,_,c,q,λds aj vs F1 H1 hd f1 h1 c1 s=>by
  match ds,hd,s with
  | [d1],⟨xs,i1,hq⟩,s =>
   obtain⟨v1,bS,rfl,s1,s2⟩:=s.bZ
   cases s2
   have e2:=c1.ext
   have sn:=qK e2
   obtain⟨p1,w1,rfl,r1,t1,u1⟩:=AH s1 e2 i1
   refine⟨p1,rfl,⟨w1,.inl r1⟩,k _ _ aj _ _ H1 hq (f1.trans sn) h1 c1.snap ?_ λz=>?_⟩
   ·rw[SY]
    exact Jw r1 t1 (Full.refl _)
   ·obtain⟨a1,a2,a3⟩:=u1 z
    exact⟨S0 a1,Jw (fg a2 sn) (a3.shared sn (ae.refl _)) vX⟩⟩
end
end L3
namespace L3
open PySem L2 PySem.Spec PyProof.Rows
section
variable{X:Cx}{F H:Hp}{e b:Expr}{pos p p2 p3 pr apos bh qS:Pos}{t ti te:aH}{x y:Str}{i j:Nat}
theorem zo{α:Type}{xs:List α}{k:Nat}{v:α}(h:xs[k]?=some v):da xs (k:Int)=some v:=by
 unfold da eR
 have hk:k<xs.length:=(gG.mp h).1
 rw[if_pos (by omega),if_pos (by omega)]
 exact h
theorem Au{B:Bs}{σ:L2.St}{δ:Dl}{ts:List (D × V)}{l1 l2 ys:List D}{p0:Addr}{ws:List V}(c:ag B F H σ δ ts)(e1:δ[i]?=some (some (.lst true (l1++.lst true ys::l2))))(g1:σ[i]?=some (some (.ref p0)))(g2:H p0=some (.lst ws)) :
  ∃q us,ws[l1.length]?=some (.ref q)/\H q=some (.lst us)/\ys.length=us.length/\S F H [.lst true ys] [.ref q]:=by
 obtain⟨v,ev,sv⟩:=c.look e1
 rw[g1]at ev;cases ev
 cases sv with
 | own hh sx _ =>
  rw[g2]at hh;cases hh
  obtain⟨v2,e2,s3⟩:=sx.get (i:=l1.length) (d:=D.lst true ys) (by rw[sH (bH _),Gv];rfl)
  have s4:=s3
  cases s3 with
  | own h3 s5 _=>exact⟨_,_,e2,h3,s5.length,s4⟩
end
section
variable{X:Cx}{CX:di}{k:Nat}{f:Addr}{fd:FuncData}{ps:List Str}{sp:bB}{E:XK}{fn x1 x2 y1 y2:Str}{i1 i2 j1 j2:Nat}{tk:Nat}
 {tp t1 t2 zp cx0 q1 q2 fp cx1 a1 a2 cx2 cx3 cx4 cp qS pr apos bh cx5 pos:Pos}
end
end L3
namespace L3
open PySem L2 PySem.Spec PyProof.Rows
theorem ag.S2{B:Bs}{F H:Hp}{σ:L2.St}{δ:Dl}{ts:List (D × V)}{a b:D}{v:V}(c:ag B F H σ δ ((.tup [a,b],v)::ts)):∃p u w,v=.ref p/\H p=some (.tup [u,w])/\ag B F H σ δ ((a,u)::(b,w)::ts):=by
 obtain⟨A,C,r,s,nd,fr⟩:=c.own
 cases r with
 | @tup p ws xs A1 _ _ B1 hp r1 r2 =>
  obtain⟨u,dP,A2,A3,rfl,rfl,h1,h2⟩:=r1.bZ
  obtain⟨w,cx6,A4,A5,rfl,rfl,h3,h4⟩:=h2.bZ
  cases h4
  refine⟨p,u,w,rfl,hp,c.ext,c.b1,c.b2,c.b3,A2++(A4++B1),C,h1.cons (h3.cons r2),s,?_,?_⟩
  ·simpa using nd
  ·intro a ha;exact fr a (by simpa using ha)
section
variable{X:Cx}{y1 y2:Str}{i1 i2 tk m:Nat}{t1 t2 tp:Pos}
noncomputable def gX(i1 i2:Nat):eY:=λd δ Q=>match d with
 | .tup [a,b]=>Q ((δ.set i1 (some a)).set i2 (some b))
 | _=>False
theorem uj(hc:X.calm=true)(wz:X.N.Nodup)(m1:X.N[i1]?=some y1)(l1:Loc X.env.scope y1)(m2:X.N[i2]?=some y2)(l2:Loc X.env.scope y2)(hm1:m<=i1:=by decide)(Jc:m<=i2:=by decide)
  (f1:X.fn y1=true\/X.env.scope.names.lookup y1=some .local:=by first | exact .inl rfl | exact .inr rfl | assumption) (f2:X.fn y2=true\/X.env.scope.names.lookup y2=some .local:=by first | exact .inl rfl | exact .inr rfl | assumption)
  (S3:(assignEach [.Name y1 t1,.Name y2 t2] X.env).map (·.2)=assign (.Name y1 t1) X.env::(assignEach [.Name y2 t2] X.env).map (·.2):=by rfl) (S4:(assignEach [.Name y2 t2] X.env).map (·.2)=assign (.Name y2 t2) X.env::(assignEach [] X.env).map (·.2):=by rfl)
  (hn:(assignEach [.Name y1 t1,.Name y2 t2] X.env).length=2:=by rfl) (cw:(assignEach [.Name y1 t1,.Name y2 t2] X.env).findIdx? (·.1)=none:=by rfl) :
  PG X (.Tuple [.Name y1 t1,.Name y2 t2] tk tp) (lG m (gX i1 i2)) :=
 IC (Oy hc (GR (s9 wz m1 l1 f1) (GR (s9 wz m2 l2 f2) Ow S4) S3) hn cw) λv σ H Q zz=>by
  obtain⟨B,F,δ,ts,d,Qd,c,q,k⟩:=zz
  obtain⟨a,b,rfl,q⟩:∃a b,d=D.tup [a,b]/\Qd ((δ.set i1 (some a)).set i2 (some b)):=by
   unfold gX at q
   split at q
   ·exact⟨_,_,rfl,q⟩
   ·exact q.elim
  obtain⟨p,u,w,rfl,hp,c2⟩:=c.S2
  refine⟨p,[u,w],rfl,eD.of hp,rfl,u,[w],rfl,w,[],rfl,rfl,k _ _ q (by simp) (λj hj=>?_) ((c2.store i1).store i2)⟩
  rw[nr (by omega),nr (by omega)]
end
open Classical in
theorem df{α:Type}{sh:Bool}{xs:List D}{aq:List (Str × Nat)}{n m:Nat}{te:aH}{aj:Dl}{Q:D->Dl->Prop}(l:List α)(e g:α->D)(j9:xs.map D.sh=l.map e)(inj:∀a b,e a=e b->a=b)
  (hx:∀a∈l,te ((ek aq n aj).set m (some (e a))) λd _=>d=g a) (dr:(sh&&aq.all (fi aj))=true\/∀a∈l,(g a).fr=true) (hl:l.length<=sizeLine) (hq:Q (.lst true (l.map g)) aj):t8 sh xs aq n (gN m) gR te aj Q:=by
 let f:D->D:=λx=>if h:∃a∈l,e a=x then g h.choose else .ak
 have hf:∀a∈l,f (e a)=g a:=λa ha=>by
  have h:∃b∈l,e b=e a:=⟨a,ha,rfl⟩
  show(if h:∃b∈l,e b=e a then g h.choose else .ak)=g a
  rw[dif_pos h]
  exact congrArg g (inj _ _ h.choose_spec.2)
 refine RW f (λx h=>?_) (dr.imp id λh x hx=>?_) ?_ ?_
 ·rw[j9]at h
  obtain⟨a,ha,rfl⟩:=cZ.mp h
  rw[hf a ha];exact hx a ha
 ·rw[j9]at hx
  obtain⟨a,ha,rfl⟩:=cZ.mp hx
  rw[hf a ha];exact h a ha
 ·have:=congrArg Gf j9
  simp at this
  omega
 ·rw[j9,bQ,show l.map (f ∘ e)=l.map g from sM λa ha=>hf a ha]
  exact hq
end L3
namespace L3
open PySem L2 PySem.Spec PyProof.Rows
end L3
namespace L2
open PySem PySem.Spec PyProof.Rows
section
variable{X:Cx}
end
end L2
namespace L3
open PySem L2 PySem.Spec PyProof.Rows
noncomputable abbrev tx(l:List Nat):D:=.str ⟨l.toArray⟩
section
variable{X:Cx}{F H:Hp}{e:Expr}{es:List Expr}{t:aH}{pos p p2 apos bh:Pos}
noncomputable def Iy:bU:=λx y Q=>match x,y with
 | .str z,.str w=>∃ch,z=⟨#[ch]⟩/\Q (.bl (decide (ch∈w.cps.toList)))
 | _,_=>False
end
end L3
namespace L3
open PySem L2 PySem.Spec PyProof.Rows
noncomputable def ax(l:List Nat):List D:=ay (l.map λ(n:Nat)=>(n:Int))
theorem fj(l:List Nat):(ax l).length=l.length:=by unfold ax;rw[iF,cB]
theorem dU(l:List Nat):ax l=l.map λ(n:Nat)=>D.int (n:Int):=by unfold ax ay;rw[bQ];rfl
theorem wC(l:List Nat):(ax l).map D.sh=l.map λ(n:Nat)=>D.int (n:Int):=by unfold ax;rw[fP];exact dU l
theorem ka(a b:Nat)(h:D.int (a:Int)=D.int (b:Int)):a=b:=by injection h with h;omega
theorem kb(l:List Nat):(ax l).all D.pl=true:=j5 _
theorem ke(l:List Nat):(ax l).map D.sh=ax l:=fP _
end L3
namespace L2
open PySem PySem.Spec PyProof.Rows
section
variable{X:Cx}{tg l o e:Expr}{tl to te:TE}{apos bh:Pos}
end
end L2
namespace L3
open PySem L2 PySem.Spec PyProof.Rows
section
variable{X:Cx}{F H:Hp}{tg l e:Expr}{te t tb:aH}{apos bh pos:Pos}
variable{o:Expr}
noncomputable def AE:bU:=λx y Q=>match x,y with
 | .int i,.lst _ xs=>∃ns:List Int,xs=ay ns/\Q (.bl (decide (i∈ns)))
 | _,_=>False
end
end L3
namespace L3
open PySem L2 PySem.Spec PyProof.Rows
end L3
namespace L2
open PySem PySem.Spec PyProof.Rows
noncomputable def Tb(ts:List Addr)(H:Hp):Prop:=∀P∈ts,∃ps,H P=some (.cq ps)
structure qU(ts:List Addr)(H:Hp):Prop where
 any:∀b,H b=none\/(∃o xs,H b=some (.bK o (.lst xs)))\/(b∈ts/\H b=some (.cq #[]))
 tab:∀P∈ts,H P=some (.cq #[])
theorem qU.tb{ts:List Addr}{H:Hp}(h:qU ts H):Tb ts H:=λP hP=>⟨#[],h.tab P hP⟩
noncomputable def Bm(mg:Str->Option Value)(base:Heap):Prop:=∃bm o,mg "__builtins__"=some (.ref bm)/\bm≠builtinsNs/\bm≠mainGlobals/\base.get? bm=some o/\o.cls=.type "module"/\o.dict=some builtinsNs/\o.data=.plain
theorem S5{P:Program}{w:World}{K:PySem.W.Frag}{mg mb:Str->Option Value}{CX:di}{k:Nat}{fa a:Addr}{fd:FuncData}{x:Str}{sp:Sp}{aS:Shared}{vs:List Value}{ns:List Int}{ts:List Addr}
  (KX:K.In aS.heap) (wD:aS.heap.Ns mainGlobals mg) (hb:aS.heap.Ns builtinsNs mb) (S6:∀x:Str,x≠"__name__"->mb x=bootBuiltins x) (S7:aS.heap.NoLimit) (hg:aS.gens=#[])
  (ht:∀P∈ts,aS.heap.get? P=some (PySem.W.tabObj #[])) (AK:∀P∈ts,isCodeTable aS.heap P) (S8:∀P∈ts,K.lookup P=none)
  (ha:aS.heap.get? a=some { cls:=.type "list",data:=.seq vs.toArray }) (hi:IntsAre vs ns) (hl:ns.length<=sizeLine) (hr:bF k callerA)
  (uk:Bm mg aS.heap) (F:∀base:Heap,K.In base->base.Ns mainGlobals mg->Bm mg base->aL P w K mg base CX k fa fd [x] sp) (S9:∀(s:Shared) (u:Value),BindsTo s fd ⟨[u],[]⟩ [(x,u)])
  (gM:∀H:Hp,qU ts H->aM K H a (ns.map V.int)->sp [.ref a] H (λv _=>v=.bl true) λ_ _ _=>False)
  (AL:∀H e s',CX [] H aS (λ_ _ _=>False) e s'->False) :
  codeAny (model P w) callerA (.call (.ref fa) ⟨[.ref a],[]⟩) (λr s'=>r=.ok (.ret (.bool true))/\OldK aS.heap s'.heap/\s'.os=aS.os/\AllBare s'.gens) aS:=by
 have rv:=Hy hi
 have Ta:=hi.length
 have nat:a ∉ ts:=λz=>by
  have:=ht a z
  rw[ha]at this
  cases this
 have core:∀H:Hp,qU ts H->aM K H a (ns.map V.int)->bR P w H aS.heap->(∀b,H b≠none->b=a\/b∈ts)->(H a≠none->K.lookup a=none) ->
   codeAny (model P w) callerA (.call (.ref fa) ⟨[.ref a],[]⟩) (λr s'=>r=.ok (.ret (.bool true))/\OldK aS.heap s'.heap/\s'.os=aS.os/\AllBare s'.gens) aS:=by
  intro H hO hS av hA hK
  have AM:∀{b:Addr} {o:Obj},aS.heap.get? b=some o->H b=none->(iU aS.heap H).get? b=some o:=λe n=>NQ e n
  have tG:∀{b:Addr} {o:Obj} {es:Array DictEntry} {ep:Nat},aS.heap.get? b=some o->o.data=.dict es ep->H b=none:=λ{b o es ep} e d=>by
   cases q:H b with
   | none=>rfl
   | some u =>
    rcases hA b (by rw[q];simp)with e' | e'
    ·subst e'
     rw[ha]at e;cases e
     have d':Data.seq vs.toArray _=Data.dict es ep:=d
     cases d'
    ·rw[ht b e']at e;cases e
     have d':Data.fields #[]=Data.dict es ep:=d
     cases d'
  have wF:∀{b:Addr} {m:Str->Option Value},aS.heap.Ns b m->(iU aS.heap H).Ns b m:=λ{b m} ⟨o,es,ep,e,d,r⟩=>⟨o,es,ep,AM e (tG e d),d,r⟩
  have Jx:K.In (iU aS.heap H):=λb o e=>AM (KX b o e) (by
   cases q:H b with
   | none=>rfl
   | some u =>
    rcases hA b (by rw[q];simp)with e' | e'
    ·subst e'
     rw[hK (by rw[q];simp)]at e;cases e
    ·rw[S8 b e']at e;cases e)
  have Tc:Bm mg (iU aS.heap H):=by
   obtain⟨bm,o,b1,b2,b3,b4,b5,b6,b7⟩:=uk
   refine⟨bm,o,b1,b2,b3,AM b4 ?_,b5,b6,b7⟩
   cases q:H bm with
   | none=>rfl
   | some u =>
    rcases hA bm (by rw[q];simp)with e' | e'
    ·rw[e',ha]at b4;cases b4
     have d':Data.seq vs.toArray _=Data.plain:=b7
     cases d'
    ·rw[ht bm e']at b4;cases b4
     have d':Data.fields #[]=Data.plain:=b7
     cases d'
  have hM:Mod K mg (iU aS.heap H):=⟨Jx,wF wD,⟨mb,wF hb,S6⟩,let⟨mc,h1,h2⟩:=S7;⟨mc,wF h1,h2⟩⟩
  have e0:eK P w K mg (iU aS.heap H) callerA [] aS H:=⟨rfl,hM,λb o e=>NR e,Ge (NP _ _),trivial,λb hb=>absurd (show b∈([]:List Addr) from hb) (by simp),av,.of_eq hg⟩
  refine codeAny_mono ((F _ Jx (wF wD) Tc).run callerA [] aS H ⟨[.ref a],[]⟩ [.ref a] [.ref a] _ _ hr e0 (S9 aS (.ref a)) (.cons rfl .nil) (gM H hO hS)) λr s' h=>?_
  cases r with
  | error e=>exact(AL H e s' h).elim
  | ok fl =>
   cases fl with
   | next=>exact dA h
   | brk=>exact dA h
   | cont=>exact dA h
   | ret u =>
    obtain⟨v,H',os,bare,un,Jy,r',q⟩:=h
    have q':v=.bl true:=q
    subst q'
    obtain rfl:u=yl true:=r'
    have each:∀b o,aS.heap.get? b=some o->asItWas aS.heap s'.heap b o/\∃o',s'.heap.get? b=some o':=λb o e=>by
     cases q:H b with
     | none =>
      have z:=un.keep b o e q (by intro z;exact absurd (show b∈([]:List Addr) from z) (by simp)) (by simp)
      exact⟨.inl z,o,z⟩
     | some u =>
      rcases hO.any b with z | ⟨ob,xs,z⟩ | ⟨gA,z⟩
      ·rw[q]at z;cases z
      ·have z2:=un.eB b ob _ z
       obtain⟨e1,_⟩:=av b _ z
       obtain⟨e2,_⟩:=Jy b _ z2
       rw[e]at e1;cases e1
       exact⟨.inl e2,_,e2⟩
      ·obtain⟨more,z2⟩:=un.dH b _ z
       have e2:=(Jy b _ z2).1
       rw[ht b gA]at e;cases e
       exact⟨.inr (.inl ⟨AK b gA,rfl,#[],more,rfl,e2⟩),_,e2⟩
    exact⟨rfl,⟨λb o e=>(each b o e).1,λb o e=>(each b o e).2⟩,os,bare⟩
 have tok:∀(H:Hp) (b:Addr),b∈ts->cM P w H aS.heap b (.cq #[]):=λH b hb=>⟨ht b hb,trivial,λpos cv q=>by cases q⟩
 cases hk:K.lookup a with
 | some o =>
  have e:=KX a o hk
  rw[ha]at e
  cases e
  refine core (λb=>if b∈ts then some (.cq #[])else none) ⟨λb=>?_,λb hb=>if_pos hb⟩ (.inr ⟨_,vs.toArray,_,hk,rfl,rfl,rfl,by rw[cW,Ta];exact hl,by simpa using rv⟩) (λb u z=>?_) (λb z=>?_) λz=>absurd (if_neg nat) z
  ·by_cases hb:b∈ts
   ·exact .inr (.inr ⟨hb,if_pos hb⟩)
   ·exact .inl (if_neg hb)
  ·by_cases hb:b∈ts
   ·have z':=(if_pos hb).symm.trans z
    cases z'
    exact tok _ b hb
   ·have z':=(if_neg hb).symm.trans z
    cases z'
  ·by_cases hb:b∈ts
   ·exact .inr hb
   ·exact absurd (if_neg hb) z
 | none =>
  refine core (λb=>if b=a then some (.bK { cls:=.type "list",data:=.seq vs.toArray } (.lst (ns.map V.int)))else if b∈ts then some (.cq #[])else none) ⟨λb=>?_,λb hb=>?_⟩ (.inl (.inr ⟨{ cls:=.type "list",data:=.seq vs.toArray },if_pos rfl⟩)) (λb u z=>?_) (λb z=>?_) λ_=>hk
  ·by_cases hb:b=a
   ·exact .inr (.inl ⟨_,_,if_pos hb⟩)
   ·by_cases gA:b∈ts
    ·exact .inr (.inr ⟨gA,(if_neg hb).trans (if_pos gA)⟩)
    ·exact .inl ((if_neg hb).trans (if_neg gA))
  ·have oh:b≠a:=λz=>nat (z ▸ hb)
   exact(if_neg oh).trans (if_pos hb)
  ·by_cases hb:b=a
   ·have z':=(if_pos hb).symm.trans z
    cases z'
    subst hb
    exact⟨ha,by rw[cB];exact hl,vs,_,rv,ha⟩
   ·by_cases gA:b∈ts
    ·have z':=((if_neg hb).trans (if_pos gA)).symm.trans z
     cases z'
     exact tok _ b gA
    ·have z':=((if_neg hb).trans (if_neg gA)).symm.trans z
     cases z'
  ·by_cases hb:b=a
   ·exact .inl hb
   ·by_cases gA:b∈ts
    ·exact .inr gA
    ·exact absurd ((if_neg hb).trans (if_neg gA)) z
theorem Td{l:PySem.W.OpenLaw}{n k:Nat}{q:Program}{loose:List Str}{XP:(Str->Option Value)->Heap->Prop}{YP:World->Heap->Prop}{d:DefRec}{K:Params->PySem.W.Frag}{CX:World->di}{sp:World->Sp}{x:Str}{ts:List Addr}
  (hn:l.most=some n) (vO:n<=sizeLine) (tK:d.params.defaults=[]) (hr:bF k callerA)
  (hY:∀(w:World) (h:Heap),YP w h->(K w.params).In h/\∀P∈ts,h.get? P=some (PySem.W.tabObj #[]))
  (hC:∀(w:World) (h:Heap),(K w.params).In h->∀P∈ts,(K w.params).lookup P=none/\∃c,PySem.W.CodeHd h c P)
  (F:∀(w:World) (mg:Str->Option Value) (fa:Addr) (h:Heap),(K w.params).In h->h.Ns mainGlobals mg->mg d.name=some (.ref fa) ->
   ∃fd:FuncData,(∀(s:Shared) (u:Value),BindsTo s fd ⟨[u],[]⟩ [(x,u)]) /\
    ∀base:Heap,(K w.params).In base->base.Ns mainGlobals mg->Bm mg base->aL l.prog w (K w.params) mg base (CX w) k fa fd [x] (sp w))
  (gM:∀(w:World) (H:Hp) (a:Addr) (ns:List Int),ns.length<=n->qU ts H->aM (K w.params) H a (ns.map V.int)->sp w [.ref a] H (λv _=>v=.bl true) λ_ _ _=>False)
  (AL:∀(w:World) (H:Hp) (s:Shared) (e:Value) (s':Shared),CX w [] H s (λ_ _ _=>False) e s'->False) :
  PySem.W.WalkO q loose XP YP l.row.toRowW d [] (λf vs=>PySem.call f vs):=by
 refine Att.Ql hn tK λw bL aS mg mb fa o pm cd doc a vs ns G Y ho hd bI tL zy hints hlen hg=>?_
 obtain⟨KX,hT⟩:=hY w _ Y
 obtain⟨fd,hb,hF⟩:=F w mg fa _ KX G.T.g tL
 have AK:∀P∈ts,isCodeTable aS.heap P:=λP hP=>by
  obtain⟨_,c,C⟩:=hC w _ KX P hP
  exact(C.tab (hT P hP)).isCodeTable
 have uk:Bm mg aS.heap:=by
  obtain⟨bm,ob,b1,b2,b3,b4,b5,b6⟩:=G.T.bmain
  refine⟨bm,ob,b1,b2,λq=>?_,b3,b4,b5,b6⟩
  obtain⟨o,es,ep,e,hd,_⟩:=G.T.g
  rw[q,e]at b3;cases b3;rw[hd]at b6;cases b6
 exact S5 KX G.T.g G.T.b G.T.builtins G.T.nolimit hg hT AK (λP hP=>(hC w _ KX P hP).1) zy hints (dW hlen vO) hr uk hF hb (λH hO hS=>gM w H a ns hlen hO hS) λH e s'=>AL w H aS e s'
end L2
namespace L3
open PySem L2 PySem.Spec PyProof.Rows
noncomputable def um(ts:List Addr)(sp:Sp):Sp:=λvs H Q E=>Tb ts H/\sp vs H Q E
theorem Jz{X:Cx}{pins:List (Addr × Obj)}{σ:L2.St}{H:Hp}{s:Shared}{ts:List Addr}(I:Inv X pins σ H s)(h:Tb ts X.ie):Tb ts H:=λP hP=>by
 obtain⟨ps,e⟩:=h P hP
 obtain⟨m,e2⟩:=I.base.dH P ps e
 exact⟨_,e2⟩
noncomputable def wH(ts:List Addr)(K:PySem.W.Frag):Sp:=λvs H Q _=>∃(a:Addr) (ns:List Int),vs=[.ref a]/\qU ts H/\aM K H a (ns.map V.int)/\ns.length<=63/\∀H',Q (.bl true) H'
theorem Te{ts:List Addr}{K:PySem.W.Frag}(nl:K.all (λp=>Aq p.2)=true){vs:List V}{H:Hp}{Q:VK}{E:XK}(h:wH ts K vs H Q E):um ts (bD Je) vs H Q E:=by
 obtain⟨a,ns,rfl,hO,hS,hl,q⟩:=h
 have hz:∃o,H a=some (.bK o (.lst (ns.map V.int))):=by
  rcases hS with (hS | hS) | ⟨o,its,n,hk,hc,_⟩
  ·rcases hO.any a with z | ⟨o,xs,z⟩ | ⟨_,z⟩
   ·rw[hS]at z;cases z
   ·rw[hS]at z;cases z
   ·rw[hS]at z;cases z
  ·exact hS
  ·have hm:=So hk
   have:=cQ.mp nl _ hm
   simp[Aq,hc]at this
 obtain⟨o,ho⟩:=hz
 refine⟨hO.tb,H,[.fz (ay ns)],λd=>d=.bl true,ae.refl _,.fz ho (iE ns) .nil,⟨ns,rfl,hl,rfl⟩,λd v F' H' A hd hs hf he h3 r nd fr=>?_⟩
 subst hd
 cases r
 exact q H'
end L3
namespace L2
open PySem PySem.Spec PyProof.Rows
noncomputable def rem(H:Hp)(f c:Addr):Hp:=λb=>if b=f\/b=c then none else H b
noncomputable def kg(H H':Hp)(f c:Addr):Hp:=λb=>if b=f\/b=c then H b else H' b
section
variable{P:Program}{w:World}{H H':Hp}{h:Heap}{a b f c:Addr}{o:HO}{of oc:Obj}
theorem JA:rem H f c f=none:=if_pos (.inl rfl)
theorem wI:rem H f c c=none:=if_pos (.inr rfl)
theorem e7(h1:b≠f)(h2:b≠c):rem H f c b=H b:=if_neg (by simp[h1,h2])
theorem qV(e:H b=none):rem H f c b=none:=by unfold rem;split;rfl;exact e
theorem JB(e:rem H f c b=some o):b≠f/\b≠c/\H b=some o:=by
 unfold rem at e
 split at e
 ·cases e
 ·rename_i n
  exact⟨λz=>n (.inl z),λz=>n (.inr z),e⟩
theorem mS(h1:b≠f)(h2:b≠c):kg H H' f c b=H' b:=if_neg (by simp[h1,h2])
theorem JC:kg H H' f c f=H f:=if_pos (.inl rfl)
theorem AN:kg H H' f c c=H c:=if_pos (.inr rfl)
theorem cM.rem{φ:Heap->Prop}(x:cM P w H h a o)(ha:a≠f)(hf:H f=some (.ext φ))(hc:H c=some (.own f)\/H c=none)(AO:¬ ∀h',φ h'->∃q,h'.CodeRec (.ref f) q):cM P w (rem H f c) h a o:=by
 have own:∀b,H b=some (.own a)->L2.rem H f c b=some (.own a):=λb e=>by
  rw[e7 (λz=>by subst z;rw[hf]at e;cases e) (λz=>by subst z;rcases hc with hc | hc<;>(rw[hc]at e;cases e);exact ha rfl)];exact e
 have tup:∀b xs,H b=some (.tup xs)->L2.rem H f c b=some (.tup xs):=λb xs e=>by
  rw[e7 (λz=>by subst z;rw[hf]at e;cases e) (λz=>by subst z;rcases hc with hc | hc<;>(rw[hc]at e;cases e))];exact e
 induction o with
 | lst xs=>exact x
 | tup xs=>exact x
 | dK cC=>exact x
 | dT cC =>
  obtain⟨z,y,xs,r,ob⟩:=x
  exact⟨z,y,xs,Paired.yK r λp q z=>⟨z.1,tup _ _ z.2.1,z.2.2⟩,ob⟩
 | set S n=>exact x
 | ins C dx fs =>
  obtain⟨d,r⟩:=x
  exact⟨own _ d,r⟩
 | own y=>exact x
 | xd fs=>exact x
 | sS lo hi=>exact x
 | bK ob u ih=>obtain⟨e,q⟩:=x;exact⟨e,ih q⟩
 | cq ps =>
  obtain⟨e,t,cc⟩:=x
  refine⟨e,t,λpos cv q=>?_⟩
  obtain⟨d,φ,e1,e2,e3⟩:=cc pos cv q
  refine⟨d,φ,e1,?_,e3⟩
  rw[e7 (λz=>?_) (λz=>by subst z;rcases hc with hc | hc<;>(rw[hc]at e2;cases e2))]
  ·exact e2
  ·subst z
   rw[hf]at e2;cases e2
   exact AO e3
 | met f y=>exact x
 | ext φ=>obtain⟨p,r,st⟩:=x;exact⟨p,r,λh1 h2 p1 kk=>st h1 h2 p1 λb o hb q=>kk b o (hb.imp id (own b)) q⟩
theorem JE{φ:Heap->Prop}{fd:FuncData}(p:φ h)(g:∀h',φ h'->h'.get? f=some of)(hd:of.data=.func fd):¬ ∀h',φ h'->∃q,h'.CodeRec (.ref f) q:=λz=>by
 obtain⟨q,k,ok,vs,t,q1,q2,q3,_⟩:=z h p
 cases q1
 rw[g h p]at q2;cases q2
 rw[hd]at q3;cases q3
theorem bR.lam(ok:bR P w H h)(hf:H f=some (.ext (L3.gq of oc c f))):L3.gq of oc c f h:=(ok f _ hf).1
theorem bR.rem{fd:FuncData}(ok:bR P w H h)(hf:H f=some (.ext (L3.gq of oc c f)))(hc:H c=some (.own f))(hd:of.data=.func fd):bR P w (rem H f c) h:=λb o e =>
 let⟨h1,_,h3⟩:=JB e;(ok b o h3).rem h1 hf (.inl hc) (JE (ok.lam hf) (λ_ p=>p.1) hd)
end
theorem eK.rem{P:Program}{w:World}{K:PySem.W.Frag}{mg:Str->Option Value}{base:Heap}{A:Around}{outer:List Env}{s:Shared}{H:Hp}{f c:Addr}{of oc:Obj}{fd:FuncData}(e:eK P w K mg base A outer s H)
  (hf:H f=some (.ext (L3.gq of oc c f))) (hc:H c=some (.own f)) (hd:of.data=.func fd):eK P w K mg base A outer s (rem H f c) :=
 ⟨e.frames,e.mod,λb o q=>⟨(e.bs b o q).1,qV (e.bs b o q).2⟩,e.fx,e.eC,λb hb=>qV (e.fY b hb),e.av.rem hf hc hd,e.bare⟩
theorem CE.add{P:Program}{w:World}{K:PySem.W.Frag}{mg:Str->Option Value}{base:Heap}{A:Around}{outer:List Env}{s s':Shared}{H:Hp}{f c:Addr}{of oc:Obj}{Q Q':VK}{u:Value}(e0:eK P w K mg base A outer s H)
  (hf:H f=some (.ext (L3.gq of oc c f))) (hc:H c=some (.own f)) (h:CE outer P w (rem H f c) s Q u s') (hQ:∀v H',Q v H'->H' f=none->H' c=none->Q' v (kg H H' f c)):CE outer P w H s Q' u s':=by
 obtain⟨v,H',os,bare,un,av,r,q⟩:=h
 obtain⟨gf,gc⟩:=e0.av.lam hf
 have JF:∀{b o},H b=some o->b ∉ cE outer:=λ{b o} e z=>by rw[e0.fY b z]at e;cases e
 have nf:H' f=none:=un.free f _ gf JA (by simp)
 have nc:H' c=none:=un.free c _ gc wI (by simp)
 have kf:=un.keep f _ gf JA (JF hf) (by simp)
 have kc:=un.keep c _ gc wI (JF hc) (by simp)
 refine⟨v,kg H H' f c,os,bare,⟨λb o e n=>un.keep b o e (qV n),λb o e n=>un.slot b o e (qV n),λb o e n x=>?_,un.there,λb xs e=>?_,λb ob xs e=>?_,λb ps e=>?_⟩,λb o e=>?_,r,hQ v H' q nf nc⟩
 ·rw[mS (λz=>by subst z;rw[hf]at n;cases n) (λz=>by subst z;rw[hc]at n;cases n)]
  exact un.free b o e (qV n) x
 ·have n1:b≠f:=λz=>by subst z;rw[hf]at e;cases e
  have n2:b≠c:=λz=>by subst z;rw[hc]at e;cases e
  rw[mS n1 n2]
  exact un.eI b xs (by rw[e7 n1 n2];exact e)
 ·have n1:b≠f:=λz=>by subst z;rw[hf]at e;cases e
  have n2:b≠c:=λz=>by subst z;rw[hc]at e;cases e
  rw[mS n1 n2]
  exact un.eB b ob xs (by rw[e7 n1 n2];exact e)
 ·have n1:b≠f:=λz=>by subst z;rw[hf]at e;cases e
  have n2:b≠c:=λz=>by subst z;rw[hc]at e;cases e
  rw[mS n1 n2]
  exact un.dH b ps (by rw[e7 n1 n2];exact e)
 ·by_cases z:b=f
  ·subst z
   rw[JC,hf]at e;cases e
   refine⟨⟨kf,kc⟩,⟨_,kf⟩,λh1 h2 p kk=>⟨kk b _ (.inl rfl) p.1,kk c _ (.inr ?_) p.2⟩⟩
   rw[AN];exact hc
  ·by_cases z2:b=c
   ·subst z2
    rw[AN,hc]at e;cases e
    exact⟨_,kc⟩
   ·rw[mS z z2]at e
    have up:∀{b' o'},H' b'=some o'->kg H H' f c b'=some o':=λ{b' o'} q=>by
     rw[mS (λz=>by subst z;rw[nf]at q;cases q) (λz=>by subst z;rw[nc]at q;cases q)];exact q
    exact(av b o e).gK (λ_ _ _ q=>q) (λ_ q=>up q) (λ_ _ q=>up q) λ_ _ q=>up q
theorem Tf{prog:Program}{w:World}{A:Around}{R:Result->Shared->Prop}{s:Shared}{a:Addr}{args:Args}{o:Obj}{fd:FuncData}{body:Expr}{q:Str}(Tg:A.depth<recursionLimit)
  (ho:s.heap.get? a=some o)
  (sW:o.data=.func fd) (Th:fd.scope.isCoroutine=false) (Ti:fd.scope.isGenerator=false) (fe:fd.body=.expr body) (bI:s.heap.CodeRec fd.code q)
  (h:wpAny (model prog w) A.in1 (bindArgs fd args) (λbinds aS =>
   wpAny (model prog w) A.in1 (newFunctionEnv fd.scope fd.globals fd.closure binds (q++".<locals>.") (some a) fd.code none fd.builtins)
    (λenv il=>il.heap.NoLimit/\codeAny (model prog w) A (.expr body env) R il) (λe s'=>R (.error e) s') aS) (λe s'=>R (.error e) s') s) :
  codeAny (model prog w) A (.call (.ref a) args) R s:=by
 refine codeAny_of_tree ?_
 show wpAny _ A.in1 (callAny (.ref a) args) _ _ s
 simp only[callAny]
 refine wpAny_bind (wpAny_load ho ?_)
 obtain⟨c,oc,vs,tq,hc,fA,AQ,hq⟩:=bI
 simp only[sW,callFunction,Th,Ti,fe,hc]
 rw[hc]at h
 refine wpAny_bind (m:=field (.ref c) 1) (wpAny_field fA AQ hq (wpAny_bind (wpAny_pure ?_)))
 exact wpAny_bind (wpAny_mono h (λbinds aS wJ=>wpAny_bind (wpAny_mono wJ (λenv il JG=>wpAny_bind (wpAny_enterFrame JG.1 Tg
  (wpAny_pure (And.intro rfl JG.2)))) λ_ _ h'=>h')) λ_ _ h'=>h')
structure JH(p1 p2 x:Str)(sc:Scope):Prop where
 kind:sc.kind=.function
 co:sc.isCoroutine=false
 gen:sc.isGenerator=false
 nd:[p1,p2,x].Nodup
 l1:sc.names.lookup p1=some .local
 l2:sc.names.lookup p2=some .local
 JI:∀y∈sc.names,y.2≠.cell
 only:∀y∈sc.names,y.2=.free->y.1=x
 lx:sc.names.lookup x=some .free
noncomputable def pd(CX:di)(P:Program)(w:World)(K:PySem.W.Frag)(mg:Str->Option Value)(base:Heap)(N:List Str)(qual:Str)(scope:Scope)(f:Addr)(cd:Value)(cl:List (Str × Addr))(A:Around)(outer:List Env)(s:Shared)(H:Hp)(E:XK):Cx where
 prog:=P
 w:=w
 K:=K
 mg:=mg
 base:=base
 A:=A.deeper (PySem.W.envX qual scope s.heap.objs.size f cd cl)
 N:=N
 bL:=s
 ie:=H
 env:=PySem.W.envX qual scope s.heap.objs.size f cd cl
 outer:=outer
 stack:=PySem.W.envX qual scope s.heap.objs.size f cd cl::outer
 ex:=[]
 calm:=true
 fn:=λ_=>false
 pn:=[]
 xe:=λe s'=>wpAny (model P w) (A.deeper (PySem.W.envX qual scope s.heap.objs.size f cd cl)) (leaving (PySem.W.envX qual scope s.heap.objs.size f cd cl) e) (λ_ nW=>CX outer H s E e nW) (λe' nW=>CX outer H s E e' nW) s'
theorem Tj{CX:di}{P:Program}{w:World}{K:PySem.W.Frag}{mg:Str->Option Value}{base:Heap}{p1 p2 x qn q:Str}{params:Arguments}{body:Expr}{scope:Scope}{pm fQ:Value}{f c c':Addr}{k:Nat}{A:Around}{outer:List Env}{s:Shared}{H:Hp}{E:XK}
  {u1 u2 uc:Value} {v1 v2 vc:V} {Q:VK} {t:TE} {args:Args} (S:JH p1 p2 x scope) (e0:eK P w K mg base A outer s H) (hr:bF (k+1) A)
  (hf:s.heap.get? f=some (PySem.W.kla_obj "<lambda>" qn params body scope [(x,c)] pm c' fQ)) (hc:s.heap.IsCell c (some uc)) (rc:RelV vc uc) (hH:H c=none) (bI:s.heap.CodeRec (.ref c') q)
  (hb:bindArgs (PySem.W.kla_fn "<lambda>" qn params body scope [(x,c)] pm (.ref c') fQ) args=pure [(p1,u1),(p2,u2)]) (r1:RelV v1 u1) (r2:RelV v2 u2)
  (ht:PE (pd CX P w K mg base [p1,p2,x] q scope f (.ref c') [(x,c)] A outer s H E) body t) (h:t [some v1,some v2,some vc] H Q) :
  codeAny (model P w) A (.call (.ref f) args) (CR CX outer P w H s Q E) s:=by
 have lim:s.heap.NoLimit:=e0.mod.nolimit.keeps λb o e=>(e0.bs b o e).1
 refine Tf hr.depth hf rfl S.co S.gen rfl bI ?_
 rw[hb]
 have Tn:∀y∈[(p1,u1),(p2,u2)],scope.names.lookup y.1=some .local:=λy hy=>by
  simp at hy
  rcases hy with rfl | rfl
  ·exact S.l1
  ·exact S.l2
 refine wpAny_pure (wpAny_newFunctionEnv S.JI Tn (λwJ wD JJ=>⟨lim.fresh _ JJ,?_⟩) S.kind)
 show codeAny _ _ (.expr body (PySem.W.envX q scope s.heap.objs.size f (.ref c') [(x,c)])) _ _
 have hk:∀b o,s.heap.get? b=some o->wJ.get? b=some o:=λb o e=>JJ.extBut b o (dG (bj e)) (dX _ e)
 have dg:p1≠p2/\p1≠x/\p2≠x:=by have:=S.nd;simp at this;exact⟨this.1.1,this.1.2,this.2⟩
 have look:∀y d,([(x,c)]:List (Str × Addr)).lookup y=some d->y=x/\d=c:=λy d e=>by
  rw[eA]at e
  split at e
  ·rename_i z;exact⟨beq_iff_eq.mp z,(cP e).symm⟩
  ·cases e
 have I:Inv (pd CX P w K mg base [p1,p2,x] q scope f (.ref c') [(x,c)] A outer s H E) [] [some v1,some v2,some vc] H { s with heap:=wJ,toks:=s.toks+[(p1,u1),(p2,u2)].length }:=by
  refine⟨⟨e0.mod,S.kind,rfl,rfl,bH _,λy z d h1 h2=>?_,λy hy=>?_,λy d z _=>absurd z (by simp[pd]),λ_=>hr.hd,Around.frames_deeper e0.frames,.inr ⟨rfl,rfl⟩,λb z=>absurd z (by simp[pd]),e0.bs,e0.fx,λb _ _=>by simp[pd],λb z=>absurd z (by simp[pd]),e0.eC,e0.fY⟩,
   rfl,e0.bare,Un.kept hk,⟨_,wD,λi y v h1 h2 h3=>?_⟩,λy d h=>?_,e0.av.fresh (bH _),λy d h=>?_,λp hp=>absurd (show p∈([]:List (Addr × Obj)) from hp) (by simp),e0.av.kept hk,rfl⟩
  ·exact(look y d h1).1.trans (look z d h2).1.symm
  ·have hy:scope.names.lookup y=some .cell\/scope.names.lookup y=some .free:=hy
   rcases hy with hy | hy
   ·exact absurd rfl (S.JI _ (PySem.mem_of_lookup hy))
   ·obtain rfl:y=x:=S.only _ (PySem.mem_of_lookup hy) rfl
    exact⟨c,by show([(y,c)]:List (Str × Addr)).lookup y=_;rw[eA,beq_self_eq_true]⟩
  ·match i,h1,h2 with
   | 0,h1,h2 =>
    cases h1;cases h2
    exact⟨u1,r1,.inl ⟨S.l1,by
     show([(p1,u1),(p2,u2)]:List (Str × Value)).reverse.lookup p1=_
     simp[eA,beq_eq_false_iff_ne.mpr dg.1]⟩⟩
   | 1,h1,h2 =>
    cases h1;cases h2
    exact⟨u2,r2,.inl ⟨S.l2,by
     show([(p1,u1),(p2,u2)]:List (Str × Value)).reverse.lookup p2=_
     simp[eA]⟩⟩
   | 2,h1,h2 =>
    cases h1;cases h2
    exact⟨uc,rc,.inr ⟨.inr S.lx,c,by show([(x,c)]:List (Str × Addr)).lookup x=_;rw[eA,beq_self_eq_true],hc.keeps hk⟩⟩
   | n+3,h1,h2=>cases h2
  ·obtain⟨rfl,rfl⟩:=look y d h
   exact⟨_,hc.keeps hk⟩
  ·obtain⟨rfl,rfl⟩:=look y d h
   exact hH
 refine PySem.W.kla_codeExpr (wpAny_mono (ht [] _ _ H _ I h) (λu s' hs=>?_) λe s' hs=>hs)
 obtain⟨v,H',J,rv,q⟩:=hs
 exact⟨v,H',J.os,J.bare,J.base,J.av,rv,q⟩
end L2
namespace L3
open PySem L2 PySem.Spec PyProof.Rows
theorem ae.kg{H H':Hp}{f c:Addr}{o1 o2:HO}(h:ae (rem H f c) H')(h1:H f=some o1)(n1:eV o1=true)(h2:H c=some o2)(n2:eV o2=true):ae H (kg H H' f c) where
 get b o e n:=by
  by_cases z:b=f
  ·rw[z,JC,<- z];exact e
  ·by_cases z2:b=c
   ·rw[z2,AN,<- z2];exact e
   ·rw[mS z z2];exact h.get b o (by rw[e7 z z2];exact e) n
 tb b ps e:=by
  have z:b≠f:=λz=>by subst z;rw[h1]at e;cases e;cases n1
  have z2:b≠c:=λz=>by subst z;rw[h2]at e;cases e;cases n2
  rw[mS z z2]
  exact h.tb b ps (by rw[e7 z z2];exact e)
noncomputable abbrev qW:=Int->Int->(Int->Prop)->Prop
structure uo(P:Program)(w:World)(K:PySem.W.Frag)(mg:Str->Option Value)(base:Heap)(n:Nat)(of oc:Obj)(c k:Addr)(sp:qW):Prop where
 fn:∃o1 od fd sl,of=⟨o1,od,.func fd,sl⟩
 run:∀(A:Around) (outer:List Env) (s:Shared) (H:Hp) (f:Addr) (t u:Tok) (i j:Int) (Qd:Int->Prop),bF n A->eK P w K mg base A outer s H->s.heap.get? f=some of->s.heap.get? c=some oc->H c=none->(∃q,s.heap.CodeRec (.ref k) q)->sp i j Qd ->
  codeAny (model P w) A (.call (.ref f) ⟨[.int i t,.int j u],[]⟩) (CR aT outer P w H s (λv H'=>∃r,v=.int r/\Qd r/\ae H H') (λ_ _ _=>False)) s
noncomputable def mT(L:Obj->Obj->Addr->Addr->qW->Prop)(i:Nat)(ta:bX):aH:=λδ Q=>∃of oc c k sp,δ[i]?=some (some (.aQ (.lam of oc c k)))/\L of oc c k sp/\ta δ λds af=>∃a b,ds=[.int a,.int b]/\sp a b λr=>Q (.int r) af
theorem JK{X:Cx}{n i:Nat}{x:Str}{p pos:Pos}{e1 e2:Expr}{ta:bX}(hN:X.N[i]?=some x)(hv:fX X.env.scope x)(hr:bF n X.A)(ha:PA X [e1,e2] (lA ta))
  (hd:(x==("__debug__":Str))=false:=by decide) (bI:(x==("__classdict__":Str))=false:=by decide) (he:starEach [e1,e2] X.env=(false,eval e1 X.env)::starEach [e2] X.env:=by rfl) (bG:(backTo pos (starEach [e2] X.env)).any (·.1)=false:=by rfl) :
  PE X (.Call (.Name x p) [e1,e2] [] pos) (lE (mT (uo X.prog X.w X.K X.mg X.base n) i ta)):=by
 intro pins s σ H Q I zz
 obtain⟨B,F,δ,ts,Qd,c,⟨of,oc,cc,k,sp,ed,L,q⟩,kk⟩:=zz
 obtain⟨v,ev,sv⟩:=c.look ed
 obtain⟨f,rfl,lam⟩:∃f,v=.ref f/\ff H f of oc cc k:=by
  cases sv with
  | aQ h _=>exact⟨_,rfl,h⟩
 refine wpAny_Call_Name_kw (aG (iW hN hv hd bI pins s σ H (λv' H'=>v'=.ref f/\H'=H) I ⟨_,ev,rfl,rfl⟩) λu s1 zz=>?_)
 obtain⟨v',H',I1,r1,e1,e2⟩:=zz
 subst e1 e2
 obtain rfl:u=.ref f:=r1
 have fnAt:∀{H1:Hp} {s2:Shared},Inv X pins σ H1 s2->ff H1 f of oc cc k->PySem.W.FnAt f s2.heap:=λ{H1 s2} J l=>by
  obtain⟨o1,od,fd,sl,e⟩:=L.fn
  exact⟨o1,od,fd,sl,by rw[<-e];exact(J.av.lam l.fn).1⟩
 refine PySem.W.callWith_F (fnAt I1 lam) (aG (ha pos pins s1 σ H' (λvs H2=>∃a b af F',vs=[.int a,.int b]/\(sp a b λr=>Qd (.int r) af)/\ae F F'/\ae H' H2/\ag B F' H2 σ af ts) I1
  ⟨B,F,δ,ts,_,c,q,λds af vs F' H2 ⟨a,b,To,q2⟩ f1 h1 c1 s1=>?_⟩) λus s2 ⟨vs,H2,I2,r2,a,b,af,F',Tp,q2,f1,h1,c1⟩=>⟨fnAt I2 ((show lz H' f (.lam of oc cc k) from lam).mono λa o e _ t=>h1.get a o e t),?_⟩) he bG
 ·subst To
  refine⟨a,b,af,F',?_,q2,f1,h1,c1⟩
  cases s1 with
  | int s1=>cases s1 with
   | int s1=>cases s1;rfl
 ·subst Tp
  have mU:ff H2 f of oc cc k:=(show lz H' f (.lam of oc cc k) from lam).mono λa o e _ t=>h1.get a o e t
  obtain⟨o1,od,fd,sl,eof⟩:=L.fn
  have Tq:of.data=.func fd:=by rw[eof]
  obtain⟨gf,gc⟩:=I2.av.lam mU.fn
  obtain⟨ψ,Tr,uq⟩:=mU.zT
  obtain⟨u1,u2,t1,t2,rfl⟩:∃(u1 u2:Unit) (t1 t2:Tok),us=[.int a t1,.int b t2]:=by
   cases r2 with
   | cons ra r2=>cases r2 with
    | cons rb r2 =>
     cases r2
     obtain⟨t1,rfl⟩:=ra
     obtain⟨t2,rfl⟩:=rb
     exact⟨(),(),t1,t2,rfl⟩
  refine wpAny_call (codeAny_mono (L.run X.A X.stack s2 (rem H2 f cc) f t1 t2 a b _ hr (I2.tF.rem mU.fn mU.cell Tq) gf gc wI (uq _ (I2.av k _ Tr).1) q2) λr s' hq=>?_)
  cases r with
  | error e=>exact hq.elim
  | ok fl =>
   cases fl with
   | ret u =>
    refine I2.after (CE.add I2.tF mU.fn mU.cell hq (Q':=Q) ?_)
    rintro v H3 ⟨r,rfl,Ts,hs⟩ nf nc
    have sm:=hs.kg mU.fn rfl mU.cell rfl
    exact kk _ af _ F' _ Ts f1 (h1.trans sm) ((c1.grow sm).pushS (.int .nil) rfl)
   | next=>exact dA hq
   | brk=>exact dA hq
   | cont=>exact dA hq
end L3
namespace L2
open PySem PySem.Spec PyProof.Rows
theorem Tt{p:Pos}{c:Value}(l:List Value)(h:TriplesOk l):TriplesOk (l++[rawInt p.line,rawInt p.col,c]):=by
 fun_induction TriplesOk l with
 | case1=>simp[TriplesOk,rawInt]
 | case2 a b d e f cG ih=>exact ih h
 | case3=>exact h.elim
theorem Tu{p q:Pos}{c cv:Value}(l:List Value)(h:TriplesOk l)(e:codeAmong q (l++[rawInt p.line,rawInt p.col,c])=some cv):codeAmong q l=some cv\/cv=c:=by
 fun_induction TriplesOk l with
 | case1 =>
  simp only[jv,rawInt,codeAmong]at e
  split at e
  ·exact .inr (cP e).symm
  ·cases e
 | case2 a b d e' f cG ih =>
  simp only[ib,codeAmong]at e ⊢
  split at e
  ·rename_i z;rw[if_pos z];exact .inl e
  ·rename_i z;rw[if_neg z];exact ih h e
 | case3=>exact h.elim
noncomputable def kh(f:Addr)(o:Obj):Heap->Prop:=λh=>h.get? f=some o
noncomputable def Tv(P c:Addr)(x:Str)(params:Arguments)(body:Expr)(scope:Scope):TE:=λ_ H Q=>(∃ps,H P=some (.cq ps)) /\
 ∀f k qn pm fQ H',H f=none->H' f=some (.ext (kh f (PySem.W.kla_obj "<lambda>" qn params body scope [(x,c)] pm k fQ)))->L3.zS H' k->k≠f->L3.ae H H'->(∀a ws,H' a=some (.lst ws)->H a=some (.lst ws))->Q (.ref f) H'
theorem JL{X:Cx}{P c cc:Addr}{x:Str}{params:Arguments}{body:Expr}{scope:Scope}{pos:Pos}(dw:closureFor scope X.env=pure [(x,c)])(wK:X.env.code=.ref cc)(hK:PySem.W.codeHdIn X.K cc P=true)(uk:Bm X.mg X.base)
  (Tw:defaultsOf params X.env=([],[]):=by rfl):PE X (.Lambda params body scope pos) (Tv P c x params body scope):=by
 intro pins s σ H Q I zz
 obtain⟨⟨ps,hP⟩,q⟩:=zz
 obtain⟨bm,ob,b1,b2,b3,b4,b5,b6,b7⟩:=uk
 have C:=PySem.W.codeHd_of_K I.cu hK
 obtain⟨oP,wL,codes⟩:=I.av P _ hP
 have hg:=I.mod.glob.keeps I.bk
 have JM:∀{b o},X.base.get? b=some o->b≠P:=λ{b o} e z=>by
  have:=(I.bs b o e).2
  rw[z,hP]at this;cases this
 have Tx:mainGlobals≠P:=by
  obtain⟨o,es,ep,e,_⟩:=I.mod.glob
  exact JM e
 have JN:s.heap.BuiltinsAt X.mg P:=⟨bm,ob,b1,b2,b3,JM b4,I.bk _ _ b4,b5,b6,b7⟩
 refine PySem.W.kla_eval Tw ?_
 have fresh:∀{b:Addr},s.heap.objs.size<=b->H b=none:=λ{b} h=>I.av.fresh h
 cases ur:codeAmong pos ps.toList with
 | none =>
  refine PySem.W.kla_makeFunction (mg:=X.mg) dw I.ok.glob hg wK C oP wL ur Tx JN λk fQ h' tk hx uu dD Tz JO=>?_
  have AR:P<s.heap.objs.size:=bj oP
  have TB:k≠P:=λz=>by rw[z]at uu;exact absurd AR (sN.mpr uu)
  have pe:s.heap.objs.size<=h'.objs.size:=dW uu (vk dD)
  have TC:h'.objs.size≠P:=λz=>by rw[<-z]at AR;exact absurd AR (sN.mpr pe)
  have JP:k≠h'.objs.size:=dG dD
  generalize JQ:PySem.W.kla_obj "<lambda>" (X.env.qual++"<lambda>") params body scope [(x,c)] ((X.mg "__name__").getD .none) k fQ=obj
  have dr:obj.isFreed=false:=by rw[<-JQ];rfl
  have uv:∀b,b≠P->b≠k->b≠h'.objs.size->upd (upd (upd H P (.cq (ps++#[rawInt pos.line,rawInt pos.col,.ref k]))) k (.ext λh=>∃q,h.CodeRec (.ref k) q)) h'.objs.size (.ext (kh h'.objs.size obj)) b=H b:=λb n1 n2 n3=>by
   rw[aD n3,aD n2,aD n1]
  have wM:upd (upd (upd H P (.cq (ps++#[rawInt pos.line,rawInt pos.col,.ref k]))) k (.ext λh=>∃q,h.CodeRec (.ref k) q)) h'.objs.size (.ext (kh h'.objs.size obj)) h'.objs.size=some (.ext (kh h'.objs.size obj)):=bw
  have atK:upd (upd (upd H P (.cq (ps++#[rawInt pos.line,rawInt pos.col,.ref k]))) k (.ext λh=>∃q,h.CodeRec (.ref k) q)) h'.objs.size (.ext (kh h'.objs.size obj)) k=some (.ext λh=>∃q,h.CodeRec (.ref k) q):=by rw[aD JP,bw]
  have wN:upd (upd (upd H P (.cq (ps++#[rawInt pos.line,rawInt pos.col,.ref k]))) k (.ext λh=>∃q,h.CodeRec (.ref k) q)) h'.objs.size (.ext (kh h'.objs.size obj)) P=some (.cq (ps++#[rawInt pos.line,rawInt pos.col,.ref k])):=by rw[aD TC.symm,aD TB.symm,bw]
  generalize hHn:upd (upd (upd H P (.cq (ps++#[rawInt pos.line,rawInt pos.col,.ref k]))) k (.ext λh=>∃q,h.CodeRec (.ref k) q)) h'.objs.size (.ext (kh h'.objs.size obj))=Hn at uv wM atK wN
  have old:∀{b o},H b=some o->b≠P->Hn b=some o:=λ{b o} e n=>by
   have hb:b<s.heap.objs.size:=I.av.lt e
   rw[uv b n (λz=>absurd hb (sN.mpr (z ▸ uu))) (λz=>absurd hb (sN.mpr (z ▸ pe)))];exact e
  have kept:∀b o,b≠P->s.heap.get? b=some o->(h'.push obj).get? b=some o:=λb o n e=>dX _ (hx b o n e)
  have un:Un X.fs [] H Hn s.heap (h'.push obj):=by
   refine⟨λb o e n _ _=>kept b o (λz=>by rw[z,hP]at n;cases n) e,λb o e n _ _=>⟨o.slots,kept b o (λz=>by rw[z,hP]at n;cases n) e⟩,λb o e n _=>?_,λb o e _=>?_,λb xs e=>old e (λz=>by rw[z,hP]at e;cases e),λb ob xs e=>old e (λz=>by rw[z,hP]at e;cases e),λb JR e=>?_⟩
   ·have hb:=bj e
    rw[uv b (λz=>by rw[z,hP]at n;cases n) (λz=>absurd hb (sN.mpr (z ▸ uu))) (λz=>absurd hb (sN.mpr (z ▸ pe)))];exact n
   ·by_cases z:b=P
    ·rw[z];exact⟨_,dX _ JO⟩
    ·exact⟨o,kept b o z e⟩
   ·by_cases z:b=P
    ·subst z
     rw[hP]at e;cases e
     exact⟨_,wN⟩
    ·exact⟨#[],by rw[old e z];simp⟩
  have av:bR X.prog X.w Hn (h'.push obj):=λb o e=>by
   by_cases z1:b=h'.objs.size
   ·subst z1
    rw[wM]at e;cases e
    exact⟨fb _ dr,⟨_,fb _ dr⟩,λh1 h2 p kk=>kk _ _ (.inl rfl) p⟩
   ·by_cases z2:b=k
    ·subst z2
     rw[atK]at e;cases e
     have hr:=Tz.push obj
     refine⟨⟨_,hr⟩,?_,λh1 h2 ⟨q,c1,o1,vs,t,e1,e2,r⟩ kk=>?_⟩
     ·obtain⟨c1,o1,vs,t,e1,e2,_⟩:=hr
      cases e1
      exact⟨o1,e2⟩
     ·cases e1
      exact⟨q,_,o1,vs,t,rfl,kk _ _ (.inl rfl) e2,r⟩
    ·by_cases z3:b=P
     ·subst z3
      rw[wN]at e;cases e
      refine⟨dX _ JO,by rw[NF];exact Tt _ wL,λp' cv e'=>?_⟩
      rw[NF]at e'
      rcases Tu _ wL e' with e' | e'
      ·obtain⟨d,φ,e1,e2,e3⟩:=codes p' cv e'
       exact⟨d,φ,e1,old e2 (λz=>by rw[z,hP]at e2;cases e2),e3⟩
      ·exact⟨k,_,e',atK,λh' p=>p⟩
     ·rw[uv b z3 z2 z1]at e
      have nP:∀{b' o'},H b'=some o'->(∀ps,o'≠.cq ps)->b'≠P:=λ{b' o'} e n z=>by rw[z,hP]at e;cases e;exact n _ rfl
      refine(I.av b o e).gK (λb' u wO e'=>kept b' u ?_ e') (λb' e'=>old e' (nP e' (λps z=>by cases z))) (λb' xs e'=>old e' (nP e' (λps z=>by cases z))) λb' φ e'=>old e' (nP e' (λps z=>by cases z))
      rcases wO with rfl | wO
      ·exact z3
      ·exact nP wO (λps z=>by cases z)
  refine⟨.ref h'.objs.size,Hn,I.un un av,rfl,q _ k _ _ _ _ (fresh pe) (by rw[JQ];exact wM) ⟨_,atK,λh p=>p⟩ JP ⟨λb o e n=>old e (λz=>by rw[z,hP]at e;cases e;cases n),λb JR e=>?_⟩ λa ws e=>?_⟩
  ·exact un.dH b JR e
  ·by_cases z1:a=h'.objs.size
   ·subst z1;rw[wM]at e;cases e
   ·by_cases z2:a=k
    ·subst z2;rw[atK]at e;cases e
    ·by_cases z3:a=P
     ·subst z3;rw[wN]at e;cases e
     ·rw[uv a z3 z2 z1]at e;exact e
 | some cv =>
  obtain⟨k,φ,rfl,hk,AO⟩:=codes pos cv ur
  refine PySem.W.kla_makeFunctionHit (mg:=X.mg) dw I.ok.glob hg wK C oP wL ur JN λfQ h' tk hx pe=>?_
  have hf:=fresh pe
  refine⟨.ref h'.objs.size,upd H h'.objs.size (.ext (kh h'.objs.size (PySem.W.kla_obj "<lambda>" (X.env.qual++"<lambda>") params body scope [(x,c)] ((X.mg "__name__").getD .none) k fQ))),I.laid (λb u e=>dX _ (hx b u e)) pe ?_,rfl,q _ k (X.env.qual++"<lambda>") ((X.mg "__name__").getD .none) fQ _ hf bw ⟨φ,?_,AO⟩ (dq hk hf) (L3.ae.of λb o e=>?_) λa ws e=>?_⟩
  ·exact⟨fb _ rfl,⟨_,fb _ rfl⟩,λh1 h2 p kk=>kk _ _ (.inl rfl) p⟩
  ·rw[aD (dq hk hf)];exact hk
  ·rw[aD (dq e hf)];exact e
  ·by_cases z:a=h'.objs.size
   ·subst z;rw[bw]at e;cases e
   ·rw[aD z]at e;exact e
end L2
namespace L2
open PySem PySem.Spec PyProof.Rows
structure wQ(K:PySem.W.Frag)(C:Addr)(m:Str)(f:Addr):Prop where
 ga:PySem.W.specialIn K (.ref C) "__getattribute__"=some (some (.builtin "type.__getattribute__"))
 rd:PySem.W.readsIn K C (.type "type")=true
 at_:PySem.W.findCls K (.ref C) (.type "type") m=some (.val (.ref f))
 kp:PySem.W.keepIn K (.ref f)=true
section
variable{X:Cx}{CX:di}{k:Nat}{f C:Addr}{fd:FuncData}{ps:List Str}{sp:Sp}{E:XK}{x m:Str}{p pos apos:Pos}{e o:Expr}{es:List Expr}{ta:TE}{t:TA}
theorem TF{pins:List (Addr × Obj)}{σ:St}{H:Hp}{s:Shared}{pl:Sem Bool}{A:Around}{E':Value->Shared->Prop}{Q:Value × List Value->Shared->Prop}(I:Inv X pins σ H s)(M:wQ X.K C m f)(h:∀s',Inv X pins σ H s'->Q (.ref f,[]) s') :
  wpAny (model X.prog X.w) A (getMethod (.ref C) m pl) Q E' s :=
 PySem.W.method_cls I.cu M.ga (PySem.W.cls_value (mc:=.type "type") I.cu M.rd M.at_ rfl (h _ (I.tok _)))
theorem TH{pins:List (Addr × Obj)}{σ:St}{H:Hp}{s:Shared}{pl:Sem Bool}{Q:Value->Shared->Prop}{QA:List V->Hp->Prop}(I:Inv X pins σ H s)(M:wQ X.K C m f)(hg:Gl X x)(hm:X.mg x=some (.ref C))(ha:PA X (e::es) t)(h:t σ H QA)
  (hq:∀us s1 vs H1,Inv X pins σ H1 s1->Vals vs us->QA vs H1->wpAny (model X.prog X.w) X.A (call (.ref f) us) Q X.xe s1)
  (dj:(x==("__debug__":Str))=false:=by decide) (cw:starEach (e::es) X.env=(false,eval e X.env)::starEach es X.env:=by rfl) (bG:(backTo pos (starEach es X.env)).any (·.1)=false:=by rfl)
  (ht:eval (.Call (.Attribute (.Name x p) m apos) (e::es) [] pos) X.env=(do
   let ov<-eval (.Name x p) X.env
   standAt apos.atName
   let (f,first)<-holding [ov] (getMethod ov m pl)
   callWith pos f first (backTo pos (starEach (e::es) X.env)) (backToKw pos (keywordEach [] X.env))):=by rfl) :
  wpAny (model X.prog X.w) X.A (eval (.Call (.Attribute (.Name x p) m apos) (e::es) [] pos) X.env) Q X.xe s:=by
 refine PySem.W.methodCall_KW (pl:=pl) (vF I hg hm ?_ dj) ht
 refine TF I M λs1 I1=>?_
 refine PySem.W.callWith_K (first:=[]) (h₀:=X.base) I.ok.mod.kR M.kp (aG (ha pos pins s1 σ H _ I1 h) λus s2 ⟨vs,H2,I2,r,q2⟩=>⟨I2.cu,?_⟩) cw bG
 exact hq us s2 vs H2 I2 r q2
noncomputable def TJ(sp:Sp)(E:XK)(c:Addr)(i:Nat)(t:TA):TE:=λσ H Q=>t σ H λvs H1=>∃f of fd v,H1 f=some (.ext (kh f of))/\of.data=.func fd/\σ[i]?=some (some v) /\
 ∀oc u,oc.data=.cell (some u)->RelV v u->H1 c=none->c≠f->sp vs (upd (upd H1 f (.ext (L3.gq of oc c f))) c (.own f)) (λr H2=>H2 f=some (.ext (L3.gq of oc c f))/\H2 c=some (.own f)/\Q r (rem H2 f c)) E
theorem JS{pl:Sem Bool}{y:Str}{c:Addr}{i:Nat}(M:wQ X.K C m f)(F:aL X.prog X.w X.K X.mg X.base aT k f fd ps sp)(hr:bF k X.A)(hb:Binds X.K fd ps [])(hg:Gl X x)(hm:X.mg x=some (.ref C))
  (hN:X.N[i]?=some y) (hy:X.env.scope.names.lookup y=some .cell) (dw:X.env.cells.lookup y=some c) (sZ:X.fn y=true) (ha:PA X (e::es) t)
  (dj:(x==("__debug__":Str))=false:=by decide) (cw:starEach (e::es) X.env=(false,eval e X.env)::starEach es X.env:=by rfl) (bG:(backTo pos (starEach es X.env)).any (·.1)=false:=by rfl)
  (ht:eval (.Call (.Attribute (.Name x p) m apos) (e::es) [] pos) X.env=(do
   let ov<-eval (.Name x p) X.env
   standAt apos.atName
   let (f,first)<-holding [ov] (getMethod ov m pl)
   callWith pos f first (backTo pos (starEach (e::es) X.env)) (backToKw pos (keywordEach [] X.env))):=by rfl) :
  PE X (.Call (.Attribute (.Name x p) m apos) (e::es) [] pos) (TJ sp E c i t):=by
 intro pins s σ H Q I h
 refine TH (pl:=pl) I M hg hm ha h (λus s1 vs H1 I1 r ⟨fa,of,fdd,v,hf,hd,hv,hq⟩=>?_) dj cw bG ht
 obtain⟨ml,_,hl⟩:=I1.loc
 obtain⟨u,rv,lk⟩:=hl i y v hN hv (.inr (.inl hy))
 obtain⟨oc,gc,fA⟩:∃oc,s1.heap.get? c=some oc/\oc.data=.cell (some u):=by
  rcases lk with⟨hk,_⟩ | ⟨_,c',kU,ic⟩
  ·rw[show X.env.kindOf y=some .cell from hy]at hk;cases hk
  ·rw[dw]at kU;cases kU;exact ic
 have nc:H1 c=none:=I1.fy y c dw
 have mV:c≠fa:=λz=>by rw[z,hf]at nc;cases nc
 have gf:s1.heap.get? fa=some of:=(I1.av fa _ hf).1
 have fF:=hq oc u fA rv nc mV
 have JT:=I1.ok.nL y c sZ dw
 generalize hH:upd (upd H1 fa (.ext (L3.gq of oc c fa))) c (.own fa)=Hp at fF
 have JU:Hp c=some (.own fa):=by rw[<-hH,bw]
 have TK:Hp fa=some (.ext (L3.gq of oc c fa)):=by rw[<-hH,aD mV.symm,bw]
 have ji:∀b,b≠fa->b≠c->Hp b=H1 b:=λb n1 n2=>by rw[<-hH,aD n2,aD n1]
 have TL:c ∉ X.fs:=λhb=>by
  obtain⟨_,o,ho,_⟩:=I1.ok.eC.mem hb
  exact absurd (cm (bj ho) JT) (eQ _)
 have TM:∀b∈cE X.stack,b≠c:=λb hb z=>by
  rcases bV.mp (I1.sX b hb)with e | hb
  ·exact I1.kS y c dw (z ▸ e)
  ·exact TL (z ▸ hb)
 have TN:bR X.prog X.w Hp s1.heap:=λb ob q=>by
  by_cases z1:b=c
  ·subst z1;rw[JU]at q;cases q;exact⟨_,gc⟩
  ·by_cases z2:b=fa
   ·subst z2;rw[TK]at q;cases q
    exact⟨⟨gf,gc⟩,⟨_,gf⟩,λh1 h2 p kk=>⟨kk _ _ (.inl rfl) p.1,kk _ _ (.inr JU) p.2⟩⟩
   ·rw[ji b z2 z1]at q
    have x1:=(I1.av b ob q).rem (f:=fa) (c:=c) z2 hf (.inr nc) (JE gf (λ_ p=>p) hd)
    have up:∀{b' o'},rem H1 fa c b'=some o'->Hp b'=some o':=λ{b' o'} q=>by
     obtain⟨n1,n2,q'⟩:=JB q
     rw[ji b' n1 n2];exact q'
    exact x1.gK (λ_ _ _ q=>q) (λ_ q=>up q) (λ_ _ q=>up q) λ_ _ q=>up q
 have e0:eK X.prog X.w X.K X.mg X.base X.A X.stack s1 Hp:=by
  have e1:=I1.tF
  refine⟨e1.frames,e1.mod,λb ob q=>⟨(e1.bs b ob q).1,?_⟩,e1.fx,e1.eC,λb hb=>?_,TN,e1.bare⟩
  ·have TQ:=(I1.ok.bs b ob q).1
   rw[ji b (λz=>by have:=(e1.bs b ob q).2;rw[z,hf]at this;cases this) (λz=>absurd (cm (bj TQ) (z ▸ JT)) (eQ _))]
   exact(e1.bs b ob q).2
  ·have nb:=e1.fY b hb
   rw[ji b (λz=>by rw[z,hf]at nb;cases nb) (TM b hb)];exact nb
 have hlen:us.length=ps.length:=by rw[<-r.length];exact F.len _ _ _ _ fF
 refine wpAny_call (codeAny_mono (F.run X.A X.stack s1 Hp ⟨us,[]⟩ us vs _ E hr e0 (by have:=hb s1 us I1.cu (by rw[kL];exact hlen);rwa [kL]at this) r fF) λrr s' hz=>?_)
 cases rr with
 | error e=>exact hz.elim
 | ok fl =>
  cases fl with
  | next=>exact dA hz
  | brk=>exact dA hz
  | cont=>exact dA hz
  | ret u' =>
   obtain⟨v',H2,os,bare,un,JV,TR,q1,q2,q3⟩:=hz
   obtain⟨_,JW⟩:=JV.lam q1
   refine I1.after ⟨v',rem H2 fa c,os,bare,⟨λb ob g n hb hx=>?_,λb ob g n hb hx=>?_,λb ob g n hx=>?_,un.there,λb xs g=>?_,λb ob xs g=>?_,λb ps g=>?_⟩,JV.rem q1 q2 hd,TR,q3⟩
   ·by_cases z:b=c
    ·rw[z,gc]at g;cases g;rw[z];exact JW
    ·exact un.keep b ob g (by rw[ji b (λz=>by rw[z,hf]at n;cases n) z];exact n) hb hx
   ·by_cases z:b=c
    ·rw[z,gc]at g;cases g;rw[z];exact⟨_,JW⟩
    ·exact un.slot b ob g (by rw[ji b (λz=>by rw[z,hf]at n;cases n) z];exact n) hb hx
   ·by_cases z:b=c
    ·rw[z];exact wI
    ·exact qV (un.free b ob g (by rw[ji b (λz=>by rw[z,hf]at n;cases n) z];exact n) hx)
   ·have n1:b≠fa:=λz=>by rw[z,hf]at g;cases g
    have n2:b≠c:=λz=>by rw[z,nc]at g;cases g
    rw[e7 n1 n2]
    exact un.eI b xs (by rw[ji b n1 n2];exact g)
   ·have n1:b≠fa:=λz=>by rw[z,hf]at g;cases g
    have n2:b≠c:=λz=>by rw[z,nc]at g;cases g
    rw[e7 n1 n2]
    exact un.eB b ob xs (by rw[ji b n1 n2];exact g)
   ·have n1:b≠fa:=λz=>by rw[z,hf]at g;cases g
    have n2:b≠c:=λz=>by rw[z,nc]at g;cases g
    rw[e7 n1 n2]
    exact un.dH b ps (by rw[ji b n1 n2];exact g)
end
end L2
namespace L3
open PySem L2 PySem.Spec PyProof.Rows
theorem AS{ts:List Addr}{H H':Hp}(h:Tb ts H)(s:ae H H'):Tb ts H':=λP hP=>by
 obtain⟨ps,e⟩:=h P hP
 obtain⟨m,e2⟩:=s.tb P ps e
 exact⟨_,e2⟩
theorem JX{P:Program}{w:World}{K:PySem.W.Frag}{mg:Str->Option Value}{base:Heap}{n:Nat}{p1 p2 x qn:Str}{params:Arguments}{body:Expr}{scope:Scope}{pm fQ:Value}{oc:Obj}{c k:Addr}{m:Int}{tm:Tok}{sp:qW}(S:JH p1 p2 x scope)
  (fA:oc.data=.cell (some (.int m tm))) (hb:∀u1 u2:Value,bindArgs (PySem.W.kla_fn "<lambda>" qn params body scope [(x,c)] pm (.ref k) fQ) ⟨[u1,u2],[]⟩=pure [(p1,u1),(p2,u2)])
  (fe:∀(q:Str) (f:Addr) (A:Around) (outer:List Env) (s:Shared) (H:Hp) (E:XK),bF n (A.deeper (PySem.W.envX q scope s.heap.objs.size f (.ref k) [(x,c)])) ->
   ∃t:aH,PE (pd aT P w K mg base [p1,p2,x] q scope f (.ref k) [(x,c)] A outer s H E).dY body (lE t)/\∀i j Qd,sp i j Qd->t [some (.int i),some (.int j),some (.int m)] λd _=>∃r,d=.int r/\Qd r) :
  uo P w K mg base (n+1) (PySem.W.kla_obj "<lambda>" qn params body scope [(x,c)] pm k fQ) oc c k sp where
 fn:=⟨_,_,_,_,rfl⟩
 run A outer s H f t u i j Qd hr e0 gf gc hH bI h:=by
  obtain⟨q,bI⟩:=bI
  obtain⟨tt,ht,hq⟩:=fe q f A outer s H (λ_ _ _=>False) (hr.deeper _)
  refine Tj (v1:=.int i) (v2:=.int j) (vc:=.int m) (E:=λ_ _ _=>False) S e0 hr gf ⟨oc,gc,fA⟩ ⟨tm,rfl⟩ hH bI (hb _ _) ⟨t,rfl⟩ ⟨u,rfl⟩ ht.dY ?_
  refine⟨⟨H,H⟩,H,_,[],_,?_,hq i j Qd h,λd af v F' H' hd f1 h1 c1=>?_⟩
  ·exact ag.start (ds:=[.int i,.int j,.int m]) (vs:=[.int i,.int j,.int m]) (ae.refl H) (.int (.int (.int .nil))) 0
  ·obtain⟨r,rfl,hd⟩:=hd
   have s1:=c1.top
   cases s1
   exact⟨r,rfl,hd,h1⟩
section
variable{X:Cx}{CX:di}{n:Nat}{f:Addr}{fd:FuncData}{ps:List Str}{sp:bB}{E:XK}{x:Str}{p pos:Pos}{e:Expr}{es:List Expr}{t:bX}{tl:List Addr}
theorem TU(hT:Tb tl X.ie)(F:aL X.prog X.w X.K X.mg X.base CX n f fd ps (um tl (bD sp)))(hr:bF n X.A)(hg:Gl X x)(hm:X.mg x=some (.ref f))(hk:PySem.W.keepIn X.K (.ref f)=true)(hb:Binds X.K fd ps [])(hx:iZ CX X E)
  (ha:PA X (e::es) (lA t)) (dj:(x==("__debug__":Str))=false:=by decide) (he:starEach (e::es) X.env=(false,eval e X.env)::starEach es X.env:=by rfl) (bG:(backTo pos (starEach es X.env)).any (·.1)=false:=by rfl) :
  PE X (.Call (.Name x p) (e::es) [] pos) (lE (jM sp t)):=by
 intro pins s σ H Q I zz
 obtain⟨B,F',δ,ts,Qd,c,q,k⟩:=zz
 have tb:=Jz I hT
 refine nV F hr hg hm hk hb .nil hx ha dj he bG pins s σ H Q I ⟨B,F',δ,ts,_,c,q,λds aj vs F1 H1 q1 f1 h1 c1 s1=>?_⟩
 refine⟨AS tb h1,?_⟩
 rw[kL]
 exact z8 c1 s1 q1 λd v F' H' hd hf hs c'=>k d aj v F' H' hd (f1.trans hf) (h1.trans hs) c'
end
section
variable{P:Program}{w:World}{K:PySem.W.Frag}{mg:Str->Option Value}{base:Heap}
theorem JY{x qual:Str}{st:Stmt}{f:Addr}{fd:FuncData}{N ps:List Str}{k:Nat}{sp:bB}{tl:List Addr}(F:bq K x qual st f fd)(S:bx N ps (aw st))(len:∀ds Q,sp ds Q->ds.length=ps.length)
  (fe:∀(aE:Value) (A:Around) (outer:List Env) (s:Shared) (H:Hp) (E:XK),Tb tl H->bF k (A.deeper (envOfC qual (aw st) s.heap.objs.size f aE)) ->
   ∃t:bM,PSs (fG aT P w K mg base N qual (aw st) f aE A outer s H E).dY (aZ st) (lS (fG aT P w K mg base N qual (aw st) f aE A outer s H E).dY t)/\∀ds Q,sp ds Q->t { nx:=λ_=>Q .ak,rt:=Q } (gw N ds)):aL P w K mg base aT (k+1) f fd ps (um tl (bD sp)):=by
 refine F.ok S (λvs H Q E ⟨_,F,ds,Qd,e,r,h,_⟩=>by rw[<-r.length];exact len ds Qd h) λaE A outer s H vs Q E hr zz=>?_
 obtain⟨tb,F,ds,Qd,e,r,h,k⟩:=zz
 obtain⟨t,ht,hq⟩:=fe aE A outer s H E tb hr
 have fin:∀d v af ai F' H',Qd d->ag ⟨H,F⟩ F' H' ai af [(d,v)]->Q v H':=λd v af ai F' H' hd c=>by
  obtain⟨A,C,r',s',nd,fr⟩:=c.own
  exact k d v F' H' A hd c.b1 c.b2 c.ext c.b3 r' (cN.mp nd).1 λa ha=>fr a (eu _ ha)
 have e1:L2.start N vs=vs.map some++aX (N.length-ds.length) none:=by unfold L2.start;rw[r.length]
 refine⟨_,ht,⟨H,F⟩,F,gw N ds,_,?_,hq ds Qd h,λaf ai F' H' hd c=>fin .ak .ak af ai F' H' hd (c.pushS (.ak .nil) rfl),fin,λ_ _ _ _ z=>z.elim,λ_ _ _ _ z=>z.elim,XL.none (λ_ _ z=>z) λ_ _ z=>z⟩
 rw[e1]
 exact ag.start e r _
theorem JZ{x qual:Str}{st:Stmt}{f cc:Addr}{fd:FuncData}{N ps:List Str}{k:Nat}{sp:Sp}(F:bq K x qual st f fd)(wK:fd.code=.ref cc)(S:bx N ps (aw st))(len:∀vs H Q E,sp vs H Q E->vs.length=ps.length)
  (fe:∀(A:Around) (outer:List Env) (s:Shared) (H:Hp) (vs:List V) (Q:VK) (E:XK),bF k (A.deeper (envOfC qual (aw st) s.heap.objs.size f (.ref cc)))->sp vs H Q E ->
   ∃t,PSs (fG aT P w K mg base N qual (aw st) f (.ref cc) A outer s H E).dY (aZ st) t/\t { nx:=λ_ H'=>Q .ak H',rt:=Q } (L2.start N vs) H):aL P w K mg base aT (k+1) f fd ps sp:=by
 obtain⟨oc,od,kV,doc,pm,an,aE,ct,i3,rfl,lk,bI⟩:=F.ex
 obtain rfl:aE=.ref cc:=wK
 refine zl lk bI S len λA outer s H vs Q E hr gM=>?_
 obtain⟨t,h,q⟩:=fe A outer s H vs Q E hr gM
 exact⟨t,h.dY,q⟩
end
end L3
namespace L3
open PySem L2 PySem.Spec PyProof.Rows
theorem TV{ns:List Str}{xs:List D}{ws:List V}{F H:Hp}{f:Str}{d:D}(r:R F H xs ws [])(h:(ns.zip xs).lookup f=some d):∃w,(ns.zip ws).lookup f=some w/\R F H [d] [w] []:=by
 generalize e:([]:List Addr)=A at r
 induction ns generalizing xs ws A with
 | nil=>simp at h
 | cons n ns ih =>
  cases xs with
  | nil=>simp at h
  | cons x xs =>
   obtain⟨v,bS,A1,A2,rfl,rfl,h1,h2⟩:=R.bZ r
   obtain⟨rfl,rfl⟩:=yy.mp e.symm
   rw[NG]at h ⊢
   by_cases z:f=n
   ·subst z
    rw[eA,beq_self_eq_true]at h
    cases h
    refine⟨v,?_,h1⟩
    rw[eA,beq_self_eq_true]
   ·have z':(f==n)=false:=beq_eq_false_iff_ne.mpr z
    rw[eA,z']at h
    obtain⟨w,e1,e2⟩:=ih h [] rfl h2
    refine⟨w,?_,e2⟩
    rw[eA,z']
    exact e1
theorem TX{ns:List Str}{ws:List V}{f:Str}(h:f ∉ ns):(ns.zip ws).lookup f=none:=by
 induction ns generalizing ws with
 | nil=>simp
 | cons n ns ih =>
  cases ws with
  | nil=>simp
  | cons w ws =>
   rw[NG,eA]
   have hn:(f==n)=false:=beq_eq_false_iff_ne.mpr λz=>h (by rw[z];simp)
   simp only[hn]
   exact ih λz=>h (by simp[z])
theorem J0{F H:Hp}{C:Addr}{ns:List Str}{xs:List D}{v:V}(s:S F H [.obj C ns xs] [v]):∃p dx ws,v=.ref p/\H p=some (.ins C dx (ns.zip ws))/\ns.length=ws.length/\R F H xs ws []:=by
 cases s with
 | obj h l r _=>exact⟨_,_,_,rfl,h,l,r⟩
section
variable{X:Cx}{e o:Expr}{es:List Expr}{f m x:Str}{pos p apos:Pos}{t to:aH}{ta:bX}{n:Nat}
noncomputable def ki(K:PySem.W.Frag)(t:aH)(f:Str):aH:=λδ Q=>t δ λd af=>∃C ns xs v,d=.obj C ns xs/\eE K C/\bY K C f/\(ns.zip xs).lookup f=some v/\Q v af
theorem TY(he:PE X e (lB t))(hb:attributeBase e f X.env (eval e X.env)=eval e X.env:=by rfl):PE X (.Attribute e f pos) (lB (ki X.K t f)) :=
 cR (vQ he hb) λσ H Q ⟨B,F,δ,ts,Qd,c,q,k⟩=>⟨B,F,δ,ts,_,c,q,λd af v F' H' ⟨C,ns,xs,w,ed,hc,hn,hl,hq⟩ f1 h1 c1 s1=>by
  subst ed
  obtain⟨p,dx,ws,rfl,hp,_,r⟩:=J0 s1
  obtain⟨u,hu,ru⟩:=TV r hl
  exact⟨p,C,dx,_,u,rfl,hp,hc,hn,hu,k w af u F' H' hq f1 h1 c1 ru.s⟩⟩
structure wR(P:Program)(w:World)(K:PySem.W.Frag)(mg:Str->Option Value)(base:Heap)(n:Nat)(m:Str)(C:Addr)(sp:bB):Prop where
 cls:eE K C
 ex:∃f fd ps,Meth K C m f/\aL P w K mg base aT n f fd ps (bD sp)/\Binds K fd ps []
noncomputable def kj(MO:Addr->bB->Prop)(m:Str)(to:aH)(ta:bX):aH:=λδ Q=>to δ λd aj=>∃C ns xs sp,d=.obj C ns xs/\MO C sp/\m ∉ ns/\ta aj λds aF=>sp ((D.obj C ns xs::ds).map D.sh) λr=>((D.obj C ns xs::ds).all D.pl||r.fr)=true/\Q r aF
theorem TZ{pl:Sem Bool}(ho:PE X o (lB to))(hr:bF n X.A)(ha:PA X (e::es) (lA ta))
  (cw:starEach (e::es) X.env=(false,eval e X.env)::starEach es X.env:=by rfl) (bG:(backTo pos (starEach es X.env)).any (·.1)=false:=by rfl)
  (ht:eval (.Call (.Attribute o m apos) (e::es) [] pos) X.env=(do
   let ov<-eval o X.env
   standAt apos.atName
   let (f,first)<-holding [ov] (getMethod ov m pl)
   callWith pos f first (backTo pos (starEach (e::es) X.env)) (backToKw pos (keywordEach [] X.env))):=by rfl) :
  PE X (.Call (.Attribute o m apos) (e::es) [] pos) (lE (kj (wR X.prog X.w X.K X.mg X.base n m) m to ta)):=by
 intro pins s σ H Q I zz
 obtain⟨B,F,δ,ts,Qd,c,q,k⟩:=zz
 refine PySem.W.methodCall_KW (pl:=pl) (aG (ho pins s σ H (λx H1=>∃d aj F1,S F1 H1 [d] [x]/\ag B F1 H1 σ aj ts/\ae F F1/\ae H H1/\∃C ns xs sp,d=.obj C ns xs/\wR X.prog X.w X.K X.mg X.base n m C sp/\m ∉ ns/\ta aj λds aF=>sp ((D.obj C ns xs::ds).map D.sh) λr=>((D.obj C ns xs::ds).all D.pl||r.fr)=true/\Qd r aF) I
  ⟨B,F,δ,ts,_,c,q,λd aj v F1 H1 hq f1 h1 c1 s1=>⟨d,aj,F1,s1,c1,f1,h1,hq⟩⟩) λu s1 ⟨x,H1,I1,rx,d,aj,F1,sd,c1,f1,h1,C,ns,xs,sp,ed,M,hm,hq⟩=>?_) ht
 subst ed
 obtain⟨a,dx,ws,rfl,ea,hl,r0⟩:=J0 sd
 obtain rfl:u=dF a:=rx
 obtain⟨f,fd,ps,J1,FO,hb⟩:=M.ex
 refine G5 I1 ea M.cls J1 (TX hm) ?_
 refine PySem.W.callWith_K (first:=[.ref a]) (h₀:=X.base) I.ok.mod.kR J1.kp (aG (ha pos pins s1 σ H1 (λvs H2=>∃ds aF F2,S F2 H2 ds vs/\ag B F2 H2 σ aF ts/\ae F1 F2/\ae H1 H2/\sp ((D.obj C ns xs::ds).map D.sh) λr=>((D.obj C ns xs::ds).all D.pl||r.fr)=true/\Qd r aF) I1
  ⟨B,F1,aj,ts,_,c1,hq,λds aF vs F2 H2 hq f2 h2 c2 s2=>⟨ds,aF,F2,s2,c2,f2,h2,hq⟩⟩) λus s2 ⟨vs,H2,I2,r,ds,aF,F2,T1,c2,f2,h2,gM⟩=>⟨I2.cu,?_⟩) cw bG
 refine zk (us:=.ref a::us) (vs:=.ref a::vs) (dN:=[]) FO hr hb .nil aV I2 (.cons rfl r) ?_
 rw[kL]
 exact z8 c2 (.obj (h2 _ _ ea) hl (r0.shared f2 h2) T1) gM λd v F' H' hd hf hs c'=>k d aF v F' H' hd (f1.trans (f2.trans hf)) (h1.trans (h2.trans hs)) c'
end
structure cK(x:Addr)(H H':Hp):Prop where
 get:∀b o,b≠x->H b=some o->eV o=true->H' b=some o
 tb:∀b ps,H b=some (.cq ps)->∃more,H' b=some (.cq (ps++more))
theorem cK.trans{x:Addr}{H H1 H2:Hp}(a:cK x H H1)(b:cK x H1 H2):cK x H H2 :=
 ⟨λc o n h t=>b.get c o n (a.get c o n h t) t,λc ps h=>by
  obtain⟨m1,e1⟩:=a.tb c ps h
  obtain⟨m2,e2⟩:=b.tb c _ e1
  exact⟨m1++m2,by rw[e2,sF]⟩⟩
theorem ae.x{x:Addr}{H H':Hp}(h:ae H H'):cK x H H':=⟨λb o _ e n=>h.get b o e n,h.tb⟩
theorem cK.upd{x C dx:Addr}{H:Hp}{o o':HO}(h:H x=some o)(n:eV o=true):cK x H (upd H x o') :=
 ⟨λb o z e _=>by rw[aD z];exact e,λb ps e=>⟨#[],by rw[aD (λz=>by rw[z,h]at e;cases e;cases n),e];simp⟩⟩
noncomputable def AU(tl:List Addr)(C:Addr)(qX:List D->List Str->List D->Prop):Sp:=λvs H Q _=>∃x dx bS ds ns xs,vs=.ref x::bS/\Tb tl H/\H x=some (.ins C dx [])/\R H H ds bS []/\qX ds ns xs /\
 ∀H' ws A,cK x H H'->H' x=some (.ins C dx (ns.zip ws))->ns.length=ws.length->R (λ_=>none) H' xs ws A->A.Nodup->(∀a∈A,H a=none)->Q .ak H'
noncomputable def mW(C:Addr)(qX:List D->List Str->List D->Prop)(ta:bX):aH:=λδ Q=>ta δ λds af=>∃ns xs,qX (ds.map D.sh) ns xs/\Q (.obj C ns (xs.map D.sh)) af
theorem ag.made{B:Bs}{F H H':Hp}{σ:L2.St}{δ:Dl}{ts:List (D × V)}{C dx x:Addr}{ns:List Str}{xs:List D}{ws:List V}{A:List Addr}(c:ag B F H σ δ ts)(hs:ae H H')(hx:H' x=some (.ins C dx (ns.zip ws)))(hl:ns.length=ws.length)
  (r:R (λ_=>none) H' xs ws A) (fr:∀a∈A,H a=none):ae F (L3.bK F H' A)/\ag B (L3.bK F H' A) H' σ δ ((.obj C ns (xs.map D.sh),.ref x)::ts):=by
 have c1:=c.grow hs
 have hF:∀a∈A,F a=none:=λa ha=>c.ext.free (fr a ha)
 have r1:R F H' xs ws A:=r.keep (ae.of λb o e=>by cases e) (eX.same (ae.refl _)) fK.nil hF (by simp)
 have r2:=r1.bK c1.ext A (λ_ h=>h)
 have fs:ae F (L3.bK F H' A):=qJ c1.ext
 obtain⟨A',C',r',s',nd,fO⟩:=c.own
 have out:∀a,(∃ws,H a=some (.lst ws))/\F a=none->L3.bK F H' A a=none:=λa zz=>by
  obtain⟨⟨ws,h⟩,hf⟩:=zz
  rw[Iu (λz=>by rw[fr a z]at h;cases h)];exact hf
 have g1:=r'.grow fs hs λa ha=>out a (r'.lists a ha)
 have g2:=s'.keep fs (eX.same hs) fK.nil (λa ha=>out a (s'.lists a ha)) (by simp)
 refine⟨fs,RB c1.ext,c1.b1,c1.b2.trans fs,λa ws h=>?_,A',C',?_,g2,nd,fO⟩
 ·by_cases z:a∈A
  ·exact .inr (c.b1.free (fr a z))
  ·rw[Iu z]at h;exact c.b3 a ws h
 ·exact R.obj hx hl r2 g1
section
variable{X:Cx}{CX:di}{n:Nat}{f C:Addr}{fd:FuncData}{ps:List Str}{qX:List D->List Str->List D->Prop}{E:XK}{x:Str}{p pos:Pos}{e:Expr}{es:List Expr}{t:bX}{tl:List Addr}
theorem J2(hT:Tb tl X.ie)(M:Mk X.K C f)(F:aL X.prog X.w X.K X.mg X.base CX n f fd ps (AU tl C qX))(hr:bF (n+1) X.A)(hg:Gl X x)(hm:X.mg x=some (.ref C))(hb:Binds X.K fd ps [])(hx:iZ CX X E)
  (ha:PA X (e::es) (lA t)) (dj:(x==("__debug__":Str))=false:=by decide) (he:starEach (e::es) X.env=(false,eval e X.env)::starEach es X.env:=by rfl) (bG:(backTo pos (starEach es X.env)).any (·.1)=false:=by rfl) :
  PE X (.Call (.Name x p) (e::es) [] pos) (lE (mW C qX t)):=by
 intro pins s σ H Q I zz
 obtain⟨B,F',δ,ts,Qd,c,q,k⟩:=zz
 have tb:=Jz I hT
 refine PF M F hr hg hm hb .nil hx ha dj he bG pins s σ H Q I ⟨B,F',δ,ts,_,c,q,λds aj vs F1 H1 q1 f1 h1 c1 s1=>?_⟩
 intro x dx dg eM oh
 obtain⟨ns,xs,hI,hq⟩:=q1
 have sm:ae H1 (upd (upd H1 dx (.own x)) x (.ins C dx [])):=.of λb o e=>by rw[aD (dq e dg),aD (dq e eM)];exact e
 refine⟨x,dx,vs,ds.map D.sh,ns,xs,by rw[kL],AS (AS tb h1) sm,bw,(s1.frozen c1.ext).shared sm sm,hI,λH' ws A J3 dO hl r nd fr=>⟨rfl,?_⟩⟩
 have s2:ae H1 H':=⟨λb o e n=>J3.get b o (dq e dg) (sm.get b o e n) n,λb ps e=>by
  obtain⟨m1,e1⟩:=sm.tb b ps e
  obtain⟨m2,e2⟩:=J3.tb b _ e1
  exact⟨m1++m2,by rw[e2,sF]⟩⟩
 obtain⟨fs,c2⟩:=c1.made s2 dO hl r λa ha=>sm.free (fr a ha)
 exact k _ aj _ _ H' hq (f1.trans fs) (h1.trans s2) c2
end
end L3
namespace Mf
open PySem L2 L3
noncomputable def gm(m:Bool × Nat)(a b:Nat):Nat:=if m.1 then md (cl a b) m.2 else a*b%m.2
noncomputable def au(m:Bool × Nat):Nat:=if m.1 then 2 ^ (bl m.2-1)else m.2
noncomputable def wU(g:Nat->Nat->Nat)(a:Nat):Nat->Nat->List Int->Option (List Int)
 | 0,_,_=>none
 | f+1,p,acc=>if p=1 then some acc else if p<64 then wU g a f (g p a) (acc++[(p:Int)])else none
noncomputable def AV(g:Nat->Nat->Nat)(a:Nat):Option (List Int):=wU g a 64 (g 1 a) [1]
noncomputable def wV(g:Nat->Nat->Nat)(many:Nat):Nat->Nat->List Int->Option (List Int)
 | 0,_,_=>none
 | f+1,st,l=>if l.length+1<many then(match AV g (st+1)with | some l'=>wV g many f (st+1) l' | none=>none)else some l
noncomputable def uw(g:Nat->Nat->Nat)(many:Nat):Option (List Int):=match AV g 1 with | some l=>wV g many 62 1 l | none=>none
noncomputable def uz(g:Nat->Nat->Nat):qW:=λi j Q=>∃a b:Nat,i=a/\j=b/\a<64/\b<64/\Q (g a b:Nat)
noncomputable def fk:List Nat:=[7,11,13,19,25,31,37,41,47,55,59,61,67,73,87,91,97,103,109,115,117]
noncomputable def kl:List Nat:=[2,3,5,7,11,13,17,19,23,29,31,37,41,43,47,53,59,61]
noncomputable def bJ:List (Bool × Nat):=fk.map (λn=>(true,n))++kl.map λn=>(false,n)
noncomputable def km(l:List Int):Nat->List Int
 | 0=>aX (l.length+1) 0
 | i+1=>(km l i).set (l.getD i 0).toNat (i:Int)
noncomputable def dh(l:List Int):List Int:=km l l.length
theorem AW(l:List Int):∀i,(km l i).length=l.length+1
 | 0=>by simp[km]
 | i+1=>by simp[km,AW l i]
noncomputable def mX(l g:List Int)(a:Nat):List Int:=if a=0 then aX (l.length+1) 0 else 0::(bf l.length).map λ(b:Nat)=>l.getD ((g.getD a 0+g.getD (b+1) 0)%(l.length:Int)).toNat 0
noncomputable def qY(l g:List Int)(n:Nat):List D:=(bf n).map λa=>D.lst true (ay (mX l g a))
noncomputable def mY(l g:List Int):List D:=qY l g (l.length+1)
end Mf
namespace L3
open PySem L2 Mf
noncomputable def LI(H:Hp)(p:Addr)(ns:List Int):Prop:=H p=some (.lst (ns.map V.int))
theorem LI.same{H H':Hp}{p:Addr}{ns:List Int}(h:LI H p ns)(s:ae H H'):LI H' p ns:=s.get _ _ h
theorem LI.upd{H:Hp}{p x:Addr}{ns:List Int}{o o':HO}(h:LI H p ns)(hx:H x=some o)(n:∀ws,o≠.lst ws):LI (upd H x o') p ns:=by
 unfold LI
 rw[aD (λz=>by rw[z]at h;unfold LI at h;rw[hx]at h;cases h;exact n _ rfl)];exact h
theorem J4{F' H' H:Hp}{v:V}{A:List Addr}{ns:List Int}(r:R F' H' [.lst true (ay ns)] [v] A)(fr:∀a∈A,H a=none):∃p,v=.ref p/\LI H' p ns/\H p=none:=by
 cases r with
 | @own p ws xs A1 _ _ B1 hp hf r1 r2 =>
  have:=Aw r1.s
  subst this
  exact⟨p,rfl,hp,fr p (by simp)⟩
structure T2(K:PySem.W.Frag)(C f:Addr):Prop where
 cls:eE K C
 many:bY K C "many"
 wide:bY K C "wide"
 AX:bY K C "powers"
 T3:bY K C "logs"
 step:bY K C "step"
 sp:Meth K C "step_power" f
structure J5(g:Nat->Nat->Nat)(many:Nat)(l:List Int)(st:Int):Prop where
 lo:2<=many
 hi:many<=64
 step:uw g many=some l
 len:l.length+1=many
 ins:∀x∈l,0<=x/\x.toNat<=l.length
 st:l[((1:Int)%((many:Int)-1)).toNat]?=some st
noncomputable def jk(b:Str):List Str:=[b,"many","wide","powers","logs","step"]
noncomputable def wW(n0:Int)(many:Nat)(p1 p2:Addr)(st:Int):List V:=[.int n0,.int many,.int ((bl many:Nat)-1),.ref p1,.ref p2,.int st]
theorem qZ{f:Str}{v:V}:∀{fs:List (Str × V)},(∀p∈fs,p.1≠f)->dJ f v fs=fs++[(f,v)]
 | [],_=>rfl
 | (g,x)::r,h=>by
  unfold dJ
  rw[if_neg (h (g,x) (by simp)),qZ λp hp=>h p (by simp[hp])];rfl
theorem ff.uA{H:Hp}{x C dx f c k:Addr}{fs:List (Str × V)}{o':HO}{of oc:Obj}(h:ff H f of oc c k)(hx:H x=some (.ins C dx fs)):ff (L2.upd H x o') f of oc c k:=by
 obtain⟨ψ,e,uq⟩:=h.zT
 exact⟨by rw[aD (λz=>by rw[<-z,h.fn]at hx;cases hx)];exact h.fn,by rw[aD (λz=>by rw[<-z,h.cell]at hx;cases hx)];exact h.cell,ψ,by rw[aD (λz=>by rw[<-z,e]at hx;cases hx)];exact e,uq⟩
theorem ff.same{H H':Hp}{f c k:Addr}{of oc:Obj}(h:ff H f of oc c k)(s:ae H H'):ff H' f of oc c k:=lz.mono (z:=.lam of oc c k) h λa o e _ t=>s.get a o e t
theorem uB{H:Hp}{x p:Addr}{o o':HO}(hx:H x=some o)(h:L2.upd H x o' p=none):H p=none:=by
 by_cases z:p=x
 ·subst z;rw[bw]at h;cases h
 ·rw[aD z]at h;exact h
theorem wX{α:Type}{b f:Str}{v:α}{r:List (Str × α)}(h:b≠f):((b,v)::r).lookup f=r.lookup f:=by
 rw[eA,beq_eq_false_iff_ne.mpr (dz h)]
section
variable{H2 H3 H':Hp}{x f c p:Addr}{o1 o2:HO}
theorem uC{b:Addr}{o:HO}(e:H3 b=some o)(nb:b≠f)(nc:H3 c=none):L2.upd (L2.upd H3 f o1) c o2 b=some o:=by
 rw[aD (dq e nc),aD nb];exact e
theorem J6(hs:ae H2 H3)(nf:H2 f=none)(nc:H3 c=none)(s:cK x (L2.upd (L2.upd H3 f o1) c o2) H'):cK x H2 (rem H' f c) where
 get b o n e t:=by
  have z1:=dq e nf
  have e3:=hs.get b o e t
  rw[e7 z1 (dq e3 nc)]
  exact s.get b o n (uC e3 z1 nc) t
 tb b ps e:=by
  have z1:=dq e nf
  obtain⟨m,e3⟩:=hs.tb b ps e
  obtain⟨m2,e4⟩:=s.tb b _ (uC e3 z1 nc)
  exact⟨m++m2,by rw[e7 z1 (dq e3 nc),e4,sF]⟩
theorem wY(hs:ae H2 H3)(h:L2.upd (L2.upd H3 f o1) c o2 p=none):H2 p=none:=by
 refine hs.free ?_
 by_cases z:p=c
 ·subst z;rw[bw]at h;cases h
 ·rw[aD z]at h
  by_cases z2:p=f
  ·subst z2;rw[bw]at h;cases h
  ·rw[aD z2]at h;exact h
theorem LI.rem{l:List Int}{φ:Heap->Prop}{y:Addr}(h:LI H' p l)(hf:H' f=some (.ext φ))(hc:H' c=some (.own y)):LI (rem H' f c) p l:=by
 unfold LI at h ⊢
 rw[e7 (λz=>by rw[z,hf]at h;cases h) (λz=>by rw[z,hc]at h;cases h)];exact h
theorem J7{of oc:Obj}{k:Addr}(oh:c≠f)(nc:H3 c=none)(hk:zS H3 k)(kf:k≠f):ff (L2.upd (L2.upd H3 f (.ext (gq of oc c f))) c (.own f)) f of oc c k:=by
 obtain⟨ψ,e,uq⟩:=hk
 exact⟨by rw[aD oh.symm,bw],bw,ψ,uC e kf nc,uq⟩
end
noncomputable def fl(m:Bool × Nat):List Int:=(uw (gm m) (au m)).getD []
noncomputable def fst(m:Bool × Nat):Int:=(fl m).getD ((1:Int)%((au m:Int)-1)).toNat 0
noncomputable def J8(m:Bool × Nat):Bool:=decide (2<=au m)&&decide (au m<=64)&&(uw (gm m) (au m)).isSome&&decide ((fl m).length+1=au m)&&(fl m).all (λx=>decide (0<=x)&&decide (x.toNat<=(fl m).length))&&decide (((1:Int)%((au m:Int)-1)).toNat<(fl m).length)
theorem T4:bJ.all J8=true:=by decide +kernel
theorem eN{m:Bool × Nat}(h:m∈bJ):J5 (gm m) (au m) (fl m) (fst m):=by
 have h:=cQ.mp T4 m h
 simp only[J8,dm,decide_eq_true_eq,cQ]at h
 obtain⟨⟨⟨⟨⟨h1,h2⟩,h3⟩,h4⟩,h5⟩,h6⟩:=h
 obtain⟨l,e⟩:=Nq.mp h3
 have el:fl m=l:=by unfold fl;rw[e];rfl
 refine⟨h1,h2,by rw[e,el],h4,λx hx=>h5 x hx,?_⟩
 unfold fst
 rw[cY,br h6];rfl
theorem T5:∀p∈kl,(decide (2<=(p:Int))&&decide ((p:Int)<=61)&&(bf ((p:Int).toNat-2)).all λi=>(p:Int)%(2+(i:Int)) != 0)=true:=by decide +kernel
theorem T6:∀p∈fk,(decide (4<=(p:Int))&&decide ((p:Int)<=127)&&al (p:Int).toNat)=true:=by decide +kernel
theorem R.uA{F H:Hp}{x C dx:Addr}{fs:List (Str × V)}{o':HO}{ds:List D}{vs:List V}{A:List Addr}(r:R F H ds vs A)(hx:H x=some (.ins C dx fs))(hd:ds.all D.fr=true):R F (L2.upd H x o') ds vs A:=by
 have up:∀{a o},H a=some o->(∀C dx fs,o≠.ins C dx fs)->L2.upd H x o' a=some o:=λ{a o} e n=>by
  rw[aD (λz=>by rw[z,hx]at e;cases e;exact n _ _ _ rfl)];exact e
 induction r with
 | nil=>exact .nil
 | ak _ ih=>exact .ak (ih (by simpa[D.fr]using hd))
 | bl _ ih=>exact .bl (ih (by simpa[D.fr]using hd))
 | int _ ih=>exact .int (ih (by simpa[D.fr]using hd))
 | str _ ih=>exact .str (ih (by simpa[D.fr]using hd))
 | shr h x _ i1 ih=>simp[eF]at hd
 | own h f _ _ i1 i2 =>
  rw[cX,eF,dm,jy]at hd
  exact .own (up h λ_ _ _ z=>by cases z) f (i1 hd.1) (i2 hd.2)
 | tup h _ _ i1 i2 =>
  rw[cX,jG,dm]at hd
  exact .tup (up h λ_ _ _ z=>by cases z) (i1 hd.1) (i2 hd.2)
 | obj h l x _ i1 ih=>simp[D.fr]at hd
 | fz h x _ i1 ih=>simp[D.fr]at hd
 | @aQ p z _ _ _ h r ih =>
  refine .aQ ?_ (ih (by simpa[D.fr]using hd))
  cases z with
  | ext φ=>exact up h λ_ _ _ z=>by cases z
  | lam of oc c k=>exact ff.uA h hx
theorem J9(l g:List Int):(mY l g).all D.fr=true:=by
 unfold mY qY
 rw[kO,cQ]
 intro a _
 show(D.lst true (ay _)).fr=true
 rw[eF,j6];rfl
theorem cK.free{x a:Addr}{H H':Hp}(s:cK x H H')(hx:H' x≠none)(h:H' a=none):H a=none:=by
 cases q:H a with
 | none=>rfl
 | some o =>
  by_cases z:a=x
  ·subst z;exact absurd h hx
  ·cases n:eV o with
   | true=>rw[s.get a o z q n]at h;cases h
   | false =>
    obtain⟨ps,rfl⟩:=tR n
    obtain⟨m,e⟩:=s.tb a ps q
    rw[e]at h;cases h
theorem Ka(l:List Int):∀i,∀x∈km l i,0<=x
 | 0=>λx hx=>by rw[(NB.mp hx).2];exact Int.le_refl _
 | i+1=>λx hx=>by
  unfold km at hx
  rcases List.mem_or_eq_of_mem_set hx with h | h
  ·exact Ka l i x h
  ·rw[h];exact Gd _
theorem Kb:∀p∈fk,bl p<=7:=by decide +kernel
theorem Kd:∀p∈fk,1<=bl p:=by decide +kernel
theorem T7(a b:Nat):bl (cl a b)<=bl a+bl b:=by
 by_cases ha:a=0
 ·subst ha;rw[lu];exact ju _
 ·by_cases hb:b=0
  ·subst hb
   have:cl a 0=0:=rfl
   rw[this];exact ju _
  ·rw[HN ha hb];omega
noncomputable def kn(l g:List Int):List D:=(bf (l.length+1)).map λa=>D.lst false (ay (mX l g a))
theorem T8(l g:List Int):(D.lst true (mY l g)).sh=.lst false (kn l g):=by
 rw[dZ]
 unfold mY qY kn
 rw[bQ]
 congr 1
 apply sM
 intro a _
 show D.sh (.lst true (ay _))=_
 rw[dZ,fP]
theorem T9(l g:List Int):(kn l g).all D.pl=true:=by
 unfold kn
 rw[kO,cQ]
 intro a _
 show(D.lst false (ay _)).pl=true
 rw[eW,j5];rfl
noncomputable abbrev pD(m:Bool × Nat):List D:=[.int m.2,.int (au m),.int ((bl (au m):Nat)-1),.lst false (ay (fl m)),.lst false (ay (dh (fl m))),.int (fst m)]
noncomputable def AY(C:Addr)(p:Nat):D:=.obj C (jk "prime") (pD (false,p))
noncomputable def wZ(C:Addr)(p:Nat):D:=.obj C (jk "bits"++[("products":Str)]) (pD (true,p)++[.lst false (kn (fl (true,p)) (dh (fl (true,p))))])
noncomputable def fD(cb cp:Addr)(m:Bool × Nat):D:=if m.1 then wZ cb m.2 else AY cp m.2
end L3
namespace L3
open PySem L2 Mf
theorem uD{u p:Nat}(h:bl u<bl p):md u p=u:=tP (q:=0) (by rw[lu,kM]) h
theorem Ua{u v n:Nat}(hu:bl u<n)(hv:bl v<n):bl (u ^^^ v)<n:=by
 have h1:u<2 ^ (n-1):=de.mp (by omega)
 have h2:v<2 ^ (n-1):=de.mp (by omega)
 have:=de.mpr (qE h1 h2)
 omega
theorem w4{p:Nat}(hp:p≠0)(u v:Nat):md (u ^^^ v) p=md u p ^^^ md v p:=by
 obtain⟨⟨q1,e1⟩,l1⟩:=tO hp u
 obtain⟨⟨q2,e2⟩,l2⟩:=tO hp v
 refine tP (q:=q1 ^^^ q2) ?_ (Ua l1 l2)
 rw[lr,<- HD,<- e1,<- e2]
theorem Ke{p:Nat}(hp:p≠0)(w:Nat):md (cl p w) p=0:=by rw[tN];exact QE w hp
theorem jl:∀m∈bJ,0<m.2:=by decide +kernel
theorem q8(m:Bool × Nat)(a b:Nat):gm m a b=gm m b a:=by
 unfold gm
 split
 ·rw[tN]
 ·rw[jw]
theorem Kf{n:Nat}(hn:n≠0)(u c:Nat):md (cl (md u n) c) n=md (cl u c) n:=by
 obtain⟨⟨q,e⟩,_⟩:=tO hn u
 have h:cl u c=cl n (cl q c) ^^^ cl (md u n) c:=by
  conv=>lhs;rw[e]
  rw[lr,tN n q,HU]
 rw[h,w4 hn,Ke hn,kM]
theorem Kg{m:Bool × Nat}(h:0<m.2)(a b c:Nat):gm m (gm m a b) c=gm m a (gm m b c):=by
 unfold gm
 split
 ·rw[Kf (by omega),tN (md (cl b c) m.2) a,Kf (by omega),HU a b c,tN (cl b c) a]
 ·rw[sO,Gx,<- sO,sO a (b*c%m.2),Gx,<- sO,pP]
theorem Kh{m:Bool × Nat}(h:m.1=true){a:Nat}:a<au m↔bl a<=bl m.2-1:=by
 unfold au
 rw[if_pos h];exact de.symm
theorem Ki{m:Bool × Nat}{a:Nat}(ha:a<au m):gm m 1 a=a:=by
 obtain⟨k,n⟩:=m
 cases k with
 | true =>
  show md (cl 1 a) n=a
  rw[zC]
  have h1:=(Kh (m:=(true,n)) rfl).mp ha
  have h1:bl a<=bl n-1:=h1
  by_cases z:bl n=0
  ·have a0:a=0:=by
    have:=de (n:=a) (m:=0)
    have:=this.mp (by omega)
    omega
   subst a0
   have n0:n=0:=by
    have:=(de (n:=n) (m:=0)).mp (by omega)
    omega
   subst n0
   decide
  ·exact uD (by omega)
 | false=>show 1*a%n=a;rw[Nat.one_mul];exact sP ha
theorem Ub{m:Bool × Nat}{a:Nat}(ha:a<au m):gm m a 1=a:=by rw[q8];exact Ki ha
noncomputable def lg(m:Bool × Nat)(a:Nat):Int:=(dh (fl m)).getD a 0
noncomputable def pw(m:Bool × Nat)(k:Nat):Int:=(fl m).getD k 0
noncomputable def AZ(m:Bool × Nat):Bool:=((bf (au m-1)).all λk=>decide (1<=pw m k)&&decide (pw m k<au m)&&decide (lg m (pw m k).toNat=k))&&((bf (au m-1)).all λa=>decide (0<=lg m (a+1))&&decide (lg m (a+1)<(au m:Int)-1)&&decide (pw m (lg m (a+1)).toNat=((a+1:Nat):Int)))
theorem Kj:bJ.all AZ=true:=by decide +kernel
theorem Kk{m:Bool × Nat}(hm:m∈bJ){k:Nat}(hk:k<au m-1):1<=pw m k/\pw m k<au m/\lg m (pw m k).toNat=k:=by
 have h:=cQ.mp Kj m hm
 simp only[AZ,dm,cQ,decide_eq_true_eq,fU]at h
 have:=h.1 k hk
 exact⟨this.1.1,this.1.2,this.2⟩
theorem Kl{m:Bool × Nat}(hm:m∈bJ){a:Nat}(h1:1<=a)(h2:a<au m):0<=lg m a/\lg m a<(au m:Int)-1/\pw m (lg m a).toNat=a:=by
 have h:=cQ.mp Kj m hm
 simp only[AZ,dm,cQ,decide_eq_true_eq,fU]at h
 have:=h.2 (a-1) (by omega)
 rw[show a-1+1=a by omega]at this
 exact⟨this.1.1,this.1.2,this.2⟩
theorem Km(m:Bool × Nat)(b:Nat)(h:0<m.2):gm m 0 b=0:=by
 unfold gm
 split
 ·rw[lu];exact uD (by rw[jC];exact eS (by omega))
 ·rw[Nat.zero_mul,Nat.zero_mod]
theorem Kn(m:Bool × Nat)(b:Nat)(h:0<m.2):gm m b 0=0:=by rw[q8];exact Km m b h
noncomputable def stC(m:Bool × Nat):Bool:=decide (pw m 0=1)&&(bf (au m-1)).all λk=>decide (gm m (pw m k).toNat (pw m (1%(au m-1))).toNat=(pw m ((k+1)%(au m-1))).toNat)
theorem Ko:bJ.all stC=true:=by decide +kernel
theorem Uc(m:Bool × Nat)(hm:m∈bJ):pw m 0=1:=by
 have h:=cQ.mp Ko m hm
 simp only[stC,dm,decide_eq_true_eq]at h
 exact h.1
noncomputable def pN(m:Bool × Nat)(k:Nat):Nat:=(pw m (k%(au m-1))).toNat
theorem Ud{m:Bool × Nat}(hm:m∈bJ)(k:Nat):pN m k<au m:=by
 have lj:=(eN hm).lo
 have:=Kk hm (nH k (show 0<au m-1 by omega))
 unfold pN
 omega
theorem Kp{m:Bool × Nat}(hm:m∈bJ)(k:Nat):gm m (pN m k) (pN m 1)=pN m (k+1):=by
 have lj:=(eN hm).lo
 have h:=cQ.mp Ko m hm
 simp only[stC,dm,decide_eq_true_eq,cQ,fU]at h
 have h2:=h.2 (k%(au m-1)) (nH k (by omega))
 rw[sQ]at h2
 exact h2
theorem Kq{m:Bool × Nat}(hm:m∈bJ)(i:Nat):∀j,gm m (pN m i) (pN m j)=pN m (i+j)
 | 0=>by
  have e:pN m 0=1:=by unfold pN;rw[Nat.zero_mod,Uc m hm];rfl
  rw[e,Ub (Ud hm i)];rfl
 | j+1=>by rw[<-Kp hm j,<- Kg (jl m hm),Kq hm i j,Kp hm];rfl
theorem Ue{m:Bool × Nat}(hm:m∈bJ){a b:Nat}(a1:1<=a)(a2:a<au m)(b1:1<=b)(b2:b<au m):((gm m a b:Nat):Int)=pw m ((lg m a+lg m b)%((au m:Int)-1)).toNat:=by
 have lj:=(eN hm).lo
 obtain⟨g0,g1,g2⟩:=Kl hm a1 a2
 obtain⟨f0,f1,f2⟩:=Kl hm b1 b2
 have ea:pN m (lg m a).toNat=a:=by unfold pN;rw[sP (by omega),g2];rfl
 have eb:pN m (lg m b).toNat=b:=by unfold pN;rw[sP (by omega),f2];rfl
 have e:=Kq hm (lg m a).toNat (lg m b).toNat
 rw[ea,eb]at e
 rw[e]
 have ei:((lg m a+lg m b)%((au m:Int)-1)).toNat=((lg m a).toNat+(lg m b).toNat)%(au m-1):=by
  have:(((lg m a).toNat+(lg m b).toNat)%(au m-1):Nat)=((lg m a+lg m b)%((au m:Int)-1)):=by
   rw[pU,vv,Gy g0,Gy f0,Int.natCast_sub (by omega)];rfl
  omega
 rw[ei]
 have:=Kk hm (nH ((lg m a).toNat+(lg m b).toNat) (show 0<au m-1 by omega))
 unfold pN
 omega
theorem Ug{p a:Nat}(hp:p∈fk)(ha:a<au (true,p)):mX (fl (true,p)) (dh (fl (true,p))) a=(bf (au (true,p))).map λb=>((gm (true,p) a b:Nat):Int):=by
 have hm:(true,p)∈bJ:=eu _ (yF hp)
 have h0:=jl _ hm
 have hF:=eN hm
 have hlen:=hF.len
 unfold mX
 split
 ·rename_i h
  subst h
  rw[hlen]
  refine List.ext_getElem (by simp) λi h1 h2=>?_
  simp[Km _ _ h0]
 ·rename_i h
  rw[<-hlen,NC,cV,bQ,Kn _ _ h0]
  congr 1
  apply sM
  intro b hb
  have hb:=fU.mp hb
  show(fl (true,p)).getD (((dh (fl (true,p))).getD a 0+(dh (fl (true,p))).getD (b+1) 0)%((fl (true,p)).length:Int)).toNat 0=((gm (true,p) a (b+1):Nat):Int)
  rw[Ue hm (by omega) ha (by omega) (by omega),show(((fl (true,p)).length:Nat):Int)=(au (true,p):Int)-1 by omega]
  rfl
theorem Uh{p a b:Nat}(hp:p∈fk)(ha:a<au (true,p))(hb:b<au (true,p)):da (ay (mX (fl (true,p)) (dh (fl (true,p))) a)) (b:Int)=some (.int (gm (true,p) a b:Nat)):=by
 refine kY (by omega) ?_
 rw[Ug hp ha]
 unfold ay
 rw[iR,dB,dB,nG hb];rfl
theorem Ui{p a:Nat}(hp:p∈fk)(ha:a<au (true,p)):da (kn (fl (true,p)) (dh (fl (true,p)))) (a:Int)=some (.lst false (ay (mX (fl (true,p)) (dh (fl (true,p))) a))):=by
 have hF:=eN (m:=(true,p)) (eu _ (yF hp))
 refine kY (by omega) ?_
 unfold kn
 rw[iR,dB,nG (by rw[hF.len];exact ha)];rfl
end L3
namespace L3
open PySem L2 Mf
theorem Uj(C:Addr)(p:Nat):D.obj C (jk "bits"++[("products":Str)]) (yD D.sh [.int p,.int (au (true,p)),.int ((bl (au (true,p)):Nat)-1),.lst true (ay (fl (true,p))),.lst true (ay (dh (fl (true,p)))),.int (fst (true,p)),.lst true (mY (fl (true,p)) (dh (fl (true,p))))])=wZ C p:=by
 simp only[cV,iO]
 rw[T8]
 simp only[dZ,j4,fP];rfl
theorem Uk(C:Addr)(p:Nat):D.obj C (jk "prime") (yD D.sh [.int p,.int p,.int ((bl p:Nat)-1),.lst true (ay (fl (false,p))),.lst true (ay (dh (fl (false,p)))),.int (fst (false,p))])=AY C p:=by
 simp only[cV,iO,dZ,j4,fP];rfl
theorem A6{n:Nat}(h:(true,n)∈bJ):n∈fk:=by
 rcases cA.mp h with h | h
 ·obtain⟨x,hx,e⟩:=cZ.mp h
  cases e;exact hx
 ·obtain⟨x,hx,e⟩:=cZ.mp h
  cases e
theorem Ul{n:Nat}(h:(false,n)∈bJ):n∈kl:=by
 rcases cA.mp h with h | h
 ·obtain⟨x,hx,e⟩:=cZ.mp h
  cases e
 ·obtain⟨x,hx,e⟩:=cZ.mp h
  cases e;exact hx
open Classical in
theorem Um{α:Type}{sh:Bool}{xs:List D}{aq:List (Str × Nat)}{n:Nat}{g0:eY}{te:aH}{aj:Dl}{Q:D->Dl->Prop}(l:List α)(e g:α->D)(j9:xs.map D.sh=l.map e)(inj:∀a b,e a=e b->a=b)
  (hx:∀a∈l,g0 (e a) (ek aq n aj) λaF=>te aF λd _=>d=g a) (hg:∀d δ (P P':Dl->Prop),(∀af,P af->P' af)->g0 d δ P->g0 d δ P') (dr:(sh&&aq.all (fi aj))=true\/∀a∈l,(g a).fr=true) (hl:l.length<=sizeLine) (hq:Q (.lst true (l.map g)) aj):t8 sh xs aq n g0 gR te aj Q:=by
 let f:D->D:=λx=>if h:∃a∈l,e a=x then g h.choose else .ak
 have hf:∀a∈l,f (e a)=g a:=λa ha=>by
  have h:∃b∈l,e b=e a:=⟨a,ha,rfl⟩
  show(if h:∃b∈l,e b=e a then g h.choose else .ak)=g a
  rw[dif_pos h]
  exact congrArg g (inj _ _ h.choose_spec.2)
 refine⟨λ_=>true,f,λx h=>?_,dr.imp id λh x hx _=>?_,?_,?_⟩
 ·rw[j9]at h
  obtain⟨a,ha,rfl⟩:=cZ.mp h
  rw[hf a ha]
  exact hg _ _ _ _ (λaf h=>⟨rfl,λ_=>h⟩) (hx a ha)
 ·rw[j9]at hx
  obtain⟨a,ha,rfl⟩:=cZ.mp hx
  rw[hf a ha];exact h a ha
 ·have:=congrArg Gf j9
  simp at this
  omega
 ·rw[j9,NA.mpr (λ_ _=>rfl),bQ,show l.map (f ∘ e)=l.map g from sM λa ha=>hf a ha]
  exact hq
theorem Uo{i1 i2:Nat}(d:D)(δ:Dl)(P P':Dl->Prop)(h:∀af,P af->P' af)(q:gX i1 i2 d δ P):gX i1 i2 d δ P':=by
 unfold gX at q ⊢
 split at q
 ·exact h _ q
 ·exact q
theorem Up(xs ys:List Int):(et (ay xs) (ay ys)).map D.sh=(xs.zip ys).map λz=>D.tup [.int z.1,.int z.2]:=by
 rw[Ju,fP,fP]
 unfold et ay
 rw[yE,List.zip,List.map_zipWith]
theorem Uq{p x y:Nat}(hp:p≠0)(hx:bl x<bl p):md (cl x y) p=(if y%2=1 then x else 0) ^^^ md (cl (if bl (2*x)=bl p then 2*x ^^^ p else 2*x) (y/2)) p:=by
 have e0:md (if y%2=1 then x else 0) p=(if y%2=1 then x else 0):=by
  split
  ·exact uD hx
  ·exact uD (by rw[jC];exact eS hp)
 rw[HK,w4 hp,e0]
 congr 1
 split
 ·rw[lr,w4 hp,Ke hp,iP]
 ·rfl
theorem Ur{p x:Nat}(hp:p≠0)(hx:bl x<bl p):bl (if bl (2*x)=bl p then 2*x ^^^ p else 2*x)<bl p:=by
 have h2:=QG x
 have h0:=eS hp
 split
 ·rename_i h
  have n0:2*x≠0:=λz=>by rw[z,jC]at h;omega
  have a1:=fI (2*x)
  have a2:=fI p
  have b1:=qC n0
  have b2:=qC hp
  rw[h]at a1 b1
  obtain⟨k,hk⟩:∃k,bl p=k+1:=⟨bl p-1,by omega⟩
  rw[hk]at a1 a2 b1 b2 ⊢
  have:=de.mpr (HB a1 a2 b1 b2)
  omega
 ·omega
end L3
namespace L3
open PySem L2 PySem.Spec PyProof.Rows
section
variable{X:Cx}{e o:Expr}{es:List Expr}{f m x:Str}{pos p apos:Pos}{to:aH}{ta:bX}{n:Nat}
end
section
variable{X:Cx}{tb th:bM}{body SR:List Stmt}{SS:Stmt}{K:Str}{Kc:Addr}{kp SU pos:Pos}
end
structure Kr(K:PySem.W.Frag)(C:Addr):Prop where
 cls:eE K C
 ha:PySem.W.findIn K (.ref C) "__class__"=some (some (.builtin "object.__class__"))
 hn:PySem.W.specialIn K (.builtin "object.__class__") "__get__"=some (some (.builtin "getset_descriptor.__get__"))
 zj:PySem.W.takesIn K (.builtin "object.__class__")=some true
 hm:PySem.W.mroIn K C (.type "object")=some true
end L3
namespace L3
open PySem L2 Mf
end L3
namespace L3
open PySem L2 PySem.Spec PyProof.Rows
section
variable{X:Cx}{e o a:Expr}{es:List Expr}{f m y:Str}{pos p apos q:Pos}{t to ta':aH}{ta:bX}{n:Nat}{P:Program}{w:World}{K:PySem.W.Frag}{mg:Str->Option Value}{base:Heap}
theorem w5(he:PE X e (lB t))(hK:K=X.K:=by rfl)(hb:attributeBase e f X.env (eval e X.env)=eval e X.env:=by rfl):PE X (.Attribute e f pos) (lB (ki K t f)):=by
 subst hK;exact TY he hb
theorem A7{pl:Sem Bool}(ho:PE X o (lB to))(hr:bF n X.A)(ha:PA X (e::es) (lA ta))(hP:P=X.prog:=by rfl)(hw:w=X.w:=by rfl)(hK:K=X.K:=by rfl)(hm:mg=X.mg:=by rfl)(hb:base=X.base:=by rfl)
  (cw:starEach (e::es) X.env=(false,eval e X.env)::starEach es X.env:=by rfl) (bG:(backTo pos (starEach es X.env)).any (·.1)=false:=by rfl)
  (ht:eval (.Call (.Attribute o m apos) (e::es) [] pos) X.env=(do
   let ov<-eval o X.env
   standAt apos.atName
   let (f,first)<-holding [ov] (getMethod ov m pl)
   callWith pos f first (backTo pos (starEach (e::es) X.env)) (backToKw pos (keywordEach [] X.env))):=by rfl) :
  PE X (.Call (.Attribute o m apos) (e::es) [] pos) (lE (kj (wR P w K mg base n m) m to ta)):=by
 subst hP hw hK hm hb;exact TZ ho hr ha cw bG ht
end
theorem Ks:∀m∈Mf.bJ,1<=Mf.bl m.2/\Mf.bl m.2<=7:=by decide +kernel
end L3
namespace L3
open PySem L2 Mf
noncomputable def gp(m:Bool × Nat)(a b:Nat):Nat:=if m.1 then a ^^^ b else(a+b)%m.2
noncomputable def gl(m:Bool × Nat)(a b:Nat):Int:=if m.1 then(a ^^^ b:Nat)else((a:Int)-b)%m.2
noncomputable def gd(m:Bool × Nat)(xs ys:List Nat):Nat:=(iS (gm m) xs ys).foldl (gp m) 0
noncomputable def mZ(c:Int):Bool × Nat:=if c%2=0 then(true,fk.getD (c/2%21).toNat 0)else(false,kl.getD (c/2%18).toNat 0)
theorem Us(c:Int):mZ c∈bJ:=by
 unfold mZ
 split
 ·refine eu _ (cZ.mpr ⟨_,?_,rfl⟩)
  have h:(c/2%21).toNat<fk.length:=by
   have:=nI (c/2) (show(0:Int)<21 by decide)
   show _<21
   omega
  rw[cY,br h]
  exact fv _
 ·refine cI _ (cZ.mpr ⟨_,?_,rfl⟩)
  have h:(c/2%18).toNat<kl.length:=by
   have:=nI (c/2) (show(0:Int)<18 by decide)
   show _<18
   omega
  rw[cY,br h]
  exact fv _
noncomputable def cH(m:Bool × Nat):D:=.tup [.bl m.1,.int m.2]
theorem Kt(cb cp:Addr)(m:Bool × Nat):fD cb cp m=.obj (if m.1 then cb else cp) (if m.1 then jk "bits"++[("products":Str)]else jk "prime") (if m.1 then pD (true,m.2)++[.lst false (kn (fl (true,m.2)) (dh (fl (true,m.2))))]else pD (false,m.2)):=by
 obtain⟨k,n⟩:=m
 cases k<;>rfl
theorem Ut(cb cp:Addr)(m:Bool × Nat):(fD cb cp m).sh=fD cb cp m:=by rw[Kt];rfl
theorem Uu(cb cp:Addr)(m:Bool × Nat):(fD cb cp m).pl=true:=by rw[Kt];rfl
theorem Uv(m:Bool × Nat):(cH m).sh=cH m:=rfl
theorem Uw(m:Bool × Nat):(cH m).pl=true:=rfl
theorem Ku{p:Nat}(hp:0<p):∀(l:List Nat) (acc:Nat),acc<p->l.foldl (gp (false,p)) acc=(acc+l.sum)%p
 | [],acc,h=>by simp[sP h]
 | x::l,acc,h=>by
  rw[List.foldl_cons,show gp (false,p) acc x=(acc+x)%p from rfl,Ku hp l _ (nH _ hp),Gz]
  show((acc+x)%p+l.sum)%p=_
  rw[sQ,GA]
theorem Kv(p:Nat):∀xs ys:List Nat,(iS (gm (false,p)) xs ys).sum%p=(iS (· * ·) xs ys).sum%p
 | [],_=>by simp
 | _::_,[]=>by simp
 | x::xs,y::ys=>by
  simp only[NH,Gz]
  show(x*y%p+_)%p=_
  rw[sQ,Nat.add_mod,Kv p xs ys,<- Nat.add_mod]
theorem Kw:∀xs ys:List Nat,(iS (· * ·) (xs.map λ(n:Nat)=>(n:Int)) (ys.map λ(n:Nat)=>(n:Int))).sum=(((iS (· * ·) xs ys).sum:Nat):Int)
 | [],_=>by simp
 | _::_,[]=>by simp
 | x::xs,y::ys=>by
  simp only[cV,NH,Gz]
  rw[Kw xs ys,vv,yG]
theorem Kx(m:Bool × Nat)(a b:Nat):gp m a b=gp m b a:=by
 unfold gp
 split
 ·rw[Gj]
 ·rw[Nat.add_comm]
theorem Ux(m:Bool × Nat)(a b c:Nat):gp m (gp m a b) c=gp m a (gp m b c):=by
 unfold gp
 split
 ·rw[nD]
 ·rw[sQ,Nat.add_mod_mod,GA]
theorem Uy{m:Bool × Nat}(h:0<m.2)(a b c:Nat):gm m (gp m a b) c=gp m (gm m a c) (gm m b c):=by
 unfold gm gp
 split
 ·rw[lr,w4 (by omega)]
 ·rw[sO,Gx,<- sO,Nat.add_mul,sQ,Nat.add_mod_mod]
theorem Uz{m:Bool × Nat}(h:0<m.2)(a b c:Nat):gm m c (gp m a b)=gp m (gm m c a) (gm m c b):=by rw[q8,Uy h,q8 m a,q8 m b]
theorem UA:∀m∈bJ,m.1=true->2<=bl m.2:=by decide +kernel
theorem UB{m:Bool × Nat}(hm:m∈bJ){a b:Nat}(ha:a<au m)(hb:b<au m):gp m a b<au m:=by
 have h0:=jl m hm
 obtain⟨k,n⟩:=m
 cases k with
 | true=>exact qE ha hb
 | false=>exact nH _ h0
theorem Ky{m:Bool × Nat}(hm:m∈bJ)(a b:Nat):gm m a b<au m:=by
 have h0:=jl m hm
 obtain⟨k,n⟩:=m
 cases k with
 | true =>
  have h2:=UA (true,n) hm rfl
  have:=(tO (show n≠0 by have:0<n:=h0;omega) (cl a b)).2
  refine(Kh rfl).mpr ?_
  show bl (md (cl a b) n)<=bl n-1
  omega
 | false=>exact nH _ h0
theorem UC{m:Bool × Nat}{a:Nat}(ha:a<au m):gp m 0 a=a:=by
 obtain⟨k,n⟩:=m
 cases k with
 | true=>exact kM a
 | false=>show(0+a)%n=a;rw[Nat.zero_add];exact sP ha
theorem UD{m:Bool × Nat}(hm:m∈bJ){a b:Nat}(ha:a<au m)(hb:b<au m):∃r:Nat,gl m a b=r/\r<au m/\gp m r b=a:=by
 have h0:=jl m hm
 obtain⟨k,n⟩:=m
 cases k with
 | true=>exact⟨a ^^^ b,rfl,qE ha hb,by show a ^^^ b ^^^ b=a;rw[nD,yt,iP]⟩
 | false =>
  have h0:0<n:=h0
  have ha:a<n:=ha
  have hb:b<n:=hb
  refine⟨(a+(n-b))%n,?_,nH _ h0,?_⟩
  ·show((a:Int)-b)%n=_
   rw[pU,vv,Int.natCast_sub (by omega),show((a:Int)+((n:Int)-b))=((a:Int)-b)+n by omega,Int.add_emod_right]
  ·show((a+(n-b))%n+b)%n=a
   rw[sQ,show a+(n-b)+b=a+n by omega,Nat.add_mod_right,sP ha]
end L3
namespace L2
open PySem PySem.Spec PyProof.Rows
section
variable{X:Cx}{a:Expr}{ta:TA}{p pos:Pos}{tg:Expr}
end
end L2
namespace L3
open PySem L2 PySem.Spec PyProof.Rows
section
variable{F H:Hp}{K:PySem.W.Frag}{p:Addr}{ws:List V}{xs:List D}
end
section
variable{X:Cx}{a:Expr}{ta:bX}{p pos:Pos}{tg:Expr}
end
end L3
namespace L3
open PySem L2 Mf
noncomputable def px(m:Bool × Nat)(x:Nat):Nat->Nat
 | 0=>1
 | k+1=>gm m (px m x k) x
noncomputable def AllLt(n:Nat)(l:List Nat):Prop:=∀a∈l,a<n
theorem AllLt.getD{n:Nat}{l:List Nat}(h:AllLt n l)(h0:0<n)(k:Nat):l.getD k 0<n:=by
 rw[cY]
 cases e:l[k]? with
 | none=>exact h0
 | some v=>exact h v (sI e)
end L3
namespace L3
open PySem L2 PySem.Spec PyProof.Rows
theorem UE(n:Nat)(l:List Nat):(ax l).all (aB n)=true:=by
 rw[dU,kO,cQ]
 intro a _
 exact mJ n _
theorem q9(n:Nat)(o:Bool)(l:List Nat):aB (n+1) (.lst o (ax l))=true:=UE n l
theorem pf(o o':Bool)(a b:List Nat):aY (.lst o (ax a)) (.lst o' (ax b))=decide (a=b):=by
 unfold ax
 rw[mK]
 congr 1
 apply propext
 constructor
 ·intro h
  have:=congrArg (yD Int.toNat) h
  have e:(Int.toNat ∘ λ(n:Nat)=>(n:Int))=id:=by funext x;rfl
  rw[bQ,bQ,e,List.map_id,List.map_id]at this
  exact this
 ·intro h;rw[h]
theorem kq{l:List Nat}{k:Int}(h0:0<=k)(h:k.toNat<l.length):da (ax l) k=some (.int ((l.getD k.toNat 0:Nat):Int)):=by
 refine kY h0 ?_
 rw[dU,dB,br h,cY,br h];rfl
theorem Kz{n:Nat}{k:Int}(h0:0<=k)(h:k.toNat<n):eR n k=some k.toNat:=by
 unfold eR
 rw[if_pos h0,if_pos (by omega)]
theorem uE{n:Nat}(k:Int)(h:k=n):(((bf k.toNat).map λ(k:Nat)=>D.int (0+(k:Int))).map D.sh)=(bf n).map λ(i:Nat)=>D.int (i:Int):=by
 subst h
 rw[t7,iR]
 simp
theorem UG(l:List Nat):(ax l).all D.fr=true:=j6 _
theorem A8(o:Bool)(l:List Nat):(D.lst o (ax l)).sh=.lst false (ax l):=by rw[dZ,ke]
theorem gY(l:List Nat):(D.lst true (ax l)).fr=true:=by rw[eF,UG];rfl
section
variable{X:Cx}
end
end L3
namespace L3
open PySem L2 Mf
noncomputable def uF(m:Bool × Nat)(a b:Nat):Nat:=(gl m a b).toNat
theorem UH{m:Bool × Nat}(hm:m∈bJ){a b:Nat}(ha:a<au m)(hb:b<au m):gl m a b=(uF m a b:Nat)/\uF m a b<au m/\gp m (uF m a b) b=a:=by
 obtain⟨r,e,h1,h2⟩:=UD hm ha hb
 have:uF m a b=r:=by unfold uF;rw[e];rfl
 rw[this]
 exact⟨e,h1,h2⟩
end L3
namespace L3
open PySem L2 PySem.Spec PyProof.Rows
section
variable{X:Cx}{a b:Expr}{ta tb:aH}{pos:Pos}
end
theorem UI{a b:List Nat}(h:ax a=ax b):a=b:=by
 have:=pf true true a b
 rw[h,show aY (D.lst true (ax b)) (D.lst true (ax b))=true from(pf _ _ _ _).trans (decide_eq_true rfl)]at this
 exact of_decide_eq_true this.symm
theorem gB{o:Bool}(a b:List Nat)(h:D.lst o (ax a)=D.lst o (ax b)):a=b:=UI (by injection h)
end L3
namespace L3
open PySem L2 Mf
end L3
namespace L2
open PySem PySem.Spec PyProof.Rows
end L2
namespace L3
open PySem L2 PySem.Spec PyProof.Rows Mf
end L3
namespace L3
open PySem L2 Mf
noncomputable def cf(l:List Nat)(k:Nat):Nat:=l.getD k 0
theorem w6{l:List Nat}{k:Nat}(h:l.length<=k):cf l k=0:=by
 unfold cf;rw[cY,pV h];rfl
end L3
namespace L3
open PySem L2 PySem.Spec PyProof.Rows
section
variable{B:Bs}{F H:Hp}{σ:L2.St}{δ:Dl}{ts ps:List (D × V)}{i k:Nat}{p q:Addr}{l1 l2 ys ys':List D}{ws us':List V}
end
section
variable{X:Cx}{F H:Hp}{e b:Expr}{pos p p2 p3 pr apos bh qS:Pos}{t ti te:aH}{x y:Str}{i j:Nat}
end
end L3
namespace L3
structure Rg(N:Nat)(p q:Nat->Nat->Nat):Prop where
 pc:∀a b,p a b=p b a
 pa:∀a b c,p (p a b) c=p a (p b c)
 mc:∀a b,q a b=q b a
 ma:∀{a b c},a<N->b<N->c<N->q (q a b) c=q a (q b c)
 dl:∀a b c,q a (p b c)=p (q a b) (q a c)
 z:∀{a},a<N->p 0 a=a
 qz:∀a,q a 0=0
 one:∀{a},a<N->q 1 a=a
 lp:∀{a b},a<N->b<N->p a b<N
 lq:∀a b,q a b<N
 ng:∀{a},a<N->∃b,b<N/\p a b=0
section
variable{N:Nat}{p q:Nat->Nat->Nat}
noncomputable def sm(p:Nat->Nat->Nat):Nat->(Nat->Nat)->Nat
 | 0,_=>0
 | n+1,f=>p (sm p n f) (f n)
theorem Rg.pos(r:Rg N p q):0<N:=kN (ju _) (r.lq 0 0)
theorem Rg.z'(r:Rg N p q){a:Nat}(h:a<N):p a 0=a:=by rw[r.pc];exact r.z h
theorem gC{f g:Nat->Nat}:∀{n:Nat},(∀j,j<n->f j=g j)->sm p n f=sm p n g
 | 0,_=>rfl
 | n+1,h=>by rw[sm,sm,gC λj hj=>h j (by omega),h n (by omega)]
theorem ph(r:Rg N p q){f:Nat->Nat}:∀{n:Nat},(∀j,j<n->f j<N)->sm p n f<N
 | 0,_=>r.pos
 | n+1,h=>r.lp (ph r λj hj=>h j (by omega)) (h n (by omega))
theorem pj(r:Rg N p q){f:Nat->Nat}:∀{n:Nat},(∀j,j<n->f j=0)->sm p n f=0
 | 0,_=>rfl
 | n+1,h=>by rw[sm,pj r λj hj=>h j (by omega),h n (by omega)];exact r.z r.pos
theorem Rg.four(r:Rg N p q)(a b c d:Nat):p (p a b) (p c d)=p (p a c) (p b d):=by
 rw[r.pa,r.pa,<- r.pa b,<- r.pa c,r.pc b c]
theorem w9(r:Rg N p q)(f g:Nat->Nat):∀n,sm p n (λj=>p (f j) (g j))=p (sm p n f) (sm p n g)
 | 0=>(r.z r.pos).symm
 | n+1=>by rw[sm,w9 r f g n,sm,sm,r.four]
theorem A9(r:Rg N p q)(c:Nat)(f:Nat->Nat):∀n,sm p n (λj=>q c (f j))=q c (sm p n f)
 | 0=>(r.qz c).symm
 | n+1=>by rw[sm,A9 r c f n,sm,r.dl]
theorem KA(r:Rg N p q)(F:Nat->Nat->Nat)(k:Nat):∀n,sm p n (λi=>sm p k λj=>F i j)=sm p k λj=>sm p n λi=>F i j
 | 0=>(pj r λ_ _=>rfl).symm
 | n+1=>by
  rw[sm,KA r F k n,<- w9 r];rfl
theorem xa(r:Rg N p q){f:Nat->Nat}(n:Nat):∀k,(∀j,j<n+k->f j<N)->sm p (n+k) f=p (sm p n f) (sm p k λj=>f (n+j))
 | 0,h=>(r.z' (ph r λj hj=>h j (by omega))).symm
 | k+1,h=>by
  rw[<-GA,sm,xa r n k λj hj=>h j (by omega),sm,r.pa]
theorem UJ(r:Rg N p q){f:Nat->Nat}{n n':Nat}(hn:n<=n')(h:∀j,j<n'->f j<N)(hz:∀j,n<=j->j<n'->f j=0):sm p n' f=sm p n f:=by
 obtain⟨k,rfl⟩:=NI hn
 rw[xa r n k h,pj r (f:=λj=>f (n+j)) λj hj=>hz _ (by omega) (by omega),r.z' (ph r λj hj=>h j (by omega))]
noncomputable def ds(p q:Nat->Nat->Nat)(s c:Nat->Nat)(n:Nat):Nat:=sm p (n+1) λj=>q (c j) (s (n-j))
theorem UK(r:Rg N p q)(s c:Nat->Nat)(n:Nat):ds p q s c n<N:=ph r λj _=>r.lq _ _
noncomputable def eO(k:Nat)(b:Nat->Nat)(j:Nat):Nat:=if j<k then 0 else b (j-k)
theorem KC(r:Rg N p q)(s b:Nat->Nat){k n:Nat}(h:k<=n):ds p q s (eO k b) n=ds p q s b (n-k):=by
 unfold ds
 obtain⟨d,rfl⟩:=NI h
 rw[show k+d+1=k+(d+1) by omega,xa r k (d+1) λj _=>r.lq _ _,pj r (n:=k),r.z (ph r λj _=>r.lq _ _)]
 ·rw[yH]
  refine gC λj _=>?_
  unfold eO
  rw[if_neg (by omega),yH,show k+d-(k+j)=d-j by omega]
 ·intro j hj
  unfold eO
  rw[if_pos hj,r.mc,r.qz]
structure BI(N:Nat)(p q:Nat->Nat->Nat)(s:Nat->Nat)(n L:Nat)(c b:Nat->Nat)(o:Nat):Prop where
 c0:c 0=1
 cz:∀j,L<j->c j=0
 cl:∀j,c j<N
 ln:L<=n
 kp:∀i,L<=i->i<n->ds p q s c i=0
 mn:∀L1 c1,c1 0=1->(∀j,L1<j->c1 j=0)->(∀j,c1 j<N)->(∀i,L1<=i->i<n->ds p q s c1 i=0)->L<=L1
 b0:b 0=0
 bz:∀j,n+1-L<j->b j=0
 bl:∀j,b j<N
 bk:∀i,n+1-L<=i->i<n->ds p q s b i=0
 bo:n+1-L<=n->ds p q s b n=o
theorem KD(r:Rg N p q){b:Nat->Nat}(h:∀j,b j<N)(j:Nat):eO 1 b j<N:=by
 unfold eO
 split
 ·exact r.pos
 ·exact h _
theorem KG{b:Nat->Nat}{n:Nat}(h:∀j,n<j->b j=0)(j:Nat)(hj:n+1<j):eO 1 b j=0:=by
 unfold eO
 rw[if_neg (by omega)]
 exact h _ (by omega)
theorem BI.same(r:Rg N p q){s c b:Nat->Nat}{n L o:Nat}(I:BI N p q s n L c b o)(h:ds p q s c n=0):BI N p q s (n+1) L c (eO 1 b) o where
 c0:=I.c0
 cz:=I.cz
 cl:=I.cl
 ln:=by have:=I.ln;omega
 kp:=λi h1 h2=>by
  by_cases e:i=n
  ·rw[e];exact h
  ·exact I.kp i h1 (by omega)
 mn:=λL1 c1 h1 h2 h3 h4=>I.mn L1 c1 h1 h2 h3 λi a b=>h4 i a (by omega)
 b0:=rfl
 bz:=λj hj=>KG I.bz j (by have:=I.ln;omega)
 bl:=KD r I.bl
 bk:=λi h1 h2=>by
  have:=I.ln
  rw[KC r s b (show 1<=i by omega)]
  exact I.bk _ (by omega) (by omega)
 bo:=λh1=>by
  rw[KC r s b (by omega)]
  exact I.bo (by have:=I.ln;omega)
end
end L3
namespace L3
section
variable{N:Nat}{p q:Nat->Nat->Nat}
theorem KH{s:Nat->Nat}{j n:Nat}(h:n<j):eO j s n=0:=if_pos h
theorem uG(s:Nat->Nat){j n:Nat}(h:j<=n):eO j s n=s (n-j):=if_neg (by omega)
theorem Rg.zq(r:Rg N p q)(a:Nat):q 0 a=0:=by rw[r.mc];exact r.qz a
theorem xb(r:Rg N p q)(s c:Nat->Nat){n M:Nat}(h:n<M):ds p q s c n=sm p M λj=>q (c j) (eO j s n):=by
 unfold ds
 rw[UJ r (show n+1<=M by omega) (λj _=>r.lq _ _) λj h1 _=>by rw[KH (by omega),r.qz]]
 exact gC λj hj=>by rw[uG s (by omega)]
theorem UL(r:Rg N p q)(s a b:Nat->Nat)(n:Nat):ds p q s (λj=>p (a j) (b j)) n=p (ds p q s a n) (ds p q s b n):=by
 unfold ds
 rw[<-w9 r]
 exact gC λj _=>by rw[r.mc (p _ _),r.dl,r.mc (a j),r.mc (b j)]
theorem UM(r:Rg N p q)(s t c:Nat->Nat)(n:Nat):ds p q (λj=>p (s j) (t j)) c n=p (ds p q s c n) (ds p q t c n):=by
 unfold ds
 rw[<-w9 r]
 exact gC λj _=>r.dl _ _ _
theorem UN(r:Rg N p q){a b s:Nat->Nat}(ha:∀j,a j<N)(hb:∀j,b j<N)(hs:∀j,s j<N)(n:Nat):ds p q s (ds p q b a) n=ds p q (ds p q s b) a n:=by
 have lh:∀(s:Nat->Nat) (k j:Nat),(∀j,s j<N)->eO k s j<N:=λs k j h=>by
  unfold eO
  split
  ·exact r.pos
  ·exact h _
 rw[xb r (ds p q s b) a (sG n),xb r s (ds p q b a) (sG n)]
 have e1:sm p (n+1) (λk=>q (ds p q b a k) (eO k s n))=sm p (n+1) λk=>sm p (n+1) λi=>q (a i) (q (eO i b k) (eO k s n)):=gC λk hk=>by
  rw[xb r b a hk,r.mc,<- A9 r]
  exact gC λi _=>by rw[r.mc,r.ma (ha i) (lh b i k hb) (lh s k n hs)]
 rw[e1,KA r]
 refine gC λi hi=>?_
 rw[A9 r (a i)]
 congr 1
 rw[uG _ (by omega),xb r s b (show n-i<n+1-i by omega),show n+1=i+(n+1-i) by omega,xa r i _ λj _=>r.lq _ _,pj r (n:=i) λj hj=>by rw[KH hj,r.zq]]
 rw[r.z (ph r λj _=>r.lq _ _),yH]
 refine gC λj hj=>?_
 rw[uG b (by omega),yH,uG s (by omega),uG s (by omega),show n-(i+j)=n-i-j by omega]
theorem UO(r:Rg N p q){u s:Nat->Nat}{d e:Nat}(hu:∀j,d<=j->u j=0)(hs:∀j,e<=j->s j=0)(n:Nat)(h:d+e<=n):ds p q s u n=0:=pj r λj _=>by
 by_cases h1:d<=j
 ·rw[hu j h1,r.zq]
 ·rw[hs _ (by omega),r.qz]
noncomputable def Mk(N:Nat)(p q:Nat->Nat->Nat)(a r0 r1:Nat->Nat):Prop:=∃(u0 u1:Nat->Nat) (d:Nat),(∀j,u0 j<N)/\(∀j,u1 j<N)/\(∀j,d<=j->u0 j=0)/\(∀j,d<=j->u1 j=0)/\∀k,a k=p (ds p q r0 u0 k) (ds p q r1 u1 k)
theorem Mk.next(r:Rg N p q){a r0 r1 r2 t:Nat->Nat}{e:Nat}(h:Mk N p q a r0 r1)(l1:∀j,r1 j<N)(lt:∀j,t j<N)(ft:∀j,e<=j->t j=0)(h2:∀k,r0 k=p (ds p q r1 t k) (r2 k)):Mk N p q a r1 r2:=by
 obtain⟨u0,u1,d,a1,a2,a3,a4,a5⟩:=h
 refine⟨λj=>p (ds p q t u0 j) (u1 j),u0,d+e,λj=>r.lp (UK r _ _ _) (a2 j),a1,λj hj=>?_,λj hj=>a3 j (by omega),λk=>?_⟩
 ·show p (ds p q t u0 j) (u1 j)=0
  rw[UO r a3 ft j hj,a4 j (by omega)];exact r.z r.pos
 ·rw[a5 k,UL r,UN r a1 lt l1,show r0=λk=>p (ds p q r1 t k) (r2 k) from funext h2,UM r,r.pa,r.pa,r.pc (ds p q r2 u0 k)]
end
end L3
namespace L3
open PySem L2 Mf
theorem rg{m:Bool × Nat}(hm:m∈bJ):Rg (au m) (gp m) (gm m) where
 pc:=Kx m
 pa:=Ux m
 mc:=q8 m
 ma:=λ_ _ _=>Kg (jl m hm) _ _ _
 dl:=λa b c=>Uz (jl m hm) b c a
 z:=UC
 qz:=λa=>Kn m a (jl m hm)
 one:=Ki
 lp:=UB hm
 lq:=Ky hm
 ng:=λ{a} ha=>by
  have g:=UH hm (a:=0) (b:=a) (by omega) ha
  exact⟨_,g.2.1,(Kx m _ _).trans g.2.2⟩
theorem UP(p:Nat->Nat->Nat)(l:List Nat):l.foldl p 0=sm p l.length λj=>l.getD j 0:=by
 have key:∀n,n<=l.length->(l.take n).foldl p 0=sm p n λj=>l.getD j 0:=by
  intro n
  induction n with
  | zero=>intro _;rfl
  | succ n ih =>
   intro h
   rw[yB,br (by omega),GB,ih (by omega),sm,cY,br (show n<l.length by omega)]
   rfl
 have:=key l.length (bH _)
 rw[List.take_length]at this
 exact this
theorem Ba{p q:Nat->Nat->Nat}{s s' c:Nat->Nat}{n:Nat}(h:∀j,j<n+1->s j=s' j):ds p q s c n=ds p q s' c n:=gC λj hj=>by rw[h (n-j) (by omega)]
theorem BI.other{N:Nat}{p q:Nat->Nat->Nat}(r:Rg N p q){s s' c b:Nat->Nat}{n L o:Nat}(I:BI N p q s n L c b o)(h:∀j,j<n->s j=s' j):BI N p q s' n L c b o where
 c0:=I.c0
 cz:=I.cz
 cl:=I.cl
 ln:=I.ln
 kp:=λi h1 h2=>by rw[<-Ba λj hj=>h j (by omega)];exact I.kp i h1 h2
 mn:=λL1 c1 h1 h2 h3 h4=>I.mn L1 c1 h1 h2 h3 λi a b=>by rw[Ba λj hj=>h j (by omega)];exact h4 i a b
 b0:=I.b0
 bz:=I.bz
 bl:=I.bl
 bk:=λi h1 h2=>by rw[<-Ba λj hj=>h j (by omega)];exact I.bk i h1 h2
 bo:=λh1=>by
  rw[<-I.bo h1]
  refine gC λj hj=>?_
  by_cases e:j=0
  ·rw[e,I.b0,r.mc,r.qz,r.mc,r.qz]
  ·rw[h (n-j) (by omega)]
theorem BI.start{m:Bool × Nat}(hm:m∈bJ)(s:Nat->Nat):BI (au m) (gp m) (gm m) s 0 0 (cf [1]) (eO 1 (cf [1])) 1:=by
 have lo:=(eN hm).lo
 have cl:∀j,cf [1] j<au m:=λj=>by
  cases j with
  | zero=>exact lo
  | succ j=>exact cm (show 0<2 by decide) lo
 have cz:∀j,0<j->cf [1] j=0:=λj hj=>w6 (show([1]:List Nat).length<=j from hj)
 exact⟨rfl,cz,cl,bH _,λi _ h=>absurd h (Nat.not_lt_zero i),λ_ _ _ _ _ _=>ju _,rfl,λj hj=>KG cz j hj,KD (rg hm) cl,λi _ h=>absurd h (Nat.not_lt_zero i),λh=>absurd h (by omega)⟩
end L3
namespace L3
open PySem L2 PySem.Spec PyProof.Rows
section
variable{X:Cx}{i j:Nat}{x y:Str}{p pos pos' apos bh:Pos}
end
section
variable{X:Cx}{e:Expr}{t:aH}{p pos:Pos}
end
section
variable{X:Cx}
end
end L3
namespace L3
open PySem L2 Mf
noncomputable def aC(o:Bool)(T:List (List Nat)):List D:=T.map λr=>.lst o (ax r)
theorem m5(o:Bool)(T:List (List Nat)):(aC o T).length=T.length:=by unfold aC;rw[cB]
theorem dE(o:Bool)(T:List (List Nat)):(aC o T).map D.sh=aC false T:=by
 unfold aC
 rw[bQ]
 exact sM λr _=>A8 o r
theorem pk(T:List (List Nat)):(aC false T).all D.pl=true:=by
 unfold aC
 rw[kO,cQ]
 intro r _
 show(D.lst false (ax r)).pl=true
 rw[eW,kb];rfl
theorem Bb(T:List (List Nat)):(aC true T).all D.fr=true:=by
 unfold aC
 rw[kO,cQ]
 intro r _
 exact gY r
theorem UQ(o:Bool)(S T:List (List Nat)):aC o S++aC o T=aC o (S++T):=by unfold aC;rw[gI]
theorem pq(o:Bool){T:List (List Nat)}{i:Nat}(h:i<T.length):da (aC o T) (i:Int)=some (.lst o (ax T[i])):=by
 refine L3.zo ?_
 unfold aC
 rw[dB,br h];rfl
theorem UR(n:Nat)(o:Bool)(T:List (List Nat)):(aC o T).all (aB (n+1))=true:=by
 unfold aC
 rw[kO,cQ]
 intro r _
 exact q9 _ _ _
theorem iG(n:Nat)(o o':Bool)(T:List (List Nat)):aB (n+2) (.lst o (aC o' T))=true:=UR n o' T
theorem KI(o o':Bool):∀(a b:List (List Nat)),aY.dS (aC o a) (aC o' b)=decide (a=b)
 | [],[]=>rfl
 | [],_::_=>by simp[aC,aY.dS]
 | _::_,[]=>by simp[aC,aY.dS]
 | x::xs,y::ys=>by
  show(aY (.lst o (ax x)) (.lst o' (ax y))&&aY.dS (aC o xs) (aC o' ys))=_
  rw[KI o o' xs ys,pf,yu];simp
theorem pz(o o' o1 o2:Bool)(a b:List (List Nat)):aY (.lst o (aC o1 a)) (.lst o' (aC o2 b))=decide (a=b):=KI o1 o2 a b
noncomputable def gD(T:List (List Nat)):Nat:=(T.headD []).length
noncomputable def RT(N w:Nat)(T:List (List Nat)):Prop:=∀r∈T,r.length=w/\AllLt N r
theorem RT.app{N w:Nat}{S T:List (List Nat)}(a:RT N w S)(b:RT N w T):RT N w (S++T):=λr hr=>(cA.mp hr).elim (a r) (b r)
end L3
namespace L2
open PySem PySem.Spec PyProof.Rows
theorem US{M:Model}{A:Around}{E:Value->Shared->Prop}{s:Shared}{scope:Scope}{globals:Addr}{cl:List (Str × Addr)}{qual:Str}{env:Env}{bi:Addr}{Q:Env->Shared->Prop}
  (hQ:Q (newEnv scope s.heap.objs.size globals (cellsFrom (s.heap.objs.size+1) scope.names cl) qual none .none (some env) bi) { s with heap:=pushCells (s.heap.push { cls:=.type "dict",data:=.dict #[] }) scope.names }) :
  wpAny M A (newFunctionEnv scope globals cl [] qual none .none (some env) bi) Q E s:=by
 simp only[newFunctionEnv,Option.isSome_some,if_true]
 refine wpAny_bind (wpAny_alloc (wpAny_bind (wpAny_layCells _ (λname kind cells=>by cases e:kind==yI<;>simp[e]) _ _ _ _ ?_)))
 rw[List.forIn_nil]
 refine wpAny_bind (wpAny_pure (wpAny_pure ?_))
 have z:({ s with heap:=s.heap.push { cls:=.type "dict",data:=.dict #[] } }:Shared).heap.objs.size=s.heap.objs.size+1:=pL ..
 rw[z]
 exact hQ
theorem uH:∀(ns:List (Str × NameKind)) (n:Nat) (acc:List (Str × Addr)) (y:Str) (c:Addr),(cellsFrom n ns acc).lookup y=some c->(n<=c/\(y,yI)∈ns)\/acc.lookup y=some c
 | [],_,_,_,_,h=>.inr h
 | (z,k)::r,n,acc,y,c,h=>by
  unfold cellsFrom at h
  split at h
  ·rename_i hk
   rcases uH r (n+1) _ y c h with⟨h1,h2⟩ | h1
   ·exact .inl ⟨by omega,hE _ h2⟩
   ·rw[eA]at h1
    cases q:y==z with
    | true =>
     rw[q]at h1;cases h1
     exact .inl ⟨bH _,by rw[eq_of_beq q,eq_of_beq hk];exact vl⟩
    | false=>rw[q]at h1;exact .inr h1
  ·rcases uH r n acc y c h with⟨h1,h2⟩ | h1
   ·exact .inl ⟨h1,hE _ h2⟩
   ·exact .inr h1
theorem Bc:∀(ns:List (Str × NameKind)) (n:Nat) (acc:List (Str × Addr)),(∀y z c,acc.lookup y=some c->acc.lookup z=some c->y=z)->(∀y c,acc.lookup y=some c->c<n) ->
  ∀y z c,(cellsFrom n ns acc).lookup y=some c->(cellsFrom n ns acc).lookup z=some c->y=z
 | [],_,_,i,_,y,z,c,h1,h2=>i y z c h1 h2
 | (u,k)::r,n,acc,i,b,y,z,c,h1,h2=>by
  unfold cellsFrom at h1 h2
  split at h1
  ·rw[if_pos (by assumption)]at h2
   refine Bc r (n+1) ((u,n)::acc) (λy z c e1 e2=>?_) (λy c e=>?_) y z c h1 h2
   ·rw[eA]at e1 e2
    cases q1:y==u with
    | true =>
     rw[q1]at e1;cases e1
     cases q2:z==u with
     | true=>rw[eq_of_beq q1,eq_of_beq q2]
     | false=>rw[q2]at e2;exact absurd (b _ _ e2) (eQ _)
    | false =>
     rw[q1]at e1
     cases q2:z==u with
     | true=>rw[q2]at e2;cases e2;exact absurd (b _ _ e1) (eQ _)
     | false=>rw[q2]at e2;exact i y z c e1 e2
   ·rw[eA]at e
    cases q:y==u with
    | true=>rw[q]at e;cases e;exact sG _
    | false=>rw[q]at e;exact Nat.lt_succ_of_lt (b _ _ e)
  ·rw[if_neg (by assumption)]at h2
   exact Bc r n acc i b y z c h1 h2
theorem Bd:∀(ns:List (Str × NameKind)) (n:Nat) (acc:List (Str × Addr)) (y:Str) (c:Addr),(y,yI)∈ns->(cellsFrom n ns acc).lookup y=some c->n<=c
 | [],_,_,_,_,m,_=>nomatch m
 | (z,k)::r,n,acc,y,c,m,h=>by
  unfold cellsFrom at h
  split at h
  ·rename_i hk
   rcases bV.mp m with e | m
   ·have e1:y=z:=(Prod.mk.inj e).1
    rcases uH r (n+1) _ y c h with⟨h1,_⟩ | h1
    ·exact vw h1
    ·rw[eA,e1,beq_self_eq_true]at h1
     exact Ge (cP h1)
   ·exact vw (Bd r (n+1) _ y c m h)
  ·rename_i hk
   rcases bV.mp m with e | m
   ·cases e;exact absurd rfl hk
   ·exact Bd r n acc y c m h
noncomputable def cL(X:Cx)(scope:Scope)(N:List Str)(cl:List (Str × Addr))(C:Addr)(s:Shared)(H:Hp)(fp:List Addr):Cx :=
 { vT X scope N (cellsFrom (C+1) scope.names cl) C s H fp with fn:=λy=>scope.names.contains (y,yI) }
section
variable{X:Cx}{scope:Scope}{cl:List (Str × Addr)}
theorem UT{pins:List (Addr × Obj)}{σ:St}{H:Hp}{s:Shared}{fp:List Addr}{C:Addr}(I:Inv X pins σ H s)(fH:scope.kind=.function)(hC:s.heap.objs.size<=C)
  (dw:∀y c,cl.lookup y=some c->X.env.cells.lookup y=some c) (UU:∀y,((relabel scope X.env).names.lookup y=some .cell\/(relabel scope X.env).names.lookup y=some .free)->∃c,(cellsFrom (C+1) scope.names cl).lookup y=some c)
  (hf:∀b∈fp,fB X pins H b) (ho:∀b∈fp,∃o,s.heap.get? b=some o/\∀v,o.data≠.cell v) (N:List Str):(cL X scope N cl C s H fp).Ok where
 mod:=I.ok.mod
 kind:=fH
 glob:=I.ok.glob
 blt:=I.ok.blt
 above:=hC
 inj:=Bc scope.names (C+1) cl (λy z c h1 h2=>I.ok.inj y z c (dw _ _ h1) (dw _ _ h2)) λy c e=>by
  obtain⟨v,o,ho,_⟩:=I.cell y c (dw y c e)
  exact Nat.lt_succ_of_le (vk (cm (bj ho) hC))
 has:=UU
 nL:=λy c h e=>dW hC (vw (Bd _ _ _ y c (List.contains_iff_mem.mp h) e))
 hd:=I.ok.hd
 frames:=I.ok.frames
 sU:=.inl rfl
 sV:=λb hb=>⟨by
  obtain⟨o,e,_⟩:=ho b hb
  exact dG (cm (bj e) hC),λy c e z=>by
  rcases uH _ _ _ y c e with⟨h1,_⟩ | h1
  ·obtain⟨o,e,_⟩:=ho b hb
   rw[z]at h1
   exact absurd (cm (bj e) (dW hC (vw h1))) (eQ _)
  ·exact(hf b hb).2.2.2.2.1 y c (dw _ _ h1) z⟩
 bs:=I.bs
 fx:=dW I.ok.fx I.sz
 qm:=λb o e hb=>by
  rcases(hf b hb).2.2.2.1 with z | z
  ·exact I.ok.qm b o e z
  ·exact absurd (cm (bj (I.ok.bs b o e).1) z) (eQ _)
 qo:=λb hb z=>(bV.mp (I.sX b z)).elim (hf b hb).2.1 (hf b hb).2.2.1
 eC:=I.stack
 fY:=I.vD
end
theorem Be:∀(ns:List (Str × NameKind)) (h:Heap) (acc:List (Str × Addr)) (y:Str) (c:Addr),(cellsFrom h.objs.size ns acc).lookup y=some c->(∃o,(pushCells h ns).get? c=some o/\o.data=.cell none)\/acc.lookup y=some c
 | [],_,_,_,_,e=>.inr e
 | (z,k)::r,h,acc,y,c,e=>by
  unfold cellsFrom at e
  unfold pushCells
  split at e
  ·rename_i hk
   rw[if_pos hk]
   rw[<-pL h { cls:=.type "cell",data:=.cell none }]at e
   rcases Be r _ _ y c e with h1 | h1
   ·exact .inl h1
   ·rw[eA]at h1
    cases q:y==z with
    | true =>
     rw[q]at h1;cases h1
     exact .inl ⟨_,pushCells_keeps _ _ _ _ (fb _ rfl),rfl⟩
    | false=>rw[q]at h1;exact .inr h1
  ·rename_i hk
   rw[if_neg hk]
   exact Be r h acc y c e
end L2
namespace L2
open PySem PySem.Spec PyProof.Rows
section
variable{X:Cx}{elt iter tg:Expr}{pos:Pos}{ifs:List Expr}{scope:Scope}{cl:List (Str × Addr)}{wi:TI}{tt:TT}{te:TE}{g:TG}
theorem KJ(aq:List (Str × Nat))(bu:List Str)(hc:X.calm=true)(hi:PI X tg iter wi)
  (hg:∀C s H fp,PG (cL X scope (aq.map (·.1)++bu) cl C s H fp) tg g)
  (ht:∀C s H fp,nZ (cL X scope (aq.map (·.1)++bu) cl C s H fp) ifs tt) (he:∀C s H fp,PE (cL X scope (aq.map (·.1)++bu) cl C s H fp) elt te)
  (kr:closureFor scope X.env=pure cl) (ku:jE X cl) (ky:∀C:Addr,jF (cellsFrom (C+1) scope.names cl) (relabel scope X.env).names) (kz:∀C:Addr,jD X scope (cellsFrom (C+1) scope.names cl) aq)
  (fH:scope.kind=.function) (kA:∀y∈scope.names,y.2=.local->scope.names.lookup y.1=some .local)
  (hs:∀x,foldedSetIterable iter X.env x=pure x:=by intro _;rfl) {pins:List (Addr × Obj)} {s:Shared} {σ:L2.St} {H:Hp} {Q:VK} {use:Option (Value->Sem Unit)} {bh:Pos} {Rf:Value->Shared->Prop} (I:Inv X pins σ H s) (h:vU wi aq bu.length g tt te σ H Q)
  (UW:∀(s':Shared) (H':Hp) (C Da:Addr) (m:Str->Option Value),Inv X pins σ H' s'->s'.heap.Ns C m->H' C=none->C≠X.env.locals->X.bL.heap.objs.size<=C->(∀x c,X.env.cells.lookup x=some c->c≠C)->(∀p∈X.pn++pins,p.1≠C)->C ∉ X.fs->Q (.ref Da) H' ->
   compPost (model X.prog X.w) X.A X.xe use Rf (.ref Da) C (.ok .next) s') :
  wpAny (model X.prog X.w) X.A (comprehension (.ListComp elt [⟨tg,iter,ifs,0⟩] scope pos) scope X.env bh (newList []) false (eval iter X.env) use) Rf X.xe s:=by
 have dw:=ku.all
 refine wpAny_comprehension_free (use:=use) rfl hs kr fH kA (aG (hi pins s σ H _ I h) λv s1 h1=>aG h1 λyX s2 h2=>?_)
 obtain⟨it,fp,tn,J,H2,e,I2,T,tw,f2,q⟩:=h2
 subst e
 refine wpAny_newList ?_
 refine US ?_
 have hD:H2 s2.heap.objs.size=none:=I2.av.fresh (bH _)
 obtain⟨W,⟨m0,w0⟩,turn⟩:=q s2.heap.objs.size hD
 generalize Bf:s2.heap.push { cls:=.type "list",data:=.seq ([]:List Value).toArray }=g0 at ⊢
 have hCs:g0.objs.size=s2.heap.objs.size+1:=by rw[<-Bf,pL]
 have UX:s2.heap.objs.size≠g0.objs.size:=by omega
 have hle:s2.heap.objs.size<=g0.objs.size:=by omega
 have qq:∀b o,s2.heap.get? b=some o->b≠g0.objs.size:=λb o e=>dG (cm (bj e) hle)
 obtain⟨g1,xf⟩:∃g1,g1=pushCells (g0.push { cls:=.type "dict",data:=.dict #[] }) scope.names:=⟨_,rfl⟩
 have UY:g1.Ns g0.objs.size (λ_=>none):=by rw[xf];exact(Heap.Ns.new g0 (.type "dict")).keeps (pushCells_keeps _ _)
 have KL:∀b o,g0.get? b=some o->g1.get? b=some o:=λb o e=>by rw[xf];exact pushCells_keeps _ _ b o (dX _ e)
 have old:∀b o,s2.heap.get? b=some o->g1.get? b=some o:=λb o e=>KL b o (Bf ▸ dX _ e)
 rw[<-xf]
 have UZ:g1.get? s2.heap.objs.size=some { cls:=.type "list",data:=.seq ([]:List Value).toArray }:=KL _ _ (Bf ▸ fb _ rfl)
 have KN:∀b∈fp,∃o,s2.heap.get? b=some o/\∀v,o.data≠.cell v:=T.obj _ _ tw
 have xg:=UT (scope:=scope) (cl:=cl) (C:=g0.objs.size) I2 fH hle dw (ky g0.objs.size).all f2 KN (aq.map (·.1)++bu)
 have I4:Inv (cL X scope (aq.map (·.1)++bu) cl g0.objs.size s2 H2 fp) [] (eT aq bu.length σ) (upd H2 s2.heap.objs.size (.lst [])) { s2 with heap:=g1 }:=by
  refine⟨xg,rfl,I2.bare,Un.laid old (bH _) hD,⟨_,UY,λi y v h1 h2 h3=>?_⟩,λy c e=>?_,?_,λy c e=>?_,λp hp=>absurd hp (by simp[cL,vT]),I2.av.laid old (bH _) ⟨ju _,[],0,.nil,UZ⟩,by simp[eT,cL,vT]⟩
  ·by_cases Bg:i<aq.length
   case neg =>
    have gn:((aq.map λp=>(σ[p.2]?).getD none)++aX bu.length none)[i]?=some (some v):=h2
    rw[sH (by simpa using Bg),Gg]at gn
    split at gn<;>cases gn
   case pos =>
    have eU:(aq.map (·.1))[i]?=some y:=by
     have z:(aq.map (·.1)++bu)[i]?=some y:=h1
     rwa [Gh (by simpa using Bg)]at z
    have gn:(aq.map λp=>(σ[p.2]?).getD none)[i]?=some (some v):=by
     have z:((aq.map λp=>(σ[p.2]?).getD none)++aX bu.length none)[i]?=some (some v):=h2
     rwa [Gh (by simpa using Bg)]at z
    rw[dB]at eU gn
    cases hj:aq[i]? with
    | none=>rw[hj]at eU;cases eU
    | some p =>
     rw[hj]at eU gn
     have ey:p.1=y:=cP eU
     have ev:(σ[p.2]?).getD none=some v:=cP gn
     obtain⟨hN,hk,KO,c,e1,e2⟩:=(kz g0.objs.size).at p (sI hj)
     obtain⟨m,hn,hl⟩:=I2.loc
     have es:σ[p.2]?=some (some v):=by
      cases z:σ[p.2]? with
      | none=>rw[z]at ev;cases ev
      | some o=>rw[z]at ev;exact congrArg some ev
     obtain⟨u,ru,lk⟩:=hl p.2 p.1 v hN es (hk.elim (λz=>.inr (.inl z)) λz=>.inr (.inr z))
     refine⟨u,ru,?_⟩
     rcases lk with⟨lk,_⟩ | ⟨_,c',e3,ic⟩
     ·rcases hk with hk | hk
      ·have:=hk.symm.trans lk;cases this
      ·have:=hk.symm.trans lk;cases this
     ·rw[e2]at e3
      cases e3
      subst ey
      obtain⟨oc,fA,AQ⟩:=ic
      exact .inr ⟨KO,c,e1,oc,old _ _ fA,AQ⟩
  ·rcases Be _ _ _ y c (show(cellsFrom (g0.push { cls:=.type "dict",data:=.dict #[] }).objs.size scope.names cl).lookup y=some c by rw[pL];exact e)with h1 | h1
   ·rw[<-xf]at h1
    exact⟨none,h1⟩
   ·obtain⟨v,o,ho,hd⟩:=I2.cell y c (dw y c h1)
    exact⟨v,o,old _ _ ho,hd⟩
  ·show upd H2 _ _ g0.objs.size=none
   rw[aD (dz UX)]
   exact I2.av.fresh hle
  ·rcases uH _ _ _ y c e with⟨h1,_⟩ | h1
   ·rw[aD (FZ (kN hle h1))]
    exact I2.av.fresh (dW hle (vw h1))
   ·obtain⟨v,o,ho,hd⟩:=I2.cell y c (dw y c h1)
    rw[aD (dG (bj ho))]
    exact I2.fy y c (dw y c h1)
 have fin:∀(s':Shared) (H':Hp) (ai:L2.St),Inv (cL X scope (aq.map (·.1)++bu) cl g0.objs.size s2 H2 fp) [] ai H' s'->Q (.ref s2.heap.objs.size) H' ->
   compPost (model X.prog X.w) X.A X.xe use Rf (.ref s2.heap.objs.size) g0.objs.size (.ok .next) s':=by
  intro s' H' ai I' q'
  obtain⟨m,hn,_⟩:=I'.loc
  have u:=I'.base
  have U0:H' g0.objs.size=none:=I'.free
  have IX:Inv X pins σ H' s':=I2.N0 (s':=s') (ch:=fp) I'.os ⟨u.keep,u.slot,u.free,u.there,u.eI,u.eB,u.dH⟩ I'.av I'.bare λb hb=>by
   obtain⟨_,y1,y2,y3,y4,y5⟩:=f2 b hb
   exact⟨y3,y1,y4,y5⟩
  have KP:∀b,(∃o,s2.heap.get? b=some o)->b≠g0.objs.size:=λb ⟨o,e⟩=>qq b o e
  refine UW s' H' g0.objs.size s2.heap.objs.size m IX hn U0 (λz=>?_) (dW I2.sz hle) (λx c e z=>?_) (λp hp z=>?_) (λz=>?_) q'
  ·have h0:X.env.locals<s2.heap.objs.size:=I2.lt
   rw[<-z]at h0
   exact eQ _ (cm h0 hle)
  ·obtain⟨v,o,ho,_⟩:=I2.cell x c e
   exact KP c ⟨o,ho⟩ z
  ·exact KP p.1 ⟨_,(I2.pin p hp).1⟩ z
  ·exact I2.GH hle z
 have Bh:∀(H':Hp),(∀b∈fp,H' b=none)->∀b∈fp,fB (cL X scope (aq.map (·.1)++bu) cl g0.objs.size s2 H2 fp) [] H' b:=λH' hn b hb =>
  ⟨hn b hb,(xg.sV b hb).1,xg.qo b hb,.inl hb,(xg.sV b hb).2,λp hp=>absurd hp (by simp[cL,vT])⟩
 have loop:codeAny (model X.prog X.w) X.A (.compLoop (.ListComp elt [⟨tg,iter,ifs,0⟩] scope pos) 0 (.ref it) (.ref s2.heap.objs.size) (compEnvC scope (cellsFrom (g0.objs.size+1) scope.names cl) g0.objs.size X.env))
   (compPost (model X.prog X.w) X.A X.xe use Rf (.ref s2.heap.objs.size) g0.objs.size) { s2 with heap:=g1 }:=by
  refine QY (λn s'=>∃i acc H',Inv (cL X scope (aq.map (·.1)++bu) cl g0.objs.size s2 H2 fp) [] (eT aq bu.length σ) H' s'/\tn i s'.heap/\(∀b∈fp,H' b=none)/\W i n acc H') ?_ m0
   ⟨0,[],_,I4,T.keep _ _ _ tw λb hb o e=>old b o e,λb hb=>?_,w0⟩
  ·rintro n s' ⟨i,acc,H',I',kW,fO,w'⟩
   obtain⟨z9,⟨stop,qn⟩ | ⟨go,step⟩⟩:=turn i n acc H' w'
   ·refine aG (T.done (cL X scope (aq.map (·.1)++bu) cl g0.objs.size s2 H2 fp) rfl rfl rfl hc i [] s' _ H' (λ_ _=>False) I' (Bh H' fO) kW stop) λr t1 zz=>?_
    obtain⟨hr,I1⟩:=zz
    subst hr
    exact fin _ _ _ I1 qn
   ·refine aG (T.item (cL X scope (aq.map (·.1)++bu) cl g0.objs.size s2 H2 fp) rfl rfl rfl hc i [] s' _ H' (λ_ _=>False) I' (Bh H' fO) kW go) λr t1 zz=>?_
    obtain⟨u,hr,h4⟩:=zz
    subst hr
    refine aG h4 λ_ t2 zz=>?_
    obtain⟨x5,H5,I5,r5,y5,nQ,y7⟩:=zz
    obtain⟨wc,U1⟩:=step x5 H5 y5
    have y8:=I5.pinned (Bh H5 y7) (T.obj _ _ nQ)
    refine aG (hg _ _ _ _ _ t2 _ H5 x5 u _ y8 r5 U1) λ_ t3 zz=>?_
    obtain⟨y9,H6,I6,⟨U2,U3⟩,U4⟩:=zz
    have back:∀(s7:Shared) (H7:Hp) (Bi:List V) (m7:Nat),Inv (cL X scope (aq.map (·.1)++bu) cl g0.objs.size s2 H2 fp) ([]++tj fp t2.heap) y9 H7 s7->W (i+1) m7 Bi H7 ->
      ∃i acc H',Inv (cL X scope (aq.map (·.1)++bu) cl g0.objs.size s2 H2 fp) [] (eT aq bu.length σ) H' s7/\tn i s7.heap/\(∀b∈fp,H' b=none)/\W i m7 acc H':=λs7 H7 Bi m7 I7 w7 =>
     ⟨i+1,Bi,H7,(I7.tu).weak U2.symm λj v z=>by
       by_cases hj:j<aq.length
       ·rw[U3 j hj];exact z
       ·have z':((aq.map λp=>(σ[p.2]?).getD none)++aX bu.length none)[j]?=some (some v):=z
        rw[sH (by simpa using hj),Gg]at z'
        split at z'<;>(cases z'),
      T.keep _ _ _ nQ λb hb o e=>(I7.pin (b,o) (cI _ (cI _ (vL hb e)))).1,λb hb=>by
       obtain⟨o,e,d⟩:=T.obj _ _ nQ b hb
       exact(I7.pin (b,o) (cI _ (cI _ (vL hb e)))).2.1,w7⟩
    refine aG (ht _ _ _ _ _ t3 _ H6 _ I6 U4) λok t4 zz=>?_
    obtain⟨H7,I7,hD7,q7⟩:=zz
    cases ok with
    | false =>
     obtain⟨m',hm,w7⟩:=(show ∃m',m'<n/\W (i+1) m' acc H7 from q7)
     exact⟨m',hm,back t4 H7 acc m' I7 w7⟩
    | true =>
     refine aG (he _ _ _ _ _ t4 _ H7 _ I7 q7) λy t5 zz=>?_
     obtain⟨v8,H8,I8,r8,U5,U6,m',hm,w8⟩:=zz
     exact aG (zu _ t5 _ H8 (.ref s2.heap.objs.size) [v8] (.ref s2.heap.objs.size) [y] (λ_ H9=>H9=upd H8 s2.heap.objs.size (.lst (acc++[v8]))) I8 rfl (.cons r8 .nil) ⟨_,acc,v8,rfl,rfl,U5,U6,rfl⟩) λ_ t6 zz=>by
      obtain⟨_,H9,I9,_,e9⟩:=zz
      subst e9
      exact⟨m',hm,back t6 _ _ m' I9 w8⟩
  ·obtain⟨o,e,_⟩:=KN b hb
   rw[aD (dG (bj e))]
   exact(f2 b hb).1
 exact codeAny_compStart_list loop (T.self _ 0 _ _ _ (T.keep _ _ _ tw λb hb o e=>old b o e) loop)
theorem U7(aq:List (Str × Nat))(bu:List Str)(hc:X.calm=true)(hi:PI X tg iter wi)
  (hg:∀C s H fp,PG (cL X scope (aq.map (·.1)++bu) cl C s H fp) tg g)
  (ht:∀C s H fp,nZ (cL X scope (aq.map (·.1)++bu) cl C s H fp) ifs tt) (he:∀C s H fp,PE (cL X scope (aq.map (·.1)++bu) cl C s H fp) elt te)
  (kr:closureFor scope X.env=pure cl) (ku:jE X cl) (ky:∀C:Addr,jF (cellsFrom (C+1) scope.names cl) (relabel scope X.env).names) (kz:∀C:Addr,jD X scope (cellsFrom (C+1) scope.names cl) aq)
  (fH:scope.kind=.function) (kA:∀y∈scope.names,y.2=.local->scope.names.lookup y.1=some .local)
  (hs:∀x,foldedSetIterable iter X.env x=pure x:=by intro _;rfl):PE X (.ListComp elt [⟨tg,iter,ifs,0⟩] scope pos) (vU wi aq bu.length g tt te):=by
 intro pins s σ H Q I h
 rw[eval_ListComp]
 refine KJ aq bu hc hi hg ht he kr ku ky kz fH kA hs I h λs' H' C Da m IX hn hC hL h1 h2 h3 h4 q'=>?_
 exact⟨m,hn,λh' sb=>⟨.ref Da,H',IX.turned (t':=s'.toks) (λb o hb e=>sb.extBut b o hb e) hC hL (.inr h1) h2 h3,rfl,q'⟩⟩
theorem U8{i:Nat}{x:Str}{pos' apos:Pos}(hN:X.N.Nodup)(mP:X.N[i]?=some x)(hx:Loc X.env.scope x)(hf:X.fn x=true\/X.env.scope.names.lookup x=some .local)(aq:List (Str × Nat))(bu:List Str)(hc:X.calm=true)(hi:PI X tg iter wi)
  (hg:∀C s H fp,PG (cL X scope (aq.map (·.1)++bu) cl C s H fp) tg g)
  (ht:∀C s H fp,nZ (cL X scope (aq.map (·.1)++bu) cl C s H fp) ifs tt) (he:∀C s H fp,PE (cL X scope (aq.map (·.1)++bu) cl C s H fp) elt te)
  (kr:closureFor scope X.env=pure cl) (ku:jE X cl) (ky:∀C:Addr,jF (cellsFrom (C+1) scope.names cl) (relabel scope X.env).names) (kz:∀C:Addr,jD X scope (cellsFrom (C+1) scope.names cl) aq)
  (fH:scope.kind=.function) (kA:∀y∈scope.names,y.2=.local->scope.names.lookup y.1=some .local)
  (j0:swapsWith (.ListComp elt [⟨tg,iter,ifs,0⟩] scope pos) (some (.Name x pos')) apos.line X.env=pure true) (hs:∀x,foldedSetIterable iter X.env x=pure x:=by intro _;rfl):PS X (.Assign [.Name x pos'] (.ListComp elt [⟨tg,iter,ifs,0⟩] scope pos) apos) (yW (vU wi aq bu.length g tt te) (vJ i)):=by
 intro pins s σ H D I h
 rw[exec_Assign_Name_used x pos' _ apos j0]
 refine wpAny_bind (wpAny_standAt (wpAny_bind ?_))
 have hh:vU wi aq bu.length g tt te σ H λv H1=>D.nx (σ.set i (some v)) H1:=h
 show wpAny _ _ (comprehension (.ListComp elt [⟨tg,iter,ifs,0⟩] scope pos) scope X.env (firstIterPos [⟨tg,iter,ifs,0⟩] pos) (newList []) false (eval iter X.env) (some (assign (.Name x pos') X.env)) >>= λ_=>pure ()) _ _ _
 refine wpAny_bind (KJ (use:=some (assign (.Name x pos') X.env)) (pos:=pos) aq bu hc hi hg ht he kr ku ky kz fH kA hs I hh λs' H' C Da m IX hn hC hL h1 h2 h3 h4 q'=>?_)
 obtain⟨oC,es,ep,U9,KQ,cG⟩:=id hn
 have IP:Inv X (pins++[(C,oC)]) σ H' s':=⟨IX.ok,IX.os,IX.bare,IX.base,IX.loc,IX.cell,IX.free,IX.fy,λp hp=>by
  rcases cA.mp hp with z | z
  ·exact IX.pin p (eu _ z)
  ·rcases cA.mp z with z | z
   ·exact IX.pin p (cI _ z)
   ·obtain rfl:=hW.mp z
    exact⟨U9,hC,hL,h4,λv w=>by rw[KQ]at w;cases w⟩,IX.av,IX.len⟩
 refine aG (s9 (X:=X) hN mP hx hf _ s' σ H' (.ref Da) (.ref Da) (λgb H2=>gb=σ.set i (some (.ref Da))/\H2=H') IP rfl ⟨rfl,rfl⟩) λ_ s2 zz=>?_
 obtain⟨gb,H2,I2,e1,e2⟩:=zz
 subst e1 e2
 have pC:=I2.pin (C,oC) (cI _ (cI _ (by simp)))
 refine⟨m,⟨oC,es,ep,pC.1,KQ,cG⟩,λh' sb=>wpAny_pure (wpAny_pure ?_)⟩
 exact⟨σ.set i (some (.ref Da)),H2,(I2.tu).turned (t':=s2.toks) (λb o hb e=>sb.extBut b o hb e) hC hL (.inr h1) h2 h3,q'⟩
end
end L2
namespace L3
open PySem L2 PySem.Spec PyProof.Rows
section
variable{X:Cx}{elt iter tg:Expr}{pos:Pos}{ifs:List Expr}{scope:Scope}{cl:List (Str × Addr)}{ti:gQ}{tt:dQ}{te:aH}{g:eY}
theorem dy(aq:List (Str × Nat))(bu:List Str)(hc:X.calm=true)(hi:PI X tg iter (lI ti))
  (hg:∀C s H fp,PG (cL X scope (aq.map (·.1)++bu) cl C s H fp) tg (lG aq.length g))
  (ht:∀C s H fp,nZ (cL X scope (aq.map (·.1)++bu) cl C s H fp) ifs (lT tt)) (he:∀C s H fp,PE (cL X scope (aq.map (·.1)++bu) cl C s H fp) elt (lE te))
  (kr:closureFor scope X.env=pure cl) (ku:jE X cl) (ky:∀C:Addr,jF (cellsFrom (C+1) scope.names cl) (relabel scope X.env).names) (kz:∀C:Addr,jD X scope (cellsFrom (C+1) scope.names cl) aq)
  (fH:scope.kind=.function) (kA:∀y∈scope.names,y.2=.local->scope.names.lookup y.1=some .local)
  (hs:∀x,foldedSetIterable iter X.env x=pure x:=by intro _;rfl):PE X (.ListComp elt [⟨tg,iter,ifs,0⟩] scope pos) (lE (jQ ti aq bu.length g tt te)) :=
 cR (U7 aq bu hc hi hg ht he kr ku ky kz fH kA hs) λσ H Q ⟨B,F,δ,ts,Qd,c,q,k⟩=>⟨B,F,δ,ts,_,c,q,λsh xs aj J F1 H1 hq f1 h1 c1 oj t9=>by
  obtain⟨p,f,hx,dr,hlen,hQ⟩:=hq
  exact IH c1 oj t9 p f hx dr hlen hQ λd af v F' H' hd hf hs c'=>k d af v F' H' hd (f1.trans hf) (h1.trans hs) c'⟩
theorem uI{i:Nat}{x:Str}{pos' apos:Pos}(hN:X.N.Nodup)(mP:X.N[i]?=some x)(hx:L2.Loc X.env.scope x)(aq:List (Str × Nat))(bu:List Str)(hc:X.calm=true)(hi:PI X tg iter (lI ti))
  (hg:∀C s H fp,PG (cL X scope (aq.map (·.1)++bu) cl C s H fp) tg (lG aq.length g))
  (ht:∀C s H fp,nZ (cL X scope (aq.map (·.1)++bu) cl C s H fp) ifs (lT tt)) (he:∀C s H fp,PE (cL X scope (aq.map (·.1)++bu) cl C s H fp) elt (lE te))
  (kr:closureFor scope X.env=pure cl) (ku:jE X cl) (ky:∀C:Addr,jF (cellsFrom (C+1) scope.names cl) (relabel scope X.env).names) (kz:∀C:Addr,jD X scope (cellsFrom (C+1) scope.names cl) aq)
  (fH:scope.kind=.function) (kA:∀y∈scope.names,y.2=.local->scope.names.lookup y.1=some .local)
  (j0:swapsWith (.ListComp elt [⟨tg,iter,ifs,0⟩] scope pos) (some (.Name x pos')) apos.line X.env=pure true:=by rfl) (hf:X.fn x=true\/X.env.scope.names.lookup x=some .local:=by first | exact .inl rfl | exact .inr rfl)
  (hs:∀x,foldedSetIterable iter X.env x=pure x:=by intro _;rfl):PS X (.Assign [.Name x pos'] (.ListComp elt [⟨tg,iter,ifs,0⟩] scope pos) apos) (lS X (jO i (jQ ti aq bu.length g tt te))) :=
 gr (U8 hN mP hx hf aq bu hc hi hg ht he kr ku ky kz fH kA j0 hs) λEn σ H ⟨B,F,δ,Dd,c,q,k1,k2,k3,k4⟩=>⟨B,F,δ,[],_,c,q,λsh xs aj J F1 H1 hq f1 h1 c1 oj t9=>by
  obtain⟨p,f,hx,dr,hlen,hQ⟩:=hq
  exact IH (Qd:=λd af=>Dd.nx (af.set i (some d))) c1 oj t9 p f hx dr hlen hQ λd af v F' H' hd hf hs c'=>k1 _ _ F' H' hd (c'.store i)⟩
end
end L3
namespace L3
open PySem L2 Mf
inductive Sp(N:Nat)(p q:Nat->Nat->Nat)(S:(Nat->Nat)->Prop):(Nat->Nat)->Prop
 | mem {f:Nat->Nat}:S f->Sp N p q S f
 | zero:Sp N p q S λ_=>0
 | add {f g:Nat->Nat}:Sp N p q S f->Sp N p q S g->Sp N p q S λk=>p (f k) (g k)
 | mul {f:Nat->Nat} (c:Nat):c<N->Sp N p q S f->Sp N p q S λk=>q c (f k)
theorem Sp.trans{N:Nat}{p q:Nat->Nat->Nat}{S S':(Nat->Nat)->Prop}(h:∀f,S f->Sp N p q S' f){f:Nat->Nat}(s:Sp N p q S f):Sp N p q S' f:=by
 induction s with
 | mem a=>exact h _ a
 | zero=>exact .zero
 | add _ _ a b=>exact .add a b
 | mul c hc _ a=>exact .mul c hc a
theorem Sp.lt{N:Nat}{p q:Nat->Nat->Nat}(r:Rg N p q){S:(Nat->Nat)->Prop}(h:∀f,S f->∀k,f k<N){f:Nat->Nat}(s:Sp N p q S f):∀k,f k<N:=by
 induction s with
 | mem a=>exact h _ a
 | zero=>exact λ_=>r.pos
 | add _ _ a b=>exact λk=>r.lp (a k) (b k)
 | mul c hc _ a=>exact λk=>r.lq _ _
theorem KR{α β:Type}(f:α->β){l:List α}{i:Nat}(h:i<l.length)(a:α)(b:β):(l.map f).getD i b=f (l.getD i a):=by
 rw[cY,dB,cY,br h];rfl
theorem KS{α:Type}{l:List α}{i:Nat}(h:i<l.length)(a:α):l.getD i a∈l:=by
 rw[cY,br h];exact fv h
theorem Va(f:Nat->Nat){w k:Nat}(h:k<w):cf ((bf w).map f) k=f k:=by
 unfold cf
 rw[cY,dB,nG h];rfl
theorem KU(m:Bool × Nat){xs ys:List Nat}(h:xs.length=ys.length):gd m xs ys=sm (gp m) xs.length λj=>gm m (cf xs j) (cf ys j):=by
 unfold gd
 rw[UP,vx,h,Nat.min_self]
 refine gC λj hj=>?_
 unfold cf
 rw[cY,vy,br (by omega),br (by omega),cY,br (by omega),cY,br (by omega)]
 rfl
noncomputable def eP(m:Bool × Nat)(xs:List Nat)(T:List (List Nat))(w:Nat):List Nat:=(bf w).map λk=>gd m xs (T.map λr=>r.getD k 0)
theorem Vb{T:List (List Nat)}(k i:Nat):cf (T.map λr=>r.getD k 0) i=cf (T.getD i []) k:=by
 by_cases h:i<T.length
 ·exact KR (λr:List Nat=>r.getD k 0) h [] 0
 ·rw[w6 (by rw[cB];omega),cY,pV (by omega)];rfl
theorem Bj(m:Bool × Nat)(xs:List Nat)(T:List (List Nat))(w:Nat):(eP m xs T w).length=w:=by unfold eP;rw[cB,gJ]
theorem Vc(m:Bool × Nat){xs:List Nat}{T:List (List Nat)}{w k:Nat}(h:xs.length=T.length)(hk:k<w):cf (eP m xs T w) k=sm (gp m) T.length λi=>gm m (cf xs i) (cf (T.getD i []) k):=by
 unfold eP
 rw[Va _ hk,KU m (by rw[cB,h]),h]
 exact gC λj _=>by rw[Vb]
theorem Vd{m:Bool × Nat}(hm:m∈bJ){xs ys:List Nat}(h:xs.length=ys.length):gd m xs ys<au m:=by
 rw[KU m h];exact ph (rg hm) λj _=>Ky hm _ _
theorem KW{m:Bool × Nat}(hm:m∈bJ){xs:List Nat}{T:List (List Nat)}(w:Nat)(h:xs.length=T.length):AllLt (au m) (eP m xs T w):=λx hx=>by
 obtain⟨k,_,rfl⟩:=cZ.mp hx
 exact Vd hm (by rw[cB,h])
noncomputable def e8(T:List (List Nat)):List (List Nat):=(bf (gD T)).map λj=>T.map λr=>r.getD j 0
end L3
namespace L3
open PySem L2 Mf
noncomputable def dt(m:Bool × Nat)(w:Nat)(x y:Nat->Nat):Nat:=sm (gp m) w λj=>gm m (x j) (y j)
theorem Bk{N n:Nat}{M:List (List Nat)}(h:RT N n M)(h0:M≠[]):gD M=n:=by
 cases M with
 | nil=>exact absurd rfl h0
 | cons g M=>exact(h g vl).1
theorem Sp.sm{N:Nat}{p q:Nat->Nat->Nat}{S:(Nat->Nat)->Prop}{c:Nat->Nat}{F:Nat->Nat->Nat}:∀{n:Nat},(∀i,i<n->c i<N)->(∀i,i<n->Sp N p q S (F i))->Sp N p q S λk=>L3.sm p n λi=>q (c i) (F i k)
 | 0,_,_=>.zero
 | n+1,hc,h=>.add (Sp.sm (λi hi=>hc i (by omega)) λi hi=>h i (by omega)) (.mul _ (hc n (by omega)) (h n (by omega)))
noncomputable def fm(m:Bool × Nat)(A B:List (List Nat))(w:Nat):List (List Nat):=A.map λr=>eP m r B w
theorem Ve{m:Bool × Nat}(hm:m∈bJ){A B:List (List Nat)}{n w:Nat}(hA:RT (au m) n A)(hB:RT (au m) w B)(hn:B.length=n):(fm m A B w).length=A.length/\RT (au m) w (fm m A B w)/\∀a,a<A.length->∀k,cf ((fm m A B w).getD a []) k=sm (gp m) n λj=>gm m (cf (A.getD a []) j) (cf (B.getD j []) k):=by
 refine⟨by unfold fm;rw[cB],λx hx=>?_,λa ha k=>?_⟩
 ·obtain⟨y,hy,rfl⟩:=cZ.mp hx
  exact⟨Bj m _ _ _,KW hm w (by rw[(hA y hy).1,hn])⟩
 ·unfold fm
  rw[KR (λr=>eP m r B w) ha [] []]
  have la:=(hA _ (KS ha [])).1
  by_cases hk:k<w
  ·rw[Vc m (by rw[la,hn]) hk,hn]
  ·rw[w6 (by rw[Bj];omega),pj (rg hm) λj hj=>?_]
   rw[w6 (l:=B.getD j []) (by rw[(hB _ (KS (show j<B.length by omega) [])).1];omega),(rg hm).qz]
end L3
namespace L3
open PySem L2 PySem.Spec PyProof.Rows
section
variable{X:Cx}{F H:Hp}{e b:Expr}{pos pos' p p2 p3 apos bh:Pos}{ti te:aH}{x y:Str}{i j:Nat}
noncomputable def m6(i:Nat)(n:Int)(te ti:aH):bM:=λD δ=>te δ λd aj=>∃l1 ys l2,aj[i]?=some (some (.lst true (l1++.lst true ys::l2)))/\n=l1.length/\iz ti aj λk aF=>match k with
 | .int n=>∃jj,aF[i]?=some (some (.lst true (l1++.lst true ys::l2)))/\eR ys.length n=some jj/\D.nx (aF.set i (some (.lst true (l1++.lst true (ys.set jj d)::l2))))
 | _=>False
theorem Vf{n:Int}{tk:Nat}(hN:X.N[i]?=some x)(hv:fX X.env.scope x)(he:PE X e (lE te))(hi:PE X b (lB ti))(hd:(x==("__debug__":Str))=false:=by decide)(bI:(x==("__classdict__":Str))=false:=by decide)
  (ha:∀v,assign (.Subscript (.Subscript (.Name x p) (.Constant (.int n) tk p2) p3) b pos') X.env v=(do
   let ov<-holding [v] (eval (.Subscript (.Name x p) (.Constant (.int n) tk p2) p3) X.env)
   let iv<-holding [v,ov] (eval b X.env)
   standAt pos'
   holding [v,ov,iv] (setItem ov iv v)
   release [v,ov,iv] []):=by intro _;rfl)
  (hs:swapsWithSole [.Subscript (.Subscript (.Name x p) (.Constant (.int n) tk p2) p3) b pos'] e pos.line X.env=pure false:=by rfl) (hw:swappedStores [.Subscript (.Subscript (.Name x p) (.Constant (.int n) tk p2) p3) b pos'] e X.env=pure none:=by rfl)
  (h1:(assignEach [.Subscript (.Subscript (.Name x p) (.Constant (.int n) tk p2) p3) b pos'] X.env).map (·.2)=[assign (.Subscript (.Subscript (.Name x p) (.Constant (.int n) tk p2) p3) b pos') X.env]:=by rfl) :
  PS X (.Assign [.Subscript (.Subscript (.Name x p) (.Constant (.int n) tk p2) p3) b pos'] e pos) (lS X (m6 i n te ti)) :=
 gr (GU he (GS (Hh Hl (iW hN hv hd bI) qu (λ_ _=>rfl)) (dR hi) Hm ha) hs hw h1) λEn σ H ⟨B,F,δ,Dd,c,q,k1,k2,k3,k4⟩=>⟨B,F,δ,[],_,c,q,λd aj v F1 H1 hq f1 h1 c1=>by
  obtain⟨l1,ys,l2,e1,e2,hq⟩:=hq
  obtain⟨p0,ws,g1,g2,g3⟩:=c1.ownAt e1
  obtain⟨q0,us,g5,g6,g7,_⟩:=Au c1 e1 g1 g2
  subst e2
  refine⟨.ref p0,g1,p0,ws,_,.ref q0,rfl,rfl,aM.of g2,zo g5,B,F1,aj,[(d,v)],_,c1,hq,λkd aF kv F2 H2 hk f2 h2 c2=>?_⟩
  have st:=c2.top
  split at hk
  ·obtain⟨jj,ex,ej,hn⟩:=hk
   cases st
   have c3:=c2.pop
   refine⟨q0,us,_,jj,rfl,rfl,h2 _ _ g6,by rw[<-g7];exact ej,k1 _ _ F2 _ hn ?_⟩
   exact ag.Jf (ps:=[(d,v)]) (ts:=[]) c3 ex g1 (h2 _ _ g2) g5 λVg A1 A2 z r1 r2 nd=>by
    rw[h2 _ _ g6]at z;cases z
    exact R.zX jj r1 r2 nd
  ·exact hk.elim⟩
end
section
variable{X:Cx}
end
section
variable{X:Cx}{es:List Expr}{tr:bX}{pos:Pos}
theorem xh(h:PA X es (lA tr)):PE X (.List es pos) (lB (jL tr)) :=
 cR (G6 h) λσ H Q ⟨B,F,δ,ts,Qd,c,q,k⟩=>⟨B,F,δ,ts,_,c,q,λds aj vs F1 H1 q1 f1 h1 c1 s1=>⟨by rw[<-s1.length];exact q1.1,λp hp=>k _ aj _ F1 _ q1.2 f1 (h1.trans (ae.upd hp)) (c1.grow (ae.upd hp)) (.own bw (s1.mono (ae.refl _) (ae.upd hp)) .nil)⟩⟩
end
end L3
namespace L3
open PySem L2 Mf
end L3
namespace L3
open PySem L2 Mf
end L3
namespace L3
open PySem L2 Mf
end L3
namespace L2
open PySem PySem.Spec PyProof.Rows
section
variable{X:Cx}
end
end L2
namespace L3
open PySem L2 PySem.Spec PyProof.Rows
section
variable{X:Cx}
end
end L3
namespace L2
open PySem PySem.Spec PyProof.Rows
section
variable{X:Cx}{a:Expr}{ta:TE}{p p2 pos KY:Pos}
end
end L2
namespace L3
open PySem L2 PySem.Spec PyProof.Rows
section
variable{X:Cx}{a:Expr}{t:aH}{p p2 pos KY:Pos}
end
end L3
namespace L3
open PySem L2 PySem.Spec PyProof.Rows
section
variable{F H:Hp}
end
section
variable{X:Cx}{e:Expr}{t:aH}{p2 pos:Pos}
end
end L3
namespace L3
open PySem L2 PySem.Spec PyProof.Rows
noncomputable def zF(A:List Addr)(H:Hp):Hp:=λa=>if a∈A then none else H a
section
variable{F H:Hp}
end
section
variable{P:Program}{w:World}{K:PySem.W.Frag}{mg:Str->Option Value}{base:Heap}
end
section
variable{X:Cx}{CX:di}{n i:Nat}{f:Addr}{fd:FuncData}{ps:List Str}{sp:bB}{E:XK}{fn x:Str}{e:Expr}{te:aH}{p p2 pos pos' KY:Pos}
end
end L3
namespace L2
section
variable{α:Type}{P:List α->Prop}
theorem Vh(h:P []):∀us:List α,us.length=0->P us:=by
 intro us hl;rcases us with _ | ⟨a,t⟩
 ·exact h
 ·cases hl
theorem gE(h:∀a,P [a]):∀us:List α,us.length=1->P us:=by
 intro us hl;rcases us with _ | ⟨a,t⟩
 ·cases hl
 ·exact Vh (P:=λt=>P (a::t)) (h a) t (sR hl)
theorem gZ(h:∀a b,P [a,b]):∀us:List α,us.length=2->P us:=by
 intro us hl;rcases us with _ | ⟨a,t⟩
 ·cases hl
 ·exact gE (P:=λt=>P (a::t)) (h a) t (sR hl)
theorem iH(h:∀a b c,P [a,b,c]):∀us:List α,us.length=3->P us:=by
 intro us hl;rcases us with _ | ⟨a,t⟩
 ·cases hl
 ·exact gZ (P:=λt=>P (a::t)) (h a) t (sR hl)
theorem xi(h:∀a b c d,P [a,b,c,d]):∀us:List α,us.length=4->P us:=by
 intro us hl;rcases us with _ | ⟨a,t⟩
 ·cases hl
 ·exact iH (P:=λt=>P (a::t)) (h a) t (sR hl)
theorem Vi(h:∀a b c d e,P [a,b,c,d,e]):∀us:List α,us.length=5->P us:=by
 intro us hl;rcases us with _ | ⟨a,t⟩
 ·cases hl
 ·exact xi (P:=λt=>P (a::t)) (h a) t (sR hl)
theorem Vj(h:∀a b c d e f,P [a,b,c,d,e,f]):∀us:List α,us.length=6->P us:=by
 intro us hl;rcases us with _ | ⟨a,t⟩
 ·cases hl
 ·exact Vi (P:=λt=>P (a::t)) (h a) t (sR hl)
end
end L2
namespace L3
open PySem L2 PySem.Spec PyProof.Rows
section
variable{B:Bs}{F H:Hp}{σ:L2.St}{δ:Dl}{ts:List (D × V)}
theorem ag.apart{j:Nat}{p q:Addr}{xs ys:List D}(c:ag B F H σ δ ((.lst true xs,.ref q)::ts))(e:δ[j]?=some (some (.lst true ys)))(e2:σ[j]?=some (some (.ref p))):p≠q:=by
 obtain⟨A,C,r,s,nd,fr⟩:=c.own
 obtain⟨v,A',C',e1,h1,h2,pm⟩:=s.pick e
 rw[e2]at e1;cases e1
 intro z
 subst z
 have i1:p∈A:=by
  cases r with
  | own h f x r=>simp
 have i2:p∈C:=by
  refine pm.mem_iff.mpr ?_
  cases h1 with
  | own h f x r=>simp
 exact(cN.mp nd).2.2 p i1 i2
end
section
variable{X:Cx}{elt iter tg:Expr}{pos:Pos}{scope:Scope}{cl:List (Str × Addr)}{ti:gQ}{te:aH}{g:eY}
end
end L3
namespace L2
open PySem PySem.Spec PyProof.Rows
section
variable{X:Cx}
end
end L2
namespace L3
open PySem L2 PySem.Spec PyProof.Rows
section
variable{X:Cx}
end
end L3
namespace L3
open PySem L2 Mf
noncomputable def xj(l:List Nat)(z:Nat->Nat):Nat->List Nat
 | 0=>l
 | t+1=>(xj l z t).eraseIdx (z t%(xj l z t).length)
noncomputable def drawn(l:List Nat)(z:Nat->Nat)(t:Nat):Nat:=(xj l z t).getD (z t%(xj l z t).length) 0
end L3
namespace L3
open PySem L2 Mf
section
variable{m:Bool × Nat}{C:Nat->Nat->Nat}{w:Nat}
end
end L3
namespace L3
open PySem L2 Mf
section
variable{m:Bool × Nat}{C:Nat->Nat->Nat}{w:Nat}
end
end L3
namespace L3
open PySem L2 Mf
section
variable{m:Bool × Nat}{C:Nat->Nat->Nat}
end
noncomputable def pB(T:List (List Nat))(F:List Nat):List (List Nat):=T.map λr=>F.map λj=>r.getD j 0
end L3
namespace L3
open PySem L2 PySem.Spec PyProof.Rows
section
variable{B:Bs}{F H:Hp}{σ:L2.St}{δ:Dl}{ts:List (D × V)}
end
section
variable{X:Cx}{a:Expr}{ta:aH}{pos p2:Pos}{tk:Nat}
end
end L3
namespace L3
open PySem L2 PySem.Spec PyProof.Rows
section
variable{X:Cx}{a b:Expr}{ta tb:aH}{elts:List Expr}{x1:Nat}{nU p pos:Pos}
end
end L3
namespace L3
open PySem L2 Mf
section
variable{m:Bool × Nat}
end
end L3
namespace L3
open PySem L2 PySem.Spec PyProof.Rows
section
variable{B:Bs}{F H:Hp}{σ:L2.St}{δ:Dl}{ts ps:List (D × V)}{p:Addr}
open Classical in
theorem ag.Vk(c:ag B F H σ δ (ps++ts)):∃B',ag B' F H σ δ ps/\ae B.H0 B'.H0/\∀F' H' ai af qs,ag B' F' H' ai af qs->ag B F' H' ai af (qs++ts):=by
 obtain⟨A,C,r,s,nd,fr⟩:=c.own
 rw[gI,gI]at r
 obtain⟨v1,v2,A1,A2,e,rfl,h1,h2⟩:=R.split r
 have l1:(ps.map (·.2)).length=v1.length:=by rw[<-h1.length];simp
 obtain⟨rfl,rfl⟩:=pS e l1
 have i6:=nd
 have fO:=fr
 rw[cn]at i6 fO
 obtain⟨n1,n2,n3⟩:=cN.mp i6
 obtain⟨n4,n5,n6⟩:=cN.mp n2
 have Vl:∀a,a∈A1++C->B.H0 a=none:=λa ha=>fO a (by
  rcases cA.mp ha with z | z
  ·exact eu _ z
  ·exact cI _ (cI _ z))
 obtain⟨kB,hH,hN⟩:∃kB:Hp,(∀a,a ∉ A1++C->kB a=H a)/\∀a,a∈A1++C->kB a=none:=⟨λa=>if a∈A1++C then none else H a,λa ha=>if_neg ha,λa ha=>if_pos ha⟩
 have s0:ae B.H0 kB:=by
  have ni:∀a o,B.H0 a=some o->a ∉ A1++C:=λa o z w=>by rw[Vl a w]at z;cases z
  exact⟨λa o z n=>(hH a (ni a o z)).trans (c.b1.get a o z n),λa ps z=>by
   obtain⟨m,em⟩:=c.b1.tb a ps z
   exact⟨m,(hH a (ni a _ z)).trans em⟩⟩
 have d2:∀a∈A2,a ∉ A1++C:=λa ha z=>by
  rcases cA.mp z with z | z
  ·exact n3 a z (eu _ ha)
  ·exact n6 a ha z
 refine⟨⟨kB,F⟩,⟨c.ext,?_,ae.refl F,λa ws z=>.inl z,A1,C,h1,s,?_,λa ha=>hN a ha⟩,s0,λF' H' ai af qs c'=>?_⟩
 ·exact .of λa o z=>by
   by_cases w:a∈A1++C
   ·dsimp only at z;rw[hN a w]at z;cases z
   ·dsimp only at z;rwa [hH a w]at z
 ·exact cN.mpr ⟨n1,n5,λa ha hb=>n3 a ha (cI _ hb)⟩
 ·obtain⟨A',C',r',s',wk,Bl⟩:=c'.own
  have but:eX (A1++C) H H':=⟨λa o z w n=>c'.b1.get a o ((hH a w).trans z) n⟩
  have hl:fK (A1++C) H:=λa ha=>by
   rcases cA.mp ha with z | z
   ·exact(h1.lists a z).1
   ·exact(s.lists a z).1
  have hn:∀a∈A2,F' a=none:=λa ha=>by
   obtain⟨⟨ws,e1⟩,e2⟩:=h2.lists a ha
   have e3:kB a=some (.lst ws):=(hH a (d2 a ha)).trans e1
   have e4:H' a=some (.lst ws):=c'.b1 a _ e3
   cases e5:F' a with
   | none=>rfl
   | some o =>
    by_cases nt:eV o=true
    ·have:=c'.ext.get a o e5 nt
     rw[e4]at this;cases this
     rcases c'.b3 a ws e5 with z | z
     ·have z':F a=some (.lst ws):=z
      rw[e2]at z';cases z'
     ·have z':kB a=none:=z
      rw[e3]at z';cases z'
    ·obtain⟨ps,rfl⟩:=tR (Bool.eq_false_iff.mpr nt)
     obtain⟨m,em⟩:=c'.ext.tb a ps e5
     rw[e4]at em;cases em
  have r2:=h2.keep c'.b2 but hl hn d2
  have back:∀a,kB a=none->B.H0 a=none:=λa z=>by
   cases e5:B.H0 a with
   | none=>rfl
   | some o =>
    by_cases nt:eV o=true
    ·have:=s0.get a o e5 nt
     rw[z]at this;cases this
    ·obtain⟨ps,rfl⟩:=tR (Bool.eq_false_iff.mpr nt)
     obtain⟨m,em⟩:=s0.tb a ps e5
     rw[z]at em;cases em
  refine⟨c'.ext,s0.trans c'.b1,c.b2.trans c'.b2,λa ws z=>?_,A'++A2,C',?_,s',?_,?_⟩
  ·rcases c'.b3 a ws z with y | y
   ·exact c.b3 a ws y
   ·exact .inr (back a y)
  ·rw[gI,gI]
   exact r'.append r2
  ·obtain⟨m1,m2,m3⟩:=cN.mp wk
   have m4:∀a∈A2,a ∉ A'++C':=λa ha z=>by
    have:=Bl a z
    obtain⟨⟨ws,e1⟩,e2⟩:=h2.lists a ha
    have z':kB a=none:=this
    rw[(hH a (d2 a ha)).trans e1]at z';cases z'
   rw[cn]
   refine cN.mpr ⟨m1,cN.mpr ⟨n4,m2,λa ha hb=>m4 a ha (cI _ hb)⟩,λa ha hb=>?_⟩
   rcases cA.mp hb with z | z
   ·exact m4 a z (eu _ ha)
   ·exact m3 a ha z
  ·intro a ha
   rw[cn]at ha
   rcases cA.mp ha with z | z
   ·exact back a (Bl a (eu _ z))
   ·rcases cA.mp z with z | z
    ·exact fO a (cI _ (eu _ z))
    ·exact back a (Bl a (cI _ z))
theorem ag.Vm(c:ag B F H σ δ (ps++ts)):ag B F H σ δ ps:=by
 obtain⟨A,C,r,s,nd,fr⟩:=c.own
 rw[gI,gI]at r
 obtain⟨v1,v2,A1,A2,e,rfl,h1,h2⟩:=R.split r
 have l1:(ps.map (·.2)).length=v1.length:=by rw[<-h1.length];simp
 obtain⟨rfl,rfl⟩:=pS e l1
 rw[cn]at nd fr
 obtain⟨n1,n2,n3⟩:=cN.mp nd
 refine⟨c.ext,c.b1,c.b2,c.b3,A1,C,h1,s,cN.mpr ⟨n1,(cN.mp n2).2.1,λa ha hb=>n3 a ha (cI _ hb)⟩,λa ha=>fr a ?_⟩
 rcases cA.mp ha with z | z
 ·exact eu _ z
 ·exact cI _ (cI _ z)
theorem ag.Vn{d1 d2:D}(c:ag B F H σ δ [(.lst true [d1,d2],.ref p)]):∃v1 v2,H p=some (.lst [v1,v2])/\ag ⟨upd B.H0 p (.lst [v1,v2]),B.F0⟩ F H σ δ [(d1,v1),(d2,v2)] /\
  ∀F' H' ai af qs,ag ⟨upd B.H0 p (.lst [v1,v2]),B.F0⟩ F' H' ai af qs->ag B F' H' ai af qs:=by
 obtain⟨A,C,r,s,nd,fr⟩:=c.own
 cases r with
 | @own _ ws _ A1 _ _ B1 hp hF rx rr =>
  cases rr
  obtain⟨v1,w1,A2,A3,rfl,rfl,r1,r2⟩:=R.bZ rx
  obtain⟨v2,w2,A4,A5,rfl,rfl,r3,r4⟩:=R.bZ r2
  cases r4
  have b0:B.H0 p=none:=fr p (by simp)
  have sm:ae B.H0 (upd B.H0 p (.lst [v1,v2])):=ae.upd b0
  simp only[kL,ib,gH]at nd fr
  obtain⟨np,nd⟩:=nd
  have dn:∀a,(upd B.H0 p (.lst [v1,v2])) a=none->B.H0 a=none:=λa z=>by
   by_cases w:a=p
   ·subst w;exact b0
   ·rwa [aD w]at z
  refine⟨v1,v2,hp,⟨c.ext,?_,c.b2,λa ws z=>?_,A2++A4,C,by simpa using r1.cons r3,s,nd,λa ha=>?_⟩,λF' H' ai af qs c'=>?_⟩
  ·refine⟨λa o z n=>?_,λa ps z=>?_⟩<;>dsimp only at z
   ·by_cases w:a=p
    ·subst w;rw[bw]at z;cases z;exact hp
    ·rw[aD w]at z;exact c.b1.get a o z n
   ·by_cases w:a=p
    ·subst w;rw[bw]at z;cases z
    ·rw[aD w]at z;exact c.b1.tb a ps z
  ·rcases c.b3 a ws z with y | y
   ·exact .inl y
   ·by_cases w:a=p
    ·subst w;rw[hF]at z;cases z
    ·exact .inr (by show upd B.H0 p _ a=none;rw[aD w];exact y)
  ·show upd B.H0 p _ a=none
   rw[aD (λz=>np (by rw[<-z];exact ha))]
   exact fr a (by simp only[cA,bV]at ha ⊢;grind)
  ·obtain⟨A',C',r',s',i6,fO⟩:=c'.own
   exact⟨c'.ext,sm.trans c'.b1,c'.b2,λa ws z=>(c'.b3 a ws z).elim .inl λy=>.inr (dn a y),A',C',r',s',i6,λa ha=>dn a (fO a ha)⟩
end
section
variable{X:Cx}{iter tg:Expr}{te:aH}{g:eY}{t:bM}{pos:Pos}
noncomputable def m8(te:aH)(g:eY)(tb:bM):bM:=λEn δ=>te δ λd aj=>∃d1 d2,d=.lst true [d1,d2]/\∃rf:Dl->Prop,
 (g d1 aj λaF=>tb { En with nx:=rf,ct:=rf,bk:=En.nx } aF)/\∀af,rf af->g d2 af λaF=>tb { En with nx:=En.nx,ct:=En.nx,bk:=En.nx } aF
theorem Vo{body:List Stmt}(hp:PassesOwn (model X.prog X.w) X.A X.env X.xe)(hc:X.calm=true)(hi:PE X iter (lE te))(hg:PG X tg (lG 0 g))(hb:PSs X body (lS X t))
  (hs:∀x,foldedSetIterable iter X.env x=pure x:=by intro _;rfl):PS X (.For tg iter body [] pos) (lS X (m8 te g t)) :=
 gr (y0 hp hc (yZ hi) hg hb hs) λEn σ H ⟨B,F,δ,Dd,c,q,k1,k2,k3,k4⟩=>⟨B,F,δ,[],_,c,q,λd aj v F1 H1 hd f1 h1 c1=>by
  obtain⟨d1,d2,rfl,rf,q1,q2⟩:=hd
  obtain⟨p,ws,rfl,e1,s1⟩:=fM c1.top c1.ext
  obtain⟨v1,v2,e2,c2,un⟩:=c1.Vn
  rw[e1]at e2;cases e2
  refine⟨p,rfl,⟨_,aM.of e1⟩,λn m ai H'=>(n=0/\m=2/\ai=σ/\H'=H1)\/(n=1/\m=1/\∃F2 aF,ag ⟨upd B.H0 p (.lst [v1,v2]),B.F0⟩ F2 H' ai aF [(d2,v2)]/\rf aF)\/(n=2/\m=0/\∃F2 aF,ag ⟨upd B.H0 p (.lst [v1,v2]),B.F0⟩ F2 H' ai aF []/\Dd.nx aF),⟨2,.inl ⟨rfl,rfl,rfl,rfl⟩⟩,?_⟩
  rintro n m gb H2 (⟨rfl,rfl,rfl,rfl⟩ | ⟨rfl,rfl,F2,aF,c3,hm⟩ | ⟨rfl,rfl,F2,aF,c3,hm⟩)
  ·refine .inr ⟨⟨_,v1,aM.of e1,rfl⟩,λai H'=>∃F2 aF,ag ⟨upd B.H0 p (.lst [v1,v2]),B.F0⟩ F2 H' ai aF [(d2,v2)]/\rf aF,λai H' z=>⟨1,by omega,.inr (.inl ⟨rfl,rfl,z⟩)⟩,λz H3 y=>?_⟩
   obtain⟨rfl,yz⟩:=y
   have hz:=yz _ (aM.of e1)
   have:z=v1:=by simpa using hz.symm
   subst this
   obtain⟨B',c4,sb,back⟩:=ag.Vk (ps:=[(d1,z)]) (ts:=[(d2,v2)]) c2
   have kC:∀{F' H' ai af qs},ag B' F' H' ai af qs->ag B F' H' ai af qs:=λc'=>un _ _ _ _ _ (back _ _ _ _ _ c').Vm
   exact⟨B',F1,aj,[],d1,_,c4,q1,λaf ai hq _ _ c5=>⟨B',F1,af,_,c5,hq,λbP cF F5 H5 h5 c6=>⟨F5,bP,back _ _ _ _ [] c6,h5⟩,λd5 v5 bP cF F5 H5 h5 c6=>k2 d5 v5 bP cF F5 H5 h5 (kC c6),λbP cF F5 H5 h5 c6=>k1 bP cF F5 H5 h5 (kC c6),λbP cF F5 H5 h5 c6=>⟨F5,bP,back _ _ _ _ [] c6,h5⟩,⟨λC bP pins cF F5 H5 s5 a T h5 c6=>k4.2.1 C bP pins cF F5 H5 s5 a T h5 (kC c6),λC bP pins cF F5 H5 s5 h' e vs h5 c6=>k4.2.2 C bP pins cF F5 H5 s5 h' e vs h5 (kC c6)⟩⟩⟩
  ·have e5:H2 p=some (.lst [v1,v2]):=c3.b1 p _ bw
   refine .inr ⟨⟨_,v2,aM.of e5,rfl⟩,λai H'=>∃F2 aF,ag ⟨upd B.H0 p (.lst [v1,v2]),B.F0⟩ F2 H' ai aF []/\Dd.nx aF,λai H' z=>⟨0,by omega,.inr (.inr ⟨rfl,rfl,z⟩)⟩,λz H3 y=>?_⟩
   obtain⟨rfl,yz⟩:=y
   have hz:=yz _ (aM.of e5)
   have:z=v2:=by simpa using hz.symm
   subst this
   have kC:∀{F' H' ai af qs},ag ⟨upd B.H0 p (.lst [v1,z]),B.F0⟩ F' H' ai af qs->ag B F' H' ai af qs:=λc'=>un _ _ _ _ _ c'
   exact⟨_,F2,aF,[],d2,_,c3,q2 aF hm,λaf ai hq _ _ c5=>⟨_,F2,af,_,c5,hq,λbP cF F5 H5 h5 c6=>⟨F5,bP,c6,h5⟩,λd5 v5 bP cF F5 H5 h5 c6=>k2 d5 v5 bP cF F5 H5 h5 (kC c6),λbP cF F5 H5 h5 c6=>k1 bP cF F5 H5 h5 (kC c6),λbP cF F5 H5 h5 c6=>⟨F5,bP,c6,h5⟩,⟨λC bP pins cF F5 H5 s5 a T h5 c6=>k4.2.1 C bP pins cF F5 H5 s5 a T h5 (kC c6),λC bP pins cF F5 H5 s5 h' e vs h5 c6=>k4.2.2 C bP pins cF F5 H5 s5 h' e vs h5 (kC c6)⟩⟩⟩
  ·have e5:H2 p=some (.lst [v1,v2]):=c3.b1 p _ bw
   exact .inl ⟨⟨_,aM.of e5,by simp⟩,k1 aF gb F2 H2 hm (un _ _ _ _ _ c3)⟩⟩
end
section
variable{X:Cx}{e:Expr}{pos p pr apos bh qS tp:Pos}{t:aH}{x y:Str}{i j:Nat}{n0:Int}
noncomputable def kD(i j:Nat)(n0:Int):bM:=λEn δ=>∃bE:List (List D),δ[i]?=some (some (.lst true (bE.map (D.lst true))))/\i≠j/\j<δ.length/\(∀xs∈bE,xs.length<sizeLine)/\En.nx ((δ.set j none).set i (some (.lst true (bE.map λxs=>D.lst true (xs++[.int n0])))))
theorem Vp(hc:X.calm=true)(hp:PassesOwn (model X.prog X.w) X.A X.env X.xe)(wz:X.N.Nodup)(hN:X.N[i]?=some x)(hv:fX X.env.scope x)(KZ:X.N[j]?=some y)(eM:Loc X.env.scope y)(Ao:fX X.env.scope y)(he:PE X e (lE t))(ht:∀δ Q,Q (.int n0) δ->t δ Q)
  (hd:(x==("__debug__":Str))=false:=by decide) (bI:(x==("__classdict__":Str))=false:=by decide) (hd2:(y==("__debug__":Str))=false:=by decide) (Vq:(y==("__classdict__":Str))=false:=by decide)
  (gi:attributeBase (.Name y pr) "append" X.env (eval (.Name y pr) X.env)=eval (.Name y pr) X.env:=by rfl)
  (tH:((backTo bh (starEach [e] X.env)).all (λx=>!x.1)&&(backToKw bh (keywordEach [] X.env)).all (λx=>x.1.isSome)
   && decide ([e].length+([]:List Keyword).length+(if([]:List Keyword).isEmpty then 0 else 1)<30))=true:=by rfl)
  (gj:(apos.endLine==bh.line)=true:=by rfl) (cw:starEach [e] X.env=(false,eval e X.env)::starEach [] X.env:=by rfl) (tI:(backTo bh (starEach [] X.env)).any (·.1)=false:=by rfl)
  (j0:swapsWith (.Call (.Attribute (.Name y pr) "append" apos) [e] [] bh) none qS.line X.env=pure false:=by rfl)
  (hf:X.fn y=true\/X.env.scope.names.lookup y=some .local:=by first | exact .inl rfl | exact .inr rfl | assumption)
  (hs:∀z,foldedSetIterable (.Name x p) X.env z=pure z:=by intro _;rfl) :
  PS X (.For (.Name y tp) (.Name x p) [.Expr (.Call (.Attribute (.Name y pr) "append" apos) [e] [] bh) qS] [] pos) (lS X (kD i j n0)) :=
 gr (y0 hp hc (yZ (iW hN hv hd bI)) (s9 wz KZ eM hf) (nN (s8 (Hs PySem.F.plainAttrs_list PySem.F.slot_list_append PySem.F.type_list_append zu (iW KZ Ao hd2 Vq) (dM he gh cw) gi tH gj cw tI) j0)) hs)
  λEn σ H ⟨B,F,δ,Dd,c,⟨bE,e0,Bo,hj,hlen,hn⟩,k1,k2,k3,k4⟩=>by
  obtain⟨p0,ws,g1,g2,g3⟩:=c.ownAt e0
  have lw:bE.length=ws.length:=by simpa using g3
  have K0:(δ.set j none)[i]?=some (some (.lst true (bE.map (D.lst true)))):=by rw[nr (dz Bo)];exact e0
  have K1:i<(δ.set j none).length:=(gG.mp K0).1
  have Vr:ag B F H σ ((δ.set j none).set i (some (.lst true (((bE.take 0).map λxs=>D.lst true (xs++[.int n0]))++(bE.drop 0).map (D.lst true))))) []:=by
   have:((bE.take 0).map λxs=>D.lst true (xs++[.int n0]))++(bE.drop 0).map (D.lst true)=bE.map (D.lst true):=by simp
   rw[this,Jj K0]
   exact c.forget j
  refine⟨.ref p0,g1,p0,rfl,⟨ws,aM.of g2⟩,λn m ai H'=>m=bE.length-n/\n<=bE.length/\ai[i]?=some (some (.ref p0))/\ai.length=σ.length/\H' p0=some (.lst ws) /\
   ∃F',ag B F' H' ai ((δ.set j none).set i (some (.lst true (((bE.take n).map λxs=>D.lst true (xs++[.int n0]))++(bE.drop n).map (D.lst true))))) [],⟨_,rfl,ju _,g1,rfl,g2,F,Vr⟩,?_⟩
  rintro n m ai H' ⟨rfl,hnn,s1,s2,h1,F1,c1⟩
  by_cases dD:n<bE.length
  case neg =>
   have en:n=bE.length:=by omega
   subst en
   refine .inl ⟨⟨ws,aM.of h1,by omega⟩,k1 _ _ F1 H' hn ?_⟩
   simpa using c1
  case pos =>
   have Vs:n<ws.length:=by omega
   refine .inr ⟨⟨ws,ws[n],aM.of h1,br Vs⟩,λai H'=>n+1<=bE.length/\ai[i]?=some (some (.ref p0))/\ai.length=σ.length/\H' p0=some (.lst ws) /\
    ∃F',ag B F' H' ai ((δ.set j none).set i (some (.lst true (((bE.take (n+1)).map λxs=>D.lst true (xs++[.int n0]))++(bE.drop (n+1)).map (D.lst true))))) [],λgb H2 z=>⟨bE.length-(n+1),by omega,rfl,z⟩,λz H2 y=>?_⟩
   obtain⟨rfl,yz⟩:=y
   have hz:=yz ws (aM.of h1)
   have rh:((bE.take n).map λxs=>D.lst true (xs++[.int n0])).length=n:=by simp;omega
   have ed:((δ.set j none).set i (some (D.lst true (((bE.take n).map λxs=>D.lst true (xs++[.int n0]))++(bE.drop n).map (D.lst true)))))[i]?=some (some (D.lst true (((bE.take n).map λxs=>D.lst true (xs++[.int n0]))++D.lst true bE[n]::(bE.drop (n+1)).map (D.lst true)))):=by
    rw[ym K1,List.drop_eq_getElem_cons dD];rfl
   obtain⟨v,ev,sv⟩:=c1.look ed
   rw[s1]at ev;cases ev
   have hq:∃q us,ws[n]?=some (.ref q)/\H2 q=some (.lst us)/\us.length=bE[n].length:=by
    cases sv with
    | own hh sx _ =>
     rw[h1]at hh;cases hh
     obtain⟨v2,e2,s3⟩:=sx.get (i:=n) (d:=D.lst true bE[n]) (by rw[sH (by omega),rh,Gv];rfl)
     cases s3 with
     | own h3 s4 _=>exact⟨_,_,e2,h3,s4.length.symm⟩
   obtain⟨q,us,e2,hq,Vt⟩:=hq
   rw[e2]at hz;cases hz
   have Vu:j<ai.length:=by rw[s2,<- c.len];exact hj
   have cj:ag B F1 H2 (ai.set j (some (.ref q))) ((δ.set j none).set i (some (D.lst true (((bE.take n).map λxs=>D.lst true (xs++[.int n0]))++(bE.drop n).map (D.lst true))))) [] :=
    c1.qL (i:=j) (some (.ref q)) (.inl (by rw[nr Bo];simp[hj]))
   have mD:(ai.set j (some (V.ref q)))[i]?=some (some (.ref p0)):=by rw[nr (dz Bo)];exact s1
   have zw:us.length<sizeLine:=by rw[Vt];exact hlen _ (fv dD)
   refine⟨.ref q,by simp[Vu],.inl ⟨rfl,us,aM.of hq⟩,B,F1,_,[],(λd af=>d=.int n0/\af=(δ.set j none).set i (some (D.lst true (((bE.take n).map λxs=>D.lst true (xs++[.int n0]))++(bE.drop n).map (D.lst true))))),cj,ht _ _ ⟨rfl,rfl⟩,λd af v F2 H3 hd sf sh c2=>?_⟩
   obtain⟨rfl,rfl⟩:=hd
   have tp:=c2.top
   cases tp
   have eU:H3 p0=some (.lst ws):=sh _ _ h1
   have fF:H3 q=some (.lst us):=sh _ _ hq
   have c3:=ag.Jf (ps:=[]) (ys':=bE[n]++[.int n0]) (us':=us++[.int n0]) c2.pop ed mD eU (by rw[rh];exact e2) λVg A1 A2 z r1 r2 nd=>by
    rw[fF]at z;cases z
    cases r2
    exact⟨A1,by simpa using r1.append (.int .nil),by simpa using nd,by simp⟩
   rw[yA]at c3
   have Vv:((bE.take n).map λxs=>D.lst true (xs++[.int n0]))++D.lst true (bE[n]++[.int n0])::(bE.drop (n+1)).map (D.lst true)=((bE.take (n+1)).map λxs=>D.lst true (xs++[.int n0]))++(bE.drop (n+1)).map (D.lst true):=by
    have ht:bE.take (n+1)=bE.take n++[bE[n]]:=by rw[yB,br dD];rfl
    rw[ht,gI,cn];rfl
   rw[Vv]at c3
   have As:p0≠q:=λz=>by
    subst z
    obtain⟨p',dP,t1,t2,t3⟩:=c3.ownAt (ym K1)
    rw[mD]at t1;cases t1
    rw[bw]at t2;cases t2
    rw[eU]at fF;cases fF
    rw[pM,pM,cB,cB,List.length_take,List.length_drop,Nr]at t3
    omega
   exact⟨q,us,_,rfl,rfl,fF,zw,by omega,mD,by simpa using s2,by rw[aD As];exact eU,F2,c3⟩
end
end L3
namespace HK14
open PySem.W (Frag codeHdIn nsIn fnOf codeIn keepIn findIn isFn specialIn takesIn mroIn mg_of mg_none_of CodeHd)
open PySem L2 L3 Mf
seal L2.PSs L2.PS L2.PE L2.PT L2.PA L2.PI L2.PG L2.PO L2.PW
local macro_rules | `(tactic| walk_at "l3") => do
  let l ← (("jN jO jP i8 dT gu fL i7 dC iz jM jK jJ jL lN je jh jY lF lH lJ lK lL lM jH by4 jW jR me jT mf mh mi mj mm mq iI eo mv mw mx my oo mz jU gN mE mC lP lR lU lW lX mF mG j3 jQ gR ek fh fi nE pW pX pY gw gx jX j8 mL mM mO o6 mQ gX o9 o7 o8 cV iO ib jv fu pZ aX p8 p9 kQ jz qa exists_eq_left' exists_eq_left D.bl.injEq D.int.injEq D.lst.injEq D.fz.injEq D.str.injEq D.tup.injEq qe and_true true_and cX kP iQ jy ot ou ow oy oA oB eW gO j4 oH oI oJ oK oM dZ iy mH oE oF oG eF jG qf qg nu fV qh qi ny oR oS oU oV oW oX oY iF j5 j6 fP mI oO oN mJ oQ j7 mK if_true qj if_false reduceIte oZ decide_eq_true_eq fj kb ke lQ mT mR ki kj mW m6 dE pk m5 m8 kD sL Ut Uu Uv Uw q9 pf".splitOn " ").toArray.map fun (s : String) => Lean.mkIdent s.toName).mapM fun i => `(Lean.Parser.Tactic.simpLemma| $i:term)
  `(tactic| simp only [$l,*])
noncomputable def top (i:Nat):Stmt:=PySem.Challenge.pw_mendfield_k14_tables_multiplied.main.body.getD i (.Pass ⟨0,0,0,0⟩)
noncomputable abbrev rj:Stmt:=top 29
theorem Bp:bx ["_law_cell_here","_law_some","_law_primes"] ["_law_cell_here"] (aw rj):=⟨rfl,rfl,rfl,by decide +kernel,rfl,by decide +kernel,by decide +kernel⟩
noncomputable abbrev rk:Stmt:=top 17
theorem xk:bx ["a","product","found","power"] ["a","product"] (aw rk):=⟨rfl,rfl,rfl,by decide +kernel,rfl,by decide +kernel,by decide +kernel⟩
noncomputable abbrev rl:Stmt:=top 18
theorem uJ:bx ["many","product","step","found"] ["many","product"] (aw rl):=⟨rfl,rfl,rfl,by decide +kernel,rfl,by decide +kernel,by decide +kernel⟩
noncomputable abbrev rm:Stmt:=top 19
theorem Bq:bx ["powers","logs","n","a"] ["powers"] (aw rm):=⟨rfl,rfl,rfl,by decide +kernel,rfl,by decide +kernel,by decide +kernel⟩
noncomputable abbrev rn:Stmt:=qB (top 23) 8
theorem Vw:bx ["self","n"] ["self","n"] (aw rn):=⟨rfl,rfl,rfl,by decide +kernel,rfl,by decide +kernel,by decide +kernel⟩
noncomputable abbrev rp:Stmt:=qB (top 23) 0
theorem Vx:bx ["self","many","product"] ["self","many","product"] (aw rp):=⟨rfl,rfl,rfl,by decide +kernel,rfl,by decide +kernel,by decide +kernel⟩
noncomputable abbrev rq:Stmt:=top 22
theorem Vy:bx ["prime"] ["prime"] (aw rq):=⟨rfl,rfl,rfl,by decide +kernel,rfl,by decide +kernel,by decide +kernel⟩
noncomputable abbrev kE:Stmt:=qB (top 25) 0
theorem Vz:bx ["self","prime"] ["self","prime"] (aw kE):=⟨rfl,rfl,rfl,by decide +kernel,rfl,by decide +kernel,by decide +kernel⟩
noncomputable abbrev rz:Stmt:=top 20
theorem xm:bx ["powers","logs","many","rows","a"] ["powers","logs"] (aw rz):=⟨rfl,rfl,rfl,by decide +kernel,rfl,by decide +kernel,by decide +kernel⟩
noncomputable abbrev rA:Stmt:=top 14
theorem rB:bx ["a","b","quotient","rest","shift"] ["a","b"] (aw rA):=⟨rfl,rfl,rfl,by decide +kernel,rfl,by decide +kernel,by decide +kernel⟩
noncomputable abbrev rC:Stmt:=top 15
theorem Br:bx ["a","half","b"] ["a"] (aw rC):=⟨rfl,rfl,rfl,by decide +kernel,rfl,by decide +kernel,by decide +kernel⟩
noncomputable abbrev rD:Stmt:=top 21
theorem VA:bx ["bits"] ["bits"] (aw rD):=⟨rfl,rfl,rfl,by decide +kernel,rfl,by decide +kernel,by decide +kernel⟩
noncomputable abbrev rE:Stmt:=top 13
theorem xn:bx ["a","b","product","k"] ["a","b"] (aw rE):=⟨rfl,rfl,rfl,by decide +kernel,rfl,by decide +kernel,by decide +kernel⟩
noncomputable abbrev kF:Stmt:=qB (top 24) 0
theorem K2:bx ["self","bits","many"] ["self","bits"] (aw kF):=⟨rfl,rfl,rfl,by decide +kernel,rfl,by decide +kernel,by decide +kernel⟩
noncomputable abbrev rF:Stmt:=top 33
theorem VB:bx ["_law_told_here"] ["_law_told_here"] (aw rF):=⟨rfl,rfl,rfl,by decide +kernel,rfl,by decide +kernel,by decide +kernel⟩
noncomputable abbrev rG:Stmt:=top 31
theorem VC:bx ["_law_told_here","_law_a","_law_b"] ["_law_told_here","_law_a","_law_b"] (aw rG):=⟨rfl,rfl,rfl,by decide +kernel,rfl,by decide +kernel,by decide +kernel⟩
noncomputable abbrev rH:Stmt:=top 32
theorem rJ:bx ["_law_told_here","_law_a","_law_b","_law_total"] ["_law_told_here","_law_a","_law_b"] (aw rH):=⟨rfl,rfl,rfl,by decide +kernel,rfl,by decide +kernel,by decide +kernel⟩
noncomputable abbrev rK:Stmt:=top 34
theorem xo:bx ["_law_told_here","_law_xs","_law_ys","_law_total","_law_x","_law_y"] ["_law_told_here","_law_xs","_law_ys"] (aw rK):=⟨rfl,rfl,rfl,by decide +kernel,rfl,by decide +kernel,by decide +kernel⟩
noncomputable abbrev rL:Stmt:=top 35
theorem VD:bx ["_law_told_here","_law_xs","_law_table_here","_law_wide"] ["_law_told_here","_law_xs","_law_table_here","_law_wide"] (aw rL):=⟨rfl,rfl,rfl,by decide +kernel,rfl,by decide +kernel,by decide +kernel⟩
noncomputable abbrev rM:Stmt:=top 27
theorem VE:bx ["_law_script","_law_k"] ["_law_script","_law_k"] (aw rM):=⟨rfl,rfl,rfl,by decide +kernel,rfl,by decide +kernel,by decide +kernel⟩
noncomputable abbrev rN:Stmt:=top 30
theorem VF:bx ["_law_told_here"] ["_law_told_here"] (aw rN):=⟨rfl,rfl,rfl,by decide +kernel,rfl,by decide +kernel,by decide +kernel⟩
noncomputable abbrev rO:Stmt:=top 36
theorem rP:bx ["_law_told_here","_law_script","_law_begin","_law_rows","_law_wide","_law_way","_law_table_here","_law_i","_law_row"] ["_law_told_here","_law_script","_law_begin","_law_rows","_law_wide","_law_way"] (aw rO):=⟨rfl,rfl,rfl,by decide +kernel,rfl,by decide +kernel,by decide +kernel⟩
noncomputable abbrev rQ:Stmt:=top 2
theorem VG:bx ["table"] ["table"] (aw rQ):=⟨rfl,rfl,rfl,by decide +kernel,rfl,by decide +kernel,by decide +kernel⟩
noncomputable abbrev rR:Stmt:=top 3
theorem VH:bx ["table"] ["table"] (aw rR):=⟨rfl,rfl,rfl,by decide +kernel,rfl,by decide +kernel,by decide +kernel⟩
noncomputable abbrev rS:Stmt:=qB (top 24) 5
theorem uK:bx ["self","xs","ys","products","total","x","y"] ["self","xs","ys"] (aw rS):=⟨rfl,rfl,rfl,by decide +kernel,rfl,by decide +kernel,by decide +kernel⟩
noncomputable abbrev rT:Stmt:=qB (top 25) 5
theorem VI:bx ["self","xs","ys"] ["self","xs","ys"] (aw rT):=⟨rfl,rfl,rfl,by decide +kernel,rfl,by decide +kernel,by decide +kernel⟩
noncomputable abbrev rU:Stmt:=top 4
theorem K3:bx ["field","one","other","columns"] ["field","one","other"] (aw rU):=⟨rfl,rfl,rfl,by decide +kernel,rfl,by decide +kernel,by decide +kernel⟩
noncomputable abbrev rV:Stmt:=top 7
theorem VJ:bx ["field","table","column"] ["field","table","column"] (aw rV):=⟨rfl,rfl,rfl,by decide +kernel,rfl,by decide +kernel,by decide +kernel⟩
noncomputable abbrev rW:Stmt:=top 40
theorem VL:bx ["_law_table_here"] ["_law_table_here"] (aw rW):=⟨rfl,rfl,rfl,by decide +kernel,rfl,by decide +kernel,by decide +kernel⟩
noncomputable abbrev rX:Stmt:=top 28
theorem VM:bx ["_law_x"] ["_law_x"] (aw rX):=⟨rfl,rfl,rfl,by decide +kernel,rfl,by decide +kernel,by decide +kernel⟩
noncomputable abbrev rY:Stmt:=top 37
theorem VN:bx ["_law_row","_law_wide","_law_many_here"] ["_law_row","_law_wide","_law_many_here"] (aw rY):=⟨rfl,rfl,rfl,by decide +kernel,rfl,by decide +kernel,by decide +kernel⟩
noncomputable abbrev rZ:Stmt:=top 38
theorem VO:bx ["_law_table_here","_law_rows","_law_wide","_law_many_here"] ["_law_table_here","_law_rows","_law_wide","_law_many_here"] (aw rZ):=⟨rfl,rfl,rfl,by decide +kernel,rfl,by decide +kernel,by decide +kernel⟩
noncomputable abbrev r6:Stmt:=top 39
theorem VP:bx ["_law_found","_law_due","_law_wide","_law_many_here"] ["_law_found","_law_due","_law_wide","_law_many_here"] (aw r6):=⟨rfl,rfl,rfl,by decide +kernel,rfl,by decide +kernel,by decide +kernel⟩
noncomputable abbrev r9:Stmt:=top 6
theorem VQ:bx ["field","row","table"] ["field","row","table"] (aw r9):=⟨rfl,rfl,rfl,by decide +kernel,rfl,by decide +kernel,by decide +kernel⟩
noncomputable abbrev se:Stmt:=top 5
theorem VR:bx ["table","places"] ["table","places"] (aw se):=⟨rfl,rfl,rfl,by decide +kernel,rfl,by decide +kernel,by decide +kernel⟩
noncomputable abbrev sg:Stmt:=top 41
theorem uL:bx ["_law_one","_law_places","_law_kept","_law_step","_law_found","_law_due","_law_row"] ["_law_one","_law_places"] (aw sg):=⟨rfl,rfl,rfl,by decide +kernel,rfl,by decide +kernel,by decide +kernel⟩
noncomputable abbrev kG:Stmt:=top 42
theorem gF:bx ["_law_script","_law_told_here","_law_field_here","_law_sizes","_law_one","_law_other","_law_due","_law_handed","_law_found","_law_begin","_law_places","_law_column"] ["_law_script"] (aw kG):=⟨rfl,rfl,rfl,by decide +kernel,rfl,by decide +kernel,by decide +kernel⟩
set_option genInjectivity false in
set_option genSizeOf false in
structure nX where
 Bt:Addr
 Bu:FuncData
 Bv:Addr
 Bw:FuncData
 By:Addr
 Bz:FuncData
 BA:Addr
 BB:FuncData
 uM:Addr
 BC:FuncData
 BD:Addr
 BE:FuncData
 BF:Addr
 BG:FuncData
 BH:Addr
 xp:FuncData
 BJ:Addr
 BK:FuncData
 BL:Addr
 BM:FuncData
 BN:Addr
 BO:FuncData
 BP:Addr
 BQ:FuncData
 BR:Addr
 BS:FuncData
 BU:Addr
 xq:FuncData
 BV:Addr
 BW:FuncData
 BX:Addr
 BY:FuncData
 BZ:Addr
 B0:FuncData
 B3:Addr
 B4:FuncData
 B5:Addr
 B6:FuncData
 B7:Addr
 B8:FuncData
 B9:Addr
 Ca:FuncData
 Cb:Addr
 Cc:FuncData
 Cd:Addr
 Ce:FuncData
 Cf:Addr
 Cg:FuncData
 Ci:Addr
 Cj:FuncData
 Ck:Addr
 Cm:FuncData
 Cn:Addr
 Co:FuncData
 Cp:Addr
 Cq:FuncData
 Cr:Addr
 Cs:FuncData
 Ct:Addr
 Cu:FuncData
 Cv:Addr
 Cw:FuncData
 Cy:Addr
 Cz:FuncData
 CA:Addr
 CB:FuncData
 CC:Addr
 CD:FuncData
 CF:Addr
 CG:FuncData
 CH:Addr
 CI:FuncData
 CJ:Addr
 CK:FuncData
 K4:Addr
 iJ:Addr
 K5:Addr
 iK:Addr
 aW:Addr
 fo:Addr
 jm:Addr
 bc:Addr
structure Txt(K:Frag)(mg:Str->Option Value)(t:nX):Prop where
 K6:bq K "_law_told" "_law_told" rj t.Bt t.Bu
 VS:mg "_law_told"=some (.ref t.Bt)
 VT:Binds K t.Bu ["_law_cell_here"] []
 CL:bq K "powers_of" "powers_of" rk t.Bv t.Bw
 K7:mg "powers_of"=some (.ref t.Bv)
 K8:Binds K t.Bw ["a","product"] []
 K9:bq K "step_powers" "step_powers" rl t.By t.Bz
 VU:mg "step_powers"=some (.ref t.By)
 VV:Binds K t.Bz ["many","product"] []
 La:bq K "logs_of" "logs_of" rm t.BA t.BB
 VW:mg "logs_of"=some (.ref t.BA)
 VX:Binds K t.BB ["powers"] []
 VY:bq K "step_power" "Field.step_power" rn t.uM t.BC
 VZ:Binds K t.BC ["self","n"] []
 V0:bq K "__init__" "Field.__init__" rp t.BD t.BE
 Lb:Binds K t.BE ["self","many","product"] []
 Lc:bq K "makes_prime_field" "makes_prime_field" rq t.BF t.BG
 V1:mg "makes_prime_field"=some (.ref t.BF)
 V2:Binds K t.BG ["prime"] []
 V3:bq K "__init__" "PrimeField.__init__" kE t.BH t.xp
 V4:Binds K t.xp ["self","prime"] []
 Ld:bq K "product_rows" "product_rows" rz t.BJ t.BK
 V5:mg "product_rows"=some (.ref t.BJ)
 V6:Binds K t.BK ["powers","logs"] []
 CM:bq K "bits_divided" "bits_divided" rA t.BL t.BM
 Le:mg "bits_divided"=some (.ref t.BL)
 Lf:Binds K t.BM ["a","b"] []
 Lg:bq K "stands_alone" "stands_alone" rC t.BN t.BO
 V7:mg "stands_alone"=some (.ref t.BN)
 V8:Binds K t.BO ["a"] []
 Lh:bq K "makes_bit_field" "makes_bit_field" rD t.BP t.BQ
 V9:mg "makes_bit_field"=some (.ref t.BP)
 Wa:Binds K t.BQ ["bits"] []
 Li:bq K "bits_times" "bits_times" rE t.BR t.BS
 Wb:mg "bits_times"=some (.ref t.BR)
 Wc:Binds K t.BS ["a","b"] []
 Wd:bq K "__init__" "BitField.__init__" kF t.BU t.xq
 We:Binds K t.xq ["self","bits"] []
 Lj:bq K "_law_field" "_law_field" rF t.BV t.BW
 Wf:mg "_law_field"=some (.ref t.BV)
 Wg:Binds K t.BW ["_law_told_here"] []
 Lk:bq K "_law_plus" "_law_plus" rG t.BX t.BY
 Wh:mg "_law_plus"=some (.ref t.BX)
 Wi:Binds K t.BY ["_law_told_here","_law_a","_law_b"] []
 Ll:bq K "_law_times" "_law_times" rH t.BZ t.B0
 Wj:mg "_law_times"=some (.ref t.BZ)
 Wk:Binds K t.B0 ["_law_told_here","_law_a","_law_b"] []
 Lm:bq K "_law_dot" "_law_dot" rK t.B3 t.B4
 Wl:mg "_law_dot"=some (.ref t.B3)
 Wm:Binds K t.B4 ["_law_told_here","_law_xs","_law_ys"] []
 CN:bq K "_law_by_row" "_law_by_row" rL t.B5 t.B6
 Ln:mg "_law_by_row"=some (.ref t.B5)
 Lo:Binds K t.B6 ["_law_told_here","_law_xs","_law_table_here","_law_wide"] []
 g8:bq K "_law_cell" "_law_cell" rM t.B7 t.B8
 iL:mg "_law_cell"=some (.ref t.B7)
 iM:Binds K t.B8 ["_law_script","_law_k"] []
 CO:bq K "_law_many" "_law_many" rN t.B9 t.Ca
 Lp:mg "_law_many"=some (.ref t.B9)
 Lq:Binds K t.Ca ["_law_told_here"] []
 CP:bq K "_law_table" "_law_table" rO t.Cb t.Cc
 Lr:mg "_law_table"=some (.ref t.Cb)
 Ls:Binds K t.Cc ["_law_told_here","_law_script","_law_begin","_law_rows","_law_wide","_law_way"] []
 Lu:bq K "width_of" "width_of" rQ t.Cd t.Ce
 Wn:mg "width_of"=some (.ref t.Cd)
 Wo:Binds K t.Ce ["table"] []
 xt:bq K "turned" "turned" rR t.Cf t.Cg
 CQ:mg "turned"=some (.ref t.Cf)
 CS:Binds K t.Cg ["table"] []
 Wq:bq K "dot" "BitField.dot" rS t.Ci t.Cj
 Wr:Binds K t.Cj ["self","xs","ys"] []
 Ws:bq K "dot" "PrimeField.dot" rT t.Ck t.Cm
 Wt:Binds K t.Cm ["self","xs","ys"] []
 CT:bq K "product" "product" rU t.Cn t.Co
 Lv:mg "product"=some (.ref t.Cn)
 Lw:Binds K t.Co ["field","one","other"] []
 Lx:bq K "by_column" "by_column" rV t.Cp t.Cq
 Wu:mg "by_column"=some (.ref t.Cp)
 Wv:Binds K t.Cq ["field","table","column"] []
 xu:bq K "_law_copy" "_law_copy" rW t.Cr t.Cs
 CU:mg "_law_copy"=some (.ref t.Cr)
 CV:Binds K t.Cs ["_law_table_here"] []
 Ly:bq K "_law_whole" "_law_whole" rX t.Ct t.Cu
 Ww:mg "_law_whole"=some (.ref t.Ct)
 Wx:Binds K t.Cu ["_law_x"] []
 Lz:bq K "_law_row_kind" "_law_row_kind" rY t.Cv t.Cw
 Wy:mg "_law_row_kind"=some (.ref t.Cv)
 Wz:Binds K t.Cw ["_law_row","_law_wide","_law_many_here"] []
 LA:bq K "_law_table_kind" "_law_table_kind" rZ t.Cy t.Cz
 WA:mg "_law_table_kind"=some (.ref t.Cy)
 WB:Binds K t.Cz ["_law_table_here","_law_rows","_law_wide","_law_many_here"] []
 LB:bq K "_law_same" "_law_same" r6 t.CA t.CB
 WC:mg "_law_same"=some (.ref t.CA)
 WD:Binds K t.CB ["_law_found","_law_due","_law_wide","_law_many_here"] []
 LC:bq K "row_by" "row_by" r9 t.CC t.CD
 WE:mg "row_by"=some (.ref t.CC)
 WG:Binds K t.CD ["field","row","table"] []
 LD:bq K "picked" "picked" se t.CF t.CG
 WH:mg "picked"=some (.ref t.CF)
 WI:Binds K t.CG ["table","places"] []
 CW:bq K "_law_shaped" "_law_shaped" sg t.CH t.CI
 LF:mg "_law_shaped"=some (.ref t.CH)
 LG:Binds K t.CI ["_law_one","_law_places"] []
 WJ:bq K "law" "law" kG t.CJ t.CK
 cy4:mg "law"=some (.ref t.CJ)
 cy5:Binds K t.CK ["_law_script"] []
 WK:t.xp.code=.ref t.K4
 WL:codeHdIn K t.K4 t.iJ=true
 WM:t.xq.code=.ref t.K5
 WN:codeHdIn K t.K5 t.iK=true
 pE:eE K t.aW
 uN:Mk K t.aW t.BU
 aH8:Kr K t.aW
 uO:bY K t.aW "bits"
 si:bY K t.aW "logs"
 uP:bY K t.aW "many"
 sj:bY K t.aW "powers"
 xv:bY K t.aW "prime"
 sk:bY K t.aW "products"
 uQ:bY K t.aW "step"
 uR:bY K t.aW "wide"
 uS:Meth K t.aW "dot" t.Ci
 uT:Meth K t.aW "step_power" t.uM
 xw:eE K t.bc
 uU:Mk K t.bc t.BH
 aH7:Kr K t.bc
 xx:bY K t.bc "bits"
 uV:bY K t.bc "logs"
 uW:bY K t.bc "many"
 uX:bY K t.bc "powers"
 sq:bY K t.bc "prime"
 xy:bY K t.bc "products"
 uY:bY K t.bc "step"
 uZ:bY K t.bc "wide"
 u3:Meth K t.bc "dot" t.Ck
 u4:Meth K t.bc "step_power" t.uM
 LH:wQ K t.jm "__init__" t.BD
 CY:mg "all"=none
 WO:mg "bool"=none
 WQ:mg "enumerate"=none
 WR:mg "int"=none
 u5:mg "isinstance"=none
 jn:mg "len"=none
 sr:mg "list"=none
 g9:mg "range"=none
 WS:mg "sum"=none
 CZ:mg "zip"=none
 u6:mg "BitField"=some (.ref t.aW)
 u7:mg "ByNought"=some (.ref t.fo)
 su:mg "Field"=some (.ref t.jm)
 u9:mg "PrimeField"=some (.ref t.bc)
 WT:AD K mg "ByNought" t.fo
 aH9:Rj K t.fo
section
variable{P:Program}{w:World}{K:Frag}{mg:Str->Option Value}{base:Heap}{t:nX}
noncomputable abbrev WU:bB:=λds Q=>∃c:Int,ds=[.int c]/\Q (cH (mZ c))
theorem WV(T:Txt K mg t):aL P w K mg base aT 1 t.Bt t.Bu ["_law_cell_here"] (bD (WU )):=by
 refine cg T.K6 Bp ?_ ?_
 ·intro ds Q h
  obtain⟨c,rfl,q⟩:=h<;>rfl
 ·intro aE A outer s H E hr
  refine⟨_,(aJ (bN (i:=1) Bp.nd rfl (ar rfl) (Jn (ns:=[7,11,13,19,25,31,37,41,47,55,59,61,67,73,87,91,97,103,109,115,117]) (by decide +kernel)))
   (aJ (bN (i:=2) Bp.nd rfl (ar rfl) (Jn (ns:=[2,3,5,7,11,13,17,19,23,29,31,37,41,43,47,53,59,61]) (by decide +kernel)))
   (aJ (dv (cO (gS (dk hr)) (aa (aA cT (bv 0) (aa ao))) (aa ao) (cy _)) (aK (bb (tW (cS gP (cS (dR (aP (bv 1) (aa (aA cT (aa (aA iB (bv 0) (aa ao))) (aa ao))) (λ_ _=>rfl))) eH))))) du)
   (aK (bb (tW (cS gP (cS (dR (aP (bv 2) (aa (aA cT (aa (aA iB (bv 0) (aa ao))) (aa ao))) (λ_ _=>rfl))) eH)))))))),λds Q h=>?_⟩
  obtain⟨c,rfl,q⟩:=h
  refine aI λU hU=>?_
  walk_at"l3"
  refine⟨by decide,hU _ ?_⟩
  clear hU U
  refine aI λU hU=>?_
  walk_at"l3"
  refine⟨by decide,hU _ ?_⟩
  clear hU U
  refine aI λU hU=>?_
  walk_at"l3"
  refine⟨by decide,?_⟩
  have n1:=qk (c/2) (show(21:Int)≠0 by decide)
  have n2:=nI (c/2) (show(0:Int)<21 by decide)
  have n3:=qk (c/2) (show(18:Int)≠0 by decide)
  have n4:=nI (c/2) (show(0:Int)<18 by decide)
  split
  ·rename_i hc
   refine⟨iA (by decide) (by decide),by decide,_,qT n1 (by simpa using n2),rfl,by decide,?_⟩
   have e:cH (mZ c)=.tup [.bl true,.int (([7,11,13,19,25,31,37,41,47,55,59,61,67,73,87,91,97,103,109,115,117]:List Int).getD (c/2%21).toNat 0)]:=by
    unfold mZ cH
    rw[if_pos hc]
    have:∀k:Nat,((fk.getD k 0:Nat):Int)=([7,11,13,19,25,31,37,41,47,55,59,61,67,73,87,91,97,103,109,115,117]:List Int).getD k 0:=λk=>by
     show _=(fk.map (λ(n:Nat)=>(n:Int))).getD k ((0:Nat):Int)
     rw[cY,cY,dB]
     cases fk[k]?<;>rfl
    rw[<-this]
   rw[<-e];exact q
  ·rename_i hc
   refine hU _ ?_
   walk_at"l3"
   refine⟨iA (by decide) (by decide),by decide,_,qT n3 (by simpa using n4),rfl,by decide,?_⟩
   have e:cH (mZ c)=.tup [.bl false,.int (([2,3,5,7,11,13,17,19,23,29,31,37,41,43,47,53,59,61]:List Int).getD (c/2%18).toNat 0)]:=by
    unfold mZ cH
    rw[if_neg hc]
    have:∀k:Nat,((kl.getD k 0:Nat):Int)=([2,3,5,7,11,13,17,19,23,29,31,37,41,43,47,53,59,61]:List Int).getD k 0:=λk=>by
     show _=(kl.map (λ(n:Nat)=>(n:Int))).getD k ((0:Nat):Int)
     rw[cY,cY,dB]
     cases kl[k]?<;>rfl
    rw[<-this]
   rw[<-e];exact q
noncomputable abbrev WW(L:Obj->Obj->Addr->Addr->qW->Prop):bB:=λds Q=>∃(a:Nat) (of oc:Obj) (c k:Addr) (g:Nat->Nat->Nat) (l:List Int),ds=[.int a,.aQ (.lam of oc c k)]/\L of oc c k (uz g)/\a<64/\AV g a=some l/\Q (.lst true (ay l))
theorem LJ(T:Txt K mg t):aL P w K mg base aT 5 t.Bv t.Bw ["a","product"] (bD (WW (uo P w K mg base 4))):=by
 refine cg T.CL xk ?_ ?_
 ·intro ds Q h
  obtain⟨a,of,oc,c,k,g,l,rfl,hL,ha,hp,q⟩:=h<;>rfl
 ·intro aE A outer s H E hr
  refine⟨_,(aJ (bN (i:=2) xk.nd rfl (ar rfl) (gv (cS ao eH)))
   (aJ (bN (i:=3) xk.nd rfl (ar rfl) (JK (n:=4) (i:=1) rfl (by first | exact ar rfl | exact aR (ar rfl)) (hr.mono (by decide)) (ah (aa ao) (ah (bv 0) az))))
   (aJ (v9 fW (cO (iC (dk hr)) (bv 3) (aa ao) (cy _))
    (aJ (wj (i:=2) rfl (by first | exact ar rfl | exact aR (ar rfl)) (dR (bv 3)))
    (aK (bN (i:=3) xk.nd rfl (ar rfl) (JK (n:=4) (i:=1) rfl (by first | exact ar rfl | exact aR (ar rfl)) (hr.mono (by decide)) (ah (bv 3) (ah (bv 0) az)))))))
   (aK (bb (em 2)))))),λds Q h=>?_⟩
  obtain⟨a,of,oc,c,k,g,l,rfl,hL,ha,hp,q⟩:=h
  refine aI λU hU=>?_
  walk_at"l3"
  refine⟨by decide,hU _ ?_⟩
  clear hU U
  refine aI λU hU=>?_
  walk_at"l3"
  refine⟨of,oc,c,k,uz g,rfl,hL,1,a,⟨rfl,rfl⟩,1,a,rfl,rfl,by decide,ha,hU _ ?_⟩
  clear hU U
  refine aI λU hU=>?_
  walk_at"l3"
  refine⟨λm δ=>∃(p:Nat) (acc:List Int),δ=[some (.int a),some (.aQ (.lam of oc c k)),some (.lst true (ay acc)),some (.int p)]/\acc.length+m<=70/\wU g a m p acc=some l,⟨64,_,[1],rfl,by decide,hp⟩,?_⟩
  rintro m δ ⟨p,acc,rfl,hn,hg⟩
  walk_at"l3"
  cases m with
  | zero=>cases hg
  | succ m =>
   unfold wU at hg
   split at hg
   ·rename_i h1
    subst h1
    cases hg
    rw[if_neg (by simp)]
    refine hU _ ?_
    walk_at"l3"
    exact q
   ·rename_i h1
    rw[if_pos (by simp;omega)]
    split at hg
    ·rename_i h2
     clear hU
     refine aI λU hU=>?_
     walk_at"l3"
     refine⟨⟨_,rfl⟩,by omega,hU _ ?_⟩
     clear hU
     walk_at"l3"
     exact⟨of,oc,c,k,uz g,rfl,hL,p,a,⟨rfl,rfl⟩,p,a,rfl,rfl,h2,ha,m,by omega,g p a,acc++[(p:Int)],⟨by rw[<-mI];rfl,rfl⟩,by simp;omega,hg⟩
    ·cases hg
noncomputable abbrev WX(L:Obj->Obj->Addr->Addr->qW->Prop):bB:=λds Q=>∃(n:Nat) (of oc:Obj) (c k:Addr) (g:Nat->Nat->Nat) (l:List Int),ds=[.int n,.aQ (.lam of oc c k)]/\L of oc c k (uz g)/\uw g n=some l/\Q (.lst true (ay l))
theorem WY(T:Txt K mg t):aL P w K mg base aT 6 t.By t.Bz ["many","product"] (bD (WX (uo P w K mg base 4))):=by
 refine cg T.K9 uJ ?_ ?_
 ·intro ds Q h
  obtain⟨n,of,oc,c,k,g,l,rfl,hL,hp,q⟩:=h<;>rfl
 ·intro aE A outer s H E hr
  refine⟨_,(aJ (bN (i:=2) uJ.nd rfl (ar rfl) ao)
   (aJ (bN (i:=3) uJ.nd rfl (ar rfl) (bt ((LJ T).mono (by decide)) hr rfl T.K7 T.CL.kp T.K8 aV (ah (bv 2) (ah (bv 1) az))))
   (aJ (v9 fW (cO ud (aa (fN (jf) (by rfl) T.jn i5 (ah (bv 3) az))) (aa (aA gz (bv 0) (aa ao))) (cy _))
    (aJ (tX (i:=2) uJ.nd rfl (ar rfl) (aa ao) R9)
    (aK (bN (i:=3) uJ.nd rfl (ar rfl) (bt ((LJ T).mono (by decide)) hr rfl T.K7 T.CL.kp T.K8 aV (ah (bv 2) (ah (bv 1) az)))))))
   (aK (bb (em 3)))))),λds Q h=>?_⟩
  obtain⟨n,of,oc,c,k,g,l,rfl,hL,hp,q⟩:=h
  unfold uw at hp
  split at hp
  ·rename_i l0 h0
   refine aI λU hU=>?_
   walk_at"l3"
   refine hU _ ?_
   clear hU U
   refine aI λU hU=>?_
   walk_at"l3"
   refine⟨1,of,oc,c,k,g,l0,rfl,hL,by decide,h0,hU _ ?_⟩
   clear hU U
   refine aI λU hU=>?_
   walk_at"l3"
   refine⟨λm δ=>∃(st:Nat) (l1:List Int),δ=[some (.int n),some (.aQ (.lam of oc c k)),some (.int st),some (.lst true (ay l1))]/\st+m<=63/\wV g n m st l1=some l,⟨62,1,l0,rfl,by decide,hp⟩,?_⟩
   rintro m δ ⟨st,l1,rfl,hn,hg⟩
   walk_at"l3"
   cases m with
   | zero=>cases hg
   | succ m =>
    unfold wV at hg
    split at hg
    ·rename_i h1
     rw[if_pos (by omega)]
     split at hg
     ·rename_i l2 h2
      clear hU
      refine aI λU hU=>?_
      walk_at"l3"
      refine hU _ ?_
      clear hU
      walk_at"l3"
      exact⟨st+1,of,oc,c,k,g,l2,rfl,hL,by omega,h2,m,by omega,st+1,l2,⟨rfl,rfl⟩,by omega,hg⟩
     ·cases hg
    ·rename_i h1
     rw[if_neg (by omega)]
     cases hg
     refine hU _ ?_
     walk_at"l3"
     exact q
  ·cases hp
noncomputable abbrev WZ:bB:=λds Q=>∃(l:List Int),ds=[.lst false (ay l)]/\l.length<=64/\(∀x∈l,0<=x/\x.toNat<=l.length)/\Q (.lst true (ay (dh l)))
theorem W0(T:Txt K mg t):aL P w K mg base aT 1 t.BA t.BB ["powers"] (bD (WZ )):=by
 refine cg T.La Bq ?_ ?_
 ·intro ds Q h
  obtain⟨l,rfl,hl,hx,q⟩:=h<;>rfl
 ·intro aE A outer s H E hr
  refine⟨_,(aJ (bN (i:=1) Bq.nd rfl (ar rfl) (aA jc (aa (gv (cS ao eH))) (aa (aA eZ (aa (fN (jf) (by rfl) T.jn i5 (ah (bv 0) az))) (aa ao)))))
   (aJ (lY fW rfl (S1 rfl T.WQ (ah (bv 0) az)) (uj (i1:=2) (i2:=3) rfl Bq.nd rfl (ar rfl) rfl (ar rfl))
    (aK (Jd (i:=1) rfl (by first | exact ar rfl | exact aR (ar rfl)) (dR (bv 2)) (bv 3))))
   (aK (bb (em 1))))),λds Q h=>?_⟩
  obtain⟨l,rfl,hl,hx,q⟩:=h
  refine aI λU hU=>?_
  walk_at"l3"
  refine⟨by decide,⟨by omega,by omega,by omega⟩,hU _ ?_⟩
  clear hU U
  refine aI λU hU=>?_
  walk_at"l3"
  refine i9.mk (λi δ=>∃o1 o2,δ=[some (.lst false (ay l)),some (.lst true (ay (km l i))),o1,o2]) ⟨none,none,?_⟩ ?_ ?_
  ·rw[show((l.length:Int)+1).toNat=l.length+1 by omega];rfl
  ·rintro i d δ hd ⟨o1,o2,rfl⟩
   obtain⟨hi,rfl⟩:∃h:i<l.length,d=.tup [.int i,.int l[i]]:=by
    unfold gW ay at hd
    rw[ND,dB]at hd
    by_cases hi:i<l.length
    ·rw[br hi]at hd
     simp at hd
     exact⟨hi,hd.symm⟩
    ·rw[pV (by omega)]at hd;simp at hd
   have dg:=hx l[i] (fv _)
   walk_at"l3"
   refine⟨_,(l[i]).toNat,rfl,?_,_,_,?_,rfl,rfl⟩
   ·unfold eR
    rw[iF,AW,if_pos dg.1,if_pos (by omega)]
   ·unfold ay
    rw[<-List.map_set]
    congr 1
    show _=(km l i).set (l.getD i 0).toNat (i:Int)
    rw[cY,br hi];rfl
  ·rintro δ ⟨o1,o2,rfl⟩
   refine hU _ ?_
   simp only[jN,jO,jP,i8,dT,gu,fL,i7,dC,iz,jM,jK,jJ,jL,lN,je,jh,jY,lF,lH,lJ,lK,lL,lM,jH,by4,jW,jR,me,jT,mf,mh,mi,mj,mm,mq,iI,eo,mv,mw,mx,my,oo,mz,jU,gN,mE,mC,lP,lR,lU,lW,lX,mF,mG,j3,jQ,gR,ek,fh,fi,nE,pW,pX,pY,gw,gx,jX,j8,mL,mM,mO,o6,mQ,gX,o9,o7,o8,cV,iO,ib,jv,fu,pZ,aX,p8,p9,kQ,jz,qa,exists_eq_left',exists_eq_left,D.bl.injEq,D.int.injEq,D.lst.injEq,D.fz.injEq,D.str.injEq,D.tup.injEq,qe,and_true,true_and,cX,kP,iQ,jy,ot,ou,ow,oy,oA,oB,eW,gO,j4,oH,oI,oJ,oK,oM,dZ,iy,mH,oE,oF,oG,eF,jG,qf,qg,nu,fV,qh,qi,ny,oR,oS,oU,oV,oW,oX,oY,iF,j5,j6,fP,mI,oO,oN,mJ,oQ,j7,mK,if_true,qj,if_false,reduceIte,oZ,decide_eq_true_eq,fj,kb,ke,lQ,mT,mR,ki,kj,mW,m6,dE,pk,m5,m8,kD,wx]
   exact q
noncomputable abbrev W2(K:Frag):bB:=λds Q=>∃(C:Addr) (ns:List Str) (xs:List D) (n:Int) (many:Nat) (l:List Int) (r:Int),ds=[.obj C ns xs,.int n]/\eE K C/\bY K C "powers"/\bY K C "many"/\(ns.zip xs).lookup ("powers":Str)=some (.lst false (ay l))/\(ns.zip xs).lookup ("many":Str)=some (.int many)/\2<=many/\l[(n%((many:Int)-1)).toNat]?=some r/\Q (.int r)
theorem W3(T:Txt K mg t):aL P w K mg base aT 1 t.uM t.BC ["self","n"] (bD (W2 K)):=by
 refine cg T.VY Vw ?_ ?_
 ·intro ds Q h
  obtain⟨C,ns,xs,n,many,l,r,rfl,hC,h1,h2,h3,h4,h5,h6,q⟩:=h<;>rfl
 ·intro aE A outer s H E hr
  refine⟨_,(aK (bb (dR (aP (w5 (K:=K) (bv 0)) (aa (aA cT (bv 1) (aa (aA gz (w5 (K:=K) (bv 0)) (aa ao))))) (λ_ _=>rfl))))),λds Q h=>?_⟩
  obtain⟨C,ns,xs,n,many,l,r,rfl,hC,h1,h2,h3,h4,h5,h6,q⟩:=h
  walk_at"l3"
  refine⟨C,ns,xs,_,rfl,hC,h1,h3,C,ns,xs,_,rfl,hC,h2,h4,?_⟩
  refine⟨by omega,_,kY (d:=.int r) (qk _ (by omega)) ?_,rfl,q⟩
  unfold ay
  rw[dB,h6];rfl
noncomputable abbrev W4(P:Program)(w:World)(K:Frag)(mg:Str->Option Value)(base:Heap)(fs:Addr):Sp:=λvs H Q _=>∃(x dx f C:Addr) (b:Str) (n0:Int) (many:Nat) (of oc:Obj) (c k:Addr) (g:Nat->Nat->Nat) (l:List Int) (st:Int),
 vs=[.ref x,.int many,.ref f]/\H x=some (.ins C dx [(b,.int n0)])/\(∀n∈(["many","wide","powers","logs","step","step_power"]:List Str),b≠n)/\T2 K C fs/\ff H f of oc c k/\uo P w K mg base 4 of oc c k (uz g)/\J5 g many l st /\
 ∀H' p1 p2,cK x H H'->H' x=some (.ins C dx ((jk b).zip (wW n0 many p1 p2 st)))->LI H' p1 l->LI H' p2 (dh l)->p1≠p2->H p1=none->H p2=none->Q .ak H'
theorem LK(T:Txt K mg t):aL P w K mg base aT 7 t.BD t.BE ["self","many","product"] (W4 P w K mg base t.uM):=by
 refine T.V0.ok Vx (λvs H Q E h=>?_) λaE A outer s H vs Q E hr h=>?_
 ·obtain⟨x,dx,f,C,b,n0,many,of,oc,c,k,g,l,st,rfl,_⟩:=h;rfl
 obtain⟨x,dx,f,C,b,n0,many,of,oc,c,k,g,l,st,rfl,hx,hb,hC,W5,hL,hF,q⟩:=h
 refine⟨_,ik (kX (pv 0) (pv 1) rfl) (ik (kX (pv 0) (vM zf (zI (pv 1)) qu) rfl)
  (ik (kX (pv 0) (nV ((WY T).mono (by decide)) hr rfl T.VU T.K9.kp T.VV .nil aV (dM (pv 1) (dM (pv 2) gh))) rfl)
  (ik (kX (pv 0) (nV ((W0 T).mono (by decide)) hr rfl T.VW T.La.kp T.VX .nil aV (dM (vQ (pv 0) rfl) gh)) rfl)
  (nN (kX (pv 0) (PC (pv 0) hC.cls hC.sp ((W3 T).mono (by decide)) hr T.VZ .nil aV (dM qu gh)) rfl))))),?_⟩
 have nb:∀n∈(["many","wide","powers","logs","step","step_power"]:List Str),b≠n:=hb
 refine⟨.int many,rfl,.ref x,rfl,x,C,dx,_,rfl,hx,hC.cls,hC.many,kN (bH 1) (by decide),?_⟩
 rw[qZ (by simpa using nb "many" (by simp))]
 generalize e1:upd H x (HO.ins C dx ([(b,V.int n0)]++[(("many":Str),V.int many)]))=H1
 have dg:H1 x=some (.ins C dx [(b,V.int n0),(("many":Str),V.int many)]):=by rw[<-e1,bw];rfl
 have s1:cK x H H1:=by rw[<-e1];exact cK.upd (C:=C) (dx:=dx) hx rfl
 have l1:ff H1 f of oc c k:=by rw[<-e1];exact W5.uA hx
 have n1:∀p,H1 p=none->H p=none:=λp h=>uB hx (by rw[e1];exact h)
 refine⟨_,rfl,rfl,_,rfl,rfl,_,_,rfl,rfl,.ref x,rfl,x,C,dx,_,rfl,dg,hC.cls,hC.wide,kN (bH 2) (by decide),?_⟩
 rw[qZ (by simp;exact⟨nb "wide" (by simp),by decide⟩),fw]
 generalize e2:upd H1 x (HO.ins C dx ([(b,V.int n0),(("many":Str),V.int many)]++[(("wide":Str),V.int ((bl many:Nat)-1))]))=H2
 have eM:H2 x=some (.ins C dx [(b,V.int n0),(("many":Str),V.int many),(("wide":Str),V.int ((bl many:Nat)-1))]):=by rw[<-e2,bw];rfl
 have s2:cK x H H2:=by rw[<-e2];exact s1.trans (cK.upd (C:=C) (dx:=dx) dg rfl)
 have l2:ff H2 f of oc c k:=by rw[<-e2];exact l1.uA dg
 have n2:∀p,H2 p=none->H p=none:=λp h=>n1 p (uB dg (by rw[e2];exact h))
 refine⟨_,rfl,_,rfl,H2,[.int many,.aQ (.lam of oc c k)],λd=>d=.lst true (ay l),ae.refl _,.int (.aQ l2 .nil),⟨many,of,oc,c,k,g,l,rfl,hL,hF.step,rfl⟩,λd v F' H3 A' hd hs hf he h3 r nd fr=>?_⟩
 subst hd
 obtain⟨p1,rfl,W6,va⟩:=J4 r fr
 have jo:=hs.get _ _ eM
 have s3:=s2.trans (hs.x (x:=x))
 refine⟨.ref x,rfl,x,C,dx,_,rfl,jo,hC.cls,hC.AX,kN (bH 3) (by decide),?_⟩
 rw[qZ (by simp;exact⟨nb "powers" (by simp),by decide,by decide⟩)]
 generalize e4:upd H3 x (HO.ins C dx ([(b,V.int n0),(("many":Str),V.int many),(("wide":Str),V.int ((bl many:Nat)-1))]++[(("powers":Str),V.ref p1)]))=H4
 have m9:H4 x=some (.ins C dx [(b,V.int n0),(("many":Str),V.int many),(("wide":Str),V.int ((bl many:Nat)-1)),(("powers":Str),V.ref p1)]):=by rw[<-e4,bw];rfl
 have s4:cK x H H4:=by rw[<-e4];exact s3.trans (cK.upd (C:=C) (dx:=dx) jo rfl)
 have p4:LI H4 p1 l:=by rw[<-e4];exact W6.upd jo (λws z=>by cases z)
 have n4:∀p,H4 p=none->H p=none:=λp h=>n2 p (hs.free (uB jo (by rw[e4];exact h)))
 refine⟨.ref x,rfl,x,C,dx,_,.ref p1,rfl,m9,hC.cls,hC.AX,by rw[wX (nb "powers" (by simp))];rfl,H4,[.lst false (ay l)],λd=>d=.lst true (ay (dh l)),ae.refl _,.shr p4 (iE l) .nil,⟨l,rfl,by have:=hF.len;have:=hF.hi;omega,hF.ins,rfl⟩,λd v F' H5 A' hd nh hf he h3 r nd fr=>?_⟩
 subst hd
 obtain⟨p2,rfl,LL,pF⟩:=J4 r fr
 have jq:=nh.get _ _ m9
 have s5:=s4.trans (nh.x (x:=x))
 have W7:p1≠p2:=λz=>by rw[<-z]at pF;unfold LI at p4;rw[pF]at p4;cases p4
 refine⟨.ref x,rfl,x,C,dx,_,rfl,jq,hC.cls,hC.T3,kN (bH 4) (by decide),?_⟩
 rw[qZ (by simp;exact⟨nb "logs" (by simp),by decide,by decide,by decide⟩)]
 generalize e6:upd H5 x (HO.ins C dx ([(b,V.int n0),(("many":Str),V.int many),(("wide":Str),V.int ((bl many:Nat)-1)),(("powers":Str),V.ref p1)]++[(("logs":Str),V.ref p2)]))=H6
 have C2:H6 x=some (.ins C dx (([b,"many","wide","powers","logs"]:List Str).zip [V.int n0,V.int many,V.int ((bl many:Nat)-1),V.ref p1,V.ref p2])):=by rw[<-e6,bw];rfl
 have s6:cK x H H6:=by rw[<-e6];exact s5.trans (cK.upd (C:=C) (dx:=dx) jq rfl)
 have p6:LI H6 p1 l:=by rw[<-e6];exact(p4.same nh).upd jq (λws z=>by cases z)
 have q6:LI H6 p2 (dh l):=by rw[<-e6];exact LL.upd jq (λws z=>by cases z)
 refine⟨.ref x,rfl,x,dx,_,rfl,C2,by show jt ("step_power":Str) ((b,V.int n0)::_)=none;rw[wX (nb "step_power" (by simp))];rfl,H6,[.obj C [b,"many","wide","powers","logs"] [.int n0,.int many,.int ((bl many:Nat)-1),.lst false (ay l),.lst false (ay (dh l))],.int 1],λd=>d=.int st,ae.refl _,
  .obj C2 rfl (.int (.int (.int (.shr p6 (iE l) (.shr q6 (iE _) .nil))))) (.int .nil),⟨C,_,_,1,many,l,st,rfl,hC.cls,hC.AX,hC.many,by show jt ("powers":Str) ((b,D.int n0)::_)=_;rw[wX (nb "powers" (by simp))];rfl,by show jt ("many":Str) ((b,D.int n0)::_)=_;rw[wX (nb "many" (by simp))];rfl,hF.lo,hF.st,rfl⟩,λd v F' H7 A' hd xA hf he h3 r nd fr=>?_⟩
 subst hd
 cases r
 have xB:=xA.get _ _ C2
 refine⟨.ref x,rfl,x,C,dx,_,rfl,xB,hC.cls,hC.step,kN (bH 5) (by decide),?_⟩
 rw[qZ (by simp;exact⟨nb "step" (by simp),by decide,by decide,by decide,by decide⟩)]
 refine q _ p1 p2 ((s6.trans (xA.x (x:=x))).trans (cK.upd (C:=C) (dx:=dx) xB rfl)) (by rw[bw];rfl) ((p6.same xA).upd xB (λws z=>by cases z)) ((q6.same xA).upd xB (λws z=>by cases z)) W7 (n2 p1 va) (n4 p2 pF)
noncomputable abbrev W8:bB:=λds Q=>∃a:Int,ds=[.int a]/\Q (.bl (decide (2<=a)&&decide (a<=61)&&(bf (a.toNat-2)).all λi=>a%(2+(i:Int)) != 0))
theorem at2(T:Txt K mg t):aL P w K mg base aT 1 t.BF t.BG ["prime"] (bD (W8 )):=by
 refine cg T.Lc Vy ?_ ?_
 ·intro ds Q h
  obtain⟨a,rfl,q⟩:=h<;>rfl
 ·intro aE A outer s H E hr
  refine⟨_,(aK (bb (qQ (aa (Ai ue ue (aa ao) (bv 0) (aa ao))) (qw (fN (Al rfl) (by rfl) T.CY zH (ah (aa (dy [("prime",0)] ["d"] rfl (wb rfl T.g9 (ah (aa ao) (ah (bv 0) az))) (λ_ _ _ _=>(ck (i:=1) (show(["prime","d"]:List Str).Nodup by decide +kernel) rfl (ar (lookup_relabel_local rfl)) (by decide) (aR (lookup_relabel_local rfl)))) (λ_ _ _ _=>cJ) (λ_ _ _ _=>(vZ (iC (dk hr)) (aa (aA cT (bv 0) (bv 1))) (aa ao) (cy _))) rfl ⟨rfl,trivial⟩ (λ_=>by repeat' (first | exact trivial | refine⟨.inl rfl,?_⟩ | refine⟨.inr (.inl rfl),?_⟩ | refine⟨.inr (.inr ⟨_,rfl⟩),?_⟩)) (λ_=>⟨⟨rfl,.inl rfl,.inl rfl,_,rfl,rfl⟩,trivial⟩) rfl (by decide +kernel))) az)))))),λds Q h=>?_⟩
  obtain⟨a,rfl,q⟩:=h
  walk_at"l3"
  split
  ·rename_i h1
   split
   ·rename_i h2
    refine⟨2,a,⟨rfl,rfl⟩,⟨by decide,by decide,by omega,by omega⟩,?_⟩
    have e0:(a-2).toNat=a.toNat-2:=by omega
    rw[e0]
    refine df (bf (a.toNat-2)) (λ(k:Nat)=>D.int (2+(k:Int))) (λ(k:Nat)=>D.bl (a%(2+(k:Int)) != 0)) (by rw[t7]) (λx y h=>by injection h with h;omega) (λk hk=>?_) (.inr λ_ _=>rfl) (by rw[gJ,sL];omega) ?_
    ·walk_at"l3"
     refine⟨by omega,?_⟩
     by_cases z:a%(2+(k:Int))=0<;>simp[z]
    ·refine⟨(bf (a.toNat-2)).map λ(k:Nat)=>a%(2+(k:Int)) != 0,?_,?_⟩
     ·unfold ug;rw[bQ];rfl
     ·have e:(decide (2<=a)&&decide (a<=61)&&(bf (a.toNat-2)).all λi=>a%(2+(i:Int)) != 0)=((bf (a.toNat-2)).map λ(k:Nat)=>a%(2+(k:Int)) != 0).all id:=by
       simp[h1,h2,kO]
      rw[<-e];exact q
   ·rename_i h2
    have e:(decide (2<=a)&&decide (a<=61)&&(bf (a.toNat-2)).all λi=>a%(2+(i:Int)) != 0)=false:=by simp[h2]
    rw[e]at q;exact q
  ·rename_i h1
   have e:(decide (2<=a)&&decide (a<=61)&&(bf (a.toNat-2)).all λi=>a%(2+(i:Int)) != 0)=false:=by simp[h1]
   rw[e]at q;exact q
noncomputable abbrev W9:List D->List Str->List D->Prop:=λds ns xs=>∃p:Nat,ds=[.int p]/\p∈kl/\ns=jk "prime"/\xs=[.int p,.int p,.int ((bl p:Nat)-1),.lst true (ay (fl (false,p))),.lst true (ay (dh (fl (false,p)))),.int (fst (false,p))]
theorem Xa(T:Txt K mg t)(hB:Bm mg base):aL P w K mg base aT 8 t.BH t.xp ["self","prime"] (AU [t.iJ,t.iK] t.bc W9):=by
 refine JZ T.V3 T.WK Vz (λvs H Q E h=>?_) λA outer s H vs Q E hr h=>?_
 ·obtain⟨x,dx,bS,ds,ns,xs,rfl,_,_,r,⟨p,rfl,_⟩,_⟩:=h
  have:=r.length
  simp at this
  simp[this]
 obtain⟨x,dx,bS,ds,ns,xs,rfl,tb,hx,r,⟨p,rfl,hp,rfl,rfl⟩,q⟩:=h
 obtain rfl:bS=[.int p]:=by
  cases r with
  | int r=>cases r;rfl
 have hm:(false,p)∈bJ:=cI _ (yF hp)
 have hF:=eN hm
 refine⟨_,ik (yT (yR (yQ (nV ((at2 T).mono (by decide)) hr rfl T.V1 T.Lc.kp T.V2 .nil aV (dM (pv 1) gh)))) (nN GP) yS)
  (ik (kX (pv 0) (pv 1) rfl)
  (nN (s8 (JS (E:=E0) (i:=1) T.LH ((LK T).mono (by decide)) hr T.Lb rfl T.su rfl rfl rfl rfl (dM (pv 0) (dM (pv 1) (dM (JL rfl rfl T.WL hB) gh))))))),?_⟩
 refine⟨_,rfl,H,[.int p],λd=>d=.bl true,ae.refl _,.int .nil,⟨p,rfl,by rw[T5 p hp]⟩,λd v F' H1 A1 hd pG hf he h3 r nd fr=>?_⟩
 subst hd
 cases r
 refine⟨true,rfl,?_⟩
 refine i4 ?_
 have dg:=pG.get _ _ hx
 refine⟨.int p,rfl,.ref x,rfl,x,t.bc,dx,_,rfl,dg,T.xw,T.sq,by decide,?_⟩
 generalize e2:upd H1 x (HO.ins t.bc dx (dJ "prime" (.int p) []))=H2
 have eM:H2 x=some (.ins t.bc dx [(("prime":Str),.int p)]):=by rw[<-e2,bw];rfl
 have s2:cK x H H2:=by rw[<-e2];exact(pG.x (x:=x)).trans (cK.upd (C:=x) (dx:=dx) dg rfl)
 have n2:∀p,H2 p=none->H p=none:=λp h=>pG.free (uB dg (by rw[e2];exact h))
 obtain⟨ps,hP⟩:=tb t.iJ (by simp)
 obtain⟨more,C3⟩:=s2.tb _ ps hP
 refine⟨.ref x,rfl,.int p,rfl,⟨_,C3⟩,λf k qn pm fQ H3 nf C4 hk kf kH Xb=>?_⟩
 refine⟨f,_,_,.int p,C4,rfl,rfl,λoc u fA hu nc mV=>?_⟩
 obtain⟨tm,rfl⟩:∃tm,u=nk p tm:=hu
 have jo:=kH.get _ _ eM
 refine⟨x,dx,f,t.bc,"prime",p,p,_,oc,_,k,gm (false,p),fl (false,p),fst (false,p),rfl,uC jo (λz=>by rw[z,nf]at eM;cases eM) nc,by decide,⟨T.xw,T.uW,T.uZ,T.uX,T.uV,T.uY,T.u4⟩,J7 mV nc hk kf,?_,hF,λH' p1 p2 sx dO rh vR ne va pF=>?_⟩
 ·refine JX (n:=3) ⟨rfl,rfl,rfl,by decide,rfl,rfl,by decide,by decide,rfl⟩ fA (λu1 u2=>rfl) λq f A outer s H E hr=>?_
  refine⟨_,aA cT (aa (aA jc (bv 0) (bv 1))) (bv 2),λi j Qd h=>?_⟩
  obtain⟨a,b,rfl,rfl,ha,hb,hq⟩:=h
  walk_at"l3"
  have hp0:2<=p:=hF.lo
  refine⟨iX.ok (.inr ⟨by omega,by omega⟩),by omega,?_⟩
  have e:((gm (false,p) a b:Nat):Int)=(a:Int)*b%p:=by
   show((a*b%p:Nat):Int)=_
   rw[pU,yG]
  rw[<-e];exact hq
 ·have gf:H' f=some (.ext (gq _ oc _ f)):=sx.get f _ (λz=>by rw[z]at nf;rw[nf]at eM;cases eM) (by rw[aD mV.symm,bw]) rfl
  have gc:=sx.get _ _ (dq jo nc).symm bw rfl
  refine⟨gf,gc,?_⟩
  refine q _ (wW p p p1 p2 (fst (false,p))) [p1,p2] (s2.trans (J6 kH nf nc sx)) ?_ rfl ?_ (by simp[ne]) (λa ha=>?_)
  ·rw[e7 (λz=>by rw[z,gf]at dO;cases dO) (λz=>by rw[z,gc]at dO;cases dO)];exact dO
  ·exact .int (.int (.int (.own (rh.rem gf gc) rfl (iE _) (.own (vR.rem gf gc) rfl (iE _) (.int .nil)))))
  ·simp at ha
   rcases ha with rfl | rfl
   ·exact n2 _ (wY kH va)
   ·exact n2 _ (wY kH pF)
noncomputable abbrev Xc:bB:=λds Q=>∃(l g:List Int),ds=[.lst false (ay l),.lst false (ay g)]/\1<=l.length/\l.length<=63/\g.length=l.length+1/\(∀x∈g,0<=x)/\Q (.lst true (mY l g))
theorem Xd(T:Txt K mg t):aL P w K mg base aT 1 t.BJ t.BK ["powers","logs"] (bD (Xc )):=by
 refine cg T.Ld xm ?_ ?_
 ·intro ds Q h
  obtain⟨l,g,rfl,h1,h2,h3,h4,q⟩:=h<;>rfl
 ·intro aE A outer s H E hr
  refine⟨_,(aJ (bN (i:=2) xm.nd rfl (aR rfl) (aA eZ (aa (fN (jf) (by rfl) T.jn i5 (ah (bv 0) az))) (aa ao)))
   (aJ (bN (i:=3) xm.nd rfl (ar rfl) (gv (cS (aA jc (aa (gv (cS ao eH))) (bv 2)) eH)))
   (aJ (lY fW rfl (wb rfl T.g9 (ah (aa ao) (ah (bv 2) az))) (ck (i:=4) xm.nd rfl (aR rfl))
    (aK (wj (i:=3) rfl (by first | exact ar rfl | exact aR (ar rfl)) (aA eZ (aa (gv (cS ao eH))) (aa (dy [("powers",0),("many",2),("logs",1),("a",4)] ["b"] rfl (wb rfl T.g9 (ah (aa ao) (ah (bv 2) az))) (λ_ _ _ _=>(ck (i:=4) (show(["powers","many","logs","a","b"]:List Str).Nodup by decide +kernel) rfl (ar (lookup_relabel_local rfl)) (by decide) (aR (lookup_relabel_local rfl)))) (λ_ _ _ _=>cJ) (λ_ _ _ _=>(dR (aP (bv 0) (aa (aA cT (aa (aA eZ (aP (bv 2) (bv 3) (λ_ _=>rfl)) (aP (bv 2) (bv 4) (λ_ _=>rfl)))) (aa (aA gz (bv 1) (aa ao))))) (λ_ _=>rfl)))) rfl ⟨rfl,⟨rfl,⟨rfl,⟨rfl,trivial⟩⟩⟩⟩ (λ_=>by repeat' (first | exact trivial | refine⟨.inl rfl,?_⟩ | refine⟨.inr (.inl rfl),?_⟩ | refine⟨.inr (.inr ⟨_,rfl⟩),?_⟩)) (λ_=>⟨⟨rfl,.inl rfl,.inl rfl,_,rfl,rfl⟩,⟨⟨rfl,.inl rfl,.inl rfl,_,rfl,rfl⟩,⟨⟨rfl,.inl rfl,.inl rfl,_,rfl,rfl⟩,⟨⟨rfl,.inl rfl,.inl rfl,_,rfl,rfl⟩,trivial⟩⟩⟩⟩) rfl (by decide +kernel)))))))
   (aK (bb (em 3)))))),λds Q h=>?_⟩
  obtain⟨l,g,rfl,h1,h2,h3,h4,q⟩:=h
  refine aI λU hU=>?_
  walk_at"l3"
  refine hU _ ?_
  clear hU U
  refine aI λU hU=>?_
  walk_at"l3"
  refine⟨by decide,⟨by omega,by omega,by omega⟩,by decide,hU _ ?_⟩
  clear hU U
  refine aI λU hU=>?_
  walk_at"l3"
  refine⟨1,(l.length:Int)+1,⟨rfl,rfl⟩,⟨by decide,by decide,by omega,by omega⟩,?_⟩
  have en:((l.length:Int)+1-1).toNat=l.length:=by omega
  rw[en]
  refine i9.mk (λi δ=>∃o,δ=[some (.lst false (ay l)),some (.lst false (ay g)),some (.int ((l.length:Int)+1)),some (.lst true (qY l g (i+1))),o]) ⟨none,?_⟩ ?_ ?_
  ·rw[show((l.length:Int)+1).toNat=l.length+1 by omega];rfl
  ·rintro i d δ hd ⟨o,rfl⟩
   obtain⟨hi,rfl⟩:i<l.length/\d=.int (1+(i:Int)):=by
    rw[dB]at hd
    by_cases hi:i<l.length
    ·rw[nG hi]at hd
     exact⟨hi,(cP hd).symm⟩
    ·rw[pV (by simpa using hi)]at hd;cases hd
   walk_at"l3"
   refine⟨⟨_,rfl⟩,by decide,1,(l.length:Int)+1,⟨rfl,rfl⟩,⟨by decide,by decide,by omega,by omega⟩,?_⟩
   rw[en]
   refine df (bf l.length) (λ(k:Nat)=>D.int (1+(k:Int))) (λ(k:Nat)=>D.int (l.getD ((g.getD (i+1) 0+g.getD (k+1) 0)%(l.length:Int)).toNat 0)) (by rw[t7]) (λx y h=>by injection h with h;omega) (λk hk=>?_) (.inr λ_ _=>rfl) (by rw[gJ,sL];omega) ?_
   ·have KO:=fU.mp hk
    walk_at"l3"
    have e1:(1+(i:Int)).toNat=i+1:=by omega
    have e2:(1+(k:Int)).toNat=k+1:=by omega
    have e3:(l.length:Int)+1-1=l.length:=by omega
    have n0:=qk (g.getD (i+1) 0+g.getD (k+1) 0) (show(l.length:Int)≠0 by omega)
    have n1:=nI (g.getD (i+1) 0+g.getD (k+1) 0) (show(0:Int)<l.length by omega)
    refine⟨_,qT (by omega) (by omega),_,qT (by omega) (by omega),?_⟩
    rw[e1,e2,e3]
    exact⟨by omega,_,qT n0 n1,rfl,rfl⟩
   ·walk_at"l3"
    refine⟨⟨by simp;omega,by rw[kO,cQ];intro x _;rfl⟩,by simp[qY];omega,_,?_,rfl⟩
    unfold qY
    rw[List.range_succ (n:=i+1),gI]
    congr 1
    show _=[D.lst true (ay (mX l g (i+1)))]
    unfold mX
    rw[if_neg (by omega)]
    unfold ay
    rw[cV,bQ];rfl
  ·rintro δ ⟨o,rfl⟩
   refine hU _ ?_
   simp only[jN,jO,jP,i8,dT,gu,fL,i7,dC,iz,jM,jK,jJ,jL,lN,je,jh,jY,lF,lH,lJ,lK,lL,lM,jH,by4,jW,jR,me,jT,mf,mh,mi,mj,mm,mq,iI,eo,mv,mw,mx,my,oo,mz,jU,gN,mE,mC,lP,lR,lU,lW,lX,mF,mG,j3,jQ,gR,ek,fh,fi,nE,pW,pX,pY,gw,gx,jX,j8,mL,mM,mO,o6,mQ,gX,o9,o7,o8,cV,iO,ib,jv,fu,pZ,aX,p8,p9,kQ,jz,qa,exists_eq_left',exists_eq_left,D.bl.injEq,D.int.injEq,D.lst.injEq,D.fz.injEq,D.str.injEq,D.tup.injEq,qe,and_true,true_and,cX,kP,iQ,jy,ot,ou,ow,oy,oA,oB,eW,gO,j4,oH,oI,oJ,oK,oM,dZ,iy,mH,oE,oF,oG,eF,jG,qf,qg,nu,fV,qh,qi,ny,oR,oS,oU,oV,oW,oX,oY,iF,j5,j6,fP,mI,oO,oN,mJ,oQ,j7,mK,if_true,qj,if_false,reduceIte,oZ,decide_eq_true_eq,fj,kb,ke,lQ,mT,mR,ki,kj,mW,m6,dE,pk,m5,m8,kD,cB,gJ]
   exact q
noncomputable abbrev Xe(t:nX):ui:=λds Q Ex=>∃a b:Nat,ds=[.int a,.int b]/\bl a<=1000000/\bl b<=1000000/\(b=0->Ex t.fo)/\(b≠0->∀q r:Nat,a=cl q b ^^^ r->bl r<bl b->Q (.tup [.int q,.int r]))
theorem LM(T:Txt K mg t):aL P w K mg base (og P w) 1 t.BL t.BM ["a","b"] (AB (Xe t )):=by
 refine SG T.CM rB ?_ ?_
 ·intro ds Q Ex h
  obtain⟨a,b,rfl,ha,hb,qx,q⟩:=h<;>rfl
 ·intro aE A outer s H E hr
  refine⟨_,(aJ (dv (cO (gS (dk hr)) (bv 1) (aa ao) (cy _)) (aK (SJ T.WT rfl (by rfl) (ah (aa RQ) az))) du)
   (aJ (bN (i:=2) rB.nd rfl (ar rfl) ao)
   (aJ (bN (i:=3) rB.nd rfl (ar rfl) (em 0))
   (aJ (SI (v9 fW (cO Sa (aa (jZ (bv 3))) (aa (jZ (bv 1))) (cy _))
    (aJ (bN (i:=4) rB.nd rfl (ar rfl) (aA gz (aa (jZ (bv 3))) (aa (jZ (bv 1)))))
    (aJ (tX (i:=2) rB.nd rfl (ar rfl) (aa (aA qR (aa ao) (bv 4))) wg)
    (aK (tX (i:=3) rB.nd rfl (ar rfl) (aa (aA qR (bv 1) (bv 4))) wg))))))
   (aK (bb (tW (cS (em 2) (cS (em 3) eH))))))))),λds Q Ex h=>?_⟩
  obtain⟨a,b,rfl,ha,hb,qx,q⟩:=h
  refine aI λU hU=>?_
  walk_at"l3"
  split
  ·rename_i h0
   exact⟨by decide,qx (by omega)⟩
  ·rename_i h0
   have b0:b≠0:=by omega
   refine hU _ ?_
   clear hU U
   refine aI λU hU=>?_
   walk_at"l3"
   refine hU _ ?_
   clear hU U
   refine aI λU hU=>?_
   walk_at"l3"
   refine hU _ ?_
   clear hU U
   refine aI λU hU=>?_
   walk_at"l3"
   refine⟨λm δ=>∃(x r:Nat) (o sh:Option D),δ=[o,some (.int b),some (.int (x:Nat)),some (.int (r:Nat)),sh]/\a=cl x b ^^^ r/\bl r<=bl a/\m=bl r,
    ⟨bl a,0,a,_,none,rfl,by rw[lu,kM],bH _,rfl⟩,?_⟩
   rintro m δ ⟨x,r,o,sh,rfl,inv,xC,rfl⟩
   simp only[jN,jO,jP,i8,dT,gu,fL,i7,dC,iz,jM,jK,jJ,jL,lN,je,jh,jY,lF,lH,lJ,lK,lL,lM,jH,by4,jW,jR,me,jT,mf,mh,mi,mj,mm,mq,iI,eo,mv,mw,mx,my,oo,mz,jU,gN,mE,mC,lP,lR,lU,lW,lX,mF,mG,j3,jQ,gR,ek,fh,fi,nE,pW,pX,pY,gw,gx,jX,j8,mL,mM,mO,o6,mQ,gX,o9,o7,o8,cV,iO,ib,jv,fu,pZ,aX,p8,p9,kQ,jz,qa,exists_eq_left',exists_eq_left,D.bl.injEq,D.int.injEq,D.lst.injEq,D.fz.injEq,D.str.injEq,D.tup.injEq,qe,and_true,true_and,cX,kP,iQ,jy,ot,ou,ow,oy,oA,oB,eW,gO,j4,oH,oI,oJ,oK,oM,dZ,iy,mH,oE,oF,oG,eF,jG,qf,qg,nu,fV,qh,qi,ny,oR,oS,oU,oV,oW,oX,oY,iF,j5,j6,fP,mI,oO,oN,mJ,oQ,j7,mK,if_true,qj,if_false,reduceIte,oZ,decide_eq_true_eq,fj,kb,ke,lQ,mT,mR,ki,kj,mW,m6,dE,pk,m5,m8,kD,fw]
   split
   ·rename_i hc
    have hle:bl b<=bl r:=by omega
    have zF:=HQ b0 hle
    have es:(((bl r:Nat):Int)-((bl b:Nat):Int))=((bl r-bl b:Nat):Int):=by omega
    clear hU
    refine aI λU hU=>?_
    walk_at"l3"
    simp only[fw,es]
    refine hU _ ?_
    clear hU
    refine aI λU hU=>?_
    walk_at"l3"
    have o1:bl (1:Int).natAbs=1:=by decide
    refine⟨⟨by omega,by omega⟩,hU _ ?_⟩
    clear hU
    simp only[jN,jO,jP,i8,dT,gu,fL,i7,dC,iz,jM,jK,jJ,jL,lN,je,jh,jY,lF,lH,lJ,lK,lL,lM,jH,by4,jW,jR,me,jT,mf,mh,mi,mj,mm,mq,iI,eo,mv,mw,mx,my,oo,mz,jU,gN,mE,mC,lP,lR,lU,lW,lX,mF,mG,j3,jQ,gR,ek,fh,fi,nE,pW,pX,pY,gw,gx,jX,j8,mL,mM,mO,o6,mQ,gX,o9,o7,o8,cV,iO,ib,jv,fu,pZ,aX,p8,p9,kQ,jz,qa,exists_eq_left',exists_eq_left,D.bl.injEq,D.int.injEq,D.lst.injEq,D.fz.injEq,D.str.injEq,D.tup.injEq,qe,and_true,true_and,cX,kP,iQ,jy,ot,ou,ow,oy,oA,oB,eW,gO,j4,oH,oI,oJ,oK,oM,dZ,iy,mH,oE,oF,oG,eF,jG,qf,qg,nu,fV,qh,qi,ny,oR,oS,oU,oV,oW,oX,oY,iF,j5,j6,fP,mI,oO,oN,mJ,oQ,j7,mK,if_true,qj,if_false,reduceIte,oZ,decide_eq_true_eq,fj,kb,ke,lQ,mT,mR,ki,kj,mW,m6,dE,pk,m5,m8,kD,fw]
    refine⟨⟨by omega,by rw[fw];omega⟩,_,zF,x ^^^ 2 ^ (bl r-bl b),r ^^^ b <<< (bl r-bl b),o,_,⟨rfl,?_,?_,rfl⟩,Qu inv,by omega,rfl⟩
    ·rw[show(1:Int)=((1:Nat):Int) from rfl,qF,nY,yJ]
    ·rw[qF,nY]
   ·rename_i hc
    refine hU _ ?_
    walk_at"l3"
    refine⟨by decide,q b0 x r inv (by omega)⟩
noncomputable abbrev Xf:bB:=λds Q=>∃a:Nat,ds=[.int a]/\bl a<=60/\Q (.bl (al a))
theorem Xg(T:Txt K mg t):aL P w K mg base aT 2 t.BN t.BO ["a"] (bD (Xf )):=by
 refine cg T.Lg Br ?_ ?_
 ·intro ds Q h
  obtain⟨a,rfl,ha,q⟩:=h<;>rfl
 ·intro aE A outer s H E hr
  refine⟨_,(aJ (dv (cO ud (bv 0) (aa ao) (cy _)) (aK (bb gP)) du)
   (aJ (bN (i:=1) Br.nd rfl (ar rfl) (aA iB (aa (aA gz (aa (jZ (bv 0))) (aa ao))) (aa ao)))
   (aJ (lY fW rfl (wb rfl T.g9 (ah (aa ao) (ah (aa (aA qR (aa ao) (aa (aA eZ (bv 1) (aa ao))))) az))) (ck (i:=2) Br.nd rfl (ar rfl))
    (aK (dv (cO (gS (dk hr)) (aP (aa (bt (Jt ((LM T).mono (by decide))) hr rfl T.Le T.CM.kp T.Lf Js (ah (bv 0) (ah (bv 2) az)))) (aa ao) (λ_ _=>rfl)) (aa ao) (cy _)) (aK (bb gP)) du)))
   (aK (bb gP))))),λds Q h=>?_⟩
  obtain⟨a,rfl,ha,q⟩:=h
  refine aI λU hU=>?_
  walk_at"l3"
  split
  ·rename_i h2
   rw[QH (by omega)]at q;exact q
  ·rename_i h2
   have h2:2<=a:=by omega
   have hp:=eS (show a≠0 by omega)
   refine hU _ ?_
   clear hU U
   refine aI λU hU=>?_
   walk_at"l3"
   simp only[fw]
   refine⟨iA (by omega) (by omega),hU _ ?_⟩
   clear hU U
   have eh:((((bl a:Nat):Int)-1)/2+1)=(((bl a-1)/2+1:Nat):Int):=by omega
   have e1:(1:Int)*2 ^ ((((bl a:Nat):Int)-1)/2+1).toNat=((2 ^ ((bl a-1)/2+1):Nat):Int):=by
    rw[eh,show(1:Int)=((1:Nat):Int) from rfl,qF,yJ]
   have big:2 ^ ((bl a-1)/2+1)<=2 ^ 40:=vq (by decide) (by omega)
   have o1:bl (1:Int).natAbs=1:=by decide
   refine aI λU hU=>?_
   walk_at"l3"
   rw[e1]
   have cz0:((2 ^ ((bl a-1)/2+1):Nat):Int)<=2 ^ 40:=by exact_mod_cast big
   have nn:(0:Int)<=((2 ^ ((bl a-1)/2+1):Nat):Int):=Gd _
   refine⟨⟨by omega,by omega⟩,_,_,⟨rfl,rfl⟩,⟨by decide,by decide,by omega,by omega⟩,?_⟩
   have en:(((2 ^ ((bl a-1)/2+1):Nat):Int)-2).toNat=2 ^ ((bl a-1)/2+1)-2:=by omega
   rw[en]
   refine i9.mk (λi δ=>(∃o1 o2,δ=[some (.int a),o1,o2])/\∀j,j<i->md a (2+j)≠0) ⟨⟨_,_,rfl⟩,λj hj=>absurd hj (by omega)⟩ ?_ ?_
   ·rintro i d δ hd ⟨⟨o1,o2,rfl⟩,inv⟩
    obtain⟨hi,rfl⟩:i<2 ^ ((bl a-1)/2+1)-2/\d=.int (2+(i:Int)):=by
     rw[dB]at hd
     by_cases hi:i<2 ^ ((bl a-1)/2+1)-2
     ·rw[nG hi]at hd
      exact⟨hi,(cP hd).symm⟩
     ·rw[pV (by simpa using hi)]at hd;cases hd
    have bi:bl (2+i)<=60:=by
     have:=(QK h2 (show 2+i<2 ^ ((bl a-1)/2+1) by omega)).2
     omega
    walk_at"l3"
    refine⟨a,2+i,by rw[show((2+i:Nat):Int)=2+(i:Int) by omega],by omega,by omega,by omega,λ_ x r e l=>?_⟩
    have em:md a (2+i)=r:=tP e l
    refine⟨.int r,rfl,rfl,?_⟩
    rw[j7]
    split
    ·rename_i hz
     have r0:r=0:=by have:=of_decide_eq_true hz;omega
     rw[QJ hi (em.trans r0)]at q
     exact q
    ·rename_i hz
     refine⟨⟨_,_,rfl,rfl⟩,λj hj=>?_⟩
     by_cases ej:j=i
     ·rw[ej,em]
      intro r0
      exact hz (decide_eq_true (by omega))
     ·exact inv j (by omega)
   ·rintro δ ⟨⟨o1,o2,rfl⟩,inv⟩
    rw[cB,gJ]at inv
    rw[QI h2 inv]at q
    refine hU _ ?_
    walk_at"l3"
    exact q
noncomputable abbrev Xh:bB:=λds Q=>∃a:Int,ds=[.int a]/\Q (.bl (decide (4<=a)&&decide (a<=127)&&al a.toNat))
theorem Xi(T:Txt K mg t):aL P w K mg base aT 3 t.BP t.BQ ["bits"] (bD (Xh )):=by
 refine cg T.Lh VA ?_ ?_
 ·intro ds Q h
  obtain⟨a,rfl,q⟩:=h<;>rfl
 ·intro aE A outer s H E hr
  refine⟨_,(aK (bb (qQ (aa (Ai ue ue (aa ao) (bv 0) (aa ao))) (qw (bt ((Xg T).mono (by decide)) hr rfl T.V7 T.Lg.kp T.V8 aV (ah (bv 0) az)))))),λds Q h=>?_⟩
  obtain⟨a,rfl,q⟩:=h
  walk_at"l3"
  split
  ·rename_i h1
   split
   ·rename_i h2
    refine⟨a.toNat,by rw[Gy (by omega)],?_,?_⟩
    ·have:bl a.toNat<=bl 127:=zG (by omega)
     exact dW this (by decide)
    ·have e:(decide (4<=a)&&decide (a<=127)&&al a.toNat)=al a.toNat:=by simp[h1,h2]
     rw[e]at q;exact q
   ·rename_i h2
    have e:(decide (4<=a)&&decide (a<=127)&&al a.toNat)=false:=by simp[h2]
    rw[e]at q;exact q
  ·rename_i h1
   have e:(decide (4<=a)&&decide (a<=127)&&al a.toNat)=false:=by simp[h1]
   rw[e]at q;exact q
noncomputable abbrev Xj:bB:=λds Q=>∃a b:Nat,ds=[.int a,.int b]/\bl a<=1000/\bl b<=1000/\Q (.int (cl a b:Nat))
theorem Xk(T:Txt K mg t):aL P w K mg base aT 1 t.BR t.BS ["a","b"] (bD (Xj )):=by
 refine cg T.Li xn ?_ ?_
 ·intro ds Q h
  obtain⟨a,b,rfl,ha,hb,q⟩:=h<;>rfl
 ·intro aE A outer s H E hr
  refine⟨_,(aJ (bN (i:=2) xn.nd rfl (ar rfl) ao)
   (aJ (lY fW rfl (lV rfl T.g9 (ah (aa (jZ (bv 1))) az)) (ck (i:=3) xn.nd rfl (ar rfl))
    (aK (dv (cO (gS (dk hr)) (aa (aA IS (aa (aA IQ (bv 1) (bv 3))) (aa ao))) (aa ao) (cy _)) (aK (tX (i:=2) xn.nd rfl (ar rfl) (aa (aA qR (bv 0) (bv 3))) wg)) du)))
   (aK (bb (em 2))))),λds Q h=>?_⟩
  obtain⟨a,b,rfl,ha,hb,q⟩:=h
  refine aI λU hU=>?_
  walk_at"l3"
  refine hU _ ?_
  clear hU U
  refine aI λU hU=>?_
  walk_at"l3"
  simp only[fw]
  refine⟨⟨by omega,by omega⟩,AA (λi δ=>∃o,δ=[some (.int a),some (.int b),some (.int (Mf.P a b i:Nat)),o]) ⟨none,rfl⟩ ?_ ?_⟩
  ·rintro i δ hi ⟨o,rfl⟩
   walk_at"l3"
   refine⟨by omega,?_⟩
   have jr:(kK ((b:Int)/2 ^ ((i:Int)).toNat) 1=1)↔b.testBit i=true:=by
    have h:=QT b i
    rw[Gw]at h
    rw[<-h,dI]
   split
   ·rename_i hc
    have h:=QU (a:=a) (jr.mp hc)
    rw[Gw]at h
    exact⟨⟨by omega,by rw[fw];omega⟩,_,h,rfl⟩
   ·rename_i hc
    exact⟨_,by rw[QV (λz=>hc (jr.mpr z))],rfl⟩
  ·rintro δ ⟨o,rfl⟩
   refine hU _ ?_
   walk_at"l3"
   exact q
noncomputable abbrev Xl:List D->List Str->List D->Prop:=λds ns xs=>∃p:Nat,ds=[.int p]/\p∈fk/\ns=jk "bits"++[("products":Str)]/\xs=[.int p,.int (au (true,p)),.int ((bl (au (true,p)):Nat)-1),.lst true (ay (fl (true,p))),.lst true (ay (dh (fl (true,p)))),.int (fst (true,p)),.lst true (mY (fl (true,p)) (dh (fl (true,p))))]
theorem Xm(T:Txt K mg t)(hB:Bm mg base):aL P w K mg base aT 8 t.BU t.xq ["self","bits"] (AU [t.iJ,t.iK] t.aW Xl):=by
 refine JZ T.Wd T.WM K2 (λvs H Q E h=>?_) λA outer s H vs Q E hr h=>?_
 ·obtain⟨x,dx,bS,ds,ns,xs,rfl,_,_,r,⟨p,rfl,_⟩,_⟩:=h
  have:=r.length
  simp at this
  simp[this]
 obtain⟨x,dx,bS,ds,ns,xs,rfl,tb,hx,r,⟨p,rfl,hp,rfl,rfl⟩,q⟩:=h
 obtain rfl:bS=[.int p]:=by
  cases r with
  | int r=>cases r;rfl
 have hm:(true,p)∈bJ:=eu _ (yF hp)
 have hF:=eN hm
 refine⟨_,ik (yT (yR (yQ (nV ((Xi T).mono (by decide)) hr rfl T.V9 T.Lh.kp T.Wa .nil aV (dM (pv 1) gh)))) (nN GP) yS)
  (ik (kX (pv 0) (pv 1) rfl)
  (ik (GV (i:=2) K2.nd rfl (ar rfl) (vM Ia qu (vM zf (zI (pv 1)) qu)))
  (ik (s8 (JS (E:=E0) (i:=1) T.LH ((LK T).mono (by decide)) hr T.Lb rfl T.su rfl rfl rfl rfl (dM (pv 0) (dM (pv 2) (dM (JL rfl rfl T.WN hB) gh)))))
  (nN (kX (pv 0) (nV ((Xd T).mono (by decide)) hr rfl T.V5 T.Ld.kp T.V6 .nil aV (dM (vQ (pv 0) rfl) (dM (vQ (pv 0) rfl) gh))) rfl))))),?_⟩
 refine⟨_,rfl,H,[.int p],λd=>d=.bl true,ae.refl _,.int .nil,⟨p,rfl,by rw[T6 p hp]⟩,λd v F' H1 A1 hd pG hf he h3 r nd fr=>?_⟩
 subst hd
 cases r
 refine⟨true,rfl,?_⟩
 refine i4 ?_
 have dg:=pG.get _ _ hx
 refine⟨.int p,rfl,.ref x,rfl,x,t.aW,dx,_,rfl,dg,T.pE,T.uO,by decide,?_⟩
 generalize e2:upd H1 x (HO.ins t.aW dx (dJ "bits" (.int p) []))=H2
 have eM:H2 x=some (.ins t.aW dx [(("bits":Str),.int p)]):=by rw[<-e2,bw];rfl
 have s2:cK x H H2:=by rw[<-e2];exact(pG.x (x:=x)).trans (cK.upd (C:=x) (dx:=dx) dg rfl)
 have n2:∀p,H2 p=none->H p=none:=λp h=>pG.free (uB dg (by rw[e2];exact h))
 obtain⟨ps,hP⟩:=tb t.iK (by simp)
 obtain⟨more,C3⟩:=s2.tb _ ps hP
 have bp:bl p<=7:=Kb p hp
 have xD:1<=bl p:=Kd p hp
 refine⟨.int p,rfl,rfl,p,rfl,rfl,_,_,rfl,rfl,_,_,rfl,rfl,?_,?_⟩
 ·have o1:bl (1:Int).natAbs=1:=by decide
  rw[fw]
  exact⟨by omega,by omega⟩
 have em:(1:Int)*2 ^ (((bl ((p:Int)).natAbs:Nat):Int)-1).toNat=((au (true,p):Nat):Int):=by
  rw[fw,show(((bl p:Nat):Int)-1)=((bl p-1:Nat):Int) by omega,show(1:Int)=((1:Nat):Int) from rfl,qF,yJ];rfl
 show vJ 2 (.int ((1:Int)*2 ^ (((bl ((p:Int)).natAbs:Nat):Int)-1).toNat)) _ _ _
 rw[em]
 refine⟨.ref x,rfl,.int (au (true,p)),rfl,⟨_,C3⟩,λf k qn pm fQ H3 nf C4 hk kf kH Xb=>?_⟩
 refine⟨f,_,_,.int p,C4,rfl,rfl,λoc u fA hu nc mV=>?_⟩
 obtain⟨tm,rfl⟩:∃tm,u=nk p tm:=hu
 have jo:=kH.get _ _ eM
 refine⟨x,dx,f,t.aW,"bits",p,au (true,p),_,oc,_,k,gm (true,p),fl (true,p),fst (true,p),rfl,uC jo (λz=>by rw[z,nf]at eM;cases eM) nc,by decide,⟨T.pE,T.uP,T.uR,T.sj,T.si,T.uQ,T.uT⟩,J7 mV nc hk kf,?_,hF,λH' p1 p2 sx dO rh vR ne va pF=>?_⟩
 ·refine JX (n:=3) ⟨rfl,rfl,rfl,by decide,rfl,rfl,by decide,by decide,rfl⟩ fA (λu1 u2=>rfl) λq f A outer s H E hr=>?_
  refine⟨_,dR (aP (aa (bt (Jt ((LM T).mono (by decide))) hr rfl T.Le T.CM.kp T.Lf Js (ah (aa (bt ((Xk T).mono (by decide)) hr rfl T.Wb T.Li.kp T.Wc aV (ah (bv 0) (ah (bv 1) az)))) (ah (bv 2) az)))) (aa ao) (λ_ _=>rfl)),λi j Qd h=>?_⟩
  obtain⟨a,b,rfl,rfl,ha,hb,hq⟩:=h
  walk_at"l3"
  have b1:bl a<=6:=by
   have:bl a<=bl 63:=zG (by omega)
   exact dW this (by decide)
  have b2:bl b<=6:=by
   have:bl b<=bl 63:=zG (by omega)
   exact dW this (by decide)
  have p0:p≠0:=by
   intro z
   rw[z]at xD
   exact absurd xD (by decide)
  refine⟨a,b,rfl,by omega,by omega,cl a b,p,rfl,dW (T7 a b) (by omega),by omega,λz=>p0 z,λ_ x r e l=>⟨by simp[D.pl],.int r,rfl,rfl,r,rfl,?_⟩⟩
  have er:gm (true,p) a b=r:=tP e l
  rw[<-er];exact hq
 ·have gf:H' f=some (.ext (gq _ oc _ f)):=sx.get f _ (λz=>by rw[z]at nf;rw[nf]at eM;cases eM) (by rw[aD mV.symm,bw]) rfl
  have gc:=sx.get _ _ (dq jo nc).symm bw rfl
  refine⟨gf,gc,?_⟩
  have s4:=s2.trans (J6 kH nf nc sx)
  have f1:=n2 _ (wY kH va)
  have f2:=n2 _ (wY kH pF)
  have l1:=rh.rem gf gc
  have l2:=vR.rem gf gc
  have m9:rem H' f (s.heap.objs.size+1) x=some (.ins t.aW dx ((jk "bits").zip (wW p (au (true,p)) p1 p2 (fst (true,p))))):=by
   rw[e7 (λz=>by rw[z,gf]at dO;cases dO) (λz=>by rw[z,gc]at dO;cases dO)];exact dO
  generalize rem H' f (s.heap.objs.size+1)=H4 at s4 l1 l2 m9
  refine⟨.ref x,rfl,x,t.aW,dx,_,.ref p1,rfl,m9,T.pE,T.sj,rfl,.ref x,rfl,x,t.aW,dx,_,.ref p2,rfl,m9,T.pE,T.si,rfl,H4,[.lst false (ay (fl (true,p))),.lst false (ay (dh (fl (true,p))))],λd=>d=.lst true (mY (fl (true,p)) (dh (fl (true,p)))),ae.refl _,.shr l1 (iE _) (.shr l2 (iE _) .nil),
   ⟨_,_,rfl,by have:=hF.len;have:=hF.lo;omega,by have:=hF.len;have:=hF.hi;omega,AW _ _,Ka _ _,rfl⟩,λd v F' H5 A' hd nh hf he h3 r nd fr=>?_⟩
  subst hd
  obtain⟨p3,rfl⟩:∃p3,v=.ref p3:=by cases r;exact⟨_,rfl⟩
  have jq:=nh.get _ _ m9
  have nA:∀{a ws},H4 a=some (.lst ws)->a ∉ A':=λ{a ws} e z=>by rw[fr a z]at e;cases e
  refine⟨.ref x,rfl,x,t.aW,dx,_,rfl,jq,T.pE,T.sk,kN (bH 6) (by decide),?_⟩
  refine q _ (wW p (au (true,p)) p1 p2 (fst (true,p))++[.ref p3]) (p1::p2::A') ((s4.trans (nh.x (x:=x))).trans (cK.upd (C:=x) (dx:=dx) jq rfl)) (by rw[bw];rfl) rfl ?_ ?_ ?_
  ·exact .int (.int (.int (.own ((l1.same nh).upd jq (λws z=>by cases z)) rfl (iE _) (.own ((l2.same nh).upd jq (λws z=>by cases z)) rfl (iE _) (.int ((r.zU (by simp[eF,J9]) (ae.of λb o e=>by cases e)).uA jq (by simp[eF,J9])))))))
  ·exact gH.mpr ⟨by simp[ne];exact nA l1,gH.mpr ⟨nA l2,nd⟩⟩
  ·intro a ha
   rcases bV.mp ha with rfl | ha
   ·exact f1
   ·rcases bV.mp ha with rfl | ha
    ·exact f2
    ·exact s4.free (by rw[m9];simp) (fr a ha)
noncomputable abbrev Xn(cb cp:Addr):bB:=λds Q=>∃m:Bool × Nat,ds=[cH m]/\m∈bJ/\Q (fD cb cp m)
theorem Xo(T:Txt K mg t)(hB:Bm mg base):aL P w K mg base aT 10 t.BV t.BW ["_law_told_here"] (um [t.iJ,t.iK] (bD (Xn t.aW t.bc))):=by
 refine JY T.Lj VB ?_ ?_
 ·intro ds Q h
  obtain⟨m,rfl,hm,q⟩:=h<;>rfl
 ·intro aE A outer s H E hT hr
  refine⟨_,(aJ (dv (jI (aP (bv 0) (aa ao) (λ_ _=>rfl))) (aK (bb (J2 hT T.uN ((Xm T hB).mono (by decide)) hr rfl T.u6 T.We aV (ah (aP (bv 0) (aa ao) (λ_ _=>rfl)) az)))) du)
   (aK (bb (J2 hT T.uU ((Xa T hB).mono (by decide)) hr rfl T.u9 T.V4 aV (ah (aP (bv 0) (aa ao) (λ_ _=>rfl)) az))))),λds Q h=>?_⟩
  obtain⟨m,rfl,hm,q⟩:=h
  unfold cH at *
  refine aI λU hU=>?_
  walk_at"l3"
  obtain⟨b,n⟩:=m
  cases b with
  | true =>
   refine⟨_,rfl,true,rfl,?_⟩
   rw[if_pos rfl]
   refine⟨_,rfl,_,_,⟨n,rfl,A6 hm,rfl,rfl⟩,?_⟩
   rw[Uj];exact q
  | false =>
   refine⟨_,rfl,false,rfl,?_⟩
   rw[if_neg (by decide)]
   refine hU _ ?_
   walk_at"l3"
   refine⟨_,rfl,_,_,⟨n,rfl,Ul hm,rfl,rfl⟩,?_⟩
   rw[Uk];exact q
noncomputable abbrev Xp:bB:=λds Q=>∃(m:Bool × Nat) (a b:Nat),ds=[cH m,.int a,.int b]/\0<m.2/\Q (.int (gp m a b:Nat))
theorem Xq(T:Txt K mg t):aL P w K mg base aT 1 t.BX t.BY ["_law_told_here","_law_a","_law_b"] (bD (Xp )):=by
 refine cg T.Lk VC ?_ ?_
 ·intro ds Q h
  obtain⟨m,a,b,rfl,h0,q⟩:=h<;>rfl
 ·intro aE A outer s H E hr
  refine⟨_,(aJ (dv (jI (aP (bv 0) (aa ao) (λ_ _=>rfl))) (aK (bb (aA Ae (bv 1) (bv 2)))) du)
   (aK (bb (aA cT (aa (aA eZ (bv 1) (bv 2))) (aP (bv 0) (aa ao) (λ_ _=>rfl)))))),λds Q h=>?_⟩
  obtain⟨m,a,b,rfl,h0,q⟩:=h
  unfold cH at *
  obtain⟨k,n⟩:=m
  refine aI λU hU=>?_
  walk_at"l3"
  cases k with
  | true =>
   refine⟨_,rfl,true,rfl,?_⟩
   rw[if_pos rfl,nY]
   exact q
  | false =>
   refine⟨_,rfl,false,rfl,?_⟩
   rw[if_neg (by decide)]
   refine hU _ ?_
   walk_at"l3"
   refine⟨_,rfl,?_⟩
   refine⟨by omega,?_⟩
   have e:((gp (false,n) a b:Nat):Int)=((a:Int)+b)%n:=by
    show(((a+b)%n:Nat):Int)=_
    rw[pU,vv]
   rw[<-e];exact q
noncomputable abbrev Xr:bB:=λds Q=>∃(m:Bool × Nat) (a b:Nat),ds=[cH m,.int a,.int b]/\m∈bJ/\a<au m/\b<au m/\Q (.int (gm m a b:Nat))
theorem Xs(T:Txt K mg t):aL P w K mg base aT 1 t.BZ t.B0 ["_law_told_here","_law_a","_law_b"] (bD (Xr )):=by
 refine cg T.Ll rJ ?_ ?_
 ·intro ds Q h
  obtain⟨m,a,b,rfl,hm,ha,hb,q⟩:=h<;>rfl
 ·intro aE A outer s H E hr
  refine⟨_,(aJ (dv (qP (jI (aP (bv 0) (aa ao) (λ_ _=>rfl)))) (aK (bb (aA cT (aa (aA jc (bv 1) (bv 2))) (aP (bv 0) (aa ao) (λ_ _=>rfl))))) du)
   (aJ (bN (i:=3) rJ.nd rfl (ar rfl) ao)
   (aJ (v9 fW (cO IT (bv 2) (aa ao) (cy _))
    (aJ (dv (cO (gS (dk hr)) (aa (aA IS (bv 2) (aa ao))) (aa ao) (cy _)) (aK (bN (i:=3) rJ.nd rfl (ar rfl) (aA Ae (bv 3) (bv 1)))) du)
    (aJ (bN (i:=1) rJ.nd rfl (ar rfl) (aA qR (bv 1) (aa ao)))
    (aJ (dv (cO (gS (dk hr)) (aa (jZ (bv 1))) (aa (jZ (aP (bv 0) (aa ao) (λ_ _=>rfl)))) (cy _)) (aK (bN (i:=1) rJ.nd rfl (ar rfl) (aA Ae (bv 1) (aP (bv 0) (aa ao) (λ_ _=>rfl))))) du)
    (aK (bN (i:=2) rJ.nd rfl (ar rfl) (aA IQ (bv 2) (aa ao))))))))
   (aK (bb (em 3)))))),λds Q h=>?_⟩
  obtain⟨m,a,b,rfl,hm,ha,hb,q⟩:=h
  unfold cH at *
  obtain⟨k,n⟩:=m
  refine aI λU hU=>?_
  walk_at"l3"
  have hF:=eN hm
  cases k with
  | false =>
   refine⟨_,rfl,false,rfl,?_⟩
   have Xt:n<=64:=hF.hi
   have l2:2<=n:=hF.lo
   have AF:a<n:=ha
   have wO:b<n:=hb
   rw[if_pos (by decide)]
   refine⟨iX.ok (.inr ⟨by omega,by omega⟩),_,rfl,by omega,?_⟩
   have e:((gm (false,n) a b:Nat):Int)=(a:Int)*b%n:=by
    show((a*b%n:Nat):Int)=_
    rw[pU,yG]
   rw[<-e];exact q
  | true =>
   refine⟨_,rfl,true,rfl,?_⟩
   rw[if_neg (by decide)]
   have hp:=A6 hm
   have bp:=Kb n hp
   have xD:=Kd n hp
   have p0:n≠0:=λz=>by rw[z,jC]at xD;omega
   have Ac:bl a<bl n:=by
    have:=de.mpr (show a<2 ^ (bl n-1) from ha)
    omega
   have Xu:bl b<bl n:=by
    have:=de.mpr (show b<2 ^ (bl n-1) from hb)
    omega
   refine hU _ ?_
   clear hU U
   refine aI λU hU=>?_
   walk_at"l3"
   refine hU _ ?_
   clear hU U
   refine aI λU hU=>?_
   walk_at"l3"
   refine⟨λm δ=>∃(x y z:Nat),δ=[some (.tup [.bl true,.int n]),some (.int (x:Nat)),some (.int (y:Nat)),some (.int (z:Nat))]/\z ^^^ md (cl x y) n=gm (true,n) a b/\bl x<bl n/\bl y<bl n/\m=bl y,
    ⟨bl b,a,b,0,rfl,by rw[kM];rfl,Ac,Xu,rfl⟩,?_⟩
   rintro m δ ⟨x,y,z,rfl,inv,hx,hy,rfl⟩
   walk_at"l3"
   split
   ·rename_i vb
    have LL:=eS (show y≠0 by omega)
    have hy2:bl (y/2)=bl y-1:=QF y
    have e1:((x:Int)*2 ^ (1:Int).toNat)=((2*x:Nat):Int):=by
     show(x:Int)*(2:Int) ^ 1=_
     omega
    have e2:((y:Int)/2 ^ (1:Int).toNat)=((y/2:Nat):Int):=by
     show(y:Int)/(2:Int) ^ 1=_
     omega
    have a1:kK (y:Int) 1=((y%2:Nat):Int):=by
     rw[show(1:Int)=((1:Nat):Int) from rfl,HS,Nat.and_one_is_mod]
    have tm:=Uq (y:=y) p0 hx
    have tb:=Ur p0 hx
    clear hU
    refine aI λU hU=>?_
    walk_at"l3"
    have fin:∀z':Nat,z'=z ^^^ (if y%2=1 then x else 0)->U [some (.tup [.bl true,.int n]),some (.int x),some (.int y),some (.int z')]:=by
     intro z' hz
     have Xv:z' ^^^ md (cl (if bl (2*x)=bl n then 2*x ^^^ n else 2*x) (y/2)) n=gm (true,n) a b:=by
      rw[hz,nD,<- tm];exact inv
     refine hU _ ?_
     clear hU
     refine aI λU hU=>?_
     walk_at"l3"
     refine⟨⟨by decide,by simp only[fw];omega⟩,hU _ ?_⟩
     clear hU
     rw[e1]
     refine aI λU hU=>?_
     walk_at"l3"
     have last:∀x':Nat,x'=(if bl (2*x)=bl n then 2*x ^^^ n else 2*x)->U [some (.tup [.bl true,.int n]),some (.int (x':Nat)),some (.int y),some (.int z')]:=by
      intro x' dO
      refine hU _ ?_
      walk_at"l3"
      exact⟨by decide,bl (y/2),by omega,x',y/2,z',⟨rfl,e2,rfl⟩,by rw[dO];exact Xv,by rw[dO];exact tb,by omega,rfl⟩
     refine⟨_,rfl,?_⟩
     show(if(((bl (((2*x:Nat):Int)).natAbs:Nat):Int)=((bl ((n:Int)).natAbs:Nat):Int))then _ else _)
     rw[fw,fw]
     split
     ·rename_i hc
      refine⟨_,rfl,?_⟩
      have g:=last (2*x ^^^ n) (by rw[if_pos (by omega)])
      rw[<-nY]at g
      exact g
     ·rename_i hc
      exact last (2*x) (by rw[if_neg (by omega)])
    rw[a1]
    split
    ·rename_i jr
     have odd:y%2=1:=by omega
     have g:=fin (z ^^^ x) (by rw[if_pos odd])
     rw[<-nY]at g
     exact g
    ·rename_i jr
     exact fin z (by rw[if_neg (by omega),iP])
   ·rename_i vb
    have hy:y=0:=by omega
    subst hy
    rw[Qo,uD (by rw[jC];exact eS p0),iP]at inv
    subst inv
    refine hU _ ?_
    walk_at"l3"
    exact q
noncomputable abbrev Xw:bB:=λds Q=>∃(m:Bool × Nat) (xs ys:List Nat),ds=[cH m,.lst false (ax xs),.lst false (ax ys)]/\m∈bJ/\xs.length=ys.length/\xs.length<=64/\(∀x∈xs,x<au m)/\(∀y∈ys,y<au m)/\Q (.int (gd m xs ys:Nat))
theorem Xx(T:Txt K mg t):aL P w K mg base aT 2 t.B3 t.B4 ["_law_told_here","_law_xs","_law_ys"] (bD (Xw )):=by
 refine cg T.Lm xo ?_ ?_
 ·intro ds Q h
  obtain⟨m,xs,ys,rfl,hm,hl,kI,hx,hy,q⟩:=h<;>rfl
 ·intro aE A outer s H E hr
  refine⟨_,(aJ (bN (i:=3) xo.nd rfl (ar rfl) ao)
   (aJ (lY fW rfl (AJ rfl T.CZ (ah (bv 1) (ah (bv 2) az))) (uj (i1:=4) (i2:=5) rfl xo.nd rfl (ar rfl) rfl (ar rfl))
    (aK (bN (i:=3) xo.nd rfl (ar rfl) (bt ((Xq T).mono (by decide)) hr rfl T.Wh T.Lk.kp T.Wi aV (ah (bv 0) (ah (bv 3) (ah (aa (bt ((Xs T).mono (by decide)) hr rfl T.Wj T.Ll.kp T.Wk aV (ah (bv 0) (ah (bv 4) (ah (bv 5) az))))) az)))))))
   (aK (bb (em 3))))),λds Q h=>?_⟩
  obtain⟨m,xs,ys,rfl,hm,hl,kI,hx,hy,q⟩:=h
  refine aI λU hU=>?_
  walk_at"l3"
  refine hU _ ?_
  clear hU U
  refine aI λU hU=>?_
  walk_at"l3"
  refine⟨_,_,rfl,rfl,?_⟩
  refine i9.mk (λi δ=>∃o1 o2,δ=[some (cH m),some (.lst false (ax xs)),some (.lst false (ax ys)),some (.int (((iS (gm m) xs ys).take i).foldl (gp m) 0:Nat)),o1,o2]) ⟨none,none,rfl⟩ ?_ ?_
  ·rintro i d δ hd ⟨o1,o2,rfl⟩
   obtain⟨hi,hj,rfl⟩:∃(hi:i<xs.length) (hj:i<ys.length),d=.tup [.int (xs[i]:Nat),.int (ys[i]:Nat)]:=by
    unfold et at hd
    rw[dU,dU,yE]at hd
    by_cases hi:i<xs.length
    ·have hj:i<ys.length:=by omega
     rw[vy,br hi,br hj]at hd
     exact⟨hi,hj,(cP hd).symm⟩
    ·rw[pV (by simp;omega)]at hd;cases hd
   have dg:=hx xs[i] (fv _)
   have vb:=hy ys[i] (fv _)
   walk_at"l3"
   have hF:=eN hm
   have t1:(cH m).sh=cH m:=rfl
   have t2:(cH m).pl=true:=rfl
   have m0:0<m.2:=jl m hm
   refine⟨m,xs[i],ys[i],rfl,hm,dg,vb,m,_,gm m xs[i] ys[i],rfl,m0,by simp[D.pl],_,_,?_,rfl,rfl⟩
   rw[List.take_succ,GB,vy,br hi,br hj];rfl
  ·rintro δ ⟨o1,o2,rfl⟩
   refine hU _ ?_
   walk_at"l3"
   have e:(et (ax xs) (ax ys)).length=xs.length:=by unfold et;rw[vx,fj,fj];omega
   rw[e,Gu (by rw[vx];omega)]
   exact q
noncomputable abbrev Xy:bB:=λds Q=>∃(m:Bool × Nat) (xs:List Nat) (T:List (List Nat)) (w:Nat),ds=[cH m,.lst false (ax xs),.lst false (aC false T),.int w]/\m∈bJ/\AllLt (au m) xs/\xs.length<=64/\T.length=xs.length/\w<=1000/\RT (au m) w T/\Q (.lst true (ax (eP m xs T w)))
theorem LN(T:Txt K mg t):aL P w K mg base aT 3 t.B5 t.B6 ["_law_told_here","_law_xs","_law_table_here","_law_wide"] (bD (Xy )):=by
 refine cg T.CN VD ?_ ?_
 ·intro ds Q h
  obtain⟨m,xs,G,wi,rfl,hm,hx,mr,hG,hw,hR,q⟩:=h<;>rfl
 ·intro aE A outer s H E hr
  refine⟨_,(aK (bb (dy [("_law_told_here",0),("_law_xs",1),("_law_table_here",2)] ["_law_k"] rfl (lV rfl T.g9 (ah (bv 3) az)) (λ_ _ _ _=>(ck (i:=3) (show(["_law_told_here","_law_xs","_law_table_here","_law_k"]:List Str).Nodup by decide +kernel) rfl (aR rfl) (by decide) (ar rfl))) (λ_ _ _ _=>cJ) (by exact λ_ _ _ _=>(bt ((Xx T).mono (by decide)) hr rfl T.Wl T.Lm.kp T.Wm aV (ah (bv 0) (ah (bv 1) (ah (aa (dy [("_law_k",3)] ["_law_row"] rfl (ef (bv 2)) (λ_ _ _ _=>(ck (i:=1) (show(["_law_k","_law_row"]:List Str).Nodup by decide +kernel) rfl (ar (lookup_relabel_local rfl)) (by decide) (aR (lookup_relabel_local rfl)))) (λ_ _ _ _=>cJ) (λ_ _ _ _=>(dR (aP (bv 1) (bv 0) (λ_ _=>rfl)))) rfl ⟨rfl,trivial⟩ (λ_=>by repeat' (first | exact trivial | refine⟨.inl rfl,?_⟩ | refine⟨.inr (.inl rfl),?_⟩ | refine⟨.inr (.inr ⟨_,rfl⟩),?_⟩)) (λ_=>⟨⟨rfl,.inl rfl,.inl rfl,_,rfl,rfl⟩,trivial⟩) rfl (by decide +kernel))) az))))) rfl ⟨rfl,⟨rfl,⟨rfl,trivial⟩⟩⟩ (λ_=>by repeat' (first | exact trivial | refine⟨.inl rfl,?_⟩ | refine⟨.inr (.inl rfl),?_⟩ | refine⟨.inr (.inr ⟨_,rfl⟩),?_⟩)) (λ_=>⟨⟨rfl,.inl rfl,.inl rfl,_,rfl,rfl⟩,⟨⟨rfl,.inl rfl,.inl rfl,_,rfl,rfl⟩,⟨⟨rfl,.inl rfl,.inl rfl,_,rfl,rfl⟩,trivial⟩⟩⟩) rfl (by decide +kernel)))),λds Q h=>?_⟩
  obtain⟨m,xs,G,wi,rfl,hm,hx,mr,hG,hw,hR,q⟩:=h
  walk_at"l3"
  refine⟨⟨by omega,by omega⟩,df (bf wi) (λ(i:Nat)=>D.int (i:Int)) (λk=>D.int ((gd m xs (G.map λr=>r.getD k 0):Nat):Int)) (uE _ rfl) ka (λk hk=>?_) (.inr λ_ _=>rfl) (by rw[gJ,sL];omega) ?_⟩
  ·have hk:=fU.mp hk
   walk_at"l3"
   refine df G (λr=>D.lst false (ax r)) (λr=>D.int ((r.getD k 0:Nat):Int)) (by rw[dE];rfl) (λa b h=>gB a b h) (λr aU=>?_) (.inr λr _=>rfl) (by rw[sL];omega) ?_
   ·walk_at"l3"
    have hl:=(hR r aU).1
    exact⟨.int (r.getD k 0:Nat),by rw[kq (by omega) (by omega),iR],rfl,rfl⟩
   ·refine⟨m,xs,G.map λr=>r.getD k 0,?_,hm,by rw[cB,hG],mr,hx,λy hy=>?_,?_⟩
    ·rw[dU (G.map _),bQ,dZ,bQ];rfl
    ·obtain⟨r,aU,rfl⟩:=cZ.mp hy
     exact(hR r aU).2.getD (by have:=(eN hm).lo;omega) k
    ·exact⟨by rw[mH,fV],rfl⟩
  ·unfold eP at q
   rw[dU,bQ]at q
   exact q
noncomputable def cU(ns:List Int)(k:Int):Int:=if k<ns.length then ns.getD k.toNat 0 else(k*k*48271+ns.length*7919)%65537
noncomputable abbrev Xz:bB:=λds Q=>∃(ns:List Int) (k:Int),ds=[.fz (ay ns),.int k]/\0<=k/\k<=1000000/\Q (.int (cU ns k))
theorem iN(T:Txt K mg t):aL P w K mg base aT 1 t.B7 t.B8 ["_law_script","_law_k"] (bD (Xz )):=by
 refine cg T.g8 VE ?_ ?_
 ·intro ds Q h
  obtain⟨ns,k,rfl,hk,XA,q⟩:=h<;>rfl
 ·intro aE A outer s H E hr
  refine⟨_,(aJ (dv (cO ud (bv 1) (aa (fN (jf) (by rfl) T.jn i5 (ah (bv 0) az))) (cy _)) (aK (bb (dR (aP (bv 0) (bv 1) (λ_ _=>rfl))))) du)
   (aK (bb (aA cT (aa (aA eZ (aa (aA jc (aa (aA jc (bv 1) (bv 1))) (aa ao))) (aa (aA jc (aa (fN (jf) (by rfl) T.jn i5 (ah (bv 0) az))) (aa ao))))) (aa ao))))),λds Q h=>?_⟩
  obtain⟨ns,k,rfl,hk,XA,q⟩:=h
  unfold cU at q
  refine aI λU hU=>?_
  walk_at"l3"
  split
  ·rename_i h
   rw[if_pos h]at q
   exact⟨_,qT hk h,rfl,q⟩
  ·rename_i h
   rw[if_neg h]at q
   refine hU _ ?_
   walk_at"l3"
   exact⟨iX.ok (.inl ⟨by omega,by omega⟩),iX.ok (.inr ⟨by decide,by decide⟩),iX.ok (.inr ⟨by decide,by decide⟩),by decide,q⟩
noncomputable abbrev XB:bB:=λds Q=>∃m:Bool × Nat,ds=[cH m]/\bl m.2<=1000/\1<=bl m.2/\Q (.int (au m:Nat))
theorem LO(T:Txt K mg t):aL P w K mg base aT 1 t.B9 t.Ca ["_law_told_here"] (bD (XB )):=by
 refine cg T.CO VF ?_ ?_
 ·intro ds Q h
  obtain⟨m,rfl,h1,h2,q⟩:=h<;>rfl
 ·intro aE A outer s H E hr
  refine⟨_,(aJ (dv (jI (aP (bv 0) (aa ao) (λ_ _=>rfl))) (aK (bb (aA qR (aa ao) (aa (aA gz (aa (jZ (aP (bv 0) (aa ao) (λ_ _=>rfl)))) (aa ao)))))) du)
   (aK (bb (dR (aP (bv 0) (aa ao) (λ_ _=>rfl)))))),λds Q h=>?_⟩
  obtain⟨m,rfl,h1,h2,q⟩:=h
  unfold cH at *
  refine aI λU hU=>?_
  walk_at"l3"
  obtain⟨b,n⟩:=m
  cases b with
  | true =>
   refine⟨_,rfl,true,rfl,?_⟩
   rw[if_pos rfl]
   refine⟨_,rfl,?_⟩
   have o1:bl (1:Int).natAbs=1:=by decide
   have e:(1:Int)*2 ^ (((bl ((n:Int)).natAbs:Nat):Int)-1).toNat=((au (true,n):Nat):Int):=by
    have gn:1<=bl n:=h2
    rw[fw,show(((bl n:Nat):Int)-1)=((bl n-1:Nat):Int) by omega,show(1:Int)=((1:Nat):Int) from rfl,qF,yJ];rfl
   refine⟨?_,by rw[e];exact q⟩
   rw[fw]
   have eU:bl n<=1000:=h1
   have gn:1<=bl n:=h2
   exact⟨by omega,by omega⟩
  | false =>
   refine⟨_,rfl,false,rfl,?_⟩
   rw[if_neg (by decide)]
   refine hU _ ?_
   walk_at"l3"
   exact⟨_,rfl,rfl,q⟩
theorem XC{tc:dQ}{t u:bM}{En:lD}{δ:Dl}(h:∀W:Bool->Dl->Prop,(∀af,t En af->W true af)->(∀af,u En af->W false af)->tc δ W):i8 tc t u En δ:=h (λb af=>if b=true then t En af else u En af) (λ_ z=>by rw[if_pos rfl];exact z) (λ_ z=>by rw[if_neg (by decide)];exact z)
noncomputable abbrev XD:bB:=λds Q=>∃(m:Bool × Nat) (ns:List Int) (b r w y:Nat),ds=[cH m,.fz (ay ns),.int b,.int r,.int w,.int y]/\m∈bJ/\b<=1000/\r<=64/\1<=w/\w<=64/\∀T:List (List Nat),T.length=r->RT (au m) w T->Q (.lst true (aC true T))
theorem LP(T:Txt K mg t):aL P w K mg base aT 4 t.Cb t.Cc ["_law_told_here","_law_script","_law_begin","_law_rows","_law_wide","_law_way"] (bD (XD )):=by
 refine cg T.CP rP ?_ ?_
 ·intro ds Q h
  obtain⟨m,ns,b,r,wi,y,rfl,hm,hb,aU,XE,hw,q⟩:=h<;>rfl
 ·intro aE A outer s H E hr
  refine⟨_,(aJ (bN (i:=6) rP.nd rfl (ar rfl) (gv eH))
   (aJ (lY fW rfl (lV rfl T.g9 (ah (bv 3) az)) (ck (i:=7) rP.nd rfl (aR rfl))
    (aJ (uI (i:=8) rP.nd rfl (ar rfl) [("_law_script",1),("_law_told_here",0),("_law_begin",2),("_law_i",7),("_law_wide",4)] ["_law_k"] rfl (lV rfl T.g9 (ah (bv 4) az)) (λ_ _ _ _=>(ck (i:=5) (show(["_law_script","_law_told_here","_law_begin","_law_i","_law_wide","_law_k"]:List Str).Nodup by decide +kernel) rfl (ar (lookup_relabel_local rfl)) (by decide) (aR (lookup_relabel_local rfl)))) (λ_ _ _ _=>cJ) (λ_ _ _ _=>(aA cT (aa (bt ((iN T).mono (by decide)) hr rfl T.iL T.g8.kp T.iM aV (ah (bv 0) (ah (aa (aA eZ (aa (aA eZ (bv 2) (aa (aA jc (bv 3) (bv 4))))) (bv 5))) az)))) (aa (bt ((LO T).mono (by decide)) hr rfl T.Lp T.CO.kp T.Lq aV (ah (bv 1) az))))) rfl ⟨rfl,⟨rfl,⟨rfl,⟨rfl,⟨rfl,trivial⟩⟩⟩⟩⟩ (λ_=>by repeat' (first | exact trivial | refine⟨.inl rfl,?_⟩ | refine⟨.inr (.inl rfl),?_⟩ | refine⟨.inr (.inr ⟨_,rfl⟩),?_⟩)) (λ_=>⟨⟨rfl,.inl rfl,.inl rfl,_,rfl,rfl⟩,⟨⟨rfl,.inl rfl,.inl rfl,_,rfl,rfl⟩,⟨⟨rfl,.inl rfl,.inl rfl,_,rfl,rfl⟩,⟨⟨rfl,.inl rfl,.inl rfl,_,rfl,rfl⟩,⟨⟨rfl,.inl rfl,.inl rfl,_,rfl,rfl⟩,trivial⟩⟩⟩⟩⟩) rfl (by decide +kernel))
    (aJ (dv (cO (gS (dk hr)) (aa (aA cT (bv 5) (aa ao))) (aa ao) (cy _)) (aK (uI (i:=8) rP.nd rfl (ar rfl) [] ["_law_x"] rfl (ef (bv 8)) (λ_ _ _ _=>(ck (i:=0) (show(["_law_x"]:List Str).Nodup by decide +kernel) rfl (ar (lookup_relabel_local rfl)) (by decide) (aR (lookup_relabel_local rfl)))) (λ_ _ _ _=>cJ) (λ_ _ _ _=>(aA cT (bv 0) (aa ao))) rfl trivial (λ_=>by repeat' (first | exact trivial | refine⟨.inl rfl,?_⟩ | refine⟨.inr (.inl rfl),?_⟩ | refine⟨.inr (.inr ⟨_,rfl⟩),?_⟩)) (λ_=>trivial) rfl (by decide +kernel))) du)
    (aJ (dv (PW.pt (IB (cO (gS (dk hr)) (aa (aA cT (aa (aA iB (bv 5) (aa ao))) (aa ao))) (aa ao) (cy _)) (IB (cO IT (bv 7) (aa ao) (cy _)) (N7 (cO (gS (dk hr)) (aa (aA cT (aa (aA iB (aa (bt ((iN T).mono (by decide)) hr rfl T.iL T.g8.kp T.iM aV (ah (bv 1) (ah (aa (aA eZ (bv 2) (aa (aA jc (bv 7) (bv 4))))) az)))) (aa ao))) (aa ao))) (aa ao) (cy _)))))) (aK (bN (i:=8) rP.nd rfl (ar rfl) (bt ((LN T).mono (by decide)) hr rfl T.Ln T.CN.kp T.Lo aV (ah (bv 0) (ah (xh (ah (aP (bv 8) (aa ao) (λ_ _=>rfl)) (ah (aP (bv 8) (aa (aA gz (bv 4) (aa ao))) (λ_ _=>rfl)) az))) (ah (xh (ah (aP (bv 6) (aa ao) (λ_ _=>rfl)) (ah (aP (bv 6) (aa (aA gz (bv 7) (aa ao))) (λ_ _=>rfl)) az))) (ah (bv 4) az))))))) du)
    (aK (wj (i:=6) rfl (by first | exact ar rfl | exact aR (ar rfl)) (em 8)))))))
   (aK (bb (em 6))))),λds Q h=>?_⟩
  obtain⟨m,ns,b,r,wi,y,rfl,hm,hb,aU,XE,hw,q⟩:=h
  have lj:=(eN hm).lo
  have XF:=Ks m hm
  have XG:∀z:Int,z%(au m:Int)=(((z%(au m:Int)).toNat:Nat):Int):=λz=>by
   have n0:=qk z (show(au m:Int)≠0 by omega)
   omega
  have XH:∀z:Int,(z%(au m:Int)).toNat<au m:=λz=>by
   have n1:=nI z (show(0:Int)<(au m:Int) by omega)
   omega
  refine aI λU hU=>?_
  walk_at"l3"
  refine⟨by decide,hU _ ?_⟩
  clear hU U
  refine aI λU hU=>?_
  walk_at"l3"
  refine⟨⟨by omega,by omega⟩,AA (λi δ=>∃(G:List (List Nat)) (o1 o2:Option D),δ=[some (cH m),some (.fz (ay ns)),some (.int b),some (.int r),some (.int wi),some (.int y),some (.lst true (aC true G)),o1,o2]/\G.length=i/\RT (au m) wi G) ⟨[],_,_,rfl,rfl,λ_ h=>nomatch h⟩ ?_ ?_⟩
  ·rintro i δ hi ⟨G,o1,o2,rfl,hG,hR⟩
   simp only[gN,jz,kQ]
   clear hU
   have iw:i*wi<=64*64:=Nat.mul_le_mul (by omega) hw
   have eiw:(i:Int)*(wi:Int)=((i*wi:Nat):Int):=by rw[yG]
   refine aI λU hU=>?_
   walk_at"l3"
   refine⟨⟨by omega,by omega⟩,df (bf wi) (λ(i:Nat)=>D.int (i:Int)) (λk=>D.int (((cU ns ((b:Int)+(i:Int)*(wi:Int)+(k:Int))%(au m:Int)).toNat:Nat):Int)) (uE _ rfl) ka (λk hk=>?_) (.inr λ_ _=>rfl) (by rw[gJ,sL];omega) ?_⟩
   ·have hk:=fU.mp hk
    walk_at"l3"
    refine⟨iX.ok (.inl ⟨by omega,by omega⟩),ns,_,rfl,by omega,by omega,m,rfl,by omega,by omega,?_⟩
    dsimp only
    exact⟨by omega,XG _⟩
   obtain⟨row,er,kJ,nj⟩:∃wd:List Nat,((bf wi).map λ(k:Nat)=>D.int (((cU ns ((b:Int)+(i:Int)*(wi:Int)+(k:Int))%(au m:Int)).toNat:Nat):Int))=ax wd/\AllLt (au m) wd/\wd.length=wi:=by
    refine⟨(bf wi).map λ(k:Nat)=>(cU ns ((b:Int)+(i:Int)*(wi:Int)+(k:Int))%(au m:Int)).toNat,by rw[dU,bQ];rfl,λa ha=>?_,by simp⟩
    obtain⟨k,_,rfl⟩:=cZ.mp ha
    exact XH _
   rw[er]
   refine hU _ ?_
   clear hU
   refine aI λU hU=>?_
   walk_at"l3"
   have fin:∀row:List Nat,AllLt (au m) row->row.length=wi->U [some (cH m),some (D.fz (ay ns)),some (D.int b),some (D.int r),some (D.int wi),some (D.int y),some (D.lst true (aC true G)),some (D.int i),some (D.lst true (ax row))]:=by
    clear er kJ nj row
    intro row kJ nj
    refine hU _ ?_
    clear hU
    refine aI λU hU=>?_
    have fin2:∀row:List Nat,AllLt (au m) row->row.length=wi->U [some (cH m),some (D.fz (ay ns)),some (D.int b),some (D.int r),some (D.int wi),some (D.int y),some (D.lst true (aC true G)),some (D.int i),some (D.lst true (ax row))]:=by
     clear kJ nj row
     intro row kJ nj
     refine hU _ ?_
     walk_at"l3"
     refine⟨⟨_,rfl⟩,by omega,G++[row],_,_,⟨UQ true G [row],rfl,rfl⟩,by rw[pM,hG];rfl,hR.app λx hx=>?_⟩
     rw[hW]at hx
     rw[hx];exact⟨nj,kJ⟩
    refine XC λW wt wf=>?_
    have C5:∀z:Bool,z=false->W z [some (cH m),some (D.fz (ay ns)),some (D.int (b:Nat)),some (D.int r),some (D.int wi),some (D.int y),some (D.lst true (aC true G)),some (D.int i),some (D.lst true (ax row))]:=λz hz=>by
     subst hz
     refine wf _ ?_
     walk_at"l3"
     exact fin2 row kJ nj
    dsimp only[ jN,jO,jP,i8,dT,gu,fL,i7,dC,iz,jM,jK,jJ,jL,lN,je,jh,jY,lF,lH,lJ,lK,lL,lM,jH,by4,jW,jR,me,jT,mf,mh,mi,mj,mm,mq,iI,eo,mv,mw,mx,my,oo,mz,jU,gN,mE,mC,lP,lR,lU,lW,lX,mF,mG,j3,jQ,gR,ek,fh,fi,nE,pW,pX,pY,gw,gx,jX,j8,mL,mM,mO,o6,mQ,gX,o9,o7,o8,cV,iO,ib,jv,fu,pZ,aX,p8,p9,kQ,jz,qa,exists_eq_left',exists_eq_left,D.bl.injEq,D.int.injEq,D.lst.injEq,D.fz.injEq,D.str.injEq,D.tup.injEq,qe,and_true,true_and,cX,kP,iQ,jy,ot,ou,ow,oy,oA,oB,eW,gO,j4,oH,oI,oJ,oK,oM,dZ,iy,mH,oE,oF,oG,eF,jG,qf,qg,nu,fV,qh,qi,ny,oR,oS,oU,oV,oW,oX,oY,iF,j5,j6,fP,mI,oO,oN,mJ,oQ,j7,mK,if_true,qj,if_false,reduceIte,oZ,decide_eq_true_eq,fj,kb,ke,lQ,mT,mR,ki,kj,mW,m6,dE,pk,m5,m8,kD]
    walk_at"l3"
    refine⟨iA (by decide) (by decide),by decide,?_⟩
    split
    ·split
     ·rename_i h0
      refine⟨iX.ok (.inl ⟨by omega,by omega⟩),ns,_,rfl,by omega,by omega,?_⟩
      dsimp only
      refine⟨iA (by decide) (by decide),by decide,?_⟩
      cases hc:decide (cU ns ((b:Int)+(i:Int)*(wi:Int))/64%2=1)with
      | false=>exact C5 _ rfl
      | true =>
       refine wt _ ?_
       dsimp only[ jN,jO,jP,i8,dT,gu,fL,i7,dC,iz,jM,jK,jJ,jL,lN,je,jh,jY,lF,lH,lJ,lK,lL,lM,jH,by4,jW,jR,me,jT,mf,mh,mi,mj,mm,mq,iI,eo,mv,mw,mx,my,oo,mz,jU,gN,mE,mC,lP,lR,lU,lW,lX,mF,mG,j3,jQ,gR,ek,fh,fi,nE,pW,pX,pY,gw,gx,jX,j8,mL,mM,mO,o6,mQ,gX,o9,o7,o8,cV,iO,ib,jv,fu,pZ,aX,p8,p9,kQ,jz,qa,exists_eq_left',exists_eq_left,D.bl.injEq,D.int.injEq,D.lst.injEq,D.fz.injEq,D.str.injEq,D.tup.injEq,qe,and_true,true_and,cX,kP,iQ,jy,ot,ou,ow,oy,oA,oB,eW,gO,j4,oH,oI,oJ,oK,oM,dZ,iy,mH,oE,oF,oG,eF,jG,qf,qg,nu,fV,qh,qi,ny,oR,oS,oU,oV,oW,oX,oY,iF,j5,j6,fP,mI,oO,oN,mJ,oQ,j7,mK,if_true,qj,if_false,reduceIte,oZ,decide_eq_true_eq,fj,kb,ke,lQ,mT,mR,ki,kj,mW,m6,dE,pk,m5,m8,kD]
       walk_at"l3"
       have g0:0<G.length:=by omega
       have g1:i-1<G.length:=by omega
       have l0:0<au m:=by omega
       refine⟨.int (row.getD 0 0:Nat),by rw[kq (by omega) (by show 0<row.length;omega)];rfl,.int (row.getD (wi-1) 0:Nat),by rw[kq (by omega) (by omega),show((wi:Int)-1).toNat=wi-1 by omega],by decide,.lst true (ax G[0]),pq true g0,.lst true (ax G[i-1]),by rw[show((i:Int)-1)=((i-1:Nat):Int) by omega];exact pq true g1,by decide,?_⟩
       refine⟨m,[row.getD 0 0,row.getD (wi-1) 0],[G[0],G[i-1]],wi,by rw[A8,A8];rfl,hm,λx hx=>?_,by show 2<=64;omega,rfl,by omega,λx hx=>?_,gY _,fin2 _ (KW hm _ rfl) (Bj _ _ _ _)⟩
       ·simp only[bV,ia,or_false]at hx
        rcases hx with rfl | rfl
        ·exact kJ.getD l0 _
        ·exact kJ.getD l0 _
       ·simp only[bV,ia,or_false]at hx
        rcases hx with rfl | rfl
        ·exact hR _ (fv g0)
        ·exact hR _ (fv g1)
     ·exact C5 _ rfl
    ·exact C5 _ rfl
   refine⟨by decide,?_⟩
   split
   ·refine df row (λ(i:Nat)=>D.int (i:Int)) (λ(i:Nat)=>D.int ((i%2:Nat):Int)) (wC row) ka (λx hx=>?_) (.inr λ_ _=>rfl) (by rw[sL];omega) ?_
    ·walk_at"l3"
     exact⟨by decide,by omega⟩
    ·have:=fin (row.map (· % 2)) (λa ha=>by
      obtain⟨x,_,rfl⟩:=cZ.mp ha
      omega) (by rw[cB];exact nj)
     rw[dU,bQ]at this
     exact this
   ·exact fin row kJ nj
  ·rintro δ ⟨G,o1,o2,rfl,hG,hR⟩
   refine hU _ ?_
   walk_at"l3"
   exact q G hG hR
noncomputable abbrev XI:bB:=λds Q=>∃T:List (List Nat),ds=[.lst false (aC false T)]/\T.length<=1000/\(∀r∈T,r.length<=1000)/\Q (.int (gD T:Nat))
theorem XJ(T:Txt K mg t):aL P w K mg base aT 1 t.Cd t.Ce ["table"] (bD (XI )):=by
 refine cg T.Lu VG ?_ ?_
 ·intro ds Q h
  obtain⟨G,rfl,hG,hr,q⟩:=h<;>rfl
 ·intro aE A outer s H E hr
  refine⟨_,(aK (bb (RV (cO (iC (dk hr)) (bv 0) (aa (gv eH)) (cy _)) (fN (jf) (by rfl) T.jn i5 (ah (aP (bv 0) (aa ao) (λ_ _=>rfl)) az)) ao))),λds Q h=>?_⟩
  obtain⟨G,rfl,hG,hr,q⟩:=h
  walk_at"l3"
  refine⟨by decide,⟨iG 4 _ _ _,rfl⟩,?_⟩
  rw[show(D.lst true ([]:List D))=D.lst true (aC true []) from rfl,pz]
  cases G with
  | nil=>rw[if_neg (by simp)];exact q
  | cons r G =>
   rw[if_pos (by simp)]
   refine⟨.lst false (ax r),pq false (T:=r::G) (i:=0) (vz _),?_⟩
   show Q (D.int ((ax r).length:Nat))
   rw[fj];exact q
noncomputable abbrev XM:bB:=λds Q=>∃T:List (List Nat),ds=[.lst false (aC false T)]/\T.length<=1000/\(∀r∈T,r.length=gD T)/\gD T<=1000/\Q (.lst true (aC true (e8 T)))
theorem C6(T:Txt K mg t):aL P w K mg base aT 2 t.Cf t.Cg ["table"] (bD (XM )):=by
 refine cg T.xt VH ?_ ?_
 ·intro ds Q h
  obtain⟨G,rfl,hG,hr,hw,q⟩:=h<;>rfl
 ·intro aE A outer s H E hr
  refine⟨_,(aK (bb (dy [("table",0)] ["j"] rfl (lV rfl T.g9 (ah (aa (bt ((XJ T).mono (by decide)) hr rfl T.Wn T.Lu.kp T.Wo aV (ah (bv 0) az))) az)) (λ_ _ _ _=>(ck (i:=1) (show(["table","j"]:List Str).Nodup by decide +kernel) rfl (aR rfl) (by decide) (ar rfl))) (λ_ _ _ _=>cJ) (by exact λ_ _ _ _=>(dy [("j",1)] ["row"] rfl (ef (bv 0)) (λ_ _ _ _=>(ck (i:=1) (show(["j","row"]:List Str).Nodup by decide +kernel) rfl (ar (lookup_relabel_local rfl)) (by decide) (aR (lookup_relabel_local rfl)))) (λ_ _ _ _=>cJ) (λ_ _ _ _=>(dR (aP (bv 1) (bv 0) (λ_ _=>rfl)))) rfl ⟨rfl,trivial⟩ (λ_=>by repeat' (first | exact trivial | refine⟨.inl rfl,?_⟩ | refine⟨.inr (.inl rfl),?_⟩ | refine⟨.inr (.inr ⟨_,rfl⟩),?_⟩)) (λ_=>⟨⟨rfl,.inl rfl,.inl rfl,_,rfl,rfl⟩,trivial⟩) rfl (by decide +kernel))) rfl ⟨rfl,trivial⟩ (λ_=>by repeat' (first | exact trivial | refine⟨.inl rfl,?_⟩ | refine⟨.inr (.inl rfl),?_⟩ | refine⟨.inr (.inr ⟨_,rfl⟩),?_⟩)) (λ_=>⟨⟨rfl,.inl rfl,.inl rfl,_,rfl,rfl⟩,trivial⟩) rfl (by decide +kernel)))),λds Q h=>?_⟩
  obtain⟨G,rfl,hG,hr,hw,q⟩:=h
  walk_at"l3"
  refine⟨G,rfl,hG,λr aU=>by rw[hr r aU];exact hw,?_⟩
  dsimp only
  refine⟨_,rfl,⟨by omega,by omega⟩,?_⟩
  refine df (bf (gD G)) (λ(i:Nat)=>D.int (i:Int)) (λj=>D.lst true (ax (G.map λr=>r.getD j 0))) (uE _ rfl) ka (λj hj=>?_) (.inr λj _=>gY _) (by rw[gJ,sL];omega) ?_
  ·have hj:=fU.mp hj
   walk_at"l3"
   refine df G (λr=>D.lst false (ax r)) (λr=>D.int ((r.getD j 0:Nat):Int)) (by rw[dE];rfl) (λa b h=>gB a b h) (λr aU=>?_) (.inr λr _=>rfl) (by rw[sL];omega) ?_
   ·walk_at"l3"
    have hl:=hr r aU
    exact⟨.int (r.getD j 0:Nat),by rw[kq (by omega) (by omega),iR],rfl,rfl⟩
   ·rw[dU,bQ];rfl
  ·unfold e8 aC at q
   rw[bQ]at q
   exact q
noncomputable abbrev LQ(K:Frag):bB:=λds Q=>∃(C:Addr) (p:Nat) (xs ys:List Nat),ds=[wZ C p,.lst false (ax xs),.lst false (ax ys)]/\eE K C/\bY K C "products"/\p∈fk/\xs.length=ys.length/\xs.length<=64/\(∀x∈xs,x<au (true,p))/\(∀y∈ys,y<au (true,p))/\Q (.int ((iS (gm (true,p)) xs ys).foldl (· ^^^ ·) 0:Nat))
theorem XN(T:Txt K mg t):aL P w K mg base aT 1 t.Ci t.Cj ["self","xs","ys"] (bD (LQ K)):=by
 refine cg T.Wq uK ?_ ?_
 ·intro ds Q h
  obtain⟨C,p,xs,ys,rfl,hC,hn,hp,hl,kI,hx,hy,q⟩:=h<;>rfl
 ·intro aE A outer s H E hr
  refine⟨_,(aJ (bN (i:=3) uK.nd rfl (ar rfl) (dR (w5 (K:=K) (bv 0))))
   (aJ (bN (i:=4) uK.nd rfl (ar rfl) ao)
   (aJ (lY fW rfl (AJ rfl T.CZ (ah (bv 1) (ah (bv 2) az))) (uj (i1:=5) (i2:=6) rfl uK.nd rfl (ar rfl) rfl (ar rfl))
    (aK (tX (i:=4) uK.nd rfl (ar rfl) (aP (aP (bv 3) (bv 5) (λ_ _=>rfl)) (bv 6) (λ_ _=>rfl)) wg)))
   (aK (bb (em 4)))))),λds Q h=>?_⟩
  obtain⟨C,p,xs,ys,rfl,hC,hn,hp,hl,kI,hx,hy,q⟩:=h
  refine aI λU hU=>?_
  walk_at"l3"
  refine⟨C,_,_,_,rfl,hC,hn,rfl,by rw[eW,T9];rfl,hU _ ?_⟩
  clear hU U
  refine aI λU hU=>?_
  walk_at"l3"
  refine hU _ ?_
  clear hU U
  refine aI λU hU=>?_
  walk_at"l3"
  refine⟨_,_,rfl,rfl,?_⟩
  refine i9.mk (λi δ=>∃o1 o2,δ=[some (wZ C p),some (.lst false (ax xs)),some (.lst false (ax ys)),some (.lst false (kn (fl (true,p)) (dh (fl (true,p))))),some (.int (((iS (gm (true,p)) xs ys).take i).foldl (· ^^^ ·) 0:Nat)),o1,o2]) ⟨none,none,rfl⟩ ?_ ?_
  ·rintro i d δ hd ⟨o1,o2,rfl⟩
   obtain⟨hi,hj,rfl⟩:∃(hi:i<xs.length) (hj:i<ys.length),d=.tup [.int (xs[i]:Nat),.int (ys[i]:Nat)]:=by
    unfold et at hd
    rw[dU,dU,yE]at hd
    by_cases hi:i<xs.length
    ·have hj:i<ys.length:=by omega
     rw[vy,br hi,br hj]at hd
     exact⟨hi,hj,(cP hd).symm⟩
    ·rw[pV (by simp;omega)]at hd;cases hd
   have dg:=hx xs[i] (fv _)
   have vb:=hy ys[i] (fv _)
   walk_at"l3"
   refine⟨_,Ui hp dg,_,Uh hp dg vb,_,_,?_,rfl,rfl⟩
   rw[nY,List.take_succ,GB,vy,br hi,br hj];rfl
  ·rintro δ ⟨o1,o2,rfl⟩
   refine hU _ ?_
   walk_at"l3"
   have e:(et (ax xs) (ax ys)).length=xs.length:=by unfold et;rw[vx,fj,fj];omega
   rw[e,Gu (by rw[vx];omega)]
   exact q
noncomputable abbrev LR(K:Frag):bB:=λds Q=>∃(C:Addr) (p:Nat) (xs ys:List Int),ds=[AY C p,.lst false (ay xs),.lst false (ay ys)]/\eE K C/\bY K C "prime"/\0<p/\xs.length=ys.length/\xs.length<=64/\(∀x∈xs,0<=x/\x<64)/\(∀y∈ys,0<=y/\y<64)/\Q (.int ((iS (· * ·) xs ys).sum%p))
theorem XO(T:Txt K mg t):aL P w K mg base aT 1 t.Ck t.Cm ["self","xs","ys"] (bD (LR K)):=by
 refine cg T.Ws VI ?_ ?_
 ·intro ds Q h
  obtain⟨C,p,xs,ys,rfl,hC,hn,hp,hl,kI,hx,hy,q⟩:=h<;>rfl
 ·intro aE A outer s H E hr
  refine⟨_,(aK (bb (aA cT (aa (fN (SD rfl) (by rfl) T.WS QM (ah (aa (dy [] ["x","y"] rfl (AJ rfl T.CZ (ah (bv 1) (ah (bv 2) az))) (λ_ _ _ _=>(uj (i1:=0) (i2:=1) rfl (show(["x","y"]:List Str).Nodup by decide +kernel) rfl (ar (lookup_relabel_local rfl)) rfl (ar (lookup_relabel_local rfl)) (by decide) (by decide) (aR (lookup_relabel_local rfl)) (aR (lookup_relabel_local rfl)))) (λ_ _ _ _=>cJ) (λ_ _ _ _=>(aA jc (bv 0) (bv 1))) rfl trivial (λ_=>by repeat' (first | exact trivial | refine⟨.inl rfl,?_⟩ | refine⟨.inr (.inl rfl),?_⟩ | refine⟨.inr (.inr ⟨_,rfl⟩),?_⟩)) (λ_=>trivial) rfl (by decide +kernel))) az))) (w5 (K:=K) (bv 0))))),λds Q h=>?_⟩
  obtain⟨C,p,xs,ys,rfl,hC,hn,hp,hl,kI,hx,hy,q⟩:=h
  walk_at"l3"
  refine⟨_,_,rfl,rfl,?_⟩
  refine Um (xs.zip ys) (λz=>D.tup [.int z.1,.int z.2]) (λz=>D.int (z.1*z.2)) (Up xs ys) (λa b h=>by injection h with h;simp at h;exact Prod.ext h.1 h.2) (λz hz=>?_) Uo (.inr λ_ _=>rfl) (by rw[List.length_zip,sL];omega) ?_
  ·have z1:=hx z.1 (vo hz).1
   have z2:=hy z.2 (vo hz).2
   walk_at"l3"
   exact iX.ok (.inr ⟨by omega,by omega⟩)
  ·refine⟨(xs.zip ys).map λz=>z.1*z.2,?_,?_⟩
   ·unfold ay;rw[bQ];rfl
   ·walk_at"l3"
    refine⟨C,_,_,.int p,rfl,hC,hn,rfl,?_⟩
    refine⟨by omega,?_⟩
    rw[List.map_zip_eq_zipWith]
    exact q
theorem C7(T:Txt K mg t){m:Bool × Nat}(hm:m∈bJ):∃C ns zs sp,fD t.aW t.bc m=.obj C ns zs/\wR P w K mg base 1 "dot" C sp/\("dot":Str) ∉ ns/\∀(xs ys:List Nat) (Q:D->Prop),xs.length=ys.length->xs.length<=64->(∀x∈xs,x<au m)->(∀y∈ys,y<au m)->Q (.int (gd m xs ys:Nat))->sp [.obj C ns zs,.lst false (ax xs),.lst false (ax ys)] Q:=by
 have hF:=eN hm
 obtain⟨k,n⟩:=m
 cases k with
 | true=>exact⟨_,_,_,LQ K,rfl,⟨T.pE,_,_,_,T.uS,XN T,T.Wr⟩,by decide,λxs ys Q hl kI hx hy q=>⟨_,n,xs,ys,rfl,T.pE,T.sk,A6 hm,hl,kI,hx,hy,q⟩⟩
 | false =>
  have Xt:n<=64:=hF.hi
  have l2:2<=n:=hF.lo
  have cx:∀l:List Nat,(∀x∈l,x<au (false,n))->∀z∈l.map (λ(n:Nat)=>(n:Int)),0<=z/\z<64:=λl h z hz=>by
   obtain⟨x,hx,rfl⟩:=cZ.mp hz
   have:x<n:=h x hx
   omega
  refine⟨_,_,_,LR K,rfl,⟨T.xw,_,_,_,T.u3,XO T,T.Wt⟩,by decide,λxs ys Q hl kI hx hy q=>⟨_,n,xs.map (λ(n:Nat)=>(n:Int)),ys.map (λ(n:Nat)=>(n:Int)),rfl,T.xw,T.sq,by omega,by rw[cB,cB];exact hl,by rw[cB];exact kI,cx xs hx,cx ys hy,?_⟩⟩
  have e:((gd (false,n) xs ys:Nat):Int)=(iS (· * ·) (xs.map λ(n:Nat)=>(n:Int)) (ys.map λ(n:Nat)=>(n:Int))).sum%n:=by
   unfold gd
   rw[Ku (by omega) _ _ (by omega),Nat.zero_add,Kv,Kw,pU]
  rw[<-e];exact q
noncomputable abbrev XQ(t:nX):bB:=λds Q=>∃(m:Bool × Nat) (Ga Gb:List (List Nat)),ds=[fD t.aW t.bc m,.lst false (aC false Ga),.lst false (aC false Gb)]/\m∈bJ/\RT (au m) Gb.length Ga/\RT (au m) (gD Gb) Gb/\Ga.length<=64/\Gb.length<=64/\gD Gb<=64/\Q (.lst true (aC true (fm m Ga Gb (gD Gb))))
theorem LS(T:Txt K mg t):aL P w K mg base aT 3 t.Cn t.Co ["field","one","other"] (bD (XQ t)):=by
 refine cg T.CT K3 ?_ ?_
 ·intro ds Q h
  obtain⟨m,Ga,Gb,rfl,hm,fR,fS,xE,js,hw,q⟩:=h<;>rfl
 ·intro aE A outer s H E hr
  refine⟨_,(aJ (bN (i:=3) K3.nd rfl (aR rfl) (bt ((C6 T).mono (by decide)) hr rfl T.CQ T.xt.kp T.CS aV (ah (bv 2) az)))
   (aK (bb (dy [("columns",3),("field",0)] ["row"] rfl (ef (bv 1)) (λ_ _ _ _=>(ck (i:=2) (show(["columns","field","row"]:List Str).Nodup by decide +kernel) rfl (aR rfl) (by decide) (ar rfl))) (λ_ _ _ _=>cJ) (by exact λ_ _ _ _=>(dy [("row",2),("field",1)] ["column"] rfl (ef (bv 0)) (λ_ _ _ _=>(ck (i:=2) (show(["row","field","column"]:List Str).Nodup by decide +kernel) rfl (ar (lookup_relabel_local rfl)) (by decide) (aR (lookup_relabel_local rfl)))) (λ_ _ _ _=>cJ) (λ_ _ _ _=>(A7 (P:=P) (w:=w) (K:=K) (mg:=mg) (base:=base) (n:=1) (bv 1) (hr.mono (by decide)) (ah (bv 0) (ah (bv 2) az)))) rfl ⟨rfl,⟨rfl,trivial⟩⟩ (λ_=>by repeat' (first | exact trivial | refine⟨.inl rfl,?_⟩ | refine⟨.inr (.inl rfl),?_⟩ | refine⟨.inr (.inr ⟨_,rfl⟩),?_⟩)) (λ_=>⟨⟨rfl,.inl rfl,.inl rfl,_,rfl,rfl⟩,⟨⟨rfl,.inl rfl,.inl rfl,_,rfl,rfl⟩,trivial⟩⟩) rfl (by decide +kernel))) rfl ⟨rfl,⟨rfl,trivial⟩⟩ (λ_=>by repeat' (first | exact trivial | refine⟨.inl rfl,?_⟩ | refine⟨.inr (.inl rfl),?_⟩ | refine⟨.inr (.inr ⟨_,rfl⟩),?_⟩)) (λ_=>⟨⟨rfl,.inl rfl,.inl rfl,_,rfl,rfl⟩,⟨⟨rfl,.inl rfl,.inl rfl,_,rfl,rfl⟩,trivial⟩⟩) rfl (by decide +kernel))))),λds Q h=>?_⟩
  obtain⟨m,Ga,Gb,rfl,hm,fR,fS,xE,js,hw,q⟩:=h
  have lj:=(eN hm).lo
  obtain⟨C,ns,zs,sp,e1,e2,e3,e4⟩:=C7 (P:=P) (w:=w) (base:=base) T hm
  refine aI λU hU=>?_
  walk_at"l3"
  refine⟨Gb,rfl,by omega,λr aU=>(fS r aU).1,by omega,?_⟩
  refine hU _ ?_
  clear hU U
  walk_at"l3"
  refine df Ga (λr=>D.lst false (ax r)) (λr=>D.lst true (ax (eP m r Gb (gD Gb)))) (by rw[dE];rfl) (λa b h=>gB a b h) (λr aU=>?_) (.inr λr _=>gY _) (by rw[sL];omega) ?_
  ·walk_at"l3"
   refine df (e8 Gb) (λr=>D.lst false (ax r)) (λc=>D.int ((gd m r c:Nat):Int)) (by rw[dE];rfl) (λa b h=>gB a b h) (λc kU=>?_) (.inr λr _=>rfl) (by unfold e8;rw[cB,gJ,sL];omega) ?_
   ·walk_at"l3"
    unfold e8 at kU
    obtain⟨j,hj,rfl⟩:=cZ.mp kU
    have hl:=(fR r aU).1
    exact⟨C,ns,zs,sp,e1,e2,e3,e4 _ _ _ (by rw[cB,hl]) (by omega) (fR r aU).2 (λy hy=>by
     obtain⟨r,aU,rfl⟩:=cZ.mp hy
     exact(fS r aU).2.getD (by omega) j) rfl⟩
   ·unfold eP e8
    rw[dU,bQ,bQ]
    rfl
  ·unfold fm aC at q
   rw[bQ]at q
   exact q
noncomputable abbrev XR(t:nX):bB:=λds Q=>∃(m:Bool × Nat) (G:List (List Nat)) (c:List Nat),ds=[fD t.aW t.bc m,.lst false (aC false G),.lst false (ax c)]/\m∈bJ/\RT (au m) c.length G/\AllLt (au m) c/\c.length<=64/\G.length<=64/\Q (.lst true (ax (G.map λr=>gd m r c)))
theorem XS(T:Txt K mg t):aL P w K mg base aT 2 t.Cp t.Cq ["field","table","column"] (bD (XR t)):=by
 refine cg T.Lx VJ ?_ ?_
 ·intro ds Q h
  obtain⟨m,G,c,rfl,hm,hR,hc,dw,hG,q⟩:=h<;>rfl
 ·intro aE A outer s H E hr
  refine⟨_,(aK (bb (dy [("column",2),("field",0)] ["row"] rfl (ef (bv 1)) (λ_ _ _ _=>(ck (i:=2) (show(["column","field","row"]:List Str).Nodup by decide +kernel) rfl (ar (lookup_relabel_local rfl)) (by decide) (aR (lookup_relabel_local rfl)))) (λ_ _ _ _=>cJ) (λ_ _ _ _=>(A7 (P:=P) (w:=w) (K:=K) (mg:=mg) (base:=base) (n:=1) (bv 1) (hr.mono (by decide)) (ah (bv 2) (ah (bv 0) az)))) rfl ⟨rfl,⟨rfl,trivial⟩⟩ (λ_=>by repeat' (first | exact trivial | refine⟨.inl rfl,?_⟩ | refine⟨.inr (.inl rfl),?_⟩ | refine⟨.inr (.inr ⟨_,rfl⟩),?_⟩)) (λ_=>⟨⟨rfl,.inl rfl,.inl rfl,_,rfl,rfl⟩,⟨⟨rfl,.inl rfl,.inl rfl,_,rfl,rfl⟩,trivial⟩⟩) rfl (by decide +kernel)))),λds Q h=>?_⟩
  obtain⟨m,G,c,rfl,hm,hR,hc,dw,hG,q⟩:=h
  have lj:=(eN hm).lo
  obtain⟨C,ns,xs,sp,e1,e2,e3,e4⟩:=C7 (P:=P) (w:=w) (base:=base) T hm
  walk_at"l3"
  refine df G (λr=>D.lst false (ax r)) (λr=>D.int ((gd m r c:Nat):Int)) (by rw[dE];rfl) (λa b h=>gB a b h) (λr aU=>?_) (.inr λr _=>rfl) (by rw[sL];omega) ?_
  ·walk_at"l3"
   exact⟨C,ns,xs,sp,e1,e2,e3,e4 _ _ _ (hR r aU).1 (by rw[(hR r aU).1];exact dw) (hR r aU).2 hc rfl⟩
  ·rw[dU,bQ]at q
   exact q
noncomputable abbrev XT:bB:=λds Q=>∃T:List (List Nat),ds=[.lst false (aC false T)]/\T.length<=1000/\Q (.lst true (aC true T))
theorem C8(T:Txt K mg t):aL P w K mg base aT 1 t.Cr t.Cs ["_law_table_here"] (bD (XT )):=by
 refine cg T.xu VL ?_ ?_
 ·intro ds Q h
  obtain⟨G,rfl,hG,q⟩:=h<;>rfl
 ·intro aE A outer s H E hr
  refine⟨_,(aK (bb (dy [] ["_law_row"] rfl (ef (bv 0)) (λ_ _ _ _=>(ck (i:=0) (show(["_law_row"]:List Str).Nodup by decide +kernel) rfl (ar (lookup_relabel_local rfl)) (by decide) (aR (lookup_relabel_local rfl)))) (λ_ _ _ _=>cJ) (λ_ _ _ _=>(Aj (Ak) (by rfl) T.sr qH (ah (bv 0) az))) rfl trivial (λ_=>by repeat' (first | exact trivial | refine⟨.inl rfl,?_⟩ | refine⟨.inr (.inl rfl),?_⟩ | refine⟨.inr (.inr ⟨_,rfl⟩),?_⟩)) (λ_=>trivial) rfl (by decide +kernel)))),λds Q h=>?_⟩
  obtain⟨G,rfl,hG,q⟩:=h
  walk_at"l3"
  refine df G (λr=>D.lst false (ax r)) (λr=>D.lst true (ax r)) (by rw[dE];rfl) (λa b h=>gB a b h) (λr aU=>?_) (.inr λr _=>gY r) (by rw[sL];omega) q
  walk_at"l3"
noncomputable abbrev XU:bB:=λds Q=>∃i:Int,ds=[.int i]/\Q (.bl true)
theorem XW(T:Txt K mg t):aL P w K mg base aT 1 t.Ct t.Cu ["_law_x"] (bD (XU )):=by
 refine cg T.Ly VM ?_ ?_
 ·intro ds Q h
  obtain⟨i,rfl,q⟩:=h<;>rfl
 ·intro aE A outer s H E hr
  refine⟨_,(aK (bb (qQ (aa (uh (by rfl) T.u5 (by rfl) T.WR QN (bv 0))) (qw (RU (aa (uh (by rfl) T.u5 (by rfl) T.WO QO (bv 0)))))))),λds Q h=>?_⟩
  obtain⟨i,rfl,q⟩:=h
  walk_at"l3"
  exact q
noncomputable abbrev XX:bB:=λds Q=>∃(l:List Nat) (w n:Nat),ds=[.lst false (ax l),.int w,.int n]/\l.length=w/\w<=1000/\AllLt n l/\Q (.bl true)
theorem XY(T:Txt K mg t):aL P w K mg base aT 2 t.Cv t.Cw ["_law_row","_law_wide","_law_many_here"] (bD (XX )):=by
 refine cg T.Lz VN ?_ ?_
 ·intro ds Q h
  obtain⟨l,w,n,rfl,hl,hw,ha,q⟩:=h<;>rfl
 ·intro aE A outer s H E hr
  refine⟨_,(aJ (dv (PW.pt (qO (qP (jI (aa (uh (by rfl) T.u5 (by rfl) T.sr qH (bv 0))))) (qv (cO (iC (dk hr)) (aa (fN (jf) (by rfl) T.jn i5 (ah (bv 0) az))) (bv 1) (cy _))))) (aK (bb gP)) du)
   (aK (bb (fN (Al rfl) (by rfl) T.CY zH (ah (aa (dy [("_law_many_here",2)] ["_law_x"] rfl (ef (bv 0)) (λ_ _ _ _=>(ck (i:=1) (show(["_law_many_here","_law_x"]:List Str).Nodup by decide +kernel) rfl (ar (lookup_relabel_local rfl)) (by decide) (aR (lookup_relabel_local rfl)))) (λ_ _ _ _=>cJ) (λ_ _ _ _=>(qQ (aa (bt ((XW T).mono (by decide)) hr rfl T.Ww T.Ly.kp T.Wx aV (ah (bv 1) az))) (qw (Ai ue ud (aa ao) (bv 1) (bv 0))))) rfl ⟨rfl,trivial⟩ (λ_=>by repeat' (first | exact trivial | refine⟨.inl rfl,?_⟩ | refine⟨.inr (.inl rfl),?_⟩ | refine⟨.inr (.inr ⟨_,rfl⟩),?_⟩)) (λ_=>⟨⟨rfl,.inl rfl,.inl rfl,_,rfl,rfl⟩,trivial⟩) rfl (by decide +kernel))) az))))),λds Q h=>?_⟩
  obtain⟨l,w,n,rfl,hl,hw,ha,q⟩:=h
  refine aI λU hU=>?_
  walk_at"l3"
  rw[if_neg (by rw[hl];simp)]
  refine hU _ ?_
  clear hU U
  walk_at"l3"
  refine df l (λ(i:Nat)=>D.int (i:Int)) (λ_=>D.bl true) (wC l) ka (λi hi=>?_) (.inr λ_ _=>rfl) (by rw[sL];omega) ?_
  ·walk_at"l3"
   have:=ha i hi
   refine⟨i,rfl,true,rfl,?_⟩
   rw[if_pos rfl,if_pos (by omega)]
   omega
  ·refine⟨l.map λ_=>true,by unfold ug;rw[bQ];rfl,?_⟩
   have e:(l.map λ_=>true).all id=true:=by simp
   rw[e];exact q
noncomputable abbrev XZ:bB:=λds Q=>∃(T:List (List Nat)) (r w n:Nat),ds=[.lst false (aC false T),.int r,.int w,.int n]/\T.length=r/\r<=1000/\w<=1000/\RT n w T/\Q (.bl true)
theorem X0(T:Txt K mg t):aL P w K mg base aT 3 t.Cy t.Cz ["_law_table_here","_law_rows","_law_wide","_law_many_here"] (bD (XZ )):=by
 refine cg T.LA VO ?_ ?_
 ·intro ds Q h
  obtain⟨G,r,w,n,rfl,hG,hr,hw,hR,q⟩:=h<;>rfl
 ·intro aE A outer s H E hr
  refine⟨_,(aJ (dv (PW.pt (qO (qP (jI (aa (uh (by rfl) T.u5 (by rfl) T.sr qH (bv 0))))) (qv (cO (iC (dk hr)) (aa (fN (jf) (by rfl) T.jn i5 (ah (bv 0) az))) (bv 1) (cy _))))) (aK (bb gP)) du)
   (aK (bb (fN (Al rfl) (by rfl) T.CY zH (ah (aa (dy [("_law_wide",2),("_law_many_here",3)] ["_law_row"] rfl (ef (bv 0)) (λ_ _ _ _=>(ck (i:=2) (show(["_law_wide","_law_many_here","_law_row"]:List Str).Nodup by decide +kernel) rfl (ar (lookup_relabel_local rfl)) (by decide) (aR (lookup_relabel_local rfl)))) (λ_ _ _ _=>cJ) (λ_ _ _ _=>(bt ((XY T).mono (by decide)) hr rfl T.Wy T.Lz.kp T.Wz aV (ah (bv 2) (ah (bv 0) (ah (bv 1) az))))) rfl ⟨rfl,⟨rfl,trivial⟩⟩ (λ_=>by repeat' (first | exact trivial | refine⟨.inl rfl,?_⟩ | refine⟨.inr (.inl rfl),?_⟩ | refine⟨.inr (.inr ⟨_,rfl⟩),?_⟩)) (λ_=>⟨⟨rfl,.inl rfl,.inl rfl,_,rfl,rfl⟩,⟨⟨rfl,.inl rfl,.inl rfl,_,rfl,rfl⟩,trivial⟩⟩) rfl (by decide +kernel))) az))))),λds Q h=>?_⟩
  obtain⟨G,r,w,n,rfl,hG,hr,hw,hR,q⟩:=h
  refine aI λU hU=>?_
  walk_at"l3"
  rw[if_neg (by rw[hG];simp)]
  refine hU _ ?_
  clear hU U
  walk_at"l3"
  refine df G (λr=>D.lst false (ax r)) (λ_=>D.bl true) (by rw[dE];rfl) (λa b h=>gB a b h) (λl qt=>?_) (.inr λ_ _=>rfl) (by rw[sL];omega) ?_
  ·walk_at"l3"
   exact⟨l,w,n,rfl,(hR l qt).1,hw,(hR l qt).2,rfl⟩
  ·refine⟨G.map λ_=>true,by unfold ug;rw[bQ];rfl,?_⟩
   have e:(G.map λ_=>true).all id=true:=by simp
   rw[e];exact q
noncomputable abbrev X5:bB:=λds Q=>∃(T:List (List Nat)) (w n:Nat),ds=[.lst false (aC false T),.lst false (aC false T),.int w,.int n]/\T.length<=64/\w<=1000/\RT n w T/\Q (.bl true)
theorem X6(T:Txt K mg t):aL P w K mg base aT 4 t.CA t.CB ["_law_found","_law_due","_law_wide","_law_many_here"] (bD (X5 )):=by
 refine cg T.LB VP ?_ ?_
 ·intro ds Q h
  obtain⟨G,w,n,rfl,hG,hw,hR,q⟩:=h<;>rfl
 ·intro aE A outer s H E hr
  refine⟨_,(aK (bb (qQ (aa (bt ((X0 T).mono (by decide)) hr rfl T.WA T.LA.kp T.WB aV (ah (bv 0) (ah (aa (fN (jf) (by rfl) T.jn i5 (ah (bv 1) az))) (ah (bv 2) (ah (bv 3) az)))))) (qw (vZ (gS (dk hr)) (bv 0) (bv 1) (cy _)))))),λds Q h=>?_⟩
  obtain⟨G,w,n,rfl,hG,hw,hR,q⟩:=h
  walk_at"l3"
  refine⟨G,_,w,n,rfl,rfl,by omega,hw,hR,?_⟩
  refine⟨true,rfl,?_⟩
  rw[if_pos rfl]
  refine⟨⟨iG 4 _ _ _,iG 4 _ _ _⟩,?_⟩
  rw[pz,decide_eq_true rfl]
  exact q
noncomputable abbrev X7(t:nX):bB:=λds Q=>∃(m:Bool × Nat) (xs:List Nat) (G:List (List Nat)),ds=[fD t.aW t.bc m,.lst false (ax xs),.lst false (aC false G)]/\m∈bJ/\AllLt (au m) xs/\G.length=xs.length/\xs.length<=64/\RT (au m) (gD G) G/\gD G<=64/\Q (.lst true (ax (eP m xs G (gD G))))
theorem X8(T:Txt K mg t):aL P w K mg base aT 3 t.CC t.CD ["field","row","table"] (bD (X7 t)):=by
 refine cg T.LC VQ ?_ ?_
 ·intro ds Q h
  obtain⟨m,xs,G,rfl,hm,hx,hG,mr,hR,hw,q⟩:=h<;>rfl
 ·intro aE A outer s H E hr
  refine⟨_,(aK (bb (dy [("row",1),("field",0)] ["column"] rfl (ef (aa (bt ((C6 T).mono (by decide)) hr rfl T.CQ T.xt.kp T.CS aV (ah (bv 2) az)))) (λ_ _ _ _=>(ck (i:=2) (show(["row","field","column"]:List Str).Nodup by decide +kernel) rfl (ar (lookup_relabel_local rfl)) (by decide) (aR (lookup_relabel_local rfl)))) (λ_ _ _ _=>cJ) (λ_ _ _ _=>(A7 (P:=P) (w:=w) (K:=K) (mg:=mg) (base:=base) (n:=1) (bv 1) (hr.mono (by decide)) (ah (bv 0) (ah (bv 2) az)))) rfl ⟨rfl,⟨rfl,trivial⟩⟩ (λ_=>by repeat' (first | exact trivial | refine⟨.inl rfl,?_⟩ | refine⟨.inr (.inl rfl),?_⟩ | refine⟨.inr (.inr ⟨_,rfl⟩),?_⟩)) (λ_=>⟨⟨rfl,.inl rfl,.inl rfl,_,rfl,rfl⟩,⟨⟨rfl,.inl rfl,.inl rfl,_,rfl,rfl⟩,trivial⟩⟩) rfl (by decide +kernel)))),λds Q h=>?_⟩
  obtain⟨m,xs,G,rfl,hm,hx,hG,mr,hR,hw,q⟩:=h
  have lj:=(eN hm).lo
  obtain⟨C,ns,zs,sp,e1,e2,e3,e4⟩:=C7 (P:=P) (w:=w) (base:=base) T hm
  walk_at"l3"
  refine⟨G,rfl,by omega,λr aU=>(hR r aU).1,by omega,?_⟩
  dsimp only
  refine⟨_,rfl,?_⟩
  refine df (e8 G) (λr=>D.lst false (ax r)) (λr=>D.int ((gd m xs r:Nat):Int)) (dE true _) (λa b h=>gB a b h) (λr aU=>?_) (.inr λr _=>rfl) (by unfold e8;rw[cB,gJ,sL];omega) ?_
  ·walk_at"l3"
   unfold e8 at aU
   obtain⟨j,hj,rfl⟩:=cZ.mp aU
   exact⟨C,ns,zs,sp,e1,e2,e3,e4 _ _ _ (by rw[cB,hG]) mr hx (λy hy=>by
    obtain⟨r,aU,rfl⟩:=cZ.mp hy
    exact(hR r aU).2.getD (by omega) j) rfl⟩
  ·unfold eP at q
   rw[dU,bQ]at q
   unfold e8
   rw[bQ]
   exact q
noncomputable abbrev X9:bB:=λds Q=>∃(G:List (List Nat)) (F:List Nat) (N w:Nat),ds=[.lst false (aC false G),.lst false (ax F)]/\RT N w G/\(∀j∈F,j<w)/\G.length<=1000/\F.length<=1000/\Q (.lst true (aC true (pB G F)))
theorem Ya(T:Txt K mg t):aL P w K mg base aT 1 t.CF t.CG ["table","places"] (bD (X9 )):=by
 refine cg T.LD VR ?_ ?_
 ·intro ds Q h
  obtain⟨G,F,N,wi,rfl,hR,hF,hG,Yb,q⟩:=h<;>rfl
 ·intro aE A outer s H E hr
  refine⟨_,(aK (bb (dy [("places",1)] ["row"] rfl (ef (bv 0)) (λ_ _ _ _=>(ck (i:=1) (show(["places","row"]:List Str).Nodup by decide +kernel) rfl (aR rfl) (by decide) (ar rfl))) (λ_ _ _ _=>cJ) (by exact λ_ _ _ _=>(dy [("row",1)] ["j"] rfl (ef (bv 0)) (λ_ _ _ _=>(ck (i:=1) (show(["row","j"]:List Str).Nodup by decide +kernel) rfl (ar (lookup_relabel_local rfl)) (by decide) (aR (lookup_relabel_local rfl)))) (λ_ _ _ _=>cJ) (λ_ _ _ _=>(dR (aP (bv 0) (bv 1) (λ_ _=>rfl)))) rfl ⟨rfl,trivial⟩ (λ_=>by repeat' (first | exact trivial | refine⟨.inl rfl,?_⟩ | refine⟨.inr (.inl rfl),?_⟩ | refine⟨.inr (.inr ⟨_,rfl⟩),?_⟩)) (λ_=>⟨⟨rfl,.inl rfl,.inl rfl,_,rfl,rfl⟩,trivial⟩) rfl (by decide +kernel))) rfl ⟨rfl,trivial⟩ (λ_=>by repeat' (first | exact trivial | refine⟨.inl rfl,?_⟩ | refine⟨.inr (.inl rfl),?_⟩ | refine⟨.inr (.inr ⟨_,rfl⟩),?_⟩)) (λ_=>⟨⟨rfl,.inl rfl,.inl rfl,_,rfl,rfl⟩,trivial⟩) rfl (by decide +kernel)))),λds Q h=>?_⟩
  obtain⟨G,F,N,wi,rfl,hR,hF,hG,Yb,q⟩:=h
  walk_at"l3"
  refine df G (λr=>D.lst false (ax r)) (λr=>D.lst true (ax (F.map λj=>r.getD j 0))) (by rw[dE];rfl) (λa b h=>gB a b h) (λr aU=>?_) (.inr λr _=>gY _) (by rw[sL];omega) ?_
  ·have hl:=(hR r aU).1
   walk_at"l3"
   refine df F (λ(i:Nat)=>D.int (i:Int)) (λ(j:Nat)=>D.int ((r.getD j 0:Nat):Int)) (wC _) ka (λj hj=>?_) (.inr λ_ _=>rfl) (by rw[sL];omega) ?_
   ·have:=hF j hj
    walk_at"l3"
    exact⟨.int (r.getD j 0:Nat),by rw[kq (by omega) (by omega),iR],rfl,rfl⟩
   ·rw[dU,bQ];rfl
  ·unfold pB aC at q
   rw[bQ]at q
   exact q
noncomputable abbrev Yc:bB:=λds Q=>∃(G:List (List Nat)) (F:List Nat) (N w:Nat),ds=[.lst false (aC false G),.lst false (ax F)]/\RT N w G/\G≠[]/\w<=64/\G.length<=64/\F.length<=64/\(∀j∈F,j<w)/\Q (.bl true)
theorem LU(T:Txt K mg t):aL P w K mg base aT 3 t.CH t.CI ["_law_one","_law_places"] (bD (Yc )):=by
 refine cg T.CW uL ?_ ?_
 ·intro ds Q h
  obtain⟨G,F,N,wi,rfl,hR,C9,hw,hG,hF,Dc,q⟩:=h<;>rfl
 ·intro aE A outer s H E hr
  refine⟨_,(aJ (bN (i:=2) uL.nd rfl (ar rfl) (bt ((C8 T).mono (by decide)) hr rfl T.CU T.xu.kp T.CV aV (ah (bv 0) az)))
   (aJ (lY fW rfl (lV rfl T.g9 (ah (aa ao) az)) (ck (i:=3) uL.nd rfl (ar rfl))
    (aK (Vo fW rfl (gv (cS (tW (cS (bt ((C6 T).mono (by decide)) hr rfl T.CQ T.xt.kp T.CS aV (ah (bv 2) az)) (cS (dy [("_law_one",0)] ["_law_k"] rfl (lV rfl T.g9 (ah (aa (fN (jf) (by rfl) T.jn i5 (ah (aP (bv 0) (aa ao) (λ_ _=>rfl)) az))) az)) (λ_ _ _ _=>(ck (i:=1) (show(["_law_one","_law_k"]:List Str).Nodup by decide +kernel) rfl (aR rfl) (by decide) (ar rfl))) (λ_ _ _ _=>cJ) (by exact λ_ _ _ _=>(dy [("_law_k",1)] ["_law_row"] rfl (ef (bv 0)) (λ_ _ _ _=>(ck (i:=1) (show(["_law_k","_law_row"]:List Str).Nodup by decide +kernel) rfl (ar (lookup_relabel_local rfl)) (by decide) (aR (lookup_relabel_local rfl)))) (λ_ _ _ _=>cJ) (λ_ _ _ _=>(dR (aP (bv 1) (bv 0) (λ_ _=>rfl)))) rfl ⟨rfl,trivial⟩ (λ_=>by repeat' (first | exact trivial | refine⟨.inl rfl,?_⟩ | refine⟨.inr (.inl rfl),?_⟩ | refine⟨.inr (.inr ⟨_,rfl⟩),?_⟩)) (λ_=>⟨⟨rfl,.inl rfl,.inl rfl,_,rfl,rfl⟩,trivial⟩) rfl (by decide +kernel))) rfl ⟨rfl,trivial⟩ (λ_=>by repeat' (first | exact trivial | refine⟨.inl rfl,?_⟩ | refine⟨.inr (.inl rfl),?_⟩ | refine⟨.inr (.inr ⟨_,rfl⟩),?_⟩)) (λ_=>⟨⟨rfl,.inl rfl,.inl rfl,_,rfl,rfl⟩,trivial⟩) rfl (by decide +kernel)) eH))) (cS (tW (cS (bt ((Ya T).mono (by decide)) hr rfl T.WH T.LD.kp T.WI aV (ah (bv 2) (ah (aa (Aj (Ak) (by rfl) T.sr qH (ah (bv 1) az))) az))) (cS (dy [("_law_places",1)] ["_law_row"] rfl (ef (bv 0)) (λ_ _ _ _=>(ck (i:=1) (show(["_law_places","_law_row"]:List Str).Nodup by decide +kernel) rfl (aR rfl) (by decide) (ar rfl))) (λ_ _ _ _=>cJ) (by exact λ_ _ _ _=>(dy [("_law_row",1)] ["_law_k"] rfl (ef (bv 0)) (λ_ _ _ _=>(ck (i:=1) (show(["_law_row","_law_k"]:List Str).Nodup by decide +kernel) rfl (ar (lookup_relabel_local rfl)) (by decide) (aR (lookup_relabel_local rfl)))) (λ_ _ _ _=>cJ) (λ_ _ _ _=>(dR (aP (bv 0) (bv 1) (λ_ _=>rfl)))) rfl ⟨rfl,trivial⟩ (λ_=>by repeat' (first | exact trivial | refine⟨.inl rfl,?_⟩ | refine⟨.inr (.inl rfl),?_⟩ | refine⟨.inr (.inr ⟨_,rfl⟩),?_⟩)) (λ_=>⟨⟨rfl,.inl rfl,.inl rfl,_,rfl,rfl⟩,trivial⟩) rfl (by decide +kernel))) rfl ⟨rfl,trivial⟩ (λ_=>by repeat' (first | exact trivial | refine⟨.inl rfl,?_⟩ | refine⟨.inr (.inl rfl),?_⟩ | refine⟨.inr (.inr ⟨_,rfl⟩),?_⟩)) (λ_=>⟨⟨rfl,.inl rfl,.inl rfl,_,rfl,rfl⟩,trivial⟩) rfl (by decide +kernel)) eH))) eH))) (uj (i1:=4) (i2:=5) rfl uL.nd rfl (ar rfl) rfl (ar rfl))
     (aJ (dv (cO (iC (dk hr)) (bv 4) (bv 5) (cy _)) (aK (bb gP)) du)
     (aJ (Vp (i:=4) (j:=6) (n0:=0) rfl fW uL.nd rfl (by first | exact ar rfl | exact aR (ar rfl)) rfl (ar rfl) (by first | exact ar rfl | exact aR (ar rfl)) ao (λ_ _ h=>h))
     (aK (Sn (i:=4) rfl (by first | exact ar rfl | exact aR (ar rfl)))))))))
   (aK (bb (vZ (gS (dk hr)) (bv 2) (bv 0) (cy _)))))),λds Q h=>?_⟩
  obtain⟨G,F,N,wi,rfl,hR,C9,hw,hG,hF,Dc,q⟩:=h
  have wG:=Bk hR C9
  refine aI λU hU=>?_
  walk_at"l3"
  refine⟨G,rfl,by omega,?_⟩
  refine hU _ ?_
  clear hU U
  refine aI λU hU=>?_
  walk_at"l3"
  refine⟨⟨by omega,by omega⟩,?_⟩
  refine AA (λi δ=>∃o1 o2 o3 o4,δ=[some (.lst false (aC false G)),some (.lst false (ax F)),some (.lst true (aC true G)),o1,o2,o3,o4]) ⟨none,none,none,none,rfl⟩ ?_ ?_
  ·rintro i δ hi ⟨o1,o2,o3,o4,rfl⟩
   simp only[gN,jz,kQ]
   clear hU
   walk_at"l3"
   refine⟨G,rfl,by omega,λr aU=>by rw[wG];exact(hR r aU).1,by omega,?_⟩
   obtain⟨r0,G',LV⟩:∃r0 G',G=r0::G':=by
    cases G with
    | nil=>exact absurd rfl C9
    | cons r0 G'=>exact⟨r0,G',rfl⟩
   have Yd:r0.length=wi:=(hR r0 (by rw[LV];simp)).1
   refine⟨by rw[eF,Bb];rfl,.lst false (ax r0),?_,?_⟩
   ·rw[LV]
    exact pq false (T:=r0::G') (i:=0) (vz _)
   dsimp only
   rw[fj,Yd]
   refine⟨⟨by omega,by omega⟩,?_⟩
   refine df (bf wi) (λ(i:Nat)=>D.int (i:Int)) (λj=>D.lst true (ax (G.map λr=>r.getD j 0))) (uE _ rfl) ka (λj hj=>?_) (.inr λj _=>gY _) (by rw[gJ,sL];omega) ?_
   ·have hj:=fU.mp hj
    walk_at"l3"
    refine df G (λr=>D.lst false (ax r)) (λr=>D.int ((r.getD j 0:Nat):Int)) (by rw[dE];rfl) (λa b h=>gB a b h) (λr aU=>?_) (.inr λr _=>rfl) (by rw[sL];omega) ?_
    ·walk_at"l3"
     have hl:=(hR r aU).1
     exact⟨.int (r.getD j 0:Nat),by rw[kq (by omega) (by omega),iR],rfl,rfl⟩
    ·rw[dU,bQ];rfl
   rw[show((bf wi).map λj=>D.lst true (ax (G.map λr=>r.getD j 0)))=aC true (e8 G) by unfold e8 aC;rw[wG,bQ];rfl]
   walk_at"l3"
   refine⟨by decide,?_⟩
   have turn:∀(V:List (List Nat)) (En:lD) (o5:Option D),(∀r∈V,r.length<=64)->V.length<=64->En.nx [some (D.lst false (aC false G)),some (D.lst false (ax F)),some (D.lst true (aC true G)),some (D.int i),some (D.lst true []),some (D.lst true (aC true V)),none] ->
     v7 (i8 (dT (gu jU (fL 4) (fL 5))) (jP (dC (D.bl false))) jN) (v7 (kD 4 6 0) (j3 4)) En [some (D.lst false (aC false G)),some (D.lst false (ax F)),some (D.lst true (aC true G)),some (D.int i),some (D.lst true (aC true V)),some (D.lst true (aC true V)),o5]:=by
    intro V En o5 hV hVl hn
    refine aI λU hU=>?_
    walk_at"l3"
    refine⟨⟨iG 4 _ _ _,iG 4 _ _ _⟩,?_⟩
    rw[pz,decide_eq_true rfl,if_neg (by simp)]
    refine hU _ ?_
    clear hU U
    refine aI λU hU=>?_
    walk_at"l3"
    refine⟨V.map ax,by rw[bQ];rfl,by decide,by decide,λxs hx=>?_,hU _ ?_⟩
    ·obtain⟨r,aU,rfl⟩:=cZ.mp hx
     rw[fj]
     have:=hV r aU
     omega
    clear hU U
    walk_at"l3"
    exact hn
   refine⟨G,F,N,wi,rfl,hR,Dc,by omega,by omega,?_⟩
   refine⟨by rw[eF,Bb];rfl,?_⟩
   refine df G (λr=>D.lst false (ax r)) (λr=>D.lst true (ax (F.map λj=>r.getD j 0))) (by rw[dE];rfl) (λa b h=>gB a b h) (λr aU=>?_) (.inr λr _=>gY _) (by rw[sL];omega) ?_
   ·have hl:=(hR r aU).1
    walk_at"l3"
    refine df F (λ(i:Nat)=>D.int (i:Int)) (λ(j:Nat)=>D.int ((r.getD j 0:Nat):Int)) (wC _) ka (λj hj=>?_) (.inr λ_ _=>rfl) (by rw[sL];omega) ?_
    ·have:=Dc j hj
     walk_at"l3"
     exact⟨.int (r.getD j 0:Nat),by rw[kq (by omega) (by omega),iR],rfl,rfl⟩
    ·rw[dU,bQ];rfl
   rw[show(G.map λr=>D.lst true (ax (F.map λj=>r.getD j 0)))=aC true (pB G F) by unfold pB aC;rw[bQ];rfl]
   refine⟨by decide,by decide,_,_,⟨rfl,rfl⟩,λδ=>δ=[some (D.lst false (aC false G)),some (D.lst false (ax F)),some (D.lst true (aC true G)),some (D.int i),some (D.lst true []),some (D.lst true (aC true (e8 G))),none],?_,?_⟩
   ·refine turn (e8 G) _ o4 (λr aU=>?_) ?_ rfl
    ·unfold e8 at aU
     obtain⟨j,_,rfl⟩:=cZ.mp aU
     rw[cB];exact hG
    ·unfold e8;rw[cB,gJ];omega
   ·rintro δ rfl
    refine turn (pB G F) _ none (λr aU=>?_) ?_ ⟨_,_,_,_,rfl⟩
    ·unfold pB at aU
     obtain⟨j,_,rfl⟩:=cZ.mp aU
     rw[cB];exact hF
    ·unfold pB;rw[cB];exact hG
  ·rintro δ ⟨o1,o2,o3,o4,rfl⟩
   refine hU _ ?_
   walk_at"l3"
   refine⟨⟨iG 4 _ _ _,iG 4 _ _ _⟩,?_⟩
   rw[pz,decide_eq_true rfl]
   exact q
theorem xF(A B:List (List Nat))(o o1 o2:Bool):aB 6 (.lst o [.lst o1 (aC o1 A),.lst o2 (aC o2 B)])=true:=by
 show([D.lst o1 (aC o1 A),D.lst o2 (aC o2 B)]).all (aB 5)=true
 rw[cX,cX,iG 3,iG 3];rfl
theorem LW(A B A' B':List (List Nat))(o o1 o2 o' o3 o4:Bool):aY (.lst o [.lst o1 (aC o1 A),.lst o2 (aC o2 B)]) (.lst o' [.lst o3 (aC o3 A'),.lst o4 (aC o4 B')])=(decide (A=A')&&(decide (B=B')&&true)):=by
 rw[<-pz o1 o3 o1 o3 A A',<- pz o2 o4 o2 o4 B B'];rfl
theorem Ye(T:Txt K mg t)(hB:Bm mg base):aL P w K mg base aT 11 t.CJ t.CK ["_law_script"] (um [t.iJ,t.iK] (bD (Je ))):=by
 refine JY T.WJ gF ?_ ?_
 ·intro ds Q h
  obtain⟨ns,rfl,hl,q⟩:=h<;>rfl
 ·intro aE A outer s H E hT hr
  refine⟨_,(aJ (bN (i:=1) gF.nd rfl (aR rfl) (bt ((WV T).mono (by decide)) hr rfl T.VS T.K6.kp T.VT aV (ah (aa (bt ((iN T).mono (by decide)) hr rfl T.iL T.g8.kp T.iM aV (ah (bv 0) (ah (aa ao) az)))) az)))
   (aJ (bN (i:=2) gF.nd rfl (ar rfl) (TU hT ((Xo T hB).mono (by decide)) hr rfl T.Wf T.Lj.kp T.Wg aV (ah (bv 1) az)))
   (aJ (bN (i:=3) gF.nd rfl (aR rfl) (gv (cS (aA eZ (aa ao) (aa (aA cT (aa (bt ((iN T).mono (by decide)) hr rfl T.iL T.g8.kp T.iM aV (ah (bv 0) (ah (aa ao) az)))) (aa ao)))) (cS (aA eZ (aa ao) (aa (aA cT (aa (aA iB (aa (bt ((iN T).mono (by decide)) hr rfl T.iL T.g8.kp T.iM aV (ah (bv 0) (ah (aa ao) az)))) (aa ao))) (aa ao)))) (cS (aA eZ (aa ao) (aa (aA cT (aa (aA iB (aa (bt ((iN T).mono (by decide)) hr rfl T.iL T.g8.kp T.iM aV (ah (bv 0) (ah (aa ao) az)))) (aa ao))) (aa ao)))) eH)))))
   (aJ (dv (cO ud (aa (aA cT (aa (aA iB (aa (bt ((iN T).mono (by decide)) hr rfl T.iL T.g8.kp T.iM aV (ah (bv 0) (ah (aa ao) az)))) (aa ao))) (aa ao))) (aa ao) (cy _)) (aK (Jd (i:=3) rfl (by first | exact ar rfl | exact aR (ar rfl)) (aA eZ (aa ao) (aa (aA cT (aa (bt ((iN T).mono (by decide)) hr rfl T.iL T.g8.kp T.iM aV (ah (bv 0) (ah (aa ao) az)))) (aa ao)))) (aa (aA cT (aa (aA iB (aa (bt ((iN T).mono (by decide)) hr rfl T.iL T.g8.kp T.iM aV (ah (bv 0) (ah (aa ao) az)))) (aa ao))) (aa ao))))) du)
   (aJ (bN (i:=4) gF.nd rfl (ar rfl) (bt ((LP T).mono (by decide)) hr rfl T.Lr T.CP.kp T.Ls aV (ah (bv 1) (ah (bv 0) (ah (aa ao) (ah (aP (bv 3) (aa ao) (λ_ _=>rfl)) (ah (aP (bv 3) (aa ao) (λ_ _=>rfl)) (ah (aa ao) az))))))))
   (aJ (bN (i:=5) gF.nd rfl (aR rfl) (bt ((LP T).mono (by decide)) hr rfl T.Lr T.CP.kp T.Ls aV (ah (bv 1) (ah (bv 0) (ah (aa ao) (ah (aP (bv 3) (aa ao) (λ_ _=>rfl)) (ah (aP (bv 3) (aa ao) (λ_ _=>rfl)) (ah (aa ao) az))))))))
   (aJ (uI (i:=6) gF.nd rfl (ar rfl) [("_law_told_here",1),("_law_other",5),("_law_sizes",3)] ["_law_row"] rfl (ef (bv 4)) (λ_ _ _ _=>(ck (i:=3) (show(["_law_told_here","_law_other","_law_sizes","_law_row"]:List Str).Nodup by decide +kernel) rfl (ar (lookup_relabel_local rfl)) (by decide) (aR (lookup_relabel_local rfl)))) (λ_ _ _ _=>cJ) (λ_ _ _ _=>(bt ((LN T).mono (by decide)) hr rfl T.Ln T.CN.kp T.Lo aV (ah (bv 0) (ah (bv 3) (ah (bv 1) (ah (aP (bv 2) (aa ao) (λ_ _=>rfl)) az)))))) rfl ⟨rfl,⟨rfl,⟨rfl,trivial⟩⟩⟩ (λ_=>by repeat' (first | exact trivial | refine⟨.inl rfl,?_⟩ | refine⟨.inr (.inl rfl),?_⟩ | refine⟨.inr (.inr ⟨_,rfl⟩),?_⟩)) (λ_=>⟨⟨rfl,.inl rfl,.inl rfl,_,rfl,rfl⟩,⟨⟨rfl,.inl rfl,.inl rfl,_,rfl,rfl⟩,⟨⟨rfl,.inl rfl,.inl rfl,_,rfl,rfl⟩,trivial⟩⟩⟩) rfl (by decide +kernel))
   (aJ (bN (i:=7) gF.nd rfl (ar rfl) (gv (cS (bt ((C8 T).mono (by decide)) hr rfl T.CU T.xu.kp T.CV aV (ah (bv 4) az)) (cS (bt ((C8 T).mono (by decide)) hr rfl T.CU T.xu.kp T.CV aV (ah (bv 5) az)) eH))))
   (aJ (bN (i:=8) gF.nd rfl (ar rfl) (bt ((LS T).mono (by decide)) hr rfl T.Lv T.CT.kp T.Lw aV (ah (bv 2) (ah (aP (bv 7) (aa ao) (λ_ _=>rfl)) (ah (aP (bv 7) (aa ao) (λ_ _=>rfl)) az)))))
   (aJ (dv (PW.pt (qO (qP (jI (aa (bt ((X6 T).mono (by decide)) hr rfl T.WC T.LB.kp T.WD aV (ah (bv 8) (ah (bv 6) (ah (aP (bv 3) (aa ao) (λ_ _=>rfl)) (ah (aa (bt ((LO T).mono (by decide)) hr rfl T.Lp T.CO.kp T.Lq aV (ah (bv 1) az))) az)))))))) (qv (cO (iC (dk hr)) (bv 7) (xh (ah (bv 4) (ah (bv 5) az))) (cy _))))) (aK (bb gP)) du)
   (aJ (Vf (i:=8) rfl (by first | exact ar rfl | exact aR (ar rfl)) (aA gz (aa ao) (aP (aP (bv 6) (aa ao) (λ_ _=>rfl)) (aa ao) (λ_ _=>rfl))) (aa ao))
   (aJ (wj (i:=8) rfl (by first | exact ar rfl | exact aR (ar rfl)) (gv (cS ao eH)))
   (aJ (dv (PW.pt (qO (cO (iC (dk hr)) (aa (bt ((LS T).mono (by decide)) hr rfl T.Lv T.CT.kp T.Lw aV (ah (bv 2) (ah (aP (bv 7) (aa ao) (λ_ _=>rfl)) (ah (aP (bv 7) (aa ao) (λ_ _=>rfl)) az))))) (bv 6) (cy _)) (qv (cO (iC (dk hr)) (aa (bt ((X8 T).mono (by decide)) hr rfl T.WE T.LC.kp T.WG aV (ah (bv 2) (ah (aa (Aj (Ak) (by rfl) T.sr qH (ah (aP (bv 4) (aa ao) (λ_ _=>rfl)) az))) (ah (aP (bv 7) (aa ao) (λ_ _=>rfl)) az))))) (aP (bv 6) (aa ao) (λ_ _=>rfl)) (cy _))))) (aK (bb gP)) du)
   (aJ (bN (i:=9) gF.nd rfl (aR rfl) (aA cT (aa (aA iB (aa (bt ((iN T).mono (by decide)) hr rfl T.iL T.g8.kp T.iM aV (ah (bv 0) (ah (aa ao) az)))) (aa ao))) (aP (bv 3) (aa ao) (λ_ _=>rfl))))
   (aJ (uI (i:=10) gF.nd rfl (ar rfl) [("_law_begin",9),("_law_sizes",3)] ["_law_k"] rfl (lV rfl T.g9 (ah (aa (aA eZ (aa ao) (aa (aA cT (aa (aA iB (aa (bt ((iN T).mono (by decide)) hr rfl T.iL T.g8.kp T.iM aV (ah (bv 0) (ah (aa ao) az)))) (aa ao))) (aP (bv 3) (aa ao) (λ_ _=>rfl)))))) az)) (λ_ _ _ _=>(ck (i:=2) (show(["_law_begin","_law_sizes","_law_k"]:List Str).Nodup by decide +kernel) rfl (ar (lookup_relabel_local rfl)) (by decide) (aR (lookup_relabel_local rfl)))) (λ_ _ _ _=>cJ) (λ_ _ _ _=>(aA cT (aa (aA eZ (bv 0) (bv 2))) (aP (bv 1) (aa ao) (λ_ _=>rfl)))) rfl ⟨rfl,⟨rfl,trivial⟩⟩ (λ_=>by repeat' (first | exact trivial | refine⟨.inl rfl,?_⟩ | refine⟨.inr (.inl rfl),?_⟩ | refine⟨.inr (.inr ⟨_,rfl⟩),?_⟩)) (λ_=>⟨⟨rfl,.inl rfl,.inl rfl,_,rfl,rfl⟩,⟨⟨rfl,.inl rfl,.inl rfl,_,rfl,rfl⟩,trivial⟩⟩) rfl (by decide +kernel))
   (aJ (dv (PW.pt (qO (qP (jI (aa (bt ((LU T).mono (by decide)) hr rfl T.LF T.CW.kp T.LG aV (ah (bv 4) (ah (bv 10) az)))))) (qv (qP (jI (aa (bt ((LU T).mono (by decide)) hr rfl T.LF T.CW.kp T.LG aV (ah (bv 5) (ah (aa (gv (cS (aA gz (aP (bv 3) (aa ao) (λ_ _=>rfl)) (aa ao)) eH))) az))))))))) (aK (bb gP)) du)
   (aJ (uI (i:=11) gF.nd rfl (ar rfl) [("_law_sizes",3)] ["_law_row"] rfl (ef (bv 5)) (λ_ _ _ _=>(ck (i:=1) (show(["_law_sizes","_law_row"]:List Str).Nodup by decide +kernel) rfl (ar (lookup_relabel_local rfl)) (by decide) (aR (lookup_relabel_local rfl)))) (λ_ _ _ _=>cJ) (λ_ _ _ _=>(dR (aP (bv 1) (aa (aA gz (aP (bv 0) (aa ao) (λ_ _=>rfl)) (aa ao))) (λ_ _=>rfl)))) rfl ⟨rfl,trivial⟩ (λ_=>by repeat' (first | exact trivial | refine⟨.inl rfl,?_⟩ | refine⟨.inr (.inl rfl),?_⟩ | refine⟨.inr (.inr ⟨_,rfl⟩),?_⟩)) (λ_=>⟨⟨rfl,.inl rfl,.inl rfl,_,rfl,rfl⟩,trivial⟩) rfl (by decide +kernel))
   (aJ (bN (i:=8) gF.nd rfl (ar rfl) (bt ((XS T).mono (by decide)) hr rfl T.Wu T.Lx.kp T.Wv aV (ah (bv 2) (ah (aP (bv 7) (aa ao) (λ_ _=>rfl)) (ah (bv 11) az)))))
   (aJ (dv (PW.pt (qO (cO (iC (dk hr)) (bv 11) (aa (dy [("_law_sizes",3)] ["_law_row"] rfl (ef (bv 5)) (λ_ _ _ _=>(ck (i:=1) (show(["_law_sizes","_law_row"]:List Str).Nodup by decide +kernel) rfl (ar (lookup_relabel_local rfl)) (by decide) (aR (lookup_relabel_local rfl)))) (λ_ _ _ _=>cJ) (λ_ _ _ _=>(dR (aP (bv 1) (aa (aA gz (aP (bv 0) (aa ao) (λ_ _=>rfl)) (aa ao))) (λ_ _=>rfl)))) rfl ⟨rfl,trivial⟩ (λ_=>by repeat' (first | exact trivial | refine⟨.inl rfl,?_⟩ | refine⟨.inr (.inl rfl),?_⟩ | refine⟨.inr (.inr ⟨_,rfl⟩),?_⟩)) (λ_=>⟨⟨rfl,.inl rfl,.inl rfl,_,rfl,rfl⟩,trivial⟩) rfl (by decide +kernel))) (cy _)) (qv (cO (iC (dk hr)) (bv 7) (xh (ah (bv 4) (ah (bv 5) az))) (cy _))))) (aK (bb gP)) du)
   (aK (bb (qQ (aa (uh (by rfl) T.u5 (by rfl) T.sr qH (bv 8))) (qw (vZ (gS (dk hr)) (bv 8) (aa (dy [("_law_sizes",3)] ["_law_row"] rfl (ef (bv 6)) (λ_ _ _ _=>(ck (i:=1) (show(["_law_sizes","_law_row"]:List Str).Nodup by decide +kernel) rfl (ar (lookup_relabel_local rfl)) (by decide) (aR (lookup_relabel_local rfl)))) (λ_ _ _ _=>cJ) (λ_ _ _ _=>(dR (aP (bv 1) (aa (aA gz (aP (bv 0) (aa ao) (λ_ _=>rfl)) (aa ao))) (λ_ _=>rfl)))) rfl ⟨rfl,trivial⟩ (λ_=>by repeat' (first | exact trivial | refine⟨.inl rfl,?_⟩ | refine⟨.inr (.inl rfl),?_⟩ | refine⟨.inr (.inr ⟨_,rfl⟩),?_⟩)) (λ_=>⟨⟨rfl,.inl rfl,.inl rfl,_,rfl,rfl⟩,trivial⟩) rfl (by decide +kernel))) (cy _))))))))))))))))))))))))),λds Q h=>?_⟩
  obtain⟨ns,rfl,hl,q⟩:=h
  refine aI λU hU=>?_
  walk_at"l3"
  refine⟨ns,0,rfl,by decide,by decide,_,rfl,rfl,hU _ ?_⟩
  clear hU U
  generalize Yf:mZ (cU ns 0)=m
  have hm:m∈bJ:=by rw[<-Yf];exact Us _
  have hF:=eN hm
  have lj:=hF.lo
  have hhi:=hF.hi
  have XF:=Ks m hm
  have m0:=jl m hm
  refine aI λU hU=>?_
  walk_at"l3"
  refine⟨m,rfl,hm,hU _ ?_⟩
  clear hU U
  refine aI λU hU=>?_
  walk_at"l3"
  refine⟨ns,1,rfl,by decide,by decide,by decide,?_⟩
  refine⟨ns,1,rfl,by decide,by decide,?_⟩
  dsimp only
  refine⟨iA (by decide) (by decide),by decide,ns,1,rfl,by decide,by decide,?_⟩
  dsimp only
  obtain⟨za,ea,vd,ve⟩:∃k:Nat,1+cU ns 1%3=k/\1<=k/\k<=64:=⟨(1+cU ns 1%3).toNat,by omega,by omega,by omega⟩
  obtain⟨zb,eb,jr,vf⟩:∃k:Nat,1+cU ns 1/3%3=k/\1<=k/\k<=64:=⟨(1+cU ns 1/3%3).toNat,by omega,by omega,by omega⟩
  obtain⟨zc,ec,vg,vh⟩:∃k:Nat,1+cU ns 1/9%3=k/\1<=k/\k<=64:=⟨(1+cU ns 1/9%3).toNat,by omega,by omega,by omega⟩
  rw[ea,eb,ec]
  refine⟨iA (by decide) (by decide),by decide,by decide,hU _ ?_⟩
  clear hU U
  refine aI λU hU=>?_
  walk_at"l3"
  have fin:∀za zb zc:Nat,1<=za->za<=64->1<=zb->zb<=64->1<=zc->zc<=64->U [some (D.fz (ay ns)),some (cH m),some (fD t.aW t.bc m),some (D.lst true [D.int za,D.int zb,D.int zc]),none,none,none,none,none,none,none,none]:=by
   clear ea eb ec vd ve jr vf vg vh za zb zc
   intro za zb zc vd ve jr vf vg vh
   refine hU _ ?_
   clear hU U
   refine aI λU hU=>?_
   walk_at"l3"
   have sA:∀X:List (List Nat),(D.lst true (aC true X)).fr=true:=λX=>by rw[eF,Bb];rfl
   refine⟨_,rfl,_,rfl,m,ns,3,za,zb,0,rfl,hm,by decide,by omega,by omega,by omega,λGa xE fR=>?_⟩
   refine⟨by rw[sA,fV],hU _ ?_⟩
   clear hU U
   refine aI λU hU=>?_
   walk_at"l3"
   refine⟨_,rfl,_,rfl,m,ns,12,zb,zc,0,rfl,hm,by decide,by omega,by omega,by omega,λGb js fS=>?_⟩
   refine⟨by rw[sA,fV],hU _ ?_⟩
   clear hU U
   have a0:Ga≠[]:=λz=>by rw[z]at xE;simp at xE;omega
   have b0:Gb≠[]:=λz=>by rw[z]at js;simp at js;omega
   have wA:=Bk fR a0
   have wB:=Bk fS b0
   refine aI λU hU=>?_
   walk_at"l3"
   refine df Ga (λr=>D.lst false (ax r)) (λr=>D.lst true (ax (eP m r Gb zc))) (by rw[dE];rfl) (λa b h=>gB a b h) (λr aU=>?_) (.inr λr _=>gY _) (by rw[sL];omega) ?_
   ·walk_at"l3"
    exact⟨.int zc,rfl,m,r,Gb,zc,rfl,hm,(fR r aU).2,by rw[(fR r aU).1];omega,by rw[(fR r aU).1,js],by omega,fS,by rw[gY,fV],rfl⟩
   have em:(Ga.map λr=>D.lst true (ax (eP m r Gb zc)))=aC true (fm m Ga Gb zc):=by
    unfold fm aC
    rw[bQ];rfl
   rw[em]
   clear em
   refine hU _ ?_
   clear hU U
   refine aI λU hU=>?_
   walk_at"l3"
   refine⟨Ga,rfl,by omega,sA _,Gb,rfl,by omega,sA _,by decide,hU _ ?_⟩
   clear hU U
   refine aI λU hU=>?_
   walk_at"l3"
   obtain⟨p1,p2,p3⟩:=Ve hm fR fS js
   have p0:fm m Ga Gb zc≠[]:=λz=>by rw[z]at p1;simp at p1;omega
   refine⟨_,rfl,_,rfl,?_⟩
   have sC:∀X:List (List Nat),(D.lst true (aC true X)).sh=D.lst false (aC false X):=λX=>by rw[dZ,dE]
   refine⟨m,Ga,Gb,by rw[sC,sC],hm,by rw[js];exact fR,by rw[wB];exact fS,by omega,by omega,by omega,?_⟩
   rw[wB]
   refine⟨by rw[sA,fV],hU _ ?_⟩
   clear hU U
   refine aI λU hU=>?_
   walk_at"l3"
   refine⟨_,rfl,m,rfl,by omega,by omega,_,zc,au m,rfl,by omega,by omega,p2,rfl,true,rfl,?_⟩
   rw[if_neg (by simp)]
   refine⟨by decide,⟨xF _ _ _ _ _,xF _ _ _ _ _⟩,?_⟩
   rw[LW,decide_eq_true rfl,decide_eq_true rfl,if_neg (by simp)]
   refine hU _ ?_
   clear hU U
   obtain⟨x0,r0,Gr,eg⟩:∃x0 r0 Gr,fm m Ga Gb zc=(x0::r0)::Gr:=by
    cases e:fm m Ga Gb zc with
    | nil=>exact absurd e p0
    | cons r Gr =>
     have hl:=(p2 r (by rw[e];simp)).1
     cases r with
     | nil=>simp at hl;omega
     | cons x0 r0=>exact⟨x0,r0,Gr,rfl⟩
   refine aI λU hU=>?_
   walk_at"l3"
   refine⟨.lst true (ax (x0::r0)),by rw[eg];exact pq true (T:=(x0::r0)::Gr) (i:=0) (vz _),?_⟩
   dsimp only
   refine⟨.int (x0:Nat),by rw[kq (by omega) (by simp)];rfl,?_⟩
   dsimp only
   refine⟨[],ax (x0::r0),aC true Gr,by rw[eg];rfl,rfl,0,by rw[eg];rfl,by rw[Kz (by omega) (by rw[fj];simp)];rfl,hU _ ?_⟩
   clear hU U
   rw[jv]
   have Yg:(D.lst true ((ax (x0::r0)).set 0 (D.int (1-(x0:Int))))::aC true Gr).length<=64:=by
    rw[eg,fu]at p1
    rw[fu,m5];omega
   generalize (D.lst true ((ax (x0::r0)).set 0 (D.int (1-(x0:Int))))::aC true Gr)=Yh at Yg
   refine aI λU hU=>?_
   walk_at"l3"
   refine⟨⟨_,rfl⟩,by decide,by omega,hU _ ?_⟩
   clear hU U eg
   generalize (D.lst true (Yh++[D.lst true [D.int 0]]))=cz5
   obtain⟨ra,xG,De⟩:∃ra xG,Ga=ra::xG:=by
    cases Ga with
    | nil=>exact absurd rfl a0
    | cons r G=>exact⟨r,G,rfl⟩
   have xC:=fR ra (by rw[De];simp)
   refine aI λU hU=>?_
   walk_at"l3"
   refine⟨_,rfl,_,rfl,m,Ga,Gb,by rw[sC,sC],hm,by rw[js];exact fR,by rw[wB];exact fS,by omega,by omega,by omega,?_⟩
   rw[wB]
   refine⟨by rw[sA,fV],⟨iG 4 _ _ _,iG 4 _ _ _⟩,?_⟩
   rw[pz,decide_eq_true rfl,if_neg (by simp)]
   refine⟨.lst true (ax ra),by rw[De];exact pq true (T:=ra::xG) (i:=0) (vz _),?_⟩
   dsimp only
   refine⟨kb _,_,rfl,m,ra,Gb,by rw[sC,ke],hm,xC.2,by rw[xC.1,js],by rw[xC.1];omega,by rw[wB];exact fS,by omega,gY _,.lst true (ax (eP m ra Gb zc)),?_,⟨by rw[q9],by rw[q9]⟩,?_⟩
   ·rw[De]
    exact pq true (T:=fm m (ra::xG) Gb zc) (i:=0) (vz _)
   rw[wB,pf,decide_eq_true rfl,if_neg (by simp)]
   refine hU _ ?_
   clear hU U
   refine aI λU hU=>?_
   walk_at"l3"
   refine⟨ns,2,rfl,by decide,by decide,iA (by decide) (by decide),_,rfl,?_⟩
   dsimp only
   obtain⟨bg,Yi,hbg⟩:∃k:Nat,cU ns 2/64%(zb:Int)=k/\k<zb:=by
    have n0:=qk (cU ns 2/64) (show(zb:Int)≠0 by omega)
    have n1:=nI (cU ns 2/64) (show(0:Int)<(zb:Int) by omega)
    exact⟨(cU ns 2/64%(zb:Int)).toNat,by omega,by omega⟩
   obtain⟨pn,Yj,hpn⟩:∃k:Nat,1+cU ns 2/4096%(zb:Int)=k/\k<=zb:=by
    have n0:=qk (cU ns 2/4096) (show(zb:Int)≠0 by omega)
    have n1:=nI (cU ns 2/4096) (show(0:Int)<(zb:Int) by omega)
    exact⟨(1+cU ns 2/4096%(zb:Int)).toNat,by omega,by omega⟩
   rw[Yi]
   refine⟨by omega,hU _ ?_⟩
   clear hU U
   refine aI λU hU=>?_
   walk_at"l3"
   refine⟨ns,2,rfl,by decide,by decide,iA (by decide) (by decide),_,rfl,?_⟩
   dsimp only
   rw[Yj]
   refine⟨by omega,⟨by omega,by omega⟩,?_⟩
   refine df (bf pn) (λ(i:Nat)=>D.int (i:Int)) (λk=>D.int (((bg+k)%zb:Nat):Int)) (uE _ rfl) ka (λk hk=>?_) (.inr λ_ _=>rfl) (by rw[gJ,sL];omega) ?_
   ·walk_at"l3"
    refine⟨_,rfl,?_⟩
    dsimp only
    exact⟨by omega,by rw[pU,vv]⟩
   rw[show((bf pn).map λ(k:Nat)=>D.int (((bg+k)%zb:Nat):Int))=ax ((bf pn).map λk=>(bg+k)%zb) by rw[dU,bQ];rfl]
   have bG:((bf pn).map λk=>(bg+k)%zb).length=pn:=by simp
   have LX:∀j∈(bf pn).map λk=>(bg+k)%zb,j<zb:=λj hj=>by
    obtain⟨k,_,rfl⟩:=cZ.mp hj
    exact nH _ (by omega)
   generalize ((bf pn).map λk=>(bg+k)%zb)=Yk at bG LX
   refine hU _ ?_
   clear hU U
   refine aI λU hU=>?_
   walk_at"l3"
   refine⟨Ga,Yk,au m,zb,rfl,fR,a0,by omega,by omega,by omega,LX,rfl,true,rfl,?_⟩
   rw[if_neg (by simp)]
   refine⟨_,rfl,?_⟩
   dsimp only
   have ez:(zc:Int)-1=((zc-1:Nat):Int):=by omega
   rw[ez]
   refine⟨by decide,Gb,[zc-1],au m,zc,rfl,fS,b0,by omega,by omega,by simp,λj hj=>by have:=hW.mp hj;omega,rfl,true,rfl,?_⟩
   rw[if_neg (by simp)]
   refine hU _ ?_
   clear hU U
   refine aI λU hU=>?_
   walk_at"l3"
   have col:∀(X:List (List Nat)) (Q':D->Dl->Prop) (a b c:Option D) (cG:Dl),RT (au m) zc X->X.length<=64->Q' (.lst true (ax (X.map λr=>r.getD (zc-1) 0))) (a::b::c::some (D.lst true [D.int za,D.int zb,D.int zc])::cG) ->
     t8 false (aC true X) [("_law_sizes",3)] (0+1) (gN 1) gR (iz (jh (fL 1) (gu (eo λi j=>D.int (i-j)) (jh (fL 0) (dC (D.int 2))) (dC (D.int 1))))) (a::b::c::some (D.lst true [D.int za,D.int zb,D.int zc])::cG) Q':=by
    intro X Q' a b c cG hX hXl q'
    refine df X (λr=>D.lst false (ax r)) (λr=>D.int ((r.getD (zc-1) 0:Nat):Int)) (by rw[dE];rfl) (λa b h=>gB a b h) (λr aU=>?_) (.inr λr _=>rfl) (by rw[sL];omega) ?_
    ·walk_at"l3"
     have hl:=(hX r aU).1
     refine⟨_,rfl,?_⟩
     dsimp only
     rw[ez]
     exact⟨.int (r.getD (zc-1) 0:Nat),by rw[kq (by omega) (by omega),iR],rfl,rfl⟩
    ·rw[dU,bQ]at q'
     exact q'
   refine col Gb _ _ _ _ _ fS (by omega) ?_
   have dw:(Gb.map λr=>r.getD (zc-1) 0).length=zb:=by rw[cB,js]
   have ur:AllLt (au m) (Gb.map λr=>r.getD (zc-1) 0):=λy hy=>by
    obtain⟨r,aU,rfl⟩:=cZ.mp hy
    exact(fS r aU).2.getD (by omega) _
   refine hU _ ?_
   clear hU U
   refine aI λU hU=>?_
   walk_at"l3"
   refine⟨_,rfl,m,Ga,_,by rw[sC],hm,by rw[dw];exact fR,ur,by omega,by omega,by rw[gY,fV],hU _ ?_⟩
   clear hU U
   refine aI λU hU=>?_
   walk_at"l3"
   refine col Gb _ _ _ _ _ fS (by omega) ?_
   refine⟨by rw[q9],?_⟩
   rw[pf,decide_eq_true rfl,if_neg (by simp)]
   walk_at"l3"
   refine⟨by decide,⟨xF _ _ _ _ _,xF _ _ _ _ _⟩,?_⟩
   rw[LW,decide_eq_true rfl,decide_eq_true rfl,if_neg (by simp)]
   refine hU _ ?_
   clear hU U
   walk_at"l3"
   refine col (fm m Ga Gb zc) _ _ _ _ _ p2 (by omega) ⟨by rw[q9],?_⟩
   rw[pf,decide_eq_true ?_]
   ·exact q
   ·unfold fm eP
    rw[bQ]
    refine sM λr aU=>?_
    show _=((bf zc).map λk=>gd m r (Gb.map λr=>r.getD k 0)).getD (zc-1) 0
    rw[cY,dB,nG (by omega)]
    rfl
  refine⟨ns,1,rfl,by decide,by decide,iA (by decide) (by decide),by decide,?_⟩
  split
  ·rename_i h3
   refine⟨ns,2,rfl,by decide,by decide,by decide,ns,1,rfl,by decide,by decide,iA (by decide) (by decide),by decide,?_⟩
   obtain⟨zd,ed,Df,Dg⟩:∃k:Nat,1+cU ns 2%64=k/\1<=k/\k<=64:=⟨(1+cU ns 2%64).toNat,by omega,by omega,by omega⟩
   obtain⟨zi,ei⟩:∃k:Nat,cU ns 1/27%8=k:=⟨(cU ns 1/27%8).toNat,by omega⟩
   rw[ed,ei]
   rw[ei]at h3
   refine⟨_,zi,rfl,?_,?_⟩
   ·rw[Kz (by omega) (by show(zi:Int).toNat<3;omega),iR]
   ·rcases(show zi=0\/zi=1\/zi=2 by omega)with rfl | rfl | rfl
    ·exact fin zd zb zc Df Dg jr vf vg vh
    ·exact fin za zd zc vd ve Df Dg vg vh
    ·exact fin za zb zd vd ve jr vf Df Dg
  ·exact fin za zb zc vd ve jr vf vg vh
end
set_option maxHeartbeats 0 in
theorem all_mk{l:PySem.W.OpenLaw}{w:World}{K:Frag}{h:Heap}{mg:Str->Option Value}{fa:Addr}{ts:List Addr}(X:K.In h)(G:h.Ns mainGlobals mg)(Yl:mg "law"=some (.ref fa))
  {Ym Yn:Option Addr} {Yo:Array (Option Value)} {Yp Yq Yr Ys LY Yt:Value} {f0:Addr}
  {Yu Yv:Option Addr} {Yw:Array (Option Value)} {Yx Yy Yz YA LZ YB:Value} {f1:Addr}
  {YC YD:Option Addr} {YE:Array (Option Value)} {YF YG YH YI L0 YJ:Value} {f2:Addr}
  {YK YL:Option Addr} {YM:Array (Option Value)} {YN YO YQ YR L4 YS:Value} {f3:Addr}
  {YT YU:Option Addr} {YV:Array (Option Value)} {YW YX YY YZ L5 Y0:Value} {f4:Addr}
  {Y3 Y4:Option Addr} {Y5:Array (Option Value)} {Y6 Y7 Y8 Y9 L6 Za:Value} {f5:Addr}
  {Zb Zc:Option Addr} {Zd:Array (Option Value)} {Ze Zf Zg Zh L7 Zi:Value} {f6:Addr}
  {Zj Zk:Option Addr} {Zl:Array (Option Value)} {Zm Zn Zo Zp Zq:Value} {f7:Addr}
  {vi iJ:Addr} {Zr:Option Addr} {Zs:Array (Option Value)} {L8:Array Value} {Zt:Value}
  {Zu Zv:Option Addr} {Zw:Array (Option Value)} {Zx Zy Zz ZA L9 ZC:Value} {f8:Addr}
  {ZD ZE:Option Addr} {ZF:Array (Option Value)} {ZG ZH ZI ZJ Ma ZK:Value} {f9:Addr}
  {ZL ZM:Option Addr} {ZN:Array (Option Value)} {ZO ZP ZQ ZR Mb ZS:Value} {xH:Addr}
  {ZT ZU:Option Addr} {ZV:Array (Option Value)} {ZW ZX ZY ZZ Mc Z0:Value} {xI:Addr}
  {Z1 Z2:Option Addr} {Z3:Array (Option Value)} {Z4 Z5 Z6 Z7 Md Z8:Value} {ja:Addr}
  {Z9 γ:Option Addr} {ε:Array (Option Value)} {ζ η θ ι μ:Value} {sD:Addr}
  {vj iK:Addr} {ν:Option Addr} {ξ:Array (Option Value)} {Me:Array Value} {ο:Value}
  {π ρ:Option Addr} {τ:Array (Option Value)} {υ χ ω Γ Mg Δ:Value} {xJ:Addr}
  {Θ Λ:Option Addr} {Ξ:Array (Option Value)} {Φ Ψ Ω b95 Mh b96:Value} {xK:Addr}
  {b97 b98:Option Addr} {b99:Array (Option Value)} {ca0 ca1 ca2 ca3 Mi ca4:Value} {xM:Addr}
  {ca5 ca6:Option Addr} {ca7:Array (Option Value)} {ca8 ca9 cb0 cb1 Mj cb2:Value} {xN:Addr}
  {cb3 cb4:Option Addr} {cb5:Array (Option Value)} {cb6 cb7 cb8 cb9 Ml cc0:Value} {xO:Addr}
  {cc1 cc2:Option Addr} {cc3:Array (Option Value)} {cc4 cc5 cc6 cc7 Mm cc8:Value} {xP:Addr}
  {cc9 cd7:Option Addr} {ce0:Array (Option Value)} {ce1 ce2 ce3 ce4 Mn ce5:Value} {xQ:Addr}
  {ce6 ce7:Option Addr} {ce8:Array (Option Value)} {ce9 cf0 cf1 cf2 Mo cf3:Value} {xR:Addr}
  {cf4 cf5:Option Addr} {cf6:Array (Option Value)} {cf7 cf8 cf9 cg0 Mp cg1:Value} {xS:Addr}
  {cg2 cg3:Option Addr} {cg4:Array (Option Value)} {cg5 cg6 cg7 cg8 Mq cg9:Value} {xT:Addr}
  {ch0 ch1:Option Addr} {ch2:Array (Option Value)} {ch3 ch4 ch5 ch6 Mr ch7:Value} {lZ:Addr}
  {ch8 ch9:Option Addr} {ci0:Array (Option Value)} {ci1 ci2 ci3 ci4 Ms ci5:Value} {sE:Addr}
  {ci6 ci7:Option Addr} {ci8:Array (Option Value)} {ci9 cj0 cj1 cj2 Mt cj3:Value} {xU:Addr}
  {cj4 cj5:Option Addr} {cj6:Array (Option Value)} {cj7 cj8 cj9 ck0 Mu ck1:Value} {xV:Addr}
  {ck2 ck3:Option Addr} {ck4:Array (Option Value)} {ck5 ck6 ck7 ck8 Mv ck9:Value} {xW:Addr}
  {cl0 cl1:Option Addr} {cl2:Array (Option Value)} {cl3 cl4 cl5 cl6 Mw cl7:Value} {xX:Addr}
  {cl8 cl9:Option Addr} {cm0:Array (Option Value)} {cm1 cm2 cm3 cm4 Mx cm5:Value} {xY:Addr}
  {cm6 cm7:Option Addr} {cm8:Array (Option Value)} {cm9 cn0 cn1 cn2 Mz cn3:Value} {xZ:Addr}
  {cn4 cn5:Option Addr} {cn6:Array (Option Value)} {cn7 cn8 cn9 co0 MA co1:Value} {x3:Addr}
  {co2 co3:Option Addr} {co4:Array (Option Value)} {co5 co6 co7 co8 MB co9:Value} {x6:Addr}
  {cp0 cp1:Option Addr} {cp2:Array (Option Value)} {cp3 cp4 cp5 cp6 MC cp7:Value} {x8:Addr}
  {cp8 cp9:Option Addr} {cq0:Array (Option Value)} {cq1 cq2 cq3 cq4 MD cq5:Value} {x9:Addr}
  {cq6 ME:Option Addr} {cq7:Array (Option Value)} {cq8 MF MG MH Dh MI:Value} {Di:Addr}
  {aW fo jm bc:Addr}
  (u6:nsIn K mainGlobals "BitField"=some (some (.ref aW)))
  (u7:nsIn K mainGlobals "ByNought"=some (some (.ref fo)))
  (su:nsIn K mainGlobals "Field"=some (some (.ref jm)))
  (u9:nsIn K mainGlobals "PrimeField"=some (some (.ref bc)))
  (a0:nsIn K mainGlobals "_law_told"=some (some (.ref f0)))
  (l0:K.lookup f0=some ⟨Yp,Ym,.func (fnOf "_law_told" "_law_told" (bA rj) (aZ rj) (aw rj) .none Yq Yr Ys Yn LY Yt),Yo⟩)
  (c0:codeIn K LY "_law_told"=true)
  (k0:keepIn K (.ref f0)=true)
  (a1:nsIn K mainGlobals "powers_of"=some (some (.ref f1)))
  (l1:K.lookup f1=some ⟨Yx,Yu,.func (fnOf "powers_of" "powers_of" (bA rk) (aZ rk) (aw rk) .none Yy Yz YA Yv LZ YB),Yw⟩)
  (c1:codeIn K LZ "powers_of"=true)
  (k1:keepIn K (.ref f1)=true)
  (a2:nsIn K mainGlobals "step_powers"=some (some (.ref f2)))
  (l2:K.lookup f2=some ⟨YF,YC,.func (fnOf "step_powers" "step_powers" (bA rl) (aZ rl) (aw rl) .none YG YH YI YD L0 YJ),YE⟩)
  (c2:codeIn K L0 "step_powers"=true)
  (k2:keepIn K (.ref f2)=true)
  (a3:nsIn K mainGlobals "logs_of"=some (some (.ref f3)))
  (l3:K.lookup f3=some ⟨YN,YK,.func (fnOf "logs_of" "logs_of" (bA rm) (aZ rm) (aw rm) .none YO YQ YR YL L4 YS),YM⟩)
  (c3:codeIn K L4 "logs_of"=true)
  (k3:keepIn K (.ref f3)=true)
  (a4:findIn K (.ref jm) "step_power"=some (some (.ref f4)))
  (l4:K.lookup f4=some ⟨YW,YT,.func (fnOf "step_power" "Field.step_power" (bA rn) (aZ rn) (aw rn) .none YX YY YZ YU L5 Y0),YV⟩)
  (c4:codeIn K L5 "Field.step_power"=true)
  (k4:keepIn K (.ref f4)=true)
  (a5:findIn K (.ref jm) "__init__"=some (some (.ref f5)))
  (l5:K.lookup f5=some ⟨Y6,Y3,.func (fnOf "__init__" "Field.__init__" (bA rp) (aZ rp) (aw rp) .none Y7 Y8 Y9 Y4 L6 Za),Y5⟩)
  (c5:codeIn K L6 "Field.__init__"=true)
  (k5:keepIn K (.ref f5)=true)
  (a6:nsIn K mainGlobals "makes_prime_field"=some (some (.ref f6)))
  (l6:K.lookup f6=some ⟨Ze,Zb,.func (fnOf "makes_prime_field" "makes_prime_field" (bA rq) (aZ rq) (aw rq) .none Zf Zg Zh Zc L7 Zi),Zd⟩)
  (c6:codeIn K L7 "makes_prime_field"=true)
  (k6:keepIn K (.ref f6)=true)
  (a7:findIn K (.ref bc) "__init__"=some (some (.ref f7)))
  (l7:K.lookup f7=some ⟨Zm,Zj,.func (fnOf "__init__" "PrimeField.__init__" (bA kE) (aZ kE) (aw kE) .none Zn Zo Zp Zk (.ref vi) Zq),Zl⟩)
  (c7:codeIn K (.ref vi) "PrimeField.__init__"=true)
  (k7:keepIn K (.ref f7)=true)
  (MJ:K.lookup vi=some ⟨Zt,Zr,.fields L8,Zs⟩)
  (MK:L8[11]?=some (.ref iJ))
  (Dj:codeHdIn K vi iJ=true)
  (a8:nsIn K mainGlobals "product_rows"=some (some (.ref f8)))
  (l8:K.lookup f8=some ⟨Zx,Zu,.func (fnOf "product_rows" "product_rows" (bA rz) (aZ rz) (aw rz) .none Zy Zz ZA Zv L9 ZC),Zw⟩)
  (c8:codeIn K L9 "product_rows"=true)
  (k8:keepIn K (.ref f8)=true)
  (a9:nsIn K mainGlobals "bits_divided"=some (some (.ref f9)))
  (l9:K.lookup f9=some ⟨ZG,ZD,.func (fnOf "bits_divided" "bits_divided" (bA rA) (aZ rA) (aw rA) .none ZH ZI ZJ ZE Ma ZK),ZF⟩)
  (c9:codeIn K Ma "bits_divided"=true)
  (k9:keepIn K (.ref f9)=true)
  (Dk:nsIn K mainGlobals "stands_alone"=some (some (.ref xH)))
  (Dm:K.lookup xH=some ⟨ZO,ZL,.func (fnOf "stands_alone" "stands_alone" (bA rC) (aZ rC) (aw rC) .none ZP ZQ ZR ZM Mb ZS),ZN⟩)
  (Dn:codeIn K Mb "stands_alone"=true)
  (Dq:keepIn K (.ref xH)=true)
  (Dr:nsIn K mainGlobals "makes_bit_field"=some (some (.ref xI)))
  (Ds:K.lookup xI=some ⟨ZW,ZT,.func (fnOf "makes_bit_field" "makes_bit_field" (bA rD) (aZ rD) (aw rD) .none ZX ZY ZZ ZU Mc Z0),ZV⟩)
  (Dt:codeIn K Mc "makes_bit_field"=true)
  (Du:keepIn K (.ref xI)=true)
  (Dv:nsIn K mainGlobals "bits_times"=some (some (.ref ja)))
  (Dw:K.lookup ja=some ⟨Z4,Z1,.func (fnOf "bits_times" "bits_times" (bA rE) (aZ rE) (aw rE) .none Z5 Z6 Z7 Z2 Md Z8),Z3⟩)
  (Dx:codeIn K Md "bits_times"=true)
  (Dy:keepIn K (.ref ja)=true)
  (ML:findIn K (.ref aW) "__init__"=some (some (.ref sD)))
  (Dz:K.lookup sD=some ⟨ζ,Z9,.func (fnOf "__init__" "BitField.__init__" (bA kF) (aZ kF) (aw kF) .none η θ ι γ (.ref vj) μ),ε⟩)
  (DA:codeIn K (.ref vj) "BitField.__init__"=true)
  (DB:keepIn K (.ref sD)=true)
  (MM:K.lookup vj=some ⟨ο,ν,.fields Me,ξ⟩)
  (MN:Me[11]?=some (.ref iK))
  (DC:codeHdIn K vj iK=true)
  (DD:nsIn K mainGlobals "_law_field"=some (some (.ref xJ)))
  (DE:K.lookup xJ=some ⟨υ,π,.func (fnOf "_law_field" "_law_field" (bA rF) (aZ rF) (aw rF) .none χ ω Γ ρ Mg Δ),τ⟩)
  (DF:codeIn K Mg "_law_field"=true)
  (DG:keepIn K (.ref xJ)=true)
  (DH:nsIn K mainGlobals "_law_plus"=some (some (.ref xK)))
  (DI:K.lookup xK=some ⟨Φ,Θ,.func (fnOf "_law_plus" "_law_plus" (bA rG) (aZ rG) (aw rG) .none Ψ Ω b95 Λ Mh b96),Ξ⟩)
  (DJ:codeIn K Mh "_law_plus"=true)
  (DK:keepIn K (.ref xK)=true)
  (DL:nsIn K mainGlobals "_law_times"=some (some (.ref xM)))
  (DM:K.lookup xM=some ⟨ca0,b97,.func (fnOf "_law_times" "_law_times" (bA rH) (aZ rH) (aw rH) .none ca1 ca2 ca3 b98 Mi ca4),b99⟩)
  (DN:codeIn K Mi "_law_times"=true)
  (DO:keepIn K (.ref xM)=true)
  (DP:nsIn K mainGlobals "_law_dot"=some (some (.ref xN)))
  (DQ:K.lookup xN=some ⟨ca8,ca5,.func (fnOf "_law_dot" "_law_dot" (bA rK) (aZ rK) (aw rK) .none ca9 cb0 cb1 ca6 Mj cb2),ca7⟩)
  (DR:codeIn K Mj "_law_dot"=true)
  (DS:keepIn K (.ref xN)=true)
  (DT:nsIn K mainGlobals "_law_by_row"=some (some (.ref xO)))
  (DU:K.lookup xO=some ⟨cb6,cb3,.func (fnOf "_law_by_row" "_law_by_row" (bA rL) (aZ rL) (aw rL) .none cb7 cb8 cb9 cb4 Ml cc0),cb5⟩)
  (DV:codeIn K Ml "_law_by_row"=true)
  (DW:keepIn K (.ref xO)=true)
  (DX:nsIn K mainGlobals "_law_cell"=some (some (.ref xP)))
  (DY:K.lookup xP=some ⟨cc4,cc1,.func (fnOf "_law_cell" "_law_cell" (bA rM) (aZ rM) (aw rM) .none cc5 cc6 cc7 cc2 Mm cc8),cc3⟩)
  (DZ:codeIn K Mm "_law_cell"=true)
  (D0:keepIn K (.ref xP)=true)
  (D1:nsIn K mainGlobals "_law_many"=some (some (.ref xQ)))
  (D2:K.lookup xQ=some ⟨ce1,cc9,.func (fnOf "_law_many" "_law_many" (bA rN) (aZ rN) (aw rN) .none ce2 ce3 ce4 cd7 Mn ce5),ce0⟩)
  (D3:codeIn K Mn "_law_many"=true)
  (D4:keepIn K (.ref xQ)=true)
  (D6:nsIn K mainGlobals "_law_table"=some (some (.ref xR)))
  (D7:K.lookup xR=some ⟨ce9,ce6,.func (fnOf "_law_table" "_law_table" (bA rO) (aZ rO) (aw rO) .none cf0 cf1 cf2 ce7 Mo cf3),ce8⟩)
  (D8:codeIn K Mo "_law_table"=true)
  (D9:keepIn K (.ref xR)=true)
  (Ea:nsIn K mainGlobals "width_of"=some (some (.ref xS)))
  (Eb:K.lookup xS=some ⟨cf7,cf4,.func (fnOf "width_of" "width_of" (bA rQ) (aZ rQ) (aw rQ) .none cf8 cf9 cg0 cf5 Mp cg1),cf6⟩)
  (Ec:codeIn K Mp "width_of"=true)
  (Ee:keepIn K (.ref xS)=true)
  (Ef:nsIn K mainGlobals "turned"=some (some (.ref xT)))
  (Eg:K.lookup xT=some ⟨cg5,cg2,.func (fnOf "turned" "turned" (bA rR) (aZ rR) (aw rR) .none cg6 cg7 cg8 cg3 Mq cg9),cg4⟩)
  (Eh:codeIn K Mq "turned"=true)
  (Ei:keepIn K (.ref xT)=true)
  (MP:findIn K (.ref aW) "dot"=some (some (.ref lZ)))
  (Ej:K.lookup lZ=some ⟨ch3,ch0,.func (fnOf "dot" "BitField.dot" (bA rS) (aZ rS) (aw rS) .none ch4 ch5 ch6 ch1 Mr ch7),ch2⟩)
  (Ek:codeIn K Mr "BitField.dot"=true)
  (ya:keepIn K (.ref lZ)=true)
  (MQ:findIn K (.ref bc) "dot"=some (some (.ref sE)))
  (El:K.lookup sE=some ⟨ci1,ch8,.func (fnOf "dot" "PrimeField.dot" (bA rT) (aZ rT) (aw rT) .none ci2 ci3 ci4 ch9 Ms ci5),ci0⟩)
  (Em:codeIn K Ms "PrimeField.dot"=true)
  (yb:keepIn K (.ref sE)=true)
  (Eo:nsIn K mainGlobals "product"=some (some (.ref xU)))
  (Ep:K.lookup xU=some ⟨ci9,ci6,.func (fnOf "product" "product" (bA rU) (aZ rU) (aw rU) .none cj0 cj1 cj2 ci7 Mt cj3),ci8⟩)
  (Er:codeIn K Mt "product"=true)
  (Es:keepIn K (.ref xU)=true)
  (Et:nsIn K mainGlobals "by_column"=some (some (.ref xV)))
  (Eu:K.lookup xV=some ⟨cj7,cj4,.func (fnOf "by_column" "by_column" (bA rV) (aZ rV) (aw rV) .none cj8 cj9 ck0 cj5 Mu ck1),cj6⟩)
  (Ew:codeIn K Mu "by_column"=true)
  (Ey:keepIn K (.ref xV)=true)
  (Ez:nsIn K mainGlobals "_law_copy"=some (some (.ref xW)))
  (EA:K.lookup xW=some ⟨ck5,ck2,.func (fnOf "_law_copy" "_law_copy" (bA rW) (aZ rW) (aw rW) .none ck6 ck7 ck8 ck3 Mv ck9),ck4⟩)
  (EB:codeIn K Mv "_law_copy"=true)
  (EC:keepIn K (.ref xW)=true)
  (ED:nsIn K mainGlobals "_law_whole"=some (some (.ref xX)))
  (EE:K.lookup xX=some ⟨cl3,cl0,.func (fnOf "_law_whole" "_law_whole" (bA rX) (aZ rX) (aw rX) .none cl4 cl5 cl6 cl1 Mw cl7),cl2⟩)
  (EF:codeIn K Mw "_law_whole"=true)
  (EG:keepIn K (.ref xX)=true)
  (EH:nsIn K mainGlobals "_law_row_kind"=some (some (.ref xY)))
  (EI:K.lookup xY=some ⟨cm1,cl8,.func (fnOf "_law_row_kind" "_law_row_kind" (bA rY) (aZ rY) (aw rY) .none cm2 cm3 cm4 cl9 Mx cm5),cm0⟩)
  (EJ:codeIn K Mx "_law_row_kind"=true)
  (EK:keepIn K (.ref xY)=true)
  (EL:nsIn K mainGlobals "_law_table_kind"=some (some (.ref xZ)))
  (EM:K.lookup xZ=some ⟨cm9,cm6,.func (fnOf "_law_table_kind" "_law_table_kind" (bA rZ) (aZ rZ) (aw rZ) .none cn0 cn1 cn2 cm7 Mz cn3),cm8⟩)
  (EN:codeIn K Mz "_law_table_kind"=true)
  (EO:keepIn K (.ref xZ)=true)
  (ER:nsIn K mainGlobals "_law_same"=some (some (.ref x3)))
  (ES:K.lookup x3=some ⟨cn7,cn4,.func (fnOf "_law_same" "_law_same" (bA r6) (aZ r6) (aw r6) .none cn8 cn9 co0 cn5 MA co1),cn6⟩)
  (ET:codeIn K MA "_law_same"=true)
  (EU:keepIn K (.ref x3)=true)
  (EV:nsIn K mainGlobals "row_by"=some (some (.ref x6)))
  (EW:K.lookup x6=some ⟨co5,co2,.func (fnOf "row_by" "row_by" (bA r9) (aZ r9) (aw r9) .none co6 co7 co8 co3 MB co9),co4⟩)
  (EX:codeIn K MB "row_by"=true)
  (EY:keepIn K (.ref x6)=true)
  (EZ:nsIn K mainGlobals "picked"=some (some (.ref x8)))
  (E1:K.lookup x8=some ⟨cp3,cp0,.func (fnOf "picked" "picked" (bA se) (aZ se) (aw se) .none cp4 cp5 cp6 cp1 MC cp7),cp2⟩)
  (E2:codeIn K MC "picked"=true)
  (E3:keepIn K (.ref x8)=true)
  (E4:nsIn K mainGlobals "_law_shaped"=some (some (.ref x9)))
  (E5:K.lookup x9=some ⟨cq1,cp8,.func (fnOf "_law_shaped" "_law_shaped" (bA sg) (aZ sg) (aw sg) .none cq2 cq3 cq4 cp9 MD cq5),cq0⟩)
  (E6:codeIn K MD "_law_shaped"=true)
  (E7:keepIn K (.ref x9)=true)
  (yc:nsIn K mainGlobals "law"=some (some (.ref Di)))
  (E8:K.lookup Di=some ⟨cq8,cq6,.func (fnOf "law" "law" (bA kG) (aZ kG) (aw kG) .none MF MG MH ME Dh MI),cq7⟩)
  (E9:codeIn K Dh "law"=true)
  (Fb:keepIn K (.ref Di)=true)
  (yd:PySem.W.plainGet K aW Str.empty=true)
  (ye:PySem.W.hasDictIn K aW=true)
  (yf:PySem.W.plainOver K aW=true)
  (yg:findIn K (.ref aW) "__setattr__"=some (some (.builtin "object.__setattr__")))
  (uN:PySem.W.makesIn K aW=true)
  (Fc:findIn K (.ref aW) "__init__"=some (some (.ref sD)))
  (Fd:isFn K (.ref sD)=true)
  (Fe:keepIn K (.ref aW)=true)
  (Ff:findIn K (.ref aW) "__class__"=some (some (.builtin "object.__class__")))
  (Fg:specialIn K (.builtin "object.__class__") "__get__"=some (some (.builtin "getset_descriptor.__get__")))
  (Fh:takesIn K (.builtin "object.__class__")=some true)
  (Fj:mroIn K aW (.type "object")=some true)
  (uO:findIn K (.ref aW) "bits"=some none)
  (si:findIn K (.ref aW) "logs"=some none)
  (uP:findIn K (.ref aW) "many"=some none)
  (sj:findIn K (.ref aW) "powers"=some none)
  (xv:findIn K (.ref aW) "prime"=some none)
  (sk:findIn K (.ref aW) "products"=some none)
  (uQ:findIn K (.ref aW) "step"=some none)
  (uR:findIn K (.ref aW) "wide"=some none)
  (uS:findIn K (.ref aW) "dot"=some (some (.ref lZ)))
  (Fl:isFn K (.ref lZ)=true)
  (uT:findIn K (.ref aW) "step_power"=some (some (.ref f4)))
  (Fm:isFn K (.ref f4)=true)
  (yh:PySem.W.plainGet K bc Str.empty=true)
  (yi:PySem.W.hasDictIn K bc=true)
  (yj:PySem.W.plainOver K bc=true)
  (yk:findIn K (.ref bc) "__setattr__"=some (some (.builtin "object.__setattr__")))
  (uU:PySem.W.makesIn K bc=true)
  (Fo:findIn K (.ref bc) "__init__"=some (some (.ref f7)))
  (Fp:isFn K (.ref f7)=true)
  (Fq:keepIn K (.ref bc)=true)
  (Fs:findIn K (.ref bc) "__class__"=some (some (.builtin "object.__class__")))
  (Ft:specialIn K (.builtin "object.__class__") "__get__"=some (some (.builtin "getset_descriptor.__get__")))
  (Fu:takesIn K (.builtin "object.__class__")=some true)
  (Fv:mroIn K bc (.type "object")=some true)
  (xx:findIn K (.ref bc) "bits"=some none)
  (uV:findIn K (.ref bc) "logs"=some none)
  (uW:findIn K (.ref bc) "many"=some none)
  (uX:findIn K (.ref bc) "powers"=some none)
  (sq:findIn K (.ref bc) "prime"=some none)
  (xy:findIn K (.ref bc) "products"=some none)
  (uY:findIn K (.ref bc) "step"=some none)
  (uZ:findIn K (.ref bc) "wide"=some none)
  (u3:findIn K (.ref bc) "dot"=some (some (.ref sE)))
  (Fw:isFn K (.ref sE)=true)
  (u4:findIn K (.ref bc) "step_power"=some (some (.ref f4)))
  (Fx:isFn K (.ref f4)=true)
  (Fy:specialIn K (.ref jm) "__getattribute__"=some (some (.builtin "type.__getattribute__")))
  (Fz:PySem.W.readsIn K jm (.type "type")=true)
  (FA:PySem.W.findCls K (.ref jm) (.type "type") "__init__"=some (.val (.ref f5)))
  (FC:nsIn K mainGlobals "all"=some none)
  (FD:nsIn K mainGlobals "bool"=some none)
  (FE:nsIn K mainGlobals "enumerate"=some none)
  (FF:nsIn K mainGlobals "int"=some none)
  (FG:nsIn K mainGlobals "isinstance"=some none)
  (FH:nsIn K mainGlobals "len"=some none)
  (FI:nsIn K mainGlobals "list"=some none)
  (FJ:nsIn K mainGlobals "range"=some none)
  (FK:nsIn K mainGlobals "sum"=some none)
  (FL:nsIn K mainGlobals "zip"=some none)
  (FN:(PySem.W.clsIn K fo).isSome=true)
  (MR:PySem.W.typeIn K (.ref fo)=some (.type "type"))
  (FP:PySem.W.excIn K fo [.type "ValueError",.type "Exception",.type "BaseException",.type "object"] "ValueError.__new__"=true)
  (FQ:findIn K (.ref fo) "__getattribute__"=some (some (.builtin "BaseException.__getattribute__")))
  (FR:findIn K (.ref fo) "__getattr__"=some none)
  (FT:findIn K (.ref fo) "__class__"=some (some (.builtin "object.__class__")))
  (FU:specialIn K (.builtin "object.__class__") "__get__"=some (some (.builtin "getset_descriptor.__get__")))
  (FV:takesIn K (.builtin "object.__class__")=some true)
  (FW:mroIn K fo (.type "object")=some true)
  (FX:mroIn K fo (.type "BaseException")=some true)
  (nl:K.all (λp=>Aq p.2)=true)
  (sub:∀P∈[iJ,iK],P∈ts) :
  ∃fd:FuncData,(∀(s:Shared) (v:Value),BindsTo s fd ⟨[v],[]⟩ [("_law_script",v)])/\∀base:Heap,K.In base->base.Ns mainGlobals mg->Bm mg base->aL l.prog w K mg base aT 11 fa fd ["_law_script"] (wH ts K):=by
 have e:=Yl.symm.trans (mg_of X G yc)
 cases e
 have F0:=bO (st:=rj) l0 c0 k0
 have b0:=F0.binds (ps:=["_law_cell_here"]) λ_ _ _ _ _ _=>gE (λ_=>rfl)
 have F1:=bO (st:=rk) l1 c1 k1
 have b1:=F1.binds (ps:=["a","product"]) λ_ _ _ _ _ _=>gZ (λ_ _=>rfl)
 have F2:=bO (st:=rl) l2 c2 k2
 have b2:=F2.binds (ps:=["many","product"]) λ_ _ _ _ _ _=>gZ (λ_ _=>rfl)
 have F3:=bO (st:=rm) l3 c3 k3
 have b3:=F3.binds (ps:=["powers"]) λ_ _ _ _ _ _=>gE (λ_=>rfl)
 have F4:=bO (st:=rn) l4 c4 k4
 have b4:=F4.binds (ps:=["self","n"]) λ_ _ _ _ _ _=>gZ (λ_ _=>rfl)
 have F5:=bO (st:=rp) l5 c5 k5
 have b5:=F5.binds (ps:=["self","many","product"]) λ_ _ _ _ _ _=>iH (λ_ _ _=>rfl)
 have F6:=bO (st:=rq) l6 c6 k6
 have b6:=F6.binds (ps:=["prime"]) λ_ _ _ _ _ _=>gE (λ_=>rfl)
 have F7:=bO (st:=kE) l7 c7 k7
 have b7:=F7.binds (ps:=["self","prime"]) λ_ _ _ _ _ _=>gZ (λ_ _=>rfl)
 have F8:=bO (st:=rz) l8 c8 k8
 have b8:=F8.binds (ps:=["powers","logs"]) λ_ _ _ _ _ _=>gZ (λ_ _=>rfl)
 have F9:=bO (st:=rA) l9 c9 k9
 have b9:=F9.binds (ps:=["a","b"]) λ_ _ _ _ _ _=>gZ (λ_ _=>rfl)
 have MS:=bO (st:=rC) Dm Dn Dq
 have b10:=MS.binds (ps:=["a"]) λ_ _ _ _ _ _=>gE (λ_=>rfl)
 have MT:=bO (st:=rD) Ds Dt Du
 have b11:=MT.binds (ps:=["bits"]) λ_ _ _ _ _ _=>gE (λ_=>rfl)
 have MU:=bO (st:=rE) Dw Dx Dy
 have b12:=MU.binds (ps:=["a","b"]) λ_ _ _ _ _ _=>gZ (λ_ _=>rfl)
 have MV:=bO (st:=kF) Dz DA DB
 have b13:=MV.binds (ps:=["self","bits"]) λ_ _ _ _ _ _=>gZ (λ_ _=>rfl)
 have MW:=bO (st:=rF) DE DF DG
 have b14:=MW.binds (ps:=["_law_told_here"]) λ_ _ _ _ _ _=>gE (λ_=>rfl)
 have MX:=bO (st:=rG) DI DJ DK
 have b15:=MX.binds (ps:=["_law_told_here","_law_a","_law_b"]) λ_ _ _ _ _ _=>iH (λ_ _ _=>rfl)
 have MY:=bO (st:=rH) DM DN DO
 have b16:=MY.binds (ps:=["_law_told_here","_law_a","_law_b"]) λ_ _ _ _ _ _=>iH (λ_ _ _=>rfl)
 have MZ:=bO (st:=rK) DQ DR DS
 have b17:=MZ.binds (ps:=["_law_told_here","_law_xs","_law_ys"]) λ_ _ _ _ _ _=>iH (λ_ _ _=>rfl)
 have M0:=bO (st:=rL) DU DV DW
 have b18:=M0.binds (ps:=["_law_told_here","_law_xs","_law_table_here","_law_wide"]) λ_ _ _ _ _ _=>xi (λ_ _ _ _=>rfl)
 have M1:=bO (st:=rM) DY DZ D0
 have b19:=M1.binds (ps:=["_law_script","_law_k"]) λ_ _ _ _ _ _=>gZ (λ_ _=>rfl)
 have M3:=bO (st:=rN) D2 D3 D4
 have b20:=M3.binds (ps:=["_law_told_here"]) λ_ _ _ _ _ _=>gE (λ_=>rfl)
 have M4:=bO (st:=rO) D7 D8 D9
 have b21:=M4.binds (ps:=["_law_told_here","_law_script","_law_begin","_law_rows","_law_wide","_law_way"]) λ_ _ _ _ _ _=>Vj (λ_ _ _ _ _ _=>rfl)
 have M5:=bO (st:=rQ) Eb Ec Ee
 have b22:=M5.binds (ps:=["table"]) λ_ _ _ _ _ _=>gE (λ_=>rfl)
 have M6:=bO (st:=rR) Eg Eh Ei
 have b23:=M6.binds (ps:=["table"]) λ_ _ _ _ _ _=>gE (λ_=>rfl)
 have M7:=bO (st:=rS) Ej Ek ya
 have b24:=M7.binds (ps:=["self","xs","ys"]) λ_ _ _ _ _ _=>iH (λ_ _ _=>rfl)
 have M8:=bO (st:=rT) El Em yb
 have b25:=M8.binds (ps:=["self","xs","ys"]) λ_ _ _ _ _ _=>iH (λ_ _ _=>rfl)
 have M9:=bO (st:=rU) Ep Er Es
 have b26:=M9.binds (ps:=["field","one","other"]) λ_ _ _ _ _ _=>iH (λ_ _ _=>rfl)
 have Na:=bO (st:=rV) Eu Ew Ey
 have b27:=Na.binds (ps:=["field","table","column"]) λ_ _ _ _ _ _=>iH (λ_ _ _=>rfl)
 have Nb:=bO (st:=rW) EA EB EC
 have b28:=Nb.binds (ps:=["_law_table_here"]) λ_ _ _ _ _ _=>gE (λ_=>rfl)
 have Nc:=bO (st:=rX) EE EF EG
 have b29:=Nc.binds (ps:=["_law_x"]) λ_ _ _ _ _ _=>gE (λ_=>rfl)
 have Nd:=bO (st:=rY) EI EJ EK
 have b30:=Nd.binds (ps:=["_law_row","_law_wide","_law_many_here"]) λ_ _ _ _ _ _=>iH (λ_ _ _=>rfl)
 have Nf:=bO (st:=rZ) EM EN EO
 have b31:=Nf.binds (ps:=["_law_table_here","_law_rows","_law_wide","_law_many_here"]) λ_ _ _ _ _ _=>xi (λ_ _ _ _=>rfl)
 have Ng:=bO (st:=r6) ES ET EU
 have b32:=Ng.binds (ps:=["_law_found","_law_due","_law_wide","_law_many_here"]) λ_ _ _ _ _ _=>xi (λ_ _ _ _=>rfl)
 have Nh:=bO (st:=r9) EW EX EY
 have b33:=Nh.binds (ps:=["field","row","table"]) λ_ _ _ _ _ _=>iH (λ_ _ _=>rfl)
 have Ni:=bO (st:=se) E1 E2 E3
 have b34:=Ni.binds (ps:=["table","places"]) λ_ _ _ _ _ _=>gZ (λ_ _=>rfl)
 have Nj:=bO (st:=sg) E5 E6 E7
 have b35:=Nj.binds (ps:=["_law_one","_law_places"]) λ_ _ _ _ _ _=>gZ (λ_ _=>rfl)
 have Nk:=bO (st:=kG) E8 E9 Fb
 have b36:=Nk.binds (ps:=["_law_script"]) λ_ _ _ _ _ _=>gE (λ_=>rfl)
 have T:Txt K mg ⟨f0,_,f1,_,f2,_,f3,_,f4,_,f5,_,f6,_,f7,_,f8,_,f9,_,xH,_,xI,_,ja,_,sD,_,xJ,_,xK,_,xM,_,xN,_,xO,_,xP,_,xQ,_,xR,_,xS,_,xT,_,lZ,_,sE,_,xU,_,xV,_,xW,_,xX,_,xY,_,xZ,_,x3,_,x6,_,x8,_,x9,_,fa,_,vi,iJ,vj,iK,aW,fo,jm,bc⟩:=⟨F0,mg_of X G a0,b0,F1,mg_of X G a1,b1,F2,mg_of X G a2,b2,F3,mg_of X G a3,b3,F4,b4,F5,b5,F6,mg_of X G a6,b6,F7,b7,F8,mg_of X G a8,b8,F9,mg_of X G a9,b9,MS,mg_of X G Dk,b10,MT,mg_of X G Dr,b11,MU,mg_of X G Dv,b12,MV,b13,MW,mg_of X G DD,b14,MX,mg_of X G DH,b15,MY,mg_of X G DL,b16,MZ,mg_of X G DP,b17,M0,mg_of X G DT,b18,M1,mg_of X G DX,b19,M3,mg_of X G D1,b20,M4,mg_of X G D6,b21,M5,mg_of X G Ea,b22,M6,mg_of X G Ef,b23,M7,b24,M8,b25,M9,mg_of X G Eo,b26,Na,mg_of X G Et,b27,Nb,mg_of X G Ez,b28,Nc,mg_of X G ED,b29,Nd,mg_of X G EH,b30,Nf,mg_of X G EL,b31,Ng,mg_of X G ER,b32,Nh,mg_of X G EV,b33,Ni,mg_of X G EZ,b34,Nj,mg_of X G E4,b35,Nk,mg_of X G yc,b36,rfl,Dj,rfl,DC,⟨yd,ye,yf,yg⟩,⟨uN,Fc,Fd,Fe⟩,⟨⟨yd,ye,yf,yg⟩,Ff,Fg,Fh,Fj⟩,uO,si,uP,sj,xv,sk,uQ,uR,⟨uS,Fl,ya⟩,⟨uT,Fm,k4⟩,⟨yh,yi,yj,yk⟩,⟨uU,Fo,Fp,Fq⟩,⟨⟨yh,yi,yj,yk⟩,Fs,Ft,Fu,Fv⟩,xx,uV,uW,uX,sq,xy,uY,uZ,⟨u3,Fw,yb⟩,⟨u4,Fx,k4⟩,⟨Fy,Fz,FA,k5⟩,mg_none_of X G FC,mg_none_of X G FD,mg_none_of X G FE,mg_none_of X G FF,mg_none_of X G FG,mg_none_of X G FH,mg_none_of X G FI,mg_none_of X G FJ,mg_none_of X G FK,mg_none_of X G FL,mg_of X G u6,mg_of X G u7,mg_of X G su,mg_of X G u9,SV (mg_of X G u7) FP,⟨FN,FQ,FR,FT,FU,FV,FW,FX⟩⟩
 exact⟨fnOf "law" "law" (bA kG) (aZ kG) (aw kG) .none MF MG MH ME Dh MI,λs v=>.of_eq rfl,λbase _ _ hB=>(Ye T hB).imp λvs H Q E h=>let z:=Te nl h;⟨λP hP=>z.1 P (sub P hP),z.2⟩⟩
theorem aw7{K:Frag}{h:Heap}{c f k P:Addr}{od an:Option Addr}{sl:Array (Option Value)}{oc kV dc pm ct kt:Value}{ko:Option Addr}{ks:Array (Option Value)}{kf:Array Value}(X:K.In h)(a:nsIn K mainGlobals "PrimeField"=some (some (.ref c)))(b:findIn K (.ref c) "__init__"=some (some (.ref f)))
  (l:K.lookup f=some ⟨oc,od,.func (fnOf "__init__" "PrimeField.__init__" (bA kE) (aZ kE) (aw kE) .none kV dc pm an (.ref k) ct),sl⟩) (lk:K.lookup k=some ⟨kt,ko,.fields kf,ks⟩) (lp:kf[11]?=some (.ref P)) (n:K.lookup P=none) (e:codeHdIn K k P=true):K.lookup P=none/\∃c,CodeHd h c P:=⟨n,k,PySem.W.codeHd_of_K X e⟩
theorem az1{K:Frag}{h:Heap}{c f k P:Addr}{od an:Option Addr}{sl:Array (Option Value)}{oc kV dc pm ct kt:Value}{ko:Option Addr}{ks:Array (Option Value)}{kf:Array Value}(X:K.In h)(a:nsIn K mainGlobals "BitField"=some (some (.ref c)))(b:findIn K (.ref c) "__init__"=some (some (.ref f)))
  (l:K.lookup f=some ⟨oc,od,.func (fnOf "__init__" "BitField.__init__" (bA kF) (aZ kF) (aw kF) .none kV dc pm an (.ref k) ct),sl⟩) (lk:K.lookup k=some ⟨kt,ko,.fields kf,ks⟩) (lp:kf[11]?=some (.ref P)) (n:K.lookup P=none) (e:codeHdIn K k P=true):K.lookup P=none/\∃c,CodeHd h c P:=⟨n,k,PySem.W.codeHd_of_K X e⟩
theorem walk{l:PySem.W.OpenLaw}{q:Program}{loose:List Str}{XP:(Str->Option Value)->Heap->Prop}{YP:World->Heap->Prop}{d:DefRec}{K:Params->Frag}{ts:List Addr}(hn:l.most=some 63)(tK:d.params.defaults=[])
  (hY:∀(w:World) (h:Heap),YP w h->(K w.params).In h/\∀P∈ts,h.get? P=some (PySem.W.tabObj #[]))
  (hC:∀(w:World) (h:Heap),(K w.params).In h->∀P∈ts,(K w.params).lookup P=none/\∃c,CodeHd h c P)
  (F:∀(w:World) (mg:Str->Option Value) (fa:Addr) (h:Heap),(K w.params).In h->h.Ns mainGlobals mg->mg d.name=some (.ref fa) ->
   ∃fd:FuncData,(∀(s:Shared) (u:Value),BindsTo s fd ⟨[u],[]⟩ [("_law_script",u)])/\∀base:Heap,(K w.params).In base->base.Ns mainGlobals mg->Bm mg base->aL l.prog w (K w.params) mg base aT 11 fa fd ["_law_script"] (wH ts (K w.params))) :
  PySem.W.WalkO q loose XP YP l.row.toRowW d [] (λf vs=>PySem.call f vs) :=
 L2.Td (n:=63) (k:=11) (x:="_law_script") (CX:=λ_=>aT) (sp:=λw=>wH ts (K w.params)) hn (by decide) tK ⟨rfl,by decide,by decide⟩ hY hC F (λ_ _ a ns hl hO hS=>⟨a,ns,rfl,hO,hS,hl,λ_=>rfl⟩) λ_ _ _ _ _ z=>z
end HK14
set_option genInjectivity false in
set_option genSizeOf false in
structure PySem.W.Fast:Prop where
 (tw11400218259752096768 tw17737828277035921408 tw16224352854251952160 tw9484994849638213696 tw15954225868552163424 tw295871087532635296 tw1587772560314480864 tw10265738777906123040 tw4292657373065822528 tw7005623237013222784 tw2814819361037554176 tw405683096553785984 tw8452923564431593152 tw12260333182151957216 tw10622994365533142784 tw3840521858156204832 tw6029747346549408640 tw3018302791852148608 tw248564094139575200 tw4535291383687871392 tw10384511047849737152 tw17977723506219319232 tw1950871929301325792 tw8905551770419430465 tw8556287912962253921 tw11645482231947258977 tw5923289021033661569 tw858797554510260449 tw3962408724330780929 tw18177195045339631873 tw10863269219921556801 tw11038230865032796481 tw11062364292198608225 tw13528934495853631873 tw1953231374564831681 tw12446627522431089185 tw18018401141898687105 tw14604834034188946081 tw18206749716142832353 tw10366382360020851457:True)
 (tw2645914136061407073 tw1535727294668298145 tw14449110944828706753 tw5478810797779460065 tw4218320198822999042 tw5751988971373748258 tw11391184831209150562 tw18153979075315923042 tw4019971709744251106 tw16717925098306208034 tw6920108598334821730 tw8447713900693618018 tw13255162536223387010 tw1199799376879396290 tw2713336270840695298 tw8357149520744333826 tw4088708673155995266 tw296840866195944066 tw4770928329465113282 tw18344536596051362530 tw17312030644905594594 tw8762784624879968002 tw8205169190068987650 tw9478156597432742658 tw3708552783634271010 tw2784020790019364642 tw18193850595148961570 tw11808088990803434274 tw4202020817735069474 tw12441802725156326210 tw6742826020210420546 tw3963824795763425090 tw11741349200966411138 tw5353251888246350722 tw16546790674507102082 tw7400909571550605218 tw14491291663778324483 tw2447655149396720675 tw328868799072995459 tw12505110288658042019:True)
 (tw10012117016108928195 tw4279700157576742179 tw10652909819212234051 tw16826057135147732323 tw5364905500322823555 tw5979482438650986947 tw8975932860972588611 tw7469146960850020931 tw15266672849100143235 tw15178681043124926179 tw10129127399419606787 tw7352946171054019363 tw277077179138491203 tw4147936303449299843 tw16000929686394894243 tw544841278712322019 tw12247139084956157988 tw1519399592388070468 tw13220341290167214148 tw6862004328729437284 tw8490986057333342372 tw1716034396590670020 tw1915302628171979044 tw18401340567761322308 tw4426766258161037668 tw12906543012993829252 tw2578852181364236804 tw16839920712050561572 tw4880274188981276260 tw6357438195777128324 tw12223644478786062212 tw6359352568944874436 tw15540216729961698405 tw5801836180156099685 tw3332939845989492869 tw955022315332898981 tw6571412287096135909 tw3982049879677256965 tw14575414153319421541 tw15324059724191840869:True)
 (tw4623380881768768101 tw3657182433889001093 tw7639642500960068229 tw11846386072698610309 tw8950527956153023173 tw17123414709788349157 tw5319623621580439269 tw9002920051935892197 tw1155955633290559269 tw17409767359537030949 tw18248094308027278181 tw5358619189581516677 tw16035960853831670757 tw13269425576549496805 tw13022272132443608070 tw11222758750558174214 tw6453985987678889062 tw6084455890559550598 tw14800436704268744838 tw7131568715231880358 tw5331055223031238886 tw17535051960066232582 tw14249639986903794022 tw15962689156183203334 tw7666979232011577862 tw16183194544782916422 tw10763147526175903686 tw4979839460101867591 tw8012564831068913831 tw16466557534505206983 tw11920344361865589959 tw7507003720084701383 tw9312286701376075975 tw8048348871547337959 tw5769839418004357383 tw1704933850488569127 tw2435563058653605159 tw3724168580580016423 tw1713164646179063271 tw11531992956506264071:True)
 (tw10350969639790218759 tw265608127582873127 tw3354943575999034983 tw3199684395643319911 tw4115450858110065447 tw10271523653921208135 tw7069701710465000359 tw12983609790346653639 tw9895613831254004711 tw16857612643451311208 tw14366012608737851560 tw16963691251568398536 tw8452838063423242600 tw14875822531547256296 tw2387274571720385032 tw1349036455546045992 tw17354326588957751880 tw1570767691619429064 tw10862041713889336008 tw1485582201069924136 tw6507720078049572744 tw15646806029893264360 tw11914590679476990025 tw7017850728146959465 tw8503547321518311593 tw17629841261324506441 tw18368737598785879401 tw1970568365930662249 tw15001577348478992777 tw5486345337303942569 tw9846189845034394153 tw15202901928016956137 tw9265028811832318729 tw16148231625565621033 tw18088597206311333673 tw7633326424863629129 tw16035176806675745673 tw7314268024263449481 tw7870768785441039241 tw2006800892464991177:True)
 (tw4714925493693329353 tw1052509515926257706 tw12606366235109226570 tw11255645579619520618 tw7103684228209761418 tw13198593481547028650 tw12539851832856259850 tw3400052826968692106 tw1378982060304815498 tw8090752091490671082 tw18309022721046797834 tw7128220153305327114 tw2219186705281851946 tw3988063154934724202 tw18355398394685460138 tw8559760203701243562 tw11901982608936986282 tw16508617237701560010 tw17181925130522928906 tw14268259989790981002 tw2991063884449501130 tw3153943823843063754 tw280745506245863402 tw4688819100772391947 tw17118805426232638507 tw11394376382874494059 tw13084534661587355787 tw14272920564927510667 tw10846547322291403 tw9448470923349938379 tw8882843418031633643 tw585772210894005643 tw8446589288815267211 tw6695458063720506923 tw3070966235565557355 tw8673245254677935755 tw1896040703700826795 tw16547175915219876555 tw9005963844484962027 tw6745471564723055371:True)
 (tw358121292388605803 tw6697076350767977323 tw13436769956589585291 tw3521780015726748555 tw3152566421815180235 tw2450732276450318348 tw6050022709619505196 tw16120562349952286796 tw3305499291533183116 tw9287052897311374476 tw3736290612954036364 tw15198728702777807052 tw1114093326039413004 tw6918442389420646700 tw4115771763492210092 tw978284004715678124 tw533961538592760300 tw12240267575690775116 tw682347138314615468 tw6591077011500153516 tw678917404394774220 tw13265380160847578956 tw17234030044301217644 tw9312690658832749420 tw14683070159928866700 tw1899786898252954540 tw13117723011180724140 tw10068046740287909868 tw9896281031114180653 tw11544085897724283981 tw3833418475192943949 tw6787793058823797069 tw17614172250501255597 tw16200080101990239757 tw11889643985686871565 tw4827671770348667565 tw8748508075155791661 tw12897983595029433165 tw3732621238181818189 tw12976714038752916333:True)
 (tw529475746154009678 tw13898987604628280430 tw10735237695385114766 tw4449137431636565134 tw18383543823701941422 tw4501479613910408366 tw16236055096036843822 tw17511033130224742830 tw3437005126521390542 tw10266878969629599214 tw12992999944930661902 tw3030838641652811310 tw9222526674275253870 tw12942947025545200270 tw12925806276161500814 tw15508667149974005678 tw2564125494402613295 tw7274492007368305711 tw7326874374826406095 tw17608895612112616687 tw589308542840439055 tw13603492729986116911 tw13640739495460439375 tw1487251847008101711 tw15252659977773919631 tw14294623815052031407 tw9115608729352827343 tw3371523421639888463 tw7252133369386128079 tw12475154630491662031 tw3414212374755249935 tw3935602005255645007 tw7643510771123359567 tw9324666050642651055 tw7214948623006663631 tw2255339673097136144 tw15838302601844219984 tw3085224769839808688 tw6738642616284837072 tw10645810065814616368:True)
 (tw10815040348390422928 tw14127851544247941552 tw5132713188187587024 tw6827671977069155792 tw8438838462316563952 tw6639624606494990896 tw18165545260423066160 tw9009930198525558320 tw16846256222096511568 tw7610011141954597808 tw18109246942639751185 tw13284590239364013105 tw9366638427668041905 tw15447332112712245489 tw12167727274131853585 tw5574447437349255441 tw6057860396473677105 tw14917495827285742929 tw15732504615718821233 tw1102206653573910001 tw5776144261425485329 tw2012238211931301393 tw993028995368907281 tw3580554402069055025 tw16657958051427579441 tw10788610549827626673 tw4762461026251258609 tw9177641743885141809 tw9549940915278559057 tw276033943071110993 tw12179621408756359089 tw387812006251233233 tw9839057397103515601 tw7975046319131502577 tw4223374337531683858 tw15960044236051784722 tw17175245368229316626 tw16740085162051485938 tw1358255467415228658 tw6388890917725334002:True)
 (tw15204472908544611858 tw7260941678652518962 tw8453253045190750802 tw14612814140026538674 tw7715939396428859122 tw13609298877866314514 tw15381326506263427858 tw3185210982714137426 tw18043591182546794418 tw8771562664281063346 tw8715712354803190770 tw17108672450141172883 tw5455345809698801843 tw1075409596082814131 tw18135002257628347603 tw14407802504523367635 tw8019808140284302579 tw6456515315444221235 tw3724735822765873491 tw3854509434778144211 tw9320642607507336755 tw10507406010846612051 tw15173375915147401843 tw15444833515318364787 tw2322346077288353491 tw511796613441868499 tw6196510336929032915 tw17348695337319672659 tw15652039510050157395 tw10296901083091407731 tw13962904004372824051 tw5034304442520005652 tw30117501776324660 tw10189615926191950932 tw9296066568466149524 tw17751537038108647604 tw12357477647414257844 tw9251169514338328820 tw17444885901956463860 tw9608576671508609556:True)
 (tw18102638681734302260 tw9055725094261856820 tw4401283706880139860 tw18189157174214249076 tw5057424598036925108 tw6161152532492743348 tw1839183882165790420 tw1147507398373720820 tw2480595590672718612 tw5444746989268340757 tw6816330150889167893 tw1402636505892380757 tw11837532429612222645 tw1390683591318119637 tw5063903140853609685 tw2409657784416104725 tw14105966157740024117 tw16331814149137069365 tw10143547144351230293 tw13880352749794406869 tw10265335176507864533 tw2388991000245492245 tw2889601518270510613 tw4480312503753009717 tw1285864566402579029 tw11987206270937039605 tw7530842992160926645 tw4496657894469454805 tw6643191173830598613 tw5037328877696241750 tw7731039124075960406 tw5218986992941415670 tw16140650573985204502 tw18299904056421016854 tw18331589986428222742 tw5683710695596985686 tw10847255561677704566 tw4831368941868086710 tw764451773934189014 tw16499771605393135062:True)
 (tw3893029949249470998 tw10523608894894208662 tw5429609545041135350 tw4088921497725019926 tw153669879583229718 tw9642682409976402806 tw2871922111042665366 tw10961368302796924822 tw6737214683080540086 tw2915379223617790902 tw7849190227604870102 tw17033023281798219766 tw12387091869255345175 tw7851883699685781559 tw13035005258138553431 tw14978264070621040791 tw301116395993463959 tw12659562830278865079 tw9018245233834811575 tw7886447092308445399 tw8913940897180952855 tw1036135156127780119 tw7156639370327977239 tw6813663761616873783 tw5715015361077943767 tw18032226374461491703 tw2282309486873370103 tw12191008507583598103 tw17113658569897487927 tw11150765187342845495 tw16729552868510042743 tw3665783870770358903 tw5880430166370892407 tw1828557791985060503 tw12429622476276230807 tw739117251878804151 tw6434154780285204151 tw4226031739670265591 tw6599840282335342359 tw15387466374153486167:True)
 (tw7411151879949496279 tw12344813433167056887 tw7796067354302634999 tw1374274722401641624 tw17757746054747619512 tw9151089993162544408 tw7983621626406924600 tw4093028257129789752 tw10978013167610340696 tw9310214724262594008 tw13902734973070444024 tw5901727290326230584 tw11395758768302268120 tw4206590313111726840 tw10135579691370084088 tw18259677496902496152 tw3645946503104700344 tw7235955290586184729 tw10754728784620252217 tw3249675602756862137 tw10963142440988354777 tw16559031992218638553 tw897544138709047545 tw1594375820374787321 tw13832637643995360537 tw17919217814150080857 tw14615399400164739449 tw15553176480076882297 tw8659856325979014617 tw1441495919544353305 tw5498077245527017369 tw5782772885228982298 tw13462508038843357306 tw4853917834232550554 tw6979271676371412122 tw14646970277979199738 tw8196007215568850234 tw14258352997892895066 tw7101622333782527354 tw9484662203072532858:True)
 (tw9858991459976896890 tw10026649415279185338 tw8987321065890421178 tw7536034617448334842 tw14478007746183341594 tw12922865401012083354 tw13223776130098696890 tw7522200216182003418 tw1958592666268531450 tw349248796395413306 tw13707783944454328186 tw6604088985296298970 tw5388167808004583386 tw11975910954958996474 tw1034618928127114267 tw7957306030882779163 tw12048551202240877627 tw6658965536871308347 tw1695794865487486171 tw2004984667611542747 tw4890761472861612315 tw16804144181757678939 tw2818817505551284603 tw1837750281020483995 tw15859607953434292635 tw2623060944083124795 tw12885455004449295963 tw12681278343824824987 tw18025151328567290555 tw2251475907391077115 tw11266424875700091675 tw13680694106887385947 tw240387954178031483 tw12515121225741580219 tw13685143330377479196 tw2596521708067131484 tw8886034699756246140 tw15489756343240875260 tw3658699093009902876 tw1408321059491506524:True)
 (tw2721897984863150492 tw8310620345712601564 tw2020497057560542716 tw6119107973862317596 tw8713531850072411804 tw17603439512839883484 tw4695671944130367196 tw17257331906174160668 tw6832759519663952668 tw186712619416889116 tw1715782417459277660 tw9122616665514260348 tw2093848654098690940 tw15983632973809567644 tw1700569399429715868 tw15888149787029116892 tw16963289656832216028 tw2830243717887080477 tw18115327143511878685 tw1637106893379600477 tw15817587647539511485 tw8256205485789612285 tw16976172346251188477 tw16191238216003091709 tw14355245796952792381 tw6900805556662382941 tw17275722434603893117 tw6404036249816706461 tw4038703516213365149 tw11537096663184364957 tw15038268311090526653 tw12371694572539447837 tw18291339122866672285 tw3936455703645951709 tw10151945914112240349 tw3880145305109765085 tw15698581194686967773 tw8432411956552415229 tw5899611883686512702 tw793159057332776062:True)
 (tw16742140561508216158 tw5186373808740859230 tw12315072211112622462 tw545251846791014942 tw5098745482285920798 tw849647880496516670 tw8129994109626157726 tw13866521848498959006 tw2400267987269204766 tw14585631602654327742 tw3466479331014838238 tw5472171299435440094 tw9344163312498807839 tw5582447068995000511 tw11621968591121226975 tw13385458928837393695 tw13090682039174718815 tw13701127398353768831 tw10072025981888354687 tw13218725987362532799 tw622359634439396831 tw2138198519432397343 tw9309342134450828927 tw17709263544370523839 tw18392379180939398879 tw14300824981015941887 tw6420796471583325983 tw544194290828745695 tw1037713879628116707:True)
open PySem PySem.W PyProof.Rows
set_option maxRecDepth 100000 in
set_option maxHeartbeats 0 in
theorem PySem.Challenge.cw_mendfield_k14_tables_multiplied_holds : PySem.Challenge.rw_mendfield_k14_tables_multiplied.Holds := by
 w_on;o_law;k_head;(case hw=>w_witness2)
 k_fill
 refine HK14.walk (l:=PySem.Challenge.rw_mendfield_k14_tables_multiplied) rfl rfl (λw h Y=>⟨PySem.W.km_in_of Y,PySem.W.km_tabs_of Y⟩) ?C ?F
 case C =>
  intro w h hX
  repeat' (first | exact List.forall_mem_nil _ | refine List.forall_mem_cons.mpr ⟨?_,?_⟩)
  all_goals first | (refine' HK14.aw7 hX ?a ?b ?l ?lk ?lp ?n ?e;(case a=>k_is);(case b=>k_is);(case l=>k_is);(case lk=>k_is);(case lp=>first | rfl | with_unfolding_all rfl);(case n=>kernel_rfl);(case e=>kernel_rfl)) | (refine' HK14.az1 hX ?a ?b ?l ?lk ?lp ?n ?e;(case a=>k_is);(case b=>k_is);(case l=>k_is);(case lk=>k_is);(case lp=>first | rfl | with_unfolding_all rfl);(case n=>kernel_rfl);(case e=>kernel_rfl))
 case F =>
  intro w mg fa h KX G tL
  refine' HK14.all_mk KX G tL ?u6 ?u7 ?su ?u9 ?a0 ?l0 ?c0 ?k0 ?a1 ?l1 ?c1 ?k1 ?a2 ?l2 ?c2 ?k2 ?a3 ?l3 ?c3 ?k3 ?a4 ?l4 ?c4 ?k4 ?a5 ?l5 ?c5 ?k5 ?a6 ?l6 ?c6 ?k6 ?a7 ?l7 ?c7 ?k7 ?MJ ?MK ?Dj ?a8 ?l8 ?c8 ?k8 ?a9 ?l9 ?c9 ?k9 ?Dk ?Dm ?Dn ?Dq ?Dr ?Ds ?Dt ?Du ?Dv ?Dw ?Dx ?Dy ?ML ?Dz ?DA ?DB ?MM ?MN ?DC ?DD ?DE ?DF ?DG ?DH ?DI ?DJ ?DK ?DL ?DM ?DN ?DO ?DP ?DQ ?DR ?DS ?DT ?DU ?DV ?DW ?DX ?DY ?DZ ?D0 ?D1 ?D2 ?D3 ?D4 ?D6 ?D7 ?D8 ?D9 ?Ea ?Eb ?Ec ?Ee ?Ef ?Eg ?Eh ?Ei ?MP ?Ej ?Ek ?ya ?MQ ?El ?Em ?yb ?Eo ?Ep ?Er ?Es ?Et ?Eu ?Ew ?Ey ?Ez ?EA ?EB ?EC ?ED ?EE ?EF ?EG ?EH ?EI ?EJ ?EK ?EL ?EM ?EN ?EO ?ER ?ES ?ET ?EU ?EV ?EW ?EX ?EY ?EZ ?E1 ?E2 ?E3 ?E4 ?E5 ?E6 ?E7 ?yc ?E8 ?E9 ?Fb ?yd ?ye ?yf ?yg ?uN ?Fc ?Fd ?Fe ?Ff ?Fg ?Fh ?Fj ?uO ?si ?uP ?sj ?xv ?sk ?uQ ?uR ?uS ?Fl ?uT ?Fm ?yh ?yi ?yj ?yk ?uU ?Fo ?Fp ?Fq ?Fs ?Ft ?Fu ?Fv ?xx ?uV ?uW ?uX ?sq ?xy ?uY ?uZ ?u3 ?Fw ?u4 ?Fx ?Fy ?Fz ?FA ?FC ?FD ?FE ?FF ?FG ?FH ?FI ?FJ ?FK ?FL ?FN ?MR ?FP ?FQ ?FR ?FT ?FU ?FV ?FW ?FX ?nl ?sub
  (case u6=>k_is)
  (case u7=>k_is)
  (case su=>k_is)
  (case u9=>k_is)
  (case a0=>k_is)
  (case l0=>k_is)
  (case c0=>k_is)
  (case k0=>k_is)
  (case a1=>k_is)
  (case l1=>k_is)
  (case c1=>k_is)
  (case k1=>k_is)
  (case a2=>k_is)
  (case l2=>k_is)
  (case c2=>k_is)
  (case k2=>k_is)
  (case a3=>k_is)
  (case l3=>k_is)
  (case c3=>k_is)
  (case k3=>k_is)
  (case a4=>k_is)
  (case l4=>k_is)
  (case c4=>k_is)
  (case k4=>k_is)
  (case a5=>k_is)
  (case l5=>k_is)
  (case c5=>k_is)
  (case k5=>k_is)
  (case a6=>k_is)
  (case l6=>k_is)
  (case c6=>k_is)
  (case k6=>k_is)
  (case a7=>k_is)
  (case l7=>k_is)
  (case c7=>k_is)
  (case k7=>k_is)
  (case MJ=>k_is)
  (case MK=>first | rfl | with_unfolding_all rfl)
  (case Dj=>kernel_rfl)
  (case a8=>k_is)
  (case l8=>k_is)
  (case c8=>k_is)
  (case k8=>k_is)
  (case a9=>k_is)
  (case l9=>k_is)
  (case c9=>k_is)
  (case k9=>k_is)
  (case Dk=>k_is)
  (case Dm=>k_is)
  (case Dn=>k_is)
  (case Dq=>k_is)
  (case Dr=>k_is)
  (case Ds=>k_is)
  (case Dt=>k_is)
  (case Du=>k_is)
  (case Dv=>k_is)
  (case Dw=>k_is)
  (case Dx=>k_is)
  (case Dy=>k_is)
  (case ML=>k_is)
  (case Dz=>k_is)
  (case DA=>k_is)
  (case DB=>k_is)
  (case MM=>k_is)
  (case MN=>first | rfl | with_unfolding_all rfl)
  (case DC=>kernel_rfl)
  (case DD=>k_is)
  (case DE=>k_is)
  (case DF=>k_is)
  (case DG=>k_is)
  (case DH=>k_is)
  (case DI=>k_is)
  (case DJ=>k_is)
  (case DK=>k_is)
  (case DL=>k_is)
  (case DM=>k_is)
  (case DN=>k_is)
  (case DO=>k_is)
  (case DP=>k_is)
  (case DQ=>k_is)
  (case DR=>k_is)
  (case DS=>k_is)
  (case DT=>k_is)
  (case DU=>k_is)
  (case DV=>k_is)
  (case DW=>k_is)
  (case DX=>k_is)
  (case DY=>k_is)
  (case DZ=>k_is)
  (case D0=>k_is)
  (case D1=>k_is)
  (case D2=>k_is)
  (case D3=>k_is)
  (case D4=>k_is)
  (case D6=>k_is)
  (case D7=>k_is)
  (case D8=>k_is)
  (case D9=>k_is)
  (case Ea=>k_is)
  (case Eb=>k_is)
  (case Ec=>k_is)
  (case Ee=>k_is)
  (case Ef=>k_is)
  (case Eg=>k_is)
  (case Eh=>k_is)
  (case Ei=>k_is)
  (case MP=>k_is)
  (case Ej=>k_is)
  (case Ek=>k_is)
  (case ya=>k_is)
  (case MQ=>k_is)
  (case El=>k_is)
  (case Em=>k_is)
  (case yb=>k_is)
  (case Eo=>k_is)
  (case Ep=>k_is)
  (case Er=>k_is)
  (case Es=>k_is)
  (case Et=>k_is)
  (case Eu=>k_is)
  (case Ew=>k_is)
  (case Ey=>k_is)
  (case Ez=>k_is)
  (case EA=>k_is)
  (case EB=>k_is)
  (case EC=>k_is)
  (case ED=>k_is)
  (case EE=>k_is)
  (case EF=>k_is)
  (case EG=>k_is)
  (case EH=>k_is)
  (case EI=>k_is)
  (case EJ=>k_is)
  (case EK=>k_is)
  (case EL=>k_is)
  (case EM=>k_is)
  (case EN=>k_is)
  (case EO=>k_is)
  (case ER=>k_is)
  (case ES=>k_is)
  (case ET=>k_is)
  (case EU=>k_is)
  (case EV=>k_is)
  (case EW=>k_is)
  (case EX=>k_is)
  (case EY=>k_is)
  (case EZ=>k_is)
  (case E1=>k_is)
  (case E2=>k_is)
  (case E3=>k_is)
  (case E4=>k_is)
  (case E5=>k_is)
  (case E6=>k_is)
  (case E7=>k_is)
  (case yc=>k_is)
  (case E8=>k_is)
  (case E9=>k_is)
  (case Fb=>k_is)
  (case yd=>k_is)
  (case ye=>k_is)
  (case yf=>k_is)
  (case yg=>k_is)
  (case uN=>k_is)
  (case Fc=>k_is)
  (case Fd=>k_is)
  (case Fe=>k_is)
  (case Ff=>k_is)
  (case Fg=>k_is)
  (case Fh=>k_is)
  (case Fj=>k_is)
  (case uO=>k_is)
  (case si=>k_is)
  (case uP=>k_is)
  (case sj=>k_is)
  (case xv=>k_is)
  (case sk=>k_is)
  (case uQ=>k_is)
  (case uR=>k_is)
  (case uS=>k_is)
  (case Fl=>k_is)
  (case uT=>k_is)
  (case Fm=>k_is)
  (case yh=>k_is)
  (case yi=>k_is)
  (case yj=>k_is)
  (case yk=>k_is)
  (case uU=>k_is)
  (case Fo=>k_is)
  (case Fp=>k_is)
  (case Fq=>k_is)
  (case Fs=>k_is)
  (case Ft=>k_is)
  (case Fu=>k_is)
  (case Fv=>k_is)
  (case xx=>k_is)
  (case uV=>k_is)
  (case uW=>k_is)
  (case uX=>k_is)
  (case sq=>k_is)
  (case xy=>k_is)
  (case uY=>k_is)
  (case uZ=>k_is)
  (case u3=>k_is)
  (case Fw=>k_is)
  (case u4=>k_is)
  (case Fx=>k_is)
  (case Fy=>k_is)
  (case Fz=>k_is)
  (case FA=>k_is)
  (case FC=>k_is)
  (case FD=>k_is)
  (case FE=>k_is)
  (case FF=>k_is)
  (case FG=>k_is)
  (case FH=>k_is)
  (case FI=>k_is)
  (case FJ=>k_is)
  (case FK=>k_is)
  (case FL=>k_is)
  (case FN=>first | k_is | rfl | decide)
  (case MR=>k_is)
  (case FP=>k_exc)
  (case FQ=>k_is)
  (case FR=>k_is)
  (case FT=>k_is)
  (case FU=>k_is)
  (case FV=>k_is)
  (case FW=>k_is)
  (case FX=>k_is)
  (case nl=>first | k_is | rfl | decide)
  (case sub=>decide)
