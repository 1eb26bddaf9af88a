import PyProof.Rows.All
import Wide.All
import OpenK.AllK
import Wide.FinOn
import Lean
import PyProof.EqAt
import PyProof.EqKinds
import PyProof.TupleCall
import PyProof.NeKinds
import PyProof.Rows.Range3
import PyProof.FitsBits
import PyProof.StationsW
import PyProof.NsDelKeeps
import PyProof.Rows.CatchOwn
import KE.KTryMore
import PyProof.ExcArgsOwn
import PyProof.ExcAttrAll.ValueError
import OpenK.KOwn
import PyProof.ZipIter
import PyProof.WalksEnum
import PyProof.EnumMake
import KE.KIntText
import PyProof.Conv_int
import PyProof.StrWalks
import PyProof.StrLawsFirst
import KE.KLam
import KE.KNestM
import KE.KRevIter
import PyProof.ListRange
import PyProof.Rows.SortWalk
import PyProof.Rows.SetFrom
import PyProof.FactsAll.set
import PyProof.Rows.SeqMore
import PySem.Challenge.RW_mendfield_k12_roots_peeled
open Array renaming length_toList→gh,getElem?_eq_getElem→mW,getElem?_toList→q8,append_assoc→vQ,getD→zG,getElem?_eq_none→DR,getElem?_eq_some_iff→MK,toList_append→VR,toList_push→VX
open Bool renaming and_eq_true→dh,false_ne_true→ir,false_eq_true→mO,and_true→mT,or_false→n5,true_and→og,eq_iff_iff→qU,false_and→vR,or_true→wj,not_false→zM,not_true→zN,true_or→zO,false_or→zP,or_eq_true→Du
open Classical renaming byContradiction→VI
open False renaming elim→dB
open ForInStep renaming yield→Dt
open Int renaming toNat_natCast→fH,emod_nonneg→gW,emod_lt_of_pos→gX,natAbs_natCast→gY,natCast_emod→mV,toNat_of_nonneg→zA,toNat→zD,natCast_mul→zR,natCast_add→DH,natCast_nonneg→MB,zero_add→MU,emod_eq_of_lt→MY,fdiv_eq_ediv_of_nonneg→VD
open List renaming replicate→aQ,range→aV,getElem?_eq_getElem→bu,getD_eq_getElem?_getD→bF,mem_cons→bG,length_map→cQ,size_toArray→cY,map_cons→dk,getElem?_map→dm,mem_map→dn,all_eq_true→dM,append_assoc→dW,all_cons→dX,length_range→eB,mem_append→eH,mem_append_right→eI,length_cons→eJ,mem_append_left→fq,not_mem_nil→fI,getElem?_eq_some_iff→gg,length_take→gj,map_map→gk,mem_range→gR,mem_singleton→gU,lookup_cons→iu,mem_cons_of_mem→i3,nodup_cons→i5,getElem_mem→i6,append_nil→jP,length_drop→jQ,lookup→kG,length_replicate→kI,map_nil→kJ,getElem?_eq_none→kN,zipWith→kO,length_reverse→kQ,length_append→mL,cons.inj→mP,perm_append_comm→mQ,getElem?_range→mS,count→mX,getElem?_set_ne→nZ,replicate_succ→n6,map_append→oi,filterMap_cons→qS,mem_of_getElem?→qW,flatten_cons→qZ,nil_append→q9,all_nil→rh,pairwise_cons→rk,getElem?_append_right→vT,getElem_of_mem→vV,map_congr_left→vY,cons_append→vZ,drop_eq_getElem_cons→v7,getElem?_cons_zero→wb,getElem?_cons_succ→wc,set_cons_zero→we,set_cons_succ→wg,mem_cons_self→zd,of_mem_zip→zh,take_length→zo,take_add_one→zr,all_map→zt,mem_of_mem_take→zu,getElem?_take→zw,ext_getElem→zB,getElem?_reverse→zC,map_replicate→zE,length_nil→zK,cons.injEq→zL,mem_filter→Dc,length→Dh,getElem?_replicate→Di,getElem?_append_left→Dj,reverse_cons→Dk,drop_zero→Dz,append_eq_nil_iff→DA,mem_replicate→DB,mem_of_mem_drop→DC,ext_getElem?→DD,map→DE,map_zipWith→DF,drop_length→DG,mem_map_of_mem→DI,Perm.refl→DL,getElem?_eq_none_iff→Mz,getElem?_set_self→MA,length_set→MD,length_dropLast→MF,Pairwise.nil→MG,Sublist.refl→MN,append_inj→MP,set_set→MQ,filter_eq_self→MR,drop_eq_nil_of_le→MT,getElem?_mapIdx→MV,mem_or_eq_of_mem_set→MW,map_reverse→MZ,map_id→M0,getElem_map→M1,getElem_drop→M3,length_zipWith→M4,pairwise_lt_range→M5,perm_cons_erase→M8,range_succ→M9,count_eq_zero→Na,mem_filterMap→VC,set_eq_of_length_le→VL,eq_nil_iff_forall_not_mem→VM,take_of_length_le→VN,range_succ_eq_map→VO,dropLast_cons_of_ne_nil→VP,getElem?_drop→VQ,zip_cons_cons→VS,take_append_drop→VT,reverse_append→VU,dropLast_eq_take→VV,length_eq_zero_iff→VZ,length_eraseIdx→V0,mem_erase_of_ne→V1,length_erase_of_mem→V2,count_cons_self→V3,mem_of_mem_erase→V4,getElem_range→V5,eq_of_mem_replicate→V6
open Nat renaming le_refl→aY,ne_of_lt→cy,lt_of_lt_of_le→cI,le_trans→eu,zero_le→gi,lt_irrefl→gQ,xor_zero→jk,shiftLeft_eq→jl,mul_comm→kK,testBit_xor→kL,lt_of_le_of_lt→kM,not_lt→kP,zero_xor→mM,mod_lt→mU,pow_succ→n8,xor_assoc→n9,mul_assoc→oa,sub_zero→oh,ne_of_gt→qT,sub_self→rj,lt_succ_self→vS,two_pow_pos→vU,min_eq_left→vX,mul_mod→v3,not_lt_zero→v9,le_of_lt→zc,le_succ→ze,pow_le_pow_right→zj,eq_of_testBit_eq→zk,testBit_zero→zl,xor_self→zm,mod_eq_of_lt→zx,mod_add_mod→zy,add_comm→Dm,testBit_lt_two_pow→Dq,testBit_succ→Dr,strongRecOn→Ds,add_sub_cancel_left→DJ,succ.inj→DK,lt_succ_of_lt→DN,one_shiftLeft→DT,le_of_eq→MC,xor_comm→MH,testBit_and→MI,mod_mod→MX,testBit_eq_decide_div_mod_eq→VE,shiftLeft_xor_distrib→VF,mul_lt_mul_right→VG,testBit_shiftLeft→VH,shiftRight_eq_div_pow→VJ,exists_eq_add_of_le→VW
open Ne renaming symm→dA
open Option renaming some.inj→cP,getD_none→qY,some.injEq→rm,getD_some→vW,isSome_iff_exists→zi,map_some→zI,map_none→zJ,none→Dn,bind_some→MM,map_eq_some_iff→MS
open Or renaming inl→ay,inr→bU
open PyProof renaming Rows.callWith_type1→jO,Rows.F.plain_set_update_loop→M7
open PySem renaming Heap.lt_size→aS,Heap.get?_push_of_some→bK,Heap.get?_push_size→cS,Value.ref→dg,SetTable.below→eX,PassesOwn.never→fu,Value.int→fG,Value.none→iq,Value.type→iZ,Builtin.Range.rangeSize→i4,Obj.mapSeq→jR,Heap.get?_update_other→jS,Heap.size_push→kH,Builtin.bitAnd→mJ,Builtin.bitXor→mK,Heap.SameBut→nY,F.called_set→oj,Heap.get?_update_self→qX,SetTable.grown→rn,Builtin.List.listExtendWith→wa,SetTable.below.go→zF,Str.ofString→zH,Value.bool→C9,Data.fields→De,Calls.spliced_nil→Df,Calls.spliced_cons→Dg,Obj.data_mapFields→Dv,Value.builtin→Dw,Value.type.inj→Dx,Builtin.Str.strSliceIndices→Dy,Around.under_plainId→DM,Builtin.List.listLengthHint→DO,F.slot_set_iter→DP,Builtin.Frozenset.sizeOf→DQ,Builtin.List.listSameRef→DS,Value.isInt_shape→Mx,Builtin.List.listTooLong→ME,Obj.isFreed_of_fields→MJ,Heap.MadeExcOf→ML,SetTable.probe.go→M6,Calls.Name_function_global→VB
open String renaming splitOnAux→VY
open Sum renaming inl→qQ,inr→qR
open True renaming intro→qV
set_option Elab.async false
set_option linter.all false
set_option maxRecDepth 100000
namespace L2
open PySem PySem.Spec PyProof.Rows
noncomputable abbrev Key:=Sum Int Str
noncomputable def Nb:Key->Value->Bool
 | .inl k,v=>Value.isInt k v
 | .inr x,v=>Value.isStrOf x v
noncomputable def V7(w:World):Key->Int
 | .inl k=>hashInt k
 | .inr x=>hashStr w x
theorem kR:∀{k:Key} {v:Value},Nb k v=true->(∃i t,k=qQ i/\v=fG i t)\/(∃x t,k=qR x/\v=Value.str x t)
 | .inl i,v,h=>by
  obtain⟨t,e⟩:=Mx (k:=i) (v:=v) h
  exact .inl ⟨i,t,rfl,e⟩
 | .inr x,v,h=>by
  obtain⟨t,e⟩:=Value.isStrOf_shape (x:=x) (v:=v) h
  exact .inr ⟨x,t,rfl,e⟩
theorem V8(a b:Int):decide ((qQ a:Key)=qQ b)=(a==b):=by
 by_cases e:a=b
 ·subst e;simp
 ·have h:¬ (qQ a:Key)=qQ b:=λq=>e (Sum.inl.inj q)
  rw[decide_eq_false h]
  exact(beq_eq_false_iff_ne.mpr e).symm
theorem V9(a b:Str):decide ((qR a:Key)=qR b)=decide (a=b):=by
 by_cases e:a=b
 ·subst e;simp
 ·have h:¬ (qR a:Key)=qR b:=λq=>e (Sum.inr.inj q)
  rw[decide_eq_false h,decide_eq_false e]
theorem Wa(a:Int)(b:Str):decide ((qQ a:Key)=qR b)=false:=decide_eq_false (λq=>nomatch q)
theorem Wb(a:Str)(b:Int):decide ((qR a:Key)=qQ b)=false:=decide_eq_false (λq=>nomatch q)
noncomputable def Nc(prog:Program)(w:World):PySem.KeyKind prog w Key where
 is:=Nb
 hash:=V7 w
 inj:=λv a b ha hb=>by
  rcases kR ha with⟨i,t,rfl,rfl⟩ | ⟨x,t,rfl,rfl⟩
  ·rcases kR hb with⟨j,u,rfl,e⟩ | ⟨y,u,rfl,e⟩
   ·injection e with e1 _;rw[e1]
   ·exact nomatch e
  ·rcases kR hb with⟨j,u,rfl,e⟩ | ⟨y,u,rfl,e⟩
   ·exact nomatch e
   ·injection e with e1 _;rw[e1]
 byValue:=λk v h=>by
  rcases kR h with⟨i,t,rfl,rfl⟩ | ⟨x,t,rfl,rfl⟩<;>rfl
 pyHash:=λhv h=>by
  rcases kR hv with⟨i,t,rfl,rfl⟩ | ⟨x,t,rfl,rfl⟩
  ·exact wpAny_pyHash_int h
  ·exact wpAny_pyHash_str h
 eqBool:=λhu hv h=>by
  rcases kR hu with⟨i,t,rfl,rfl⟩ | ⟨x,t,rfl,rfl⟩
  ·rcases kR hv with⟨j,u,rfl,rfl⟩ | ⟨y,u,rfl,rfl⟩
   ·rw[V8]at h;exact wpAny_eqBool_int h
   ·rw[Wa]at h;exact SeqAt.EqAt.int_str i t y u _ _ _ _ h
  ·rcases kR hv with⟨j,u,rfl,rfl⟩ | ⟨y,u,rfl,rfl⟩
   ·rw[Wb]at h;exact SeqAt.EqAt.str_int x t j u _ _ _ _ h
   ·rw[V9]at h;exact wpAny_eqBool_str h
 «strs»:=λk x t v h=>by
  rcases kR h with⟨i,u,rfl,e⟩ | ⟨y,u,rfl,e⟩
  ·exact nomatch e
  ·injection e with e1 _
   subst e1
   cases v<;>rfl
end L2
namespace L2
open PySem PySem.Spec PyProof.Rows
inductive V where
 | ao | bl (b:Bool) | int (i:Int) | str (x:Str) | jT (b:Array UInt8) | om (b:UInt64) | ref (a:Addr) | ty (n:String)
 deriving DecidableEq
noncomputable def RelV:V->Value->Prop
 | .ao,u=>u=iq
 | .bl b,u=>u=C9 b
 | .int i,u=>∃t,u=fG i t
 | .str x,u=>∃t,u=Value.str x t
 | .jT b,u=>∃t,u=Value.bytes b t
 | .om b,u=>∃t,u=Value.float b t
 | .ref a,u=>u=dg a
 | .ty n,u=>u=iZ n
noncomputable abbrev Vals:List V->List Value->Prop:=Paired RelV
theorem Vals.length{xs:List V}{us:List Value}(r:Vals xs us):xs.length=us.length:=Paired.length r
theorem Vals.get:∀{xs:List V} {us:List Value} {i:Nat} {x:V},Vals xs us->xs[i]?=some x->∃u,us[i]?=some u/\RelV x u
 | _,_,_,_,.nil,e=>by simp at e
 | _,_,0,_,.cons r _,e=>by simp at e;subst e;exact⟨_,rfl,r⟩
 | _,_,i+1,x,.cons _ t,e=>by
  obtain⟨u,h1,h2⟩:=Vals.get (i:=i) (x:=x) t (by simpa using e)
  exact⟨u,by simpa using h1,h2⟩
theorem Vals.set{x:V}{u:Value}(r:RelV x u):∀{xs:List V} {us:List Value} (i:Nat),Vals xs us->Vals (xs.set i x) (us.set i u)
 | _,_,_,.nil=>.nil
 | _,_,0,.cons _ t=>.cons r t
 | _,_,i+1,.cons q t=>.cons q (Vals.set r i t)
theorem Vals.append:∀{xs ys:List V} {us ws:List Value},Vals xs us->Vals ys ws->Vals (xs++ys) (us++ws)
 | _,_,_,_,.nil,s=>s
 | _,_,_,_,.cons r t,s=>.cons r (Vals.append t s)
theorem Vals.take:∀{xs:List V} {us:List Value} (n:Nat),Vals xs us->Vals (xs.take n) (us.take n)
 | _,_,0,_=>.nil
 | _,_,_+1,.nil=>.nil
 | _,_,n+1,.cons r t=>.cons r (Vals.take n t)
theorem Vals.drop:∀{xs:List V} {us:List Value} (n:Nat),Vals xs us->Vals (xs.drop n) (us.drop n)
 | _,_,0,r=>r
 | _,_,_+1,.nil=>.nil
 | _,_,n+1,.cons _ t=>Vals.drop n t
theorem Vals.none_of:∀{xs:List V} {us:List Value} {i:Nat},Vals xs us->xs[i]?=none->us[i]?=none:=λ{xs us i} r e=>by
 have h1:=r.length
 have h2:xs.length<=i:=Mz.mp e
 exact Mz.mpr (by omega)
noncomputable def jU:Option V->Option Value->Prop
 | some v,some u=>RelV v u
 | none,none=>True
 | _,_=>False
noncomputable def KV{κ:Type}:List (κ × V)->List (κ × Value)->Prop:=Paired λ(p:κ × V) (q:κ × Value)=>p.1=q.1/\RelV p.2 q.2
noncomputable def kV:Key->V
 | .inl i=>.int i
 | .inr x=>.str x
inductive HO where
 | lst (xs:List V)
 | tup (xs:List V)
 | dK (cT:List (Key × V)) | dT (cT:List (List Key × V))
 | set (S:Int->Bool) (n:Nat)
 | ins (C dx:Addr) (fs:List (Str × V))
 | own (x:Addr)
 | xd (fs:List (Str × V))
 | met (f x:Addr)
 | wk (lo hi:Int)
 | bO (o:Obj) (u:HO)
 | cR (ps:Array Value)
 | ext (φ:Heap->Prop)
noncomputable abbrev Hp:=Addr->Option HO
noncomputable def upd(H:Hp)(a:Addr)(o:HO):Hp:=λb=>if b=a then some o else H b
theorem bV{H:Hp}{a:Addr}{o:HO}:upd H a o a=some o:=by unfold upd;rw[if_pos rfl]
theorem aN{H:Hp}{a b:Addr}{o:HO}(h:b≠a):upd H a o b=H b:=by unfold upd;rw[if_neg h]
theorem dN{H:Hp}{a b:Addr}{o:HO}(h:H a=some o)(h':H b=none):a≠b:=by
 intro e;subst e;rw[h]at h';cases h'
section
variable(P:Program)(w:World)
noncomputable def cM(H:Hp)(h:Heap)(a:Addr):HO->Prop
 | .lst xs=>xs.length<=sizeLine/\∃(its:List Value) (n:Nat),Vals xs its/\h.get? a=some { cls:=.type "list",data:=.seq its.toArray n }
 | .tup xs=>xs.length<=sizeLine/\∃its:List Value,Vals xs its/\IsTup h a its.toArray
 | .dK cT=>cT.length<=sizeLine/\(a==sysModules)=false/\∃vs,KV cT vs/\h.DictOf (Nc P w) a vs
 | .dT cT=>cT.length<=sizeLine/\(a==sysModules)=false/\∃xs:List (List Key × Addr × Value),
   Paired (λ(p:List Key × V) (q:List Key × Addr × Value)=>p.1=q.1/\H q.2.1=some (.tup (p.1.map kV))/\RelV p.2 q.2.2) cT xs /\
   ∃o es ep,h.get? a=some o/\o.ExactDict/\o.data=.dict es ep/\es.toList=xs.map (entryOfKey (tupleKind (Nc P w)))/\(xs.map (·.1)).Nodup
 | .set S n=>h.SetOf (intKind P w) a S n
 | .ins C dx fs=>H dx=some (.own a)/\fs.length<=1000/\dx≠a/\h.get? a=some (PySem.W.instObj C dx) /\
   ∃mA,h.Ns1 dx mA/\(∀f,jU (fs.lookup f) (mA f))/\PySem.Within mA (fs.map (·.1))
 | .own _=>∃o,h.get? a=some o
 | .xd fs=>∃mA,h.Ns1 a mA/\∀f,jU (fs.lookup f) (mA f)
 | .wk lo hi=>∃t u v,h.get? a=some { cls:=.type "range",data:=.fields #[.int lo t,.int hi u,.int 1 v] }
 | .bO o u=>h.get? a=some o/\cM H h a u
 | .cR ps=>h.get? a=some { cls:=.none,data:=.fields ps }/\TriplesOk ps.toList/\∀pos cv,codeAmong pos ps.toList=some cv->∃c φ,cv=.ref c/\H c=some (.ext φ)/\∀h',φ h'->∃q,h'.CodeRec (.ref c) q
 | .met f x=>h.get? a=some (PySem.W.methodObj (.ref f) (.ref x))
 | .ext φ=>φ h/\(∃o,h.get? a=some o)/\∀h1 h2:Heap,φ h1->(∀b o,(b=a\/H b=some (.own a))->h1.get? b=some o->h2.get? b=some o)->φ h2
noncomputable def cn(H:Hp)(h:Heap):Prop:=∀a o,H a=some o->cM P w H h a o
end
section
variable{P:Program}{w:World}{H H':Hp}{h h':Heap}{a:Addr}{o:HO}
theorem cM.lt(x:cM P w H h a o):a<h.objs.size:=by
 cases o with
 | lst xs=>obtain⟨_,_,_,_,e⟩:=x;exact aS e
 | tup xs=>obtain⟨_,_,_,p⟩:=x;exact p.lt
 | dK cT=>obtain⟨_,_,_,_,o,_,_,e,_⟩:=x;exact aS e
 | dT cT=>obtain⟨_,_,_,_,o,_,_,e,_⟩:=x;exact aS e
 | set S n=>obtain⟨o,_,_,_,e,_⟩:=x;exact aS e
 | ins C dx fs=>obtain⟨_,_,_,e,_⟩:=x;exact aS e
 | own y=>obtain⟨_,e⟩:=x;exact aS e
 | xd fs=>obtain⟨_,⟨_,_,_,e,_⟩,_⟩:=x;exact aS e
 | wk lo hi=>obtain⟨_,_,_,e⟩:=x;exact aS e
 | bO ob u=>obtain⟨e,_⟩:=x;exact aS e
 | cR ps=>exact aS (show h.get? a=some _ from x.1)
 | met f y=>exact aS (show h.get? a=some _ from x)
 | ext φ=>obtain⟨_,⟨_,e⟩,_⟩:=x;exact aS e
theorem Paired.DU{α β:Type}{F G:α->β->Prop}:∀{l₁:List α} {l₂:List β},Paired F l₁ l₂->(∀a b,F a b->G a b)->Paired G l₁ l₂
 | _,_,.nil,_=>.nil
 | _,_,.cons r t,f=>.cons (f _ _ r) (Paired.DU t f)
theorem cM.gZ(x:cM P w H h a o)(k:∀b u,(b=a\/H b=some (.own a))->h.get? b=some u->h'.get? b=some u)
  (ho:∀b,H b=some (.own a)->H' b=some (.own a)) (ht:∀b xs,H b=some (.tup xs)->H' b=some (.tup xs)) (hx:∀b φ,H b=some (.ext φ)->H' b=some (.ext φ)):cM P w H' h' a o:=by
 induction o with
 | lst xs=>obtain⟨z,its,n,r,e⟩:=x;exact⟨z,its,n,r,k _ _ (.inl rfl) e⟩
 | tup xs=>obtain⟨z,its,r,ob,e,c⟩:=x;exact⟨z,its,r,ob,k _ _ (.inl rfl) e,c⟩
 | dK cT=>obtain⟨z,y,vs,r,ob,es,ep,e,c⟩:=x;exact⟨z,y,vs,r,ob,es,ep,k _ _ (.inl rfl) e,c⟩
 | dT cT =>
  obtain⟨z,y,xs,r,ob,es,ep,e,c⟩:=x
  exact⟨z,y,xs,Paired.DU r λp q z=>⟨z.1,ht _ _ z.2.1,z.2.2⟩,ob,es,ep,k _ _ (.inl rfl) e,c⟩
 | set S n=>obtain⟨ob,es,ep,t,e,c⟩:=x;exact⟨ob,es,ep,t,k _ _ (.inl rfl) e,c⟩
 | ins C dx fs =>
  obtain⟨d,z,ne,e,mA,⟨od,es,ep,e2,c⟩,r⟩:=x
  exact⟨ho _ d,z,ne,k _ _ (.inl rfl) e,mA,⟨od,es,ep,k _ _ (.inr d) e2,c⟩,r⟩
 | own y=>obtain⟨ob,e⟩:=x;exact⟨ob,k _ _ (.inl rfl) e⟩
 | xd fs=>obtain⟨mA,⟨od,es,ep,e,c⟩,r⟩:=x;exact⟨mA,⟨od,es,ep,k _ _ (.inl rfl) e,c⟩,r⟩
 | wk lo hi=>obtain⟨t,u,v,e⟩:=x;exact⟨t,u,v,k _ _ (.inl rfl) e⟩
 | bO ob u ih=>obtain⟨e,q⟩:=x;exact⟨k _ _ (.inl rfl) e,ih q⟩
 | cR ps =>
  obtain⟨e,t,c⟩:=x
  refine⟨k a _ (.inl rfl) e,t,λpos cv q=>?_⟩
  obtain⟨d,φ,e1,e2,e3⟩:=c pos cv q
  exact⟨d,φ,e1,hx _ _ e2,e3⟩
 | met f y =>
  have e:h.get? a=some (PySem.W.methodObj (.ref f) (.ref y)):=x
  show h'.get? a=some (PySem.W.methodObj (.ref f) (.ref y))
  exact k a _ (.inl rfl) e
 | ext φ=>obtain⟨p,⟨o,e⟩,st⟩:=x;exact⟨st _ _ p λb o hb q=>k _ _ hb q,⟨o,k _ _ (.inl rfl) e⟩,λh1 h2 p1 kk=>st h1 h2 p1 λb o hb q=>kk b o (hb.imp id (ho b)) q⟩
theorem cn.lt(x:cn P w H h)(e:H a=some o):a<h.objs.size:=(x a o e).lt
theorem cn.fresh(x:cn P w H h)(e:h.objs.size<=a):H a=none:=by
 cases q:H a with
 | none=>rfl
 | some u=>exact absurd (cI (x.lt q) e) (gQ _)
theorem cn.kept(x:cn P w H h)(k:∀b u,h.get? b=some u->h'.get? b=some u):cn P w H h':=λa o e =>
 (x a o e).gZ (λb u _ q=>k b u q) (λ_ q=>q) (λ_ _ q=>q) λ_ _ q=>q
theorem cn.laid(x:cn P w H h)(k:∀b u,h.get? b=some u->h'.get? b=some u)(hp:h.objs.size<=a)(new:cM P w (upd H a o) h' a o):cn P w (upd H a o) h':=λb u e=>by
 have hn:=x.fresh hp
 by_cases hb:b=a
 ·subst hb;rw[bV]at e;cases e;exact new
 ·rw[aN hb]at e
  exact(x b u e).gZ (λc v _ q=>k c v q) (λc q=>by rw[aN (dN q hn)];exact q) (λc xs q=>by rw[aN (dN q hn)];exact q) λc xs q=>by rw[aN (dN q hn)];exact q
end
noncomputable def Rd(H:Hp)(a:Addr)(u:HO):Prop:=H a=some u\/∃o,H a=some (.bO o u)
theorem Rd.of{H:Hp}{a:Addr}{u:HO}(h:H a=some u):Rd H a u:=.inl h
theorem Rd.ok{P:Program}{w:World}{H:Hp}{h:Heap}{a:Addr}{u:HO}(r:Rd H a u)(x:cn P w H h):cM P w H h a u:=by
 rcases r with r | ⟨o,r⟩
 ·exact x a u r
 ·obtain⟨_,q⟩:=x a _ r
  exact q
noncomputable def zS:Option HO->Prop
 | some (.lst _)=>True
 | some (.dK _)=>True
 | some (.dT _)=>True
 | some (.set _ _)=>True
 | some (.ins _ _ _)=>True
 | _=>False
section
variable{P:Program}{w:World}{H:Hp}{h h':Heap}{x e:Addr}{o':HO}
theorem cn.write(ok:cn P w H h)(mu:zS (H x))(he:e=x\/H e=some (.own x))(k:∀b u,b≠e->h.get? b=some u->h'.get? b=some u)(rq:∃u,h'.get? e=some u)
  (new:cM P w (upd H x o') h' x o'):cn P w (upd H x o') h':=λb u q=>by
 have Nd:∀c y,H c=some (.own y)->c≠x:=λc y r z=>by subst z;rw[r]at mu;exact mu
 have Wc:∀c xs,H c=some (.tup xs)->c≠x:=λc xs r z=>by subst z;rw[r]at mu;exact mu
 by_cases hb:b=x
 ·subst hb;rw[bV]at q;cases q;exact new
 ·rw[aN hb]at q
  by_cases oo:b=e
  ·have q':H b=some (.own x):=by
    rcases he with z | z
    ·exact absurd (oo.trans z) hb
    ·rw[oo];exact z
   rw[q]at q';cases q'
   obtain⟨v,hv⟩:=rq
   exact⟨v,by rw[oo];exact hv⟩
  ·refine(ok b u q).gZ (λc v hc r=>k c v ?_ r) (λc r=>by rw[aN (Nd c b r)];exact r) (λc xs r=>by rw[aN (Wc c xs r)];exact r) λc φ r=>by rw[aN (λz=>by rw[z]at r;rw[r]at mu;exact mu)];exact r
   rcases hc with rfl | hc
   ·exact oo
   ·rintro rfl
    rcases he with z | z
    ·exact Nd c b hc z
    ·rw[hc]at z;cases z;exact hb rfl
end
structure Un(fs ex:List Addr)(H H':Hp)(h h':Heap):Prop where
 keep:∀b o,h.get? b=some o->H b=none->b ∉ fs->b ∉ ex->h'.get? b=some o
 slot:∀b o,h.get? b=some o->H b=none->b∈fs->b ∉ ex->∃sl,h'.get? b=some { o with slots:=sl }
 free:∀b o,h.get? b=some o->H b=none->b ∉ ex->H' b=none
 there:∀b o,h.get? b=some o->b ∉ ex->∃o',h'.get? b=some o'
 eY:∀b xs,H b=some (.tup xs)->H' b=some (.tup xs)
 eK:∀b o u,H b=some (.bO o u)->H' b=some (.bO o u)
 dY:∀b ps,H b=some (.cR ps)->∃more,H' b=some (.cR (ps++more))
section
variable{fs DV ex Nf:List Addr}{H H1 H2:Hp}{h h1 h2 h':Heap}{a x e:Addr}{o:HO}
theorem Un.any(u:Un fs ex H H1 h h1){b:Addr}{ob:Obj}(q:h.get? b=some ob)(n:H b=none)(hx:b ∉ ex):∃sl,h1.get? b=some { ob with slots:=sl }:=by
 by_cases hb:b∈fs
 ·exact u.slot b ob q n hb hx
 ·exact⟨ob.slots,u.keep b ob q n hb hx⟩
theorem Un.trans(a:Un fs ex H H1 h h1)(b:Un fs ex H1 H2 h1 h2):Un fs ex H H2 h h2 where
 keep:=λc ob q n hc hx=>b.keep c ob (a.keep c ob q n hc hx) (a.free c ob q n hx) hc hx
 slot:=λc ob q n hc hx=>by
  obtain⟨sl,e1⟩:=a.slot c ob q n hc hx
  obtain⟨oq,e2⟩:=b.slot c _ e1 (a.free c ob q n hx) hc hx
  exact⟨oq,e2⟩
 free:=λc ob q n hx=>by
  obtain⟨o',e1⟩:=a.there c ob q hx
  exact b.free c o' e1 (a.free c ob q n hx) hx
 there:=λc ob q hx=>by
  obtain⟨o',e1⟩:=a.there c ob q hx
  exact b.there c o' e1 hx
 eY:=λc xs q=>b.eY c xs (a.eY c xs q)
 eK:=λc ob xs q=>b.eK c ob xs (a.eK c ob xs q)
 dY:=λc ps q=>by
  obtain⟨m1,e1⟩:=a.dY c ps q
  obtain⟨m2,e2⟩:=b.dY c _ e1
  exact⟨m1++m2,by rw[e2,vQ]⟩
theorem Un.kept(k:∀b u,h.get? b=some u->h'.get? b=some u):Un fs ex H H h h' :=
 ⟨λb ob q _ _ _=>k b ob q,λb ob q _ _ _=>⟨ob.slots,k b ob q⟩,λ_ _ _ n _=>n,λb ob q _=>⟨ob,k b ob q⟩,λ_ _ q=>q,λ_ _ _ q=>q,λ_ ps q=>⟨#[],by rw[q];simp⟩⟩
theorem Un.refl:Un fs ex H H h h:=Un.kept λ_ _ q=>q
theorem Un.laid(k:∀b u,h.get? b=some u->h'.get? b=some u)(hp:h.objs.size<=a)(hn:H a=none):Un fs ex H (upd H a o) h h' where
 keep:=λb u q _ _ _=>k b u q
 slot:=λb u q _ _ _=>⟨u.slots,k b u q⟩
 free:=λb u q n _=>by rw[aN (cy (cI (aS q) hp))];exact n
 there:=λb u q _=>⟨u,k b u q⟩
 eY:=λb xs q=>by rw[aN (dN q hn)];exact q
 eK:=λb u xs q=>by rw[aN (dN q hn)];exact q
 dY:=λb ps q=>⟨#[],by rw[aN (dN q hn),q];simp⟩
theorem Un.write(mu:zS (H x))(he:e=x\/H e=some (.own x))(k:∀b u,b≠e->h.get? b=some u->h'.get? b=some u)(rq:∃u,h'.get? e=some u):Un fs ex H (upd H x o) h h':=by
 have hx:∀b,H b=none->b≠x:=λb n z=>by subst z;rw[n]at mu;exact mu
 have hb:∀b,H b=none->b≠e:=λb n z=>by
  subst z
  rcases he with r | r
  ·exact hx b n r
  ·rw[n]at r;cases r
 have hm:∀b u,H b=some u->¬ zS (some u)->b≠x:=λb u q nm z=>by subst z;rw[q]at mu;exact nm mu
 refine⟨λb u q n _ _=>k b u (hb b n) q,λb u q n _ _=>⟨u.slots,k b u (hb b n) q⟩,λb u q n _=>by rw[aN (hx b n)];exact n,λb u q _=>?_,
  λb xs q=>by rw[aN (hm b _ q λz=>z)];exact q,λb u xs q=>by rw[aN (hm b _ q λz=>z)];exact q,λb ps q=>⟨#[],by rw[aN (hm b _ q λz=>z),q];simp⟩⟩
 by_cases oo:b=e
 ·subst oo;exact rq
 ·exact⟨u,k b u oo q⟩
theorem Un.mono(u:Un fs ex H H1 h h1)(hs:∀b∈fs,b∈DV)(hx:∀b∈ex,b∈Nf):Un DV Nf H H1 h h1 :=
 ⟨λb ob q n hb he=>u.keep b ob q n (λz=>hb (hs b z)) λz=>he (hx b z),λ_ _ q n _ he=>u.any q n λz=>he (hx _ z),λb ob q n he=>u.free b ob q n λz=>he (hx b z),λb ob q he=>u.there b ob q λz=>he (hx b z),u.eY,u.eK,u.dY⟩
end
noncomputable def zT(h:Heap)(H:Hp):List Addr:=(aV h.objs.size).filter λa=>(H a).isSome
noncomputable def jV(h:Heap)(H:Hp):Heap:=PySem.W.hideAll h (zT h H)
theorem Wd(h:Heap)(H:Hp):(jV h H).objs.size=h.objs.size:=PySem.W.hideAll_size _ _
theorem We{h:Heap}{H:Hp}{b:Addr}{o:Obj}(e:h.get? b=some o)(n:H b=none):(jV h H).get? b=some o :=
 PySem.W.hideAll_get _ e λhm=>by
  have q:(H b).isSome=true:=(Dc.mp hm).2
  rw[n]at q;simp at q
theorem Wf{h:Heap}{H:Hp}{b:Addr}{o:Obj}(e:(jV h H).get? b=some o):h.get? b=some o/\H b=none:=by
 have e':h.get? b=some o:=PySem.W.of_hideAll (zT h H) e
 refine⟨e',?_⟩
 cases q:H b with
 | none=>rfl
 | some x =>
  have hm:b∈zT h H:=Dc.mpr ⟨gR.mpr (aS e'),by simp[q]⟩
  have z:(jV h H).get? b=none:=PySem.W.hideAll_none (zT h H) hm
  rw[z]at e;cases e
noncomputable def Wg(g h:Heap)(L:Addr):List (Addr × Obj):=(aV h.objs.size).filterMap λa=>if a=L\/(g.get? a).isSome=true then none else(h.get? a).map λo=>(a,o)
noncomputable def rest(g h:Heap)(L d:Addr):List (Addr × Obj):=(Wg g h L).filter λp=>decide (p.1≠d)
end L2
namespace L2
open PySem PySem.Spec PyProof.Rows
structure Mod(K:PySem.W.Frag)(mg:Str->Option Value)(base:Heap):Prop where
 jW:K.In base
 glob:base.Ns mainGlobals mg
 blt:∃mb,base.Ns builtinsNs mb/\∀x:Str,x≠"__name__"->mb x=bootBuiltins x
 nolimit:base.NoLimit
structure Cx where
 prog:Program
 w:World
 K:PySem.W.Frag
 mg:Str->Option Value
 base:Heap
 A:Around
 N:List Str
 bZ:Shared
 jm:Hp
 env:Env
 outer:List Env
 stack:List Env
 ex:List Addr
 fn:Str->Bool
 calm:Bool
 pn:List (Addr × Obj)
 xe:Value->Shared->Prop
noncomputable def cU(l:List Env):List Addr:=l.filterMap (·.frame)
noncomputable abbrev Cx.fs(X:Cx):List Addr:=cU X.outer
noncomputable def jX(sc:Scope)(x:Str):Prop:=sc.names.lookup x=some .local\/sc.names.lookup x=some .cell\/sc.names.lookup x=some .free
noncomputable def Loc(sc:Scope)(x:Str):Prop:=sc.names.lookup x=some .local\/sc.names.lookup x=some .cell
noncomputable def Wh(env:Env)(h:Heap)(m:Str->Option Value)(x:Str)(u:Value):Prop :=
 (env.kindOf x=some .local/\m x=some u)\/((env.kindOf x=some .cell\/env.kindOf x=some .free)/\∃c,env.cells.lookup x=some c/\h.IsCell c (some u))
structure Cx.Ok(X:Cx):Prop where
 mod:Mod X.K X.mg X.base
 kind:X.env.scope.kind=.function
 glob:X.env.globals=mainGlobals
 blt:X.env.builtins=builtinsNs
 above:X.bZ.heap.objs.size<=X.env.locals
 inj:∀x y c,X.env.cells.lookup x=some c->X.env.cells.lookup y=some c->x=y
 has:∀x,(X.env.kindOf x=some .cell\/X.env.kindOf x=some .free)->∃c,X.env.cells.lookup x=some c
 kS:∀x c,X.fn x=true->X.env.cells.lookup x=some c->X.bZ.heap.objs.size<=c
 hd:X.calm=true->X.A.handled=none
 frames:X.A.frames=some X.stack
 ou:X.stack=X.outer\/(X.stack=X.env::X.outer/\X.env.frame=some X.env.locals)
 oy:∀b∈X.ex,b≠X.env.locals/\∀x c,X.env.cells.lookup x=some c->c≠b
 bs:∀b o,X.base.get? b=some o->X.bZ.heap.get? b=some o/\X.jm b=none
 fJ:X.base.objs.size<=X.bZ.heap.objs.size
 mY:∀b o,X.base.get? b=some o->b ∉ X.ex
 mZ:∀b∈X.ex,b ∉ X.fs
 eM:X.bZ.heap.FunFrames X.base X.outer
 gn:∀b∈X.fs,X.jm b=none
structure Inv(X:Cx)(pins:List (Addr × Obj))(σ:List (Option V))(H:Hp)(s:Shared):Prop where
 ok:X.Ok
 os:s.os=X.bZ.os
 bare:AllBare s.gens
 base:Un X.fs X.ex X.jm H X.bZ.heap s.heap
 loc:∃m,s.heap.Ns X.env.locals m/\∀(i:Nat) (x:Str) (v:V),X.N[i]?=some x->σ[i]?=some (some v)->jX X.env.scope x->∃u,RelV v u/\Wh X.env s.heap m x u
 cell:∀x c,X.env.cells.lookup x=some c->∃v,s.heap.IsCell c v
 free:H X.env.locals=none
 eC:∀x c,X.env.cells.lookup x=some c->H c=none
 pin:∀p∈X.pn++pins,s.heap.get? p.1=some p.2/\H p.1=none/\p.1≠X.env.locals/\p.1 ∉ X.fs/\∀v,p.2.data≠.cell v
 av:cn X.prog X.w H s.heap
 len:σ.length=X.N.length
section
variable{X:Cx}{pins:List (Addr × Obj)}{σ:List (Option V)}{H H':Hp}{s:Shared}{h':Heap}
theorem Cx.Ok.Wi(ok:X.Ok){b:Addr}{o:Obj}(e:X.base.get? b=some o):b ∉ X.fs:=λhb=>by
 have:=(ok.eM.mem hb).1
 rw[e]at this;cases this
theorem Inv.bs(I:Inv X pins σ H s):∀b o,X.base.get? b=some o->s.heap.get? b=some o/\H b=none:=λb o e =>
 ⟨I.base.keep b o (I.ok.bs b o e).1 (I.ok.bs b o e).2 (I.ok.Wi e) (I.ok.mY b o e),I.base.free b o (I.ok.bs b o e).1 (I.ok.bs b o e).2 (I.ok.mY b o e)⟩
theorem Inv.bk(I:Inv X pins σ H s):∀b o,X.base.get? b=some o->s.heap.get? b=some o:=λb o e=>(I.bs b o e).1
theorem Inv.mod(I:Inv X pins σ H s):Mod X.K X.mg X.base:=I.ok.mod
theorem Inv.cB(I:Inv X pins σ H s):X.K.In s.heap:=I.ok.mod.jW.keeps I.bk
theorem Inv.nolimit(I:Inv X pins σ H s):s.heap.NoLimit:=I.ok.mod.nolimit.keeps I.bk
theorem Inv.fr(I:Inv X pins σ H s):∃m,Fr X.base X.env.locals s.heap m :=
 let⟨m,hn,_⟩:=I.loc
 ⟨m,hn,I.bk,eu I.ok.fJ I.ok.above⟩
theorem Inv.lt(I:Inv X pins σ H s):X.env.locals<s.heap.objs.size:=let⟨_,hn,_⟩:=I.loc;hn.lt
theorem Inv.sz(I:Inv X pins σ H s):X.bZ.heap.objs.size<=s.heap.objs.size:=eu I.ok.above (zc I.lt)
theorem Inv.Ng(I:Inv X pins σ H s){a:Addr}(h:s.heap.objs.size<=a):a ∉ X.fs:=λhb=>by
 obtain⟨_,o,ho,_⟩:=I.ok.eM.mem hb
 exact absurd (cI (aS ho) (eu I.sz h)) (gQ _)
theorem Inv.i7(I:Inv X pins σ H s):∀x c,X.env.cells.lookup x=some c->c≠X.env.locals:=λx c e z=>by
 obtain⟨v,o,ho,hd⟩:=I.cell x c e
 obtain⟨m,⟨o',es,ep,jn,wm,_⟩,_⟩:=I.loc
 rw[z,jn]at ho;cases ho;rw[wm]at hd;cases hd
theorem Inv.eM(I:Inv X pins σ H s):s.heap.FunFrames X.base X.outer:=by
 have all:∀(l:List Env),(∀b∈cU l,b∈X.fs)->X.bZ.heap.FunFrames X.base l->s.heap.FunFrames X.base l:=by
  intro l
  induction l with
  | nil=>intro _ _;trivial
  | cons env r ih =>
   intro hs hl
   obtain⟨hk,⟨L,o,hf,hn,ho,hd⟩,hr⟩:=hl
   have hL:L∈X.fs:=hs L (by unfold cU;rw[qS,hf];exact zd)
   obtain⟨sl,e⟩:=I.base.slot L o ho (I.ok.gn L hL) hL λz=>I.ok.mZ L z hL
   exact⟨hk,⟨L,_,hf,hn,e,hd⟩,ih (λb hb=>hs b (by unfold cU;rw[qS,hf];exact i3 _ hb)) hr⟩
 exact all X.outer (λ_ hb=>hb) I.ok.eM
theorem Inv.stack(I:Inv X pins σ H s):s.heap.FunFrames X.base X.stack:=by
 rcases I.ok.ou with e | ⟨e,hf⟩
 ·rw[e];exact I.eM
 ·rw[e]
  obtain⟨m,hn,_⟩:=I.loc
  refine .cons (by rw[I.ok.kind];decide) hf hn ?_ I.eM
  exact Heap.get?_none_of_le (eu I.ok.fJ I.ok.above)
theorem Inv.wo(I:Inv X pins σ H s):∀b∈cU X.stack,b∈X.env.locals::X.fs:=λb hb=>by
 rcases I.ok.ou with e | ⟨e,hf⟩
 ·rw[e]at hb;exact i3 _ hb
 ·rw[e]at hb
  unfold cU at hb
  rw[qS,hf]at hb
  exact hb
theorem Inv.zU(I:Inv X pins σ H s):∀b∈cU X.stack,H b=none:=λb hb=>by
 rcases bG.mp (I.wo b hb)with e | hb
 ·rw[e];exact I.free
 ·obtain⟨_,o,ho,_⟩:=I.ok.eM.mem hb
  exact I.base.free b o ho (I.ok.gn b hb) λz=>I.ok.mZ b z hb
theorem Inv.step{g':Array GenState}{t':Nat}{d':Drawn}{ch:List Addr}(I:Inv X pins σ H s)
  (jY:∀b∈ch,(b∈X.ex\/X.bZ.heap.objs.size<=b)/\b≠X.env.locals/\(∀x c,X.env.cells.lookup x=some c->c≠b)/\∀p∈X.pn++pins,p.1≠b)
  (keep:∀b o,b≠X.env.locals->b ∉ X.fs->b ∉ ch->s.heap.get? b=some o->H b=none->h'.get? b=some o)
  (slot:∀b o,b≠X.env.locals->b∈X.fs->b ∉ ch->s.heap.get? b=some o->H b=none->∃sl,h'.get? b=some { o with slots:=sl }) (free:∀b o,b ∉ ch->s.heap.get? b=some o->H b=none->H' b=none)
  (there:∀b o,b ∉ ch->s.heap.get? b=some o->∃o',h'.get? b=some o')
  (eY:∀b xs,H b=some (.tup xs)->H' b=some (.tup xs)) (eK:∀b o u,H b=some (.bO o u)->H' b=some (.bO o u)) (dY:∀b ps,H b=some (.cR ps)->∃more,H' b=some (.cR (ps++more)))
  (ns:∀m,s.heap.Ns X.env.locals m->h'.Ns X.env.locals m) (av:cn X.prog X.w H' h') (hg:AllBare g') :
  Inv X pins σ H' { s with heap:=h',gens:=g',drawn:=d',toks:=t' }:=by
 have rz:∀b o,X.bZ.heap.get? b=some o->b≠X.env.locals:=λb o e=>cy (cI (aS e) I.ok.above)
 have oA:∀b o,X.bZ.heap.get? b=some o->b ∉ X.ex->b ∉ ch:=λb o e hx hb=>by
  rcases(jY b hb).1 with z | z
  ·exact hx z
  ·exact absurd (cI (aS e) z) (gQ _)
 have cellK:∀x c,X.env.cells.lookup x=some c->∀v,s.heap.IsCell c v->h'.IsCell c v:=λx c e v ⟨o,ho,hd⟩=>by
  have wq:c ∉ ch:=λz=>(jY c z).2.2.1 x c e rfl
  by_cases hc:c∈X.fs
  ·obtain⟨sl,q⟩:=slot c o (I.i7 x c e) hc wq ho (I.eC x c e)
   exact⟨_,q,hd⟩
  ·exact⟨o,keep c o (I.i7 x c e) hc wq ho (I.eC x c e),hd⟩
 refine⟨I.ok,I.os,hg,⟨λb o e n hb hx=>?_,λb o e n hb hx=>?_,λb o e n hx=>?_,λb o e hx=>?_,λb xs e=>eY b xs (I.base.eY b xs e),λb o xs e=>eK b o xs (I.base.eK b o xs e),λb ps e=>?_⟩,?_,λx c e=>?_,?_,λx c e=>?_,λp hp=>?_,av,I.len⟩
 ·exact keep b o (rz b o e) hb (oA b o e hx) (I.base.keep b o e n hb hx) (I.base.free b o e n hx)
 ·obtain⟨sl,e1⟩:=I.base.slot b o e n hb hx
  obtain⟨oq,e2⟩:=slot b _ (rz b o e) hb (oA b o e hx) e1 (I.base.free b o e n hx)
  exact⟨oq,e2⟩
 ·obtain⟨o',e1⟩:=I.base.there b o e hx
  exact free b o' (oA b o e hx) e1 (I.base.free b o e n hx)
 ·obtain⟨o',e1⟩:=I.base.there b o e hx
  exact there b o' (oA b o e hx) e1
 ·obtain⟨m1,e1⟩:=I.base.dY b ps e
  obtain⟨m2,e2⟩:=dY b _ e1
  exact⟨m1++m2,by rw[e2,vQ]⟩
 ·obtain⟨m,hn,hl⟩:=I.loc
  refine⟨m,ns m hn,λi x v e1 e2 e3=>?_⟩
  obtain⟨u,r,l⟩:=hl i x v e1 e2 e3
  refine⟨u,r,?_⟩
  rcases l with l | ⟨k,c,e,z⟩
  ·exact .inl l
  ·exact .inr ⟨k,c,e,cellK x c e _ z⟩
 ·obtain⟨v,z⟩:=I.cell x c e
  exact⟨v,cellK x c e v z⟩
 ·obtain⟨m,⟨o,_,_,ho,_⟩,_⟩:=I.loc
  exact free _ o (λz=>(jY _ z).2.1 rfl) ho I.free
 ·obtain⟨v,o,ho,hd⟩:=I.cell x c e
  exact free c o (λz=>(jY c z).2.2.1 x c e rfl) ho (I.eC x c e)
 ·obtain⟨e,n,ne,nf,d⟩:=I.pin p hp
  have wq:p.1 ∉ ch:=λz=>(jY p.1 z).2.2.2 p hp rfl
  exact⟨keep p.1 p.2 ne nf wq e n,free p.1 p.2 wq e n,ne,nf,d⟩
theorem Inv.un{t':Nat}(I:Inv X pins σ H s)(u:Un X.fs [] H H' s.heap h')(av:cn X.prog X.w H' h'):Inv X pins σ H' { s with heap:=h',toks:=t' }:=by
 obtain⟨m,⟨o,es,ep,ho,r⟩,_⟩:=id I.loc
 obtain⟨sl,hL⟩:=u.any ho I.free (by simp)
 exact I.step (g':=s.gens) (d':=s.drawn) (ch:=[]) (λ_ z=>nomatch z) (λb o _ hb _ e n=>u.keep b o e n hb (by simp)) (λb o _ hb _ e n=>u.slot b o e n hb (by simp)) (λb o _ e n=>u.free b o e n (by simp)) (λb o _ e=>u.there b o e (by simp)) u.eY u.eK u.dY (λm' hm=>by
  obtain⟨o',DW,DX,jn,r'⟩:=hm
  rw[ho]at jn;cases jn
  exact⟨_,DW,DX,hL,r'⟩) av I.bare
theorem Inv.call{g':Array GenState}{t':Nat}{d':Drawn}{ch:List Addr}(I:Inv X pins σ H s)(u:Un (cU X.stack) ch H H' s.heap h')(av:cn X.prog X.w H' h')(hg:AllBare g')
  (jY:∀b∈ch,(b∈X.ex\/X.bZ.heap.objs.size<=b)/\b≠X.env.locals/\(∀x c,X.env.cells.lookup x=some c->c≠b)/\∀p∈X.pn++pins,p.1≠b) :
  Inv X pins σ H' { s with heap:=h',gens:=g',drawn:=d',toks:=t' }:=by
 obtain⟨m,⟨o,es,ep,ho,r⟩,_⟩:=id I.loc
 obtain⟨sl,hL⟩:=u.any ho I.free λz=>(jY _ z).2.1 rfl
 exact I.step (ch:=ch) jY (λb o hL hb hc e n=>u.keep b o e n (λz=>(bG.mp (I.wo b z)).elim hL hb) hc) (λb o _ _ hc e n=>u.any e n hc) (λb o hc e n=>u.free b o e n hc) (λb o hc e=>u.there b o e hc) u.eY u.eK u.dY (λm' hm=>by
  obtain⟨o',DW,DX,jn,r'⟩:=hm
  rw[ho]at jn;cases jn
  exact⟨_,DW,DX,hL,r'⟩) av hg
theorem Inv.turned{t':Nat}{it:Addr}(I:Inv X pins σ H s)(k:∀b o,b≠it->s.heap.get? b=some o->h'.get? b=some o)(hn:H it=none)(hL:it≠X.env.locals)
  (h1:it∈X.ex\/X.bZ.heap.objs.size<=it) (h2:∀x c,X.env.cells.lookup x=some c->c≠it) (h3:∀p∈X.pn++pins,p.1≠it):Inv X pins σ H { s with heap:=h',toks:=t' }:=by
 have m4:∀b u,H b=some u->b≠it:=λb u e z=>by rw[z,hn]at e;cases e
 refine I.step (g':=s.gens) (d':=s.drawn) (ch:=[it]) (λb hb=>?_) (λb o _ _ hc e _=>k b o (λz=>hc (by simp[z])) e) (λb o _ _ hc e _=>⟨o.slots,k b o (λz=>hc (by simp[z])) e⟩) (λ_ _ _ _ n=>n)
  (λb o hc e=>⟨o,k b o (λz=>hc (by simp[z])) e⟩) (λ_ _ e=>e) (λ_ _ _ e=>e) (λb ps e=>⟨#[],by rw[e];simp⟩) (λm hm=>?_) (λb u e=>?_) I.bare
 ·have e:b=it:=by simpa using hb
  subst e
  exact⟨h1,hL,h2,h3⟩
 ·obtain⟨o,es,ep,ho,r⟩:=hm
  exact⟨o,es,ep,k _ o (dA hL) ho,r⟩
 ·refine(I.av b u e).gZ (λc v hc q=>k c v ?_ q) (λ_ q=>q) (λ_ _ q=>q) λ_ _ q=>q
  rcases hc with z | z
  ·rw[z];exact m4 b u e
  ·exact m4 c _ z
theorem Inv.tok(I:Inv X pins σ H s)(t:Nat):Inv X pins σ H { s with toks:=t }:=I.un (h':=s.heap) (t':=t) Un.refl I.av
theorem Inv.kept{t':Nat}(I:Inv X pins σ H s)(k:∀b u,s.heap.get? b=some u->h'.get? b=some u):Inv X pins σ H { s with heap:=h',toks:=t' }:=I.un (Un.kept k) (I.av.kept k)
theorem Inv.laid{a:Addr}{o:HO}{t':Nat}(I:Inv X pins σ H s)(k:∀b u,s.heap.get? b=some u->h'.get? b=some u)(hp:s.heap.objs.size<=a)(new:cM X.prog X.w (upd H a o) h' a o) :
  Inv X pins σ (upd H a o) { s with heap:=h',toks:=t' }:=I.un (Un.laid k hp (I.av.fresh hp)) (I.av.laid k hp new)
theorem Inv.write{x e:Addr}{o:HO}{t':Nat}(I:Inv X pins σ H s)(mu:zS (H x))(he:e=x\/H e=some (.own x))(k:∀b u,b≠e->s.heap.get? b=some u->h'.get? b=some u)(rq:∃u,h'.get? e=some u)
  (new:cM X.prog X.w (upd H x o) h' x o):Inv X pins σ (upd H x o) { s with heap:=h',toks:=t' }:=I.un (Un.write mu he k rq) (I.av.write mu he k rq new)
theorem Inv.weak{ar:List (Option V)}(I:Inv X pins σ H s)(hl:ar.length=σ.length)(w:∀(i:Nat) v,ar[i]?=some (some v)->σ[i]?=some (some v)):Inv X pins ar H s :=
 ⟨I.ok,I.os,I.bare,I.base,let⟨m,hn,DY⟩:=I.loc;⟨m,hn,λi x v e1 e2 e3=>DY i x v e1 (w i v e2) e3⟩,I.cell,I.free,I.eC,I.pin,I.av,hl.trans I.len⟩
theorem Inv.Nh{rA:List (Addr × Obj)}(I:Inv X pins σ H s)(h:∀p∈rA,s.heap.get? p.1=some p.2/\H p.1=none/\p.1≠X.env.locals/\p.1 ∉ X.fs/\∀v,p.2.data≠.cell v):Inv X rA σ H s :=
 ⟨I.ok,I.os,I.bare,I.base,I.loc,I.cell,I.free,I.eC,λp hp=>(eH.mp hp).elim (λz=>I.pin p (fq _ z)) (h p),I.av,I.len⟩
theorem DZ{N:List Str}(hN:N.Nodup){i j:Nat}{x:Str}(a:N[i]?=some x)(b:N[j]?=some x):i=j:=by
 obtain⟨h1,e1⟩:=gg.mp a
 obtain⟨h2,e2⟩:=gg.mp b
 exact(List.getElem_inj hN).mp (e1.trans e2.symm)
theorem Wj{M:Model}{A:Around}{E:Value->Shared->Prop}{i:Nat}{x:Str}{v:V}{u:Value}{Q:Unit->Shared->Prop}(I:Inv X pins σ H s)(hN:X.N.Nodup)(hi:X.N[i]?=some x)(hx:Loc X.env.scope x)(r:RelV v u)
  (h:∀s',Inv X pins (σ.set i (some v)) H s'->(∃a,nY a s.heap s'.heap/\(a=X.env.locals\/X.env.cells.lookup x=some a))->Q () s') (hf:X.fn x=true\/X.env.scope.names.lookup x=some .local:=by first | exact .inl rfl | exact .inr rfl | assumption):wpAny M A (storeName X.env x u) Q E s:=by
 obtain⟨m,hn,hl⟩:=id I.loc
 have Wk:(X.env.scope.kind==.class||(X.env.scope.kind==.module&&X.env.locals != X.env.globals))=false:=by rw[I.ok.kind];rfl
 have Ni:i<σ.length:=by rw[I.len];exact(gg.mp hi).1
 have i7:=I.i7
 have tracked:∀{a:Addr} {h':Heap},(∃o,s.heap.get? a=some o/\H a=none)->nY a s.heap h'->cn X.prog X.w H h':=λ{a h'} ha hs b ob e=>by
  obtain⟨_,_,Nj⟩:=ha
  refine(I.av b ob e).gZ (λc w' hc q=>(hs.2 c ?_).trans q) (λ_ q=>q) (λ_ _ q=>q) λ_ _ q=>q
  rintro rfl
  rcases hc with rfl | hc
  ·rw[Nj]at e;cases e
  ·rw[Nj]at hc;cases hc
 rcases hx with hk | hk
 ·refine wpAny_storeName_local hk hn (λh' oB hs=>?_) Wk
  obtain⟨oL,_,_,rB,_⟩:=id hn
  refine h _ ⟨I.ok,I.os,I.bare,⟨λb o e n hb hx=>?_,λb o e n hb hx=>?_,I.base.free,λb o e hx=>?_,I.base.eY,I.base.eK,I.base.dY⟩,⟨_,oB,λj y v' e1 e2 e3=>?_⟩,λy c e=>?_,I.free,I.eC,λp hp=>?_,tracked ⟨oL,rB,I.free⟩ hs,by simpa using I.len⟩ ⟨_,hs,.inl rfl⟩
  ·exact(hs.2 b (cy (cI (aS e) I.ok.above))).trans (I.base.keep b o e n hb hx)
  ·obtain⟨sl,e1⟩:=I.base.slot b o e n hb hx
   exact⟨sl,(hs.2 b (cy (cI (aS e) I.ok.above))).trans e1⟩
  ·obtain⟨o',e1⟩:=I.base.there b o e hx
   exact⟨o',(hs.2 b (cy (cI (aS e) I.ok.above))).trans e1⟩
  ·by_cases hj:j=i
   ·subst hj
    rw[hi]at e1;cases e1
    rw[MA Ni]at e2
    cases e2
    exact⟨u,r,.inl ⟨hk,by simp⟩⟩
   ·rw[nZ (dA hj)]at e2
    obtain⟨u',r',q⟩:=hl j y v' e1 e2 e3
    refine⟨u',r',?_⟩
    rcases q with⟨k,e⟩ | ⟨k,c,e,z⟩
    ·refine .inl ⟨k,?_⟩
     have:y≠x:=λe=>hj (DZ hN e1 (e ▸ hi))
     simp[this,e]
    ·exact .inr ⟨k,c,e,z.sameBut hs (i7 y c e)⟩
  ·obtain⟨w',z⟩:=I.cell y c e
   exact⟨w',z.sameBut hs (i7 y c e)⟩
  ·obtain⟨e,n,ne,nf,d⟩:=I.pin p hp
   exact⟨(hs.2 p.1 ne).trans e,n,ne,nf,d⟩
 ·have wt:X.fn x=true:=by
   rcases hf with z | z
   ·exact z
   ·rw[z]at hk;cases hk
  obtain⟨c,hc⟩:=I.ok.has x (.inl hk)
  obtain⟨w',z⟩:=I.cell x c hc
  refine wpAny_storeName_cell I.ok.kind hk hc z (λh' wu hs=>?_)
  obtain⟨oc,g5,Wl⟩:=id z
  refine h { s with heap:=h' } ⟨I.ok,I.os,I.bare,⟨λb o e n hb hx=>?_,λb o e n hb hx=>?_,I.base.free,λb o e hx=>?_,I.base.eY,I.base.eK,I.base.dY⟩,⟨m,hn.sameBut hs (dA (i7 x c hc)),λj y v' e1 e2 e3=>?_⟩,λy c' e=>?_,I.free,I.eC,λp hp=>?_,tracked ⟨oc,g5,I.eC x c hc⟩ hs,by simpa using I.len⟩ ⟨c,hs,.inr hc⟩
  ·exact(hs.2 b (cy (cI (aS e) (I.ok.kS x c wt hc)))).trans (I.base.keep b o e n hb hx)
  ·obtain⟨sl,e1⟩:=I.base.slot b o e n hb hx
   exact⟨sl,(hs.2 b (cy (cI (aS e) (I.ok.kS x c wt hc)))).trans e1⟩
  ·obtain⟨o',e1⟩:=I.base.there b o e hx
   exact⟨o',(hs.2 b (cy (cI (aS e) (I.ok.kS x c wt hc)))).trans e1⟩
  ·by_cases hj:j=i
   ·subst hj
    rw[hi]at e1;cases e1
    rw[MA Ni]at e2
    cases e2
    exact⟨u,r,.inr ⟨.inl hk,c,hc,wu⟩⟩
   ·rw[nZ (dA hj)]at e2
    obtain⟨u',r',q⟩:=hl j y v' e1 e2 e3
    refine⟨u',r',?_⟩
    rcases q with q | ⟨k,c',e,z'⟩
    ·exact .inl q
    ·refine .inr ⟨k,c',e,z'.sameBut hs ?_⟩
     rintro rfl
     exact hj (DZ hN e1 (I.ok.inj _ _ _ e hc ▸ hi))
  ·by_cases Nk:c'=c
   ·subst Nk;exact⟨_,wu⟩
   ·obtain⟨w2,z2⟩:=I.cell y c' e
    exact⟨w2,z2.sameBut hs Nk⟩
  ·obtain⟨e,n,ne,nf,d⟩:=I.pin p hp
   refine⟨(hs.2 p.1 ?_).trans e,n,ne,nf,d⟩
   intro q
   rw[q,g5]at e
   have q':oc=p.2:=cP e
   exact d w' (by rw[<-q'];exact Wl)
theorem wz{M:Model}{A:Around}{E:Value->Shared->Prop}{i:Nat}{x:Str}{v:V}{u:Value}{Q:Unit->Shared->Prop}(I:Inv X pins σ H s)(hN:X.N.Nodup)(hi:X.N[i]?=some x)(hx:Loc X.env.scope x)(r:RelV v u)
  (h:∀s',Inv X pins (σ.set i (some v)) H s'->Q () s') (hf:X.fn x=true\/X.env.scope.names.lookup x=some .local:=by first | exact .inl rfl | exact .inr rfl | assumption):wpAny M A (storeName X.env x u) Q E s :=
 Wj I hN hi hx r (λs' I' _=>h s' I') hf
theorem Inv.Nl{s':Shared}{ch:List Addr}(I:Inv X pins σ H s)(ho:s'.os=s.os)(u:Un (cU X.stack) ch H H' s.heap s'.heap)(av:cn X.prog X.w H' s'.heap)(hg:AllBare s'.gens)
  (jY:∀b∈ch,(b∈X.ex\/X.bZ.heap.objs.size<=b)/\b≠X.env.locals/\(∀x c,X.env.cells.lookup x=some c->c≠b)/\∀p∈X.pn++pins,p.1≠b):Inv X pins σ H' s':=by
 obtain⟨h',g',d',t',o'⟩:=s'
 have e:o'=s.os:=ho
 subst e
 exact I.call (g':=g') (t':=t') (d':=d') u av hg jY
end
noncomputable abbrev XK:=Value->Option Addr->Hp->Prop
noncomputable abbrev St:=List (Option V)
noncomputable abbrev VK:=V->Hp->Prop
noncomputable abbrev TE:=St->Hp->VK->Prop
noncomputable abbrev TT:=St->Hp->(Bool->Hp->Prop)->Prop
noncomputable abbrev TA:=St->Hp->(List V->Hp->Prop)->Prop
structure Ends where
 nx:St->Hp->Prop
 rt:VK
 bk:St->Hp->Prop:=λ_ _=>False
 ct:St->Hp->Prop:=λ_ _=>False
noncomputable abbrev TS:=Ends->St->Hp->Prop
noncomputable def EP(X:Cx)(pins:List (Addr × Obj))(σ:St)(Q:VK)(u:Value)(s':Shared):Prop:=∃v H',Inv X pins σ H' s'/\RelV v u/\Q v H'
noncomputable def TP(X:Cx)(pins:List (Addr × Obj))(σ:St)(Q:Bool->Hp->Prop)(b:Bool)(s':Shared):Prop:=∃H',Inv X pins σ H' s'/\Q b H'
noncomputable def AP(X:Cx)(pins:List (Addr × Obj))(σ:St)(Q:List V->Hp->Prop)(us:List Value)(s':Shared):Prop:=∃vs H',Inv X pins σ H' s'/\Vals vs us/\Q vs H'
noncomputable def SP(X:Cx)(pins:List (Addr × Obj))(D:Ends)(f:Flow)(s':Shared):Prop :=
 match f with
 | .next=>∃ar H',Inv X pins ar H' s'/\D.nx ar H'
 | .brk=>∃ar H',Inv X pins ar H' s'/\D.bk ar H'
 | .cont=>∃ar H',Inv X pins ar H' s'/\D.ct ar H'
 | .ret u=>∃v ar H',Inv X pins ar H' s'/\RelV v u/\D.rt v H'
noncomputable def PE(X:Cx)(e:Expr)(t:TE):Prop :=
 ∀(pins:List (Addr × Obj)) (s:Shared) (σ:St) (H:Hp) (Q:VK),Inv X pins σ H s->t σ H Q->wpAny (model X.prog X.w) X.A (eval e X.env) (EP X pins σ Q) X.xe s
noncomputable def PT(X:Cx)(e:Expr)(t:TT):Prop :=
 ∀(pins:List (Addr × Obj)) (s:Shared) (σ:St) (H:Hp) (Q:Bool->Hp->Prop),Inv X pins σ H s->t σ H Q->wpAny (model X.prog X.w) X.A (isTrue e X.env (eval e X.env)) (TP X pins σ Q) X.xe s
noncomputable def PW(X:Cx)(e:Expr)(t:TT):Prop :=
 ∀(whole:Sem Value) (pins:List (Addr × Obj)) (s:Shared) (σ:St) (H:Hp) (Q:Bool->Hp->Prop),Inv X pins σ H s->t σ H Q->wpAny (model X.prog X.w) X.A (isTrue e X.env whole) (TP X pins σ Q) X.xe s
theorem PW.pt{X:Cx}{e:Expr}{t:TT}(h:PW X e t):PT X e t:=h _
noncomputable def PA(X:Cx)(es:List Expr)(t:TA):Prop :=
 ∀(pos:Pos) (pins:List (Addr × Obj)) (s:Shared) (σ:St) (H:Hp) (Q:List V->Hp->Prop),Inv X pins σ H s->t σ H Q->wpAny (model X.prog X.w) X.A (spliced (backTo pos (starEach es X.env))) (AP X pins σ Q) X.xe s
noncomputable def PS(X:Cx)(st:Stmt)(t:TS):Prop :=
 ∀(pins:List (Addr × Obj)) (s:Shared) (σ:St) (H:Hp) (D:Ends),Inv X pins σ H s->t D σ H->wpAny (model X.prog X.w) X.A (exec st X.env) (SP X pins D) X.xe s
noncomputable def PSs(X:Cx)(st:List Stmt)(t:TS):Prop :=
 ∀(pins:List (Addr × Obj)) (s:Shared) (σ:St) (H:Hp) (D:Ends),Inv X pins σ H s->t D σ H->wpAny (model X.prog X.w) X.A (execs st X.env) (SP X pins D) X.xe s
theorem aE{α:Type}{t:Sem α}{Q Q':α->Shared->Prop}{M:Model}{A:Around}{E:Value->Shared->Prop}{s:Shared}(h:wpAny M A t Q E s)(hQ:∀a s,Q a s->Q' a s):wpAny M A t Q' E s:=wpAny_mono h hQ λ_ _ x=>x
end L2
namespace L2
open PySem PySem.Spec PyProof.Rows
section
variable{X:Cx}
noncomputable def Nm(i:Nat):TE:=λσ H Q=>∃v,σ[i]?=some (some v)/\Q v H
noncomputable def tC(v:V):TE:=λ_ H Q=>Q v H
theorem oE{i:Nat}{x:Str}{pos:Pos}(hN:X.N[i]?=some x)(hv:jX X.env.scope x)(hd:(x==("__debug__":Str))=false:=by decide)(cC:(x==("__classdict__":Str))=false:=by decide):PE X (.Name x pos) (Nm i):=by
 intro pins s σ H Q I h
 obtain⟨v,e,h⟩:=h
 obtain⟨m,hn,hl⟩:=I.loc
 obtain⟨u,r,l⟩:=hl i x v hN e hv
 have fin:EP X pins σ Q u s:=⟨v,H,I,r,h⟩
 rcases l with⟨hk,hm⟩ | ⟨hk,c,hc,g6⟩
 ·exact wpAny_Name (wpAny_loadName_local I.ok.kind hk hn hm fin) hd
 ·rcases hk with hk | hk
  ·exact wpAny_Name (wpAny_loadName_cell I.ok.kind hk hc g6 fin) hd
  ·exact wpAny_Name (wpAny_loadName_free I.ok.kind hk hc g6 fin cC) hd
theorem oF{i j pos}:PE X (.Constant (.int i) j pos) (tC (.int i)):=λ_ _ _ H _ I h=>wpAny_Constant_int ⟨.int i,H,I.tok _,⟨_,rfl⟩,h⟩
theorem Wm{b j pos}:PE X (.Constant (.bool b) j pos) (tC (.bl b)):=λ_ _ _ H _ I h=>Constant_bool ⟨.bl b,H,I,rfl,h⟩
theorem Wn{j pos}:PE X (.Constant .none j pos) (tC .ao):=λ_ _ _ H _ I h=>Constant_none ⟨.ao,H,I,rfl,h⟩
theorem Wo{x j pos}:PE X (.Constant (.str x) j pos) (tC (.str x)):=λ_ _ _ H _ I h=>Calls.Constant_str ⟨.str x,H,I.tok _,⟨_,rfl⟩,h⟩
noncomputable def Gl(X:Cx)(x:Str):Prop:=X.env.kindOf x=some .globalImplicit
theorem oG{E:Value->Shared->Prop}{pins:List (Addr × Obj)}{s:Shared}{σ:St}{H:Hp}{x:Str}{u:Value}{pos:Pos}{Q:Value->Shared->Prop}(I:Inv X pins σ H s)(hg:Gl X x)(hm:X.mg x=some u)(h:Q u s)
  (hd:(x==("__debug__":Str))=false:=by decide):wpAny (model X.prog X.w) X.A (eval (.Name x pos) X.env) Q E s :=
 VB I.ok.kind hg (Calls.loadGlobal_global (by rw[I.ok.glob];exact I.mod.glob.keeps I.bk) hm h) hd
theorem iw{E:Value->Shared->Prop}{pins:List (Addr × Obj)}{s:Shared}{σ:St}{H:Hp}{x:Str}{u:Value}{pos:Pos}{Q:Value->Shared->Prop}(I:Inv X pins σ H s)(hg:Gl X x)(hm:X.mg x=none)(hv:bootBuiltins x=some u)(h:Q u s)
  (hn:x≠"__name__":=by decide) (hd:(x==("__debug__":Str))=false:=by decide):wpAny (model X.prog X.w) X.A (eval (.Name x pos) X.env) Q E s:=by
 obtain⟨mb,h1,h2⟩:=I.mod.blt
 exact VB I.ok.kind hg (Calls.loadGlobal_builtin (by rw[I.ok.glob];exact I.mod.glob.keeps I.bk) hm (by rw[I.ok.blt];exact h1.keeps I.bk) ((h2 x hn).trans hv) h) hd
theorem Wq{x:Str}{v:V}{u:Value}{pos:Pos}(hg:Gl X x)(hm:X.mg x=some u)(r:RelV v u)(hd:(x==("__debug__":Str))=false:=by decide):PE X (.Name x pos) (tC v) :=
 λ_ _ _ H _ I h=>oG I hg hm ⟨v,H,I,r,h⟩ hd
theorem Wr{x:Str}{v:V}{u:Value}{pos:Pos}(hg:Gl X x)(hm:X.mg x=none)(hv:bootBuiltins x=some u)(r:RelV v u)(hn:x≠"__name__":=by decide)(hd:(x==("__debug__":Str))=false:=by decide):PE X (.Name x pos) (tC v) :=
 λ_ _ _ H _ I h=>iw I hg hm hv ⟨v,H,I,r,h⟩ hn hd
variable{a b:Expr}{ta tb:TE}{pos:Pos}
noncomputable def tB(t:TE):TT:=λσ H Q=>t σ H λx H1=>∃c,x=.bl c/\Q c H1
theorem D0{e:Expr}{t:TE}(h:PE X e t)(he:∀whole,isTrue e X.env whole=(do let v<-whole;standAt e.pos;holding [v] (truthy v)):=by intro _;rfl):PT X e (tB t):=by
 intro pins s σ H Q I hw
 refine isTrue_plain (aE (h pins s σ H _ I hw) λv s1 ⟨x,H1,I1,r1,q1⟩=>?_) (he _)
 obtain⟨d,rfl,q⟩:=q1
 cases r1
 exact wpAny_truthy_bool ⟨H1,I1,q⟩
variable{tA zV:TT}{rest:List Expr}
noncomputable def Ws(t u:TT):TT:=λσ H Q=>t σ H λc H1=>if c=true then u σ H1 Q else Q false H1
noncomputable def Wt(t u:TT):TT:=λσ H Q=>t σ H λc H1=>if c=true then Q true H1 else u σ H1 Q
noncomputable def Wu(t:TT):TT:=λσ H Q=>t σ H λc H1=>Q (!c) H1
theorem Nn(ha:PT X a tA):PW X (.BoolOp .And [a] pos) tA:=by
 intro wh pins s σ H Q I h
 refine isTrue_and (aE (ha pins s σ H Q I h) λc s1 e=>?_)
 cases c with
 | true=>exact isTrue_and_nil e
 | false=>exact e
theorem zW(ha:PT X a tA):PW X (.BoolOp .Or [a] pos) tA:=by
 intro wh pins s σ H Q I h
 refine isTrue_or (aE (ha pins s σ H Q I h) λc s1 e=>?_)
 cases c with
 | false=>exact isTrue_or_nil e
 | true=>exact e
theorem Wv(ha:PT X a tA)(hb:PW X (.BoolOp .And (b::rest) pos) zV):PW X (.BoolOp .And (a::b::rest) pos) (Ws tA zV):=by
 intro wh pins s σ H Q I h
 refine isTrue_and (aE (ha pins s σ H _ I h) λc s1 ⟨H1,I1,q1⟩=>?_)
 cases c with
 | true=>exact hb wh pins s1 σ H1 Q I1 q1
 | false=>exact⟨H1,I1,q1⟩
theorem Ww(ha:PT X a tA)(hb:PW X (.BoolOp .Or (b::rest) pos) zV):PW X (.BoolOp .Or (a::b::rest) pos) (Wt tA zV):=by
 intro wh pins s σ H Q I h
 refine isTrue_or (aE (ha pins s σ H _ I h) λc s1 ⟨H1,I1,q1⟩=>?_)
 cases c with
 | true=>exact⟨H1,I1,q1⟩
 | false=>exact hb wh pins s1 σ H1 Q I1 q1
theorem D1(ha:PT X a tA):PT X (.UnaryOp .Not a pos) (Wu tA):=by
 intro pins s σ H Q I h
 exact isTrue_not (ha pins s σ H (λc H1=>Q (!c) H1) I h)
noncomputable def Wx(ta tb:TE):TE:=λσ H Q=>ta σ H λx H1=>∃c,x=.bl c/\if c=true then tb σ H1 Q else Q (.bl false) H1
noncomputable def Wy(ta:TE):TE:=λσ H Q=>ta σ H λx H1=>∃c,x=.bl c/\Q (.bl (!c)) H1
theorem rC{op}{t:TE}(h:PE X a t):PE X (.BoolOp op [a] pos) t:=λpins s σ H Q I hw=>BoolOp_one (h pins s σ H Q I hw)
theorem Wz(ha:PE X a ta)(hb:PE X (.BoolOp .And (b::rest) pos) tb):PE X (.BoolOp .And (a::b::rest) pos) (Wx ta tb):=by
 intro pins s σ H Q I h
 refine BoolOp_and (aE (ha pins s σ H _ I h) λv s1 ⟨x,H1,I1,r1,q1⟩=>?_)
 obtain⟨c,rfl,q1⟩:=q1
 cases r1
 refine wpAny_truthy_bool ?_
 cases c with
 | true=>exact hb pins s1 σ H1 Q I1 q1
 | false=>exact⟨.bl false,H1,I1,rfl,q1⟩
theorem WA(ha:PE X a ta):PE X (.UnaryOp .Not a pos) (Wy ta):=by
 intro pins s σ H Q I h
 refine UnaryOp_ (aE (ha pins s σ H _ I h) λv s1 ⟨x,H1,I1,r1,q1⟩=>?_)
 obtain⟨c,rfl,q1⟩:=q1
 cases r1
 exact not_of (wpAny_truthy_bool ⟨.bl (!c),H1,I1,rfl,q1⟩)
noncomputable def WB(t:TT)(ta tb:TE):TE:=λσ H Q=>t σ H λc H1=>if c=true then ta σ H1 Q else tb σ H1 Q
theorem WC{c:Expr}(hc:PT X c tA)(ha:PE X a ta)(hb:PE X b tb):PE X (.IfExp c a b pos) (WB tA ta tb):=by
 intro pins s σ H Q I h
 refine wpAny_IfExp (aE (hc pins s σ H _ I h) λd s1 ⟨H1,I1,q1⟩=>?_)
 cases d with
 | true=>exact ha pins s1 σ H1 Q I1 q1
 | false=>exact hb pins s1 σ H1 Q I1 q1
end
end L2
namespace L2
open PySem PySem.Spec PyProof.Rows
noncomputable def bc(K:PySem.W.Frag)(H:Hp)(a:Addr)(xs:List V):Prop :=
 Rd H a (.lst xs) \/
  ∃(o:Obj) (its:Array Value) (n:Nat),K.lookup a=some o/\o.cls=.type "list"/\o.dict=none/\o.data=.seq its n/\its.size<=sizeLine/\Vals xs its.toList
noncomputable def eZ(K:PySem.W.Frag)(H:Hp)(a:Addr)(xs:List V):Prop :=
 Rd H a (.tup xs) \/
  ∃(o:Obj) (its:Array Value) (n:Nat),K.lookup a=some o/\o.cls=.type "tuple"/\o.data=.seq its n/\its.size<=sizeLine/\Vals xs its.toList
noncomputable def WD:Value->Option V
 | .none=>some .ao
 | .bool b=>some (.bl b)
 | .int i _=>some (.int i)
 | .str x _=>some (.str x)
 | .bytes b _=>some (.jT b)
 | .float b _=>some (.om b)
 | .ref a=>some (.ref a)
 | .type n=>some (.ty n)
 | _=>none
theorem RelV.abs{x:V}{u:Value}(r:RelV x u):WD u=some x:=by
 cases x with
 | ao=>cases r;rfl
 | bl _=>cases r;rfl
 | int _=>obtain⟨t,rfl⟩:=r;rfl
 | str _=>obtain⟨t,rfl⟩:=r;rfl
 | jT _=>obtain⟨t,rfl⟩:=r;rfl
 | om _=>obtain⟨t,rfl⟩:=r;rfl
 | ref _=>cases r;rfl
 | ty _=>cases r;rfl
theorem RelV.inj{x y:V}{u:Value}(r:RelV x u)(q:RelV y u):x=y:=cP (r.abs.symm.trans q.abs)
theorem Vals.inj:∀{xs ys:List V} {us:List Value},Vals xs us->Vals ys us->xs=ys
 | _,_,_,.nil,.nil=>rfl
 | _,_,_,.cons r t,.cons r' t'=>by rw[r.inj r',Vals.inj t t']
section
variable{X:Cx}{pins:List (Addr × Obj)}{σ:St}{H:Hp}{s:Shared}{a:Addr}{xs ys:List V}
theorem bc.of{K:PySem.W.Frag}(h:H a=some (.lst xs)):bc K H a xs:=.inl (.inl h)
theorem eZ.of{K:PySem.W.Frag}(h:H a=some (.tup xs)):eZ K H a xs:=.inl (.inl h)
theorem Inv.list(I:Inv X pins σ H s)(h:bc X.K H a xs):∃its:List Value,Vals xs its/\PlainL s.heap a its.toArray/\xs.length<=sizeLine:=by
 rcases h with h | ⟨o,its,n,hk,hc,hd,hs,hz,r⟩
 ·obtain⟨z,its,n,r,e⟩:=h.ok I.av
  exact⟨its,r,⟨_,n,e,rfl,rfl,rfl⟩,z⟩
 ·refine⟨its.toList,r,⟨o,n,I.cB a o hk,hc,hd,by simpa using hs⟩,?_⟩
  have e:=r.length
  simp only[gh]at e
  omega
theorem Inv.tuple(I:Inv X pins σ H s)(h:eZ X.K H a xs):∃its:List Value,Vals xs its/\IsTup s.heap a its.toArray/\xs.length<=sizeLine:=by
 rcases h with h | ⟨o,its,n,hk,hc,hs,hz,r⟩
 ·obtain⟨z,its,r,p⟩:=h.ok I.av
  exact⟨its,r,p,z⟩
 ·refine⟨its.toList,r,⟨o,I.cB a o hk,hc,n,by simpa using hs⟩,?_⟩
  have e:=r.length
  simp only[gh]at e
  omega
theorem Inv.wA(I:Inv X pins σ H s)(h:bc X.K H a xs)(h':bc X.K H a ys):xs=ys:=by
 obtain⟨its,r,⟨o,n,e,_,_,d⟩,_⟩:=I.list h
 obtain⟨its',r',⟨o',n',e',_,_,d'⟩,_⟩:=I.list h'
 rw[e]at e';cases e'
 rw[d]at d'
 injection d' with d1 _
 have:its=its':=by simpa using congrArg Array.toList d1
 subst this
 exact r.inj r'
end
noncomputable abbrev Cx.iy(X:Cx)(E:Value->Shared->Prop):Cx:={ X with xe:=E }
noncomputable abbrev Cx.e5(X:Cx):Cx:=X.iy λ_ _=>False
theorem Cx.Ok.iy{X:Cx}(ok:X.Ok)(E:Value->Shared->Prop):(X.iy E).Ok :=
 ⟨ok.mod,ok.kind,ok.glob,ok.blt,ok.above,ok.inj,ok.has,ok.kS,ok.hd,ok.frames,ok.ou,ok.oy,ok.bs,ok.fJ,ok.mY,ok.mZ,ok.eM,ok.gn⟩
theorem Cx.Ok.jo{X:Cx}{E:Value->Shared->Prop}(ok:(X.iy E).Ok):X.Ok :=
 ⟨ok.mod,ok.kind,ok.glob,ok.blt,ok.above,ok.inj,ok.has,ok.kS,ok.hd,ok.frames,ok.ou,ok.oy,ok.bs,ok.fJ,ok.mY,ok.mZ,ok.eM,ok.gn⟩
section
variable{X:Cx}{pins:List (Addr × Obj)}{σ:St}{H:Hp}{s:Shared}{E:Value->Shared->Prop}
theorem Inv.iy(I:Inv X pins σ H s)(E:Value->Shared->Prop):Inv (X.iy E) pins σ H s:=⟨I.ok.iy E,I.os,I.bare,I.base,I.loc,I.cell,I.free,I.eC,I.pin,I.av,I.len⟩
theorem Inv.jo(I:Inv (X.iy E) pins σ H s):Inv X pins σ H s:=⟨I.ok.jo,I.os,I.bare,I.base,I.loc,I.cell,I.free,I.eC,I.pin,I.av,I.len⟩
theorem SP.jo{D:Ends}{f:Flow}{s':Shared}(h:SP (X.iy E) pins D f s'):SP X pins D f s':=by
 cases f with
 | next=>obtain⟨ar,H',I,q⟩:=h;exact⟨ar,H',I.jo,q⟩
 | brk=>obtain⟨ar,H',I,q⟩:=h;exact⟨ar,H',I.jo,q⟩
 | cont=>obtain⟨ar,H',I,q⟩:=h;exact⟨ar,H',I.jo,q⟩
 | ret u=>obtain⟨v,ar,H',I,r,q⟩:=h;exact⟨v,ar,H',I.jo,r,q⟩
theorem PE.e5{e:Expr}{t:TE}(h:PE X.e5 e t):PE X e t:=λpins s σ H Q I hw =>
 wpAny_mono (h pins s σ H Q (I.iy _) hw) (λ_ _ ⟨v,H',I',r,q⟩=>⟨v,H',I'.jo,r,q⟩) λ_ _ z=>dB z
theorem PT.e5{e:Expr}{t:TT}(h:PT X.e5 e t):PT X e t:=λpins s σ H Q I hw =>
 wpAny_mono (h pins s σ H Q (I.iy _) hw) (λ_ _ ⟨H',I',q⟩=>⟨H',I'.jo,q⟩) λ_ _ z=>dB z
theorem PSs.e5{st:List Stmt}{t:TS}(h:PSs X.e5 st t):PSs X st t:=λpins s σ H D I hw =>
 wpAny_mono (h pins s σ H D (I.iy _) hw) (λ_ _ q=>q.jo) λ_ _ z=>dB z
end
section
variable{X:Cx}{st:Stmt}{rest:List Stmt}{t u:TS}{e:Expr}{te:TE}{pos:Pos}
noncomputable def WE:TS:=λD σ H=>D.nx σ H
noncomputable def WG(t u:TS):TS:=λD σ H=>t { D with nx:=u D } σ H
theorem zX:PSs X [] WE:=λ_ _ σ H _ I h=>wpAny_execs_nil ⟨σ,H,I,h⟩
theorem jq(h1:PS X st t)(h2:PSs X rest u):PSs X (st::rest) (WG t u):=by
 intro pins s σ H D I h
 refine wpAny_execs_cons (aE (h1 pins s σ H { D with nx:=u D } I h) λf s1 q=>?_)
 cases f with
 | next =>
  obtain⟨ar,H',I',q⟩:=q
  exact h2 pins s1 ar H' D I' q
 | ret v=>exact q
 | brk=>exact q
 | cont=>exact q
theorem rD(h1:PS X st t):PSs X [st] t:=by
 intro pins s σ H D I h
 refine wpAny_execs_cons (aE (h1 pins s σ H D I h) λf s1 q=>?_)
 cases f with
 | next=>exact wpAny_execs_nil q
 | ret v=>exact q
 | brk=>exact q
 | cont=>exact q
theorem Inv.quiet{pins:List (Addr × Obj)}{σ:St}{H:Hp}{s:Shared}(I:Inv X pins σ H s):interactive X.env=false:=by simp[interactive,I.ok.kind]
noncomputable def WH(te:TE):TS:=λD σ H=>te σ H λ_ H1=>D.nx σ H1
theorem D2(he:PE X e te)(hs:swapsWith e none pos.line X.env=pure false:=by rfl):PS X (.Expr e pos) (WH te):=by
 intro pins s σ H D I h
 exact wpAny_Expr_any (aE (he pins s σ H _ I h) λv s1 ⟨x,H1,I1,r1,q1⟩=>⟨σ,H1,I1,q1⟩) I.quiet hs
noncomputable def WI(te:TE):TS:=λD σ H=>te σ H D.rt
theorem WJ(he:PE X e te):PS X (.Return (some e) pos) (WI te):=by
 intro pins s σ H D I h
 exact wpAny_Return_some (aE (he pins s σ H _ I h) λv s1 ⟨x,H1,I1,r1,q1⟩=>⟨x,σ,H1,I1,r1,q1⟩)
noncomputable def WK(c:TT)(t u:TS):TS:=λD σ H=>c σ H λb H1=>if b=true then t D σ H1 else u D σ H1
theorem zY{c:Expr}{a b:List Stmt}{tc:TT}(hc:PT X c tc)(ha:PSs X a t)(hb:PSs X b u):PS X (.If c a b pos) (WK tc t u):=by
 intro pins s σ H D I h
 refine wpAny_If (aE (hc pins s σ H _ I h) λd s1 ⟨H1,I1,q1⟩=>?_)
 cases d with
 | true=>exact ha pins s1 σ H1 D I1 q1
 | false=>exact hb pins s1 σ H1 D I1 q1
noncomputable def WL:TS:=λ_ _ _=>False
theorem Np:PS X st WL:=λ_ _ _ _ _ _ h=>h.elim
end
noncomputable abbrev TG:=V->St->Hp->(St->Hp->Prop)->Prop
noncomputable abbrev oH:=List V->St->Hp->(St->Hp->Prop)->Prop
noncomputable def PG(X:Cx)(target:Expr)(t:TG):Prop :=
 ∀(pins:List (Addr × Obj)) (s:Shared) (σ:St) (H:Hp) (v:V) (u:Value) (Q:St->Hp->Prop),Inv X pins σ H s->RelV v u->t v σ H Q ->
  wpAny (model X.prog X.w) X.A (assign target X.env u) (λ_ s'=>∃ar H',Inv X pins ar H' s'/\Q ar H') X.xe s
noncomputable def zZ(X:Cx)(ts:List Expr)(t:oH):Prop :=
 ∀(pins:List (Addr × Obj)) (s:Shared) (σ:St) (H:Hp) (vs:List V) (us:List Value) (Q:St->Hp->Prop),Inv X pins σ H s->Vals vs us->t vs σ H Q ->
  wpAny (model X.prog X.w) X.A (assignInOrder ((assignEach ts X.env).map (·.2)) us) (λ_ s'=>∃ar H',Inv X pins ar H' s'/\Q ar H') X.xe s
noncomputable abbrev D3:=V->V->V->Hp->(Hp->Prop)->Prop
noncomputable def Nq(X:Cx)(t:D3):Prop :=
 ∀(pins:List (Addr × Obj)) (s:Shared) (σ:St) (H:Hp) (o i v:V) (ov iv u:Value) (Q:Hp->Prop),Inv X pins σ H s->RelV o ov->RelV i iv->RelV v u->t o i v H Q ->
  wpAny (model X.prog X.w) X.A (setItem ov iv u) (λ_ s'=>∃H',Inv X pins σ H' s'/\Q H') X.xe s
noncomputable abbrev D4:=V->V->Hp->VK->Prop
noncomputable def WM(X:Cx)(op:Operator)(t:D4):Prop :=
 ∀(pins:List (Addr × Obj)) (s:Shared) (σ:St) (H:Hp) (x y:V) (v u:Value) (Q:VK),Inv X pins σ H s->RelV x v->RelV y u->t x y H Q ->
  wpAny (model X.prog X.w) X.A (inplaceOp op v u) (EP X pins σ Q) X.xe s
section
variable{X:Cx}{pos:Pos}
noncomputable def z0(i:Nat):TG:=λv σ H Q=>Q (σ.set i (some v)) H
theorem z4{i:Nat}{x:Str}(hN:X.N.Nodup)(hi:X.N[i]?=some x)(hx:Loc X.env.scope x)(hf:X.fn x=true\/X.env.scope.names.lookup x=some .local:=by first | exact .inl rfl | exact .inr rfl | assumption):PG X (.Name x pos) (z0 i):=by
 intro pins s σ H v u Q I r h
 exact wpAny_assign_Name (wz I hN hi hx r (λs' I'=>⟨_,H,I',h⟩) hf)
noncomputable def WN:oH:=λvs σ H Q=>vs=[]/\Q σ H
noncomputable def WO(t:TG)(u:oH):oH:=λvs σ H Q=>∃v r,vs=v::r/\t v σ H λar H'=>u r ar H' Q
theorem WQ:zZ X [] WN:=by
 intro pins s σ H vs us Q I r h
 obtain⟨e,h⟩:=h
 subst e
 cases r
 exact assignInOrder_nil ⟨σ,H,I,h⟩
theorem Nr{e:Expr}{es:List Expr}{t:TG}{u:oH}(h1:PG X e t)(h2:zZ X es u)
  (hs:(assignEach (e::es) X.env).map (·.2)=assign e X.env::(assignEach es X.env).map (·.2):=by rfl):zZ X (e::es) (WO t u):=by
 intro pins s σ H vs us Q I r h
 obtain⟨v,vr,e1,h⟩:=h
 subst e1
 cases r with
 | cons r rr =>
  rw[hs]
  refine assignInOrder_cons (aE (h1 pins s σ H _ _ _ I r h) λ_ s1 ⟨fv,H1,I1,q1⟩=>?_)
  exact h2 pins s1 fv H1 _ _ Q I1 rr q1
noncomputable def WR(K:PySem.W.Frag)(n:Nat)(t:oH):TG:=λv σ H Q=>∃a xs,v=.ref a/\eZ K H a xs/\xs.length=n/\t xs σ H Q
theorem WS{es:List Expr}{k:Nat}{t:oH}{n:Nat}(hc:X.calm=true)(h:zZ X es t)
  (hn:(assignEach es X.env).length=n:=by rfl) (bW:(assignEach es X.env).findIdx? (·.1)=none:=by rfl):PG X (.Tuple es k pos) (WR X.K n t):=by
 intro pins s σ H v u Q I r hw
 obtain⟨a,xs,e1,hq,hl,hw⟩:=hw
 subst e1
 cases r
 obtain⟨its,rv,ht,hz⟩:=I.tuple hq
 refine assign_Tuple_tuple (I.ok.hd hc) ht (by simp[hn,<- hl,rv.length]) bW λh' hx=>?_
 have I1:Inv X pins σ H { s with heap:=h' }:=I.kept (t':=s.toks) λb o e=>hx b o (cy (aS e)) e
 exact h pins _ σ H xs _ Q I1 (by simpa using rv) hw
noncomputable def WT(to ti:TE)(t:D3):TG:=λv σ H Q=>to σ H λo H1=>ti σ H1 λi H2=>t o i v H2 λH3=>Q σ H3
theorem WU{o i:Expr}{to ti:TE}{t:D3}(ho:PE X o to)(hi:PE X i ti)(hs:Nq X t)
  (ha:∀v,assign (.Subscript o i pos) X.env v=(do
   let ov<-holding [v] (eval o X.env)
   let iv<-holding [v,ov] (eval i X.env)
   standAt pos
   holding [v,ov,iv] (setItem ov iv v)
   release [v,ov,iv] []):=by intro _;rfl):PG X (.Subscript o i pos) (WT to ti t):=by
 intro pins s σ H v u Q I r h
 rw[ha]
 refine wpAny_bind (wpAny_holding (aE (ho pins s σ H _ I h) λov s1 ⟨x,H1,I1,r1,q1⟩=>?_))
 refine wpAny_bind (wpAny_holding (aE (hi pins s1 σ H1 _ I1 q1) λiv s2 ⟨y,H2,I2,r2,q2⟩=>?_))
 refine wpAny_bind (wpAny_standAt (wpAny_bind (wpAny_holding (aE (hs pins s2 σ H2 x y v ov iv u _ I2 r1 r2 r q2) λ_ s3 ⟨H3,I3,q3⟩=>?_))))
 exact wpAny_release ⟨σ,H3,I3,q3⟩
noncomputable def D6(te:TE)(g:TG):TS:=λD σ H=>te σ H λx H1=>g x σ H1 D.nx
theorem WV{tg e:Expr}{te:TE}{g:TG}(he:PE X e te)(hg:PG X tg g)(hs:swapsWithSole [tg] e pos.line X.env=pure false:=by rfl)(hw:swappedStores [tg] e X.env=pure none:=by rfl)
  (h1:(assignEach [tg] X.env).map (·.2)=[assign tg X.env]:=by rfl):PS X (.Assign [tg] e pos) (D6 te g):=by
 intro pins s σ H D I h
 refine wpAny_Assign_stores (aE (he pins s σ H _ I h) λv s1 ⟨x,H1,I1,r1,q1⟩=>?_) hs hw
 rw[h1]
 exact aE (hg pins s1 σ H1 x v _ I1 r1 q1) λ_ s2 q=>q
theorem Nt{i:Nat}{x:Str}{e:Expr}{te:TE}{pos':Pos}(hN:X.N.Nodup)(hi:X.N[i]?=some x)(hx:Loc X.env.scope x)(he:PE X e te)(hs:swapsWith e (some (.Name x pos')) pos.line X.env=pure false:=by rfl)(hf:X.fn x=true\/X.env.scope.names.lookup x=some .local:=by first | exact .inl rfl | exact .inr rfl | assumption) :
  PS X (.Assign [.Name x pos'] e pos) (D6 te (z0 i)):=by
 intro pins s σ H D I h
 refine wpAny_Assign_Name (aE (he pins s σ H _ I h) λv s1 ⟨y,H1,I1,r1,q1⟩=>?_) hs
 exact wz I1 hN hi hx r1 (λs2 I2=>⟨_,H1,I2,q1⟩) hf
noncomputable def WW(i:Nat)(te:TE)(ti:D4):TS:=λD σ H=>∃x,σ[i]?=some (some x)/\te σ H λy H1=>ti x y H1 λz H2=>D.nx (σ.set i (some z)) H2
theorem WX{i:Nat}{x:Str}{e:Expr}{te:TE}{op:Operator}{ti:D4}{pos':Pos}(hN:X.N.Nodup)(hi:X.N[i]?=some x)(hx:Loc X.env.scope x)(he:PE X e te)(ho:WM X op ti)(hf:X.fn x=true\/X.env.scope.names.lookup x=some .local:=by first | exact .inl rfl | exact .inr rfl | assumption) :
  PS X (.AugAssign (.Name x pos') op e pos) (WW i te ti):=by
 intro pins s σ H D I h
 obtain⟨v,e1,h⟩:=h
 obtain⟨m,hn,hl⟩:=I.loc
 have WY:jX X.env.scope x:=by rcases hx with k | k;exact .inl k;exact .inr (.inl k)
 obtain⟨u,r,l⟩:=hl i x v hi e1 WY
 refine wpAny_AugAssign_Name ?_
 have go:wpAny (model X.prog X.w) X.A (eval e X.env) (λw iz=>wpAny (model X.prog X.w) X.A (inplaceOp op u w) (λr WZ=>wpAny (model X.prog X.w) X.A (storeName X.env x r) (λ_=>SP X pins D .next) X.xe WZ) X.xe iz) X.xe s:=by
  refine aE (he pins s σ H _ I h) λw s1 ⟨y,H1,I1,r1,q1⟩=>?_
  refine aE (ho pins s1 σ H1 v y u w _ I1 r r1 q1) λz s2 ⟨zv,H2,I2,r2,q2⟩=>?_
  exact wz I2 hN hi hx r2 (λs3 I3=>⟨_,H2,I3,q2⟩) hf
 rcases l with⟨hk,hm⟩ | ⟨hk,c,hc,g6⟩
 ·exact wpAny_loadName_local I.ok.kind hk hn hm go
 ·rcases hk with hk | hk
  ·exact wpAny_loadName_cell I.ok.kind hk hc g6 go
  ·rcases hx with k | k
   ·have:X.env.scope.names.lookup x=some .free:=hk
    rw[k]at this;cases this
   ·have:X.env.scope.names.lookup x=some .free:=hk
    rw[k]at this;cases this
end
section
variable{X:Cx}{pos:Pos}
noncomputable def W0(c:TT)(tb:TS):TS:=λD σ H=>∃W:Nat->St->Hp->Prop,(∃m,W m σ H)/\∀m σ H,W m σ H ->
 c σ H λb H1=>if b=true then ∃N:St->Hp->Prop,(∀ar H',N ar H'->∃m',m'<m/\W m' ar H')/\tb { D with nx:=N,ct:=N,bk:=D.nx } σ H1 else D.nx σ H1
theorem W2{c:Expr}{body:List Stmt}{tc:TT}{tb:TS}(hp:PassesOwn (model X.prog X.w) X.A X.env X.xe)(hc:PT X c tc)(hb:PSs X body tb):PS X (.While c body [] pos) (W0 tc tb):=by
 intro pins s σ H D I h
 obtain⟨W,⟨m0,w0⟩,turn⟩:=h
 refine wpAny_While (codeAny_whileLoop (λn s'=>∃ar H',Inv X pins ar H' s'/\W n ar H') ?_ m0 ⟨σ,H,I,w0⟩)
 rintro n s1 ⟨fv,H1,I1,w1⟩
 refine wpAny_passesOwn hp (aE (hc pins s1 fv H1 _ I1 (turn n fv H1 w1)) λb s2 ⟨H2,I2,q2⟩=>?_)
 cases b with
 | true =>
  obtain⟨N,hN,q2⟩:=q2
  rw[if_pos rfl]
  refine wpAny_passesOwn hp (aE (hb pins s2 fv H2 _ I2 q2) λf s3 q3=>?_)
  cases f with
  | next =>
   obtain⟨jr,H3,I3,n3⟩:=q3
   obtain⟨m',hm,w3⟩:=hN jr H3 n3
   exact⟨m',hm,jr,H3,I3,w3⟩
  | cont =>
   obtain⟨jr,H3,I3,n3⟩:=q3
   obtain⟨m',hm,w3⟩:=hN jr H3 n3
   exact⟨m',hm,jr,H3,I3,w3⟩
  | brk=>exact q3
  | ret v=>exact q3
 | false =>
  rw[if_neg ir]
  exact wpAny_execs_nil ⟨fv,H2,I2,q2⟩
end
structure It where
 go:Nat->Hp->Prop
 g7:Nat->Hp->V->Hp->Prop
 stop:Nat->Hp->Prop
noncomputable def g8(X:Cx)(pins:List (Addr × Obj))(H:Hp)(b:Addr):Prop :=
 H b=none/\b≠X.env.locals/\b ∉ X.fs/\(b∈X.ex\/X.bZ.heap.objs.size<=b)/\(∀x c,X.env.cells.lookup x=some c->c≠b)/\∀p∈X.pn++pins,p.1≠b
theorem Inv.rE{X:Cx}{pins:List (Addr × Obj)}{σ:St}{H H':Hp}{s:Shared}{b:Addr}(I:Inv X pins σ H s)(hb:s.heap.objs.size<=b)(hn:H' b=none):g8 X pins H' b:=by
 refine⟨hn,qT (cI I.lt hb),I.Ng hb,.inr (eu I.sz hb),λx c e z=>?_,λp hp z=>?_⟩
 ·obtain⟨v,q⟩:=I.cell x c e
  exact absurd (cI q.lt (by rw[z];exact hb)) (gQ _)
 ·exact absurd (cI (aS (I.pin p hp).1) (by rw[z];exact hb)) (gQ _)
structure Turn(P:Program)(w:World)(K:PySem.W.Frag)(tg:Expr)(J:It)(fp:List Addr)(it:Addr)(tn:Nat->Heap->Prop):Prop where
 mem:it∈fp
 obj:∀i h,tn i h->∀b∈fp,∃o,h.get? b=some o/\∀v,o.data≠.cell v
 keep:∀i h h',tn i h->(∀b∈fp,∀o,h.get? b=some o->h'.get? b=some o)->tn i h'
 item:∀(X:Cx),X.prog=P->X.w=w->X.K=K->X.calm=true->∀(i:Nat) (pins:List (Addr × Obj)) (s:Shared) (σ:St) (H:Hp) (E:Value->Shared->Prop),Inv X pins σ H s->(∀b∈fp,g8 X pins H b)->tn i s.heap->J.go i H ->
  wpAny (model P w) X.A (pyNext (.ref it)) (λr s1=>∃u,r=some u /\
   wpAny (model P w) X.A (letOwnedTupleGo tg (.ref it) u) (λ_ s2=>∃x H',Inv X pins σ H' s2/\RelV x u/\J.g7 i H x H'/\tn (i+1) s2.heap/\∀b∈fp,H' b=none) E s1) E s
 done:∀(X:Cx),X.prog=P->X.w=w->X.K=K->X.calm=true->∀(i:Nat) (pins:List (Addr × Obj)) (s:Shared) (σ:St) (H:Hp) (E:Value->Shared->Prop),Inv X pins σ H s->(∀b∈fp,g8 X pins H b)->tn i s.heap->J.stop i H ->
  wpAny (model P w) X.A (pyNext (.ref it)) (λr s1=>r=none/\Inv X pins σ H s1) E s
 self:∀(A:Around) (i:Nat) (s:Shared) (Q:Value->Shared->Prop) (E:Value->Shared->Prop),tn i s.heap->Q (.ref it) s->wpAny (model P w) A (pyIter (.ref it)) Q E s
noncomputable abbrev TI:=St->Hp->(It->Hp->Prop)->Prop
noncomputable def Nu(X:Cx)(pins:List (Addr × Obj))(σ:St)(tg:Expr)(R:It->Hp->Prop)(D7:Value)(s2:Shared):Prop :=
 ∃(it:Addr) (fp:List Addr) (tn:Nat->Heap->Prop) (J:It) (H':Hp),D7=.ref it/\Inv X pins σ H' s2/\Turn X.prog X.w X.K tg J fp it tn/\tn 0 s2.heap/\(∀b∈fp,g8 X pins H' b)/\R J H'
noncomputable def PI(X:Cx)(tg iter:Expr)(wi:TI):Prop :=
 ∀(pins:List (Addr × Obj)) (s:Shared) (σ:St) (H:Hp) (R:It->Hp->Prop),Inv X pins σ H s->wi σ H R ->
  wpAny (model X.prog X.w) X.A (eval iter X.env) (λv s1=>wpAny (model X.prog X.w) X.A (pyIter v) (Nu X pins σ tg R) X.xe s1) X.xe s
theorem z5{M:Model}{A:Around}{E:Value->Shared->Prop}{s:Shared}{tg:Expr}{it:Addr}{u:Value}{o:Obj}{n:String}{vs:Array Value}{Q:Unit->Shared->Prop}(ho:s.heap.get? it=some o)(hc:o.cls=.type n)(hd:o.data=.fields vs)
  (hn:["enumerate","zip","dict_itemiterator","dict_reverseitemiterator","odict_iterator","itertools.zip_longest","itertools.pairwise"].contains n=false) (hQ:Q () s):wpAny M A (letOwnedTupleGo tg (.ref it) u) Q E s:=by
 unfold letOwnedTupleGo
 cases tg<;>first
  | exact wpAny_pure hQ
  | (cases u<;>first
    | exact wpAny_pure hQ
    | (refine wpAny_bind (wpAny_load ho ?_)
       rw[hc,hd]
       show wpAny M A (if(["enumerate","zip","dict_itemiterator","dict_reverseitemiterator","odict_iterator","itertools.zip_longest","itertools.pairwise"].contains n&&vs[0]?==some (rawInt _))=true then _ else _) Q E s
       rw[if_neg (by intro h;rw[hn,vR]at h;cases h)]
       exact wpAny_pure hQ))
noncomputable def D8(K:PySem.W.Frag)(a:Addr):It :=
 ⟨λi H=>∃xs x,bc K H a xs/\xs[i]?=some x,λi H x H'=>H'=H/\∀xs,bc K H a xs->xs[i]?=some x,λi H=>∃xs,bc K H a xs/\xs.length<=i⟩
noncomputable def wB(lo:Int)(n:Nat):It:=⟨λi _=>i<n,λi H x H'=>H'=H/\x=.int (lo+i),λi _=>n<=i⟩
theorem W3{P:Program}{w:World}{K:PySem.W.Frag}{tg:Expr}(a it:Addr):Turn P w K tg (D8 K a) [it] it (λi h=>h.IsListIter it a i) where
 mem:=by simp
 obj:=λi h st b hb=>by
  have e:b=it:=by simpa using hb
  subst e
  obtain⟨o,e,c,d⟩:=st
  exact⟨o,e,λv z=>by rw[d]at z;cases z⟩
 keep:=λi h h' st k=>st.at λo e=>k it (by simp) o e
 item:=by
  intro X hP hw hK hc i pins s σ H E I hf st hg
  subst hP hw hK
  obtain⟨xs,x,hq,hx⟩:=hg
  obtain⟨its,rv,p,hz⟩:=I.list hq
  obtain⟨u,hu,ru⟩:=rv.get hx
  obtain⟨f0,f1,f2,f3,f4,f5⟩:=hf it (by simp)
  refine wpAny_pyNext_list_item st p.isList (x:=u) (by simpa using hu) λh' gq sb=>?_
  have I1:Inv X pins σ H { s with heap:=h' }:=I.turned (t':=s.toks) (λb o hb e=>(sb.2 b hb).trans e) f0 f1 f3 f4 f5
  obtain⟨o,e,c,d⟩:=id gq
  exact⟨u,rfl,z5 (s:={ s with heap:=h' }) e c d (by decide) ⟨x,H,I1,ru,⟨rfl,λys hy=>by rw[I.wA hy hq];exact hx⟩,gq,λb hb=>(hf b hb).1⟩⟩
 done:=by
  intro X hP hw hK hc i pins s σ H E I hf st hg
  subst hP hw hK
  obtain⟨xs,hq,hx⟩:=hg
  obtain⟨its,rv,p,hz⟩:=I.list hq
  obtain⟨f0,f1,f2,f3,f4,f5⟩:=hf it (by simp)
  have hl:=rv.length
  exact wpAny_pyNext_list_end (I.ok.hd hc) st p.isList (by simp;omega) λh' eb=>⟨rfl,I.turned (t':=s.toks) (λb o hb e=>eb b o hb e) f0 f1 f3 f4 f5⟩
 self:=λ_ _ _ _ _ st h=>wpAny_pyIter_listiter st h
theorem W4{P:Program}{w:World}{K:PySem.W.Frag}{tg:Expr}(it:Addr)(lo:Int)(n:Nat):Turn P w K tg (wB lo n) [it] it (λi h=>IsRangeIter h it (lo+(i:Nat)*1) ((n:Int)-(i:Nat)) 1) where
 mem:=by simp
 obj:=λi h st b hb=>by
  have e:b=it:=by simpa using hb
  subst e
  exact⟨_,st,λv z=>by
   have z':De _=Data.cell v:=z
   cases z'⟩
 keep:=λi h h' st k=>k it (by simp) _ st
 item:=by
  intro X hP hw hK hc i pins s σ H E I hf st hg
  subst hP hw hK
  obtain⟨f0,f1,f2,f3,f4,f5⟩:=hf it (by simp)
  have W:=Walks.range (prog:=X.prog) (w:=X.w) (I.ok.hd hc) it lo 1 n
  refine W.item i s _ _ hg st λv h' tk hv gq kk=>?_
  obtain⟨t,rfl⟩:=hv
  have I1:Inv X pins σ H { s with heap:=h',toks:=tk }:=I.turned (λb o hb e=>kk b o (by simpa using hb) e) f0 f1 f3 f4 f5
  refine⟨_,rfl,z5 (s:={ s with heap:=h',toks:=tk }) (n:="range_iterator") gq rfl rfl (by decide) ⟨.int (lo+i),H,I1,⟨t,?_⟩,⟨rfl,rfl⟩,gq,λb hb=>(hf b hb).1⟩⟩
  rw[Int.mul_one]
 done:=by
  intro X hP hw hK hc i pins s σ H E I hf st hg
  subst hP hw hK
  obtain⟨f0,f1,f2,f3,f4,f5⟩:=hf it (by simp)
  exact wpAny_pyNext_range_end (I.ok.hd hc) st (by have:n<=i:=hg;omega) λh' eb=>⟨rfl,I.turned (t':=s.toks) (λb o hb e=>eb b o hb e) f0 f1 f3 f4 f5⟩
 self:=λ_ _ _ _ _ st h=>wpAny_pyIter_rangeiter st h
end L2
namespace L2
open PySem PySem.Spec PyProof.Rows
section
variable{X:Cx}{tg:Expr}
noncomputable def W5(K:PySem.W.Frag)(tl:TE):TI:=λσ H R=>tl σ H λx H1=>∃a,x=.ref a/\(∃xs,bc K H1 a xs)/\R (D8 K a) H1
theorem Nv{l:Expr}{tl:TE}(hl:PE X l tl):PI X tg l (W5 X.K tl):=by
 intro pins s σ H R I h
 refine aE (hl pins s σ H _ I h) λv s1 ⟨x,H1,I1,r1,q1⟩=>?_
 obtain⟨a,e,⟨xs,hq⟩,q⟩:=q1
 subst e
 cases r1
 obtain⟨its,rv,p,hz⟩:=I1.list hq
 refine wpAny_pyIter_list p.isList ?_
 refine⟨s1.heap.objs.size,[s1.heap.objs.size],_,_,H1,rfl,I1.kept (t':=s1.toks) λb o e=>bK _ e,W3 a _,⟨_,cS _ rfl,rfl,rfl⟩,λb hb=>?_,q⟩
 have e:b=s1.heap.objs.size:=by simpa using hb
 subst e
 exact I1.rE (aY _) (I1.av.fresh (aY _))
theorem Nw{pins:List (Addr × Obj)}{σ:St}{H:Hp}{s:Shared}{R:It->Hp->Prop}{E:Value->Shared->Prop}{lo hi:Int}{t u v:Tok}{tk:Nat}(I:Inv X pins σ H s)(h1:-(2 ^ 62)<=lo)(h2:lo<2 ^ 62)(h3:-(2 ^ 62)<=hi)(h4:hi<2 ^ 62)
  (q:R (wB lo (hi-lo).toNat) H):wpAny (model X.prog X.w) X.A (pyIter (.ref s.heap.objs.size)) (Nu X pins σ tg R) E { s with heap:=s.heap.push { cls:=.type "range",data:=.fields #[.int lo t,.int hi u,.int 1 v] },toks:=tk }:=by
 refine wpAny_pyIter_range (IsRange.new ..) (small_one h1 h2 h3 h4) ?_
 have I1:Inv X pins σ H { s with heap:=s.heap.push { cls:=.type "range",data:=.fields #[.int lo t,.int hi u,.int 1 v] },toks:=tk }:=I.kept λb o e=>bK _ e
 refine⟨(s.heap.push { cls:=.type "range",data:=.fields #[.int lo t,.int hi u,.int 1 v] }).objs.size,[(s.heap.push { cls:=.type "range",data:=.fields #[.int lo t,.int hi u,.int 1 v] }).objs.size],_,_,H,rfl,
  I1.kept (t':=tk) λb o e=>bK _ e,W4 _ lo (hi-lo).toNat,?_,λb hb=>?_,q⟩
 ·have e1:lo+((0:Nat):Int)*1=lo:=by simp
  have e2:(((hi-lo).toNat:Nat):Int)-((0:Nat):Int)=i4 lo hi 1:=by rw[rangeSize_one];split<;>omega
  show IsRangeIter _ _ (lo+((0:Nat):Int)*1) ((((hi-lo).toNat:Nat):Int)-((0:Nat):Int)) 1
  rw[e1,e2]
  exact cS _ rfl
 ·have e:b=(s.heap.push { cls:=.type "range",data:=.fields #[.int lo t,.int hi u,.int 1 v] }).objs.size:=by simpa using hb
  subst e
  exact I1.rE (aY _) (I1.av.fresh (aY _))
noncomputable def W6(ta:TA):TI:=λσ H R=>ta σ H λvs H1=>∃j:Int,vs=[.int j]/\-(2 ^ 62)<=j/\j<2 ^ 62/\R (wB 0 j.toNat) H1
noncomputable def W7(ta:TA):TI:=λσ H R=>ta σ H λvs H1=>∃i j:Int,vs=[.int i,.int j]/\(-(2 ^ 62)<=i/\i<2 ^ 62/\-(2 ^ 62)<=j/\j<2 ^ 62)/\R (wB i (j-i).toNat) H1
theorem W8{a:Expr}{ta:TA}{p pos:Pos}(hg:Gl X "range")(hm:X.mg "range"=none)(ha:PA X [a] ta)(hs:starEach [a] X.env=[(false,eval a X.env)]:=by rfl):PI X tg (.Call (.Name "range" p) [a] [] pos) (W6 ta):=by
 intro pins s σ H R I h
 refine Call_ (iw I hg hm boot_range (jO (aE (ha pos pins s σ H _ I h) λus s1 ⟨vs,H1,I1,r1,q1⟩=>?_) hs rfl))
 obtain⟨j,e,q1,q2,q⟩:=q1
 subst e
 cases r1 with
 | cons r rr =>
  cases rr
  obtain⟨t,rfl⟩:=r
  exact call_range_1 (Nw I1 (by omega) (by omega) q1 q2 (by simpa using q))
theorem W9{a b:Expr}{ta:TA}{p pos:Pos}(hg:Gl X "range")(hm:X.mg "range"=none)(ha:PA X [a,b] ta)(hs:starEach [a,b] X.env=[(false,eval a X.env),(false,eval b X.env)]:=by rfl)(cK:starEach [b] X.env=[(false,eval b X.env)]:=by rfl) :
  PI X tg (.Call (.Name "range" p) [a,b] [] pos) (W7 ta):=by
 intro pins s σ H R I h
 refine Call_ (iw I hg hm boot_range (jO (aE (ha pos pins s σ H _ I h) λus s1 ⟨vs,H1,I1,r1,q1⟩=>?_) (by rw[hs,cK]) (by rw[cK];rfl)))
 obtain⟨i,j,e,⟨q1,q2,q3,q4⟩,q⟩:=q1
 subst e
 cases r1 with
 | cons r rr =>
  cases rr with
  | cons r' rr =>
   cases rr
   obtain⟨t,rfl⟩:=r
   obtain⟨t',rfl⟩:=r'
   exact call_range_2 (Nw I1 q1 q2 q3 q4 q)
noncomputable def Xa(wi:TI)(g:TG)(tb:TS):TS:=λD σ H=>wi σ H λJ H1=>∃W:Nat->Nat->St->Hp->Prop,(∃m,W 0 m σ H1)/\∀i m σ H,W i m σ H ->
 (J.stop i H/\D.nx σ H)\/(J.go i H/\∃N:St->Hp->Prop,(∀ar H',N ar H'->∃m',m'<m/\W (i+1) m' ar H')/\∀x H',J.g7 i H x H'->g x σ H' λiA H2=>tb { D with nx:=N,ct:=N,bk:=D.nx } iA H2)
noncomputable def wC(fp:List Addr)(h:Heap):List (Addr × Obj):=fp.filterMap λb=>(h.get? b).map λo=>(b,o)
theorem z6{fp:List Addr}{h:Heap}{b:Addr}{o:Obj}(hb:b∈fp)(e:h.get? b=some o):(b,o)∈wC fp h:=VC.mpr ⟨b,hb,by rw[e];rfl⟩
theorem Xb{fp:List Addr}{h:Heap}{p:Addr × Obj}(hp:p∈wC fp h):p.1∈fp/\h.get? p.1=some p.2:=by
 obtain⟨b,hb,e⟩:=VC.mp hp
 cases q:h.get? b with
 | none=>rw[q]at e;cases e
 | some o =>
  rw[q]at e
  have e':(b,o)=p:=cP e
  subst e'
  exact⟨hb,q⟩
theorem Inv.pinned{pins:List (Addr × Obj)}{σ:St}{H:Hp}{s:Shared}{fp:List Addr}(I:Inv X pins σ H s)(hf:∀b∈fp,g8 X pins H b)(ho:∀b∈fp,∃o,s.heap.get? b=some o/\∀v,o.data≠.cell v):Inv X (pins++wC fp s.heap) σ H s :=
 I.Nh λp hp=>(eH.mp hp).elim (λz=>I.pin p (eI _ z)) λz=>by
  obtain⟨hb,e⟩:=Xb z
  obtain⟨f0,f1,f2,_⟩:=hf p.1 hb
  obtain⟨o,e',d⟩:=ho p.1 hb
  rw[e]at e';cases e'
  exact⟨e,f0,f1,f2,d⟩
theorem Inv.wD{pins pl:List (Addr × Obj)}{σ:St}{H:Hp}{s:Shared}(I:Inv X (pins++pl) σ H s):Inv X pins σ H s:=I.Nh λp hp=>I.pin p (eI _ (fq _ hp))
theorem Xc{iter:Expr}{body:List Stmt}{wi:TI}{g:TG}{tb:TS}{pos:Pos}(hp:PassesOwn (model X.prog X.w) X.A X.env X.xe)(hc:X.calm=true)(hi:PI X tg iter wi)(hg:PG X tg g)(hb:PSs X body tb)
  (hs:∀x,foldedSetIterable iter X.env x=pure x:=by intro _;rfl):PS X (.For tg iter body [] pos) (Xa wi g tb):=by
 intro pins s σ H D I h
 refine wpAny_For (aE (hi pins s σ H _ I h) λv s1 h1=>aE h1 λD7 s2 h2=>?_) hs
 obtain⟨it,fp,tn,J,H2,e,I2,T,wF,f2,W,⟨m0,w0⟩,turn⟩:=h2
 subst e
 have D9:∀{H':Hp},(∀b∈fp,H' b=none)->∀b∈fp,g8 X pins H' b:=λhn b hb=>⟨hn b hb,(f2 b hb).2⟩
 refine codeAny_forLoop_any (λn s'=>∃i ar H',Inv X pins ar H' s'/\tn i s'.heap/\(∀b∈fp,H' b=none)/\W i n ar H') ?_ m0 ⟨0,σ,H2,I2,wF,λb hb=>(f2 b hb).1,w0⟩
 rintro n s3 ⟨i,jr,H3,I3,Nx,Ny,w3⟩
 rcases turn i n jr H3 w3 with⟨stop,qn⟩ | ⟨go,N,hN,step⟩
 ·refine wpAny_passesOwn hp (aE (T.done X rfl rfl rfl hc i pins s3 jr H3 X.xe I3 (D9 Ny) Nx stop) λr s4 ⟨hr,I4⟩=>?_)
  subst hr
  exact wpAny_execs_nil ⟨jr,H3,I4,qn⟩
 ·refine wpAny_passesOwn hp (aE (T.item X rfl rfl rfl hc i pins s3 jr H3 X.xe I3 (D9 Ny) Nx go) λr s4 ⟨u,hr,h4⟩=>?_)
  subst hr
  refine wpAny_passesOwn hp (aE h4 λ_ s5 ⟨x,H5,I5,r5,y5,oI,Ea⟩=>?_)
  have Eb:=I5.pinned (D9 Ea) (T.obj _ _ oI)
  refine wpAny_passesOwn hp (aE (hg _ s5 jr H5 x u _ Eb r5 (step x H5 y5)) λ_ s6 ⟨z7,H6,I6,q6⟩=>?_)
  refine wpAny_passesOwn hp (aE (hb _ s6 z7 H6 _ I6 q6) λf s7 q7=>?_)
  have again:∀{js:St} {H7:Hp},Inv X (pins++wC fp s5.heap) js H7 s7->N js H7->∃m,m<n/\∃i ar H',Inv X pins ar H' s7/\tn i s7.heap/\(∀b∈fp,H' b=none)/\W i m ar H':=λ{js H7} I7 n7=>by
   obtain⟨m',hm,w7⟩:=hN js H7 n7
   refine⟨m',hm,i+1,js,H7,I7.wD,T.keep _ _ _ oI λb hb o e=>(I7.pin (b,o) (eI _ (eI _ (z6 hb e)))).1,λb hb=>?_,w7⟩
   obtain⟨o,e,d⟩:=T.obj _ _ oI b hb
   exact(I7.pin (b,o) (eI _ (eI _ (z6 hb e)))).2.1
  cases f with
  | next=>obtain⟨js,H7,I7,n7⟩:=q7;exact again I7 n7
  | cont=>obtain⟨js,H7,I7,n7⟩:=q7;exact again I7 n7
  | brk=>obtain⟨js,H7,I7,q7⟩:=q7;exact⟨js,H7,I7.wD,q7⟩
  | ret v=>obtain⟨x7,js,H7,I7,r7,q7⟩:=q7;exact⟨x7,js,H7,I7.wD,r7,q7⟩
end
end L2
namespace L2
open PySem PySem.Spec PyProof.Rows
noncomputable abbrev R2:=V->V->Hp->VK->Prop
noncomputable def cu(X:Cx)(f:Value->Value->Sem Value)(r:R2):Prop :=
 ∀(pins:List (Addr × Obj)) (s:Shared) (σ:St) (H:Hp) (x y:V) (v u:Value) (Q:VK),Inv X pins σ H s->RelV x v->RelV y u->r x y H Q ->
  wpAny (model X.prog X.w) X.A (f v u) (EP X pins σ Q) X.xe s
noncomputable def Ec(X:Cx)(f:Value->Sem Value)(r:V->Hp->VK->Prop):Prop :=
 ∀(pins:List (Addr × Obj)) (s:Shared) (σ:St) (H:Hp) (x:V) (v:Value) (Q:VK),Inv X pins σ H s->RelV x v->r x H Q ->
  wpAny (model X.prog X.w) X.A (f v) (EP X pins σ Q) X.xe s
noncomputable def fK(X:Cx)(f:Value)(r:List V->Hp->VK->Prop):Prop :=
 ∀(pins:List (Addr × Obj)) (s:Shared) (σ:St) (H:Hp) (xs:List V) (us:List Value) (Q:VK),Inv X pins σ H s->Vals xs us->r xs H Q ->
  wpAny (model X.prog X.w) X.A (call f us) (EP X pins σ Q) X.xe s
noncomputable def wG(r:R2)(ta tb:TE):TE:=λσ H Q=>ta σ H λx H1=>tb σ H1 λy H2=>r x y H2 Q
noncomputable def Xd(r:V->Hp->VK->Prop)(ta:TE):TE:=λσ H Q=>ta σ H λx H1=>r x H1 Q
noncomputable def rI(C:Int->Int->Prop)(g:Int->Int->V):R2:=λx y H Q=>∃i j,x=.int i/\y=.int j/\C i j/\Q (g i j) H
noncomputable def g9(g:Int->Int->V):R2:=λx y H Q=>∃i j,x=.int i/\y=.int j/\Q (g i j) H
noncomputable def rU(g:Int->V):V->Hp->VK->Prop:=λx H Q=>∃i,x=.int i/\Q (g i) H
section
variable{X:Cx}{a b c:Expr}{ta tb tc:TE}{pos:Pos}
theorem Ee(ha:PE X a ta)(hb:PE X b tb){pins:List (Addr × Obj)}{s:Shared}{σ:St}{H:Hp}{R:V->V->Hp->Prop}(I:Inv X pins σ H s)
  (h:ta σ H λx H1=>tb σ H1 λy H2=>R x y H2) {Q:Value->Shared->Prop} {f:Value->Value->Sem Value}
  (hf:∀v u s2 x y H2,Inv X pins σ H2 s2->RelV x v->RelV y u->R x y H2->wpAny (model X.prog X.w) X.A (f v u) Q X.xe s2) :
  wpAny (model X.prog X.w) X.A (eval a X.env) (λv bg=>wpAny (model X.prog X.w) X.A (eval b X.env) (λu iz=>wpAny (model X.prog X.w) X.A (f v u) Q X.xe iz) X.xe bg) X.xe s:=by
 refine aE (ha pins s σ H _ I h) λv s1 ⟨x,H1,I1,r1,q1⟩=>?_
 refine aE (hb pins s1 σ H1 _ I1 q1) λu s2 ⟨y,H2,I2,r2,q2⟩=>?_
 exact hf v u s2 x y H2 I2 r1 r2 q2
theorem z8{op:Operator}{r:R2}(ho:cu X (binaryOp op) r)(ha:PE X a ta)(hb:PE X b tb):PE X (.BinOp a op b pos) (wG r ta tb):=by
 intro pins s σ H Q I h
 exact wpAny_BinOp (Ee ha hb I h λv u s2 x y H2 I2 rx ry q=>ho pins s2 σ H2 x y v u Q I2 rx ry q)
theorem Xe{op:UnaryOp}{r:V->Hp->VK->Prop}(ho:Ec X (unaryOp op) r)(ha:PE X a ta):PE X (.UnaryOp op a pos) (Xd r ta):=by
 intro pins s σ H Q I h
 exact UnaryOp_ (aE (ha pins s σ H _ I h) λv s1 ⟨x,H1,I1,r1,q1⟩=>ho pins s1 σ H1 x v Q I1 r1 q1)
theorem wH{f:Value->Value->Sem Value}{C:Int->Int->Prop}{g:Int->Int->Int}
  (rule:∀(i j:Int) (t u:Tok) (s:Shared) (Q:Value->Shared->Prop) (E:Value->Shared->Prop),C i j->Q (.int (g i j) s.toks) { s with toks:=s.toks+1 }->wpAny (model X.prog X.w) X.A (f (.int i t) (.int j u)) Q E s) :
  cu X f (rI C λi j=>.int (g i j)):=by
 intro pins s σ H x y v u Q I rx ry h
 obtain⟨i,j,rfl,rfl,hc,q⟩:=h
 obtain⟨t,rfl⟩:=rx
 obtain⟨t',rfl⟩:=ry
 exact rule i j t t' s _ _ hc ⟨.int (g i j),H,I.tok _,⟨_,rfl⟩,q⟩
theorem oJ{f:Value->Value->Sem Value}{g:Int->Int->Int}
  (rule:∀(i j:Int) (t u:Tok) (s:Shared) (Q:Value->Shared->Prop) (E:Value->Shared->Prop),Q (.int (g i j) s.toks) { s with toks:=s.toks+1 }->wpAny (model X.prog X.w) X.A (f (.int i t) (.int j u)) Q E s) :
  cu X f (g9 λi j=>.int (g i j)):=by
 intro pins s σ H x y v u Q I rx ry h
 obtain⟨i,j,rfl,rfl,q⟩:=h
 obtain⟨t,rfl⟩:=rx
 obtain⟨t',rfl⟩:=ry
 exact rule i j t t' s _ _ ⟨.int (g i j),H,I.tok _,⟨_,rfl⟩,q⟩
theorem z9{f:Value->Value->Sem Value}{g:Int->Int->Bool}
  (rule:∀(i j:Int) (t u:Tok) (s:Shared) (Q:Value->Shared->Prop) (E:Value->Shared->Prop),Q (.bool (g i j)) s->wpAny (model X.prog X.w) X.A (f (.int i t) (.int j u)) Q E s) :
  cu X f (g9 λi j=>.bl (g i j)):=by
 intro pins s σ H x y v u Q I rx ry h
 obtain⟨i,j,rfl,rfl,q⟩:=h
 obtain⟨t,rfl⟩:=rx
 obtain⟨t',rfl⟩:=ry
 exact rule i j t t' s _ _ ⟨.bl (g i j),H,I,rfl,q⟩
noncomputable def oK(i j:Int):Prop:=(-(2 ^ 64)<i/\i<2 ^ 64)\/(-(2 ^ 64)<j/\j<2 ^ 64)
theorem oK.ok{i j:Int}(h:oK i j):IntMulOk i j:=by
 rcases h with⟨h1,h2⟩ | ⟨h1,h2⟩
 ·exact .of_left (intBits_le_64 h1 h2)
 ·exact .of_right (intBits_le_64 h1 h2)
theorem Xf(k:Nat):(0:Int)<=2 ^ k:=by
 rw[two_pow_cast]
 exact MB _
theorem Xg:cu X (binaryOp .Add) (g9 λi j=>.int (i+j)):=oJ λ_ _ _ _ _ _ _ q=>add_int q
theorem Ef:cu X (binaryOp .Sub) (g9 λi j=>.int (i-j)):=oJ λ_ _ _ _ _ _ _ q=>sub_int q
theorem Xh:cu X (binaryOp .Mod) (rI (λ_ j=>0<j) λi j=>.int (i%j)):=wH λi j _ _ _ _ _ hc q=>by
 have h1:(0:Int)<j:=hc
 exact mod_int' (by omega) (by rw[Int.fmod_eq_emod_of_nonneg i (by omega)];exact q)
theorem Xi:cu X (binaryOp .RShift) (rI (λ_ j=>0<=j) λi j=>.int (i/2 ^ j.toNat)):=wH λi j _ _ _ _ _ hc q =>
 rshift_int hc (by rw[VD i (Xf _)];exact q)
theorem Xj:cu X (binaryOp .BitAnd) (g9 λi j=>.int (mJ i j)):=oJ λ_ _ _ _ _ _ _ q=>and_int q
theorem Xk:cu X (binaryOp .BitXor) (g9 λi j=>.int (mK i j)):=oJ λ_ _ _ _ _ _ _ q=>xor_int q
theorem Xl:cu X (inplaceOp .Add) (g9 λi j=>.int (i+j)):=oJ λ_ _ _ _ _ _ _ q=>iadd_int q
theorem Xm:cu X (inplaceOp .Sub) (g9 λi j=>.int (i-j)):=oJ λ_ _ _ _ _ _ _ q=>isub_int q
theorem Xn:cu X (inplaceOp .BitXor) (g9 λi j=>.int (mK i j)):=oJ λ_ _ _ _ _ _ _ q=>ixor_int q
theorem Xo{f:Value->Sem Value}{g:Int->Int}
  (rule:∀(i:Int) (t:Tok) (s:Shared) (Q:Value->Shared->Prop) (E:Value->Shared->Prop),Q (.int (g i) s.toks) { s with toks:=s.toks+1 }->wpAny (model X.prog X.w) X.A (f (.int i t)) Q E s) :
  Ec X f (rU λi=>.int (g i)):=by
 intro pins s σ H x v Q I rx h
 obtain⟨i,rfl,q⟩:=h
 obtain⟨t,rfl⟩:=rx
 exact rule i t s _ _ ⟨.int (g i),H,I.tok _,⟨_,rfl⟩,q⟩
theorem Xp:Ec X (unaryOp .USub) (rU λi=>.int (-i)):=Xo λ_ _ _ _ _ q=>neg_int q
end
noncomputable def Xq:V->V->Bool
 | .ao,.ao=>true | .ao,.int _=>true | .int _,.ao=>true | .ao,.bl _=>true | .bl _,.ao=>true | .ao,.str _=>true | .str _,.ao=>true
 | .int _,.int _=>true | .bl _,.bl _=>true | .str _,.str _=>true | .jT _,.jT _=>true
 | .int _,.str _=>true | .str _,.int _=>true | .bl _,.str _=>true | .str _,.bl _=>true
 | _,_=>false
noncomputable def Xr:R2:=λx y H Q=>Xq x y=true/\Q (.bl (!decide (x=y))) H
theorem Xs{i j:Int}:decide (V.int i=V.int j)=(i==j):=by
 rw[qU]
 simp
theorem Xt{i j:Bool}:decide (V.bl i=V.bl j)=(i==j):=by
 rw[qU]
 simp
theorem Xu{i j:Str}:decide (V.str i=V.str j)=(i==j):=by
 rw[qU]
 simp
theorem Xv{i j:Array UInt8}:decide (V.jT i=V.jT j)=(i.toList==j.toList):=by
 rw[qU]
 cases i
 cases j
 simp
section
variable{X:Cx}{a b c:Expr}{ta tb tc:TE}{pos:Pos}
theorem gr{pins:List (Addr × Obj)}{σ:St}{H:Hp}{s:Shared}{Q:VK}{k k':Bool}(I:Inv X pins σ H s)(q:Q (.bl k) H)(e:k=k'):EP X pins σ Q (.bool k') s:=by
 subst e
 exact⟨.bl k,H,I,rfl,q⟩
theorem Xw:cu X (compareOp .NotEq) Xr:=by
 intro pins s σ H x y v u Q I rx ry h
 obtain⟨hs,q⟩:=h
 cases x with
 | ao =>
  cases rx
  cases y with
  | ao=>cases ry;exact PySem.EqNone.ne_none_none (gr I q (by simp))
  | bl j=>cases ry;exact PySem.EqNone.ne_none_bool (gr I q (by simp))
  | int j=>obtain⟨t',rfl⟩:=ry;exact PySem.EqNone.ne_none_int (gr I q (by simp))
  | str j=>obtain⟨t',rfl⟩:=ry;exact PySem.EqNone.ne_none_str (gr I q (by simp))
  | _=>exact absurd (show false=true from hs) ir
 | bl i =>
  cases rx
  cases y with
  | ao=>cases ry;exact PySem.EqNone.ne_bool_none (gr I q (by simp))
  | bl j=>cases ry;exact ne_bool (gr I q (congrArg not Xt))
  | str j=>obtain⟨t',rfl⟩:=ry;exact PySem.EqMixed.ne_bool_str (gr I q (by simp))
  | _=>exact absurd (show false=true from hs) ir
 | int i =>
  obtain⟨t,rfl⟩:=rx
  cases y with
  | ao=>cases ry;exact PySem.EqNone.ne_int_none (gr I q (by simp))
  | int j=>obtain⟨t',rfl⟩:=ry;exact ne_int (gr I q (congrArg not Xs))
  | str j=>obtain⟨t',rfl⟩:=ry;exact PySem.EqMixed.ne_int_str (gr I q (by simp))
  | _=>exact absurd (show false=true from hs) ir
 | str i =>
  obtain⟨t,rfl⟩:=rx
  cases y with
  | ao=>cases ry;exact PySem.EqNone.ne_str_none (gr I q (by simp))
  | bl j=>cases ry;exact PySem.EqMixed.ne_str_bool (gr I q (by simp))
  | int j=>obtain⟨t',rfl⟩:=ry;exact PySem.EqMixed.ne_str_int (gr I q (by simp))
  | str j=>obtain⟨t',rfl⟩:=ry;exact ne_str (gr I q (congrArg not Xu))
  | _=>exact absurd (show false=true from hs) ir
 | jT i =>
  obtain⟨t,rfl⟩:=rx
  cases y with
  | jT j=>obtain⟨t',rfl⟩:=ry;exact PySem.W.ne_bytes (gr I q (congrArg not Xv))
  | _=>exact absurd (show false=true from hs) ir
 | _=>cases y<;>exact absurd (show false=true from hs) ir
theorem Xx:cu X (compareOp .Lt) (g9 λi j=>.bl (decide (i<j))):=z9 λ_ _ _ _ _ _ _ q=>lt_int q
theorem Xy:cu X (compareOp .LtE) (g9 λi j=>.bl (decide (i<=j))):=z9 λ_ _ _ _ _ _ _ q=>le_int q
theorem Xz:cu X (compareOp .Gt) (g9 λi j=>.bl (decide (j<i))):=z9 λ_ _ _ _ _ _ _ q=>gt_int q
theorem XA:cu X (compareOp .GtE) (g9 λi j=>.bl (decide (j<=i))):=z9 λ_ _ _ _ _ _ _ q=>ge_int q
theorem cu.or{f:Value->Value->Sem Value}{r r':R2}(h:cu X f r)(h':cu X f r'):cu X f (λx y H Q=>r x y H Q\/r' x y H Q):=by
 intro pins s σ H x y v u Q I rx ry q
 rcases q with q | q
 ·exact h pins s σ H x y v u Q I rx ry q
 ·exact h' pins s σ H x y v u Q I rx ry q
theorem bY(b:Expr){op:CmpOp}(h:op≠.In:=by decide)(h2:op≠.NotIn:=by decide):behindInMarks op b=false:=by
 have e1:(op==CmpOp.In)=false:=by cases op<;>first | rfl | exact absurd rfl h
 have e2:(op==CmpOp.NotIn)=false:=by cases op<;>first | rfl | exact absurd rfl h2
 cases b<;>simp[behindInMarks,e1,e2]
theorem XB{op:CmpOp}{r:R2}(ho:cu X (compareOp op) r)(ha:PE X a ta)(hb:PE X b tb)(hm:behindInMarks op b=false):PE X (.Compare a [op] [b] pos) (wG r ta tb):=by
 intro pins s σ H Q I h
 exact wpAny_Compare1 (Ee ha hb I h λv u s2 x y H2 I2 rx ry q=>ho pins s2 σ H2 x y v u Q I2 rx ry q) hm
noncomputable def Nz(t:TE):TT:=λσ H Q=>t σ H λx H'=>∃k,x=.bl k/\Q k H'
theorem NA{op:CmpOp}{r:R2}(ho:cu X (compareOp op) r)(ha:PE X a ta)(hb:PE X b tb)(hm:behindInMarks op b=false):PT X (.Compare a [op] [b] pos) (Nz (wG r ta tb)):=by
 intro pins s σ H Q I h
 refine wpAny_isTrue_Compare1 (aE (ha pins s σ H _ I h) λv s1 ⟨x,H1,I1,r1,q1⟩=>aE (hb pins s1 σ H1 _ I1 q1) λu s2 ⟨y,H2,I2,r2,q2⟩ =>
  aE (ho pins s2 σ H2 x y v u _ I2 r1 r2 q2) λc s3 ⟨z,H3,I3,r3,k,e,q3⟩=>?_) hm
 subst e
 cases r3
 exact wpAny_truthy_bool ⟨H3,I3,q3⟩
noncomputable def NB(r r':R2)(ta tb tc:TE):TE:=λσ H Q=>ta σ H λx H1=>tb σ H1 λy H2=>r x y H2 λz H3=>∃k,z=.bl k /\
 (if k=true then tc σ H3 λw' H4=>r' y w' H4 Q else Q (.bl false) H3)
theorem XC{op oM:CmpOp}{r r':R2}(ho:cu X (compareOp op) r)(jn:cu X (compareOp oM) r')(ha:PE X a ta)(hb:PE X b tb)(hc:PE X c tc)
  (hm:lastMarks [op,oM] [b,c]=false:=by with_unfolding_all rfl):PE X (.Compare a [op,oM] [b,c] pos) (NB r r' ta tb tc):=by
 intro pins s σ H Q I h
 refine Compare_chain (aE (ha pins s σ H _ I h) λv s1 ⟨x,H1,I1,r1,q1⟩=>chain_link (aE (hb pins s1 σ H1 _ I1 q1) λu s2 ⟨y,H2,I2,r2,q2⟩ =>
  aE (ho pins s2 σ H2 x y v u _ I2 r1 r2 q2) λd s3 ⟨z,H3,I3,r3,k,e,q3⟩=>?_)) hm
 subst e
 cases r3
 refine wpAny_truthy_bool ?_
 cases k with
 | false=>exact ite_ff ⟨.bl false,H3,I3,rfl,q3⟩
 | true=>exact ite_tt (chain_last (aE (hc pins s3 σ H3 _ I3 q3) λw' s4 ⟨z',H4,I4,r4,q4⟩=>jn pins s4 σ H4 y z' u w' Q I4 r2 r4 q4))
theorem oN:(sizeLine:Nat)<2 ^ 63:=by rw[sizeLine_eq];decide
theorem XD:cu X (binaryOp .Add) (λx y H Q=>∃i j,x=.str i/\y=.str j/\i.length+j.length<=sizeLine/\Q (.str (i++j)) H):=by
 intro pins s σ H x y v u Q I rx ry h
 obtain⟨i,j,rfl,rfl,hz,q⟩:=h
 obtain⟨t,rfl⟩:=rx
 obtain⟨t',rfl⟩:=ry
 exact add_str (λt' tk=>⟨.str (i++j),H,I.tok _,⟨_,rfl⟩,q⟩) hz
theorem Eg{x:V}{us:List Value}(r:Vals [x] us):∃u,us=[u]/\RelV x u:=by
 cases r with
 | cons r1 r2=>cases r2;exact⟨_,rfl,r1⟩
end
end L2
namespace L2
open PySem PySem.Spec PyProof.Rows
structure oO(h:Heap)(x dx C:Addr)(mA:Str->Option Value):Prop where
 obj:h.get? x=some (PySem.W.instObj C dx)
 ns:h.Ns1 dx mA
 ne:dx≠x
theorem XE{h:Heap}{dx:Addr}{mA:Str->Option Value}(n:h.Ns1 dx mA):∃od,h.get? dx=some od/\∀name,PySem.W.lookIn name od=some (mA name):=by
 obtain⟨o,es,ep,ho,hd,hk,_,hm⟩:=n
 refine⟨o,ho,λname=>?_⟩
 have e:=hm name
 unfold nsFind findBy at e
 rw[<-Array.find?_toList]at e
 unfold PySem.W.lookIn
 rw[hd]
 dsimp only
 split
 ·rename_i y q
  rw[q]at e
  exact congrArg some e
 ·rename_i q
  rw[q]at e
  have a:es.toList.any (·.refKey)=false:=by
   rw[List.any_eq_false]
   intro y hy
   obtain⟨z,t,XF⟩:=hk y (Array.mem_toList_iff.mp hy)
   simp[DictEntry.refKey,XF]
  have a':¬ es.toList.any (·.refKey)=true:=by rw[a];exact ir
  rw[if_neg a']
  exact congrArg some e
theorem oO.look{h:Heap}{x dx C:Addr}{mA:Str->Option Value}(I:oO h x dx C mA):∃od,PySem.W.InstAt h x (PySem.W.instObj C dx) C (some od)/\∀name,PySem.W.lookIn name od=some (mA name) :=
 let⟨od,ho,hl⟩:=XE I.ns
 ⟨od,⟨I.obj,rfl,rfl,ho⟩,hl⟩
section
variable{prog:Program}{w:World}{A:Around}{E:Value->Shared->Prop}{s:Shared}{K:PySem.W.Frag}{x dx C f:Addr}{mA:Str->Option Value}{name:Str}{v:Value}
theorem XG{expr:Bool}{Q:Value->Shared->Prop}(X:K.In s.heap)(I:oO s.heap x dx C mA)(hg:PySem.W.plainGet K C name=true)(hh:PySem.W.hasDictIn K C=true)
  (ha:PySem.W.findIn K (.ref C) name=some none) (hv:mA name=some v) (XH:PySem.W.handedIn v=true) (h:Q v { s with toks:=s.toks+1 }) :
  wpAny (model prog w) A (getAttr (.ref x) name expr) Q E s:=by
 obtain⟨od,J,hl⟩:=I.look
 exact PySem.W.get_value X J (PySem.W.plainGet_of hg).1 (PySem.W.findObj_own hh ha rfl (by rw[hl,hv])) XH h
theorem XI{pl:Sem Bool}{Q:Value × List Value->Shared->Prop}(X:K.In s.heap)(I:oO s.heap x dx C mA)(hg:PySem.W.plainGet K C name=true)
  (hf:PySem.W.findIn K (.ref C) name=some (some (.ref f))) (ht:PySem.W.isFn K (.ref f)=true) (hv:mA name=none) (h:Q (.ref f,[.ref x]) s) :
  wpAny (model prog w) A (getMethod (.ref x) name pl) Q E s:=by
 obtain⟨od,J,hl⟩:=I.look
 exact PySem.W.method_fn X J (PySem.W.plainGet_of hg).1 (PySem.W.plainGet_of hg).2 hf (beq_iff_eq.mp ht) (by show(PySem.W.lookIn name od).map (·.isSome)=some false;rw[hl,hv];rfl) h
theorem XJ{ns:List Str}{Q:Unit->Shared->Prop}(X:K.In s.heap)(I:oO s.heap x dx C mA)
  (hs:PySem.W.findIn K (.ref C) "__setattr__"=some (some (.builtin "object.__setattr__"))) (hp:PySem.W.plainOver K C=true) (ht:PySem.W.takerIn K C name=some none) (hh:PySem.W.hasDictIn K C=true)
  (hw:PySem.Within mA ns) (jZ:ns.length<=sizeLine)
  (h:∀h',oO h' x dx C (λy=>if y=name then some v else mA y)->nY dx s.heap h'->Q () { s with heap:=h',toks:=s.toks+2 }) :
  wpAny (model prog w) A (setAttr (.ref x) name v) Q E s:=by
 obtain⟨od,J,hl⟩:=I.look
 refine PySem.W.set_plain X J hs (PySem.W.osa_open (s:={ s with toks:=s.toks+1 }) (r:=none) X J hp ht λb=>?_)
 obtain⟨cd,hc,wm⟩:=PySem.W.any_some hh
 have hx:s.heap.get? x=some ⟨.ref C,some dx,.plain,#[]⟩:=I.obj
 refine wpAny_bind (wpAny_pure (wpAny_bind (wpAny_bind (wpAny_loadPart hx (wpAny_bind (PySem.W.Looks.here (s:={ s with toks:=s.toks+1 }) (PySem.W.looks_clsIn X hc) ?_))))))
 rw[wm]
 refine wpAny_pure (a:=some dx) (wpAny_bind (wpAny_pure (wpAny_bind ?_)))
 refine wpAny_nsSet1 (s:={ s with toks:=s.toks+1 }) I.ns λh' rF cK=>?_
 obtain⟨oD,esD,epD,XM,XN,kT⟩:=rF.count (PySem.Within.cons name v hw)
 refine wpAny_bind (wpAny_lookBehind XM (by rw[XN];exact pastItsLine_dict (eu kT (by rw[eJ];omega))) ?_)
 exact wpAny_pure (h _ ⟨(cK.2 _ (dA I.ne)).trans I.obj,rF,I.ne⟩ cK)
theorem XO{R:Result->Shared->Prop}{vs:List Value}{kw:List (Str × Value)}(X:K.In s.heap)(hm:PySem.W.makesIn K C=true)
  (hi:PySem.W.findIn K (.ref C) "__init__"=some (some (.ref f))) (hf:PySem.W.typeIn K (.ref f)=some (.type "function"))
  (h:codeAny (model prog w) (A.under (.builtin "type.__call__" ⟨.ref C::vs,kw⟩)) (.call (.ref f) ⟨.ref (s.heap.objs.size+1)::vs,kw⟩) (PySem.W.InitBack (s.heap.objs.size+1) R)
   { s with heap:=(s.heap.push PySem.W.emptyDict).push (PySem.W.instObj C s.heap.objs.size) }) :
  codeAny (model prog w) A (.call (.ref C) ⟨vs,kw⟩) R s:=by
 obtain⟨hh,g,d,t,os⟩:=s
 exact PySem.W.make_core (PySem.W.makes_of X hm) (PySem.W.looks_findIn X hi) (λself=>PySem.W.bind_fn X self hf) (.inl rfl) h
end
noncomputable def eN(f:Str)(v:V):List (Str × V)->List (Str × V)
 | []=>[(f,v)]
 | (g,x)::r=>if g=f then(g,v)::r else(g,x)::eN f v r
theorem NC(f g:Str)(v:V):∀fs:List (Str × V),(eN f v fs).lookup g=if g=f then some v else fs.lookup g
 | []=>by
  show kG g [(f,v)]=_
  by_cases h:g=f
  ·have hb:(g==f)=true:=beq_iff_eq.mpr h
   simp only[kG,hb,if_pos h]
  ·have hb:(g==f)=false:=beq_eq_false_iff_ne.mpr h
   simp only[kG,hb,if_neg h]
 | (k,x)::r=>by
  have ih:=NC f g v r
  rw[show eN f v ((k,x)::r)=(if k=f then(k,v)::r else(k,x)::eN f v r) from rfl]
  by_cases hk:k=f
  ·rw[if_pos hk]
   by_cases h:g=k
   ·have hb:(g==k)=true:=beq_iff_eq.mpr h
    simp only[kG,hb,if_pos (h.trans hk)]
   ·have hb:(g==k)=false:=beq_eq_false_iff_ne.mpr h
    simp only[kG,hb,if_neg (λe:g=f=>h (e.trans hk.symm))]
  ·rw[if_neg hk]
   by_cases h:g=k
   ·have hb:(g==k)=true:=beq_iff_eq.mpr h
    simp only[kG,hb,if_neg (λe:g=f=>hk (h.symm.trans e))]
   ·have hb:(g==k)=false:=beq_eq_false_iff_ne.mpr h
    simp only[kG,hb]
    exact ih
theorem Eh(f:Str)(v:V):∀fs:List (Str × V),f∈(eN f v fs).map (·.1)/\∀g,g∈fs.map (·.1)->g∈(eN f v fs).map (·.1)
 | []=>⟨by simp[eN],λg h=>by simp at h⟩
 | (k,x)::r=>by
  obtain⟨i1,i2⟩:=Eh f v r
  rw[show eN f v ((k,x)::r)=(if k=f then(k,v)::r else(k,x)::eN f v r) from rfl]
  by_cases hk:k=f
  ·rw[if_pos hk]
   subst hk
   exact⟨by simp,λg h=>by simpa using h⟩
  ·rw[if_neg hk]
   refine⟨?_,λg h=>?_⟩
   ·rw[dk]
    exact i3 _ i1
   ·rw[dk]at h ⊢
    rcases bG.mp h with e | e
    ·exact bG.mpr (.inl e)
    ·exact i3 _ (i2 g e)
theorem ND(f:Str)(v:V):∀fs:List (Str × V),(eN f v fs).length<=fs.length+1
 | []=>by simp[eN]
 | (k,x)::r=>by
  have ih:=ND f v r
  rw[show eN f v ((k,x)::r)=(if k=f then(k,v)::r else(k,x)::eN f v r) from rfl]
  by_cases hk:k=f
  ·rw[if_pos hk,eJ,eJ];omega
  ·rw[if_neg hk,eJ,eJ];omega
theorem jU.some_of{v:V}{o:Option Value}(r:jU (some v) o):∃u,o=some u/\RelV v u:=by
 cases o with
 | none=>exact(show False from r).elim
 | some u=>exact⟨u,rfl,r⟩
theorem jU.none_of{o:Option Value}(r:jU none o):o=none:=by
 cases o with
 | none=>rfl
 | some u=>exact(show False from r).elim
theorem XQ{v:V}{u:Value}(r:RelV v u):PySem.W.handedIn u=true:=by
 cases v with
 | ao=>cases(show u=iq from r);rfl
 | bl b=>cases(show u=C9 b from r);rfl
 | int i=>obtain⟨t,e⟩:=(show ∃t,u=fG i t from r);cases e;rfl
 | str x=>obtain⟨t,e⟩:=(show ∃t,u=Value.str x t from r);cases e;rfl
 | jT b=>obtain⟨t,e⟩:=(show ∃t,u=Value.bytes b t from r);cases e;rfl
 | om b=>obtain⟨t,e⟩:=(show ∃t,u=Value.float b t from r);cases e;rfl
 | ref a=>cases(show u=dg a from r);rfl
 | ty n=>cases(show u=iZ n from r);rfl
section
variable{P:Program}{w:World}{H H':Hp}{h h':Heap}{a C dx:Addr}{fs DV:List (Str × V)}
theorem Aa(av:cn P w H h)(e:H a=some (.ins C dx fs)):∃mA,oO h a dx C mA/\(∀f,jU (fs.lookup f) (mA f))/\PySem.Within mA (fs.map (·.1))/\fs.length<=1000/\H dx=some (.own a):=by
 obtain⟨d,z,ne,ob,mA,n,r,q⟩:=(show cM P w H h a (.ins C dx fs) from av a _ e)
 exact⟨mA,⟨ob,n,ne⟩,r,q,z,d⟩
end
structure dq(K:PySem.W.Frag)(C:Addr):Prop where
 pg:PySem.W.plainGet K C Str.empty=true
 hd:PySem.W.hasDictIn K C=true
 po:PySem.W.plainOver K C=true
 sa:PySem.W.findIn K (.ref C) "__setattr__"=some (some (.builtin "object.__setattr__"))
theorem dq.get{K:PySem.W.Frag}{C:Addr}(c:dq K C)(f:Str):PySem.W.plainGet K C f=true:=c.pg
noncomputable def cj(K:PySem.W.Frag)(C:Addr)(f:Str):Prop:=PySem.W.findIn K (.ref C) f=some none
theorem cj.XR{K:PySem.W.Frag}{C:Addr}{f:Str}(n:cj K C f):PySem.W.takerIn K C f=some none:=by
 unfold PySem.W.takerIn
 rw[show PySem.W.findIn K (.ref C) f=some none from n]
 rfl
structure Meth(K:PySem.W.Frag)(C:Addr)(m:Str)(f:Addr):Prop where
 at_:PySem.W.findIn K (.ref C) m=some (some (.ref f))
 fn:PySem.W.isFn K (.ref f)=true
 kp:PySem.W.keepIn K (.ref f)=true
section
variable{X:Cx}{pins:List (Addr × Obj)}{σ:St}{H:Hp}{s:Shared}{a C dx:Addr}{fs:List (Str × V)}{f:Str}{v:V}{A:Around}{E:Value->Shared->Prop}
theorem XS{b:Bool}{Q:Value->Shared->Prop}(I:Inv X pins σ H s)(e:H a=some (.ins C dx fs))(c:dq X.K C)(n:cj X.K C f)(l:fs.lookup f=some v)
  (h:∀u s',Inv X pins σ H s'->RelV v u->Q u s'):wpAny (model X.prog X.w) A (getAttr (.ref a) f b) Q E s:=by
 obtain⟨mA,O,r,_,_,_⟩:=Aa I.av e
 obtain⟨u,hu,ru⟩:=jU.some_of (v:=v) (o:=mA f) (by rw[<-l];exact r f)
 exact XG I.cB O (c.get f) c.hd n hu (XQ ru) (h u _ (I.tok _) ru)
theorem Ei{m:Str}{g:Addr}{pl:Sem Bool}{Q:Value × List Value->Shared->Prop}(I:Inv X pins σ H s)(e:H a=some (.ins C dx fs))(c:dq X.K C)(k:Meth X.K C m g)(l:fs.lookup m=none)
  (h:Q (.ref g,[.ref a]) s):wpAny (model X.prog X.w) A (getMethod (.ref a) m pl) Q E s:=by
 obtain⟨mA,O,r,_,_,_⟩:=Aa I.av e
 have hn:mA m=none:=jU.none_of (by rw[<-l];exact r m)
 exact XI I.cB O (c.get m) k.at_ k.fn hn h
theorem XT{y:V}{u:Value}{Q:Unit->Shared->Prop}(I:Inv X pins σ H s)(e:H a=some (.ins C dx fs))(c:dq X.K C)(n:cj X.K C f)(hl:fs.length<1000)(ry:RelV y u)
  (h:∀s',Inv X pins σ (upd H a (.ins C dx (eN f y fs))) s'->Q () s'):wpAny (model X.prog X.w) A (setAttr (.ref a) f u) Q E s:=by
 obtain⟨mA,O,r,wi,_,ho⟩:=Aa I.av e
 have hz:(fs.map (·.1)).length<=sizeLine:=by rw[cQ,sizeLine_eq];omega
 refine XJ I.cB O c.sa c.po n.XR c.hd wi hz λh' O' sb=>h _ ?_
 have hd:∃o,h'.get? dx=some o:=let⟨o,_,_,e',_⟩:=O'.ns;⟨o,e'⟩
 refine I.write (x:=a) (e:=dx) (by rw[e];exact qV) (.inr ho) (λb q hb z=>(sb.2 b hb).trans z) hd ?_
 refine⟨by rw[aN O.ne];exact ho,?_,O.ne,O'.obj,_,O'.ns,λg=>?_,λg hg=>?_⟩
 ·have:=ND f y fs;omega
 ·show jU ((eN f y fs).lookup g) (if g=f then some u else mA g)
  rw[NC]
  by_cases q:g=f
  ·rw[if_pos q,if_pos q];exact ry
  ·rw[if_neg q,if_neg q];exact r g
 ·by_cases q:g=f
  ·rw[q];exact(Eh f y fs).1
  ·refine(Eh f y fs).2 g (wi g λz=>hg ?_)
   show(if g=f then some u else mA g)=none
   rw[if_neg q];exact z
theorem Inv.made(I:Inv X pins σ H s):Inv X pins σ (upd (upd H s.heap.objs.size (.own (s.heap.objs.size+1))) (s.heap.objs.size+1) (.ins C s.heap.objs.size []))
  { s with heap:=(s.heap.push PySem.W.emptyDict).push (PySem.W.instObj C s.heap.objs.size) }:=by
 have e1:(s.heap.push PySem.W.emptyDict).get? s.heap.objs.size=some PySem.W.emptyDict:=cS s.heap rfl
 have e2:((s.heap.push PySem.W.emptyDict).push (PySem.W.instObj C s.heap.objs.size)).get? (s.heap.objs.size+1)=some (PySem.W.instObj C s.heap.objs.size):=by
  have:=cS (s.heap.push PySem.W.emptyDict) (o:=PySem.W.instObj C s.heap.objs.size) rfl
  rwa [kH]at this
 have e3:(s.heap.push PySem.W.emptyDict).Ns s.heap.objs.size (λ_=>none):=⟨PySem.W.emptyDict,#[],_,e1,rfl,(λe he=>absurd he (by simp)),λ_=>rfl⟩
 have I1:=I.laid (a:=s.heap.objs.size) (o:=.own (s.heap.objs.size+1)) (h':=s.heap.push PySem.W.emptyDict) (t':=s.toks) (λb u q=>bK _ q) (aY _) ⟨_,e1⟩
 refine I1.laid (a:=s.heap.objs.size+1) (o:=.ins C s.heap.objs.size []) (t':=s.toks) (λb u q=>bK _ q) (MC (kH _ _)) ?_
 have ne:s.heap.objs.size≠s.heap.objs.size+1:=cy (vS _)
 refine⟨by rw[aN ne,bV],gi _,ne,e2,λ_=>none,(Heap.Ns1.of_empty e3).at λo q=>bK _ q,λ_=>qV,λy hy=>absurd rfl hy⟩
theorem XU{prog:Program}{w:World}{env:Env}{e:Expr}{f:Str}{pos:Pos}{s:Shared}{Q:Value->Shared->Prop}(hb:attributeBase e f env (eval e env)=eval e env)
  (h:wpAny (model prog w) A (eval e env) (λo bg=>wpAny (model prog w) A (getAttr o f true) Q E bg) E s):wpAny (model prog w) A (eval (.Attribute e f pos) env) Q E s :=
 Attribute_any_ h (by rw[arm_eval_Attribute,hb])
end
noncomputable def XW(K:PySem.W.Frag)(ta:TE)(f:Str):TE:=λσ H Q=>ta σ H λx H1=>∃a C dx fs v,x=.ref a/\H1 a=some (.ins C dx fs)/\dq K C/\cj K C f/\fs.lookup f=some v/\Q v H1
noncomputable def XX(K:PySem.W.Frag)(ta tv:TE)(f:Str):TS:=λD σ H=>tv σ H λy H1=>ta σ H1 λx H2=>∃a C dx fs,x=.ref a/\H2 a=some (.ins C dx fs)/\dq K C/\cj K C f/\fs.length<1000 /\
 D.nx σ (upd H2 a (.ins C dx (eN f y fs)))
section
variable{X:Cx}{o e value:Expr}{f:Str}{pos pos' kU:Pos}{ta tv:TE}
theorem Ab(he:PE X e ta)(hb:attributeBase e f X.env (eval e X.env)=eval e X.env):PE X (.Attribute e f pos) (XW X.K ta f):=by
 intro pins s σ H Q I h
 refine XU hb (aE (he pins s σ H _ I h) λu s1 ⟨x,H1,I1,rx,a,C,dx,fs,v,ex,ea,c,n,l,q⟩=>?_)
 subst ex
 obtain rfl:u=dg a:=rx
 exact XS I1 ea c n l λu' s2 I2 ru=>⟨v,H1,I2,ru,q⟩
theorem m5(ha:PE X o ta)(hv:PE X value tv)(hs:swapsWith value (some (.Attribute o f pos')) pos.line X.env=pure false):PS X (.Assign [.Attribute o f pos'] value pos) (XX X.K ta tv f):=by
 intro pins s σ H D I h
 refine plainObj_wpAny_Assign_Attribute (aE (hv pins s σ H _ I h) λu s1 ⟨y,H1,I1,ry,q⟩=>aE (ha pins s1 σ H1 _ I1 q) λov s2 ⟨x,H2,I2,rx,a,C,dx,fs,ex,ea,c,n,l,q2⟩=>?_) hs
 subst ex
 obtain rfl:ov=dg a:=rx
 exact XT I2 ea c n l ry λs3 I3=>⟨σ,_,I3,q2⟩
end
section
variable{X:Cx}{pins:List (Addr × Obj)}{σ:St}{H:Hp}{s:Shared}{A:Around}{E:Value->Shared->Prop}{Q:Value->Shared->Prop}{c:Value}{b:Bool}
inductive fL(K:PySem.W.Frag)(H:Hp):V->Value->Prop where
 | ao:fL K H .ao (.type "NoneType")
 | bl (x:Bool):fL K H (.bl x) (.type "bool")
 | int (i:Int):fL K H (.int i) (.type "int")
 | str (x:Str):fL K H (.str x) (.type "str")
 | om (x:UInt64):fL K H (.om x) (.type "float")
 | lst {a:Addr} {xs:List V} (e:H a=some (.lst xs)):fL K H (.ref a) (.type "list")
 | bO {a:Addr} {o:Obj} {xs:List V} (e:H a=some (.bO o (.lst xs))):fL K H (.ref a) (.type "list")
 | tup {a:Addr} {xs:List V} (e:H a=some (.tup xs)):fL K H (.ref a) (.type "tuple")
 | dK {a:Addr} {cT:List (Key × V)} (e:H a=some (.dK cT)):fL K H (.ref a) (.type "dict")
 | dT {a:Addr} {cT:List (List Key × V)} (e:H a=some (.dT cT)):fL K H (.ref a) (.type "dict")
 | ins {a C dx:Addr} {fs:List (Str × V)} (e:H a=some (.ins C dx fs)) (cl:dq K C) (ha:PySem.W.findIn K (.ref C) "__class__"=some (some (.builtin "object.__class__")))
   (hn:PySem.W.specialIn K (.builtin "object.__class__") "__get__"=some (some (.builtin "getset_descriptor.__get__"))) (Ej:PySem.W.takesIn K (.builtin "object.__class__")=some true)
   (hm:PySem.W.mroIn K C (.type "object")=some true):fL K H (.ref a) (.ref C)
theorem NF{x:V}{u t:Value}(I:Inv X pins σ H s)(rx:RelV x u)(ty:fL X.K H x t)(e:PySem.W.kitOne X.K t c=some b)(h:∀tk,Q (.bool b) { s with toks:=tk }) :
  wpAny (model X.prog X.w) A (call (.builtin "isinstance") [u,c]) Q E s:=by
 cases ty with
 | ao=>cases(show u=iq from rx);exact PySem.W.kia_one PySem.W.kitx_none I.cB qV e (λz=>nomatch z) h
 | bl y=>cases(show u=C9 y from rx);exact PySem.W.kia_one PySem.W.kitx_bool I.cB qV e (λz=>nomatch z) h
 | int i=>obtain⟨t,q⟩:=(show ∃t,u=fG i t from rx);cases q;exact PySem.W.kia_one PySem.W.kitx_int I.cB qV e (λz=>nomatch z) h
 | str y=>obtain⟨t,q⟩:=(show ∃t,u=Value.str y t from rx);cases q;exact PySem.W.kia_one PySem.W.kitx_str I.cB qV e (λz=>nomatch z) h
 | om y=>obtain⟨t,q⟩:=(show ∃t,u=Value.float y t from rx);cases q;exact PySem.W.kia_one PySem.W.kitx_float I.cB qV e (λz=>nomatch z) h
 | @lst a xs ea =>
  cases(show u=dg a from rx)
  obtain⟨_,_,n,_,h1⟩:=(show cM X.prog X.w H s.heap a (.lst xs) from I.av a _ ea)
  exact PySem.W.kia_one PySem.W.kitx_list I.cB ⟨_,h1,rfl⟩ e (λz=>nomatch z) h
 | @bO a ob xs ea =>
  cases(show u=dg a from rx)
  obtain⟨_,_,_,n,_,h1⟩:=(show cM X.prog X.w H s.heap a (.bO ob (.lst xs)) from I.av a _ ea)
  exact PySem.W.kia_one PySem.W.kitx_list I.cB ⟨_,h1,rfl⟩ e (λz=>nomatch z) h
 | @tup a xs ea =>
  cases(show u=dg a from rx)
  obtain⟨_,_,_,p⟩:=(show cM X.prog X.w H s.heap a (.tup xs) from I.av a _ ea)
  obtain⟨o,h1,h2,_⟩:=p
  exact PySem.W.kia_one PySem.W.kitx_tuple I.cB ⟨o,h1,h2⟩ e (λz=>nomatch z) h
 | @dK a cT ea =>
  cases(show u=dg a from rx)
  obtain⟨_,_,vs,_,p⟩:=(show cM X.prog X.w H s.heap a (.dK cT) from I.av a _ ea)
  obtain⟨o,es,ep,h1,h2,_⟩:=p
  exact PySem.W.kia_one PySem.W.kitx_dict I.cB ⟨o,h1,h2.1⟩ e (λz=>nomatch z) h
 | @dT a cT ea =>
  cases(show u=dg a from rx)
  obtain⟨_,_,xs,_,o,es,ep,h1,h2,_⟩:=(show cM X.prog X.w H s.heap a (.dT cT) from I.av a _ ea)
  exact PySem.W.kia_one PySem.W.kitx_dict I.cB ⟨o,h1,h2.1⟩ e (λz=>nomatch z) h
 | @ins a C dx fs ea cl ha hn Ej hm =>
  cases(show u=dg a from rx)
  obtain⟨mA,O,_⟩:=Aa I.av ea
  obtain⟨od,J,_⟩:=O.look
  exact PySem.W.kia_one (PySem.W.kitx_own (cl.get _) cl.hd ha hn Ej hm) I.cB J e (λz=>nomatch z) h
end
end L2
namespace L2
open PySem PySem.Spec PyProof.Rows
structure bH(k:Nat)(A:Around):Prop where
 hd:A.handled=none
 dp:A.depth+3*k+5<recursionLimit
 un:A.units+16*k+200<cLine
theorem bH.mono{j k:Nat}{A:Around}(r:bH k A)(h:j<=k):bH j A:=⟨r.hd,by have:=r.dp;omega,by have:=r.un;omega⟩
theorem bH.deeper{k:Nat}{A:Around}(r:bH (k+1) A)(env:Env):bH k (A.deeper env) :=
 ⟨r.hd,by have:=r.dp;show A.depth+1+3*k+5<_;omega,by have:=r.un;show A.units+3+16*k+200<_;omega⟩
theorem bH.in1{k:Nat}{A:Around}(r:bH (k+1) A):bH k A.in1 :=
 ⟨r.hd,by have:=r.dp;show A.depth+3*k+5<_;omega,by have:=r.un;show A.units+1+16*k+200<_;omega⟩
theorem XY{A:Around}{C:Addr}{us:List Value}{kw:List (Str × Value)}:(A.under (.builtin "type.__call__" ⟨.ref C::us,kw⟩)).depth=A.depth+1:=by
 first | rfl | simp[Around.under,Code.weight,Code.isCreation,Code.isGuard,Code.isCaller,Code.frames,Code.isFrame,guardIds]
theorem XZ{A:Around}{C:Addr}{us:List Value}{kw:List (Str × Value)}:(A.under (.builtin "type.__call__" ⟨.ref C::us,kw⟩)).units=A.units+1:=by
 first | rfl | simp[Around.under,Code.cUnits,Code.frames,Code.isFrame]
theorem bH.make{k:Nat}{A:Around}(r:bH (k+1) A)(C:Addr)(us:List Value)(kw:List (Str × Value)):bH k (A.under (.builtin "type.__call__" ⟨.ref C::us,kw⟩)) :=
 ⟨r.hd,by have:=r.dp;rw[XY];omega,by have:=r.un;rw[XZ];omega⟩
theorem bH.depth{k:Nat}{A:Around}(r:bH k A):A.depth<recursionLimit:=by have:=r.dp;omega
theorem bH.units{k:Nat}{A:Around}(r:bH k A):A.units+64<cLine:=by have:=r.un;omega
noncomputable def X0:TA:=λ_ H Q=>Q [] H
noncomputable def X1(ta:TE)(tr:TA):TA:=λσ H Q=>ta σ H λx H1=>tr σ H1 λxs H2=>Q (x::xs) H2
section
variable{X:Cx}{e:Expr}{es:List Expr}{te:TE}{t:TA}{pos:Pos}
theorem gu:PA X [] X0:=λ_ _ _ _ H Q I h=>Df ⟨[],H,I,.nil,h⟩
theorem dO(ha:PE X e te)(hr:PA X es t)(hs:starEach (e::es) X.env=(false,eval e X.env)::starEach es X.env:=by rfl):PA X (e::es) (X1 te t):=by
 intro pos pins s σ H Q I h
 rw[hs]
 show wpAny _ _ (spliced ((false,eval e X.env)::backTo pos (starEach es X.env))) _ _ s
 refine Dg (aE (ha pins s σ H _ I h) λu s1 ⟨x,H1,I1,r1,q1⟩=>?_)
 exact aE (hr pos pins s1 σ H1 _ I1 q1) λus s2 ⟨xs,H2,I2,r2,q2⟩=>⟨x::xs,H2,I2,.cons r1 r2,q2⟩
noncomputable def X2(t:TA):TE:=λσ H Q=>t σ H λxs H1=>xs.length<=sizeLine/\∀p,H1 p=none->Q (.ref p) (upd H1 p (.tup xs))
noncomputable def X3(t:TA):TE:=λσ H Q=>t σ H λxs H1=>xs.length<=sizeLine/\∀p,H1 p=none->Q (.ref p) (upd H1 p (.lst xs))
theorem X4{x1}(h:PA X es t):PE X (.Tuple es x1 pos) (X2 t):=by
 intro pins s σ H Q I hq
 refine wpAny_Tuple_spliced (aE (h pos pins s σ H _ I hq) λus s1 ⟨xs,H1,I1,r,z,q⟩=>⟨by rw[<-r.length];exact z,?_⟩)
 have hf:H1 s1.heap.objs.size=none:=I1.av.fresh (aY _)
 refine⟨.ref s1.heap.objs.size,upd H1 s1.heap.objs.size (.tup xs),I1.laid (t':=s1.toks) (λb u e=>bK _ e) (aY _) ?_,rfl,q _ hf⟩
 exact⟨z,us,r,⟨_,cS _ rfl,rfl,_,rfl⟩⟩
theorem X5(h:PA X es t):PE X (.List es pos) (X3 t):=by
 intro pins s σ H Q I hq
 refine wpAny_List_spliced (aE (h pos pins s σ H _ I hq) λus s1 ⟨xs,H1,I1,r,z,q⟩=>⟨by rw[<-r.length];exact z,?_⟩)
 have hf:H1 s1.heap.objs.size=none:=I1.av.fresh (aY _)
 refine⟨.ref s1.heap.objs.size,upd H1 s1.heap.objs.size (.lst xs),I1.laid (t':=s1.toks) (λb u e=>bK _ e) (aY _) ?_,rfl,q _ hf⟩
 exact⟨z,us,0,r,cS _ rfl⟩
end
noncomputable abbrev Sp:=List V->Hp->VK->XK->Prop
noncomputable abbrev dP:=List Env->Hp->Shared->XK->Value->Shared->Prop
structure fw(P:Program)(w:World)(K:PySem.W.Frag)(mg:Str->Option Value)(base:Heap)(A:Around)(outer:List Env)(s:Shared)(H:Hp):Prop where
 frames:A.frames=some outer
 mod:Mod K mg base
 bs:∀b o,base.get? b=some o->s.heap.get? b=some o/\H b=none
 fJ:base.objs.size<=s.heap.objs.size
 eM:s.heap.FunFrames base outer
 gn:∀b∈cU outer,H b=none
 av:cn P w H s.heap
 bare:AllBare s.gens
noncomputable def CE(outer:List Env)(P:Program)(w:World)(H:Hp)(s:Shared)(Q:VK)(u:Value)(s':Shared):Prop :=
 ∃v H',s'.os=s.os/\AllBare s'.gens/\Un (cU outer) [] H H' s.heap s'.heap/\cn P w H' s'.heap/\RelV v u/\Q v H'
noncomputable def CR(CX:dP)(outer:List Env)(P:Program)(w:World)(H:Hp)(s:Shared)(Q:VK)(E:XK)(r:Result)(s':Shared):Prop :=
 match r with
 | .ok (.ret u)=>CE outer P w H s Q u s'
 | .ok _=>False
 | .error e=>CX outer H s E e s'
structure aO(P:Program)(w:World)(K:PySem.W.Frag)(mg:Str->Option Value)(base:Heap)(CX:dP)(k:Nat)(f:Addr)(fd:FuncData)(ps:List Str)(sp:Sp):Prop where
 len:∀vs H Q E,sp vs H Q E->vs.length=ps.length
 run:∀(A:Around) (outer:List Env) (s:Shared) (H:Hp) (args:Args) (us:List Value) (vs:List V) (Q:VK) (E:XK),bH k A->fw P w K mg base A outer s H->BindsTo s fd args (ps.zip us)->Vals vs us->sp vs H Q E ->
  codeAny (model P w) A (.call (.ref f) args) (CR CX outer P w H s Q E) s
theorem aO.mono{P:Program}{w:World}{K:PySem.W.Frag}{mg:Str->Option Value}{base:Heap}{CX:dP}{j k:Nat}{f:Addr}{fd:FuncData}{ps:List Str}{sp:Sp}(F:aO P w K mg base CX j f fd ps sp)(h:j<=k) :
  aO P w K mg base CX k f fd ps sp:=⟨F.len,λA outer s H args us vs Q E hr=>F.run A outer s H args us vs Q E (hr.mono h)⟩
theorem aO.imp{P:Program}{w:World}{K:PySem.W.Frag}{mg:Str->Option Value}{base:Heap}{CX:dP}{k:Nat}{f:Addr}{fd:FuncData}{ps:List Str}{sp NG:Sp}(F:aO P w K mg base CX k f fd ps sp)
  (h:∀vs H Q E,NG vs H Q E->sp vs H Q E):aO P w K mg base CX k f fd ps NG :=
 ⟨λvs H Q E q=>F.len vs H Q E (h _ _ _ _ q),λA outer s H args us vs Q E hr he hb hv hs=>F.run A outer s H args us vs Q E hr he hb hv (h _ _ _ _ hs)⟩
theorem fw.make{P:Program}{w:World}{K:PySem.W.Frag}{mg:Str->Option Value}{base:Heap}{A:Around}{outer:List Env}{s:Shared}{H:Hp}(e:fw P w K mg base A outer s H)(C:Addr)(us:List Value)(kw:List (Str × Value)) :
  fw P w K mg base (A.under (.builtin "type.__call__" ⟨.ref C::us,kw⟩)) outer s H:=⟨by first | exact e.frames | (simpa[Around.under,Code.envs,Code.isFrame,pushEnvs]using e.frames),e.mod,e.bs,e.fJ,e.eM,e.gn,e.av,e.bare⟩
theorem fw.in1{P:Program}{w:World}{K:PySem.W.Frag}{mg:Str->Option Value}{base:Heap}{A:Around}{outer:List Env}{s:Shared}{H:Hp}(e:fw P w K mg base A outer s H) :
  fw P w K mg base A.in1 outer s H:=⟨e.frames,e.mod,e.bs,e.fJ,e.eM,e.gn,e.av,e.bare⟩
section
variable{X:Cx}{pins:List (Addr × Obj)}{σ:St}{H:Hp}{s s':Shared}
theorem Inv.rG(I:Inv X pins σ H s):fw X.prog X.w X.K X.mg X.base X.A X.stack s H :=
 ⟨I.ok.frames,I.ok.mod,I.bs,eu I.ok.fJ I.sz,I.stack,I.zU,I.av,I.bare⟩
theorem Inv.after{Q:VK}{u:Value}(I:Inv X pins σ H s)(h:CE X.stack X.prog X.w H s Q u s'):EP X pins σ Q u s':=by
 obtain⟨v,H',os,bare,un,av,r,q⟩:=h
 obtain⟨hh,g,d,t,X6⟩:=s'
 obtain rfl:X6=s.os:=os
 exact⟨v,H',I.call (h':=hh) (g':=g) (d':=d) (t':=t) (ch:=[]) un av bare (λb z=>absurd z (by simp)),r,q⟩
end
noncomputable def X7(sp:Sp)(eO:List V)(E:XK)(t:TA):TE:=λσ H Q=>t σ H λvs H1=>sp (vs++eO) H1 Q E
noncomputable def X8(C:Addr)(m:Str)(sp:Sp)(eO:List V)(E:XK)(ta:TE)(t:TA):TE:=λσ H Q=>ta σ H λx H1=>∃a dx fs,x=.ref a/\H1 a=some (.ins C dx fs)/\fs.lookup m=none /\
 t σ H1 λvs H2=>sp (x::(vs++eO)) H2 Q E
noncomputable def X9(C:Addr)(sp:Sp)(eO:List V)(E:XK)(t:TA):TE:=λσ H Q=>t σ H λvs H1=>∀x dx,H1 x=none->H1 dx=none->dx≠x ->
 sp (.ref x::(vs++eO)) (upd (upd H1 dx (.own x)) x (.ins C dx [])) (λv H2=>v=.ao/\Q (.ref x) H2) E
noncomputable def Binds(K:PySem.W.Frag)(fd:FuncData)(ps:List Str)(ds:List Value):Prop :=
 ∀(s:Shared) (us:List Value),K.In s.heap->(us++ds).length=ps.length->BindsTo s fd ⟨us,[]⟩ (ps.zip (us++ds))
theorem Binds.all{K:PySem.W.Frag}{fd:FuncData}{ps:List Str}(h:∀us:List Value,us.length=ps.length->bindArgs fd ⟨us,[]⟩=pure (ps.zip us)):Binds K fd ps []:=λs us _ hl=>by
 rw[jP]at hl ⊢
 exact .of_eq (h us hl)
noncomputable def j0(CX:dP)(X:Cx)(E:XK):Prop:=∀(pins:List (Addr × Obj)) (σ:St) (H:Hp) (s:Shared) (e:Value) (s':Shared),Inv X pins σ H s->CX X.stack H s E e s'->X.xe e s'
section
variable{X:Cx}{CX:dP}{k:Nat}{f C:Addr}{fd:FuncData}{ps:List Str}{sp:Sp}{eO:List V}{ds:List Value}{E:XK}{x m:Str}{p pos apos:Pos}{e o:Expr}{es:List Expr}{ta:TE}{t:TA}
theorem Ek{pins:List (Addr × Obj)}{σ:St}{H:Hp}{s:Shared}{Q:VK}{us:List Value}{vs:List V}(F:aO X.prog X.w X.K X.mg X.base CX k f fd ps sp)(hr:bH k X.A)(hb:Binds X.K fd ps ds)(hd:Vals eO ds)(hx:j0 CX X E)
  (I:Inv X pins σ H s) (r:Vals vs us) (h:sp (vs++eO) H Q E):wpAny (model X.prog X.w) X.A (call (.ref f) us) (EP X pins σ Q) X.xe s:=by
 have r2:Vals (vs++eO) (us++ds):=r.append hd
 have hl:(us++ds).length=ps.length:=by rw[<-r2.length];exact F.len _ _ _ _ h
 refine wpAny_call (codeAny_mono (F.run X.A X.stack s H ⟨us,[]⟩ (us++ds) (vs++eO) Q E hr I.rG (hb s us I.cB hl) r2 h) λr s' hq=>?_)
 cases r with
 | error e=>exact hx pins σ H s e s' I hq
 | ok fl =>
  cases fl with
  | ret u=>exact I.after hq
  | next=>exact dB hq
  | brk=>exact dB hq
  | cont=>exact dB hq
theorem oQ(F:aO X.prog X.w X.K X.mg X.base CX k f fd ps sp)(hr:bH k X.A)(hg:Gl X x)(hm:X.mg x=some (.ref f))(hk:PySem.W.keepIn X.K (.ref f)=true)(hb:Binds X.K fd ps ds)(hd:Vals eO ds)(hx:j0 CX X E)
  (ha:PA X (e::es) t) (cZ:(x==("__debug__":Str))=false:=by decide) (he:starEach (e::es) X.env=(false,eval e X.env)::starEach es X.env:=by rfl) (aW:(backTo pos (starEach es X.env)).any (·.1)=false:=by rfl) :
  PE X (.Call (.Name x p) (e::es) [] pos) (X7 sp eO E t):=by
 intro pins s σ H Q I h
 refine wpAny_Call_Name_kw (oG I hg hm ?_ cZ)
 refine PySem.W.callWith_K (h₀:=X.base) I.ok.mod.jW hk (aE (ha pos pins s σ H _ I h) λus s1 ⟨vs,H1,I1,r,q⟩=>⟨I1.cB,?_⟩) he aW
 exact Ek F hr hb hd hx I1 r q
theorem Ya{pl:Sem Bool}(he:PE X o ta)(c:dq X.K C)(hm:Meth X.K C m f)(F:aO X.prog X.w X.K X.mg X.base CX k f fd ps sp)(hr:bH k X.A)(hb:Binds X.K fd ps ds)(hd:Vals eO ds)(hx:j0 CX X E)(ha:PA X (e::es) t)
  (bW:starEach (e::es) X.env=(false,eval e X.env)::starEach es X.env:=by rfl) (aW:(backTo pos (starEach es X.env)).any (·.1)=false:=by rfl)
  (ht:eval (.Call (.Attribute o m apos) (e::es) [] pos) X.env=(do
   let ov<-eval o X.env
   standAt apos.atName
   let (f,first)<-holding [ov] (getMethod ov m pl)
   callWith pos f first (backTo pos (starEach (e::es) X.env)) (backToKw pos (keywordEach [] X.env))):=by rfl) :
  PE X (.Call (.Attribute o m apos) (e::es) [] pos) (X8 C m sp eO E ta t):=by
 intro pins s σ H Q I h
 refine PySem.W.methodCall_KW (pl:=pl) (aE (he pins s σ H _ I h) λu s1 ⟨x,H1,I1,rx,a,dx,fs,ex,ea,l,q⟩=>?_) ht
 subst ex
 obtain rfl:u=dg a:=rx
 refine Ei I1 ea c hm l ?_
 refine PySem.W.callWith_K (first:=[.ref a]) (h₀:=X.base) I.ok.mod.jW hm.kp (aE (ha pos pins s1 σ H1 _ I1 q) λus s2 ⟨vs,H2,I2,r,q2⟩=>⟨I2.cB,?_⟩) bW aW
 exact Ek (us:=.ref a::us) (vs:=.ref a::vs) F hr hb hd hx I2 (.cons rfl r) q2
structure Mk(K:PySem.W.Frag)(C f:Addr):Prop where
 makes:PySem.W.makesIn K C=true
 init:PySem.W.findIn K (.ref C) "__init__"=some (some (.ref f))
 fn:PySem.W.isFn K (.ref f)=true
 kp:PySem.W.keepIn K (.ref C)=true
theorem Yb{pins:List (Addr × Obj)}{σ:St}{H:Hp}{s:Shared}{Q:VK}{us:List Value}{vs:List V}(M:Mk X.K C f)(F:aO X.prog X.w X.K X.mg X.base CX k f fd ps sp)(hr:bH (k+1) X.A)(hb:Binds X.K fd ps ds)(hd:Vals eO ds)
  (hx:j0 CX X E) (I:Inv X pins σ H s) (r:Vals vs us)
  (h:∀x dx,H x=none->H dx=none->dx≠x->sp (.ref x::(vs++eO)) (upd (upd H dx (.own x)) x (.ins C dx [])) (λv H2=>v=.ao/\Q (.ref x) H2) E) :
  wpAny (model X.prog X.w) X.A (call (.ref C) us) (EP X pins σ Q) X.xe s:=by
 have hq:=h (s.heap.objs.size+1) s.heap.objs.size (I.av.fresh (ze _)) (I.av.fresh (aY _)) (cy (vS _))
 have I2:=Inv.made (C:=C) I
 have r2:Vals (V.ref (s.heap.objs.size+1)::(vs++eO)) (dg (s.heap.objs.size+1)::(us++ds)):=.cons rfl (r.append hd)
 have hl:(dg (s.heap.objs.size+1)::us++ds).length=ps.length:=by
  have e:=r2.length
  rw[F.len _ _ _ _ hq]at e
  exact e.symm
 refine wpAny_call (XO (f:=f) I.cB M.makes M.init (beq_iff_eq.mp M.fn) (codeAny_mono (F.run _ X.stack _ _ ⟨dg (s.heap.objs.size+1)::us,[]⟩ (dg (s.heap.objs.size+1)::(us++ds)) _ _ E (hr.make C us [])
  (I2.rG.make C us []) (hb _ (dg (s.heap.objs.size+1)::us) I2.cB hl) r2 hq) λr s' kW=>?_))
 cases r with
 | error e=>exact hx pins σ _ _ e s' I2 kW
 | ok fl =>
  cases fl with
  | ret u =>
   obtain⟨v,H',I3,rv,ev,q3⟩:=I2.after kW
   subst ev
   exact⟨rv,⟨V.ref (s.heap.objs.size+1),H',I3,rfl,q3⟩⟩
  | next=>exact dB kW
  | brk=>exact dB kW
  | cont=>exact dB kW
theorem Yc(M:Mk X.K C f)(F:aO X.prog X.w X.K X.mg X.base CX k f fd ps sp)(hr:bH (k+1) X.A)(hg:Gl X x)(hm:X.mg x=some (.ref C))(hb:Binds X.K fd ps ds)(hd:Vals eO ds)(hx:j0 CX X E)
  (ha:PA X (e::es) t) (cZ:(x==("__debug__":Str))=false:=by decide) (he:starEach (e::es) X.env=(false,eval e X.env)::starEach es X.env:=by rfl) (aW:(backTo pos (starEach es X.env)).any (·.1)=false:=by rfl) :
  PE X (.Call (.Name x p) (e::es) [] pos) (X9 C sp eO E t):=by
 intro pins s σ H Q I h
 refine wpAny_Call_Name_kw (oG I hg hm ?_ cZ)
 refine PySem.W.callWith_K (h₀:=X.base) I.ok.mod.jW M.kp (aE (ha pos pins s σ H _ I h) λus s1 ⟨vs,H1,I1,r,q⟩=>⟨I1.cB,?_⟩) he aW
 exact Yb M F hr hb hd hx I1 r q
end
section
variable{X:Cx}{CX:dP}{k:Nat}{f C:Addr}{fd:FuncData}{ps ks:List Str}{sp:Sp}{E:XK}{x m:Str}{p pos apos ec7:Pos}{e o:Expr}{es:List Expr}{kws:List Keyword}{te ta:TE}{t tk:TA}{nm:Option Str}
variable{g:List Value->List Value->List Value}{gV:List V->List V->List V}
end
structure bq(N P:List Str)(sc:Scope):Prop where
 kind:sc.kind=.function
 co:sc.isCoroutine=false
 gen:sc.isGenerator=false
 nd:N.Nodup
 pre:N.take P.length=P
 par:∀x∈P,sc.names.lookup x=some .local\/sc.names.lookup x=some .cell
 Yd:∀y∈sc.names,y.2≠.free
theorem NH{kindOf:Str->Option NameKind}{x:Str}:∀{binds:List (Str × Value)} {m:Str->Option Value},(∀v,(x,v) ∉ binds)->bindL kindOf binds m x=m x
 | [],_,_=>rfl
 | (n,v)::r,m,h=>by
  unfold bindL
  rw[NH λw hw=>h w (i3 _ hw)]
  split
  ·have:x≠n:=by rintro rfl;exact h v zd
   simp[this]
  ·rfl
theorem NI{kindOf:Str->Option NameKind}{x:Str}:∀{binds:List (Str × Value)} {m:Str->Option Value},(∀v,(x,v) ∉ binds)->bindC kindOf binds m x=m x
 | [],_,_=>rfl
 | (n,v)::r,m,h=>by
  unfold bindC
  rw[NI λw hw=>h w (i3 _ hw)]
  split
  ·rfl
  ·have:x≠n:=by rintro rfl;exact h v zd
   simp[this]
theorem NJ{kindOf:Str->Option NameKind}{x:Str}{v:Value}:∀{P:List Str} {vs:List Value} {i:Nat} {m:Str->Option Value},P.Nodup->P[i]?=some x->vs[i]?=some v->kindOf x=some .local ->
  bindL kindOf (P.zip vs) m x=some v
 | [],_,_,_,_,h,_,_=>by simp at h
 | _::_,[],_,_,_,_,h,_=>by simp at h
 | p::P,w::vs,0,m,nd,h1,h2,hk=>by
  simp at h1 h2;subst h1;subst h2
  show bindL kindOf ((p,w)::P.zip vs) m p=_
  unfold bindL
  rw[NH λv hv=>(i5.mp nd).1 (zh hv).1,if_pos hk]
  simp
 | p::P,w::vs,i+1,m,nd,h1,h2,hk=>by
  show bindL kindOf ((p,w)::P.zip vs) m x=_
  unfold bindL
  exact NJ (i:=i) (i5.mp nd).2 (by simpa using h1) (by simpa using h2) hk
theorem NK{kindOf:Str->Option NameKind}{x:Str}{v:Value}:∀{P:List Str} {vs:List Value} {i:Nat} {m:Str->Option Value},P.Nodup->P[i]?=some x->vs[i]?=some v->kindOf x≠some .local ->
  bindC kindOf (P.zip vs) m x=some v
 | [],_,_,_,_,h,_,_=>by simp at h
 | _::_,[],_,_,_,_,h,_=>by simp at h
 | p::P,w::vs,0,m,nd,h1,h2,hk=>by
  simp at h1 h2;subst h1;subst h2
  show bindC kindOf ((p,w)::P.zip vs) m p=_
  unfold bindC
  rw[NI λv hv=>(i5.mp nd).1 (zh hv).1,if_neg hk]
  simp
 | p::P,w::vs,i+1,m,nd,h1,h2,hk=>by
  show bindC kindOf ((p,w)::P.zip vs) m x=_
  unfold bindC
  exact NK (i:=i) (i5.mp nd).2 (by simpa using h1) (by simpa using h2) hk
noncomputable def start(N:List Str)(vs:List V):St:=vs.map some++aQ (N.length-vs.length) none
noncomputable def hG(CX:dP)(P:Program)(w:World)(K:PySem.W.Frag)(mg:Str->Option Value)(base:Heap)(N:List Str)(qual:Str)(scope:Scope)(f:Addr)(cd:Value)(A:Around)(outer:List Env)(s:Shared)(H:Hp)(E:XK):Cx where
 prog:=P
 w:=w
 K:=K
 mg:=mg
 base:=base
 A:=A.deeper (envOfC qual scope s.heap.objs.size f cd)
 N:=N
 bZ:=s
 jm:=H
 env:=envOfC qual scope s.heap.objs.size f cd
 outer:=outer
 stack:=envOfC qual scope s.heap.objs.size f cd::outer
 ex:=[]
 calm:=true
 fn:=λ_=>true
 pn:=[]
 xe:=λe s'=>wpAny (model P w) (A.deeper (envOfC qual scope s.heap.objs.size f cd)) (leaving (envOfC qual scope s.heap.objs.size f cd) e) (λ_ oR=>CX outer H s E e oR) (λe' oR=>CX outer H s E e' oR) s'
theorem NL{sc:Scope}{n:Nat}{x:Str}(h:sc.names.lookup x=some .cell):∃c,(cellsFrom n sc.names []).lookup x=some c:=by
 have q:=PySem.W.cellsFrom_some sc.names n [] (.inl h)
 exact zi.mp q
theorem Ye{CX:dP}{P:Program}{w:World}{K:PySem.W.Frag}{mg:Str->Option Value}{base:Heap}{N ps:List Str}{qual:Str}{scope:Scope}{f:Addr}{cd:Value}{A:Around}{outer:List Env}{s s1:Shared}{H:Hp}{E:XK}{us:List Value}{vs:List V}
  (S:bq N ps scope) (hd:A.handled=none) (e0:fw P w K mg base A outer s H) (hl:vs.length=ps.length) (r:Vals vs us)
  (x:InCallC s s.heap.objs.size (bindL (envOfC qual scope s.heap.objs.size f cd).kindOf (ps.zip us) λ_=>none) (cellsFrom (s.heap.objs.size+1) scope.names []) (bindC (envOfC qual scope s.heap.objs.size f cd).kindOf (ps.zip us) λ_=>none) s1) :
  Inv (hG CX P w K mg base N qual scope f cd A outer s H E) [] (start N vs) H s1:=by
 have aW:ps.length<=N.length:=by have:=congrArg Dh S.pre;rw[gj]at this;omega
 obtain⟨h1,tk,rfl,hk⟩:=x.done
 have wI:∀b:Addr,b ∉ (hG CX P w K mg base N qual scope f cd A outer s H E).ex:=λb z=>absurd (show b∈([]:List Addr) from z) (by simp)
 refine⟨⟨e0.mod,S.kind,rfl,rfl,aY _,λy z c h1 h2=>?_,λy hy=>?_,λy c _ h=>?_,λ_=>hd,Around.frames_deeper e0.frames,.inr ⟨rfl,rfl⟩,λb z=>absurd z (wI b),e0.bs,e0.fJ,λb _ _=>wI b,λb z=>absurd z (wI b),e0.eM,e0.gn⟩,
  rfl,e0.bare,Un.kept hk,⟨_,x.toInCall.ns,λi y v h1 h2 h3=>?_⟩,λy c h=>⟨_,x.cell y c h⟩,e0.av.fresh (aY _),λy c h=>?_,λp hp=>absurd (show p∈([]:List (Addr × Obj)) from hp) (by simp),e0.av.kept hk,?_⟩
 ·exact name_of_addr x.apart (PySem.mem_of_lookup h1) (PySem.mem_of_lookup h2)
 ·have hy:scope.names.lookup y=some .cell\/scope.names.lookup y=some .free:=hy
  rcases hy with hy | hy
  ·exact NL hy
  ·exact absurd rfl (S.Yd _ (PySem.mem_of_lookup hy))
 ·exact zc (x.above y c (PySem.mem_of_lookup h))
 ·have hi:i<vs.length:=by
   unfold start at h2
   by_cases hi:i<vs.length
   ·exact hi
   ·rw[vT (by simpa using hi)]at h2
    rw[Di]at h2
    split at h2<;>cases h2
  have ha:vs[i]?=some v:=by
   unfold start at h2
   rw[Dj (by simpa using hi),dm]at h2
   cases e:vs[i]? with
   | none=>rw[e]at h2;cases h2
   | some a=>rw[e]at h2;cases h2;rfl
  obtain⟨u,hu,rv⟩:=r.get ha
  have hp:ps[i]?=some y:=by
   rw[<-S.pre,List.getElem?_take_of_lt (by omega)];exact h1
  have NM:ps.Nodup:=by rw[<-S.pre];exact S.nd.sublist (List.take_sublist _ _)
  refine⟨u,rv,?_⟩
  rcases S.par y (qW hp)with k | k
  ·exact .inl ⟨k,NJ NM hp hu k⟩
  ·obtain⟨c,e⟩:=NL (n:=s.heap.objs.size+1) k
   refine .inr ⟨.inl k,c,e,?_⟩
   have q:=x.cell y c e
   rw[NK NM hp hu (by show scope.names.lookup y≠_;rw[k];decide)]at q
   exact q
 ·exact e0.av.fresh (zc (x.above y c (PySem.mem_of_lookup h)))
 ·unfold start
  show _=N.length
  rw[mL,cQ,kI]
  omega
theorem El{CX:dP}{P:Program}{w:World}{K:PySem.W.Frag}{mg:Str->Option Value}{base:Heap}{k:Nat}{f:Addr}{name qual:Str}{params:Arguments}{body:List Stmt}{scope:Scope}{dV kV doc pm aG ct oc:Value}{an od:Option Addr}
  {j3:Array (Option Value)} {N ps:List Str} {sp:Sp} (lk:K.lookup f=some ⟨oc,od,.func (PySem.W.fnOf name qual params body scope dV kV doc pm an aG ct),j3⟩) (cC:PySem.W.codeIn K aG qual=true) (S:bq N ps scope)
  (len:∀vs H Q E,sp vs H Q E->vs.length=ps.length)
  (gx:∀(A:Around) (outer:List Env) (s:Shared) (H:Hp) (vs:List V) (Q:VK) (E:XK),bH k (A.deeper (envOfC qual scope s.heap.objs.size f aG))->sp vs H Q E ->
   ∃t,PSs (hG CX P w K mg base N qual scope f aG A outer s H E) body t/\t { nx:=λ_ H'=>Q .ao H',rt:=Q } (start N vs) H) :
  aO P w K mg base CX (k+1) f (PySem.W.fnOf name qual params body scope dV kV doc pm an aG ct) ps sp:=by
 refine⟨len,λA outer s H args us vs Q E hr e0 hb r hJ=>?_⟩
 have hl:=len _ _ _ _ hJ
 have KX:K.In s.heap:=e0.mod.jW.keeps λb o e=>(e0.bs b o e).1
 have lim:s.heap.NoLimit:=e0.mod.nolimit.keeps λb o e=>(e0.bs b o e).1
 have gy:∀y∈ps.zip us,scope.names.lookup y.1=some .local\/(scope.names.lookup y.1=some .cell/\((cellsFrom (s.heap.objs.size+1) scope.names []).lookup y.1).isSome=true):=λ⟨n,v⟩ hy=>by
  rcases S.par n (zh hy).1 with q | q
  ·exact .inl q
  ·exact .inr ⟨q,PySem.W.cellsFrom_some _ _ _ (.inl q)⟩
 refine codeAny_call_function hr.depth (KX _ _ lk) rfl S.co S.gen rfl (PySem.W.codeRec_of KX cC) (hb _ _ _ _ ?_)
 refine wpAny_newFunctionEnv_cells S.kind gy λenv he s1 x=>?_
 subst he
 refine⟨lim.keeps x.toInCall.keep,codeAny_func ?_⟩
 obtain⟨t,ht,hq⟩:=gx A outer s H vs Q E (hr.deeper _) hJ
 have I:Inv (hG CX P w K mg base N qual scope f aG A outer s H E) [] (start N vs) H s1:=Ye S hr.hd e0 hl r x
 refine wpAny_mono (ht [] s1 (start N vs) H _ I hq) (λfl s' hs=>?_) λe s' hs=>hs
 have fin:∀{ar:St} {H':Hp} {v:V} {u:Value},Inv (hG CX P w K mg base N qual scope f aG A outer s H E) [] ar H' s'->RelV v u->Q v H'->CE outer P w H s Q u s' :=
  λ{ar H' v u} J rv q=>⟨v,H',J.os,J.bare,J.base,J.av,rv,q⟩
 cases fl with
 | ret u =>
  obtain⟨v,ar,H',J,rv,q⟩:=hs
  exact fin J rv q
 | next =>
  obtain⟨ar,H',J,q⟩:=hs
  exact fin (v:=V.ao) (u:=iq) J rfl q
 | brk =>
  obtain⟨_,_,_,q⟩:=hs
  exact dB q
 | cont =>
  obtain⟨_,_,_,q⟩:=hs
  exact dB q
end L2
namespace L2
open PySem PySem.Spec PyProof.Rows
section
variable{X:Cx}{x:Str}{p pos:Pos}{e:Expr}{es:List Expr}{t:TA}{id T:String}{r:List V->Hp->VK->Prop}
noncomputable def Em(r:List V->Hp->VK->Prop)(t:TA):TE:=λσ H Q=>t σ H λvs H1=>r vs H1 Q
theorem Ac(hc:fK X (.builtin id) r)(hg:Gl X x)(hm:X.mg x=none)(hv:bootBuiltins x=some (.builtin id))(ha:PA X (e::es) t)(hn:x≠"__name__":=by decide)(cZ:(x==("__debug__":Str))=false:=by decide)
  (he:starEach (e::es) X.env=(false,eval e X.env)::starEach es X.env:=by rfl) (aW:(backTo pos (starEach es X.env)).any (·.1)=false:=by rfl):PE X (.Call (.Name x p) (e::es) [] pos) (Em r t):=by
 intro pins s σ H Q I h
 refine wpAny_Call_Name_kw (iw I hg hm hv ?_ hn cZ)
 exact PyProof.Rows.callWith_builtin1 (aE (ha pos pins s σ H _ I h) λus s1 ⟨vs,H1,I1,r1,q1⟩=>hc pins s1 σ H1 vs us Q I1 r1 q1) he aW
theorem NN(hc:fK X (.type T) r)(hg:Gl X x)(hm:X.mg x=none)(hv:bootBuiltins x=some (.type T))(ha:PA X (e::es) t)(hn:x≠"__name__":=by decide)(cZ:(x==("__debug__":Str))=false:=by decide)
  (he:starEach (e::es) X.env=(false,eval e X.env)::starEach es X.env:=by rfl) (aW:(backTo pos (starEach es X.env)).any (·.1)=false:=by rfl):PE X (.Call (.Name x p) (e::es) [] pos) (Em r t):=by
 intro pins s σ H Q I h
 refine wpAny_Call_Name_kw (iw I hg hm hv ?_ hn cZ)
 exact jO (aE (ha pos pins s σ H _ I h) λus s1 ⟨vs,H1,I1,r1,q1⟩=>hc pins s1 σ H1 vs us Q I1 r1 q1) he aW
end
end L2
namespace HT
open PySem PyProof.Rows
section
open PySem.SeqAt
open PySem.AutoSeq1 (wpAny_loadPart')
open PySem.MeetsSeq PySem.MeetsSeq2 PySem.MeetsSeq3
end
section
variable{prog:Program}{w:World}{A:Around}{E:Value->Shared->Prop}{s:Shared}
noncomputable def cw(n d:Nat):Option Int->Nat
 | none=>d
 | some v=>if v<0 then(v+(n:Int)).toNat else min v.toNat n
theorem Eo(n d k:Nat):cw n d (some (k:Int))=min k n:=by
 show(if(k:Int)<0 then((k:Int)+(n:Int)).toNat else min (k:Int).toNat n)=min k n
 rw[if_neg (by omega),fH]
end
end HT
namespace L2
open PySem PySem.Spec PyProof.Rows
noncomputable abbrev TO:=St->Hp->(Option Int->Hp->Prop)->Prop
noncomputable def PO(X:Cx)(e:Option Expr)(t:TO):Prop :=
 ∀(pins:List (Addr × Obj)) (s:Shared) (σ:St) (H:Hp) (Q:Option Int->Hp->Prop),Inv X pins σ H s->t σ H Q ->
  wpAny (model X.prog X.w) X.A (evalPart e X.env) (λu s'=>∃o H',Inv X pins σ H' s'/\IsPart u o/\Q o H') X.xe s
noncomputable def Yf:TO:=λ_ H Q=>Q none H
noncomputable def Yg(t:TE):TO:=λσ H Q=>t σ H λx H1=>∃i,x=.int i/\Q (some i) H1
theorem NO{ns:List Int}:∀{us:List Value},Vals (ns.map V.int) us->IntsAre us ns:=by
 induction ns with
 | nil=>intro us r;rw[kJ]at r;cases r;exact .nil
 | cons n ns ih =>
  intro us r
  rw[dk]at r
  cases r with
  | cons r1 r2 =>
   obtain⟨t,e⟩:=r1
   subst e
   exact .cons n t (ih r2)
section
variable{X:Cx}{e:Expr}{te:TE}{lo hi:Option Expr}{tl th:TO}{pos p2:Pos}
theorem Yh:PO X none Yf:=by
 intro pins s σ H Q I h
 rw[evalPart_none]
 exact wpAny_pure ⟨none,H,I,.none,h⟩
theorem Yi(h:PE X e te):PO X (some e) (Yg te):=by
 intro pins s σ H Q I hw
 rw[evalPart_some]
 refine aE (h pins s σ H _ I hw) λu s1 ⟨x,H1,I1,r1,q1⟩=>?_
 obtain⟨i,rfl,q⟩:=q1
 obtain⟨t,rfl⟩:=r1
 exact⟨some i,H1,I1,.int i t,q⟩
noncomputable def oS(X:Cx)(r:V->Option Int->Option Int->Hp->VK->Prop):Prop :=
 ∀(pins:List (Addr × Obj)) (s:Shared) (σ:St) (H:Hp) (x:V) (v vl vu:Value) (lo hi:Option Int) (sl:Addr) (Q:VK),Inv X pins σ H s->RelV x v->s.heap.IsSliceOf sl vl vu .none->IsPart vl lo->IsPart vu hi->r x lo hi H Q ->
  ∃T id,typeLookup (.type T) "__getitem__"=pure (some (.builtin id))/\s.TypeIs v T/\wpAny (model X.prog X.w) X.A (getItem v (.ref sl)) (EP X pins σ Q) X.xe s
theorem oS.or{r r':V->Option Int->Option Int->Hp->VK->Prop}(h:oS X r)(h':oS X r'):oS X (λx lo hi H Q=>r x lo hi H Q\/r' x lo hi H Q):=by
 intro pins s σ H x v vl vu lo hi sl Q I rx hs pl pu q
 rcases q with q | q
 ·exact h pins s σ H x v vl vu lo hi sl Q I rx hs pl pu q
 ·exact h' pins s σ H x v vl vu lo hi sl Q I rx hs pl pu q
noncomputable def Yj(r:V->Option Int->Option Int->Hp->VK->Prop)(te:TE)(tl th:TO):TE:=λσ H Q=>te σ H λx H1=>tl σ H1 λl H2=>th σ H2 λu H3=>r x l u H3 Q
theorem Yk{r:V->Option Int->Option Int->Hp->VK->Prop}(hr:oS X r)(he:PE X e te)(hl:PO X lo tl)(hu:PO X hi th):PE X (.Subscript e (.Slice lo hi none p2) pos) (Yj r te tl th):=by
 intro pins s σ H Q I h
 refine Subscript_ (aE (he pins s σ H _ I h) λv s1 ⟨x,H1,I1,r1,q1⟩=>?_)
 refine wpAny_Slice (aE (hl pins s1 σ H1 _ I1 q1) λvl s2 ⟨l,H2,I2,pl,q2⟩=>aE (hu pins s2 σ H2 _ I2 q2) λvu s3 ⟨u,H3,I3,pu,q3⟩=>?_)
 rw[evalPart_none]
 refine wpAny_pure ?_
 have I4:Inv X pins σ H3 { s3 with heap:=s3.heap.push { cls:=.type "slice",data:=.fields #[vl,vu,.none] } }:=I3.kept (t':=s3.toks) λb ob q=>bK _ q
 obtain⟨T,id,hT,ht,hg⟩:=hr pins { s3 with heap:=s3.heap.push { cls:=.type "slice",data:=.fields #[vl,vu,.none] } } σ H3 x v vl vu l u s3.heap.objs.size Q I4 r1 (Heap.IsSliceOf.new ..) pl pu q3
 show wpAny (model X.prog X.w) X.A (subscriptTail e (.Slice lo hi none p2) v (.ref s3.heap.objs.size)) (EP X pins σ Q) X.xe { s3 with heap:=s3.heap.push { cls:=.type "slice",data:=.fields #[vl,vu,.none] } }
 exact tail_any (ops:=[.ref s3.heap.objs.size,v]) ht hT hg (by with_unfolding_all rfl)
noncomputable def rH(xs:List V)(lo hi:Option Int):List V:=(xs.drop (HT.cw xs.length 0 lo)).take (HT.cw xs.length xs.length hi-HT.cw xs.length 0 lo)
theorem Yl(xs:List V)(lo hi:Option Int):(rH xs lo hi).length<=xs.length:=by
 unfold rH
 rw[gj,jQ]
 omega
end
end L2
namespace L2
open PySem PySem.Spec PyProof.Rows
noncomputable def iB(n:Nat)(i:Int):Option Nat:=if 0<=i then(if i<n then some i.toNat else none)else if -(n:Int)<=i then some (i+n).toNat else none
noncomputable def dD{α:Type}(xs:List α)(i:Int):Option α:=(iB xs.length i).bind λj=>xs[j]?
theorem NP{n:Nat}{i:Int}{j:Nat}(h:iB n i=some j):seqIndex? i n=some j/\j<n/\-(n:Int)<=i/\i<n:=by
 unfold iB at h
 by_cases h0:0<=i
 ·rw[if_pos h0]at h
  by_cases h1:i<n
  ·rw[if_pos h1]at h
   have e:i.toNat=j:=cP h
   exact⟨by rw[seqIndex_of h0 h1,e],by omega,by omega,h1⟩
  ·rw[if_neg h1]at h;cases h
 ·rw[if_neg h0]at h
  by_cases h1:-(n:Int)<=i
  ·rw[if_pos h1]at h
   have e:(i+n).toNat=j:=cP h
   exact⟨by rw[seqIndex_neg (by omega) h1,e],by omega,h1,by omega⟩
  ·rw[if_neg h1]at h;cases h
theorem m6{α:Type}{xs:List α}{i:Int}{v:α}(h:dD xs i=some v):∃j,seqIndex? i xs.length=some j/\xs[j]?=some v/\j<xs.length/\-(xs.length:Int)<=i/\i<xs.length:=by
 unfold dD at h
 cases e:iB xs.length i with
 | none=>rw[e]at h;cases h
 | some j =>
  rw[e]at h
  obtain⟨h1,h2,h3,h4⟩:=NP e
  exact⟨j,h1,h,h2,h3,h4⟩
noncomputable def Ep(b:Expr):Prop:=∀o i,subscripted b false o i=operate [o,i] (getItem o i)
noncomputable def kX(X:Cx)(r:R2):Prop :=
 ∀(value slice:Expr) (pins:List (Addr × Obj)) (s:Shared) (σ:St) (H:Hp) (x y:V) (v u:Value) (Q:VK),Inv X pins σ H s->RelV x v->RelV y u->r x y H Q ->
  subscripted slice false v u=operate [v,u] (getItem v u)->wpAny (model X.prog X.w) X.A (subscriptTail value slice v u) (EP X pins σ Q) X.xe s
noncomputable def kY(X:Cx)(id:String)(r:V->List V->Hp->VK->Prop):Prop :=
 ∀(pins:List (Addr × Obj)) (s:Shared) (σ:St) (H:Hp) (x:V) (xs:List V) (v:Value) (us:List Value) (Q:VK),Inv X pins σ H s->RelV x v->Vals xs us->r x xs H Q ->
  wpAny (model X.prog X.w) X.A (call (.builtin id) (v::us)) (EP X pins σ Q) X.xe s
section
variable{X:Cx}{a b:Expr}{ta tb:TE}{pos:Pos}
theorem kX.or{r r':R2}(h:kX X r)(h':kX X r'):kX X (λx y H Q=>r x y H Q\/r' x y H Q):=by
 intro value slice pins s σ H x y v u Q I rx ry q hs
 rcases q with q | q
 ·exact h value slice pins s σ H x y v u Q I rx ry q hs
 ·exact h' value slice pins s σ H x y v u Q I rx ry q hs
theorem kY.or{id:String}{r r':V->List V->Hp->VK->Prop}(h:kY X id r)(h':kY X id r'):kY X id (λx xs H Q=>r x xs H Q\/r' x xs H Q):=by
 intro pins s σ H x xs v us Q I rx rs q
 rcases q with q | q
 ·exact h pins s σ H x xs v us Q I rx rs q
 ·exact h' pins s σ H x xs v us Q I rx rs q
theorem NQ{r:R2}(hr:kX X r)(ha:PE X a ta)(hb:PE X b tb)(hs:Ep b):PE X (.Subscript a b pos) (wG r ta tb):=by
 intro pins s σ H Q I h
 exact Subscript_ (Ee ha hb I h λv u s2 x y H2 I2 rx ry q=>hr a b pins s2 σ H2 x y v u Q I2 rx ry q (hs _ _))
noncomputable def NR(K:PySem.W.Frag):R2:=λx y H Q=>∃p xs i v,x=.ref p/\y=.int i/\bc K H p xs/\dD xs i=some v/\Q v H
noncomputable def NS(K:PySem.W.Frag):R2:=λx y H Q=>∃p xs i v,x=.ref p/\y=.int i/\eZ K H p xs/\dD xs i=some v/\Q v H
noncomputable def NT:R2:=λx y H Q=>∃z i c,x=.str z/\y=.int i/\z.length<=sizeLine/\dD z.cps.toList i=some c/\Q (.str ⟨#[c]⟩) H
theorem Ym:kX X (NR X.K):=by
 intro value slice pins s σ H x y v u Q I rx ry h hs
 obtain⟨p,xs,i,z,rfl,rfl,hq,he,q⟩:=h
 cases rx
 obtain⟨t,rfl⟩:=ry
 obtain⟨its,r,pl,hz⟩:=I.list hq
 obtain⟨j,h1,h2,h3,h4,h5⟩:=m6 he
 obtain⟨w,ew,aT⟩:=r.get h2
 have hl:=r.length
 have hn:=oN
 have fin:EP X pins σ Q w s:=⟨z,H,I,aT,q⟩
 by_cases h0:0<=i
 ·have hj:i.toNat=j:=by
   rw[seqIndex_of h0 h5]at h1
   exact cP h1
  exact item_listR pl.isList h0 (by omega) (by rw[hj];simpa using ew) fin hs
 ·have hj:(i+(its.toArray.size:Int)).toNat=j:=by
   rw[seqIndex_neg (by omega) h4]at h1
   rw[cY,<- hl]
   exact cP h1
  exact subscriptTail_builtinR (x:=w) pl.isList.typeIs slot_list_getitem.lookup
   (wpAny_getItem_list_neg (Q:=λr s'=>r=w/\EP X pins σ Q r s') pl.isList (by omega) (by rw[cY]<;>omega) (by omega) (by rw[hj];simpa using ew) ⟨rfl,fin⟩) hs
theorem NU:kX X (NS X.K):=by
 intro value slice pins s σ H x y v u Q I rx ry h hs
 obtain⟨p,xs,i,z,rfl,rfl,hq,he,q⟩:=h
 cases rx
 obtain⟨t,rfl⟩:=ry
 obtain⟨its,r,pl,hz⟩:=I.tuple hq
 obtain⟨j,h1,h2,h3,h4,h5⟩:=m6 he
 obtain⟨w,ew,aT⟩:=r.get h2
 have hl:=r.length
 have hn:=oN
 have fin:EP X pins σ Q w s:=⟨z,H,I,aT,q⟩
 exact subscriptTail_builtinR (x:=w) pl.typeIs slot_tuple_getitem.lookup
  (getItem_tuple (j:=j) (Q:=λr s'=>r=w/\EP X pins σ Q r s') pl (by omega) (by omega) (by rw[cY,<- hl];exact h1) (by simpa using ew) ⟨rfl,fin⟩) hs
theorem Yn:kX X NT:=by
 intro value slice pins s σ H x y v u Q I rx ry h hs
 obtain⟨z,i,c,rfl,rfl,hz,he,q⟩:=h
 obtain⟨t,rfl⟩:=rx
 obtain⟨t',rfl⟩:=ry
 obtain⟨j,h1,h2,h3,h4,h5⟩:=m6 he
 have hl:z.cps.toList.length=z.length:=by simp[Str.length]
 rw[hl]at h1 h4 h5
 have hn:=oN
 exact tail_any (typeIs_str s z t) slot_str_getitem.lookup (getItem_str (c:=c) (by
  have e1:decide (i < -(2 ^ 63:Int))=false:=decide_eq_false (by omega)
  have e2:decide (i ≥ 2 ^ 63)=false:=decide_eq_false (by omega)
  rw[e1,e2,n5]) (by rw[h1];simpa using h2) ⟨.str ⟨#[c]⟩,H,I.tok _,⟨_,rfl⟩,q⟩) hs
noncomputable def Yo(K:PySem.W.Frag):R2:=λx y H Q=>NR K x y H Q\/NS K x y H Q\/NT x y H Q
theorem Yp:kX X (Yo X.K):=Ym.or (NU.or Yn)
theorem Yq(its:List Value)(n j:Nat)(u:Value):jR (·.setIfInBounds j u) { cls:=.type "list",data:=.seq its.toArray n }={ cls:=.type "list",data:=.seq (its.set j u).toArray n }:=by
 simp[jR]
theorem Inv.lst{pins:List (Addr × Obj)}{σ:St}{H:Hp}{s:Shared}{p:Addr}{xs:List V}(I:Inv X pins σ H s)(h:H p=some (.lst xs)) :
  ∃(its:List Value) (n:Nat),Vals xs its/\s.heap.get? p=some { cls:=.type "list",data:=.seq its.toArray n }/\xs.length<=sizeLine:=by
 obtain⟨z,its,n,r,e⟩:=I.av p _ h
 exact⟨its,n,r,e,z⟩
theorem Inv.Yr{pins:List (Addr × Obj)}{σ:St}{H:Hp}{s:Shared}{p:Addr}{xs ys:List V}{its its':List Value}{n n':Nat}{f:Obj->Obj}(I:Inv X pins σ H s)(h:H p=some (.lst xs))
  (ho:s.heap.get? p=some { cls:=.type "list",data:=.seq its.toArray n }) (hf:f { cls:=.type "list",data:=.seq its.toArray n }={ cls:=.type "list",data:=.seq its'.toArray n' }) (r:Vals ys its') (hz:ys.length<=sizeLine) (t:Nat) :
  Inv X pins σ (upd H p (.lst ys)) { s with heap:=s.heap.update p f,toks:=t }:=by
 have e:(s.heap.update p f).get? p=some { cls:=.type "list",data:=.seq its'.toArray n' }:=by
  rw[qX f ho (by rw[hf]<;>rfl),hf]
 refine I.write (x:=p) (e:=p) (by rw[h];trivial) (.inl rfl) (λb u hb q=>(jS _ _ (dA hb)).trans q) ⟨_,e⟩ ?_
 exact⟨hz,its',n',r,e⟩
noncomputable def Ys:V->V->V->Hp->(Hp->Prop)->Prop:=λo i v H Q=>∃p xs k j,o=.ref p/\i=.int k/\H p=some (.lst xs)/\iB xs.length k=some j/\Q (upd H p (.lst (xs.set j v)))
theorem Yt:Nq X Ys:=by
 intro pins s σ H o i v ov iv u Q I ro ri rv h
 obtain⟨p,xs,k,j,rfl,rfl,hp,hj,q⟩:=h
 cases ro
 obtain⟨t,rfl⟩:=ri
 obtain⟨its,n,r,ho,hz⟩:=I.lst hp
 obtain⟨h1,h2,h3,h4⟩:=NP hj
 have hl:=r.length
 have hn:=oN
 have I':Inv X pins σ (upd H p (.lst (xs.set j v))) { s with heap:=s.heap.update p (jR (·.setIfInBounds j u)) } :=
  I.Yr hp ho (Yq its n j u) (r.set rv j) (by rw[MD];exact hz) s.toks
 by_cases h0:0<=k
 ·have hk:k.toNat=j:=by
   rw[seqIndex_of h0 h4]at h1
   exact cP h1
  exact PySem.W.ki_setAt ho h0 (by omega) (by rw[cY,<- hl];exact h4) (by rw[hk];exact⟨_,I',q⟩)
 ·have hk:(k+(its.toArray.size:Int)).toNat=j:=by
   rw[seqIndex_neg (by omega) h3]at h1
   rw[cY,<- hl]
   exact cP h1
  exact PySem.W.ki_setBack ho (by omega) (by rw[cY,<- hl];exact h3) (by omega) (by rw[hk];exact⟨_,I',q⟩)
theorem Er(lo hi:Option Int)(n:Nat):(sliceBounds lo hi none n).1=((HT.cw n 0 lo:Nat):Int)/\(sliceBounds lo hi none n).2.1=((HT.cw n n hi:Nat):Int)/\(sliceBounds lo hi none n).2.2=1:=by
 refine⟨?_,?_,rfl⟩
 ·cases lo with
  | none=>simp[sliceBounds,HT.cw]
  | some i =>
   simp only[sliceBounds,HT.cw,qY,show(1:Int)>0 by decide,if_true]
   by_cases h:i<0
   ·simp only[h,if_true]<;>omega
   ·simp only[h,if_false]<;>omega
 ·cases hi with
  | none=>simp[sliceBounds,HT.cw]
  | some i =>
   simp only[sliceBounds,HT.cw,qY,show(1:Int)>0 by decide,if_true]
   by_cases h:i<0
   ·simp only[h,if_true]<;>omega
   ·simp only[h,if_false]<;>omega
theorem Yu(its:List Value)(lo hi:Option Int):slicePick its.toArray lo hi none=((its.drop (HT.cw its.length 0 lo)).take (HT.cw its.length its.length hi-HT.cw its.length 0 lo)).toArray:=by
 obtain⟨h1,h2,h3⟩:=Er lo hi its.toArray.size
 unfold slicePick
 rw[h1,h2,h3]
 simp only[sliceRange_one,pick_run,cY]<;>rfl
noncomputable def Yv(K:PySem.W.Frag):V->Option Int->Option Int->Hp->VK->Prop:=λx lo hi H Q=>∃a xs,x=.ref a/\bc K H a xs/\∀p,H p=none->Q (.ref p) (upd H p (.lst (rH xs lo hi)))
theorem Yw:oS X (Yv X.K):=by
 intro pins s σ H x v vl vu lo hi sl Q I rx hs pl pu h
 obtain⟨a,xs,rfl,hx,q⟩:=h
 cases rx
 obtain⟨its,r,ht,hz⟩:=I.list hx
 have hlen:=r.length
 refine⟨"list",_,slot_list_getitem.lookup,ht.isList.typeIs,?_⟩
 refine wpAny_getItem_list_slice ht.isList hs pl pu .none (by simp) ?_ (by rw[cY]<;>omega)
 rw[Yu,<- hlen]
 refine⟨.ref s.heap.objs.size,_,I.laid (t':=s.toks) (o:=.lst (rH xs lo hi)) (λb ob q=>bK _ q) (aY _) ?_,rfl,q _ (I.av.fresh (aY _))⟩
 exact⟨eu (Yl xs lo hi) hz,_,0,(r.drop (HT.cw xs.length 0 lo)).take (HT.cw xs.length xs.length hi-HT.cw xs.length 0 lo),cS _ rfl⟩
theorem Yx:fK X (.builtin "len") (λxs H Q=>∃p ys,xs=[.ref p]/\(bc X.K H p ys\/eZ X.K H p ys)/\Q (.int ys.length) H):=by
 intro pins s σ H xs us Q I r h
 obtain⟨p,ys,rfl,hq,q⟩:=h
 obtain⟨u,rfl,rx⟩:=Eg r
 cases rx
 have hn:=oN
 rcases hq with hq | hq
 ·obtain⟨its,r',pl,hz⟩:=I.list hq
  have hlen:=r'.length
  exact Calls.call_len_list pl.isList (by simp only[cY]<;>omega) ⟨.int ys.length,H,I.tok _,⟨s.toks+1,by rw[cY,hlen]⟩,q⟩
 ·obtain⟨its,r',pl,hz⟩:=I.tuple hq
  have hlen:=r'.length
  exact len_tuple pl (by simp only[cY]<;>omega) ⟨.int ys.length,H,I.tok _,⟨s.toks+1,by rw[cY,hlen]⟩,q⟩
theorem Yy:fK X (.builtin "len") (λxs H Q=>∃z,xs=[.str z]/\z.length<=sizeLine/\Q (.int z.length) H):=by
 intro pins s σ H xs us Q I r h
 obtain⟨z,rfl,hz,q⟩:=h
 obtain⟨u,rfl,t,rfl⟩:=Eg r
 have hn:=oN
 exact len_str (by omega) ⟨.int z.length,H,I.tok _,⟨_,rfl⟩,q⟩
theorem fK.or{f:Value}{r r':List V->Hp->VK->Prop}(h:fK X f r)(h':fK X f r'):fK X f (λxs H Q=>r xs H Q\/r' xs H Q):=by
 intro pins s σ H xs us Q I rs q
 rcases q with q | q
 ·exact h pins s σ H xs us Q I rs q
 ·exact h' pins s σ H xs us Q I rs q
theorem Yz:fK X (.type "list") (λxs H Q=>∃p ys,xs=[.ref p]/\(bc X.K H p ys\/eZ X.K H p ys)/\∀l,H l=none->Q (.ref l) (upd H l (.lst ys))):=by
 intro pins s σ H xs us Q I r h
 obtain⟨p,ys,rfl,hq,q⟩:=h
 obtain⟨u,rfl,rx⟩:=Eg r
 cases rx
 have fin:∀(its:List Value),Vals ys its->ys.length<=sizeLine->∀(h':Heap) (c':Nat),(∀b o',s.heap.get? b=some o'->h'.get? b=some o') ->
   h'.get? s.heap.objs.size=some { cls:=.type "list",dict:=none,data:=.seq its.toArray c',slots:=#[] }->EP X pins σ Q (.ref s.heap.objs.size) { s with heap:=h' }:=λits r' hz h' c' kp e =>
  ⟨.ref s.heap.objs.size,_,I.laid (t':=s.toks) kp (aY _) (show cM X.prog X.w _ h' _ (.lst ys) from⟨hz,its,c',r',e⟩),rfl,q _ (I.av.fresh (aY _))⟩
 rcases hq with hq | hq
 ·obtain⟨its,r',pl,hz⟩:=I.list hq
  have hlen:=r'.length
  obtain⟨o,ho,hc,n,hd⟩:=pl.isList
  exact call_list_seq p (.inl rfl) ho hc hd (λh' c' kp e=>fin its r' hz h' c' kp e) (by simp only[cY]<;>omega)
 ·obtain⟨its,r',pl,hz⟩:=I.tuple hq
  have hlen:=r'.length
  obtain⟨o,ho,hc,n,hd⟩:=pl
  exact call_list_seq p (.inr rfl) ho hc hd (λh' c' kp e=>fin its r' hz h' c' kp e) (by simp only[cY]<;>omega)
noncomputable def Es(K:PySem.W.Frag)(T:String)(x:V)(H:Hp):Prop:=match x with
 | .str _=>T="str"
 | .int _=>T="int"
 | .ref p=>(T="list"/\∃xs,bc K H p xs)\/(T="tuple"/\∃o,K.lookup p=some o/\o.cls=.type "tuple"/\o.dict=none) \/
   (T="dict"/\((∃cT,H p=some (.dK cT))\/∃cT,H p=some (.dT cT)))\/(T="set"/\∃S n,H p=some (.set S n))
 | _=>False
theorem NV{pins:List (Addr × Obj)}{σ:St}{H:Hp}{s:Shared}{T:String}{x:V}{v:Value}(I:Inv X pins σ H s)(r:RelV x v)(ty:Es X.K T x H) :
  s.TypeIs v T/\∀a,v=.ref a->∃ob,s.heap.get? a=some ob/\ob.dict=none:=by
 cases x with
 | str z =>
  obtain⟨t,rfl⟩:=r
  cases(show T="str" from ty)
  exact⟨typeIs_str s z t,λ_ e=>nomatch e⟩
 | int i =>
  obtain⟨t,rfl⟩:=r
  cases(show T="int" from ty)
  exact⟨typeIs_int s i t,λ_ e=>nomatch e⟩
 | ref p =>
  cases r
  rcases ty with⟨rfl,xs,hq⟩ | ⟨rfl,o,hk,hc,hd⟩ | ⟨rfl,hk⟩ | ⟨rfl,S,n,hk⟩
  ·obtain⟨its,_,pl,_⟩:=I.list hq
   refine⟨pl.isList.typeIs,λa e=>?_⟩
   cases e
   obtain⟨o,n,e,c,hd,_⟩:=pl
   exact⟨o,e,hd⟩
  ·refine⟨⟨o,I.cB p o hk,hc⟩,λa e=>?_⟩
   cases e
   exact⟨o,I.cB _ o hk,hd⟩
  ·have z:∃o,s.heap.get? p=some o/\o.ExactDict:=by
    rcases hk with⟨cT,hk⟩ | ⟨cT,hk⟩
    ·obtain⟨_,_,_,_,o,_,_,e,ex,_⟩:=I.av p _ hk
     exact⟨o,e,ex⟩
    ·obtain⟨_,_,_,_,o,_,_,e,ex,_⟩:=I.av p _ hk
     exact⟨o,e,ex⟩
   obtain⟨o,e,ex⟩:=z
   refine⟨⟨o,e,ex.1⟩,λa e2=>?_⟩
   cases e2
   exact⟨o,e,ex.2.1⟩
  ·obtain⟨o,_,_,_,e,ex,_⟩:=I.av p _ hk
   refine⟨⟨o,e,ex.1⟩,λa e2=>?_⟩
   cases e2
   exact⟨o,e,ex.2.1⟩
 | _=>exact dB ty
noncomputable def NW(K:PySem.W.Frag)(T:String)(r:V->List V->Hp->VK->Prop)(to:TE):TE:=λσ H Q=>to σ H λx H1=>Es K T x H1/\r x [] H1 Q
noncomputable def YA(K:PySem.W.Frag)(T:String)(r:V->List V->Hp->VK->Prop)(to:TE)(t:TA):TE:=λσ H Q=>to σ H λx H1=>Es K T x H1/\t σ H1 λxs H2=>r x xs H2 Q
variable{o e:Expr}{es:List Expr}{to:TE}{t:TA}{name:Str}{apos bB:Pos}{T id:String}{r:V->List V->Hp->VK->Prop}
theorem NX(pa:PlainAttrs T)(slot:Slot T name id)(Et:typeOf (.builtin id)=pure (.type "method_descriptor"))(hm:kY X id r)(ho:PE X o to)
  (iC:attributeBase o name X.env (eval o X.env)=eval o X.env:=by rfl) (iD:(apos.endLine==bB.line)=true:=by rfl):PE X (.Call (.Attribute o name apos) [] [] bB) (NW X.K T r to):=by
 intro pins s σ H Q I h
 refine wpAny_Call_method0_late iC iD (aE (ho pins s σ H _ I h) λv s1 ⟨x,H1,I1,r1,ty,q1⟩=>?_)
 obtain⟨h1,h2⟩:=NV I1 r1 ty
 exact⟨T,id,pa,slot,Et,h1,h2,Calls.callWith_builtin rfl (PySem.evalArgs_none (hm pins s1 σ H1 x [] v [] Q I1 r1 .nil q1))⟩
theorem NY(pa:PlainAttrs T)(slot:Slot T name id)(Et:typeOf (.builtin id)=pure (.type "method_descriptor"))(hm:kY X id r)(ho:PE X o to)(ha:PA X (e::es) t)
  (iC:attributeBase o name X.env (eval o X.env)=eval o X.env:=by rfl)
  (wJ:((backTo bB (starEach (e::es) X.env)).all (λx=>!x.1)&&(backToKw bB (keywordEach [] X.env)).all (λx=>x.1.isSome)
   && decide ((e::es).length+([]:List Keyword).length+(if([]:List Keyword).isEmpty then 0 else 1)<30))=true:=by rfl)
  (iD:(apos.endLine==bB.line)=true:=by rfl) (hs:starEach (e::es) X.env=(false,eval e X.env)::starEach es X.env:=by rfl) (wK:(backTo bB (starEach es X.env)).any (·.1)=false:=by rfl) :
  PE X (.Call (.Attribute o name apos) (e::es) [] bB) (YA X.K T r to t):=by
 intro pins s σ H Q I h
 refine wpAny_Call_method_late iC wJ iD rfl (aE (ho pins s σ H _ I h) λv s1 ⟨x,H1,I1,r1,ty,q1⟩=>?_)
 obtain⟨h1,h2⟩:=NV I1 r1 ty
 refine⟨T,id,pa,slot,Et,h1,h2,?_⟩
 have hA:=ha bB pins s1 σ H1 _ I1 q1
 rw[hs]at hA ⊢
 refine Calls.callWith_builtin (by show(false||(backTo bB (starEach es X.env)).any (·.1))=false;rw[wK]<;>rfl) (Calls.evalArgs_plain ?_)
 exact aE hA λus s2 ⟨vs,H2,I2,r2,q2⟩=>hm pins s2 σ H2 x vs v us Q I2 r1 r2 q2
/- xs.append(e),list.index on a ec9 tuple .. are kY facts of 06m -/
end
end L2
namespace L2
open PySem PySem.Spec PyProof.Rows
noncomputable def NZ(X:Cx)(id:String)(r:V->List V->Hp->VK->Prop):Prop :=
 ∀(pins:List (Addr × Obj)) (s:Shared) (σ:St) (H:Hp) (x:V) (xs:List V) (v:Value) (us:List Value) (Q:VK),Inv X pins σ H s->RelV x v->Vals xs us->r x xs H Q ->
  wpAny (model X.prog X.w) X.A (call (.builtin id) (v::us)) (EP X pins σ Q) X.xe s
theorem Vals.one:∀{x:V} {us:List Value},Vals [x] us->∃u,us=[u]/\RelV x u
 | _,_,.cons r .nil=>⟨_,rfl,r⟩
theorem Vals.two:∀{x y:V} {us:List Value},Vals [x,y] us->∃u v,us=[u,v]/\RelV x u/\RelV y v
 | _,_,_,.cons r (.cons q .nil)=>⟨_,_,rfl,r,q⟩
theorem Vals.zero:∀{us:List Value},Vals [] us->us=[]
 | _,.nil=>rfl
theorem Vals.dropLast{xs:List V}{us:List Value}(h:Vals xs us):Vals xs.dropLast us.dropLast:=by
 induction h with
 | nil=>exact .nil
 | cons r t ih =>
  cases t with
  | nil=>exact .nil
  | cons q t'=>exact .cons r ih
theorem Vals.eraseIdx:∀{xs:List V} {us:List Value} (i:Nat),Vals xs us->Vals (xs.eraseIdx i) (us.eraseIdx i)
 | _,_,_,.nil=>.nil
 | _,_,0,.cons _ t=>t
 | _,_,i+1,.cons r t=>.cons r (Vals.eraseIdx i t)
theorem Vals.reverse{xs:List V}{us:List Value}(h:Vals xs us):Vals xs.reverse us.reverse:=by
 induction h with
 | nil=>exact .nil
 | cons r t ih=>rw[Dk,Dk];exact Vals.append ih (.cons r .nil)
theorem Vals.rep{xs:List V}{us:List Value}(h:Vals xs us):∀k:Nat,Vals (aQ k xs).flatten (aQ k us).flatten
 | 0=>.nil
 | k+1=>by
  rw[n6,n6,qZ,qZ]
  exact Vals.append h (Vals.rep h k)
theorem YB{α:Type}(l:List α):l.eraseIdx (l.length-1)=l.dropLast:=by
 induction l with
 | nil=>rfl
 | cons a r ih =>
  cases r with
  | nil=>rfl
  | cons b r =>
   have e:(a::b::r).length-1=((b::r).length-1)+1:=by
    have h1:(a::b::r).length=r.length+2:=rfl
    have h2:(b::r).length=r.length+1:=rfl
    omega
   rw[e,List.eraseIdx_cons_succ,ih]
   all_goals rfl
theorem N0(its:List Value):∀(k:Nat) (acc:List Value),
  List.foldl (λx1 x2=>x1++x2) acc.toArray (aQ k its.toArray)=(acc++(aQ k its).flatten).toArray
 | 0,acc=>by simp
 | k+1,acc=>by
  have e:acc.toArray++its.toArray=(acc++its).toArray:=by simp
  have e2:(acc++its)++(aQ k its).flatten=acc++(aQ (k+1) its).flatten:=by
   rw[n6,qZ,dW]
  rw[<-e2,<- N0 its k (acc++its),<- e,n6,List.foldl_cons]
section
variable{X:Cx}{pins:List (Addr × Obj)}{σ:St}{H:Hp}{s:Shared}{l b:Addr}{xs ys zs:List V}
theorem Inv.N1{its its':List Value}{n:Nat}{f:Array Value->Array Value}{t':Nat}(I:Inv X pins σ H s)(hH:H l=some (.lst xs))
  (e:s.heap.get? l=some { cls:=.type "list",data:=.seq its.toArray n }) (hf:f its.toArray=its'.toArray) (hv:Vals ys its') (hz:ys.length<=sizeLine) :
  Inv X pins σ (upd H l (.lst ys)) { s with heap:=s.heap.update l (jR f),toks:=t' }:=by
 have q:=PySem.IsL.update e f
 rw[hf]at q
 refine I.write (x:=l) (e:=l) (by rw[hH];exact trivial) (.inl rfl) (λb' u hb hu=>(jS s.heap (jR f) (dA hb)).trans hu) ⟨_,q⟩ ?_
 exact⟨hz,its',_,hv,q⟩
theorem Inv.N2{its:List Value}{t':Nat}(I:Inv X pins σ H s)(hv:Vals ys its)(hz:ys.length<=sizeLine) :
  Inv X pins σ (upd H s.heap.objs.size (.lst ys)) { s with heap:=s.heap.push { cls:=.type "list",data:=.seq its.toArray },toks:=t' } :=
 I.laid (λ_ _ q=>bK _ q) (aY _) ⟨hz,its,0,hv,cS _ rfl⟩
theorem Inv.fresh(I:Inv X pins σ H s):H s.heap.objs.size=none:=I.av.fresh (aY _)
theorem Inv.wL(I:Inv X pins σ H s)(hH:H l=some (.lst xs)):xs.length<=sizeLine/\∃(its:List Value) (n:Nat),Vals xs its/\xs.length=its.length/\s.heap.get? l=some { cls:=.type "list",data:=.seq its.toArray n }:=by
 obtain⟨z,its,n,r,e⟩:=I.av l _ hH
 exact⟨z,its,n,r,r.length,e⟩
theorem YC{n:Nat}(h:n<=sizeLine):ME n=false:=by
 unfold ME
 exact decide_eq_false (by omega)
end
section
variable{X:Cx}
noncomputable def YD:V->List V->Hp->VK->Prop:=λx vs H Q=>∃l xs y,x=.ref l/\vs=[y]/\H l=some (.lst xs)/\xs.length<sizeLine/\Q .ao (upd H l (.lst (xs++[y])))
theorem N3:NZ X "list.append" YD:=by
 intro pins s σ H x vs v us Q I rx rv h
 obtain⟨l,xs,y,rfl,rfl,hH,hz,q⟩:=h
 cases rx
 obtain⟨u,rfl,ru⟩:=rv.one
 obtain⟨z,its,n,r,hl,e⟩:=I.wL hH
 refine call_meets F.slot_list_append ⟨_,e,rfl⟩ F.entry_list_append (F.args_list_append_2 _ _) (PySem.list_append l its.toArray n u (by rw[cY];omega)) ⟨e,?_⟩
 refine⟨.ao,_,I.N1 (its':=its++[u]) hH e (by simp) (r.append (.cons ru .nil)) ?_,rfl,q⟩
 rw[mL,List.length_singleton]
 omega
noncomputable def YE:V->List V->Hp->VK->Prop:=λx vs H Q=>∃l xs y,x=.ref l/\vs=[]/\H l=some (.lst xs)/\xs[xs.length-1]?=some y/\Q y (upd H l (.lst xs.dropLast))
theorem YF:NZ X "list.pop" YE:=by
 intro pins s σ H x vs v us Q I rx rv h
 obtain⟨l,xs,y,rfl,rfl,hH,hy,q⟩:=h
 cases rx
 have YG:=rv.zero
 subst YG
 obtain⟨z,its,n,r,hl,e⟩:=I.wL hH
 obtain⟨u,hu,ru⟩:=r.get hy
 have Eu:its.toArray[its.toArray.size-1]?=some u:=by
  show its.toArray[its.length-1]?=some u
  rw[<-q8,<- hl]
  exact hu
 refine call_meets F.slot_list_pop ⟨_,e,rfl⟩ F.entry_list_pop (F.args_list_pop_1 _) (MeetsSeq.list_pop_last l its.toArray n u Eu (by rw[cY];omega)) ⟨e,?_⟩
 refine⟨y,_,I.N1 (its':=its.dropLast) hH e ?_ r.dropLast ?_,ru,q⟩
 ·show its.toArray.eraseIdxIfInBounds (its.toArray.size-1)=its.dropLast.toArray
  rw[cY,List.eraseIdxIfInBounds_toArray,YB]
 ·rw[MF]
  omega
noncomputable def YH:R2:=λx y H Q=>∃l b xs zs,x=.ref l/\y=.ref b/\H l=some (.lst xs)/\H b=some (.lst zs)/\xs.length+zs.length<=sizeLine/\∀p,H p=none->Q (.ref p) (upd H p (.lst (xs++zs)))
theorem YI:cu X (binaryOp .Add) YH:=by
 intro pins s σ H x y v u Q I rx ry h
 obtain⟨l,b,xs,zs,rfl,rfl,hH,hB,hz,q⟩:=h
 cases rx
 cases ry
 obtain⟨z,its,n,r,hl,e⟩:=I.wL hH
 obtain⟨z2,N4,n2,r2,oU,e2⟩:=I.wL hB
 refine PySem.P.add_list e e2 ?_ (by rw[cY,cY];omega)
 have ea:its.toArray++N4.toArray=(its++N4).toArray:=by simp
 rw[ea]
 exact⟨.ref _,_,I.N2 (t':=s.toks) (r.append r2) (by rw[mL];omega),rfl,q _ I.fresh⟩
noncomputable def YJ:R2:=λx y H Q=>∃l k xs,x=.ref l/\y=.int k/\H l=some (.lst xs)/\-(2 ^ 63)<=k/\k<2 ^ 63/\xs.length*k.toNat<=sizeLine /\
 ∀p,H p=none->Q (.ref p) (upd H p (.lst (aQ k.toNat xs).flatten))
theorem YK{α:Type}(xs:List α)(k:Nat):(aQ k xs).flatten.length=k*xs.length:=by
 induction k with
 | zero=>simp
 | succ k ih=>rw[n6,qZ,mL,ih,Nat.succ_mul,Dm]
theorem YL:cu X (binaryOp .Mult) YJ:=by
 intro pins s σ H x y v u Q I rx ry h
 obtain⟨l,k,xs,rfl,rfl,hH,h1,h2,hz,q⟩:=h
 cases rx
 obtain⟨t,rfl⟩:=ry
 obtain⟨z,its,n,r,hl,e⟩:=I.wL hH
 have hlen:its.toArray.size*k.toNat<=sizeLine:=by rw[cY,<- hl];exact hz
 have YM:¬ its.toArray.size*k.toNat>(2 ^ 63-1)/8:=by
  have:(sizeLine:Nat)<=(2 ^ 63-1)/8:=by decide
  omega
 have YN:¬ (!Builtin.List.listFitsIndex k)=true:=by
  rw[fitsIndex_both h1 h2]
  exact ir
 have YO:¬ ME (its.toArray.size*k.toNat)=true:=by
  rw[YC hlen]
  exact ir
 have YQ:List.foldl (λx1 x2=>x1++x2) #[] (aQ (if its.toArray.isEmpty=true then 0 else k.toNat) its.toArray)=(aQ k.toNat its).flatten.toArray:=by
  have f0:∀m:Nat,List.foldl (λx1 x2=>x1++x2) #[] (aQ m its.toArray)=(aQ m its).flatten.toArray:=λm=>by
   have:=N0 its m []
   rw[q9]at this
   exact this
  rw[f0]
  cases its with
  | nil=>simp
  | cons a r'=>rw[if_neg (by simp)]
 refine wpAny_binaryOp_repeat_ref (T:="list") (U:="int") (by decide) ⟨_,e,rfl⟩ (λs'=>typeIs_int s' k t) noFill_list_mul F.fills_int_mul F.slot_int_rmul repeat_list F.slot_int_index.lookup
  (call_meets F.slot_int_rmul (typeIs_int s k t) F.entry_int_rmul (F.args_int_rmul_2 _ _) (int___rmul___int_list k t l its.toArray n)
   ⟨e,rfl,⟨_,e,rfl⟩,call_meets F.slot_list_mul ⟨_,e,rfl⟩ F.entry_list_mul (F.args_list_mul_2 _ _) (AutoListH.list___mul___list_int_3 l its.toArray n k t YN YM YO) ⟨e,?_⟩⟩)
 rw[YQ]
 exact⟨.ref _,_,I.N2 (t':=s.toks) (r.rep k.toNat) (by rw[YK,kK];exact hz),rfl,q _ I.fresh⟩
end
section
variable{prog:Program}{w:World}{A:Around}{E:Value->Shared->Prop}{s:Shared}
end
section
variable{X:Cx}
end
end L2
namespace Att
open PySem PySem.W PySem.Calls PyProof.Rows
theorem YR{P:Params}{h:Heap}:∀(ns:List Int) (vs:List Value),WellAll P h vs (ns.map WData.int)->IntsAre vs ns:=by
 intro ns
 induction ns with
 | nil =>
  intro vs w
  rw[kJ]at w
  cases w
  exact .nil
 | cons n ns ih =>
  intro vs w
  rw[dk]at w
  cases w with
  | cons a b =>
   cases a
   exact .cons _ _ (ih _ b)
theorem YS{l:OpenLaw}{n:Nat}(hn:l.most=some n){P:Params}{h:Heap}{args:List WData}{vals:List Value}
  (Ad:l.row.toRowW.claim.pre args=true) (Ew:WellAll P h vals args) :
  ∃a vs ns,vals=[dg a]/\args=[WData.list (ns.map WData.int)]/\h.get? a=some { cls:=.type "list",data:=.seq vs.toArray }/\IntsAre vs ns/\ns.length<=n:=by
 have m8:WShape.hasAll [] args [.list .int]=true:=(pre_splitW Ad).1
 have hc:l.pre.holds [] { args:=args }=true:=(pre_splitW Ad).2
 obtain⟨d,r,rfl,h1,h2⟩:=hasAllW_cons m8
 obtain rfl:=hasAllW_nil h2
 obtain⟨xs,rfl,h3⟩:=hasW_list h1
 obtain⟨ns,rfl⟩:=items_int h3
 have hlen:ns.length<=n:=by
  unfold OpenLaw.pre at hc
  have h4:(WTm.not (.lt (.lit (.int (n:Int))) (.len (.arg 0)))).holds [] { args:=[.list (ns.map .int)] }=true:=by
   have h4:=(holds_andW hc).1
   rw[hn]at h4
   exact h4
  have h5:=condW_of h4 (w_not (w_lt w_lit (w_len_list (w_arg rfl))))
  rw[cQ]at h5
  refine Nat.le_of_not_lt λq=>?_
  have q':(n:Int)<((ns.length:Nat):Int):=by omega
  first
   | (rw[decide_eq_true q']at h5;exact absurd h5 (by decide))
   | (simp at h5;omega)
 cases Ew with
 | cons w1 w2 =>
  cases w2
  cases w1 with
  | list ho YT=>exact⟨_,_,ns,rfl,rfl,ho,YR ns _ YT,hlen⟩
theorem YU(l:OpenLaw)(args:List WData):l.row.toRowW.claim.post args (.bool true) args=true :=
 postW_of (r:=l.row.toRowW) (X:=(true==true))
  (show WShape.has [] (.bool true) .bool=true by first | rfl | decide | simp[WShape.has,WShape.arms,WShape.armsAll])
  (show(WTm.eq .res (.lit (.bool true))).value [] { args:=args,res:=some (.bool true),after:=args }=some (.bool (true==true)) from w_eq_bool (w_res rfl) w_lit) rfl
theorem YV{l:OpenLaw}{n:Nat}{q:Program}{loose:List Str}{XP:(Str->Option Value)->Heap->Prop}{YP:World->Heap->Prop}{d:DefRec}
  (hn:l.most=some n) (wM:d.params.defaults=[])
  (call:∀(w:World) (bZ bg:Shared) (mg mb:Str->Option Value) (fa:Addr) (o:Obj) (pm cd doc:Value) (a:Addr) (vs:List Value) (ns:List Int),
   Ground q loose [] XP w bZ mg mb bg.heap->YP w bg.heap ->
   bg.heap.get? fa=some o->o.data=.func (docDef d.name d.params d.body d.scope pm cd doc)->bg.heap.CodeRec cd d.name->mg d.name=some (.ref fa) ->
   bg.heap.get? a=some { cls:=.type "list",data:=.seq vs.toArray }->IntsAre vs ns->ns.length<=n->bg.gens=#[] ->
   codeAny (model l.prog w) callerA (.call (.ref fa) ⟨[.ref a],[]⟩) (λr s'=>r=.ok (.ret (.bool true))/\OldK bg.heap s'.heap/\s'.os=bg.os/\AllBare s'.gens) bg) :
  WalkO q loose XP YP l.row.toRowW d [] (λf vs=>PySem.call f vs):=by
 intro w bZ bg mg mb G Y fa o pm cd doc dV kV ho hd cC hD wN hg args vals as Ad ed0 hrd Ew dE
 obtain rfl:dV=.none:=Dflts.none hD wM
 obtain rfl:kV=.none:=Dflts.noKw hD
 obtain⟨a,vs,ns,rfl,rfl,Ey,hints,hlen⟩:=YS hn Ad Ew
 refine enter_call (codeAny_mono (call w bZ bg mg mb fa o pm cd doc a vs ns G Y ho (fd_plain hd) cC wN Ey hints hlen hg) λr s' hq=>?_)
 obtain⟨rfl,h2,h3,h4⟩:=hq
 exact⟨.inl ⟨.bool true,.bool true,[],rfl,λ_=>rfl,.bool true,YU l _,λ_=>⟨MG,λ_ hm=>(nomatch hm)⟩⟩,h2,h3,h4⟩
section
variable{prog:Program}{w:World}{A:Around}{E:Value->Shared->Prop}{s:Shared}{K:Frag}
noncomputable def cH0(h:Heap)(L d:Addr):List (Addr × Obj):=(aV h.objs.size).filterMap λa=>if a=L\/a=d then none else(h.get? a).map λo=>(a,o)
end
end Att
namespace L2
open PySem PySem.Spec PyProof.Rows
theorem N5:∀{vs:List Value} {ns:List Int},IntsAre vs ns->Vals (ns.map V.int) vs
 | _,_,.nil=>.nil
 | _,_,.cons n t h=>.cons ⟨t,rfl⟩ (N5 h)
end L2
namespace L2
open PySem PySem.Spec PyProof.Rows
end L2
/- THE ed4 ed5 (shape;LID,My.* are ed7):
   My.j4: a structure of N6 addresses ed8 ed9 ee0 names (classes,ee1);My.Txt K t: a structure (Prop) of N6 equations over K;
   My.ee2:{K} {implicit addresses ..} (e1:nsIn K mainGlobals "law"=some (some (.ref f))) (e2:K.lookup f=some ⟨oc,od,.func (fnOf "law" "law" params body scope dV kV doc pm an aG ct),sl⟩) (e3:codeIn K aG "law"=true) ..:∃t,My.Txt K t
(N6 tactic k_is has no namespace: write k_is) -/
namespace L2
open PySem PySem.Spec PyProof.Rows
noncomputable def gz(s:Stmt)(j:Nat):Stmt:=match s with
 | .ClassDef _ _ _ body _ _ _ _ _ _ _=>body.getD j (.Pass ⟨0,0,0,0⟩)
 | _=>.Pass ⟨0,0,0,0⟩
noncomputable def br(s:Stmt):Arguments:=match s with
 | .FunctionDef _ a _ _ _ _ _ _ _ _=>a
 | _=>{ posonlyargs:=[],args:=[],vararg:=none,kwonlyargs:=[],kw_defaults:=[],kwarg:=none,defaults:=[] }
noncomputable def bf(s:Stmt):List Stmt:=match s with
 | .FunctionDef _ _ b _ _ _ _ _ _ _=>b
 | _=>[]
noncomputable def az(s:Stmt):Scope:=match s with
 | .FunctionDef _ _ _ _ _ _ sc _ _ _=>sc
 | _=>{ kind:=.function,names:=[],isGenerator:=false,isCoroutine:=false }
noncomputable abbrev aZ:dP:=λ_ _ _ _ _ _=>False
noncomputable abbrev E0:XK:=λ_ _ _=>False
theorem bj{X:Cx}:j0 aZ X E0:=λ_ _ _ _ _ _ _ h=>h.elim
structure bh(K:PySem.W.Frag)(x qual:Str)(st:Stmt)(f:Addr)(fd:FuncData):Prop where
 ex:∃(oc:Value) (od:Option Addr) (kV doc pm:Value) (an:Option Addr) (aG ct:Value) (j3:Array (Option Value)),
  fd=PySem.W.fnOf x qual (br st) (bf st) (az st) .none kV doc pm an aG ct/\K.lookup f=some ⟨oc,od,.func fd,j3⟩/\PySem.W.codeIn K aG qual=true
 kp:PySem.W.keepIn K (.ref f)=true
section
variable{P:Program}{w:World}{K:PySem.W.Frag}{mg:Str->Option Value}{base:Heap}
theorem bh.ok{x qual:Str}{st:Stmt}{f:Addr}{fd:FuncData}{N ps:List Str}{k:Nat}{sp:Sp}(F:bh K x qual st f fd)(S:bq N ps (az st))(len:∀vs H Q E,sp vs H Q E->vs.length=ps.length)
  (gx:∀(aG:Value) (A:Around) (outer:List Env) (s:Shared) (H:Hp) (vs:List V) (Q:VK) (E:XK),bH k (A.deeper (envOfC qual (az st) s.heap.objs.size f aG))->sp vs H Q E ->
   ∃t,PSs (hG aZ P w K mg base N qual (az st) f aG A outer s H E).e5 (bf st) t/\t { nx:=λ_ H'=>Q .ao H',rt:=Q } (start N vs) H):aO P w K mg base aZ (k+1) f fd ps sp:=by
 obtain⟨oc,od,kV,doc,pm,an,aG,ct,j3,rfl,lk,cC⟩:=F.ex
 refine El lk cC S len λA outer s H vs Q E hr hJ=>?_
 obtain⟨t,h,q⟩:=gx aG A outer s H vs Q E hr hJ
 exact⟨t,h.e5,q⟩
theorem bh.binds{x qual:Str}{st:Stmt}{f:Addr}{fd:FuncData}{ps:List Str}(F:bh K x qual st f fd)
  (h:∀(kV doc pm:Value) (an:Option Addr) (aG ct:Value) (us:List Value),us.length=ps.length->bindArgs (PySem.W.fnOf x qual (br st) (bf st) (az st) .none kV doc pm an aG ct) ⟨us,[]⟩=pure (ps.zip us)):Binds K fd ps []:=by
 obtain⟨oc,od,kV,doc,pm,an,aG,ct,j3,rfl,lk,cC⟩:=F.ex
 exact .all (h kV doc pm an aG ct)
theorem bI{x qual:Str}{st:Stmt}{f:Addr}{oc:Value}{od an:Option Addr}{j3:Array (Option Value)}{kV doc pm aG ct:Value}(l:K.lookup f=some ⟨oc,od,.func (PySem.W.fnOf x qual (br st) (bf st) (az st) .none kV doc pm an aG ct),j3⟩)
  (c:PySem.W.codeIn K aG qual=true) (k:PySem.W.keepIn K (.ref f)=true):bh K x qual st f (PySem.W.fnOf x qual (br st) (bf st) (az st) .none kV doc pm an aG ct):=⟨⟨oc,od,kV,doc,pm,an,aG,ct,j3,rfl,l,c⟩,k⟩
end
section
variable{X:Cx}
theorem pv(i:Nat){x:Str}{pos:Pos}(hN:X.N[i]?=some x:=by rfl)(hv:jX X.env.scope x:=by first | exact ay rfl | exact bU (ay rfl) | exact bU (bU rfl))(hd:(x==("__debug__":Str))=false:=by decide)
  (cC:(x==("__classdict__":Str))=false:=by decide):PE X (.Name x pos) (Nm i):=oE hN hv hd cC
end
theorem j5{A B:Prop}(h:B):if false=true then A else B:=by
 rw[if_neg ir]
 exact h
theorem m9{A B:Prop}(h:A):if true=true then A else B:=by
 rw[if_pos rfl]
 exact h
noncomputable def aa(H H':Hp):Prop:=∀b o,H b=some o->H' b=some o
theorem aa.refl(H:Hp):aa H H:=λ_ _ h=>h
theorem aa.trans{H H1 H2:Hp}(a:aa H H1)(b:aa H1 H2):aa H H2:=λc o h=>b c o (a c o h)
theorem aa.free{H H':Hp}(e:aa H H'){l:Addr}(h:H' l=Dn):H l=Dn:=by
 cases q:H l with
 | none=>rfl
 | some o =>
  rw[e l o q]at h
  cases h
theorem aa.seq{K:PySem.W.Frag}{H H':Hp}{a:Addr}{xs:List V}(e:aa H H')(h:bc K H a xs):bc K H' a xs:=by
 rcases h with (h | ⟨o,h⟩) | h
 ·exact .inl (.inl (e _ _ h))
 ·exact .inl (.inr ⟨o,e _ _ h⟩)
 ·exact .inr h
end L2
namespace Mf
noncomputable def bl(n:Nat):Nat:=if n=0 then 0 else n.log2+1
theorem dF{n m:Nat}:bl n<=m↔n<2 ^ m:=by
 unfold bl
 by_cases h:n=0
 ·simp[h,vU]
 ·rw[if_neg h]
  rw[<-Nat.log2_lt h]
  omega
theorem Ez{n m:Nat}:m<bl n↔2 ^ m<=n:=by
 have:=@dF n m
 omega
theorem hV(n:Nat):n<2 ^ bl n:=dF.mp (aY _)
theorem N7{n:Nat}(h:n≠0):2 ^ (bl n-1)<=n:=by
 have:0<bl n:=by unfold bl;rw[if_neg h];omega
 exact Ez.mp (by omega)
theorem fM{n:Nat}(h:n≠0):0<bl n:=by
 unfold bl;rw[if_neg h];omega
theorem kZ:bl 0=0:=rfl
theorem rJ{n:Nat}(h:n≠0):n.testBit (bl n-1)=true:=by
 have h1:=N7 h
 have h2:=hV n
 have hp:=fM h
 have e:bl n=(bl n-1)+1:=by omega
 rw[e,n8]at h2
 rw[VE]
 have:n/2 ^ (bl n-1)=1:=by
  apply Nat.div_eq_of_lt_le
  ·omega
  ·omega
 rw[this];rfl
theorem YW{x n:Nat}(h:∀i,n<=i->x.testBit i=false):x<2 ^ n:=by
 apply Nat.lt_pow_two_of_testBit
 intro i hi
 exact h i hi
theorem N8{x y n:Nat}(hx:x<2 ^ (n+1))(hy:y<2 ^ (n+1))(tx:x.testBit n=true)(ty:y.testBit n=true):x ^^^ y<2 ^ n:=by
 apply YW
 intro i hi
 rw[kL]
 by_cases e:i=n
 ·rw[e,tx,ty];rfl
 ·have du:n+1<=i:=by omega
  have p:2 ^ (n+1)<=2 ^ i:=zj (by decide) du
  rw[Dq (cI hx p),Dq (cI hy p)]
  rfl
theorem N9(x y z:Nat):(x ^^^ y) ^^^ (z ^^^ y)=x ^^^ z:=by
 apply zk;intro i;simp only[kL]
 cases x.testBit i<;>cases y.testBit i<;>cases z.testBit i<;>rfl
theorem Oa(x y z t:Nat):(x ^^^ y) ^^^ (z ^^^ t)=(x ^^^ z) ^^^ (y ^^^ t):=by
 apply zk;intro i;simp only[kL]
 cases x.testBit i<;>cases y.testBit i<;>cases z.testBit i<;>cases t.testBit i<;>rfl
noncomputable def P(a b:Nat):Nat->Nat
 | 0=>0
 | k+1=>P a b k ^^^ (if b.testBit k then a <<< k else 0)
noncomputable def cl(a b:Nat):Nat:=P a b (bl b)
theorem Ob{a b k:Nat}(h:b<2 ^ k):∀j,P a b (k+j)=P a b k
 | 0=>rfl
 | j+1=>by
  show P a b (k+j) ^^^ (if b.testBit (k+j)then a <<< (k+j)else 0)=_
  rw[Ob h j]
  have p:2 ^ k<=2 ^ (k+j):=zj (by decide) (by omega)
  rw[Dq (cI h p)]
  simp
theorem rK{a b k:Nat}(h:b<2 ^ k):P a b k=cl a b:=by
 have h1:=dF.mpr h
 have e:k=bl b+(k-bl b):=by omega
 rw[e,Ob (hV b)]
 rfl
theorem Oc(a a' b:Nat):∀k,P (a ^^^ a') b k=P a b k ^^^ P a' b k
 | 0=>(jk 0).symm
 | k+1=>by
  show P (a ^^^ a') b k ^^^ _=(P a b k ^^^ _) ^^^ (P a' b k ^^^ _)
  rw[Oc a a' b k]
  by_cases t:b.testBit k=true
  ·rw[if_pos t,if_pos t,if_pos t,VF]
   ac_rfl
  ·rw[if_neg t,if_neg t,if_neg t]
   simp
theorem Od(a b b':Nat):∀k,P a (b ^^^ b') k=P a b k ^^^ P a b' k
 | 0=>(jk 0).symm
 | k+1=>by
  show P a (b ^^^ b') k ^^^ _=(P a b k ^^^ _) ^^^ (P a b' k ^^^ _)
  rw[Od a b b' k,kL]
  cases b.testBit k<;>cases b'.testBit k<;>simp
  ·ac_rfl
  ·ac_rfl
  ·exact(N9 _ _ _).symm
theorem ni(a a' b:Nat):cl (a ^^^ a') b=cl a b ^^^ cl a' b:=Oc a a' b _
theorem rL{x y n:Nat}(hx:x<2 ^ n)(hy:y<2 ^ n):x ^^^ y<2 ^ n:=Nat.xor_lt_two_pow hx hy
theorem YX(a b b':Nat):cl a (b ^^^ b')=cl a b ^^^ cl a b':=by
 let k:=bl b+bl b'
 have h1:b<2 ^ k:=dF.mp (by omega)
 have h2:b'<2 ^ k:=dF.mp (by omega)
 rw[<-rK (rL h1 h2),<- rK h1,<- rK h2,Od]
theorem YY(a:Nat):cl a 0=0:=rfl
theorem Oe(b:Nat):∀k,P 0 b k=0
 | 0=>rfl
 | k+1=>by
  show P 0 b k ^^^ _=0
  rw[Oe b k];simp
theorem nj(b:Nat):cl 0 b=0:=Oe b _
theorem YZ(b k:Nat):(b/2).testBit k=b.testBit (k+1):=by
 rw[Dr]
theorem Of(a b:Nat):∀k,P a b (k+1)=(if b%2=1 then a else 0) ^^^ P (2*a) (b/2) k
 | 0=>by
  show 0 ^^^ _=_ ^^^ 0
  rw[mM,jk,zl]
  simp
 | k+1=>by
  show P a b (k+1) ^^^ _=_ ^^^ (P (2*a) (b/2) k ^^^ _)
  rw[Of a b k,YZ,n9]
  have e:a <<< (k+1)=(2*a) <<< k:=by
   rw[jl,jl,n8]
   rw[kK 2 a,oa,kK 2]
  rw[e]
theorem Og{b k:Nat}(h:b<2 ^ (k+1)):b/2<2 ^ k:=by
 rw[n8]at h;omega
theorem Oh(a b:Nat):cl a b=(if b%2=1 then a else 0) ^^^ cl (2*a) (b/2):=by
 have h:b<2 ^ (bl b+1):=Nat.lt_trans (hV b) (by rw[n8];have:=vU (bl b);omega)
 rw[<-rK h,Of,rK (Og h)]
theorem Oi(a b:Nat):∀k,P (2*a) b k=2*P a b k
 | 0=>rfl
 | k+1=>by
  show P (2*a) b k ^^^ _=2*(P a b k ^^^ _)
  rw[Oi a b k]
  have d:∀x y:Nat,2*(x ^^^ y)=2*x ^^^ 2*y:=by
   intro x y
   have h:=@VF 1 x y
   rw[jl,jl,jl,Nat.pow_one]at h
   rw[kK 2 (x ^^^ y),kK 2 x,kK 2 y]
   exact h
  rw[d]
  by_cases t:b.testBit k=true
  ·rw[if_pos t,if_pos t,jl,jl,oa]
  ·rw[if_neg t,if_neg t]
theorem EA(a b:Nat):cl (2*a) b=2*cl a b:=Oi a b _
theorem wO(a c t:Nat)(ht:t<2):cl a (2*c+t)=2*cl a c ^^^ (if t=1 then a else 0):=by
 rw[Oh,EA,MH]
 have e1:(2*c+t)/2=c:=by omega
 have e2:(2*c+t)%2=t:=by omega
 rw[e1,e2]
theorem Y0(a c:Nat):cl a (2*c)=2*cl a c:=by
 have h:=wO a c 0 (by decide)
 simpa using h
theorem Oj(c t:Nat)(ht:t<2):2*c ^^^ t=2*c+t:=by
 apply zk
 intro i
 cases i with
 | zero =>
  rw[kL,zl,zl,zl]
  have:t=0\/t=1:=by omega
  rcases this with h | h<;>subst h<;>simp<;>omega
 | succ i =>
  rw[kL,Dr,Dr,Dr]
  have e1:2*c/2=c:=by omega
  have e2:t/2=0:=by omega
  have e3:(2*c+t)/2=c:=by omega
  rw[e1,e2,e3];simp
theorem EB:∀b:Nat,cl 1 b=b:=by
 intro b
 induction b using Ds with
 | ind b ih =>
  by_cases h:b=0
  ·subst h;rfl
  ·have e:b=2*(b/2)+b%2:=by omega
   rw[e,wO 1 (b/2) (b%2) (by omega),ih (b/2) (by omega)]
   have:b%2=0\/b%2=1:=by omega
   rcases this with h | h
   ·rw[h];simp
   ·rw[h];rw[if_pos rfl];exact Oj _ _ (by decide)
theorem wQ:∀b a:Nat,cl a b=cl b a:=by
 intro b
 induction b using Ds with
 | ind b ih =>
  intro a
  by_cases h:b=0
  ·subst h;rw[nj];rfl
  ·have e:b=2*(b/2)+b%2:=by omega
   have lt:b%2<2:=by omega
   have e':cl b a=cl (2*(b/2) ^^^ b%2) a:=by rw[Oj _ _ lt,<- e]
   rw[e',ni,EA,<- ih (b/2) (by omega) a]
   have Y1:cl a b=cl a (2*(b/2)+b%2):=by rw[<-e]
   rw[Y1,wO _ _ _ lt]
   have:b%2=0\/b%2=1:=by omega
   rcases this with h | h
   ·rw[h,nj];rfl
   ·rw[h,EB];rfl
theorem EC{a m:Nat}(h:a<2 ^ m)(b:Nat):∀k,P a b (k+1)<2 ^ (m+k)
 | 0=>by
  show 0 ^^^ _<_
  rw[mM,Nat.add_zero]
  by_cases t:b.testBit 0=true
  ·rw[if_pos t];simpa using h
  ·rw[if_neg t];exact vU m
 | k+1=>by
  show P a b (k+1) ^^^ _<_
  have i:=EC h b k
  have p:2 ^ (m+k)<=2 ^ (m+(k+1)):=zj (by decide) (by omega)
  apply rL (cI i p)
  by_cases t:b.testBit (k+1)=true
  ·rw[if_pos t,jl,Nat.pow_add 2 m]
   exact(VG (vU _)).mpr h
  ·rw[if_neg t];exact vU _
theorem Y2{a b m n:Nat}(h:a<2 ^ m)(h':b<2 ^ (n+1)):cl a b<2 ^ (m+n):=by
 rw[<-rK h'];exact EC h b n
theorem Y3{a b:Nat}(ha:a≠0)(hb:b≠0):2 ^ (bl a-1+(bl b-1))<=cl a b:=by
 have e:bl b=(bl b-1)+1:=by have:=fM hb;omega
 have ta:=rJ ha
 have tb:=rJ hb
 apply Nat.ge_two_pow_of_testBit
 unfold cl
 rw[e]
 show(P a b (bl b-1) ^^^ _).testBit _=true
 have e2:bl b-1+1-1=bl b-1:=by omega
 rw[e2,kL,if_pos tb]
 have f:(P a b (bl b-1)).testBit (bl a-1+(bl b-1))=false:=by
  cases q:bl b-1 with
  | zero=>show Nat.testBit 0 _=false;exact Nat.zero_testBit _
  | succ k =>
   apply Dq
   have l:=EC (hV a) b k
   have p:=fM ha
   have e3:bl a-1+(k+1)=bl a+k:=by omega
   rw[e3];exact l
 rw[f,VH]
 have e4:bl a-1+(bl b-1)-(bl b-1)=bl a-1:=by omega
 rw[e4,ta]
 simp
theorem Ol{a b:Nat}(ha:a≠0)(hb:b≠0):bl (cl a b)=bl a+bl b-1:=by
 have p1:=fM ha
 have p2:=fM hb
 have h1:bl (cl a b)<=bl a+(bl b-1):=dF.mpr (Y2 (hV a) (by
  have e:bl b-1+1=bl b:=by omega
  rw[e];exact hV b))
 have h2:=Ez.mpr (Y3 ha hb)
 omega
theorem Om(s b:Nat):cl (2 ^ s) b=b <<< s:=by
 induction s with
 | zero=>rw[Nat.pow_zero,EB];rfl
 | succ s ih =>
  rw[n8,kK,EA,ih,jl,jl,n8]
  rw[<-oa,kK 2,oa,kK 2,<- oa,oa]
theorem Y4{a q b r s:Nat}(h:a=cl q b ^^^ r):a=cl (q ^^^ 2 ^ s) b ^^^ (r ^^^ b <<< s):=by
 rw[ni,Om,h,N9]
theorem Oo{b r:Nat}(hb:b≠0)(h:bl b<=bl r):bl (r ^^^ b <<< (bl r-bl b))<bl r:=by
 have p:=fM hb
 have hr:r≠0:=by
  intro z;rw[z,kZ]at h;omega
 have:r ^^^ b <<< (bl r-bl b)<2 ^ (bl r-1):=by
  apply N8
  ·have e:bl r-1+1=bl r:=by omega
   rw[e];exact hV r
  ·have e:bl r-1+1=bl b+(bl r-bl b):=by omega
   rw[e,jl,Nat.pow_add]
   exact(VG (vU _)).mpr (hV b)
  ·exact rJ hr
  ·rw[VH]
   have e:bl r-1-(bl r-bl b)=bl b-1:=by omega
   rw[e,rJ hb]
   simp;omega
 have:=dF.mpr this
 omega
theorem Y5{x y z:Nat}(h:x ^^^ y=z):x=z ^^^ y:=by
 rw[<-h,n9,zm,jk]
theorem ED{x y:Nat}(h:x ^^^ y=0):x=y:=by
 have:=Y5 h
 rwa [mM]at this
theorem Y6{b q r q' r':Nat}(h:cl q b ^^^ r=cl q' b ^^^ r')(hr:bl r<bl b)(Ae:bl r'<bl b):q=q'/\r=r':=by
 have hb:b≠0:=by intro z;rw[z,kZ]at hr;omega
 have e:cl (q ^^^ q') b=r ^^^ r':=by
  rw[ni]
  have z:(cl q b ^^^ r) ^^^ (cl q' b ^^^ r')=0:=by rw[h,zm]
  rw[Oa]at z
  exact ED z
 have lt:bl (r ^^^ r')<bl b:=by
  have h1:r<2 ^ (bl b-1):=dF.mp (by omega)
  have h2:r'<2 ^ (bl b-1):=dF.mp (by omega)
  have:=dF.mpr (rL h1 h2)
  have:=fM hb
  omega
 have z:q ^^^ q'=0:=by
  apply VI
  intro hq
  have h1:=Ol hq hb
  have h2:=fM hq
  rw[e]at h1
  omega
 have zq:=ED z
 subst zq
 rw[z,nj]at e
 exact⟨rfl,ED e.symm⟩
end Mf
namespace Mf
open PySem PySem.Builtin.Int
theorem Y7(x y:Nat):(x ^^^ y)+2*(x &&& y)=x+y:=by
 induction x using Ds generalizing y with
 | ind x ih =>
  by_cases h:x=0
  ·subst h;simp
  ·have h1:=ih (x/2) (by omega) (y/2)
   have e1:(x ^^^ y)/2=x/2 ^^^ y/2:=Nat.xor_div_two
   have e2:(x &&& y)/2=x/2 &&& y/2:=Nat.and_div_two
   have t:∀n:Nat,n%2=if n.testBit 0=true then 1 else 0:=by
    intro n
    rw[zl]
    by_cases h:n%2=1
    ·simp[h]
    ·simp[h];omega
   have m1:(x ^^^ y)%2=(x%2+y%2)%2:=by
    rw[t (x ^^^ y),t x,t y,kL]
    cases x.testBit 0<;>cases y.testBit 0<;>rfl
   have m2:(x &&& y)%2=x%2*(y%2):=by
    rw[t (x &&& y),t x,t y,MI]
    cases x.testBit 0<;>cases y.testBit 0<;>rfl
   have d1:=Nat.div_add_mod (x ^^^ y) 2
   have d2:=Nat.div_add_mod (x &&& y) 2
   rw[e1]at d1
   rw[e2]at d2
   have hx:x%2=0\/x%2=1:=by omega
   have hy:y%2=0\/y%2=1:=by omega
   rcases hx with hx | hx<;>rcases hy with hy | hy<;>rw[hx,hy]at m1 m2<;>omega
theorem Oq{x y:Int}(hx:0<=x)(hy:0<=y):mJ x y=((x.toNat &&& y.toNat:Nat):Int):=by
 unfold mJ
 rw[decide_eq_true hx,decide_eq_true hy]
theorem Y8{x y:Int}(hx:0<=x)(hy:0<=y):Builtin.bitOr x y=((x.toNat ||| y.toNat:Nat):Int):=by
 unfold Builtin.bitOr mJ Builtin.bitNot
 rw[decide_eq_false (by omega),decide_eq_false (by omega)]
 show-(-((((- (-x-1)-1).toNat ||| (-(-y-1)-1).toNat:Nat):Int))-1)-1=_
 have e1:(- (-x-1)-1).toNat=x.toNat:=by omega
 have e2:(- (-y-1)-1).toNat=y.toNat:=by omega
 rw[e1,e2]
 omega
theorem Y9(x y:Nat):(x ||| y)=(x ^^^ y)+(x &&& y):=by
 have d:(x ^^^ y) &&& (x &&& y)=0:=by
  apply zk;intro i
  simp only[kL,MI,Nat.zero_testBit]
  cases x.testBit i<;>cases y.testBit i<;>rfl
 have e:(x ||| y)=(x ^^^ y) ^^^ (x &&& y):=by
  apply zk;intro i
  simp only[kL,MI,Nat.testBit_or]
  cases x.testBit i<;>cases y.testBit i<;>rfl
 have h:=Y7 (x ^^^ y) (x &&& y)
 rw[d]at h
 rw[e];omega
theorem Za{x y:Int}(hx:0<=x)(hy:0<=y):mK x y=((x.toNat ^^^ y.toNat:Nat):Int):=by
 unfold mK
 rw[Y8 hx hy,Oq hx hy,Y9]
 omega
theorem lh(x y:Nat):mK (x:Int) (y:Int)=((x ^^^ y:Nat):Int):=by
 rw[Za (by omega) (by omega)];rfl
theorem Ot(x y:Nat):mJ (x:Int) (y:Int)=((x &&& y:Nat):Int):=by
 rw[Oq (by omega) (by omega)];rfl
theorem rM(x k:Nat):(x:Int)*2 ^ ((k:Int)).toNat=((x <<< k:Nat):Int):=by
 rw[jl]
 simp
theorem Zb(x k:Nat):(x:Int)/2 ^ ((k:Int)).toNat=((x >>> k:Nat):Int):=by
 rw[VJ]
 simp
theorem Zc(x k:Nat):((x >>> k) &&& 1=1)↔x.testBit k=true:=by
 rw[VE,VJ]
 have:(x/2 ^ k) &&& 1=(x/2 ^ k)%2:=Nat.and_two_pow_sub_one_eq_mod _ 1
 rw[this]
 simp
end Mf
namespace Mf
end Mf
namespace Mf
theorem Ou(a b:Nat):∀c,cl (cl a b) c=cl a (cl b c):=by
 intro c
 induction c using Ds with
 | ind c ih =>
  by_cases h:c=0
  ·subst h;rfl
  ·have e:c=2*(c/2)+c%2:=by omega
   have lt:c%2<2:=by omega
   have i:=ih (c/2) (by omega)
   rw[e,wO _ _ _ lt,wO _ _ _ lt,i,YX,Y0]
   have:c%2=0\/c%2=1:=by omega
   rcases this with h | h
   ·rw[h];rfl
   ·rw[h];rfl
noncomputable def rN:Nat->Nat->Nat->Nat
 | 0,a,_=>a
 | n+1,a,b=>if bl a<bl b then a else rN n (a ^^^ b <<< (bl a-bl b)) b
noncomputable def md(a b:Nat):Nat:=rN (bl a+1) a b
theorem Ov{b:Nat}(hb:b≠0):∀n a,bl a<n->(∃q,a=cl q b ^^^ rN n a b)/\bl (rN n a b)<bl b
 | 0,_,h=>absurd h (by omega)
 | n+1,a,h=>by
  unfold rN
  by_cases l:bl a<bl b
  ·rw[if_pos l]
   exact⟨⟨0,by rw[nj,mM]⟩,l⟩
  ·rw[if_neg l]
   have EE:=Oo hb (show bl b<=bl a by omega)
   obtain⟨⟨q,e⟩,l2⟩:=Ov hb n (a ^^^ b <<< (bl a-bl b)) (by omega)
   refine⟨⟨q ^^^ 2 ^ (bl a-bl b),?_⟩,l2⟩
   rw[ni,Om]
   have e2:a=(a ^^^ b <<< (bl a-bl b)) ^^^ b <<< (bl a-bl b):=by rw[n9,zm,jk]
   rw[e]at e2
   refine e2.trans ?_
   generalize rN n _ b=r
   rw[n9,MH r,<- n9]
theorem wR{b:Nat}(hb:b≠0)(a:Nat):(∃q,a=cl q b ^^^ md a b)/\bl (md a b)<bl b:=Ov hb _ a (by omega)
theorem wU{a b q r:Nat}(h:a=cl q b ^^^ r)(hr:bl r<bl b):md a b=r:=by
 have hb:b≠0:=by intro z;rw[z,kZ]at hr;omega
 obtain⟨⟨q',e⟩,l⟩:=wR hb a
 exact(Y6 (e.symm.trans h) l hr).2
theorem Ze(q:Nat){b:Nat}(hb:b≠0):md (cl q b) b=0 :=
 wU (q:=q) (by rw[jk]) (by rw[kZ];exact fM hb)
noncomputable def Ow:Nat->Nat->Nat->Nat
 | 0,a,_=>a
 | n+1,a,b=>if b=0 then a else Ow n b (md a b)
noncomputable def gc(a b:Nat):Nat:=Ow (bl b+1) a b
end Mf
namespace Mf
theorem Zf(y:Nat):bl (y/2)=bl y-1:=by
 by_cases h:y=0
 ·subst h;rfl
 ·have p:=fM h
  have h1:bl (y/2)<=bl y-1:=dF.mpr (Og (by
   have e:bl y-1+1=bl y:=by omega
   rw[e];exact hV y))
  have h2:bl y<=bl (y/2)+1:=dF.mpr (by
   have:=hV (y/2)
   rw[n8];omega)
  omega
theorem Zg(x:Nat):bl (2*x)<=bl x+1:=dF.mpr (by
 have:=hV x
 rw[n8];omega)
theorem EF{x y:Nat}(h:x<=y):bl x<=bl y:=dF.mpr (kM h (hV y))
end Mf
namespace Mf
noncomputable def al(a:Nat):Bool:=decide (2<=a)&&(aV (2 ^ ((bl a-1)/2+1)-2)).all λi=>md a (2+i) != 0
theorem Zh{a:Nat}(h:a<2):al a=false:=by
 unfold al;rw[decide_eq_false (by omega)];rfl
theorem Zi{a:Nat}(h:2<=a)(k:∀i,i<2 ^ ((bl a-1)/2+1)-2->md a (2+i)≠0):al a=true:=by
 unfold al
 rw[decide_eq_true h,og,dM]
 intro i hi
 have:=k i (gR.mp hi)
 simpa using this
theorem Zj{a i:Nat}(k:i<2 ^ ((bl a-1)/2+1)-2)(z:md a (2+i)=0):al a=false:=by
 unfold al
 rw[Bool.and_eq_false_iff]
 right
 rw[List.all_eq_false]
 exact⟨i,gR.mpr k,by simp[z]⟩
theorem Zk{a:Nat}(h:2<=a){b:Nat}(hb:b<2 ^ ((bl a-1)/2+1)):b<a/\2*bl b<=bl a+1:=by
 have h2:2<=bl a:=by
  have:=Ez.mpr (show 2 ^ 1<=a by omega)
  omega
 have l:=dF.mpr hb
 refine⟨cI hb (eu (zj (by decide) ?_) (N7 (by omega))),by omega⟩
 omega
end Mf
namespace L2
open PySem PySem.Spec PyProof.Rows Mf
theorem gA:bootBuiltins "len"=some (.builtin "len"):=by decide +kernel
theorem Ox:bootBuiltins "isinstance"=some (.builtin "isinstance"):=by decide +kernel
theorem Oy:bootBuiltins "all"=some (.builtin "all"):=by decide +kernel
theorem Zl:bootBuiltins "int"=some (.type "int"):=by decide +kernel
theorem Zm:bootBuiltins "bool"=some (.type "bool"):=by decide +kernel
theorem oV:bootBuiltins "list"=some (.type "list"):=by decide +kernel
theorem Zn:bootBuiltins "range"=some (.type "range"):=by decide +kernel
section
variable{X:Cx}{a b o:Expr}{ta tb to:TE}{pos apos bB:Pos}
theorem Oz(i:Int):Builtin.Int.intBits i=bl i.natAbs:=by
 unfold Builtin.Int.intBits bl
 by_cases h:i=0
 ·subst h;rfl
 ·have h':¬ i.natAbs=0:=by omega
  rw[if_neg h',if_neg (by simpa using h)]
noncomputable def OA:V->List V->Hp->VK->Prop:=λx vs H Q=>∃i,x=.int i/\vs=[]/\Q (.int (bl i.natAbs:Nat)) H
theorem Zo:kY X "int.bit_length" OA:=by
 intro pins s σ H x xs v us Q I rx rs h
 obtain⟨i,rfl,rfl,q⟩:=h
 obtain⟨t,rfl⟩:=rx
 cases rs
 refine call_int_bit_length ?_
 rw[Oz]
 exact⟨.int _,H,I.tok _,⟨_,rfl⟩,q⟩
theorem EG(ho:PE X o to)(iC:attributeBase o "bit_length" X.env (eval o X.env)=eval o X.env:=by rfl)(iD:(apos.endLine==bB.line)=true:=by rfl) :
  PE X (.Call (.Attribute o "bit_length" apos) [] [] bB) (NW X.K "int" OA to) :=
 NX PySem.F.plainAttrs_int PySem.F.slot_int_bit_length PySem.F.type_int_bit_length Zo ho iC iD
noncomputable def OB(i j:Int):Prop:=0<=j/\((bl i.natAbs:Nat):Int)+j<=134217728
theorem OC:cu X (binaryOp .LShift) (rI OB λi j=>.int (i*2 ^ j.toNat)):=wH λi j _ _ _ _ _ hc q =>
 lshift_int hc.1 (by rw[Oz];exact Int.le_trans hc.2 (by decide)) q
theorem Zp{x:Str}{n:String}(hg:Gl X x)(hm:X.mg x=none)(hv:bootBuiltins x=some (.type n))(hn:x≠"__name__":=by decide)(hd:(x==("__debug__":Str))=false:=by decide):PE X (.Name x pos) (tC (.ty n)) :=
 Wr hg hm hv rfl hn hd
noncomputable def Zq(K:PySem.W.Frag):List V->Hp->VK->Prop:=λxs H Q=>∃x n t b,xs=[x,.ty n]/\fL K H x t/\PySem.W.kitOne K t (.type n)=some b/\Q (.bl b) H
theorem Zr:fK X (.builtin "isinstance") (Zq X.K):=by
 intro pins s σ H xs us Q I r h
 obtain⟨x,n,t,b,rfl,ty,e,q⟩:=h
 obtain⟨u,v,rfl,ru,rv⟩:=r.two
 cases(show v=iZ n from rv)
 exact NF I ru ty e λtk=>⟨.bl b,H,I.tok _,rfl,q⟩
end
theorem Zs(b i:Nat):decide (V.int (mJ ((b:Int)/2 ^ ((0:Int)+(i:Int)).toNat) 1)=V.int 1)=b.testBit i:=by
 have e:((0:Int)+(i:Int)).toNat=((i:Int)).toNat:=by omega
 rw[e,Zb,show(1:Int)=((1:Nat):Int) from rfl,Ot,qU,decide_eq_true_iff,<- Zc]
 constructor
 ·intro h;injection h with h;omega
 ·intro h;rw[h]
theorem Zt{a b i:Nat}(h:b.testBit i=true):mK ((P a b i:Nat):Int) ((a:Int)*2 ^ ((0:Int)+(i:Int)).toNat)=((P a b (i+1):Nat):Int):=by
 have e:((0:Int)+(i:Int)).toNat=((i:Int)).toNat:=by omega
 rw[e,rM,lh]
 show _=((P a b i ^^^ (if b.testBit i then a <<< i else 0):Nat):Int)
 rw[if_pos h]
theorem Zu{a b i:Nat}(h:¬ b.testBit i=true):P a b (i+1)=P a b i:=by
 show P a b i ^^^ (if b.testBit i then a <<< i else 0)=_
 rw[if_neg h,jk]
theorem dI{i j:Int}:decide (V.int i=V.int j)=true↔i=j:=by
 rw[decide_eq_true_iff]
 exact⟨λh=>by injection h,λh=>by rw[h]⟩
end L2
namespace L2
open PySem PySem.Spec PyProof.Rows
section
variable{X:Cx}
end
end L2
namespace L2
open PySem PySem.Spec PyProof.Rows
noncomputable def da(X:Cx)(scope:Scope)(N:List Str)(cl:List (Str × Addr))(C:Addr)(s:Shared)(H:Hp)(fp:List Addr):Cx where
 prog:=X.prog
 w:=X.w
 K:=X.K
 mg:=X.mg
 base:=X.base
 A:=X.A
 N:=N
 bZ:=s
 jm:=H
 env:=compEnvC scope cl C X.env
 outer:=X.stack
 stack:=X.stack
 ex:=fp
 fn:=λ_=>false
 calm:=X.calm
 pn:=[]
 xe:=λ_ _=>False
noncomputable def lj(X:Cx)(scope:Scope)(cl:List (Str × Addr)):List (Str × Nat)->Prop
 | []=>True
 | (y,i)::r=>(X.N[i]?=some y/\(X.env.scope.names.lookup y=some .cell\/X.env.scope.names.lookup y=some .free)/\((relabel scope X.env).names.lookup y=some .cell\/(relabel scope X.env).names.lookup y=some .free)/\∃c,cl.lookup y=some c/\X.env.cells.lookup y=some c)/\lj X scope cl r
theorem lj.at{X:Cx}{scope:Scope}{cl:List (Str × Addr)}:∀{ax:List (Str × Nat)},lj X scope cl ax->∀p∈ax,X.N[p.2]?=some p.1/\(X.env.scope.names.lookup p.1=some .cell\/X.env.scope.names.lookup p.1=some .free)/\((relabel scope X.env).names.lookup p.1=some .cell\/(relabel scope X.env).names.lookup p.1=some .free)/\∃c,cl.lookup p.1=some c/\X.env.cells.lookup p.1=some c
 | [],_,p,hp=>absurd hp (by simp)
 | (y,i)::r,h,p,hp=>by
  rcases bG.mp hp with e | e
  ·subst e;exact h.1
  ·exact lj.at h.2 p e
noncomputable def lu(Y:Cx)(ifs:List Expr)(t:TT):Prop :=
 ∀(pins:List (Addr × Obj)) (s:Shared) (σ:St) (H:Hp) (Q:Bool->Hp->Prop),Inv Y pins σ H s->t σ H Q ->
  wpAny (model Y.prog Y.w) Y.A (forIn ifs true λc r=>if r=true then do let ok<-isTrue c Y.env (eval c Y.env);pure (Dt ok)else pure (Dt r)) (TP Y pins σ Q) Y.xe s
noncomputable def Zv:TT:=λ_ H Q=>Q true H
theorem Zw{Y:Cx}:lu Y [] Zv:=λ_ _ _ H _ I h=>wpAny_tests_nil ⟨H,I,h⟩
theorem Zx{Y:Cx}{c:Expr}{t:TT}(h:PT Y c t):lu Y [c] t:=λpins s σ H Q I q=>wpAny_tests_one (h pins s σ H Q I q)
section
variable{X:Cx}{elt iter:Expr}{x:Str}{px pos:Pos}{ifs:List Expr}{scope:Scope}{cl:List (Str × Addr)}{ax:List (Str × Nat)}{wi:TI}{tt:TT}{te:TE}
theorem Zy{pins:List (Addr × Obj)}{σ:St}{H:Hp}{s:Shared}{fp:List Addr}{C:Addr}(I:Inv X pins σ H s)(gy:scope.kind=.function)(hC:s.heap.objs.size<=C)
  (fN:∀y c,cl.lookup y=some c->X.env.cells.lookup y=some c) (EH:∀y,((relabel scope X.env).names.lookup y=some .cell\/(relabel scope X.env).names.lookup y=some .free)->∃c,cl.lookup y=some c)
  (hf:∀b∈fp,g8 X pins H b) (ho:∀b∈fp,∃o,s.heap.get? b=some o/\∀v,o.data≠.cell v) (N:List Str):(da X scope N cl C s H fp).Ok where
 mod:=I.ok.mod
 kind:=gy
 glob:=I.ok.glob
 blt:=I.ok.blt
 above:=hC
 inj:=λy z c h1 h2=>I.ok.inj y z c (fN _ _ h1) (fN _ _ h2)
 has:=EH
 kS:=λ_ _ z=>nomatch z
 hd:=I.ok.hd
 frames:=I.ok.frames
 ou:=.inl rfl
 oy:=λb hb=>⟨by
  obtain⟨o,e,_⟩:=ho b hb
  exact cy (cI (aS e) hC),λy c e z=>(hf b hb).2.2.2.2.1 y c (fN _ _ e) z⟩
 bs:=I.bs
 fJ:=eu I.ok.fJ I.sz
 mY:=λb o e hb=>by
  rcases(hf b hb).2.2.2.1 with z | z
  ·exact I.ok.mY b o e z
  ·exact absurd (cI (aS (I.ok.bs b o e).1) z) (gQ _)
 mZ:=λb hb z=>(bG.mp (I.wo b z)).elim (hf b hb).2.1 (hf b hb).2.2.1
 eM:=I.stack
 gn:=I.zU
end
section
variable{prog:Program}{w:World}{A:Around}{R:Result->Shared->Prop}{s:Shared}
theorem Zz{elt target iter:Expr}{ifs:List Expr}{scope:Scope}{pos:Pos}{it acc:Value}{env:Env}(Iv:Nat->Shared->Prop)
  (turn:∀n s,Iv n s->wpAny (model prog w) A (pyNext it) (λr s1=>match r with
   | none=>R (.ok .next) s1
   | some v=>wpAny (model prog w) A (letOwnedTupleGo target it v) (λ_ t1=>wpAny (model prog w) A (assign target env v) (λ_ s2 =>
     wpAny (model prog w) A (forIn ifs true λc r=>if r=true then do let ok<-isTrue c env (eval c env);pure (Dt ok)else pure (Dt r)) (λok s3 =>
      if ok=true then wpAny (model prog w) A (eval elt env) (λy s4=>wpAny (model prog w) A (call (.builtin "list.append") [acc,y]) (λ_ s5=>∃m,m<n/\Iv m s5) (λ_ _=>False) s4) (λ_ _=>False) s3
      else ∃m,m<n/\Iv m s3) (λ_ _=>False) s2) (λ_ _=>False) t1) (λ_ _=>False) s1) (λ_ _=>False) s)
  (n:Nat) (h:Iv n s):codeAny (model prog w) A (.compLoop (.ListComp elt [⟨target,iter,ifs,0⟩] scope pos) 0 it acc env) R s:=by
 refine codeAny_loop rfl Iv (λn s hI=>?_) n h
 change wpAny _ A (Sem.onRaise (compTurn (.ListComp elt [⟨target,iter,ifs,0⟩] scope pos) 0 it acc env) λx=>do noteFrame x env;theTreesLotGoes x) _ _ s
 refine wpAny_noted (wpAny_mono (E:=λ_ _=>False) ?_ (λ_ _ q=>q) λ_ _ z=>z.elim)
 rw[compTurn_list]
 refine wpAny_bind (wpAny_standAt (wpAny_bind (aE (turn n s hI) λr s1 h1=>?_)))
 cases r with
 | none=>exact wpAny_pure h1
 | some v =>
  refine wpAny_bind (aE h1 λ_ t1 k1=>wpAny_bind (aE k1 λ_ s2 h2=>wpAny_bind (aE h2 λok s3 h3=>?_)))
  cases ok with
  | false=>exact wpAny_pure ⟨rfl,h3⟩
  | true=>exact wpAny_bind (wpAny_bind (aE h3 λy s4 h4=>wpAny_bind (aE h4 λ_ s5 h5=>wpAny_pure (wpAny_pure ⟨rfl,h5⟩))))
end
section
variable{X:Cx}{elt iter:Expr}{x:Str}{px pos:Pos}{ifs:List Expr}{scope:Scope}{cl:List (Str × Addr)}{ax:List (Str × Nat)}{wi:TI}{tt:TT}{te:TE}
end
end L2
namespace L2
open PySem PySem.Spec PyProof.Rows
section
variable{X:Cx}
theorem ZA{bs:List Bool}{us:List Value}(r:Vals (bs.map V.bl) us):bs.length=us.length/\∀(i:Nat) (v:Value),us[i]?=some v->∃b,bs[i]?=some b/\v=.bool b:=by
 have l:=r.length
 rw[cQ]at l
 refine⟨l,λi v e=>?_⟩
 have hi:i<us.length:=(gg.mp e).1
 have hb:i<bs.length:=by omega
 obtain⟨u,e2,q⟩:=r.get (i:=i) (x:=V.bl bs[i]) (by rw[dm,bu hb];rfl)
 rw[e]at e2
 cases e2
 exact⟨bs[i],bu hb,q⟩
theorem ZC{s:Shared}{h':Heap}{o:Obj}(hk:∀b x,b ∉ [s.heap.objs.size]->(s.heap.push o).get? b=some x->h'.get? b=some x)(b:Addr)(x:Obj)(e:s.heap.get? b=some x):h'.get? b=some x :=
 hk b x (λhm=>gQ _ (by have:=aS e;rw[gU.mp hm]at this;exact this)) (bK _ e)
theorem ZD(bs:List Bool):((aV bs.length).all λi=>(bs[i]?).getD true)=bs.all id:=by
 rw[qU,dM,dM]
 constructor
 ·intro h b hb
  obtain⟨i,hi,rfl⟩:=vV hb
  have:=h i (gR.mpr hi)
  rwa [bu hi]at this
 ·intro h i hi
  have du:=gR.mp hi
  rw[bu du]
  exact h _ (i6 du)
theorem ZE(hc:X.calm=true):fK X (.builtin "all") (λxs H Q=>∃(p:Addr) (bs:List Bool),xs=[.ref p]/\bc X.K H p (bs.map V.bl)/\Q (.bl (bs.all id)) H):=by
 intro pins s σ H xs us Q I r h
 obtain⟨p,bs,rfl,hS,q⟩:=h
 obtain⟨u,rfl,ru⟩:=r.one
 cases ru
 obtain⟨its,rv,pl,hz⟩:=I.list hS
 obtain⟨hlen,ZF⟩:=ZA rv
 have hl:=pl.isList
 have gB:p<s.heap.objs.size:=by obtain⟨_,e,_⟩:=hl;exact aS e
 refine call_all_walk (wpAny_pyIter_list hl ?_)
 refine⟨s.heap.objs.size,[s.heap.objs.size,p],[s.heap.objs.size],its.toArray.size,_,_,λi=>(bs[i]?).getD true,rfl,Walks.list (A:=X.A.in1) (I.ok.hd hc) _ p (cy gB) its.toArray,
  ⟨⟨_,cS _ rfl,rfl,rfl⟩,hl.push _⟩,λi v s' Q' E' hP hQ=>?_,λh' tk hk=>?_⟩
 ·obtain⟨b,e,rfl⟩:=ZF i v (by simpa using hP)
  simp only[e,vW]at hQ
  exact wpAny_truthy_bool hQ
 ·have e:((aV its.toArray.size).all λi=>(bs[i]?).getD true)=bs.all id:=by
   rw[cY,<- hlen];exact ZD bs
  rw[e]
  exact⟨.bl _,H,I.kept (h':=h') (t':=tk) (ZC hk),rfl,q⟩
end
noncomputable def ly(X:Cx):List (Str × Addr)->Prop
 | []=>True
 | (y,c)::r=>X.env.cells.lookup y=some c/\ly X r
theorem ly.all{X:Cx}:∀{cl:List (Str × Addr)},ly X cl->∀y c,cl.lookup y=some c->X.env.cells.lookup y=some c
 | [],_,y,c,h=>by simp at h
 | (z,d)::r,h,y,c,e=>by
  rw[iu]at e
  cases q:y==z with
  | true =>
   rw[q]at e
   cases e
   rw[eq_of_beq q]
   exact h.1
  | false =>
   rw[q]at e
   exact ly.all h.2 y c e
noncomputable def lC(cl:List (Str × Addr)):List (Str × NameKind)->Prop
 | []=>True
 | (y,k)::r=>(k=.local\/k=.globalImplicit\/∃c,cl.lookup y=some c)/\lC cl r
theorem lC.all{cl:List (Str × Addr)}:∀{ns:List (Str × NameKind)},lC cl ns->∀y,(ns.lookup y=some .cell\/ns.lookup y=some .free)->∃c,cl.lookup y=some c
 | [],_,y,h=>by simp at h
 | (z,k)::r,h,y,e=>by
  rw[iu]at e
  cases q:y==z with
  | true =>
   rw[q]at e
   rw[eq_of_beq q]
   rcases h.1 with g | g | g
   ·rw[g]at e;rcases e with e | e<;>cases e
   ·rw[g]at e;rcases e with e | e<;>cases e
   ·exact g
  | false =>
   rw[q]at e
   exact lC.all h.2 y e
section
variable{X:Cx}{elt iter:Expr}{x:Str}{px pos:Pos}{ifs:List Expr}{scope:Scope}{cl:List (Str × Addr)}{wi:TI}{tt:TT}{te:TE}
end
end L2
namespace L2
open PySem PySem.Spec PyProof.Rows Mf
end L2
namespace L2
end L2
namespace L2
open PySem PySem.Spec PyProof.Rows
noncomputable def fO(ax:List (Str × Nat))(n:Nat)(σ:L2.St):St:=(ax.map λp=>(σ[p.2]?).getD none)++aQ n none
noncomputable def OD(J:It)(ax:List (Str × Nat))(n:Nat)(g:TG)(tt:TT)(te:TE)(σ:L2.St)(H1:Hp)(Q:VK):Prop:=∀D,H1 D=none->∃W:Nat->Nat->List V->Hp->Prop,(∃m,W 0 m [] (upd H1 D (.lst []))) /\
 ∀i m acc H2,W i m acc H2->H2 D=some (.lst acc)/\((J.stop i H2/\Q (.ref D) H2)\/(J.go i H2/\∀x H3,J.g7 i H2 x H3->H3 D=some (.lst acc)/\g x (fO ax n σ) H3 λfv H4 =>
  (fv.length=(fO ax n σ).length/\∀j,j<ax.length->fv[j]?=(fO ax n σ)[j]?)/\tt fv H4 λb H5=>H5 D=some (.lst acc) /\
  if b=true then te fv H5 λy H6=>H6 D=some (.lst acc)/\acc.length<sizeLine/\∃m',m'<m/\W (i+1) m' (acc++[y]) (upd H6 D (.lst (acc++[y])))else ∃m',m'<m/\W (i+1) m' acc H5))
noncomputable def Af(wi:TI)(ax:List (Str × Nat))(n:Nat)(g:TG)(tt:TT)(te:TE):TE:=λσ H Q=>wi σ H λJ H1=>OD J ax n g tt te σ H1 Q
section
variable{X:Cx}{elt iter tg:Expr}{pos:Pos}{ifs:List Expr}{scope:Scope}{cl:List (Str × Addr)}{wi:TI}{tt:TT}{te:TE}{g:TG}
theorem OE(ax:List (Str × Nat))(bJ:List Str)(hc:X.calm=true)(hi:PI X tg iter wi)
  (hg:∀C s H fp,PG (da X scope (ax.map (·.1)++bJ) cl C s H fp) tg g)
  (ht:∀C s H fp,lu (da X scope (ax.map (·.1)++bJ) cl C s H fp) ifs tt) (he:∀C s H fp,PE (da X scope (ax.map (·.1)++bJ) cl C s H fp) elt te)
  (lF:closureFor scope X.env=pure cl) (lH:ly X cl) (lJ:lC cl (relabel scope X.env).names) (lK:lj X scope cl ax)
  (g6:∀y∈scope.names,y.2≠.cell) (gy:scope.kind=.function) (lM:∀y∈scope.names,y.2=.local->scope.names.lookup y.1=some .local)
  (hs:∀x,foldedSetIterable iter X.env x=pure x:=by intro _;rfl) {pins:List (Addr × Obj)} {s:Shared} {σ:L2.St} {H:Hp} {Q:VK} {use:Option (Value->Sem Unit)} {bB:Pos} {Rf:Value->Shared->Prop} (I:Inv X pins σ H s) (h:Af wi ax bJ.length g tt te σ H Q)
  (ZG:∀(s':Shared) (H':Hp) (C Da:Addr) (m:Str->Option Value),Inv X pins σ H' s'->s'.heap.Ns C m->H' C=none->C≠X.env.locals->X.bZ.heap.objs.size<=C->(∀x c,X.env.cells.lookup x=some c->c≠C)->(∀p∈X.pn++pins,p.1≠C)->C ∉ X.fs->Q (.ref Da) H' ->
   compPost (model X.prog X.w) X.A X.xe use Rf (.ref Da) C (.ok .next) s') :
  wpAny (model X.prog X.w) X.A (comprehension (.ListComp elt [⟨tg,iter,ifs,0⟩] scope pos) scope X.env bB (newList []) false (eval iter X.env) use) Rf X.xe s:=by
 have fN:=lH.all
 have EH:=lJ.all
 refine wpAny_comprehension_free (use:=use) rfl hs lF gy lM (aE (hi pins s σ H _ I h) λv s1 h1=>aE h1 λD7 s2 h2=>?_)
 obtain⟨it,fp,tn,J,H2,e,I2,T,wF,f2,q⟩:=h2
 subst e
 refine wpAny_newList ?_
 refine wpAny_newFunctionEnv g6 (λy hy=>nomatch hy) (λg1 EI Ag=>?_) gy
 dsimp only at EI Ag ⊢
 have hD:H2 s2.heap.objs.size=none:=I2.av.fresh (aY _)
 obtain⟨W,⟨m0,w0⟩,turn⟩:=q s2.heap.objs.size hD
 generalize EJ:s2.heap.push { cls:=.type "list",data:=.seq ([]:List Value).toArray }=g0 at EI Ag ⊢
 have hCs:g0.objs.size=s2.heap.objs.size+1:=by rw[<-EJ,kH]
 have OF:s2.heap.objs.size≠g0.objs.size:=by omega
 have hle:s2.heap.objs.size<=g0.objs.size:=by omega
 have oA:∀b o,s2.heap.get? b=some o->b≠g0.objs.size:=λb o e=>cy (cI (aS e) hle)
 have old:∀b o,s2.heap.get? b=some o->g1.get? b=some o:=λb o e=>Ag.extBut b o (oA b o e) (bK _ (EJ ▸ bK _ e))
 have ZH:g1.get? s2.heap.objs.size=some { cls:=.type "list",data:=.seq ([]:List Value).toArray }:=Ag.extBut _ _ OF (bK _ (EJ ▸ cS _ rfl))
 have OG:∀b∈fp,∃o,s2.heap.get? b=some o/\∀v,o.data≠.cell v:=T.obj _ _ wF
 have Ah:=Zy (scope:=scope) (cl:=cl) (C:=g0.objs.size) I2 gy hle fN EH f2 OG (ax.map (·.1)++bJ)
 have I4:Inv (da X scope (ax.map (·.1)++bJ) cl g0.objs.size s2 H2 fp) [] (fO ax bJ.length σ) (upd H2 s2.heap.objs.size (.lst [])) { s2 with heap:=g1,toks:=s2.toks+([]:List (Str × Value)).length }:=by
  refine⟨Ah,rfl,I2.bare,Un.laid old (aY _) hD,⟨_,EI,λi y v h1 h2 h3=>?_⟩,λy c e=>?_,?_,λy c e=>?_,λp hp=>absurd hp (by simp[da]),I2.av.laid old (aY _) ⟨gi _,[],0,.nil,ZH⟩,by simp[fO,da]⟩
  ·by_cases EK:i<ax.length
   case neg =>
    have iF:((ax.map λp=>(σ[p.2]?).getD none)++aQ bJ.length none)[i]?=some (some v):=h2
    rw[vT (by simpa using EK),Di]at iF
    split at iF<;>cases iF
   case pos =>
    have i8:(ax.map (·.1))[i]?=some y:=by
     have z:(ax.map (·.1)++bJ)[i]?=some y:=h1
     rwa [Dj (by simpa using EK)]at z
    have iF:(ax.map λp=>(σ[p.2]?).getD none)[i]?=some (some v):=by
     have z:((ax.map λp=>(σ[p.2]?).getD none)++aQ bJ.length none)[i]?=some (some v):=h2
     rwa [Dj (by simpa using EK)]at z
    rw[dm]at i8 iF
    cases hj:ax[i]? with
    | none=>rw[hj]at i8;cases i8
    | some p =>
     rw[hj]at i8 iF
     have ey:p.1=y:=cP i8
     have ev:(σ[p.2]?).getD none=some v:=cP iF
     obtain⟨hN,hk,Ai,c,e1,e2⟩:=lK.at p (qW hj)
     obtain⟨m,hn,hl⟩:=I2.loc
     have es:σ[p.2]?=some (some v):=by
      cases z:σ[p.2]? with
      | none=>rw[z]at ev;cases ev
      | some o=>rw[z]at ev;exact congrArg some ev
     obtain⟨u,ru,lk⟩:=hl p.2 p.1 v hN es (hk.elim (λz=>.inr (.inl z)) λz=>.inr (.inr z))
     refine⟨u,ru,?_⟩
     rcases lk with⟨lk,_⟩ | ⟨_,c',e3,ic⟩
     ·rcases hk with hk | hk
      ·have:=hk.symm.trans lk;cases this
      ·have:=hk.symm.trans lk;cases this
     ·rw[e2]at e3
      cases e3
      subst ey
      obtain⟨oc,g5,EL⟩:=ic
      exact .inr ⟨Ai,c,e1,oc,old _ _ g5,EL⟩
  ·obtain⟨v,o,ho,hd⟩:=I2.cell y c (fN y c e)
   exact⟨v,o,old _ _ ho,hd⟩
  ·show upd H2 _ _ g0.objs.size=none
   rw[aN (dA OF)]
   exact I2.av.fresh hle
  ·obtain⟨v,o,ho,hd⟩:=I2.cell y c (fN y c e)
   rw[aN (cy (aS ho))]
   exact I2.eC y c (fN y c e)
 have fin:∀(s':Shared) (H':Hp) (ar:L2.St),Inv (da X scope (ax.map (·.1)++bJ) cl g0.objs.size s2 H2 fp) [] ar H' s'->Q (.ref s2.heap.objs.size) H' ->
   compPost (model X.prog X.w) X.A X.xe use Rf (.ref s2.heap.objs.size) g0.objs.size (.ok .next) s':=by
  intro s' H' ar I' q'
  obtain⟨m,hn,_⟩:=I'.loc
  have u:=I'.base
  have ZI:H' g0.objs.size=none:=I'.free
  have IX:Inv X pins σ H' s':=I2.Nl (s':=s') (ch:=fp) I'.os ⟨u.keep,u.slot,u.free,u.there,u.eY,u.eK,u.dY⟩ I'.av I'.bare λb hb=>by
   obtain⟨_,y1,y2,y3,y4,y5⟩:=f2 b hb
   exact⟨y3,y1,y4,y5⟩
  have OH:∀b,(∃o,s2.heap.get? b=some o)->b≠g0.objs.size:=λb ⟨o,e⟩=>oA b o e
  refine ZG s' H' g0.objs.size s2.heap.objs.size m IX hn ZI (λz=>?_) (eu I2.sz hle) (λx c e z=>?_) (λp hp z=>?_) (λz=>?_) q'
  ·have h0:X.env.locals<s2.heap.objs.size:=I2.lt
   rw[<-z]at h0
   exact gQ _ (cI h0 hle)
  ·obtain⟨v,o,ho,_⟩:=I2.cell x c e
   exact OH c ⟨o,ho⟩ z
  ·exact OH p.1 ⟨_,(I2.pin p hp).1⟩ z
  ·exact I2.Ng hle z
 have EM:∀(H':Hp),(∀b∈fp,H' b=none)->∀b∈fp,g8 (da X scope (ax.map (·.1)++bJ) cl g0.objs.size s2 H2 fp) [] H' b:=λH' hn b hb =>
  ⟨hn b hb,(Ah.oy b hb).1,Ah.mZ b hb,.inl hb,(Ah.oy b hb).2,λp hp=>absurd hp (by simp[da])⟩
 have loop:codeAny (model X.prog X.w) X.A (.compLoop (.ListComp elt [⟨tg,iter,ifs,0⟩] scope pos) 0 (.ref it) (.ref s2.heap.objs.size) (compEnvC scope cl g0.objs.size X.env))
   (compPost (model X.prog X.w) X.A X.xe use Rf (.ref s2.heap.objs.size) g0.objs.size) { s2 with heap:=g1,toks:=s2.toks+([]:List (Str × Value)).length }:=by
  refine Zz (λn s'=>∃i acc H',Inv (da X scope (ax.map (·.1)++bJ) cl g0.objs.size s2 H2 fp) [] (fO ax bJ.length σ) H' s'/\tn i s'.heap/\(∀b∈fp,H' b=none)/\W i n acc H') ?_ m0
   ⟨0,[],_,I4,T.keep _ _ _ wF λb hb o e=>old b o e,λb hb=>?_,w0⟩
  ·rintro n s' ⟨i,acc,H',I',gq,Aj,w'⟩
   obtain⟨iG,⟨stop,qn⟩ | ⟨go,step⟩⟩:=turn i n acc H' w'
   ·refine aE (T.done (da X scope (ax.map (·.1)++bJ) cl g0.objs.size s2 H2 fp) rfl rfl rfl hc i [] s' _ H' (λ_ _=>False) I' (EM H' Aj) gq stop) λr t1 zz=>?_
    obtain⟨hr,I1⟩:=zz
    subst hr
    exact fin _ _ _ I1 qn
   ·refine aE (T.item (da X scope (ax.map (·.1)++bJ) cl g0.objs.size s2 H2 fp) rfl rfl rfl hc i [] s' _ H' (λ_ _=>False) I' (EM H' Aj) gq go) λr t1 zz=>?_
    obtain⟨u,hr,h4⟩:=zz
    subst hr
    refine aE h4 λ_ t2 zz=>?_
    obtain⟨x5,H5,I5,r5,y5,oI,Ea⟩:=zz
    obtain⟨Ak,ZJ⟩:=step x5 H5 y5
    have Eb:=I5.pinned (EM H5 Ea) (T.obj _ _ oI)
    refine aE (hg _ _ _ _ _ t2 _ H5 x5 u _ Eb r5 ZJ) λ_ t3 zz=>?_
    obtain⟨z7,H6,I6,⟨ZK,ZL⟩,ZM⟩:=zz
    have back:∀(s7:Shared) (H7:Hp) (EN:List V) (m7:Nat),Inv (da X scope (ax.map (·.1)++bJ) cl g0.objs.size s2 H2 fp) ([]++wC fp t2.heap) z7 H7 s7->W (i+1) m7 EN H7 ->
      ∃i acc H',Inv (da X scope (ax.map (·.1)++bJ) cl g0.objs.size s2 H2 fp) [] (fO ax bJ.length σ) H' s7/\tn i s7.heap/\(∀b∈fp,H' b=none)/\W i m7 acc H':=λs7 H7 EN m7 I7 w7 =>
     ⟨i+1,EN,H7,(I7.wD).weak ZK.symm λj v z=>by
       by_cases hj:j<ax.length
       ·rw[ZL j hj];exact z
       ·have z':((ax.map λp=>(σ[p.2]?).getD none)++aQ bJ.length none)[j]?=some (some v):=z
        rw[vT (by simpa using hj),Di]at z'
        split at z'<;>(cases z'),
      T.keep _ _ _ oI λb hb o e=>(I7.pin (b,o) (eI _ (eI _ (z6 hb e)))).1,λb hb=>by
       obtain⟨o,e,d⟩:=T.obj _ _ oI b hb
       exact(I7.pin (b,o) (eI _ (eI _ (z6 hb e)))).2.1,w7⟩
    refine aE (ht _ _ _ _ _ t3 _ H6 _ I6 ZM) λok t4 zz=>?_
    obtain⟨H7,I7,hD7,q7⟩:=zz
    cases ok with
    | false =>
     obtain⟨m',hm,w7⟩:=(show ∃m',m'<n/\W (i+1) m' acc H7 from q7)
     exact⟨m',hm,back t4 H7 acc m' I7 w7⟩
    | true =>
     refine aE (he _ _ _ _ _ t4 _ H7 _ I7 q7) λy t5 zz=>?_
     obtain⟨v8,H8,I8,r8,ZN,ZO,m',hm,w8⟩:=zz
     exact aE (N3 _ t5 _ H8 (.ref s2.heap.objs.size) [v8] (.ref s2.heap.objs.size) [y] (λ_ H9=>H9=upd H8 s2.heap.objs.size (.lst (acc++[v8]))) I8 rfl (.cons r8 .nil) ⟨_,acc,v8,rfl,rfl,ZN,ZO,rfl⟩) λ_ t6 zz=>by
      obtain⟨_,H9,I9,_,e9⟩:=zz
      subst e9
      exact⟨m',hm,back t6 _ _ m' I9 w8⟩
  ·obtain⟨o,e,_⟩:=OG b hb
   rw[aN (cy (aS e))]
   exact(f2 b hb).1
 exact codeAny_compStart_list loop (T.self _ 0 _ _ _ (T.keep _ _ _ wF λb hb o e=>old b o e) loop)
theorem ZP(ax:List (Str × Nat))(bJ:List Str)(hc:X.calm=true)(hi:PI X tg iter wi)
  (hg:∀C s H fp,PG (da X scope (ax.map (·.1)++bJ) cl C s H fp) tg g)
  (ht:∀C s H fp,lu (da X scope (ax.map (·.1)++bJ) cl C s H fp) ifs tt) (he:∀C s H fp,PE (da X scope (ax.map (·.1)++bJ) cl C s H fp) elt te)
  (lF:closureFor scope X.env=pure cl) (lH:ly X cl) (lJ:lC cl (relabel scope X.env).names) (lK:lj X scope cl ax)
  (g6:∀y∈scope.names,y.2≠.cell) (gy:scope.kind=.function) (lM:∀y∈scope.names,y.2=.local->scope.names.lookup y.1=some .local)
  (hs:∀x,foldedSetIterable iter X.env x=pure x:=by intro _;rfl):PE X (.ListComp elt [⟨tg,iter,ifs,0⟩] scope pos) (Af wi ax bJ.length g tt te):=by
 intro pins s σ H Q I h
 rw[eval_ListComp]
 refine OE ax bJ hc hi hg ht he lF lH lJ lK g6 gy lM hs I h λs' H' C Da m IX hn hC hL h1 h2 h3 h4 q'=>?_
 exact⟨m,hn,λh' sb=>⟨.ref Da,H',IX.turned (t':=s'.toks) (λb o hb e=>sb.extBut b o hb e) hC hL (.inr h1) h2 h3,rfl,q'⟩⟩
theorem ZQ{i:Nat}{x:Str}{pos' apos:Pos}(hN:X.N.Nodup)(nk:X.N[i]?=some x)(hx:Loc X.env.scope x)(hf:X.fn x=true\/X.env.scope.names.lookup x=some .local)(ax:List (Str × Nat))(bJ:List Str)(hc:X.calm=true)(hi:PI X tg iter wi)
  (hg:∀C s H fp,PG (da X scope (ax.map (·.1)++bJ) cl C s H fp) tg g)
  (ht:∀C s H fp,lu (da X scope (ax.map (·.1)++bJ) cl C s H fp) ifs tt) (he:∀C s H fp,PE (da X scope (ax.map (·.1)++bJ) cl C s H fp) elt te)
  (lF:closureFor scope X.env=pure cl) (lH:ly X cl) (lJ:lC cl (relabel scope X.env).names) (lK:lj X scope cl ax)
  (g6:∀y∈scope.names,y.2≠.cell) (gy:scope.kind=.function) (lM:∀y∈scope.names,y.2=.local->scope.names.lookup y.1=some .local)
  (wV:swapsWith (.ListComp elt [⟨tg,iter,ifs,0⟩] scope pos) (some (.Name x pos')) apos.line X.env=pure true) (hs:∀x,foldedSetIterable iter X.env x=pure x:=by intro _;rfl):PS X (.Assign [.Name x pos'] (.ListComp elt [⟨tg,iter,ifs,0⟩] scope pos) apos) (D6 (Af wi ax bJ.length g tt te) (z0 i)):=by
 intro pins s σ H D I h
 rw[exec_Assign_Name_used x pos' _ apos wV]
 refine wpAny_bind (wpAny_standAt (wpAny_bind ?_))
 have hh:Af wi ax bJ.length g tt te σ H λv H1=>D.nx (σ.set i (some v)) H1:=h
 show wpAny _ _ (comprehension (.ListComp elt [⟨tg,iter,ifs,0⟩] scope pos) scope X.env (firstIterPos [⟨tg,iter,ifs,0⟩] pos) (newList []) false (eval iter X.env) (some (assign (.Name x pos') X.env)) >>= λ_=>pure ()) _ _ _
 refine wpAny_bind (OE (use:=some (assign (.Name x pos') X.env)) (pos:=pos) ax bJ hc hi hg ht he lF lH lJ lK g6 gy lM hs I hh λs' H' C Da m IX hn hC hL h1 h2 h3 h4 q'=>?_)
 obtain⟨oC,es,ep,ZR,OI,rest⟩:=id hn
 have IP:Inv X (pins++[(C,oC)]) σ H' s':=⟨IX.ok,IX.os,IX.bare,IX.base,IX.loc,IX.cell,IX.free,IX.eC,λp hp=>by
  rcases eH.mp hp with z | z
  ·exact IX.pin p (fq _ z)
  ·rcases eH.mp z with z | z
   ·exact IX.pin p (eI _ z)
   ·obtain rfl:=gU.mp z
    exact⟨ZR,hC,hL,h4,λv w=>by rw[OI]at w;cases w⟩,IX.av,IX.len⟩
 refine aE (z4 (X:=X) hN nk hx hf _ s' σ H' (.ref Da) (.ref Da) (λiA H2=>iA=σ.set i (some (.ref Da))/\H2=H') IP rfl ⟨rfl,rfl⟩) λ_ s2 zz=>?_
 obtain⟨iA,H2,I2,e1,e2⟩:=zz
 subst e1 e2
 have pC:=I2.pin (C,oC) (eI _ (eI _ (by simp)))
 refine⟨m,⟨oC,es,ep,pC.1,OI,rest⟩,λh' sb=>wpAny_pure (wpAny_pure ?_)⟩
 exact⟨σ.set i (some (.ref Da)),H2,(I2.wD).turned (t':=s2.toks) (λb o hb e=>sb.extBut b o hb e) hC hL (.inr h1) h2 h3,q'⟩
end
end L2
namespace L2
open PySem PySem.Spec PyProof.Rows
noncomputable def EO(lo st:Int)(n:Nat):It:=⟨λi _=>i<n,λi H x H'=>H'=H/\x=.int (lo+i*st),λi _=>n<=i⟩
theorem ZS{P:Program}{w:World}{K:PySem.W.Frag}{tg:Expr}(it:Addr)(lo c:Int)(n:Nat):Turn P w K tg (EO lo c n) [it] it (λi h=>IsRangeIter h it (lo+(i:Nat)*c) ((n:Int)-(i:Nat)) c) where
 mem:=by simp
 obj:=λi h st b hb=>by
  have e:b=it:=by simpa using hb
  subst e
  exact⟨_,st,λv z=>by
   have z':De _=Data.cell v:=z
   cases z'⟩
 keep:=λi h h' st k=>k it (by simp) _ st
 item:=by
  intro X hP hw hK hc i pins s σ H E I hf st hg
  subst hP hw hK
  obtain⟨f0,f1,f2,f3,f4,f5⟩:=hf it (by simp)
  have W:=Walks.range (prog:=X.prog) (w:=X.w) (I.ok.hd hc) it lo c n
  refine W.item i s _ _ hg st λv h' tk hv gq kk=>?_
  obtain⟨t,rfl⟩:=hv
  have I1:Inv X pins σ H { s with heap:=h',toks:=tk }:=I.turned (λb o hb e=>kk b o (by simpa using hb) e) f0 f1 f3 f4 f5
  exact⟨_,rfl,z5 (s:={ s with heap:=h',toks:=tk }) (n:="range_iterator") gq rfl rfl (by decide) ⟨.int (lo+i*c),H,I1,⟨t,rfl⟩,⟨rfl,rfl⟩,gq,λb hb=>(hf b hb).1⟩⟩
 done:=by
  intro X hP hw hK hc i pins s σ H E I hf st hg
  subst hP hw hK
  obtain⟨f0,f1,f2,f3,f4,f5⟩:=hf it (by simp)
  exact wpAny_pyNext_range_end (I.ok.hd hc) st (by have:n<=i:=hg;omega) λh' eb=>⟨rfl,I.turned (t':=s.toks) (λb o hb e=>eb b o hb e) f0 f1 f3 f4 f5⟩
 self:=λ_ _ _ _ _ st h=>wpAny_pyIter_rangeiter st h
noncomputable def Al(a b c:Int):Prop:=(-(2 ^ 61)<=a/\a<2 ^ 61/\-(2 ^ 61)<=b/\b<2 ^ 61)/\((0<c/\c<2 ^ 29)\/c=-1)
theorem OJ{a b c:Int}(h:Al a b c):0<=i4 a b c/\i4 a b c<=2 ^ 62:=by
 obtain⟨⟨h1,h2,h3,h4⟩,h5⟩:=h
 unfold i4
 rcases h5 with⟨h5,h6⟩ | rfl
 ·rw[if_pos h5]
  split
  ·have e1:0<=(b-a-1)/c:=Int.ediv_nonneg (by omega) (by omega)
   have e2:(b-a-1)/c<=b-a-1:=Int.ediv_le_self _ (by omega)
   omega
  ·omega
 ·rw[if_neg (by decide)]
  split
  ·have e:(a-b-1)/(-(-1:Int))=a-b-1:=by simp
   rw[e];omega
  ·omega
theorem ZT{a b c:Int}(h:Al a b c):Builtin.Range.small a b c=true:=by
 have z:=OJ h
 generalize hn:i4 a b c=n at z
 obtain⟨⟨h1,h2,h3,h4⟩,h5⟩:=h
 unfold Builtin.Range.small
 rw[hn]
 simp only[Builtin.Range.rangeFitsLong,dh,Du,decide_eq_true_eq,beq_iff_eq]
 refine⟨⟨⟨⟨by omega,by omega⟩,by omega⟩,by omega⟩,.inr ?_⟩
 split<;>(simp only[dh,decide_eq_true_eq];omega)
noncomputable def ZU(ta:TA):TI:=λσ H R=>ta σ H λvs H1=>∃a b c:Int,vs=[.int a,.int b,.int c]/\Al a b c/\R (EO a c (i4 a b c).toNat) H1
section
variable{X:Cx}{tg:Expr}
theorem ZV{a b c:Expr}{ta:TA}{p pos:Pos}(hg:Gl X "range")(hm:X.mg "range"=none)(ha:PA X [a,b,c] ta)(hs:starEach [a,b,c] X.env=[(false,eval a X.env),(false,eval b X.env),(false,eval c X.env)]:=by rfl)
  (cK:starEach [b,c] X.env=[(false,eval b X.env),(false,eval c X.env)]:=by rfl):PI X tg (.Call (.Name "range" p) [a,b,c] [] pos) (ZU ta):=by
 intro pins s σ H R I h
 refine Call_ (iw I hg hm boot_range (jO (aE (ha pos pins s σ H _ I h) λus s1 ⟨vs,H1,I1,r1,q1⟩=>?_) (by rw[hs,cK]) (by rw[cK];rfl)))
 obtain⟨i,j,k,e,hb,q⟩:=q1
 subst e
 cases r1 with
 | cons r rr =>
  cases rr with
  | cons r' rr =>
   cases rr with
   | cons r2 rr =>
    cases rr
    obtain⟨t,rfl⟩:=r
    obtain⟨t',rfl⟩:=r'
    obtain⟨t2,rfl⟩:=r2
    have hk:k≠0:=by have:=hb.2;omega
    have ZW:k.natAbs<1073741824:=by have:=hb.2;omega
    refine call_range_3 hk ?_ (.inl (PyProof.noPylong_small ZW))
    refine wpAny_pyIter_range (IsRange.new ..) (ZT hb) ?_
    have I2:Inv X pins σ H1 { s1 with heap:=s1.heap.push { cls:=.type "range",data:=.fields #[.int i t,.int j t',.int k t2] },toks:=s1.toks }:=I1.kept λb o e=>bK _ e
    refine⟨(s1.heap.push { cls:=.type "range",data:=.fields #[.int i t,.int j t',.int k t2] }).objs.size,[(s1.heap.push { cls:=.type "range",data:=.fields #[.int i t,.int j t',.int k t2] }).objs.size],_,_,H1,rfl,
     I2.kept (t':=s1.toks) λb o e=>bK _ e,ZS _ i k (i4 i j k).toNat,?_,λb j6=>?_,q⟩
    ·have e1:i+((0:Nat):Int)*k=i:=by simp
     have e2:(((i4 i j k).toNat:Nat):Int)-((0:Nat):Int)=i4 i j k:=by have:=(OJ hb).1;omega
     show IsRangeIter _ _ (i+((0:Nat):Int)*k) ((((i4 i j k).toNat:Nat):Int)-((0:Nat):Int)) k
     rw[e1,e2]
     exact cS _ rfl
    ·have e:b=(s1.heap.push { cls:=.type "range",data:=.fields #[.int i t,.int j t',.int k t2] }).objs.size:=by simpa using j6
     subst e
     exact I2.rE (aY _) (I2.av.fresh (aY _))
end
end L2
namespace L2
open PySem PySem.Spec PyProof.Rows
noncomputable def ER(h:Heap)(a T:Addr)(cls fl:Value):Prop :=
 ∃oe vs oT ts,h.get? a=some oe/\oe.cls=cls/\oe.dict=none/\oe.data=.fields vs/\vs[1]?=some (.ref T)/\T≠a/\h.get? T=some oT/\oT.data=.fields ts/\ts[3]?=some fl
noncomputable abbrev fP(h:Heap)(a T:Addr)(cls:Value):Prop:=ER h a T cls .none
theorem ZX(o:Obj)(f:Array Value->Array Value):(o.mapFields f).dict=o.dict:=by
 obtain⟨c,d,dt,sl⟩:=o
 cases dt<;>rfl
section
variable{M:Model}{A:Around}{E:Value->Shared->Prop}{s:Shared}{base:Heap}{env:Env}{outer:List Env}{L a T:Addr}{cls:Value}{oe:Obj}{vs:Array Value}{Q:Unit->Shared->Prop}
structure Ent(fs:List Addr)(h h':Heap)(a T:Addr)(oe:Obj)(L:Addr):Prop where
 new:h.get? T=none
 ne:T≠a
 keep:∀b o,b≠a->b ∉ fs->h.get? b=some o->h'.get? b=some o
 slot:∀b o,b≠a->h.get? b=some o->∃sl,h'.get? b=some { o with slots:=sl }
 exc:h'.get? a=some (oe.mapFields λz=>z.setIfInBounds 1 (.ref T))
 ent:∃oT ts,h'.get? T=some oT/\oT.data=.fields ts/\ts[3]?=some (rawInt L)
theorem OK{head:Value}{ZY:Bool}(di:A.frames=some (env::outer))(hl:s.heap.FunFrames base (env::outer))(hf:env.frame=some L)(he:s.heap.get? a=some oe)(hd:oe.data=.fields vs)(jZ:1<vs.size)
  (na:a ∉ (env::outer).filterMap (·.frame)) (k:∀h' T',Ent ((env::outer).filterMap (·.frame)) s.heap h' a T' oe L->Q () { s with heap:=h' }) :
  wpAny M A (do let x<-frameOf env;let pl<-entryPlaceOf L ZY;let b<-EntryCells.newEntry head x .none (rawInt L) .none pl;setField (.ref a) 1 b) Q E s:=by
 refine wpAny_bind (wpAny_frameOf_fun di hl hf λg1 so=>wpAny_bind (wpAny_entryPlaceOf λpl ip=>?_))
 unfold EntryCells.newEntry newFields
 have e1:g1.get? a=some oe:=(so.2.1 a na).trans he
 refine wpAny_bind (wpAny_newObj_type ?_ (ip.sizeOk5 _ _ _ _ _))
 generalize OL:({ cls:=.type "traceback",dict:=none,data:=.fields ([head,dg L,.none,rawInt L,.none]++(if pl.isEmpty then aQ 6 iq else pl)).toArray }:Obj)=te
 have e2:(g1.push te).get? a=some oe:=bK te e1
 have ZZ:te.data=.fields ([head,dg L,.none,rawInt L,.none]++(if pl.isEmpty then aQ 6 iq else pl)).toArray:=by rw[<-OL]
 have nf:te.isFreed=false:=by rw[<-OL];rfl
 refine wpAny_setField e2 hd jZ ?_
 have d3:=Dv hd λz=>z.setIfInBounds 1 (dg g1.objs.size)
 have nT:g1.objs.size≠a:=qT (aS e1)
 refine k _ g1.objs.size ⟨?_,nT,λb o hb hz q=>?_,λb o hb q=>?_,qX _ e2 (MJ d3),⟨te,_,?_,ZZ,?_⟩⟩
 ·cases q:s.heap.get? g1.objs.size with
  | none=>rfl
  | some o=>obtain⟨sl,z⟩:=so.2.2 _ _ q;exact absurd (aS z) (gQ _)
 ·rw[jS _ _ (dA hb)]
  exact bK te ((so.2.1 b hz).trans q)
 ·obtain⟨sl,z⟩:=so.2.2 b o q
  refine⟨sl,?_⟩
  rw[jS _ _ (dA hb)]
  exact bK te z
 ·rw[jS _ _ (dA nT)]
  exact cS g1 nf
 ·first | (simp;done) | (rcases ip with rfl | ⟨_,_,_,_,_,_,_,rfl⟩<;>simp)
structure OM(fs Z:List Addr)(h h':Heap)(a T:Addr)(cls:Value):Prop where
 new:h.get? T=none
 keep:∀b o,b ∉ Z->b ∉ fs->h.get? b=some o->h'.get? b=some o
 slot:∀b o,b ∉ Z->h.get? b=some o->∃sl,h'.get? b=some { o with slots:=sl }
 rO:fP h' a T cls
theorem ES{fl:Value}(tr:ER s.heap a T cls fl)(k:∀h',(∀b o,b≠T->s.heap.get? b=some o->h'.get? b=some o)->fP h' a T cls->Q () { s with heap:=h' }):wpAny M A (setFlight (.ref a) none) Q E s:=by
 obtain⟨oe,vs,oT,ts,h1,h2,h3,h4,h5,h6,h7,h8,h9⟩:=tr
 have sz:3<ts.size:=(MK.mp h9).1
 unfold setFlight
 refine wpAny_bind (wpAny_field h1 h4 h5 ?_)
 rw[if_pos (by simp)]
 refine wpAny_setField h7 h8 sz (k _ (λb o hb q=>(jS _ _ (dA hb)).trans q) ?_)
 have d:=Dv h8 λz=>z.setIfInBounds 3 ((none:Option Addr).elim iq λf=>rawInt f)
 exact⟨oe,vs,_,_,(jS _ _ h6).trans h1,h2,h3,h4,h5,h6,qX _ h7 (MJ d),d,by simp[sz]⟩
theorem Ent.fin{fs:List Addr}{h h':Heap}{a T L:Addr}{oe:Obj}{vs:Array Value}(e:Ent fs h h' a T oe L)(hd:oe.data=.fields vs)(jZ:1<vs.size)(Z0:oe.dict=none):ER h' a T oe.cls (rawInt L):=by
 obtain⟨oT,ts,e1,e2,e3⟩:=e.ent
 exact⟨_,_,oT,ts,e.exc,Obj.cls_mapFields _ _,by rw[ZX];exact Z0,Dv hd _,by simp[jZ],e.ne,e1,e2,e3⟩
theorem ON(di:A.frames=some (env::outer))(hl:s.heap.FunFrames base (env::outer))(hf:env.frame=some L)(na:a ∉ (env::outer).filterMap (·.frame))(tr:fP s.heap a T cls)
  (k:∀h' T',OM ((env::outer).filterMap (·.frame)) [a,T] s.heap h' a T' cls->Q () { s with heap:=h' }):wpAny M A (noteFrame (.ref a) env) (λ_ iz=>wpAny M A (setFlight (.ref a) none) Q E iz) E s:=by
 obtain⟨oe,vs,oT,ts,h1,h2,h3,h4,h5,h6,h7,h8,h9⟩:=tr
 have s1:1<vs.size:=(MK.mp h5).1
 have s3:3<ts.size:=(MK.mp h9).1
 unfold noteFrame
 simp only[hf]
 refine wpAny_bind (wpAny_field h1 h4 h5 ?_)
 rw[if_pos (by simp)]
 refine wpAny_bind (wpAny_field h7 h8 h9 ?_)
 rw[if_neg (by simp[rawInt])]
 refine wpAny_bind (wpAny_setField h7 h8 s3 ?_)
 generalize hg:s.heap.update T (Obj.mapFields λz=>z.setIfInBounds 3 iq)=g
 have oW:∀b,b≠T->g.get? b=s.heap.get? b:=λb hb=>by rw[<-hg];exact jS _ _ (dA hb)
 have bT:∀b o,s.heap.get? b=some o->(∀ws,o.data≠.fields ws)->b≠T:=λb o q hn z=>by subst z;rw[h7]at q;cases q;exact hn ts h8
 have gT:∃Z1,g.get? T=some Z1:=⟨_,by rw[<-hg];exact qX _ h7 (MJ (Dv h8 _))⟩
 refine OK (s:={ s with heap:=g }) di (hl.of_keeps λb o q hn=>⟨o,(oW b (bT b o q hn)).trans q,rfl⟩) hf ((oW a (dA h6)).trans h1) h4 s1 na λh' T' en=>?_
 have Z2:T'≠T:=λz=>by subst z;obtain⟨o,q⟩:=gT;rw[en.new]at q;cases q
 refine ES (s:={ s with heap:=h' }) (h2 ▸ en.fin h4 s1 h3) λET kp EU=>?_
 refine k ET T' ⟨(oW T' Z2).symm.trans en.new,λb o hz hb q=>?_,λb o hz q=>?_,EU⟩
 ·have z1:b≠a:=λz=>hz (by simp[z])
  have z2:b≠T:=λz=>hz (by simp[z])
  have z3:b≠T':=λz=>by have:=en.new;rw[<-z,oW b z2,q]at this;cases this
  exact kp b o z3 (en.keep b o z1 hb ((oW b z2).trans q))
 ·have z1:b≠a:=λz=>hz (by simp[z])
  have z2:b≠T:=λz=>hz (by simp[z])
  have z3:b≠T':=λz=>by have:=en.new;rw[<-z,oW b z2,q]at this;cases this
  obtain⟨sl,r⟩:=en.slot b o z1 ((oW b z2).trans q)
  exact⟨sl,kp b _ z3 r⟩
theorem Z3{h1:Heap}{args:List Value}(di:A.frames=some (env::outer))(hl:s.heap.FunFrames base (env::outer))(hf:env.frame=some L)(hx:ML s.heap h1 a cls args)
  (k:∀h' T',OM ((env::outer).filterMap (·.frame)) [] s.heap h' a T' cls->Q () { s with heap:=h' }):wpAny M A (noteFrame (.ref a) env) (λ_ iz=>wpAny M A (setFlight (.ref a) none) Q E iz) E { s with heap:=h1 }:=by
 obtain⟨t,e1,_,_⟩:=hx.there
 have na:a ∉ (env::outer).filterMap (·.frame):=λhb=>by obtain⟨_,o,ho,_⟩:=hl.mem hb;rw[hx.new]at ho;cases ho
 unfold noteFrame
 simp only[hf]
 refine wpAny_bind (wpAny_field (s:={ s with heap:=h1 }) e1 rfl (x:=.none) (by rfl) ?_)
 rw[if_neg (by decide)]
 refine OK (s:={ s with heap:=h1 }) di (hl.of_keeps λb o q _=>⟨o,hx.keeps b o q,rfl⟩) hf e1 rfl (by simp) na λh' T' en=>?_
 refine ES (s:={ s with heap:=h' }) (en.fin rfl (by simp) rfl) λET kp EU=>?_
 have ba:∀b o,s.heap.get? b=some o->b≠a:=λb o q z=>by rw[z,hx.new]at q;cases q
 have bT:∀b o,s.heap.get? b=some o->b≠T':=λb o q z=>by have:=hx.keeps b o q;rw[z,en.new]at this;cases this
 refine k ET T' ⟨?_,λb o _ hb q=>kp b o (bT b o q) (en.keep b o (ba b o q) hb (hx.keeps b o q)),λb o _ q=>?_,EU⟩
 ·cases q:s.heap.get? T' with
  | none=>rfl
  | some o=>exact absurd rfl (bT T' o q)
 ·obtain⟨sl,r⟩:=en.slot b o (ba b o q) (hx.keeps b o q)
  exact⟨sl,kp b _ (bT b o q) r⟩
end
end L2
namespace L2
open PySem PySem.Spec PyProof.Rows
theorem cM.there{P:Program}{w:World}{H:Hp}{h:Heap}{a:Addr}{o:HO}(x:cM P w H h a o):∃u,h.get? a=some u:=by
 cases o with
 | lst xs=>obtain⟨_,_,_,_,e⟩:=x;exact⟨_,e⟩
 | tup xs=>obtain⟨_,_,_,o,e,_⟩:=x;exact⟨o,e⟩
 | dK cT=>obtain⟨_,_,_,_,o,_,_,e,_⟩:=x;exact⟨_,e⟩
 | dT cT=>obtain⟨_,_,_,_,o,_,_,e,_⟩:=x;exact⟨_,e⟩
 | set S n=>obtain⟨o,_,_,_,e,_⟩:=x;exact⟨_,e⟩
 | ins C dx fs=>obtain⟨_,_,_,e,_⟩:=x;exact⟨_,e⟩
 | own y=>exact x
 | xd fs=>obtain⟨_,⟨_,_,_,e,_⟩,_⟩:=x;exact⟨_,e⟩
 | wk lo hi=>obtain⟨_,_,_,e⟩:=x;exact⟨_,e⟩
 | bO ob u=>obtain⟨e,_⟩:=x;exact⟨_,e⟩
 | cR ps=>exact⟨_,show h.get? a=some _ from x.1⟩
 | met f y=>exact⟨_,show h.get? a=some _ from x⟩
 | ext φ=>obtain⟨_,e,_⟩:=x;exact e
theorem cn.none{P:Program}{w:World}{H:Hp}{h:Heap}{a:Addr}(x:cn P w H h)(e:h.get? a=.none):H a=.none:=by
 cases q:H a with
 | none=>rfl
 | some u=>obtain⟨o,z⟩:=(x a u q).there;rw[e]at z;cases z
structure Apart(X:Cx)(pins:List (Addr × Obj))(H:Hp)(b:Addr):Prop where
 old:X.bZ.heap.get? b=none
 free:H b=none
 loc:b≠X.env.locals
 cell:∀x c,X.env.cells.lookup x=some c->c≠b
 pin:∀p∈X.pn++pins,p.1≠b
 fr:b ∉ cU X.stack
section
variable{X:Cx}{pins:List (Addr × Obj)}{σ:St}{H H':Hp}{s:Shared}{a T b:Addr}{cls:Value}{M:Model}{Q:Unit->Shared->Prop}{E:Value->Shared->Prop}{h':Heap}
theorem Z4(I:Inv X pins σ H s)(hb:b∈cU X.stack):∃o,s.heap.get? b=some o/\∀vs,o.data≠.fields vs:=(I.stack.mem hb).2
theorem Inv.old(I:Inv X pins σ H s)(hex:X.ex=[])(e:s.heap.get? b=none):X.bZ.heap.get? b=none:=by
 cases q:X.bZ.heap.get? b with
 | none=>rfl
 | some o=>obtain⟨o',z⟩:=I.base.there b o q (by rw[hex];simp);rw[e]at z;cases z
theorem Inv.apart(I:Inv X pins σ H s)(hex:X.ex=[])(e:s.heap.get? b=none)(n:H' b=none):Apart X pins H' b where
 old:=I.old hex e
 free:=n
 loc:=λz=>by obtain⟨m,⟨o,_,_,ho,_⟩,_⟩:=I.loc;rw[z,ho]at e;cases e
 cell:=λx c hc z=>by obtain⟨v,o,ho,_⟩:=I.cell x c hc;rw[z,e]at ho;cases ho
 pin:=λp hp z=>by have:=(I.pin p hp).1;rw[z,e]at this;cases this
 fr:=λhb=>by obtain⟨o,ho,_⟩:=Z4 I hb;rw[e]at ho;cases ho
theorem OO(I:Inv X pins σ H s)(bW:X.stack=X.env::X.outer)(hex:X.ex=[])(hf:X.env.frame=some X.env.locals)(Z:List Addr)(hZ:∀b∈Z,X.bZ.heap.get? b=none/\H b=none)
  (keep:∀b o,b ∉ Z->b ∉ cU X.stack->s.heap.get? b=some o->h'.get? b=some o) (slots:∀b o,b ∉ Z->s.heap.get? b=some o->∃sl,h'.get? b=some { o with slots:=sl }) :
  Un (cU X.outer) [] X.jm H X.bZ.heap h'/\cn X.prog X.w H h':=by
 have oX:∀b o,X.bZ.heap.get? b=some o->b ∉ Z:=λb o e z=>by rw[(hZ b z).1]at e;cases e
 have sub:∀b,b∈cU X.stack->b=X.env.locals\/b∈cU X.outer:=λb hb=>by
  rw[bW]at hb
  unfold cU at hb
  rw[qS,hf]at hb
  exact bG.mp hb
 have sup:∀b,b∈cU X.outer->b∈cU X.stack:=λb hb=>by
  rw[bW]
  unfold cU
  rw[qS,hf]
  exact i3 _ hb
 have rz:∀b o,X.bZ.heap.get? b=some o->b≠X.env.locals:=λb o e=>cy (cI (aS e) I.ok.above)
 have nx:∀b:Addr,b ∉ X.ex:=λb=>by rw[hex];simp
 refine⟨⟨λb o e n hb _=>?_,λb o e n hb _=>?_,λb o e n _=>I.base.free b o e n (nx b),λb o e _=>?_,I.base.eY,I.base.eK,I.base.dY⟩,λb ob e=>?_⟩
 ·exact keep b o (oX b o e) (λz=>(sub b z).elim (rz b o e) hb) (I.base.keep b o e n hb (nx b))
 ·obtain⟨sl,e1⟩:=I.base.slot b o e n hb (nx b)
  exact(slots b _ (oX b o e) e1).imp λsl h=>h
 ·obtain⟨o',e1⟩:=I.base.there b o e (nx b)
  exact(slots b o' (oX b o e) e1).elim λsl q=>⟨_,q⟩
 ·refine(I.av b ob e).gZ (λc u hc q=>keep c u (λz=>?_) (λz=>?_) q) (λ_ q=>q) (λ_ _ q=>q) λ_ _ q=>q
  ·have n:=(hZ c z).2
   rcases hc with rfl | hc
   ·rw[n]at e;cases e
   ·rw[n]at hc;cases hc
  ·have n:=I.zU c z
   rcases hc with rfl | hc
   ·rw[n]at e;cases e
   ·rw[n]at hc;cases hc
structure OP(X:Cx)(H:Hp)(h':Heap)(a T:Addr)(cls:Value):Prop where
 un:Un (cU X.outer) [] X.jm H X.bZ.heap h'
 av:cn X.prog X.w H h'
 rO:fP h' a T cls
 a0:X.bZ.heap.get? a=none
 a1:H a=none
 t0:X.bZ.heap.get? T=none
 t1:H T=none
theorem Z5(I:Inv X pins σ H s)(bW:X.stack=X.env::X.outer)(hex:X.ex=[])(hf:X.env.frame=some X.env.locals)(tr:fP s.heap a T cls)(pa:Apart X pins H a)(pT:Apart X pins H T)
  (hQ:∀h' T',OP X H h' a T' cls->Q () { s with heap:=h' }):wpAny M X.A (leaving X.env (.ref a)) Q E s:=by
 have hZ:∀b∈[a,T],X.bZ.heap.get? b=none/\H b=none:=λb hb=>by
  rcases bG.mp hb with rfl | hb
  ·exact⟨pa.old,pa.free⟩
  ·rw[gU.mp hb];exact⟨pT.old,pT.free⟩
 have na:a ∉ (X.env::X.outer).filterMap (·.frame):=by have:=pa.fr;rw[bW]at this;exact this
 refine wpAny_bind (ON (base:=X.base) (by rw[I.ok.frames,bW]) (bW ▸ I.stack) hf na tr λh' T' st=>?_)
 have kp:∀b o,b ∉ [a,T]->b ∉ cU X.stack->s.heap.get? b=some o->h'.get? b=some o:=λb o hz hb q=>st.keep b o hz (by rw[bW]at hb;exact hb) q
 obtain⟨un,av⟩:=OO (h':=h') I bW hex hf [a,T] hZ kp st.slot
 exact hQ h' T' ⟨un,av,st.rO,pa.old,pa.free,I.old hex st.new,I.av.none st.new⟩
theorem Z6{h1:Heap}{args:List Value}(I:Inv X pins σ H s)(bW:X.stack=X.env::X.outer)(hex:X.ex=[])(hf:X.env.frame=some X.env.locals)(hx:ML s.heap h1 a cls args)
  (hQ:∀h' T',OP X H h' a T' cls->Q () { s with heap:=h' }):wpAny M X.A (leaving X.env (.ref a)) Q E { s with heap:=h1 }:=by
 refine wpAny_bind (Z3 (base:=X.base) (by rw[I.ok.frames,bW]) (bW ▸ I.stack) hf hx λh' T' st=>?_)
 have kp:∀b o,b ∉ ([]:List Addr)->b ∉ cU X.stack->s.heap.get? b=some o->h'.get? b=some o:=λb o hz hb q=>st.keep b o hz (by rw[bW]at hb;exact hb) q
 obtain⟨un,av⟩:=OO (h':=h') I bW hex hf [] (λb hb=>absurd hb (by simp)) kp st.slot
 exact hQ h' T' ⟨un,av,st.rO,I.old hex hx.new,I.av.none hx.new,I.old hex st.new,I.av.none st.new⟩
end
noncomputable def iH(P:Program)(w:World):dP:=λouter H s E e s'=>∃a T cls H',e=.ref a/\s'.os=s.os/\AllBare s'.gens/\Un (cU outer) [] H H' s.heap s'.heap/\cn P w H' s'.heap/\fP s'.heap a T cls /\
 s.heap.get? a=none/\H' a=none/\s.heap.get? T=none/\H' T=none/\E cls none H'
section
variable{X:Cx}{pins:List (Addr × Obj)}{σ:St}{H H':Hp}{s:Shared}{a T b:Addr}{cls:Value}{M:Model}{Q:Unit->Shared->Prop}{E:Value->Shared->Prop}{h':Heap}
theorem Inv.OQ(I:Inv X pins σ H s)(hex:X.ex=[])(Z:List Addr)(hZ:∀b∈Z,Apart X pins H b)
  (keep:∀b o,b ∉ Z->b ∉ cU X.stack->s.heap.get? b=some o->h'.get? b=some o) (slots:∀b o,b ∉ Z->s.heap.get? b=some o->∃sl,h'.get? b=some { o with slots:=sl }) (g':Array GenState) (t':Nat) (d':Drawn) (hg:AllBare g') :
  Inv X pins σ H { s with heap:=h',gens:=g',toks:=t',drawn:=d' }:=by
 have nx:∀b:Addr,b ∉ X.ex:=λb=>by rw[hex];simp
 have any:=slots
 have oX:∀b o,X.bZ.heap.get? b=some o->b ∉ Z:=λb o e z=>by rw[(hZ b z).old]at e;cases e
 have rz:∀b o,X.bZ.heap.get? b=some o->b≠X.env.locals:=λb o e=>cy (cI (aS e) I.ok.above)
 have cz:∀x c,X.env.cells.lookup x=some c->c ∉ Z:=λx c e z=>(hZ c z).cell x c e rfl
 have cellK:∀x c,X.env.cells.lookup x=some c->∀v,s.heap.IsCell c v->h'.IsCell c v:=λx c e v zz=>by
  obtain⟨o,ho,hd⟩:=zz
  obtain⟨sl,q⟩:=any c o (cz x c e) ho
  exact⟨_,q,hd⟩
 have OR:∀b,b ∉ X.fs->b≠X.env.locals->b ∉ cU X.stack:=λb h1 h2 h3=>(bG.mp (I.wo b h3)).elim h2 h1
 refine⟨I.ok,I.os,hg,⟨λb o e n hb hx=>?_,λb o e n hb hx=>?_,I.base.free,λb o e hx=>?_,I.base.eY,I.base.eK,I.base.dY⟩,?_,λx c e=>?_,I.free,I.eC,λp hp=>?_,λb ob e=>?_,I.len⟩
 ·exact keep b o (oX b o e) (OR b hb (rz b o e)) (I.base.keep b o e n hb hx)
 ·obtain⟨sl,e1⟩:=I.base.slot b o e n hb hx
  obtain⟨oq,e2⟩:=any b _ (oX b o e) e1
  exact⟨oq,e2⟩
 ·obtain⟨o',e1⟩:=I.base.there b o e hx
  obtain⟨sl,e2⟩:=any b o' (oX b o e) e1
  exact⟨_,e2⟩
 ·obtain⟨m,hn,hl⟩:=I.loc
  obtain⟨o,es,ep,ho,hd,r⟩:=id hn
  obtain⟨sl,q⟩:=slots _ o (λz=>(hZ _ z).loc rfl) ho
  refine⟨m,⟨_,es,ep,q,hd,r⟩,λi x v e1 e2 e3=>?_⟩
  obtain⟨u,r,l⟩:=hl i x v e1 e2 e3
  refine⟨u,r,?_⟩
  rcases l with l | ⟨k,c,e,z⟩
  ·exact .inl l
  ·exact .inr ⟨k,c,e,cellK x c e _ z⟩
 ·obtain⟨v,z⟩:=I.cell x c e
  exact⟨v,cellK x c e v z⟩
 ·obtain⟨e,n,ne,nf,d⟩:=I.pin p hp
  exact⟨keep p.1 p.2 (λz=>(hZ _ z).pin p hp rfl) (OR _ nf ne) e,n,ne,nf,d⟩
 ·refine(I.av b ob e).gZ (λc u hc q=>keep c u (λz=>?_) (λz=>?_) q) (λ_ q=>q) (λ_ _ q=>q) λ_ _ q=>q
  ·have n:=(hZ c z).free
   rcases hc with rfl | hc
   ·rw[n]at e;cases e
   ·rw[n]at hc;cases hc
  ·have n:=I.zU c z
   rcases hc with rfl | hc
   ·rw[n]at e;cases e
   ·rw[n]at hc;cases hc
theorem Z7(pa:Apart X pins H a)(pT:Apart X pins H T):∀b∈[a,T],Apart X pins H b:=λb hb=>by
 rcases bG.mp hb with rfl | hb
 ·exact pa
 ·rw[gU.mp hb];exact pT
theorem Z8(I:Inv X pins σ H s)(bW:X.stack=X.env::X.outer)(hex:X.ex=[])(hf:X.env.frame=some X.env.locals)(tr:fP s.heap a T cls)(pa:Apart X pins H a)(pT:Apart X pins H T)
  (hQ:∀h' T',Inv X pins σ H { s with heap:=h' }->fP h' a T' cls->Apart X pins H T'->Q () { s with heap:=h' }) :
  wpAny M X.A (noteFrame (.ref a) X.env) (λ_ iz=>wpAny M X.A (setFlight (.ref a) none) Q E iz) E s:=by
 have na:a ∉ (X.env::X.outer).filterMap (·.frame):=by have:=pa.fr;rw[bW]at this;exact this
 refine ON (base:=X.base) (by rw[I.ok.frames,bW]) (bW ▸ I.stack) hf na tr λh' T' st=>?_
 exact hQ h' T' (I.OQ hex [a,T] (Z7 pa pT) (λb o hz hb q=>st.keep b o hz (by rw[bW]at hb;exact hb) q) st.slot s.gens s.toks s.drawn I.bare) st.rO (I.apart hex st.new (I.av.none st.new))
theorem Z9{A:Around}(I:Inv X pins σ H s)(hex:X.ex=[])(tr:fP s.heap a T cls)(pT:Apart X pins H T)
  (hQ:∀h',Inv X pins σ H { s with heap:=h' }->fP h' a T cls->Q () { s with heap:=h' }):wpAny M A (setFlight (.ref a) none) Q E s:=by
 refine ES tr λh' kp EV=>hQ h' (I.OQ hex [T] (λb hb=>by rw[gU.mp hb];exact pT) (λb o hz _ q=>kp b o (by simpa using hz) q) (λb o hz q=>⟨o.slots,kp b o (by simpa using hz) q⟩) s.gens s.toks s.drawn I.bare) EV
theorem γ{A:Around}{i:Nat}{n:Str}{pos:Pos}(I:Inv X pins σ H s)(hN:X.N.Nodup)(hi:X.N[i]?=some n)(hl:X.env.kindOf n=some .local)
  (hQ:∀s',Inv X pins (σ.set i none) H s'->Q () s'):wpAny M A (do bindName X.env n .none;unbindBehindTheSuite X.env n pos) Q E s:=by
 obtain⟨m,hn,ε⟩:=id I.loc
 have i7:=I.i7
 refine PySem.wpAny_nameGoes_keeps hl hn (by rw[I.ok.kind];rfl) λh' v oB hs=>hQ _ ?_
 obtain⟨oL,_,_,rB,_⟩:=id hn
 refine⟨I.ok,I.os,I.bare,⟨λb o e n' hb hx=>?_,λb o e n' hb hx=>?_,I.base.free,λb o e hx=>?_,I.base.eY,I.base.eK,I.base.dY⟩,⟨_,oB,λj y w e1 e2 e3=>?_⟩,λy c e=>?_,I.free,I.eC,λp hp=>?_,λb ob e=>?_,by simpa using I.len⟩
 ·exact(hs.2 b (cy (cI (aS e) I.ok.above))).trans (I.base.keep b o e n' hb hx)
 ·obtain⟨sl,e1⟩:=I.base.slot b o e n' hb hx
  exact⟨sl,(hs.2 b (cy (cI (aS e) I.ok.above))).trans e1⟩
 ·obtain⟨o',e1⟩:=I.base.there b o e hx
  exact⟨o',(hs.2 b (cy (cI (aS e) I.ok.above))).trans e1⟩
 ·by_cases hj:j=i
  ·subst hj
   rw[List.getElem?_set_self']at e2
   cases q:σ[j]?<;>rw[q]at e2<;>cases e2
  ·rw[nZ (dA hj)]at e2
   obtain⟨u',r',q⟩:=ε j y w e1 e2 e3
   refine⟨u',r',?_⟩
   rcases q with⟨k,e⟩ | ⟨k,c,e,z⟩
   ·refine .inl ⟨k,?_⟩
    have:y≠n:=λe=>hj (DZ hN e1 (e ▸ hi))
    simp[this,e]
   ·exact .inr ⟨k,c,e,z.sameBut hs (i7 y c e)⟩
 ·obtain⟨w',z⟩:=I.cell y c e
  exact⟨w',z.sameBut hs (i7 y c e)⟩
 ·obtain⟨e,n',ne,nf,d⟩:=I.pin p hp
  exact⟨(hs.2 p.1 ne).trans e,n',ne,nf,d⟩
 ·refine(I.av b ob e).gZ (λc w' hc q=>(hs.2 c ?_).trans q) (λ_ q=>q) (λ_ _ q=>q) λ_ _ q=>q
  rintro rfl
  rcases hc with rfl | hc
  ·rw[I.free]at e;cases e
  ·rw[I.free]at hc;cases hc
end
end L2
namespace L2
open PySem PySem.W PySem.Spec PySem.Calls PyProof.Rows
section
variable{prog:Program}{w:World}{A:Around}{E:Value->Shared->Prop}{s:Shared}{K:Frag}{x D:Addr}{ox:Obj}{nq:Option Obj}
theorem ζ{tk:Tok}{Q:Fin->Shared->Prop}(X:K.In s.heap)(I:PySem.W.InstAt s.heap x ox D nq)(hf:findObj K D nq "__class__"=some (.bind (.builtin "getset_descriptor.__get__") (.builtin "object.__class__")))(hm:mroIn K D (.type "object")=some true)
  (hq:Q (.done (.ret (.ref D))) s):wpAny (model prog w) A (Builtin.«object.__getattribute__» ⟨[.ref x,.str "__class__" tk],[]⟩) Q E s:=by
 have cg:=λ(R:Result->Shared->Prop) (hR:R (.ok (.ret (.ref D))) s) (A:Around)=>PySem.W.class_get (prog:=prog) (w:=w) (A:=A) (R:=R) (tp:=.ref D) X I hm hR
 obtain⟨hh,g,d,t,os⟩:=s
 have L0:=I.type (M:=model prog w)
 have L1:=looks_find (M:=model prog w) X I hf
 unfold Builtin.«object.__getattribute__»
 repeat (any_goals (first | assumption | refine wpAny_bind (L0.at ?_) | refine wpAny_bind (L1.at ?_) | wp_step))
 exact cg _ (wpAny_pure hq) _
theorem η{M:Model}{OS:Value}{Q:Unit->Shared->Prop}(X:K.In s.heap)(I:PySem.W.InstAt s.heap x ox D nq)(hb:mroIn K D (.type "BaseException")=some true)(hq:Q () s) :
  wpAny M A (checkBuiltinCall "BaseException.__getattribute__" ⟨[.ref x,OS],[]⟩) Q E s:=by
 obtain⟨hh,g,d,t,os⟩:=s
 have L0:=I.type (M:=M)
 have L1:=looks_mroIn (M:=M) X hb
 have hk:builtinKind "BaseException.__getattribute__"=some .slot:=by decide +kernel
 have θ:splitId "BaseException.__getattribute__"=some ("BaseException","__getattribute__"):=by decide +kernel
 have ha:=F.args_bexc_ga (.ref x) OS
 simp only[checkBuiltinCall,hk,θ]
 refine wpAny_bind ?_
 ·unfold isInstance
  repeat (first | refine wpAny_bind (L0.at ?_) | refine wpAny_bind (L1.at ?_) | refine L1.at ?_ | wp_step)
  exact hq
theorem ι{tk:Tok}{R:Result->Shared->Prop}(X:K.In s.heap)(I:PySem.W.InstAt s.heap x ox D nq)(hf:findObj K D nq "__class__"=some (.bind (.builtin "getset_descriptor.__get__") (.builtin "object.__class__")))(hm:mroIn K D (.type "object")=some true)(hb:mroIn K D (.type "BaseException")=some true)
  (hq:R (.ok (.ret (.ref D))) s):codeAny (model prog w) A (.call (.builtin "BaseException.__getattribute__") ⟨[.ref x,.str "__class__" tk],[]⟩) R s :=
 codeAny_call_builtin (by decide +kernel) F.entry_bexc_ga (η X I hb (ζ X I hf hm hq))
end
end L2
namespace L2
open PySem PySem.W PySem.Spec PySem.Calls PyProof.Rows
section
variable{prog:Program}{w:World}{A:Around}{E:Value->Shared->Prop}{s:Shared}{K:Frag}{x D:Addr}{ox:Obj}{nq:Option Obj}
theorem μ{Q:Option Value->Shared->Prop}(X:K.In s.heap)(I:PySem.W.InstAt s.heap x ox D nq)(ν:findIn K (.ref D) "__getattribute__"=some (some (.builtin "BaseException.__getattribute__")))(ξ:findIn K (.ref D) "__getattr__"=some none)
  (hf:findObj K D nq "__class__"=some (.bind (.builtin "getset_descriptor.__get__") (.builtin "object.__class__"))) (hm:mroIn K D (.type "object")=some true) (hb:mroIn K D (.type "BaseException")=some true)
  (h:Q (some (.ref D)) { s with toks:=s.toks+1 }):wpAny (model prog w) A (getAttr? (.ref x) "__class__") Q E s:=by
 have xc:=λ(R:Result->Shared->Prop) (tk:Tok) (hR:R (.ok (.ret (.ref D))) { s with toks:=s.toks+1 }) (A:Around)=>ι (prog:=prog) (w:=w) (A:=A) (R:=R) (tk:=tk) (s:={ s with toks:=s.toks+1 }) X I hf hm hb hR
 obtain⟨hh,g,d,t,os⟩:=s
 have L0:=I.type (M:=model prog w)
 have L1:=looks_findIn (M:=model prog w) X ν
 have L2:=looks_findIn (M:=model prog w) X ξ
 have f3:=(F.excAttr_ValueError).ga.bind (.ref x)
 have fx:(Dw "BaseException.__getattribute__"==Dw "object.__getattribute__")=false:=by decide +kernel
 have dQ:(onTheHeap (dg D)&&Dw "BaseException.__getattribute__"==Dw "object.__getattribute__")=false:=by rw[fx];rfl
 unfold getAttr? getAttrBy? getAttrBy
 refine wpAny_bind (wpAny_mkText (wpAny_bind (wpAny_attempt (wpAny_holding (wpAny_bind (L0.at (wpAny_bind (L1.at ?_))))))))
 dsimp only
 rw[dQ]
 simp only[mO,if_false]
 unfold getAttrByItsOwn
 repeat (any_goals (first | assumption | refine wpAny_bind (L0.at ?_) | refine wpAny_bind (L2.at ?_) | wp_step))
 refine xc _ t ?_ _
 show wpAny _ _ (handedOut (.ref D)) _ _ _
 exact handed_on rfl (wpAny_pure h)
structure wW(K:Frag)(C:Addr):Prop where
 cls:(clsIn K C).isSome=true
 ga:findIn K (.ref C) "__getattribute__"=some (some (.builtin "BaseException.__getattribute__"))
 gt:findIn K (.ref C) "__getattr__"=some none
 ca:findIn K (.ref C) "__class__"=some (some (.builtin "object.__class__"))
 hn:specialIn K (.builtin "object.__class__") "__get__"=some (some (.builtin "getset_descriptor.__get__"))
 tk:takesIn K (.builtin "object.__class__")=some true
 mo:mroIn K C (.type "object")=some true
 mb:mroIn K C (.type "BaseException")=some true
noncomputable def j7(a C:Addr)(h:Heap):Prop:=∃o,h.get? a=some o/\o.cls=.ref C/\notCls o=true/\o.dict=none
theorem ο{K:Frag}{C:Addr}{name:Str}{a g:Value}(hc:(clsIn K C).isSome=true)(ha:findIn K (.ref C) name=some (some a))(hg:specialIn K a "__get__"=some (some g))(ht:takesIn K a=some true):findObj K C none name=some (.bind g a):=by
 obtain⟨cd,hc⟩:=zi.mp hc
 unfold findObj
 rw[hc,MM,ha,MM]
 simp[hg,ht]
theorem OT{a C:Addr}{h:Heap}(p:j7 a C h):∃ox,PySem.W.InstAt h a ox C none:=by
 obtain⟨o,h1,h2,h3,h4⟩:=p
 exact⟨o,h1,h2,h3,by rw[h4];trivial⟩
theorem π{a C:Addr}(c:wW K C):KitX K (.ref a) (.ref C) (j7 a C) where
 ty:=λ_ _ _ p=>let⟨_,I⟩:=OT p;I.type
 it:=λ_ _ X _=>by
  obtain⟨ρ,kT⟩:=zi.mp c.cls
  unfold clsIn at kT
  split at kT
  ·rename_i c' d' τ oq ho
   intro A' Q' E' s' k q
   unfold isType loadHead
   exact wpAny_bind (wpAny_loadPart (k _ _ (X _ _ ho)) (wpAny_pure q))
  ·cases kT
 ne:=λh tp dd its n sl X υ=>by
  obtain⟨ρ,kT⟩:=zi.mp c.cls
  refine Bool.eq_false_iff.mpr λq=>?_
  have e:C=tp:=Value.ref.inj (beq_iff_eq.mp q)
  subst e
  unfold clsIn at kT
  split at kT
  ·rename_i c' d' τ oq ho
   have z:=(X _ _ ho).symm.trans υ
   cases z
  ·cases kT
 ca:=λX p k=>let⟨_,I⟩:=OT p;μ X I c.ga c.gt (ο c.cls c.ca c.hn c.tk) c.mo c.mb k
end
end L2
namespace L2
open PySem PySem.Spec PyProof.Rows
section
variable{X:Cx}{pins:List (Addr × Obj)}{σ:St}{H:Hp}{s:Shared}{h':Heap}{its:List Addr}{T:Addr}{o:HO}{t':Nat}
theorem Inv.Am(I:Inv X pins σ H s)(k:∀b o,b ∉ its->s.heap.get? b=some o->h'.get? b=some o)(hf:∀b∈its,g8 X pins H b):Inv X pins σ H { s with heap:=h',toks:=t' }:=by
 have m4:∀b u,H b=some u->b ∉ its:=λb u e z=>by have:=(hf b z).1;rw[this]at e;cases e
 refine I.step (g':=s.gens) (d':=s.drawn) (ch:=its) (λb hb=>?_) (λb o _ _ hc e _=>k b o hc e) (λb o _ _ hc e _=>⟨o.slots,k b o hc e⟩) (λ_ _ _ _ n=>n)
  (λb o hc e=>⟨o,k b o hc e⟩) (λ_ _ e=>e) (λ_ _ _ e=>e) (λb ps e=>⟨#[],by rw[e];simp⟩) (λm hm=>?_) (λb u e=>?_) I.bare
 ·obtain⟨_,h1,_,h2,h3,h4⟩:=hf b hb
  exact⟨h2,h1,h3,h4⟩
 ·obtain⟨o,es,ep,ho,r⟩:=hm
  exact⟨o,es,ep,k _ o (λz=>(hf _ z).2.1 rfl) ho,r⟩
 ·refine(I.av b u e).gZ (λc v hc q=>k c v ?_ q) (λ_ q=>q) (λ_ _ q=>q) λ_ _ q=>q
  rcases hc with z | z
  ·rw[z];exact m4 b u e
  ·exact m4 c _ z
theorem Inv.OU(I:Inv X pins σ H s)(k:∀b o,b ∉ its->s.heap.get? b=some o->h'.get? b=some o)(hf:∀b∈its,g8 X pins H b)(hT:s.heap.objs.size<=T)(new:cM X.prog X.w (upd H T o) h' T o) :
  Inv X pins σ (upd H T o) { s with heap:=h',toks:=t' }:=by
 have m4:∀b u,H b=some u->b ∉ its:=λb u e z=>by have:=(hf b z).1;rw[this]at e;cases e
 have fT:H T=none:=I.av.fresh hT
 have neT:∀b u,H b=some u->b≠T:=λb u e z=>by rw[z,fT]at e;cases e
 have χ:∀b u,s.heap.get? b=some u->b≠T:=λb u e z=>absurd (cI (aS e) hT) (by rw[z];exact gQ _)
 refine I.step (g':=s.gens) (d':=s.drawn) (ch:=its) (λb hb=>?_) (λb o _ _ hc e _=>k b o hc e) (λb o _ _ hc e _=>⟨o.slots,k b o hc e⟩) (λb u _ e n=>by rw[aN (χ b u e)];exact n)
  (λb o hc e=>⟨o,k b o hc e⟩) (λb _ e=>by rw[aN (neT b _ e)];exact e) (λb _ _ e=>by rw[aN (neT b _ e)];exact e) (λb ps e=>⟨#[],by rw[aN (neT b _ e),e];simp⟩) (λm hm=>?_) (λb u e=>?_) I.bare
 ·obtain⟨_,h1,_,h2,h3,h4⟩:=hf b hb
  exact⟨h2,h1,h3,h4⟩
 ·obtain⟨o,es,ep,ho,r⟩:=hm
  exact⟨o,es,ep,k _ o (λz=>(hf _ z).2.1 rfl) ho,r⟩
 ·by_cases hb:b=T
  ·subst hb;rw[bV]at e;cases e;exact new
  ·rw[aN hb]at e
   refine(I.av b u e).gZ (λc v hc q=>k c v ?_ q) (λc q=>by rw[aN (neT c _ q)];exact q) (λc _ q=>by rw[aN (neT c _ q)];exact q) λc _ q=>by rw[aN (neT c _ q)];exact q
   rcases hc with z | z
   ·rw[z];exact m4 b u e
   ·exact m4 c _ z
noncomputable def EW(K:PySem.W.Frag)(a b:Addr):It :=
 ⟨λi H=>∃xs ys x y,bc K H a xs/\bc K H b ys/\xs[i]?=some x/\ys[i]?=some y,
  λi H v H'=>∃T x y,v=.ref T/\H T=none/\H'=upd H T (.tup [x,y])/\(∀xs,bc K H a xs->xs[i]?=some x)/\∀ys,bc K H b ys->ys[i]?=some y,
  λi H=>∃xs ys,bc K H a xs/\bc K H b ys/\(xs.length<=i\/ys.length<=i)⟩
theorem nr{K:PySem.W.Frag}{a c:Addr}{xs:List V}(hk:X.K=K)(I:Inv X pins σ H s)(h:bc K H a xs)(hf:g8 X pins H c)(ho:∃o,s.heap.get? c=some o/\o.cls≠.type "list"):a≠c:=by
 subst hk
 obtain⟨its,rv,p,hz⟩:=I.list h
 obtain⟨o,e,d⟩:=ho
 obtain⟨o',e',c',_⟩:=p.isList
 intro z
 subst z
 rw[e]at e';cases e'
 exact d c'
theorem ω{P:Program}{w:World}{K:PySem.W.Frag}{elts:List Expr}{k:Nat}{pos:Pos}(a b z TI TO i1 i2:Addr)(D5:[z,TI,TO,i1,i2].Nodup) :
  Turn P w K (.Tuple elts k pos) (EW K a b) [z,TI,TO,i1,i2] z (λi h=>IsZip h z TI TO .none/\IsPair h TI (.ref i1) (.ref i2)/\(∃u v,IsPair h TO u v)/\h.IsListIter i1 a i/\h.IsListIter i2 b i):=by
 have ap:∀(X:Cx) (pins:List (Addr × Obj)) (s:Shared) (σ:St) (H:Hp) (i:Nat) (xs ys:List V),X.K=K->Inv X pins σ H s->(∀b∈[z,TI,TO,i1,i2],g8 X pins H b)->IsZip s.heap z TI TO .none->(∃u v,IsPair s.heap TO u v)->s.heap.IsListIter i1 a i->s.heap.IsListIter i2 b i ->
   bc K H a xs->bc K H b ys->ZipApart z TI TO i1 i2 a b:=by
  intro X pins s σ H i xs ys hK I hf hz hW h1 h2 hx hy
  simp only[i5,bG,not_or,fI,not_false_eq_true,and_true]at D5
  obtain⟨⟨d1,d2,d3,d4⟩,⟨d5,d6,d7⟩,⟨d8,d9⟩,Δ,_⟩:=D5
  have oz:∃o,s.heap.get? z=some o/\o.cls≠.type "list":=⟨_,hz,by intro q;exact absurd (Dx q) (by decide)⟩
  have OV:∃o,s.heap.get? TO=some o/\o.cls≠.type "list":=by obtain⟨u,v,e⟩:=hW;exact⟨_,e,by intro q;exact absurd (Dx q) (by decide)⟩
  have o1:∃o,s.heap.get? i1=some o/\o.cls≠.type "list":=by obtain⟨o,e,c,d⟩:=h1;exact⟨_,e,by rw[c];intro q;exact absurd (Dx q) (by decide)⟩
  have o2:∃o,s.heap.get? i2=some o/\o.cls≠.type "list":=by obtain⟨o,e,c,d⟩:=h2;exact⟨_,e,by rw[c];intro q;exact absurd (Dx q) (by decide)⟩
  exact⟨dA d1,dA d2,dA d3,dA d4,d5,d6,d7,d8,d9,Δ,
   nr hK I hx (hf z (by simp)) oz,nr hK I hx (hf TO (by simp)) OV,nr hK I hx (hf i1 (by simp)) o1,nr hK I hx (hf i2 (by simp)) o2,
   nr hK I hy (hf z (by simp)) oz,nr hK I hy (hf TO (by simp)) OV,nr hK I hy (hf i1 (by simp)) o1,nr hK I hy (hf i2 (by simp)) o2⟩
 refine⟨by simp,λi h st c hc=>?_,λi h h' st kk=>?_,?_,?_,λ_ _ _ _ _ st h=>wpAny_pyIter_zip st.1 h⟩
 ·obtain⟨hz,jt,⟨u,v,hW⟩,⟨o1,e1,c1,d1⟩,⟨o2,e2,c2,d2⟩⟩:=st
  simp only[bG,fI,or_false]at hc
  rcases hc with rfl | rfl | rfl | rfl | rfl
  ·exact⟨_,hz,λv q=>by cases q⟩
  ·exact⟨_,jt,λv q=>by cases q⟩
  ·exact⟨_,hW,λv q=>by cases q⟩
  ·exact⟨_,e1,λv q=>by rw[d1]at q;cases q⟩
  ·exact⟨_,e2,λv q=>by rw[d2]at q;cases q⟩
 ·obtain⟨hz,jt,⟨u,v,hW⟩,h1,h2⟩:=st
  exact⟨kk _ (by simp) _ hz,kk _ (by simp) _ jt,⟨u,v,kk _ (by simp) _ hW⟩,h1.at λo e=>kk _ (by simp) o e,h2.at λo e=>kk _ (by simp) o e⟩
 ·intro X hP hw hK hc i pins s σ H E I hf st hg
  obtain⟨xs,ys,x,y,hx,hy,ex,ey⟩:=hg
  obtain⟨hz,jt,⟨u,v,hW⟩,h1,h2⟩:=st
  have D:=ap X pins s σ H i xs ys hK I hf hz ⟨u,v,hW⟩ h1 h2 hx hy
  subst hP hw hK
  obtain⟨as,ra,pa,_⟩:=I.list hx
  obtain⟨bs,rb,pb,_⟩:=I.list hy
  obtain⟨ux,EX,rx⟩:=ra.get ex
  obtain⟨uy,Θ,ry⟩:=rb.get ey
  refine wpAny_pyNext_zip_item D hz jt hW h1 h2 pa.isList pb.isList (x:=ux) (y:=uy) (by simpa using EX) (by simpa using Θ) λh' z' Λ i8 iF T' sz kk=>?_
  have fT:H s.heap.objs.size=none:=I.av.fresh (aY _)
  have I1:Inv X pins σ (upd H s.heap.objs.size (.tup [x,y])) { s with heap:=h',toks:=s.toks }:=I.OU (its:=[z,TO,i1,i2]) (λc o hc e=>kk c o (λq=>hc (by simp[q])) (λq=>hc (by simp[q])) (λq=>hc (by simp[q])) (λq=>hc (by simp[q])) e)
   (λc hc=>hf c (by simp only[bG,fI,or_false]at hc ⊢;rcases hc with rfl | rfl | rfl | rfl<;>simp)) (aY _) ⟨by show 2<=sizeLine;decide,[ux,uy],.cons rx (.cons ry .nil),⟨_,T',rfl,_,rfl⟩⟩
  have nT:∀c∈[z,TI,TO,i1,i2],c≠s.heap.objs.size:=λc hc q=>by
   have:∃o,s.heap.get? c=some o:=by
    simp only[bG,fI,or_false]at hc
    rcases hc with rfl | rfl | rfl | rfl | rfl
    ·exact⟨_,hz⟩
    ·exact⟨_,jt⟩
    ·exact⟨_,hW⟩
    ·obtain⟨o,e,_⟩:=h1;exact⟨o,e⟩
    ·obtain⟨o,e,_⟩:=h2;exact⟨o,e⟩
   obtain⟨o,e⟩:=this
   exact absurd (aS e) (by rw[q];exact gQ _)
  refine⟨_,rfl,wpAny_letOwnedTupleGo_zip z' λEY EZ sb=>?_⟩
  have E1:∀c∈[z],g8 X pins (upd H s.heap.objs.size (.tup [x,y])) c:=λc hc=>by
   have e:c=z:=by simpa using hc
   subst e
   obtain⟨f0,fr⟩:=hf c (by simp)
   exact⟨by rw[aN (nT c (by simp))];exact f0,fr⟩
  have I2:=Inv.Am (h':=EY) (its:=[z]) (t':=s.toks) I1 (λc o hc e=>sb.extBut _ _ (λq=>hc (by simp[q])) e) E1
  refine⟨.ref s.heap.objs.size,_,I2,rfl,⟨_,x,y,rfl,fT,rfl,λΞ dR=>by rw[I.wA dR hx];exact ex,λOW Eu=>by rw[I.wA Eu hy];exact ey⟩,⟨EZ,sb.extBut _ _ D.TIz (kk _ _ D.TIz D.TITO D.TIi1 D.TIi2 jt),⟨ux,uy,sb.extBut _ _ D.TOz Λ⟩,i8.extBut sb.extBut D.i1z,iF.extBut sb.extBut D.i2z⟩,λc hc=>?_⟩
  rw[aN (nT c hc)]
  exact(hf c hc).1
 ·intro X hP hw hK hc i pins s σ H E I hf st hg
  obtain⟨xs,ys,hx,hy,hl⟩:=hg
  obtain⟨hz,jt,⟨u,v,hW⟩,h1,h2⟩:=st
  have D:=ap X pins s σ H i xs ys hK I hf hz ⟨u,v,hW⟩ h1 h2 hx hy
  subst hP hw hK
  obtain⟨as,ra,pa,_⟩:=I.list hx
  obtain⟨bs,rb,pb,_⟩:=I.list hy
  have la:=ra.length
  have lb:=rb.length
  refine wpAny_pyNext_zip_end (I.ok.hd hc) D hz jt hW h1 h2 pa.isList pb.isList (hl.imp (λq=>by simp;omega) λq=>by simp;omega) λh' kk=>⟨rfl,?_⟩
  exact I.Am (its:=[z,TO,i1,i2]) (t':=s.toks) (λc o hc e=>kk c o (λq=>hc (by simp[q])) (λq=>hc (by simp[q])) (λq=>hc (by simp[q])) (λq=>hc (by simp[q])) e)
   (λc hc=>hf c (by simp only[bG,fI,or_false]at hc ⊢;rcases hc with rfl | rfl | rfl | rfl<;>simp))
noncomputable def E2(K:PySem.W.Frag)(a:Addr):It :=
 ⟨λi H=>∃xs x,bc K H a xs/\xs[i]?=some x,
  λi H v H'=>∃T x,v=.ref T/\H T=none/\H'=upd H T (.tup [.int i,x])/\∀xs,bc K H a xs->xs[i]?=some x,
  λi H=>∃xs,bc K H a xs/\xs.length<=i⟩
theorem Φ{P:Program}{w:World}{K:PySem.W.Frag}{elts:List Expr}{k:Nat}{pos:Pos}(a z it:Addr)(lN:z≠it) :
  Turn P w K (.Tuple elts k pos) (E2 K a) [z,it] z (λi h=>(∃old,IsEnum h z it i old)/\h.IsListIter it a i):=by
 refine⟨by simp,λi h st c hc=>?_,λi h h' st kk=>?_,?_,?_,λ_ _ _ _ _ st h=>by obtain⟨⟨old,e⟩,_⟩:=st;exact wpAny_pyIter_enum e h⟩
 ·obtain⟨⟨old,hz⟩,⟨o1,e1,c1,d1⟩⟩:=st
  simp only[bG,fI,or_false]at hc
  rcases hc with rfl | rfl
  ·exact⟨_,hz,λv q=>by cases q⟩
  ·exact⟨_,e1,λv q=>by rw[d1]at q;cases q⟩
 ·obtain⟨⟨old,hz⟩,h1⟩:=st
  exact⟨⟨old,kk _ (by simp) _ hz⟩,h1.at λo e=>kk _ (by simp) o e⟩
 ·intro X hP hw hK hc i pins s σ H E I hf st hg
  subst hP hw hK
  obtain⟨xs,x,hx,ex⟩:=hg
  obtain⟨⟨old,hz⟩,h1⟩:=st
  obtain⟨as,ra,pa,_⟩:=I.list hx
  obtain⟨ux,EX,rx⟩:=ra.get ex
  refine wpAny_pyNext_enum_item hz h1 pa.isList (x:=ux) (by simpa using EX) lN λh' z' i8 T' sz kk=>?_
  have fT:H s.heap.objs.size=none:=I.av.fresh (aY _)
  have I1:Inv X pins σ (upd H s.heap.objs.size (.tup [.int i,x])) { s with heap:=h',toks:=s.toks+1 }:=I.OU (its:=[z,it]) (λc o hc e=>kk c o (λq=>hc (by simp[q])) (λq=>hc (by simp[q])) e)
   (λc hc=>hf c hc) (aY _) ⟨by show 2<=sizeLine;decide,[.int i s.toks,ux],.cons ⟨_,rfl⟩ (.cons rx .nil),⟨_,T',rfl,_,rfl⟩⟩
  have nT:∀c∈[z,it],c≠s.heap.objs.size:=λc hc q=>by
   have:∃o,s.heap.get? c=some o:=by
    simp only[bG,fI,or_false]at hc
    rcases hc with rfl | rfl
    ·exact⟨_,hz⟩
    ·obtain⟨o,e,_⟩:=h1;exact⟨o,e⟩
   obtain⟨o,e⟩:=this
   exact absurd (aS e) (by rw[q];exact gQ _)
  refine⟨_,rfl,wpAny_letOwnedTupleGo_enum z' λEY EZ sb=>?_⟩
  have E1:∀c∈[z],g8 X pins (upd H s.heap.objs.size (.tup [.int i,x])) c:=λc hc=>by
   have e:c=z:=by simpa using hc
   subst e
   obtain⟨f0,fr⟩:=hf c (by simp)
   exact⟨by rw[aN (nT c (by simp))];exact f0,fr⟩
  have I2:=Inv.Am (h':=EY) (its:=[z]) (t':=s.toks+1) I1 (λc o hc e=>sb.extBut _ _ (λq=>hc (by simp[q])) e) E1
  refine⟨.ref s.heap.objs.size,_,I2,rfl,⟨_,x,rfl,fT,rfl,λΞ dR=>by rw[I.wA dR hx];exact ex⟩,⟨⟨ux,by simpa using EZ⟩,i8.extBut sb.extBut (dA lN)⟩,λc hc=>?_⟩
  rw[aN (nT c hc)]
  exact(hf c hc).1
 ·intro X hP hw hK hc i pins s σ H E I hf st hg
  subst hP hw hK
  obtain⟨xs,hx,hl⟩:=hg
  obtain⟨⟨old,hz⟩,h1⟩:=st
  obtain⟨as,ra,pa,_⟩:=I.list hx
  have la:=ra.length
  refine wpAny_pyNext_enum_end (I.ok.hd hc) hz h1 pa.isList (by simp;omega) λh' kk=>⟨rfl,?_⟩
  exact I.Am (its:=[it]) (t':=s.toks) (λc o hc e=>kk c o (λq=>hc (by simp[q])) e) (λc hc=>hf c (by simp at hc ⊢;simp[hc]))
end
section
variable{X:Cx}{a b:Expr}{ta:TA}{p pos kU:Pos}{elts:List Expr}{x1:Nat}
noncomputable def Ψ(K:PySem.W.Frag)(ta:TA):TI:=λσ H R=>ta σ H λvs H1=>∃a b,vs=[.ref a,.ref b]/\(∃xs,bc K H1 a xs)/\(∃ys,bc K H1 b ys)/\R (EW K a b) H1
theorem Ω:bootBuiltins "zip"=some (.type "zip"):=by decide +kernel
theorem cz7(hg:Gl X "zip")(hm:X.mg "zip"=none)(ha:PA X [a,b] ta)(hs:starEach [a,b] X.env=[(false,eval a X.env),(false,eval b X.env)]:=by rfl)(cK:starEach [b] X.env=[(false,eval b X.env)]:=by rfl) :
  PI X (.Tuple elts x1 kU) (.Call (.Name "zip" p) [a,b] [] pos) (Ψ X.K ta):=by
 intro pins s σ H R I h
 refine Call_ (iw I hg hm Ω (jO (aE (ha pos pins s σ H _ I h) λus s1 ⟨vs,H1,I1,r1,q1⟩=>?_) (by rw[hs,cK]) (by rw[cK];rfl)))
 obtain⟨a,b,e,⟨xs,hx⟩,⟨ys,hy⟩,q⟩:=q1
 subst e
 cases r1 with
 | cons r rr =>
  cases rr with
  | cons r2 rr =>
   cases rr
   cases r
   cases r2
   obtain⟨as,ra,pa,_⟩:=I1.list hx
   obtain⟨bs,rb,pb,_⟩:=I1.list hy
   refine call_zip_2 pa.isList pb.isList λh' hz jt hW h1 h2 sz kk=>wpAny_pyIter_zip hz ?_
   refine⟨_,[s1.heap.objs.size+4,s1.heap.objs.size+2,s1.heap.objs.size+3,s1.heap.objs.size,s1.heap.objs.size+1],_,_,H1,rfl,I1.kept (t':=s1.toks) kk,ω a b _ _ _ _ _ (by simp),⟨hz,jt,⟨_,_,hW⟩,h1,h2⟩,λc hc=>?_,q⟩
   have hle:s1.heap.objs.size<=c:=by
    simp only[bG,fI,or_false]at hc
    rcases hc with rfl | rfl | rfl | rfl | rfl<;>omega
   exact I1.rE hle (I1.av.fresh hle)
noncomputable def cB3(K:PySem.W.Frag)(ta:TA):TI:=λσ H R=>ta σ H λvs H1=>∃a,vs=[.ref a]/\(∃xs,bc K H1 a xs)/\R (E2 K a) H1
theorem bi7:bootBuiltins "enumerate"=some (.type "enumerate"):=by decide +kernel
theorem ck1(hg:Gl X "enumerate")(hm:X.mg "enumerate"=none)(ha:PA X [a] ta)(hs:starEach [a] X.env=[(false,eval a X.env)]:=by rfl) :
  PI X (.Tuple elts x1 kU) (.Call (.Name "enumerate" p) [a] [] pos) (cB3 X.K ta):=by
 intro pins s σ H R I h
 refine Call_ (iw I hg hm bi7 (jO (aE (ha pos pins s σ H _ I h) λus s1 ⟨vs,H1,I1,r1,q1⟩=>?_) hs rfl))
 obtain⟨a,e,⟨xs,hx⟩,q⟩:=q1
 subst e
 cases r1 with
 | cons r rr =>
  cases rr
  cases r
  obtain⟨as,ra,pa,_⟩:=I1.list hx
  refine call_enumerate_list pa.isList λh' hz h1 sz kk=>wpAny_pyIter_enum hz ?_
  refine⟨_,[s1.heap.objs.size+1,s1.heap.objs.size],_,_,H1,rfl,I1.kept (t':=s1.toks) kk,Φ a (s1.heap.objs.size+1) s1.heap.objs.size (Nat.succ_ne_self _),⟨⟨_,hz⟩,h1⟩,λc hc=>?_,q⟩
  have hle:s1.heap.objs.size<=c:=by
   simp only[bG,fI,or_false]at hc
   rcases hc with rfl | rfl<;>omega
  exact I1.rE hle (I1.av.fresh hle)
end
end L2
namespace L2
open PySem PySem.Spec PyProof.Rows PySem.W PySem.Calls
section
variable{X:Cx}
noncomputable def rP{α:Type}(xs:List α)(lo hi:Option Int):List α:=(xs.drop (HT.cw xs.length 0 lo)).take (HT.cw xs.length xs.length hi-HT.cw xs.length 0 lo)
theorem bL4(x:Str)(lo hi:Option Int):Txt.slice x lo hi=⟨(rP x.cps.toList lo hi).toArray⟩:=by
 have hx:x.length=x.cps.size:=rfl
 have e:(Dy lo hi 1 x.length).filterMap (x.cps[·]?)=rP x.cps.toList lo hi:=by
  obtain⟨h1,h2,h3⟩:=Er lo hi x.length
  have e0:Dy lo hi 1 x.length=sliceRange (sliceBounds lo hi none x.length).1 (sliceBounds lo hi none x.length).2.1 1:=by
   cases lo<;>cases hi<;>rfl
  rw[e0,h1,h2]
  simp only[sliceRange_one,pick_run]
  unfold rP
  rw[hx,gh]
 unfold Txt.slice
 split
 ·rename_i h
  have hl:(Dy lo hi 1 x.length).length=x.length:=by
   rw[dh]at h;exact eq_of_beq h.2
  have hs:(rP x.cps.toList lo hi)=x.cps.toList:=by
   have e2:HT.cw x.cps.toList.length x.cps.toList.length hi-HT.cw x.cps.toList.length 0 lo=x.length:=by
    obtain⟨h1,h2,h3⟩:=Er lo hi x.length
    have e0:Dy lo hi 1 x.length=sliceRange (sliceBounds lo hi none x.length).1 (sliceBounds lo hi none x.length).2.1 1:=by
     cases lo<;>cases hi<;>rfl
    rw[e0,h1,h2]at hl
    simp only[sliceRange_one,cQ,eB]at hl
    rw[gh,<- hx]
    omega
   unfold rP
   have le:HT.cw x.cps.toList.length x.cps.toList.length hi<=x.cps.toList.length:=by
    cases hi with
    | none=>simp[HT.cw]
    | some i=>simp only[HT.cw];split<;>omega
   have le2:HT.cw x.cps.toList.length 0 lo<=x.cps.toList.length:=by
    cases lo with
    | none=>simp[HT.cw]
    | some i=>simp only[HT.cw];split<;>omega
   rw[gh,<- hx]at e2 le le2 ⊢
   have z:HT.cw x.length 0 lo=0:=by omega
   have z2:HT.cw x.length x.length hi=x.length:=by omega
   rw[z,z2,Dz,oh,hx,<- gh,zo]
  rw[hs]
 ·rw[e]
theorem cv3:oS X (λx lo hi H Q=>∃z,x=.str z/\z.length<=sizeLine/\Q (.str ⟨(rP z.cps.toList lo hi).toArray⟩) H):=by
 intro pins s σ H x v vl vu lo hi sl Q I rx hs pl pu h
 obtain⟨z,rfl,hz,q⟩:=h
 obtain⟨t,rfl⟩:=rx
 refine⟨"str",_,F.slot_str_getitem.lookup,typeIs_str _ _ _,?_⟩
 have fin:∀(l u:Option (Int × Tok)),l.map (·.1)=lo->u.map (·.1)=hi->partValue l=vl->partValue u=vu->wpAny (model X.prog X.w) X.A (getItem (.str z t) (.ref sl)) (EP X pins σ Q) X.xe s:=by
  intro l u h1 h2 h3 h4
  obtain⟨o,e1,e2,e3⟩:=hs
  refine wpAny_getItem_str_slice (l:=l) (u:=u) (st:=none) ⟨o,e1,e2,by rw[e3,h3,h4];rfl⟩ rfl ?_
  have e:Txt.slice z lo hi=(if(((none:Option (Int × Tok)).map (·.1)).getD 1==1&&(slicePicked z l u none).length==z.length)=true then z else⟨((slicePicked z l u none).filterMap (z.cps[·]?)).toArray⟩):=by
   unfold Txt.slice slicePicked;rw[h1,h2];rfl
  refine post_val_or_str ⟨?_,λt' k=>?_⟩
  ·rw[<-e];exact eu (Txt.slice_le z _ _) hz
  ·rw[<-e,bL4];exact⟨.str _,H,I.tok _,⟨_,rfl⟩,q⟩
 cases pl with
 | none =>
  cases pu with
  | none=>exact fin none none rfl rfl rfl rfl
  | int j tj=>exact fin none (some (j,tj)) rfl rfl rfl rfl
 | int i ti =>
  cases pu with
  | none=>exact fin (some (i,ti)) none rfl rfl rfl rfl
  | int j tj=>exact fin (some (i,ti)) (some (j,tj)) rfl rfl rfl rfl
end
end L2
namespace L3
open PySem L2
noncomputable def ia:HO->Bool
 | .cR _=>false
 | _=>true
structure aa(H H':Hp):Prop where
 get:∀b o,H b=some o->(h:ia o=true:=by rfl)->H' b=some o
 tb:∀b ps,H b=some (.cR ps)->∃more,H' b=some (.cR (ps++more))
noncomputable instance {H H':Hp}:CoeFun (aa H H') λ_=>∀b o,H b=some o->(h:ia o=true:=by rfl)->H' b=some o:=⟨λs=>@aa.get _ _ s⟩
theorem E3{o:HO}(h:ia o=false):∃ps,o=.cR ps:=by
 cases o with
 | cR ps=>exact⟨ps,rfl⟩
 | _=>cases h
theorem aa.of{H H':Hp}(h:∀b o,H b=some o->H' b=some o):aa H H':=⟨λb o e _=>h b o e,λb ps e=>⟨#[],by rw[h b _ e];simp⟩⟩
theorem aa.refl(H:Hp):aa H H:=.of λ_ _ h=>h
theorem aa.trans{H H1 H2:Hp}(a:aa H H1)(b:aa H1 H2):aa H H2 :=
 ⟨λc o h n=>b.get c o (a.get c o h n) n,λc ps h=>by
  obtain⟨m1,e1⟩:=a.tb c ps h
  obtain⟨m2,e2⟩:=b.tb c _ e1
  exact⟨m1++m2,by rw[e2,vQ]⟩⟩
theorem aa.any{H H':Hp}(e:aa H H'){l:Addr}{o:HO}(h:H l=some o):∃o',H' l=some o':=by
 cases n:ia o with
 | true=>exact⟨o,e.get l o h n⟩
 | false =>
  obtain⟨ps,rfl⟩:=E3 n
  obtain⟨m,q⟩:=e.tb l ps h
  exact⟨_,q⟩
theorem aa.free{H H':Hp}(e:aa H H'){l:Addr}(h:H' l=Dn):H l=Dn:=by
 cases q:H l with
 | none=>rfl
 | some o =>
  obtain⟨o',z⟩:=e.any q
  rw[z]at h
  cases h
theorem aa.seq{K:PySem.W.Frag}{H H':Hp}{a:Addr}{xs:List V}(e:aa H H')(h:bc K H a xs):bc K H' a xs:=by
 rcases h with (h | ⟨o,h⟩) | h
 ·exact .inl (.inl (e _ _ h))
 ·exact .inl (.inr ⟨o,e _ _ h⟩)
 ·exact .inr h
inductive rQ where
 | ext (φ:Addr->Heap->Prop)
 | lam (of oc:Obj) (c k:Addr)
noncomputable instance:Coe (Addr->Heap->Prop) rQ:=⟨.ext⟩
noncomputable def E4(H:Hp)(k:Addr):Prop:=∃ψ,H k=some (.ext ψ)/\∀h,ψ h->∃q,h.CodeRec (.ref k) q
noncomputable def iJ(of oc:Obj)(c p:Addr):Heap->Prop:=λh=>h.get? p=some of/\h.get? c=some oc
structure gC(H:Hp)(p:Addr)(of oc:Obj)(c k:Addr):Prop where
 fn:H p=some (.ext (iJ of oc c p))
 cell:H c=some (.own p)
 E5:E4 H k
noncomputable def nt(H:Hp)(p:Addr):rQ->Prop
 | .ext φ=>H p=some (.ext (φ p))
 | .lam of oc c k=>gC H p of oc c k
theorem nt.mono{H H':Hp}{p:Addr}:∀{z:rQ},nt H p z->(∀a o,H a=some o->(∀ws,o≠.lst ws)->ia o=true->H' a=some o)->nt H' p z
 | .ext φ,x,k=>k _ _ x (λws q=>by cases q) rfl
 | .lam of oc c k',x,k=>⟨k _ _ x.fn (λws q=>by cases q) rfl,k _ _ x.cell (λws q=>by cases q) rfl,let⟨ψ,e,h⟩:=x.E5;⟨ψ,k _ _ e (λws q=>by cases q) rfl,h⟩⟩
inductive D where
 | ao | bl (b:Bool) | int (i:Int) | str (x:Str)
 | lst (o:Bool) (xs:List D)
 | tup (xs:List D)
 | obj (C:Addr) (ns:List Str) (xs:List D)
 | fz (xs:List D)
 | aR (z:rQ)
 deriving Inhabited
noncomputable def D.pl:D->Bool
 | .lst o xs=>!o&&wX xs
 | .tup xs=>wX xs
 | _=>true
where wX:List D->Bool
 | []=>true
 | d::ds=>d.pl&&wX ds
noncomputable def D.fr:D->Bool
 | .lst o xs=>o&&wY xs
 | .tup xs=>wY xs
 | .obj _ _ _=>false
 | .fz _=>false
 | _=>true
where wY:List D->Bool
 | []=>true
 | d::ds=>d.fr&&wY ds
noncomputable def D.sh:D->D
 | .lst _ xs=>.lst false (wZ xs)
 | .tup xs=>.tup (wZ xs)
 | d=>d
where wZ:List D->List D
 | []=>[]
 | d::ds=>d.sh::wZ ds
theorem OX(ds:List D):D.pl.wX ds=ds.all D.pl:=by induction ds with | nil=>rfl | cons d ds ih=>simp[D.pl.wX,ih]
theorem OY(ds:List D):D.fr.wY ds=ds.all D.fr:=by induction ds with | nil=>rfl | cons d ds ih=>simp[D.fr.wY,ih]
theorem OZ(ds:List D):D.sh.wZ ds=ds.map D.sh:=by induction ds with | nil=>rfl | cons d ds ih=>simp[D.sh.wZ,ih]
theorem i9(o:Bool)(xs:List D):(D.lst o xs).pl=(!o&&xs.all D.pl):=by simp[D.pl,OX]
theorem ju(xs:List D):(D.tup xs).pl=xs.all D.pl:=by simp[D.pl,OX]
theorem ib(o:Bool)(xs:List D):(D.lst o xs).fr=(o&&xs.all D.fr):=by simp[D.fr,OY]
theorem nu(xs:List D):(D.tup xs).fr=xs.all D.fr:=by simp[D.fr,OY]
theorem fQ(o:Bool)(xs:List D):(D.lst o xs).sh=.lst false (xs.map D.sh):=by simp[D.sh,OZ]
theorem lQ(xs:List D):(D.tup xs).sh=.tup (xs.map D.sh):=by simp[D.sh,OZ]
inductive R(F H:Hp):List D->List V->List Addr->Prop
 | nil:R F H [] [] []
 | ao {ds vs B}:R F H ds vs B->R F H (.ao::ds) (.ao::vs) B
 | bl {b ds vs B}:R F H ds vs B->R F H (.bl b::ds) (.bl b::vs) B
 | int {i ds vs B}:R F H ds vs B->R F H (.int i::ds) (.int i::vs) B
 | str {x ds vs B}:R F H ds vs B->R F H (.str x::ds) (.str x::vs) B
 | shr {p ws xs ds vs B}:F p=some (.lst ws)->R F H xs ws []->R F H ds vs B->R F H (.lst false xs::ds) (.ref p::vs) B
 | own {p ws xs A ds vs B}:H p=some (.lst ws)->F p=none->R F H xs ws A->R F H ds vs B->R F H (.lst true xs::ds) (.ref p::vs) (p::(A++B))
 | tup {p ws xs A ds vs B}:H p=some (.tup ws)->R F H xs ws A->R F H ds vs B->R F H (.tup xs::ds) (.ref p::vs) (A++B)
 | obj {p C dx ns ws xs ds vs B}:H p=some (.ins C dx (ns.zip ws))->ns.length=ws.length->R F H xs ws []->R F H ds vs B->R F H (.obj C ns xs::ds) (.ref p::vs) B
 | fz {p o ws xs ds vs B}:F p=some (.bO o (.lst ws))->R F H xs ws []->R F H ds vs B->R F H (.fz xs::ds) (.ref p::vs) B
 | aR {p z ds vs B}:nt H p z->R F H ds vs B->R F H (.aR z::ds) (.ref p::vs) B
inductive S(F H:Hp):List D->List V->Prop
 | nil:S F H [] []
 | ao {ds vs}:S F H ds vs->S F H (.ao::ds) (.ao::vs)
 | bl {b ds vs}:S F H ds vs->S F H (.bl b::ds) (.bl b::vs)
 | int {i ds vs}:S F H ds vs->S F H (.int i::ds) (.int i::vs)
 | str {x ds vs}:S F H ds vs->S F H (.str x::ds) (.str x::vs)
 | shr {p ws xs ds vs}:F p=some (.lst ws)->R F H xs ws []->S F H ds vs->S F H (.lst false xs::ds) (.ref p::vs)
 | own {p ws xs ds vs}:H p=some (.lst ws)->S F H xs ws->S F H ds vs->S F H (.lst true xs::ds) (.ref p::vs)
 | tup {p ws xs ds vs}:H p=some (.tup ws)->S F H xs ws->S F H ds vs->S F H (.tup xs::ds) (.ref p::vs)
 | obj {p C dx ns ws xs ds vs}:H p=some (.ins C dx (ns.zip ws))->ns.length=ws.length->R F H xs ws []->S F H ds vs->S F H (.obj C ns xs::ds) (.ref p::vs)
 | fz {p o ws xs ds vs}:F p=some (.bO o (.lst ws))->R F H xs ws []->S F H ds vs->S F H (.fz xs::ds) (.ref p::vs)
 | aR {p z ds vs}:nt H p z->S F H ds vs->S F H (.aR z::ds) (.ref p::vs)
section
variable{F F' H H':Hp}{d:D}{ds es:List D}{v:V}{vs ws:List V}{A B:List Addr}
theorem R.length(r:R F H ds vs A):ds.length=vs.length:=by
 induction r<;>simp_all
theorem S.length(r:S F H ds vs):ds.length=vs.length:=by
 induction r<;>simp_all
theorem R.cons(r:R F H [d] [v] A)(q:R F H ds vs B):R F H (d::ds) (v::vs) (A++B):=by
 cases r with
 | ao r=>cases r;exact .ao q
 | bl r=>cases r;exact .bl q
 | int r=>cases r;exact .int q
 | str r=>cases r;exact .str q
 | shr h x r=>cases r;exact .shr h x q
 | own h f x r=>cases r;simpa using R.own h f x q
 | tup h x r=>cases r;simpa using R.tup h x q
 | obj h l x r=>cases r;exact .obj h l x q
 | fz h x r=>cases r;exact .fz h x q
 | aR h r=>cases r;exact .aR h q
theorem R.cH(r:R F H (d::ds) vs A):∃v ck A1 A2,vs=v::ck/\A=A1++A2/\R F H [d] [v] A1/\R F H ds ck A2:=by
 cases r with
 | ao r=>exact⟨_,_,[],_,rfl,rfl,.ao .nil,r⟩
 | bl r=>exact⟨_,_,[],_,rfl,rfl,.bl .nil,r⟩
 | int r=>exact⟨_,_,[],_,rfl,rfl,.int .nil,r⟩
 | str r=>exact⟨_,_,[],_,rfl,rfl,.str .nil,r⟩
 | shr h x r=>exact⟨_,_,[],_,rfl,rfl,.shr h x .nil,r⟩
 | @own p _ _ A1 _ _ B1 h f x r=>exact⟨_,_,p::A1,B1,rfl,rfl,by simpa using R.own h f x .nil,r⟩
 | @tup p _ _ A1 _ _ B1 h x r=>exact⟨_,_,A1,B1,rfl,rfl,by simpa using R.tup h x .nil,r⟩
 | obj h l x r=>exact⟨_,_,[],_,rfl,rfl,.obj h l x .nil,r⟩
 | fz h x r=>exact⟨_,_,[],_,rfl,rfl,.fz h x .nil,r⟩
 | aR h r=>exact⟨_,_,[],_,rfl,rfl,.aR h .nil,r⟩
theorem S.cons(r:S F H [d] [v])(q:S F H ds vs):S F H (d::ds) (v::vs):=by
 cases r with
 | ao r=>exact .ao q
 | bl r=>exact .bl q
 | int r=>exact .int q
 | str r=>exact .str q
 | shr h x r=>exact .shr h x q
 | own h x r=>exact .own h x q
 | tup h x r=>exact .tup h x q
 | obj h l x r=>exact .obj h l x q
 | fz h x r=>exact .fz h x q
 | aR h r=>exact .aR h q
theorem S.cH(r:S F H (d::ds) vs):∃v ck,vs=v::ck/\S F H [d] [v]/\S F H ds ck:=by
 cases r with
 | ao r=>exact⟨_,_,rfl,.ao .nil,r⟩
 | bl r=>exact⟨_,_,rfl,.bl .nil,r⟩
 | int r=>exact⟨_,_,rfl,.int .nil,r⟩
 | str r=>exact⟨_,_,rfl,.str .nil,r⟩
 | shr h x r=>exact⟨_,_,rfl,.shr h x .nil,r⟩
 | own h x r=>exact⟨_,_,rfl,.own h x .nil,r⟩
 | tup h x r=>exact⟨_,_,rfl,.tup h x .nil,r⟩
 | obj h l x r=>exact⟨_,_,rfl,.obj h l x .nil,r⟩
 | fz h x r=>exact⟨_,_,rfl,.fz h x .nil,r⟩
 | aR h r=>exact⟨_,_,rfl,.aR h .nil,r⟩
theorem R.append:∀{ds:List D} {vs:List V} {A:List Addr},R F H ds vs A->R F H es ws B->R F H (ds++es) (vs++ws) (A++B)
 | [],_,_,r,q=>by cases r;exact q
 | d::ds,_,_,r,q=>by
  obtain⟨v,ck,A1,A2,rfl,rfl,h1,h2⟩:=r.cH
  simpa using h1.cons (R.append h2 q)
theorem S.append:∀{ds:List D} {vs:List V},S F H ds vs->S F H es ws->S F H (ds++es) (vs++ws)
 | [],_,r,q=>by cases r;exact q
 | d::ds,_,r,q=>by
  obtain⟨v,ck,rfl,h1,h2⟩:=r.cH
  exact h1.cons (S.append h2 q)
theorem R.split:∀{ds:List D} {vs:List V} {A:List Addr},R F H (ds++es) vs A->∃v1 v2 A1 A2,vs=v1++v2/\A=A1++A2/\R F H ds v1 A1/\R F H es v2 A2
 | [],vs,A,r=>⟨[],vs,[],A,rfl,rfl,.nil,r⟩
 | d::ds,_,_,r=>by
  obtain⟨v,ck,A1,A2,rfl,rfl,h1,h2⟩:=R.cH (ds:=ds++es) r
  obtain⟨v1,v2,B1,B2,rfl,rfl,h3,h4⟩:=R.split (ds:=ds) h2
  exact⟨v::v1,v2,A1++B1,B2,rfl,by simp,h1.cons h3,h4⟩
theorem R.get:∀{ds:List D} {vs:List V} {A:List Addr} {i:Nat},R F H ds vs A->ds[i]?=some d->∃v A1,vs[i]?=some v/\R F H [d] [v] A1/\A1 ⊆ A
 | [],_,_,_,_,e=>by simp at e
 | d'::ds,_,_,i,r,e=>by
  obtain⟨v,ck,A1,A2,rfl,rfl,h1,h2⟩:=r.cH
  cases i with
  | zero=>simp at e;subst e;exact⟨v,A1,rfl,h1,by simp⟩
  | succ i =>
   obtain⟨w,B1,e2,q,sb⟩:=R.get (ds:=ds) (i:=i) h2 (by simpa using e)
   exact⟨w,B1,by simpa using e2,q,λx hx=>eI _ (sb hx)⟩
theorem S.get:∀{ds:List D} {vs:List V} {i:Nat},S F H ds vs->ds[i]?=some d->∃v,vs[i]?=some v/\S F H [d] [v]
 | [],_,_,_,e=>by simp at e
 | d'::ds,_,i,r,e=>by
  obtain⟨v,ck,rfl,h1,h2⟩:=r.cH
  cases i with
  | zero=>simp at e;subst e;exact⟨v,rfl,h1⟩
  | succ i =>
   obtain⟨w,e2,q⟩:=S.get (ds:=ds) (i:=i) h2 (by simpa using e)
   exact⟨w,by simpa using e2,q⟩
theorem S.get':∀{ds:List D} {vs:List V} {i:Nat},S F H ds vs->vs[i]?=some v->∃d,ds[i]?=some d/\S F H [d] [v]
 | [],_,_,r,e=>by cases r;simp at e
 | d'::ds,_,i,r,e=>by
  obtain⟨v,ck,rfl,h1,h2⟩:=r.cH
  cases i with
  | zero=>simp at e;subst e;exact⟨d',rfl,h1⟩
  | succ i =>
   obtain⟨w,e2,q⟩:=S.get' (ds:=ds) (i:=i) h2 (by simpa using e)
   exact⟨w,by simpa using e2,q⟩
theorem S.take:∀{ds:List D} {vs:List V} (n:Nat),S F H ds vs->S F H (ds.take n) (vs.take n)
 | _,_,0,r=>by simpa using S.nil
 | [],_,n+1,r=>by cases r;exact .nil
 | d::ds,_,n+1,r=>by
  obtain⟨v,ck,rfl,h1,h2⟩:=r.cH
  exact h1.cons (S.take n h2)
theorem S.drop:∀{ds:List D} {vs:List V} (n:Nat),S F H ds vs->S F H (ds.drop n) (vs.drop n)
 | _,_,0,r=>by simpa using r
 | [],_,n+1,r=>by cases r;exact .nil
 | d::ds,_,n+1,r=>by
  obtain⟨v,ck,rfl,h1,h2⟩:=r.cH
  exact S.drop n h2
theorem fi{p:Addr}{o:HO}(h:Rd F p o)(s:aa F F')(n:ia o=true:=by rfl):Rd F' p o:=by
 rcases h with h | ⟨u,h⟩
 ·exact .inl (s.get _ _ h n)
 ·exact .inr ⟨u,s _ _ h⟩
theorem R.s(r:R F H ds vs A):S F H ds vs:=by
 induction r with
 | nil=>exact .nil
 | ao _ ih=>exact .ao ih
 | bl _ ih=>exact .bl ih
 | int _ ih=>exact .int ih
 | str _ ih=>exact .str ih
 | shr h x _ _ ih=>exact .shr h x ih
 | own h f _ _ i1 i2=>exact .own h i1 i2
 | tup h _ _ i1 i2=>exact .tup h i1 i2
 | obj h l x _ _ ih=>exact .obj h l x ih
 | fz h x _ _ ih=>exact .fz h x ih
 | aR h _ ih=>exact .aR h ih
structure fR(W:List Addr)(H H':Hp):Prop where
 get:∀a o,H a=some o->a ∉ W->(h:ia o=true:=by rfl)->H' a=some o
noncomputable instance {W:List Addr} {H H':Hp}:CoeFun (fR W H H') λ_=>∀a o,H a=some o->a ∉ W->(h:ia o=true:=by rfl)->H' a=some o:=⟨λs=>@fR.get _ _ _ s⟩
noncomputable def ie(W:List Addr)(H:Hp):Prop:=∀a∈W,∃ws,H a=some (.lst ws)
theorem R.keep{W:List Addr}(hf:aa F F')(hb:fR W H H')(hl:ie W H)(r:R F H ds vs A)(hn:∀a∈A,F' a=none)(hd:∀a∈A,a ∉ W):R F' H' ds vs A:=by
 induction r with
 | nil=>exact .nil
 | ao _ ih=>exact .ao (ih hn hd)
 | bl _ ih=>exact .bl (ih hn hd)
 | int _ ih=>exact .int (ih hn hd)
 | str _ ih=>exact .str (ih hn hd)
 | shr h x _ i1 ih=>exact .shr (hf _ _ h) (i1 (by simp) (by simp)) (ih hn hd)
 | own h f _ _ i1 i2 =>
  refine .own (hb _ _ h (hd _ (by simp))) (hn _ (by simp)) (i1 (λa ha=>hn a ?_) λa ha=>hd a ?_) (i2 (λa ha=>hn a ?_) λa ha=>hd a ?_)<;>simp[ha]
 | @tup p ws _ _ _ _ _ h _ _ i1 i2 =>
  refine .tup (hb _ _ h λz=>?_) (i1 (λa ha=>hn a ?_) λa ha=>hd a ?_) (i2 (λa ha=>hn a ?_) λa ha=>hd a ?_)<;>try simp[ha]
  obtain⟨q,e⟩:=hl _ z
  rw[h]at e;cases e
 | obj h l x _ i1 ih =>
  refine .obj (hb _ _ h λz=>?_) l (i1 (by simp) (by simp)) (ih hn hd)
  obtain⟨q,e⟩:=hl _ z
  rw[h]at e;cases e
 | fz h x _ i1 ih=>exact .fz (hf _ _ h) (i1 (by simp) (by simp)) (ih hn hd)
 | aR h _ ih =>
  exact .aR (h.mono λa o e n t=>hb.get a o e (λz=>by
   obtain⟨q,e'⟩:=hl _ z
   rw[e]at e';cases e';exact n _ rfl) t) (ih hn hd)
theorem fR.same(h:aa H H'):fR [] H H':=⟨λa o e _ n=>h.get a o e n⟩
theorem ie.nil:ie [] H:=λa h=>absurd h (by simp)
theorem R.grow(hf:aa F F')(hb:aa H H')(r:R F H ds vs A)(hn:∀a∈A,F' a=none):R F' H' ds vs A :=
 r.keep hf (fR.same hb) ie.nil hn (by simp)
theorem R.shared(hf:aa F F')(hb:aa H H')(r:R F H ds vs []):R F' H' ds vs []:=r.grow hf hb (by simp)
theorem S.mono(hf:aa F F')(hb:aa H H')(r:S F H ds vs):S F' H' ds vs:=by
 induction r with
 | nil=>exact .nil
 | ao _ ih=>exact .ao ih
 | bl _ ih=>exact .bl ih
 | int _ ih=>exact .int ih
 | str _ ih=>exact .str ih
 | shr h x _ ih=>exact .shr (hf _ _ h) (x.shared hf hb) ih
 | own h _ _ i1 i2=>exact .own (hb _ _ h) i1 i2
 | tup h _ _ i1 i2=>exact .tup (hb _ _ h) i1 i2
 | obj h l x _ ih=>exact .obj (hb _ _ h) l (x.shared hf hb) ih
 | fz h x _ ih=>exact .fz (hf _ _ h) (x.shared hf hb) ih
 | aR h _ ih=>exact .aR (h.mono λa o e _ t=>hb.get a o e t) ih
theorem S.r(s:S F H ds vs)(p:ds.all D.pl=true):R F H ds vs []:=by
 induction s with
 | nil=>exact .nil
 | ao _ ih=>exact .ao (ih (by simpa[D.pl]using p))
 | bl _ ih=>exact .bl (ih (by simpa[D.pl]using p))
 | int _ ih=>exact .int (ih (by simpa[D.pl]using p))
 | str _ ih=>exact .str (ih (by simpa[D.pl]using p))
 | shr h x _ ih=>exact .shr h x (ih (by simp[i9]at p;simpa using p.2))
 | own h _ _ i1 i2=>simp[i9]at p
 | tup h _ _ i1 i2 =>
  rw[dX,ju,dh]at p
  simpa using R.tup h (i1 p.1) (i2 p.2)
 | obj h l x _ ih=>exact .obj h l x (ih (by simpa[D.pl]using p))
 | fz h x _ ih=>exact .fz h x (ih (by simpa[D.pl]using p))
 | aR h _ ih=>exact .aR h (ih (by simpa[D.pl]using p))
theorem R.pl(r:R F H ds vs []):ds.all D.pl=true:=by
 generalize e:([]:List Addr)=A at r
 induction r with
 | nil=>rfl
 | ao _ ih=>simp[D.pl];simpa using ih e
 | bl _ ih=>simp[D.pl];simpa using ih e
 | int _ ih=>simp[D.pl];simpa using ih e
 | str _ ih=>simp[D.pl];simpa using ih e
 | shr h x _ i1 ih=>simp only[dX,i9,i1 rfl,ih e];rfl
 | own h f _ _ i1 i2=>cases e
 | tup h _ _ i1 i2 =>
  obtain⟨e1,e2⟩:=DA.mp e.symm
  simp only[dX,ju,i1 e1.symm,i2 e2.symm];rfl
 | obj h l x _ i1 ih=>simp[D.pl];simpa using ih e
 | fz h x _ i1 ih=>simp[D.pl];simpa using ih e
 | aR h _ ih=>simp[D.pl];simpa using ih e
theorem D.An:∀{d:D},d.pl=true->d.sh=d
 | .ao,_=>rfl
 | .bl _,_=>rfl
 | .int _,_=>rfl
 | .str _,_=>rfl
 | .obj _ _ _,_=>rfl
 | .fz _,_=>rfl
 | .aR _,_=>rfl
 | .lst o xs,h=>by
  rw[i9,dh]at h
  have:∀(l:List D),(∀x∈l,x∈xs)->l.all D.pl=true->l.map D.sh=l:=by
   intro l hl hp
   induction l with
   | nil=>rfl
   | cons x l ih =>
    simp only[dX,dh]at hp
    have hx:x∈xs:=hl x (by simp)
    rw[dk,D.An hp.1,ih (λy hy=>hl y (by simp[hy])) hp.2]
  rw[fQ,this xs (λ_ h=>h) h.2]
  cases o<;>simp_all
 | .tup xs,h=>by
  rw[ju]at h
  have:∀(l:List D),(∀x∈l,x∈xs)->l.all D.pl=true->l.map D.sh=l:=by
   intro l hl hp
   induction l with
   | nil=>rfl
   | cons x l ih =>
    simp only[dX,dh]at hp
    have hx:x∈xs:=hl x (by simp)
    rw[dk,D.An hp.1,ih (λy hy=>hl y (by simp[hy])) hp.2]
  rw[lQ,this xs (λ_ h=>h) h]
termination_by d=>sizeOf d
theorem jv{l:List D}(h:l.all D.pl=true):l.map D.sh=l:=by
 induction l with
 | nil=>rfl
 | cons x l ih =>
  simp only[dX,dh]at h
  rw[dk,D.An h.1,ih h.2]
theorem S.frozen(e:aa F H)(s:S F H ds vs):R H H (ds.map D.sh) vs []:=by
 induction s with
 | nil=>exact .nil
 | ao _ ih=>exact .ao ih
 | bl _ ih=>exact .bl ih
 | int _ ih=>exact .int ih
 | str _ ih=>exact .str ih
 | shr h x _ ih =>
  rw[dk,fQ,jv x.pl]
  exact .shr (e _ _ h) (x.shared e (aa.refl _)) ih
 | own h _ _ i1 i2=>rw[dk,fQ];exact .shr h i1 i2
 | tup h _ _ i1 i2=>rw[dk,lQ];simpa using R.tup h i1 i2
 | obj h l x _ ih=>exact .obj h l (x.shared e (aa.refl _)) ih
 | fz h x _ ih=>exact .fz (e _ _ h) (x.shared e (aa.refl _)) ih
 | aR h _ ih=>exact .aR h ih
noncomputable def bO(F H:Hp)(A:List Addr):Hp:=λa=>if a∈A then H a else F a
theorem j8(e:aa F H):aa F (bO F H A):=⟨λa o h n=>by unfold bO;split;exact e.get _ _ h n;exact h,λa ps h=>by unfold bO;split;exact e.tb _ _ h;exact⟨#[],by rw[h];simp⟩⟩
theorem O0(e:aa F H):aa (bO F H A) H:=⟨λa o h n=>by unfold bO at h;split at h;exact h;exact e.get _ _ h n,λa ps h=>by unfold bO at h;split at h;exact⟨#[],by rw[h];simp⟩;exact e.tb _ _ h⟩
theorem Ao{a:Addr}(h:a ∉ A):bO F H A a=F a:=by unfold bO;rw[if_neg h]
theorem cv9{a:Addr}(h:a∈A):bO F H A a=H a:=by unfold bO;rw[if_pos h]
theorem R.bO(e:aa F H)(r:R F H ds vs A):∀A',A ⊆ A'->R (L3.bO F H A') H (ds.map D.sh) vs []:=by
 induction r with
 | nil=>exact λ_ _=>.nil
 | ao _ ih=>exact λA' h=>.ao (ih A' h)
 | bl _ ih=>exact λA' h=>.bl (ih A' h)
 | int _ ih=>exact λA' h=>.int (ih A' h)
 | str _ ih=>exact λA' h=>.str (ih A' h)
 | shr h x _ i1 ih =>
  intro A' hA
  rw[dk,fQ,jv x.pl]
  exact .shr (j8 e _ _ h) (x.shared (j8 e) (aa.refl _)) (ih A' hA)
 | own h f _ _ i1 i2 =>
  intro A' hA
  rw[dk,fQ]
  exact .shr ((cv9 (hA (by simp))).trans h) (i1 A' λa ha=>hA (by simp[ha])) (i2 A' λa ha=>hA (by simp[ha]))
 | tup h _ _ i1 i2 =>
  intro A' hA
  rw[dk,lQ]
  simpa using R.tup h (i1 A' λa ha=>hA (by simp[ha])) (i2 A' λa ha=>hA (by simp[ha]))
 | obj h l x _ i1 ih=>exact λA' hA=>.obj h l (x.shared (j8 e) (aa.refl _)) (ih A' hA)
 | fz h x _ i1 ih=>exact λA' hA=>.fz (j8 e _ _ h) (x.shared (j8 e) (aa.refl _)) (ih A' hA)
 | aR h _ ih=>exact λA' hA=>.aR h (ih A' hA)
theorem R.lists(r:R F H ds vs A):∀a∈A,(∃ws,H a=some (.lst ws))/\F a=none:=by
 induction r with
 | nil=>simp
 | ao _ ih=>exact ih
 | bl _ ih=>exact ih
 | int _ ih=>exact ih
 | str _ ih=>exact ih
 | shr h x _ i1 ih=>exact ih
 | own h f _ _ i1 i2 =>
  intro a ha
  rcases bG.mp ha with rfl | ha
  ·exact⟨⟨_,h⟩,f⟩
  ·exact(eH.mp ha).elim (i1 a) (i2 a)
 | tup h _ _ i1 i2=>exact λa ha=>(eH.mp ha).elim (i1 a) (i2 a)
 | obj h l x _ i1 ih=>exact ih
 | fz h x _ i1 ih=>exact ih
 | aR h _ ih=>exact ih
theorem R.Ap(r:R F H ds vs A)(hd:ds.all D.fr=true)(e:aa F' F):R F' H ds vs A:=by
 induction r with
 | nil=>exact .nil
 | ao _ ih=>exact .ao (ih (by simpa[D.fr]using hd))
 | bl _ ih=>exact .bl (ih (by simpa[D.fr]using hd))
 | int _ ih=>exact .int (ih (by simpa[D.fr]using hd))
 | str _ ih=>exact .str (ih (by simpa[D.fr]using hd))
 | shr h x _ i1 ih=>simp[ib]at hd
 | own h f _ _ i1 i2 =>
  rw[dX,ib,dh,og]at hd
  exact .own h (e.free f) (i1 hd.1) (i2 hd.2)
 | tup h _ _ i1 i2 =>
  rw[dX,nu,dh]at hd
  exact .tup h (i1 hd.1) (i2 hd.2)
 | obj h l x _ i1 ih=>simp[D.fr]at hd
 | fz h x _ i1 ih=>simp[D.fr]at hd
 | aR h _ ih=>exact .aR h (ih (by simpa[D.fr]using hd))
theorem R.inj(r:R F H ds vs A):∀{B:List Addr},R F H ds vs B->A=B:=by
 induction r with
 | nil=>intro B q;cases q;rfl
 | ao _ ih=>intro B q;cases q with | ao q=>exact ih q
 | bl _ ih=>intro B q;cases q with | bl q=>exact ih q
 | int _ ih=>intro B q;cases q with | int q=>exact ih q
 | str _ ih=>intro B q;cases q with | str q=>exact ih q
 | shr h x _ i1 ih=>intro B q;cases q with | shr _ _ q=>exact ih q
 | own h f _ _ i1 i2 =>
  intro B q
  cases q with
  | own h' f' x' q =>
   rw[h]at h';cases h'
   rw[i1 x',i2 q]
 | tup h _ _ i1 i2 =>
  intro B q
  cases q with
  | tup h' x' q =>
   rw[h]at h';cases h'
   rw[i1 x',i2 q]
 | obj h l x _ i1 ih=>intro B q;cases q with | obj _ _ _ q=>exact ih q
 | fz h x _ i1 ih=>intro B q;cases q with | fz _ _ q=>exact ih q
 | aR h _ ih=>intro B q;cases q with | aR _ q=>exact ih q
theorem R.perm{ps qs:List (D × V)}(hp:ps.Perm qs):∀{A:List Addr},R F H (ps.map (·.1)) (ps.map (·.2)) A->∃A',R F H (qs.map (·.1)) (qs.map (·.2)) A'/\A.Perm A':=by
 induction hp with
 | nil=>exact λr=>⟨_,r,.refl _⟩
 | cons x _ ih =>
  intro A r
  obtain⟨v,ck,A1,A2,e,rfl,h1,h2⟩:=R.cH r
  obtain⟨rfl,rfl⟩:=mP e
  obtain⟨A',r',p⟩:=ih h2
  exact⟨A1++A',h1.cons r',p.append_left _⟩
 | swap x y l =>
  intro A r
  obtain⟨v,ck,A1,A2,e,rfl,h1,h2⟩:=R.cH r
  obtain⟨rfl,rfl⟩:=mP e
  obtain⟨v2,O1,B1,B2,e,rfl,h3,h4⟩:=R.cH h2
  obtain⟨rfl,rfl⟩:=mP e
  exact⟨B1++(A1++B2),h3.cons (h1.cons h4),by rw[<-dW,<- dW];exact mQ.append_right _⟩
 | trans _ _ i1 i2 =>
  intro A r
  obtain⟨A',r',p⟩:=i1 r
  obtain⟨A2,r2,p2⟩:=i2 r'
  exact⟨A2,r2,p.trans p2⟩
noncomputable def Full(F H:Hp):Prop:=∀a o,H a=some o->(∀ws,o≠.lst ws)->F a=some o
theorem Full.refl(H:Hp):Full H H:=λ_ _ h _=>h
theorem R.full(hF:Full F H)(hs:aa F H')(r:R F H ds vs A)(e:A=[]):R F H' ds vs []:=by
 induction r with
 | nil=>exact .nil
 | ao _ ih=>exact .ao (ih e)
 | bl _ ih=>exact .bl (ih e)
 | int _ ih=>exact .int (ih e)
 | str _ ih=>exact .str (ih e)
 | shr h x _ i1 ih=>exact .shr h (i1 rfl) (ih e)
 | own h f _ _ i1 i2=>cases e
 | tup h _ _ i1 i2 =>
  obtain⟨e1,e2⟩:=DA.mp e
  exact R.tup (A:=[]) (B:=[]) (hs _ _ (hF _ _ h (by intro ws z;cases z))) (i1 e1) (i2 e2)
 | obj h l x _ i1 ih=>exact .obj (hs _ _ (hF _ _ h (by intro ws z;cases z))) l (i1 rfl) (ih e)
 | fz h x _ i1 ih=>exact .fz h (i1 rfl) (ih e)
 | aR h _ ih=>exact .aR (h.mono λa o e n t=>hs.get a o (hF a o e n) t) (ih e)
open Classical in
noncomputable def snap(F H:Hp):Hp:=λa=>if(∃o,H a=some o/\∀ws,o≠.lst ws)then H a else F a
theorem oY:Full (snap F H) H:=λa o h n=>by unfold snap;rw[if_pos ⟨o,h,n⟩];exact h
theorem nv(e:aa F H):aa F (snap F H):=⟨λa o h n=>by
 unfold snap;split
 ·exact e.get a o h n
 ·exact h,λa ps h=>by
 unfold snap;split
 ·exact e.tb a ps h
 ·exact⟨#[],by rw[h];simp⟩⟩
theorem bW1(e:aa F H):aa (snap F H) H:=⟨λa o h n=>by
 unfold snap at h;split at h
 ·exact h
 ·exact e.get a o h n,λa ps h=>by
 unfold snap at h;split at h
 ·exact⟨#[],by rw[h];simp⟩
 ·exact e.tb a ps h⟩
theorem bO3(e:aa F H){a:Addr}{ws:List V}(h:snap F H a=some (.lst ws)):F a=some (.lst ws):=by
 unfold snap at h;split at h
 ·rename_i z
  obtain⟨o,h1,h2⟩:=z
  rw[h]at h1;exact absurd (cP h1).symm (h2 ws)
 ·exact h
theorem bO5{a:Addr}{ws:List V}(h:H a=some (.lst ws))(n:F a=none):snap F H a=none:=by
 unfold snap;split
 ·rename_i z
  obtain⟨o,h1,h2⟩:=z
  rw[h]at h1;exact absurd (cP h1).symm (h2 ws)
 ·exact n
end
end L3
namespace L3
open PySem L2
noncomputable abbrev Dl:=List (Option D)
inductive RS(F H:Hp):Dl->St->List Addr->Prop
 | nil:RS F H [] [] []
 | ao {δ σ o C}:RS F H δ σ C->RS F H (none::δ) (o::σ) C
 | fj {d v A δ σ C}:R F H [d] [v] A->RS F H δ σ C->RS F H (some d::δ) (some v::σ) (A++C)
theorem e7{A B:List Addr}:(A++B).Nodup↔A.Nodup/\B.Nodup/\∀a∈A,a ∉ B:=by
 rw[List.nodup_append]
 constructor
 ·rintro⟨h1,h2,h3⟩;exact⟨h1,h2,λa ha hb=>h3 a ha a hb rfl⟩
 ·rintro⟨h1,h2,h3⟩;exact⟨h1,h2,λa ha b hb e=>h3 a ha (e ▸ hb)⟩
section
variable{F F' H H':Hp}{d:D}{v:V}{δ:Dl}{σ:St}{A C:List Addr}{i:Nat}
theorem RS.length(r:RS F H δ σ C):δ.length=σ.length:=by induction r<;>simp_all
theorem RS.pick:∀{δ:Dl} {σ:St} {C:List Addr} {i:Nat},RS F H δ σ C->δ[i]?=some (some d)->∃v A C',σ[i]?=some (some v)/\R F H [d] [v] A/\RS F H (δ.set i none) σ C'/\C.Perm (A++C')
 | _,_,_,_,.nil,e=>by simp at e
 | _,_,_,i,.ao r,e=>by
  cases i with
  | zero=>simp at e
  | succ i =>
   obtain⟨v,A,C',e1,h1,h2,p⟩:=RS.pick r (by simpa using e)
   exact⟨v,A,C',by simpa using e1,h1,.ao h2,p⟩
 | _,_,_,i,.fj (A:=A0) (C:=C0) h r,e=>by
  cases i with
  | zero =>
   simp at e;subst e
   exact⟨_,A0,C0,rfl,h,.ao r,.refl _⟩
  | succ i =>
   obtain⟨v,A,C',e1,h1,h2,p⟩:=RS.pick r (by simpa using e)
   refine⟨v,A,A0++C',by simpa using e1,h1,.fj h h2,(p.append_left A0).trans ?_⟩
   rw[<-dW,<- dW]
   exact mQ.append_right _
theorem RS.fill:∀{δ:Dl} {σ:St} {C:List Addr} {i:Nat},RS F H δ σ C->δ[i]?=some none->σ[i]?=some (some v)->R F H [d] [v] A->∃C',RS F H (δ.set i (some d)) σ C'/\C'.Perm (A++C)
 | _,_,_,_,.nil,e,_,_=>by simp at e
 | _,_,_,i,.ao r,e,e2,h=>by
  cases i with
  | zero=>simp at e2;subst e2;exact⟨_,.fj h r,.refl _⟩
  | succ i =>
   obtain⟨C',h1,p⟩:=RS.fill r (by simpa using e) (by simpa using e2) h
   exact⟨C',.ao h1,p⟩
 | _,_,_,i,.fj (A:=A0) (C:=C0) h0 r,e,e2,h=>by
  cases i with
  | zero=>simp at e
  | succ i =>
   obtain⟨C',h1,p⟩:=RS.fill r (by simpa using e) (by simpa using e2) h
   refine⟨A0++C',.fj h0 h1,(p.append_left A0).trans ?_⟩
   rw[<-dW,<- dW]
   exact mQ.append_right _
theorem RS.drop:∀{δ:Dl} {σ:St} {C:List Addr} (i:Nat),RS F H δ σ C->∃C',RS F H (δ.set i none) σ C'/\C'.Sublist C
 | _,_,_,_,.nil=>⟨_,.nil,.refl _⟩
 | _,_,_,i,.ao r=>by
  cases i with
  | zero=>exact⟨_,.ao r,.refl _⟩
  | succ i=>obtain⟨C',h,s⟩:=RS.drop i r;exact⟨C',.ao h,s⟩
 | _,_,_,i,.fj (A:=A0) h0 r=>by
  cases i with
  | zero=>exact⟨_,.ao r,List.sublist_append_right _ _⟩
  | succ i=>obtain⟨C',h,s⟩:=RS.drop i r;exact⟨_,.fj h0 h,(MN A0).append s⟩
theorem RS.rR:∀{δ:Dl} {σ:St} {C:List Addr} {i:Nat} (o:Option V),RS F H δ σ C->(δ[i]?=some none\/δ[i]?=none)->RS F H δ (σ.set i o) C
 | _,_,_,_,_,.nil,_=>.nil
 | _,_,_,i,_,.ao r,e=>by
  cases i with
  | zero=>exact .ao r
  | succ i=>exact .ao (RS.rR _ r (by simpa using e))
 | _,_,_,i,_,.fj h0 r,e=>by
  cases i with
  | zero=>simp at e
  | succ i=>exact .fj h0 (RS.rR _ r (by simpa using e))
theorem RS.keep{W:List Addr}(hf:aa F F')(hb:fR W H H')(hl:ie W H)(r:RS F H δ σ C)(hn:∀a∈C,F' a=none)(hd:∀a∈C,a ∉ W):RS F' H' δ σ C:=by
 induction r with
 | nil=>exact .nil
 | ao _ ih=>exact .ao (ih hn hd)
 | fj h _ ih=>exact .fj (h.keep hf hb hl (λa ha=>hn a (by simp[ha])) λa ha=>hd a (by simp[ha])) (ih (λa ha=>hn a (by simp[ha])) λa ha=>hd a (by simp[ha]))
theorem RS.lists(r:RS F H δ σ C):∀a∈C,(∃ws,H a=some (.lst ws))/\F a=none:=by
 induction r with
 | nil=>simp
 | ao _ ih=>exact ih
 | fj h _ ih=>exact λa ha=>(eH.mp ha).elim (h.lists a) (ih a)
theorem RS.none_of:∀{δ:Dl} {σ:St} {C:List Addr} {ar:St},RS F H δ σ C->ar.length=σ.length->RS F H (ar.map λ_=>none) ar []
 | _,_,_,[],_,_=>.nil
 | _,_,_,o::ar,.nil,e=>by simp at e
 | _,_,_,o::ar,.ao r,e=>.ao (RS.none_of r (by simpa using e))
 | _,_,_,o::ar,.fj _ r,e=>.ao (RS.none_of r (by simpa using e))
end
structure Bs where
 H0:Hp
 F0:Hp
structure aj(B:Bs)(F H:Hp)(σ:St)(δ:Dl)(ts:List (D × V)):Prop where
 ext:aa F H
 b1:aa B.H0 H
 b2:aa B.F0 F
 b3:∀a ws,F a=some (.lst ws)->B.F0 a=some (.lst ws)\/B.H0 a=none
 own:∃A C,R F H (ts.map (·.1)) (ts.map (·.2)) A/\RS F H δ σ C/\(A++C).Nodup/\∀a∈A++C,B.H0 a=none
section
variable{B:Bs}{F F' H H':Hp}{d:D}{v:V}{δ:Dl}{σ:St}{ts ps:List (D × V)}{A C W:List Addr}{i:Nat}{p:Addr}{xs ys:List D}{vs ws:List V}
theorem aj.look(c:aj B F H σ δ ts)(e:δ[i]?=some (some d)):∃v,σ[i]?=some (some v)/\S F H [d] [v]:=by
 obtain⟨A,C,r,s,nd,fr⟩:=c.own
 obtain⟨v,A',C',e1,h1,h2,p⟩:=s.pick e
 exact⟨v,e1,h1.s⟩
theorem aj.len(c:aj B F H σ δ ts):δ.length=σ.length:=let⟨_,_,_,s,_⟩:=c.own;s.length
theorem aj.grow(c:aj B F H σ δ ts)(h:aa H H'):aj B F H' σ δ ts:=by
 obtain⟨A,C,r,s,nd,fr⟩:=c.own
 exact⟨c.ext.trans h,c.b1.trans h,c.b2,c.b3,A,C,r.grow (aa.refl _) h λa ha=>(r.lists a ha).2,s.keep (aa.refl _) (fR.same h) ie.nil (λa ha=>(s.lists a ha).2) (by simp),nd,fr⟩
theorem aj.pop(c:aj B F H σ δ ((d,v)::ts)):aj B F H σ δ ts:=by
 obtain⟨A,C,r,s,nd,fr⟩:=c.own
 obtain⟨w,ck,A1,A2,e,rfl,h1,h2⟩:=R.cH r
 obtain⟨rfl,rfl⟩:=mP e
 refine⟨c.ext,c.b1,c.b2,c.b3,A2,C,h2,s,?_,λa ha=>fr a (by simp at ha ⊢;exact .inr ha)⟩
 rw[dW]at nd
 exact(e7.mp nd).2.1
theorem aj.top(c:aj B F H σ δ ((d,v)::ts)):S F H [d] [v]:=by
 obtain⟨A,C,r,s,nd,fr⟩:=c.own
 obtain⟨w,ck,A1,A2,e,rfl,h1,h2⟩:=R.cH r
 obtain⟨rfl,rfl⟩:=mP e
 exact h1.s
theorem aj.pushS(c:aj B F H σ δ ts)(s:S F H [d] [v])(pl:d.pl=true):aj B F H σ δ ((d,v)::ts):=by
 obtain⟨A,C,r,q,nd,fr⟩:=c.own
 exact⟨c.ext,c.b1,c.b2,c.b3,A,C,(s.r (by simp[pl])).cons r,q,nd,fr⟩
theorem aa.upd{o:HO}(h:H p=none):aa H (upd H p o):=.of λb u e=>by rw[aN (dN e h)];exact e
theorem aj.pack(c:aj B F H σ δ (ps++ts))(hs:aa H H')(k:∀A1,R F H' (ps.map (·.1)) (ps.map (·.2)) A1->A1.Nodup->∃A',R F H' [d] [v] A'/\A'.Nodup/\∀a∈A',a∈A1\/H a=none):aj B F H' σ δ ((d,v)::ts):=by
 obtain⟨A,C,r,s,nd,fr⟩:=c.own
 rw[oi,oi]at r
 obtain⟨v1,v2,A1,A2,e,rfl,h1,h2⟩:=R.split r
 have l1:(ps.map (·.2)).length=v1.length:=by rw[<-h1.length];simp
 obtain⟨rfl,rfl⟩:=MP e l1
 rw[dW]at nd fr
 obtain⟨n1,n2,n3⟩:=e7.mp nd
 have g1:=h1.grow (aa.refl F) hs λa ha=>(h1.lists a ha).2
 have g2:=h2.grow (aa.refl F) hs λa ha=>(h2.lists a ha).2
 have gs:=s.keep (aa.refl F) (fR.same hs) ie.nil (λa ha=>(s.lists a ha).2) (by simp)
 obtain⟨A',r',iK,sub⟩:=k A1 g1 n1
 refine⟨c.ext.trans hs,c.b1.trans hs,c.b2,c.b3,A'++A2,C,r'.cons g2,gs,?_,?_⟩
 ·rw[dW]
  refine e7.mpr ⟨iK,n2,λa ha hb=>?_⟩
  rcases sub a ha with z | z
  ·exact n3 a z hb
  ·rcases eH.mp hb with y | y
   ·obtain⟨⟨_,q⟩,_⟩:=h2.lists a y;rw[z]at q;cases q
   ·obtain⟨⟨_,q⟩,_⟩:=s.lists a y;rw[z]at q;cases q
 ·intro a ha
  rw[dW]at ha
  rcases eH.mp ha with y | y
  ·rcases sub a y with z | z
   ·exact fr a (by simp[z])
   ·exact c.b1.free z
  ·exact fr a (eI _ y)
theorem aj.Aq(c:aj B F H σ δ ts)(hs:aa H H')(r:R F H' [d] [v] A)(nd:A.Nodup)(fr:∀a∈A,H a=none):aj B F H' σ δ ((d,v)::ts) :=
 aj.pack (ps:=[]) c hs λ_ _ _=>⟨A,r,nd,λa ha=>.inr (fr a ha)⟩
theorem aj.jw(c:aj B F H σ δ ts)(hp:H p=none)(s:S F H xs vs)(pl:xs.all D.pl=true):aj B F (upd H p (.lst vs)) σ δ ((.lst true xs,.ref p)::ts) :=
 c.Aq (aa.upd hp) (A:=[p]) (by simpa using R.own bV (c.ext.free hp) ((s.r pl).shared (aa.refl _) (aa.upd hp)) .nil) (by simp) (by simp[hp])
theorem aj.cL7(c:aj B F H σ δ (ps++ts))(hp:H p=none):aj B F (upd H p (.lst (ps.map (·.2)))) σ δ ((.lst true (ps.map (·.1)),.ref p)::ts):=by
 refine c.pack (aa.upd hp) λA1 r nd=>⟨p::A1,by simpa using R.own bV (c.ext.free hp) r .nil,i5.mpr ⟨λh=>?_,nd⟩,λa ha=>?_⟩
 ·obtain⟨A,C,r0,_,_,_⟩:=c.own
  rw[oi,oi]at r0
  obtain⟨v1,v2,B1,B2,e,rfl,h1,h2⟩:=R.split r0
  have l1:(ps.map (·.2)).length=v1.length:=by rw[<-h1.length];simp
  obtain⟨rfl,rfl⟩:=MP e l1
  have g1:=h1.grow (aa.refl F) (aa.upd (o:=.lst (ps.map (·.2))) hp) λa ha=>(h1.lists a ha).2
  have:A1=B1:=R.inj r g1
  subst this
  obtain⟨⟨_,q⟩,_⟩:=h1.lists p h
  rw[hp]at q;cases q
 ·rcases bG.mp ha with rfl | h
  ·exact .inr hp
  ·exact .inl h
theorem aj.cL8(c:aj B F H σ δ (ps++ts))(hp:H p=none):aj B F (upd H p (.tup (ps.map (·.2)))) σ δ ((.tup (ps.map (·.1)),.ref p)::ts) :=
 c.pack (aa.upd hp) λA1 r nd=>⟨A1,by simpa using R.tup (F:=F) bV r .nil,nd,λa ha=>.inl ha⟩
theorem aj.perm(c:aj B F H σ δ ps)(h:ps.Perm ts):aj B F H σ δ ts:=by
 obtain⟨A,C,r,s,nd,fr⟩:=c.own
 obtain⟨A',r',p⟩:=r.perm h
 have pp:=p.append_right C
 exact⟨c.ext,c.b1,c.b2,c.b3,A',C,r',s,pp.nodup_iff.mp nd,λa ha=>fr a (pp.mem_iff.mpr ha)⟩
theorem aj.move(c:aj B F H σ δ ts)(e:δ[i]?=some (some d)):∃v,σ[i]?=some (some v)/\aj B F H σ (δ.set i none) ((d,v)::ts):=by
 obtain⟨A,C,r,s,nd,fr⟩:=c.own
 obtain⟨v,A',C',e1,h1,h2,p⟩:=s.pick e
 have pp:(A++C).Perm ((A'++A)++C'):=by
  refine(p.append_left A).trans ?_
  rw[<-dW]
  exact mQ.append_right _
 exact⟨v,e1,c.ext,c.b1,c.b2,c.b3,A'++A,C',h1.cons r,h2,pp.nodup_iff.mp nd,λa ha=>fr a (pp.mem_iff.mpr ha)⟩
theorem aj.forget(c:aj B F H σ δ ts)(i:Nat):aj B F H σ (δ.set i none) ts:=by
 obtain⟨A,C,r,s,nd,fr⟩:=c.own
 obtain⟨C',h,sb⟩:=s.drop i
 exact⟨c.ext,c.b1,c.b2,c.b3,A,C',r,h,nd.sublist ((MN A).append sb),λa ha=>fr a (((MN A).append sb).subset ha)⟩
theorem aj.fill(c:aj B F H σ δ ((d,v)::ts))(e:δ[i]?=some none)(e2:σ[i]?=some (some v)):aj B F H σ (δ.set i (some d)) ts:=by
 obtain⟨A,C,r,s,nd,fr⟩:=c.own
 obtain⟨w,ck,A1,A2,e',rfl,h1,h2⟩:=R.cH r
 obtain⟨rfl,rfl⟩:=mP e'
 obtain⟨C',s',p⟩:=s.fill e e2 h1
 have pp:((A1++A2)++C).Perm (A2++C'):=by
  refine((mQ (l₁:=A1) (l₂:=A2)).append_right C).trans ?_
  rw[dW]
  exact(p.symm).append_left A2
 exact⟨c.ext,c.b1,c.b2,c.b3,A2,C',h2,s',pp.nodup_iff.mp nd,λa ha=>fr a (pp.mem_iff.mpr ha)⟩
theorem aj.rR(c:aj B F H σ δ ts)(o:Option V)(e:δ[i]?=some none\/δ[i]?=none):aj B F H (σ.set i o) δ ts:=by
 obtain⟨A,C,r,s,nd,fr⟩:=c.own
 exact⟨c.ext,c.b1,c.b2,c.b3,A,C,r,s.rR o e,nd,fr⟩
theorem aj.store(c:aj B F H σ δ ((d,v)::ts))(i:Nat):aj B F H (σ.set i (some v)) (δ.set i (some d)) ts:=by
 by_cases hi:i<δ.length
 ·have c1:=c.forget i
  have hs:i<σ.length:=by rw[<-c.len];exact hi
  have e:(δ.set i none)[i]?=some none:=by simp[hi]
  have c2:=(c1.rR (some v) (.inl e)).fill (i:=i) e (by simp[hs])
  rwa [MQ]at c2
 ·have hs:¬ i<σ.length:=by rw[<-c.len];exact hi
  rw[VL (by omega),VL (by omega)]
  exact c.pop
theorem aj.mut(c:aj B F H σ δ (ps++ts))(e:δ[i]?=some (some (.lst true xs)))(e2:σ[i]?=some (some (.ref p)))
  (k:∀ws A1 A2,H p=some (.lst ws)->R F H xs ws A1->R F H (ps.map (·.1)) (ps.map (·.2)) A2->(A1++A2).Nodup->∃A',R F H ys vs A'/\A'.Nodup/\∀a∈A',a∈A1++A2) :
  aj B F (upd H p (.lst vs)) σ (δ.set i (some (.lst true ys))) ts:=by
 have hi:i<δ.length:=(gg.mp e).1
 obtain⟨v,e3,c1⟩:=c.move e
 rw[e2]at e3;cases e3
 obtain⟨A,C,r,s,nd,fr⟩:=c1.own
 have r':R F H (([.lst true xs]++ps.map (·.1))++ts.map (·.1)) ((.ref p::ps.map (·.2))++ts.map (·.2)) A:=by simpa using r
 obtain⟨v1,v2,A1,A2,e4,rfl,h1,h2⟩:=R.split r'
 have l1:(V.ref p::ps.map (·.2)).length=v1.length:=by rw[<-h1.length];simp
 obtain⟨rfl,rfl⟩:=MP e4 l1
 cases h1 with
 | @own _ w4 _ B1 _ _ B2 hH hF hx hr =>
  rw[dW]at nd fr
  obtain⟨n1,n2,n3⟩:=e7.mp nd
  obtain⟨m1,m2⟩:=i5.mp n1
  obtain⟨A',ra,nda,sub⟩:=k w4 B1 B2 hH hx hr m2
  have pA:p ∉ A':=λz=>m1 (sub _ z)
  have pR:p ∉ A2++C:=λz=>n3 p (by simp) z
  have but:fR [p] H (upd H p (.lst vs)):=⟨λa o q z _=>by rw[aN (by simpa using z)];exact q⟩
  have hl:ie [p] H:=λa ha=>by rw[gU.mp ha];exact⟨_,hH⟩
  have g1:=ra.keep (aa.refl F) but hl (λa ha=>(ra.lists a ha).2) λa ha z=>pA (by rw[<-gU.mp z];exact ha)
  have g2:=h2.keep (aa.refl F) but hl (λa ha=>(h2.lists a ha).2) λa ha z=>pR (by rw[<-gU.mp z];exact fq _ ha)
  have gs:=s.keep (aa.refl F) but hl (λa ha=>(s.lists a ha).2) λa ha z=>pR (by rw[<-gU.mp z];exact eI _ ha)
  have fp:B.H0 p=none:=fr p (by simp)
  have b1:aa B.H0 (upd H p (.lst vs)):=⟨λa o q n=>by
   rw[aN (λz=>by rw[z,fp]at q;cases q)]
   exact c1.b1.get a o q n,λa ps q=>by
   rw[aN (λz=>by rw[z,fp]at q;cases q)]
   exact c1.b1.tb a ps q⟩
  have ext:aa F (upd H p (.lst vs)):=⟨λa o q n=>by
   rw[aN (λz=>by rw[z,hF]at q;cases q)]
   exact c1.ext.get a o q n,λa ps q=>by
   rw[aN (λz=>by rw[z,hF]at q;cases q)]
   exact c1.ext.tb a ps q⟩
  have c2:aj B F (upd H p (.lst vs)) σ (δ.set i none) ((.lst true ys,.ref p)::ts):=by
   refine⟨ext,b1,c1.b2,c1.b3,(p::A')++A2,C,R.cons (by simpa using R.own bV hF g1 .nil) g2,gs,?_,?_⟩
   ·rw[dW]
    refine e7.mpr ⟨i5.mpr ⟨pA,nda⟩,n2,λa ha hb=>?_⟩
    rcases bG.mp ha with rfl | ha
    ·exact pR hb
    ·exact n3 a (i3 _ (sub a ha)) hb
   ·intro a ha
    rw[dW]at ha
    rcases eH.mp ha with z | z
    ·rcases bG.mp z with rfl | z
     ·exact fp
     ·exact fr a (fq _ (i3 _ (sub a z)))
    ·exact fr a (eI _ z)
  have c3:=c2.fill (i:=i) (by simp[hi]) e2
  rwa [MQ]at c3
theorem aj.O2(c:aj B F H σ δ ((d,v)::ts)):∃F',aa F F'/\aj B F' H σ δ ((d.sh,v)::ts):=by
 obtain⟨A,C,r,s,nd,fr⟩:=c.own
 obtain⟨w,ck,A1,A2,e',rfl,h1,h2⟩:=R.cH r
 obtain⟨rfl,rfl⟩:=mP e'
 rw[dW]at nd fr
 obtain⟨n1,n2,n3⟩:=e7.mp nd
 have out:∀a∈A2++C,bO F H A1 a=F a:=λa ha=>Ao λz=>n3 a z ha
 have b3:∀a o,bO F H A1 a=some (.lst o)->B.F0 a=some (.lst o)\/B.H0 a=none:=λa o q=>by
  by_cases z:a∈A1
  ·exact .inr (fr a (fq _ z))
  ·rw[Ao z]at q;exact c.b3 a o q
 refine⟨bO F H A1,j8 c.ext,O0 c.ext,c.b1,c.b2.trans (j8 c.ext),b3,A2,C,?_,?_,n2,λa ha=>fr a (eI _ ha)⟩
 ·have g1:=h1.bO c.ext A1 (λ_ h=>h)
  exact R.cons (A:=[]) g1 (h2.keep (j8 c.ext) (fR.same (aa.refl H)) ie.nil (λa ha=>by rw[out a (fq _ ha)];exact(h2.lists a ha).2) (by simp))
 ·exact s.keep (j8 c.ext) (fR.same (aa.refl H)) ie.nil (λa ha=>by rw[out a (eI _ ha)];exact(s.lists a ha).2) (by simp)
theorem aj.freeze(c:aj B F H σ δ ts)(e:δ[i]?=some (some d)):∃F',aa F F'/\aj B F' H σ (δ.set i (some d.sh)) ts:=by
 have hi:i<δ.length:=(gg.mp e).1
 obtain⟨v,e2,c1⟩:=c.move e
 obtain⟨F',s,c2⟩:=c1.O2
 refine⟨F',s,?_⟩
 have c3:=c2.fill (i:=i) (by simp[hi]) e2
 rwa [MQ]at c3
theorem aj.rebase(c:aj B F H σ δ ts):aj ⟨B.H0,F⟩ F H σ δ ts:=⟨c.ext,c.b1,aa.refl _,λ_ _ q=>.inl q,c.own⟩
theorem aj.cM0{F1:Hp}(c:aj ⟨B.H0,F1⟩ F H σ δ ts)(h:aa B.F0 F1)(h3:∀a ws,F1 a=some (.lst ws)->B.F0 a=some (.lst ws)\/B.H0 a=none):aj B F H σ δ ts :=
 ⟨c.ext,c.b1,h.trans c.b2,λa o q=>(c.b3 a o q).elim (h3 a o) .inr,c.own⟩
theorem aj.only(c:aj B F H σ δ ts){ar:St}{ag:Dl}(h:RS F H ag ar []):aj B F H ar ag ts:=by
 obtain⟨A,C,r,s,nd,fr⟩:=c.own
 exact⟨c.ext,c.b1,c.b2,c.b3,A,[],r,h,by simpa using(e7.mp nd).1,λa ha=>fr a (by simp at ha;simp[ha])⟩
theorem aj.call(c:aj B F H σ δ ts)(hs:aa H H')(hf:aa F F')(he:aa F' H')(h3:∀a ws,F' a=some (.lst ws)->F a=some (.lst ws)\/H a=none)(r:R F' H' [d] [v] A)(nd:A.Nodup)(fr:∀a∈A,H a=none) :
  aj B F' H' σ δ ((d,v)::ts):=by
 obtain⟨A0,C,r0,s,nd0,fr0⟩:=c.own
 have no:∀a,(∃ws,H a=some (.lst ws))/\F a=none->F' a=none:=λa zz=>by
  obtain⟨⟨ws,e⟩,n⟩:=zz
  cases q:F' a with
  | none=>rfl
  | some o =>
   have q2:H' a=some o:=by
    cases n:ia o with
    | true=>exact he.get a o q n
    | false =>
     obtain⟨ps,rfl⟩:=E3 n
     obtain⟨m,z⟩:=he.tb a ps q
     rw[hs a _ e]at z
     cases z
   rw[hs a _ e]at q2
   cases q2
   rcases h3 a ws q with z | z
   ·rw[n]at z;cases z
   ·rw[e]at z;cases z
 refine⟨he,c.b1.trans hs,c.b2.trans hf,λa o q=>(h3 a o q).elim (c.b3 a o) λz=>.inr (c.b1.free z),A++A0,C,R.cons r (r0.grow hf hs λa ha=>no a (r0.lists a ha)),
  s.keep hf (fR.same hs) ie.nil (λa ha=>no a (s.lists a ha)) (by simp),?_,?_⟩
 ·rw[dW]
  refine e7.mpr ⟨nd,nd0,λa ha hb=>?_⟩
  have z:=fr a ha
  rcases eH.mp hb with y | y
  ·obtain⟨⟨_,q⟩,_⟩:=r0.lists a y;rw[z]at q;cases q
  ·obtain⟨⟨_,q⟩,_⟩:=s.lists a y;rw[z]at q;cases q
 ·intro a ha
  rw[dW]at ha
  rcases eH.mp ha with y | y
  ·exact c.b1.free (fr a y)
  ·exact fr0 a y
theorem aj.O3(c:aj B F H σ δ ((d,v)::ts)):aj B F H (some v::σ) (some d::δ) ts:=by
 obtain⟨A,C,r,s,nd,fr⟩:=c.own
 obtain⟨w,ck,A1,A2,e',rfl,h1,h2⟩:=R.cH r
 obtain⟨rfl,rfl⟩:=mP e'
 have pp:((A1++A2)++C).Perm (A2++(A1++C)):=by
  rw[<-dW];exact mQ.append_right C
 exact⟨c.ext,c.b1,c.b2,c.b3,A2,A1++C,h2,.fj h1 s,pp.nodup_iff.mp nd,λa ha=>fr a (pp.mem_iff.mpr ha)⟩
theorem aj.cM3{w:V}(c:aj B F H (some w::σ) (some d::δ) ts):aj B F H σ δ ((d,w)::ts):=by
 obtain⟨A,C,r,s,nd,fr⟩:=c.own
 cases s with
 | @fj _ _ A1 _ _ C1 h1 s =>
  have pp:(A++(A1++C1)).Perm ((A1++A)++C1):=by
   rw[<-dW];exact mQ.append_right C1
  exact⟨c.ext,c.b1,c.b2,c.b3,A1++A,C1,R.cons h1 r,s,pp.nodup_iff.mp nd,λa ha=>fr a (pp.mem_iff.mpr ha)⟩
theorem aj.cM4(c:aj B F H σ δ ((d,v)::(.lst true xs,.ref p)::ts))(hp:H p=some (.lst ws)):aj B F (upd H p (.lst (ws++[v]))) σ δ ((.lst true (xs++[d]),.ref p)::ts):=by
 have c1:=(c.perm (List.Perm.swap _ _ _)).O3
 refine(aj.mut (ps:=[(d,v)]) (i:=0) (ys:=xs++[d]) (vs:=ws++[v]) c1 rfl rfl λdZ A1 A2 h r1 r2 nd=>?_).cM3
 rw[hp]at h;cases h
 exact⟨A1++A2,r1.append r2,nd,λa ha=>ha⟩
theorem aj.app(c:aj B F H σ δ ((d,v)::ts))(e:δ[i]?=some (some (.lst true xs)))(e2:σ[i]?=some (some (.ref p)))(hp:H p=some (.lst ws)) :
  aj B F (upd H p (.lst (ws++[v]))) σ (δ.set i (some (.lst true (xs++[d])))) ts :=
 aj.mut (ps:=[(d,v)]) c e e2 λdZ A1 A2 h r1 r2 nd=>by
  rw[hp]at h;cases h
  exact⟨A1++A2,r1.append r2,nd,λa ha=>ha⟩
theorem R.O4:∀{xs:List D} {ws:List V} {A1 A2:List Addr} (j:Nat),R F H xs ws A1->R F H [d] [v] A2->(A1++A2).Nodup->∃A',R F H (xs.set j d) (ws.set j v) A'/\A'.Nodup/\∀a∈A',a∈A1++A2
 | [],_,A1,A2,j,r,q,nd=>by cases r;exact⟨[],.nil,by simp,by simp⟩
 | x::xs,_,A1,A2,j,r,q,nd=>by
  obtain⟨w,dZ,B1,B2,rfl,rfl,h1,h2⟩:=r.cH
  rw[dW]at nd
  obtain⟨n1,n2,n3⟩:=e7.mp nd
  cases j with
  | zero =>
   refine⟨A2++B2,q.cons h2,(mQ (l₁:=B2) (l₂:=A2)).nodup_iff.mp n2,λa ha=>?_⟩
   simp only[eH]at ha ⊢
   rcases ha with z | z
   ·exact .inr z
   ·exact .inl (.inr z)
  | succ j =>
   obtain⟨A',r',iK,sub⟩:=R.O4 j h2 q n2
   refine⟨B1++A',h1.cons r',e7.mpr ⟨n1,iK,λa ha hb=>n3 a ha (sub a hb)⟩,λa ha=>?_⟩
   rcases eH.mp ha with z | z
   ·simp[z]
   ·have:=sub a z
    simp only[eH]at this ⊢
    rcases this with z | z
    ·exact .inl (.inr z)
    ·exact .inr z
theorem aj.cM5(c:aj B F H σ δ ((d,v)::ts))(e:δ[i]?=some (some (.lst true xs)))(e2:σ[i]?=some (some (.ref p)))(hp:H p=some (.lst ws))(j:Nat) :
  aj B F (upd H p (.lst (ws.set j v))) σ (δ.set i (some (.lst true (xs.set j d)))) ts :=
 aj.mut (ps:=[(d,v)]) c e e2 λdZ A1 A2 h r1 r2 nd=>by
  rw[hp]at h;cases h
  exact r1.O4 j r2 nd
theorem aj.ownAt(c:aj B F H σ δ ts)(e:δ[i]?=some (some (.lst true xs))):∃p ws,σ[i]?=some (some (.ref p))/\H p=some (.lst ws)/\xs.length=ws.length:=by
 obtain⟨v,e1,s⟩:=c.look e
 cases s with
 | own h x _=>exact⟨_,_,e1,h,x.length⟩
theorem RS.start{ds:List D}{vs:List V}(r:R F H ds vs [])(n:Nat):RS F H (ds.map some++aQ n none) (vs.map some++aQ n none) []:=by
 have z:∀n,RS F H (aQ n none) (aQ n none) []:=λn=>by
  induction n with
  | zero=>exact .nil
  | succ n ih=>exact .ao ih
 have:∀(ds:List D) (vs:List V),R F H ds vs []->RS F H (ds.map some++aQ n none) (vs.map some++aQ n none) []:=by
  intro ds
  induction ds with
  | nil=>intro vs r;cases r;exact z n
  | cons d ds ih =>
   intro vs r
   obtain⟨v,ck,A1,A2,rfl,e,h1,h2⟩:=r.cH
   obtain⟨rfl,rfl⟩:=DA.mp e.symm
   exact .fj (A:=[]) h1 (ih _ h2)
 exact this ds vs r
theorem aj.start{ds:List D}{vs:List V}(e:aa F H)(r:R F H ds vs [])(n:Nat):aj ⟨H,F⟩ F H (vs.map some++aQ n none) (ds.map some++aQ n none) [] :=
 ⟨e,aa.refl _,aa.refl _,λ_ _ q=>.inl q,[],[],.nil,RS.start r n,by simp,by simp⟩
theorem aj.snap(c:aj B F H σ δ ts):aj B (L3.snap F H) H σ δ ts:=by
 obtain⟨A,C,r,s,nd,fr⟩:=c.own
 have no:∀a,(∃ws,H a=some (.lst ws))/\F a=none->L3.snap F H a=none:=λa ⟨⟨ws,e⟩,n⟩=>bO5 e n
 exact⟨bW1 c.ext,c.b1,c.b2.trans (nv c.ext),λa ws q=>c.b3 a ws (bO3 c.ext q),A,C,r.grow (nv c.ext) (aa.refl _) λa ha=>no a (r.lists a ha),
  s.keep (nv c.ext) (fR.same (aa.refl _)) ie.nil (λa ha=>no a (s.lists a ha)) (by simp),nd,fr⟩
end
end L3
namespace L3
open PySem L2 PySem.Spec PyProof.Rows
noncomputable abbrev aD:=Dl->(D->Dl->Prop)->Prop
noncomputable abbrev eP:=Dl->(Bool->Dl->Prop)->Prop
noncomputable abbrev bX:=Dl->(List D->Dl->Prop)->Prop
structure oZ where
 nx:Dl->Prop
 rt:D->Prop
 bk:Dl->Prop:=λ_=>False
 ct:Dl->Prop:=λ_=>False
 xc:Addr->Dl->Prop:=λ_ _=>False
 xr:Addr->Dl->Prop:=λ_ _=>False
noncomputable abbrev bS:=oZ->Dl->Prop
noncomputable def lE(t:aD):TE:=λσ H Q=>∃B F δ ts Qd,aj B F H σ δ ts/\t δ Qd/\∀d ag v F' H',Qd d ag->aa F F'->aa H H'->aj B F' H' σ ag ((d,v)::ts)->Q v H'
noncomputable def lB(t:aD):TE:=λσ H Q=>∃B F δ ts Qd,aj B F H σ δ ts/\t δ Qd/\∀d ag v F' H',Qd d ag->aa F F'->aa H H'->aj B F' H' σ ag ts->S F' H' [d] [v]->Q v H'
noncomputable def lT(t:eP):TT:=λσ H Q=>∃B F δ ts Qd,aj B F H σ δ ts/\t δ Qd/\∀b ag F' H',Qd b ag->aa F F'->aa H H'->aj B F' H' σ ag ts->Q b H'
noncomputable def lA(t:bX):TA:=λσ H Q=>∃B F δ ts Qd,aj B F H σ δ ts/\t δ Qd/\∀ds ag vs F' H',Qd ds ag->aa F F'->aa H H'->aj B F' H' σ ag ts->S F' H' ds vs->Q vs H'
noncomputable def lO(t:bX):TA:=λσ H Q=>∃B F δ ts Qd,aj B F H σ δ ts/\t δ Qd/\∀(ps:List (D × V)) ag F' H',Qd (ps.map (·.1)) ag->aa F F'->aa H H'->aj B F' H' σ ag (ps++ts)->Q (ps.map (·.2)) H'
noncomputable def XL(X:Cx)(B:Bs)(Dd:oZ):Prop :=
 (∀C ag pins ar F' H' s' a T,Dd.xc C ag->aj B F' H' ar ag []->Inv X pins ar H' s'->fP s'.heap a T (.ref C)->Apart X pins H' a->Apart X pins H' T->X.xe (.ref a) s') /\
 (∀C ag pins ar F' H' s' h' e vs,Dd.xr C ag->aj B F' H' ar ag []->Inv X pins ar H' s'->ML s'.heap h' e (.ref C) vs->X.xe (.ref e) { s' with heap:=h' })
theorem XL.none{X:Cx}{B:Bs}{Dd:oZ}(h1:∀C δ,¬ Dd.xc C δ)(h2:∀C δ,¬ Dd.xr C δ):XL X B Dd:=⟨λC δ _ _ _ _ _ _ _ h=>absurd h (h1 C δ),λC δ _ _ _ _ _ _ _ _ h=>absurd h (h2 C δ)⟩
noncomputable def lS(X:Cx)(t:bS):TS:=λD σ H=>∃B F δ Dd,aj B F H σ δ []/\t Dd δ/\(∀ag ar F' H',Dd.nx ag->aj B F' H' ar ag []->D.nx ar H')/\(∀d v ag ar F' H',Dd.rt d->aj B F' H' ar ag [(d,v)]->D.rt v H') /\
 (∀ag ar F' H',Dd.bk ag->aj B F' H' ar ag []->D.bk ar H')/\(∀ag ar F' H',Dd.ct ag->aj B F' H' ar ag []->D.ct ar H')/\XL X B Dd
section
variable{X:Cx}{e a b c:Expr}{es:List Expr}{pos:Pos}{st:Stmt}{w5:List Stmt}
theorem cJ{t t':TE}(h:PE X e t)(m:∀σ H Q,t' σ H Q->t σ H Q):PE X e t':=λpins s σ H Q I q=>h pins s σ H Q I (m σ H Q q)
theorem E6{t t':TT}(h:PT X e t)(m:∀σ H Q,t' σ H Q->t σ H Q):PT X e t':=λpins s σ H Q I q=>h pins s σ H Q I (m σ H Q q)
theorem O5{t t':TT}(h:PW X e t)(m:∀σ H Q,t' σ H Q->t σ H Q):PW X e t':=λwh pins s σ H Q I q=>h wh pins s σ H Q I (m σ H Q q)
theorem w6{t t':TA}(h:PA X es t)(m:∀σ H Q,t' σ H Q->t σ H Q):PA X es t':=λp pins s σ H Q I q=>h p pins s σ H Q I (m σ H Q q)
theorem j9{t t':TS}(h:PS X st t)(m:∀D σ H,t' D σ H->t D σ H):PS X st t':=λpins s σ H D I q=>h pins s σ H D I (m D σ H q)
theorem E7{t t':TS}(h:PSs X w5 t)(m:∀D σ H,t' D σ H->t D σ H):PSs X w5 t':=λpins s σ H D I q=>h pins s σ H D I (m D σ H q)
variable{t u ta tb tc:aD}
theorem ae(h:PE X e (lE t)):PE X e (lB t):=cJ h λσ H Q ⟨B,F,δ,ts,Qd,c,q,k⟩=>⟨B,F,δ,ts,Qd,c,q,λd ag v F' H' hd sf sh c'=>k d ag v F' H' hd sf sh c'.pop c'.top⟩
noncomputable def o8(t:aD):aD:=λδ Q=>t δ λd ag=>d.pl=true/\Q d ag
theorem eT(h:PE X e (lB t)):PE X e (lE (o8 t)):=cJ h λσ H Q ⟨B,F,δ,ts,Qd,c,q,k⟩=>⟨B,F,δ,ts,_,c,q,λd ag v F' H' hd sf sh c' s=>k d ag v F' H' hd.2 sf sh (c'.pushS s hd.1)⟩
noncomputable def ny(i:Nat):aD:=λδ Q=>match δ[i]? with
 | some (some d)=>Q d δ
 | _=>False
noncomputable def nB(i:Nat):aD:=λδ Q=>match δ[i]? with
 | some (some d)=>Q d (δ.set i none)
 | _=>False
theorem cc4{i:Nat}{δ:Dl}{Q:D->Dl->Prop}(h:ny i δ Q):∃d,δ[i]?=some (some d)/\Q d δ:=by
 unfold ny at h
 split at h
 ·rename_i d e;exact⟨d,e,h⟩
 ·exact h.elim
theorem bX6{i:Nat}{δ:Dl}{Q:D->Dl->Prop}(h:nB i δ Q):∃d,δ[i]?=some (some d)/\Q d (δ.set i none):=by
 unfold nB at h
 split at h
 ·rename_i d e;exact⟨d,e,h⟩
 ·exact h.elim
noncomputable def dC(d:D):aD:=λδ Q=>Q d δ
theorem bv(i:Nat){x:Str}(hN:X.N[i]?=some x:=by rfl)(hv:jX X.env.scope x:=by first | exact ay rfl | exact bU (ay rfl) | exact bU (bU rfl))(hd:(x==("__debug__":Str))=false:=by decide)
  (cC:(x==("__classdict__":Str))=false:=by decide):PE X (.Name x pos) (lB (ny i)):=cJ (oE hN hv hd cC) λσ H Q ⟨B,F,δ,ts,Qd,c,q,k⟩=>by
 obtain⟨d,e,q⟩:=cc4 q
 obtain⟨v,e1,s⟩:=c.look e
 exact⟨v,e1,k d δ v F H q (aa.refl _) (aa.refl _) c s⟩
theorem em(i:Nat){x:Str}(hN:X.N[i]?=some x:=by rfl)(hv:jX X.env.scope x:=by first | exact ay rfl | exact bU (ay rfl) | exact bU (bU rfl))(hd:(x==("__debug__":Str))=false:=by decide)
  (cC:(x==("__classdict__":Str))=false:=by decide):PE X (.Name x pos) (lE (nB i)):=cJ (oE hN hv hd cC) λσ H Q ⟨B,F,δ,ts,Qd,c,q,k⟩=>by
 obtain⟨d,e,q⟩:=bX6 q
 obtain⟨v,e1,c'⟩:=c.move e
 exact⟨v,e1,k d _ v F H q (aa.refl _) (aa.refl _) c'⟩
theorem Ar{B:Bs}{F H:Hp}{σ:L2.St}{δ:Dl}{ts:List (D × V)}{Qd:D->Dl->Prop}{Q:VK}{d:D}{v:V}(c:aj B F H σ δ ts)(q:Qd d δ)(s:S F H [d] [v])(p:d.pl=true)
  (k:∀d ag v F' H',Qd d ag->aa F F'->aa H H'->aj B F' H' σ ag ((d,v)::ts)->Q v H'):Q v H:=k d δ v F H q (aa.refl _) (aa.refl _) (c.pushS s p)
theorem aq{i j}:PE X (.Constant (.int i) j pos) (lE (dC (.int i))):=cJ oF λσ H Q ⟨B,F,δ,ts,Qd,c,q,k⟩=>Ar c q (.int .nil) rfl k
theorem iM{i j}:PE X (.Constant (.bool i) j pos) (lE (dC (.bl i))):=cJ Wm λσ H Q ⟨B,F,δ,ts,Qd,c,q,k⟩=>Ar c q (.bl .nil) rfl k
theorem cD5{j}:PE X (.Constant .none j pos) (lE (dC .ao)):=cJ Wn λσ H Q ⟨B,F,δ,ts,Qd,c,q,k⟩=>Ar c q (.ao .nil) rfl k
theorem As{x j}:PE X (.Constant (.str x) j pos) (lE (dC (.str x))):=cJ Wo λσ H Q ⟨B,F,δ,ts,Qd,c,q,k⟩=>Ar c q (.str .nil) rfl k
noncomputable abbrev cF:=D->D->(D->Prop)->Prop
noncomputable def Au(r:R2)(rd:cF):Prop:=∀{B:Bs} {F H:Hp} {σ:L2.St} {δ:Dl} {ts:List (D × V)} {x y:D} {v w:V} {Q:VK} {Qd:D->Prop},aj B F H σ δ ts->S F H [x] [v]->S F H [y] [w]->rd x y Qd ->
 (∀d z H',Qd d->aa H H'->aj B F H' σ δ ((d,z)::ts)->Q z H')->r v w H Q
noncomputable def bL(X:Cx)(f:Value->Value->Sem Value)(rd:cF):Prop:=∃r,cu X f r/\Au r rd
theorem bL.or{f:Value->Value->Sem Value}{r1 r2:cF}(h1:bL X f r1)(h2:bL X f r2):bL X f λx y Q=>r1 x y Q\/r2 x y Q:=by
 obtain⟨q1,a1,b1⟩:=h1
 obtain⟨q2,a2,b2⟩:=h2
 refine⟨_,a1.or a2,λ{B F H σ δ ts x y v w Q Qd} c sx sy h k=>?_⟩
 rcases h with h | h
 ·exact .inl (b1 c sx sy h k)
 ·exact .inr (b2 c sx sy h k)
theorem bL.imp{f:Value->Value->Sem Value}{r1 r2:cF}(h1:bL X f r1)(h:∀x y Q,r2 x y Q->r1 x y Q):bL X f r2:=by
 obtain⟨q1,a1,b1⟩:=h1
 exact⟨q1,a1,λ{B F H σ δ ts x y v w Q Qd} c sx sy h2 k=>b1 c sx sy (h _ _ _ h2) k⟩
noncomputable def lU(rd:cF)(ta tb:aD):aD:=λδ Q=>ta δ λx ai=>tb ai λy aI=>rd x y λd=>Q d aI
theorem E8{r:R2}{rd:cF}(hl:Au r rd):∀σ H Q,lE (lU rd ta tb) σ H Q->wG r (lB ta) (lB tb) σ H Q:=λσ H Q ⟨B,F,δ,ts,Qd,c,q,k⟩ =>
 ⟨B,F,δ,ts,_,c,q,λx ai v F1 H1 q1 f1 h1 c1 s1=>⟨B,F1,ai,ts,_,c1,q1,λy aI w F2 H2 q2 f2 h2 c2 s2 =>
  hl c2 (s1.mono f2 h2) s2 q2 λd z H' hd hs c3=>k d aI z F2 H' hd (f1.trans f2) ((h1.trans h2).trans hs) c3⟩⟩
theorem aH{op:Operator}{rd:cF}(ho:bL X (binaryOp op) rd)(ha:PE X a (lB ta))(hb:PE X b (lB tb)):PE X (.BinOp a op b pos) (lE (lU rd ta tb)):=by
 obtain⟨r,h1,h2⟩:=ho
 exact cJ (z8 h1 ha hb) (E8 h2)
theorem nC{op:CmpOp}{rd:cF}(ho:bL X (compareOp op) rd)(ha:PE X a (lB ta))(hb:PE X b (lB tb))(hm:behindInMarks op b=false):PE X (.Compare a [op] [b] pos) (lE (lU rd ta tb)):=by
 obtain⟨r,h1,h2⟩:=ho
 exact cJ (XB h1 ha hb hm) (E8 h2)
noncomputable def dT(t:aD):eP:=λδ Q=>t δ λd ag=>∃k,d=.bl k/\Q k ag
theorem bW9{te:TE}(h:∀σ H Q,lE t σ H Q->te σ H Q):∀σ H Q,lT (dT t) σ H Q->Nz te σ H Q:=λσ H Q zz=>by
 obtain⟨B,F,δ,ts,Qd,c,q,k⟩:=zz
 refine h σ H _ ⟨B,F,δ,ts,_,c,q,λd ag v F' H' hd sf sh c'=>?_⟩
 obtain⟨b,rfl,qb⟩:=hd
 have s:=c'.top
 cases s with
 | bl _=>exact⟨b,rfl,k b ag F' H' qb sf sh c'.pop⟩
theorem cN{op:CmpOp}{rd:cF}(ho:bL X (compareOp op) rd)(ha:PE X a (lB ta))(hb:PE X b (lB tb))(hm:behindInMarks op b=false):PT X (.Compare a [op] [b] pos) (lT (dT (lU rd ta tb))):=by
 obtain⟨r,h1,h2⟩:=ho
 exact E6 (NA h1 ha hb hm) (bW9 (E8 h2))
noncomputable def o9(r r':cF)(ta tb tc:aD):aD:=λδ Q=>ta δ λx ai=>tb ai λy aI=>r x y λd=>∃k,d=.bl k/\if k=true then tc aI λz gD=>r' y z λd'=>Q d' gD else Q (.bl false) aI
theorem ja(h:PE X e (lB t))(he:∀whole,isTrue e X.env whole=(do let v<-whole;standAt e.pos;holding [v] (truthy v)):=by intro _;rfl):PT X e (lT (dT t)) :=
 E6 (D0 h he) λσ H Q ⟨B,F,δ,ts,Qd,c,q,k⟩=>⟨B,F,δ,ts,_,c,q,λd ag v F' H' hd sf sh c' s=>by
  obtain⟨b,rfl,qb⟩:=hd
  cases s with
  | bl _=>exact⟨b,rfl,k b ag F' H' qb sf sh c'⟩⟩
variable{tA tB:eP}{rest:List Expr}
noncomputable def rS(t u:eP):eP:=λδ Q=>t δ λc ai=>if c=true then u ai Q else Q false ai
noncomputable def rT(t u:eP):eP:=λδ Q=>t δ λc ai=>if c=true then Q true ai else u ai Q
noncomputable def rV(t:eP):eP:=λδ Q=>t δ λc ai=>Q (!c) ai
theorem O6(ha:PT X a (lT tA))(hb:PW X (.BoolOp .And (b::rest) pos) (lT tB)):PW X (.BoolOp .And (a::b::rest) pos) (lT (rS tA tB)) :=
 O5 (Wv ha hb) λσ H Q ⟨B,F,δ,ts,Qd,c,q,k⟩=>⟨B,F,δ,ts,_,c,q,λb ai F1 H1 q1 f1 h1 c1=>by
  cases b with
  | true=>exact m9 ⟨B,F1,ai,ts,Qd,c1,by simpa using q1,λb ag F' H' hd sf sh c'=>k b ag F' H' hd (f1.trans sf) (h1.trans sh) c'⟩
  | false=>exact j5 (k false ai F1 H1 (by simpa using q1) f1 h1 c1)⟩
theorem pd(ha:PT X a (lT tA))(hb:PW X (.BoolOp .Or (b::rest) pos) (lT tB)):PW X (.BoolOp .Or (a::b::rest) pos) (lT (rT tA tB)) :=
 O5 (Ww ha hb) λσ H Q ⟨B,F,δ,ts,Qd,c,q,k⟩=>⟨B,F,δ,ts,_,c,q,λb ai F1 H1 q1 f1 h1 c1=>by
  cases b with
  | true=>exact m9 (k true ai F1 H1 (by simpa using q1) f1 h1 c1)
  | false=>exact j5 ⟨B,F1,ai,ts,Qd,c1,by simpa using q1,λb ag F' H' hd sf sh c'=>k b ag F' H' hd (f1.trans sf) (h1.trans sh) c'⟩⟩
theorem pe(ha:PT X a (lT tA)):PT X (.UnaryOp .Not a pos) (lT (rV tA)) :=
 E6 (D1 ha) λσ H Q ⟨B,F,δ,ts,Qd,c,q,k⟩=>⟨B,F,δ,ts,_,c,q,λb ai F1 H1 q1 f1 h1 c1=>k _ ai F1 H1 q1 f1 h1 c1⟩
noncomputable def rW(ta tb:aD):aD:=λδ Q=>ta δ λx ai=>∃c,x=.bl c/\if c=true then tb ai Q else Q (.bl false) ai
noncomputable def rX(ta:aD):aD:=λδ Q=>ta δ λx ai=>∃c,x=.bl c/\Q (.bl (!c)) ai
theorem pf(ha:PE X a (lB ta))(hb:PE X (.BoolOp .And (b::rest) pos) (lE tb)):PE X (.BoolOp .And (a::b::rest) pos) (lE (rW ta tb)) :=
 cJ (Wz ha hb) λσ H Q ⟨B,F,δ,ts,Qd,c,q,k⟩=>⟨B,F,δ,ts,_,c,q,λd ai v F1 H1 q1 f1 h1 c1 s1=>by
  obtain⟨b,rfl,qb⟩:=q1
  cases s1 with
  | bl _ =>
   refine⟨b,rfl,?_⟩
   cases b with
   | true=>exact m9 ⟨B,F1,ai,ts,Qd,c1,by simpa using qb,λd ag v F' H' hd sf sh c'=>k d ag v F' H' hd (f1.trans sf) (h1.trans sh) c'⟩
   | false=>exact j5 (k _ ai _ F1 H1 (by simpa using qb) f1 h1 (c1.pushS (.bl .nil) rfl))⟩
theorem cD3(ha:PE X a (lB ta)):PE X (.UnaryOp .Not a pos) (lE (rX ta)) :=
 cJ (WA ha) λσ H Q ⟨B,F,δ,ts,Qd,c,q,k⟩=>⟨B,F,δ,ts,_,c,q,λd ai v F1 H1 q1 f1 h1 c1 s1=>by
  obtain⟨b,rfl,qb⟩:=q1
  cases s1 with
  | bl _=>exact⟨b,rfl,k _ ai _ F1 H1 qb f1 h1 (c1.pushS (.bl .nil) rfl)⟩⟩
noncomputable def rY(t:eP)(ta tb:aD):aD:=λδ Q=>t δ λc ai=>if c=true then ta ai Q else tb ai Q
theorem O7(hc:PT X c (lT tA))(ha:PE X a (lE ta))(hb:PE X b (lE tb)):PE X (.IfExp c a b pos) (lE (rY tA ta tb)) :=
 cJ (WC hc ha hb) λσ H Q ⟨B,F,δ,ts,Qd,c,q,k⟩=>⟨B,F,δ,ts,_,c,q,λb ai F1 H1 q1 f1 h1 c1=>by
  cases b with
  | true=>exact m9 ⟨B,F1,ai,ts,Qd,c1,by simpa using q1,λd ag v F' H' hd sf sh c'=>k d ag v F' H' hd (f1.trans sf) (h1.trans sh) c'⟩
  | false=>exact j5 ⟨B,F1,ai,ts,Qd,c1,by simpa using q1,λd ag v F' H' hd sf sh c'=>k d ag v F' H' hd (f1.trans sf) (h1.trans sh) c'⟩⟩
noncomputable def ph:bX:=λδ Q=>Q [] δ
noncomputable def pj(t:aD)(r:bX):bX:=λδ Q=>t δ λd ai=>r ai λds aI=>Q (d::ds) aI
theorem aA:PA X [] (lA ph):=w6 gu λσ H Q ⟨B,F,δ,ts,Qd,c,q,k⟩=>k [] δ [] F H q (aa.refl _) (aa.refl _) c .nil
variable{tr:bX}
theorem ak(ha:PE X e (lB t))(hr:PA X es (lA tr))(hs:starEach (e::es) X.env=(false,eval e X.env)::starEach es X.env:=by rfl):PA X (e::es) (lA (pj t tr)) :=
 w6 (dO ha hr hs) λσ H Q ⟨B,F,δ,ts,Qd,c,q,k⟩=>⟨B,F,δ,ts,_,c,q,λd ai v F1 H1 q1 f1 h1 c1 s1=>⟨B,F1,ai,ts,_,c1,q1,λds aI vs F2 H2 q2 f2 h2 c2 s2 =>
  k (d::ds) aI (v::vs) F2 H2 q2 (f1.trans f2) (h1.trans h2) c2 ((s1.mono f2 h2).cons s2)⟩⟩
theorem e8:PA X [] (lO ph):=w6 gu λσ H Q ⟨B,F,δ,ts,Qd,c,q,k⟩=>k [] δ F H q (aa.refl _) (aa.refl _) c
theorem eD(ha:PE X e (lE t))(hr:PA X es (lO tr))(hs:starEach (e::es) X.env=(false,eval e X.env)::starEach es X.env:=by rfl):PA X (e::es) (lO (pj t tr)) :=
 w6 (dO ha hr hs) λσ H Q ⟨B,F,δ,ts,Qd,c,q,k⟩=>⟨B,F,δ,ts,_,c,q,λd ai v F1 H1 q1 f1 h1 c1=>⟨B,F1,ai,(d,v)::ts,_,c1,q1,λps aI F2 H2 q2 f2 h2 c2 =>
  k ((d,v)::ps) aI F2 H2 q2 (f1.trans f2) (h1.trans h2) (c2.perm (List.perm_middle))⟩⟩
noncomputable def rZ(t:bX):aD:=λδ Q=>t δ λds ag=>ds.length<=sizeLine/\Q (.lst true ds) ag
noncomputable def r6(t:bX):aD:=λδ Q=>t δ λds ag=>ds.length<=sizeLine/\Q (.tup ds) ag
theorem gE(h:PA X es (lO tr)):PE X (.List es pos) (lE (rZ tr)) :=
 cJ (X5 h) λσ H Q ⟨B,F,δ,ts,Qd,c,q,k⟩=>⟨B,F,δ,ts,_,c,q,λps ai F1 H1 q1 f1 h1 c1=>⟨by simpa using q1.1,λp hp=>k _ ai _ F1 _ q1.2 f1 (h1.trans (aa.upd hp)) (c1.cL7 hp)⟩⟩
theorem Av{x1}(h:PA X es (lO tr)):PE X (.Tuple es x1 pos) (lE (r6 tr)) :=
 cJ (X4 h) λσ H Q ⟨B,F,δ,ts,Qd,c,q,k⟩=>⟨B,F,δ,ts,_,c,q,λps ai F1 H1 q1 f1 h1 c1=>⟨by simpa using q1.1,λp hp=>k _ ai _ F1 _ q1.2 f1 (h1.trans (aa.upd hp)) (c1.cL8 hp)⟩⟩
end
end L3
namespace L3
open PySem L2 PySem.Spec PyProof.Rows
noncomputable abbrev bx:=List D->(D->Prop)->Prop
noncomputable def bC(sp:bx):Sp:=λvs H Q _=>∃F ds Qd,aa F H/\R F H ds vs []/\sp ds Qd/\∀d v F' H' A,Qd d->aa H H'->aa F F'->aa F' H'->(∀a ws,F' a=some (.lst ws)->F a=some (.lst ws)\/H a=none)->R F' H' [d] [v] A->A.Nodup->(∀a∈A,H a=none)->Q v H'
noncomputable def pk(sp:bx)(t:bX):aD:=λδ Q=>t δ λds ag=>sp (ds.map D.sh) λd=>(ds.all D.pl||d.fr)=true/\Q d ag
theorem E9{B:Bs}{F H:Hp}{σ:L2.St}{δ:Dl}{ts:List (D × V)}{Qd:D->Prop}{Q:VK}{E:XK}{ds:List D}{vs:List V}{sp:bx}(c:aj B F H σ δ ts)(s:S F H ds vs)(q:sp (ds.map D.sh) λd=>(ds.all D.pl||d.fr)=true/\Qd d)
  (k:∀d v F' H',Qd d->aa F F'->aa H H'->aj B F' H' σ δ ((d,v)::ts)->Q v H'):bC sp vs H Q E:=by
 by_cases hp:ds.all D.pl=true
 ·rw[jv hp]at q
  exact⟨F,ds,_,c.ext,s.r hp,q,λd v F' H' A hd hs hf he h3 r nd fr=>k d v F' H' hd.2 hf hs (c.call hs hf he h3 r nd fr)⟩
 ·refine⟨H,ds.map D.sh,_,aa.refl _,s.frozen c.ext,q,λd v F' H' A hd hs hf he h3 r nd fr=>?_⟩
  have di:d.fr=true:=by
   have:=hd.1
   rw[Du]at this
   exact this.resolve_left hp
  exact k d v F H' hd.2 (aa.refl _) hs (c.Aq hs (r.Ap (by simp[di]) (c.ext.trans hf)) nd fr)
section
variable{X:Cx}{CX:dP}{n:Nat}{f:Addr}{fd:FuncData}{ps:List Str}{sp:bx}{E:XK}{x:Str}{p pos:Pos}{e:Expr}{es:List Expr}{t:bX}
theorem bE(F:aO X.prog X.w X.K X.mg X.base CX n f fd ps (bC sp))(hr:bH n X.A)(hg:Gl X x)(hm:X.mg x=some (.ref f))(hk:PySem.W.keepIn X.K (.ref f)=true)(hb:Binds X.K fd ps [])(hx:j0 CX X E)
  (ha:PA X (e::es) (lA t)) (cZ:(x==("__debug__":Str))=false:=by decide) (he:starEach (e::es) X.env=(false,eval e X.env)::starEach es X.env:=by rfl) (aW:(backTo pos (starEach es X.env)).any (·.1)=false:=by rfl) :
  PE X (.Call (.Name x p) (e::es) [] pos) (lE (pk sp t)) :=
 cJ (oQ F hr hg hm hk hb .nil hx ha cZ he aW) λσ H Q ⟨B,F,δ,ts,Qd,c,q,k⟩=>⟨B,F,δ,ts,_,c,q,λds ai vs F1 H1 q1 f1 h1 c1 s1=>by
  show bC sp (vs++[]) H1 Q E
  rw[jP]
  exact E9 c1 s1 q1 λd v F' H' hd hf hs c'=>k d ai v F' H' hd (f1.trans hf) (h1.trans hs) c'⟩
end
noncomputable def jx(N:List Str)(ds:List D):Dl:=ds.map some++aQ (N.length-ds.length) none
section
variable{P:Program}{w:World}{K:PySem.W.Frag}{mg:Str->Option Value}{base:Heap}
theorem cx{x qual:Str}{st:Stmt}{f:Addr}{fd:FuncData}{N ps:List Str}{k:Nat}{sp:bx}(F:bh K x qual st f fd)(S:bq N ps (az st))(len:∀ds Q,sp ds Q->ds.length=ps.length)
  (gx:∀(aG:Value) (A:Around) (outer:List Env) (s:Shared) (H:Hp) (E:XK),bH k (A.deeper (envOfC qual (az st) s.heap.objs.size f aG)) ->
   ∃t:bS,PSs (hG aZ P w K mg base N qual (az st) f aG A outer s H E).e5 (bf st) (lS (hG aZ P w K mg base N qual (az st) f aG A outer s H E).e5 t)/\∀ds Q,sp ds Q->t { nx:=λ_=>Q .ao,rt:=Q } (jx N ds)):aO P w K mg base aZ (k+1) f fd ps (bC sp):=by
 refine F.ok S (λvs H Q E ⟨F,ds,Qd,e,r,h,_⟩=>by rw[<-r.length];exact len ds Qd h) λaG A outer s H vs Q E hr zz=>?_
 obtain⟨F,ds,Qd,e,r,h,k⟩:=zz
 obtain⟨t,ht,hq⟩:=gx aG A outer s H E hr
 have fin:∀d v ag ar F' H',Qd d->aj ⟨H,F⟩ F' H' ar ag [(d,v)]->Q v H':=λd v ag ar F' H' hd c=>by
  obtain⟨A,C,r',s',nd,fr⟩:=c.own
  exact k d v F' H' A hd c.b1 c.b2 c.ext c.b3 r' (e7.mp nd).1 λa ha=>fr a (fq _ ha)
 have e1:L2.start N vs=vs.map some++aQ (N.length-ds.length) none:=by unfold L2.start;rw[r.length]
 refine⟨_,ht,⟨H,F⟩,F,jx N ds,_,?_,hq ds Qd h,λag ar F' H' hd c=>fin .ao .ao ag ar F' H' hd (c.pushS (.ao .nil) rfl),fin,λ_ _ _ _ z=>z.elim,λ_ _ _ _ z=>z.elim,XL.none (λ_ _ z=>z) λ_ _ z=>z⟩
 rw[e1]
 exact aj.start e r _
end
section
variable{X:Cx}{e a b c:Expr}{es:List Expr}{pos:Pos}{st:Stmt}{w5 rest:List Stmt}{t u:bS}{te:aD}{tt:eP}
noncomputable def r9:bS:=λD δ=>D.nx δ
noncomputable def O8(t u:bS):bS:=λD δ=>t { D with nx:=u D } δ
theorem aB{t u:bS}{En:oZ}{δ:Dl}(h:∀U:Dl->Prop,(∀ag,u En ag->U ag)->t { En with nx:=U } δ):O8 t u En δ:=h (u En) λ_ z=>z
theorem dv:PSs X [] (lS X r9):=E7 zX λD σ H ⟨B,F,δ,Dd,c,q,k1,_⟩=>k1 δ σ F H q c
theorem aC(h1:PS X st (lS X t))(h2:PSs X rest (lS X u)):PSs X (st::rest) (lS X (O8 t u)) :=
 E7 (jq h1 h2) λD σ H ⟨B,F,δ,Dd,c,q,k1,k2,k3,k4⟩=>⟨B,F,δ,{ Dd with nx:=u Dd },c,q,λag ar F' H' hq c'=>⟨B,F',ag,Dd,c',hq,k1,k2,k3,k4⟩,k2,k3,k4⟩
theorem aK(h1:PS X st (lS X t)):PSs X [st] (lS X t):=rD h1
noncomputable def pq(i:Nat)(t:bS):bS:=λD δ=>∃d,δ[i]?=some (some d)/\t D (δ.set i (some d.sh))
theorem cw6(i:Nat)(h:PSs X w5 (lS X t)):PSs X w5 (lS X (pq i t)):=E7 h λD σ H zz=>by
 obtain⟨B,F,δ,Dd,c,⟨d,e,q⟩,k⟩:=zz
 obtain⟨F',s,c'⟩:=c.freeze e
 exact⟨B,F',_,Dd,c',q,k⟩
noncomputable def pz(i:Nat)(t:aD):bS:=λD δ=>t δ λd ag=>D.nx (ag.set i (some d))
theorem aU{i:Nat}{x:Str}{pos':Pos}(hN:X.N.Nodup)(hi:X.N[i]?=some x)(hx:Loc X.env.scope x)(he:PE X e (lE te))(hs:swapsWith e (some (.Name x pos')) pos.line X.env=pure false:=by rfl)
  (hf:X.fn x=true\/X.env.scope.names.lookup x=some .local:=by first | exact .inl rfl | exact .inr rfl | assumption):PS X (.Assign [.Name x pos'] e pos) (lS X (pz i te)) :=
 j9 (Nt hN hi hx he hs hf) λD σ H ⟨B,F,δ,Dd,c,q,k1,k2,k3,k4⟩=>⟨B,F,δ,[],_,c,q,λd ag v F' H' hd sf sh c'=>k1 _ _ F' H' hd (c'.store i)⟩
noncomputable def se(t:aD):bS:=λD δ=>t δ λd _=>D.rt d
theorem bb(he:PE X e (lE te)):PS X (.Return (some e) pos) (lS X (se te)) :=
 j9 (WJ he) λD σ H ⟨B,F,δ,Dd,c,q,k1,k2,k3,k4⟩=>⟨B,F,δ,[],_,c,q,λd ag v F' H' hd sf sh c'=>k2 d v ag σ F' H' hd c'⟩
noncomputable def sg(tc:eP)(t u:bS):bS:=λD δ=>tc δ λb ag=>if b=true then t D ag else u D ag
theorem dG{l r:List Stmt}(hc:PT X c (lT tt))(ha:PSs X l (lS X t))(hb:PSs X r (lS X u)):PS X (.If c l r pos) (lS X (sg tt t u)) :=
 j9 (zY hc ha hb) λD σ H ⟨B,F,δ,Dd,c,q,k⟩=>⟨B,F,δ,[],_,c,q,λb ag F' H' hq sf sh c'=>by
  cases b with
  | true=>exact m9 ⟨B,F',ag,Dd,c',by simpa using hq,k⟩
  | false=>exact j5 ⟨B,F',ag,Dd,c',by simpa using hq,k⟩⟩
noncomputable def si(i:Nat)(rd:cF)(t:aD):bS:=λD δ=>∃x,δ[i]?=some (some x)/\t δ λy ai=>rd x y λz=>D.nx (ai.set i (some z))
theorem sj{i:Nat}{x:Str}{op:Operator}{rd:cF}{pos':Pos}(hN:X.N.Nodup)(hi:X.N[i]?=some x)(hx:Loc X.env.scope x)(he:PE X e (lB te))(ho:bL X (inplaceOp op) rd)
  (hf:X.fn x=true\/X.env.scope.names.lookup x=some .local:=by first | exact .inl rfl | exact .inr rfl | assumption):PS X (.AugAssign (.Name x pos') op e pos) (lS X (si i rd te)):=by
 obtain⟨r,h1,h2⟩:=ho
 refine j9 (WX hN hi hx he (ti:=r) h1 hf) λD σ H zz=>?_
 obtain⟨B,F,δ,Dd,c,⟨d0,e0,q⟩,k1,k2,k3,k4⟩:=zz
 obtain⟨v0,e1,s0⟩:=c.look e0
 exact⟨v0,e1,B,F,δ,[],_,c,q,λd ag v F' H' hd sf sh c' s=>h2 c' (s0.mono sf sh) s hd λz w H2 hz h3 c3=>k1 _ _ F' H2 hz (c3.store i)⟩
noncomputable def sq(tc:eP)(tb:bS):bS:=λD δ=>∃W:Nat->Dl->Prop,(∃m,W m δ)/\∀m δ,W m δ->tc δ λb ag=>if b=true then tb { D with nx:=λag=>∃m',m'<m/\W m' ag,ct:=λag=>∃m',m'<m/\W m' ag,bk:=D.nx } ag else D.nx ag
theorem su{body:List Stmt}(hp:PassesOwn (model X.prog X.w) X.A X.env X.xe)(hc:PT X c (lT tt))(hb:PSs X body (lS X t)):PS X (.While c body [] pos) (lS X (sq tt t)) :=
 j9 (W2 hp hc hb) λD σ H zz=>by
  obtain⟨B,F,δ,Dd,c,⟨W,⟨m0,w0⟩,hw⟩,k1,k2,k3,k4⟩:=zz
  refine⟨λm σ H=>∃F δ,aj B F H σ δ []/\W m δ,⟨m0,F,δ,c,w0⟩,λm σ H ⟨F,δ,c,w⟩=>⟨B,F,δ,[],_,c,hw m δ w,λb ag F' H' hq sf sh c'=>?_⟩⟩
  cases b with
  | true =>
   refine m9 ⟨λar H'=>∃m',m'<m/\∃F δ,aj B F H' ar δ []/\W m' δ,λar H' z=>z,B,F',ag,{ Dd with nx:=λag=>∃m',m'<m/\W m' ag,ct:=λag=>∃m',m'<m/\W m' ag,bk:=Dd.nx },c',by simpa using hq,λaI iA F2 H2 ⟨m',hm,w2⟩ c2=>⟨m',hm,F2,aI,c2,w2⟩,k2,λaI iA F2 H2 z c2=>k1 aI iA F2 H2 z c2,λaI iA F2 H2 ⟨m',hm,w2⟩ c2=>⟨m',hm,F2,aI,c2,w2⟩,k4.2⟩
  | false=>exact j5 (k1 ag σ F' H' (by simpa using hq) c')
end
structure JD(J:It)(F:Hp)(xs:List D):Prop where
 go:∀i H,aa F H->i<xs.length->J.go i H
 g7:∀i H x H',aa F H->i<xs.length->J.g7 i H x H'->∃d,xs[i]?=some d/\aa H H'/\R F H' [d] [x] []
 stop:∀i H,aa F H->xs.length<=i->J.stop i H
noncomputable abbrev gF:=Dl->(Bool->List D->Dl->Prop)->Prop
noncomputable def lI(t:gF):TI:=λσ H Rr=>∃B F δ ts Qd,aj B F H σ δ ts/\t δ Qd/\∀g xs ag J F' H',Qd g xs ag->aa F F'->aa H H'->aj B F' H' σ ag ts->JD J H' (xs.map D.sh)->(g=true->xs.all D.pl=true/\JD J F' xs)->Rr J H'
noncomputable abbrev fS:=D->Dl->(Dl->Prop)->Prop
noncomputable def lG(m:Nat)(t:fS):TG:=λv σ H Q=>∃B F δ ts d Qd,aj B F H σ δ ((d,v)::ts)/\t d δ Qd/\∀ag ar,Qd ag->ar.length=σ.length->(∀j,j<m->ar[j]?=σ[j]?)->aj B F H ar ag ts->Q ar H
noncomputable def iN:D->Option (List D)
 | .lst _ xs=>some xs
 | .fz xs=>some xs
 | _=>none
section
variable{B:Bs}{F H F1:Hp}{σ:L2.St}{δ:Dl}{ts:List (D × V)}
end
section
variable{X:Cx}{e a b c tg l iter:Expr}{es:List Expr}{pos:Pos}{t u:bS}{te:aD}{tt:eP}{ta:bX}{m:Nat}
theorem nD{w w':TI}(h:PI X tg iter w)(m:∀σ H Q,w' σ H Q->w σ H Q):PI X tg iter w':=λpins s σ H Q I q=>h pins s σ H Q I (m σ H Q q)
theorem O9{w w':TG}(h:PG X tg w)(m:∀v σ H Q,w' v σ H Q->w v σ H Q):PG X tg w':=λpins s σ H v u Q I r q=>h pins s σ H v u Q I r (m v σ H Q q)
noncomputable def gN(i:Nat):fS:=λd δ Q=>Q (δ.set i (some d))
theorem fb{i:Nat}{x:Str}(hN:X.N.Nodup)(hi:X.N[i]?=some x)(hx:Loc X.env.scope x)(hm:m<=i:=by decide)(hf:X.fn x=true\/X.env.scope.names.lookup x=some .local:=by first | exact .inl rfl | exact .inr rfl | assumption):PG X (.Name x pos) (lG m (gN i)) :=
 O9 (z4 hN hi hx hf) λv σ H Q ⟨B,F,δ,ts,d,Qd,c,q,k⟩=>k _ _ q (by simp) (λj hj=>by rw[nZ (by omega)]) (c.store i)
theorem lV{K:PySem.W.Frag}{F H:Hp}{p:Addr}{xs:List D}{ws:List V}(hp:Rd F p (.lst ws))(r:R F H xs ws [])(hF:Full F H):JD (D8 K p) F xs where
 go:=λi H' hs hi=>by
  have l:=r.length
  have du:i<ws.length:=by omega
  exact⟨ws,ws[i],.inl (fi hp hs),bu du⟩
 g7:=λi H' x H2 hs hi zz=>by
  obtain⟨e,y⟩:=zz
  subst e
  have hx:=y ws (.inl (fi hp hs))
  obtain⟨v,A1,e2,r1,sub⟩:=(r.full hF hs rfl).get (bu hi)
  rw[hx]at e2;cases e2
  have:A1=[]:=VM.mpr λa ha=>by simpa using sub ha
  subst this
  exact⟨_,bu hi,aa.refl _,r1⟩
 stop:=λi H' hs hi=>⟨ws,.inl (fi hp hs),by have:=r.length;omega⟩
theorem Aw{F:Hp}(lo:Int)(n:Nat):JD (wB lo n) F ((aV n).map λ(k:Nat)=>D.int (lo+(k:Int))) where
 go:=λi H' hs hi=>by
  have du:i<n:=by simpa using hi
  exact du
 g7:=λi H' x H2 hs hi zz=>by
  obtain⟨e,y⟩:=zz
  subst e y
  have du:i<n:=by simpa using hi
  exact⟨.int (lo+i),by simp[mS du],aa.refl _,.int .nil⟩
 stop:=λi H' hs hi=>by
  have du:n<=i:=by simpa using hi
  exact du
noncomputable def sA(t:aD):gF:=λδ Q=>t δ λd ag=>∃xs,iN d=some xs/\Q true (xs.map D.sh) ag
theorem cJ4(xs:List D){F H:Hp}{ws:List V}(r:R F H (xs.map D.sh) ws []):(xs.map D.sh).map D.sh=xs.map D.sh:=jv r.pl
theorem Pa(h:PE X l (lE te)):PI X tg l (lI (sA te)) :=
 nD (Nv h) λσ H Q ⟨B,F,δ,ts,Qd,c,q,k⟩=>⟨B,F,δ,ts,_,c,q,λd ai v F1 H1 hd f1 h1 c1=>by
  obtain⟨xs,e,hq⟩:=hd
  obtain⟨F2,f2,c2⟩:=c1.O2
  have tp:=c2.top
  have c3:=c2.pop.snap
  have e2:=c2.ext
  have sn:=nv e2
  cases d with
  | lst o ys =>
   obtain rfl:=cP e
   rw[fQ]at tp
   cases tp with
   | @shr p ws _ _ _ hp r _ =>
    have r3:=r.shared sn (aa.refl _)
    refine⟨p,rfl,⟨ws,bc.of (e2 _ _ hp)⟩,k true _ ai _ _ H1 hq ((f1.trans f2).trans sn) h1 c3 ?_ λ_=>⟨r.pl,lV (.inl (sn _ _ hp)) r3 oY⟩⟩
    rw[cJ4 _ r]
    exact lV (.inl (e2 _ _ hp)) (r.shared e2 (aa.refl _)) (Full.refl _)
  | fz ys =>
   obtain rfl:=cP e
   cases tp with
   | @fz p o ws _ _ _ hp r _ =>
    have r3:=r.shared sn (aa.refl _)
    have es:=jv r.pl
    rw[es]at hq
    refine⟨p,rfl,⟨ws,.inl (.inr ⟨o,e2 _ _ hp⟩)⟩,k true _ ai _ _ H1 hq ((f1.trans f2).trans sn) h1 c3 ?_ λ_=>⟨r.pl,lV (.inr ⟨o,sn _ _ hp⟩) r3 oY⟩⟩
    rw[es]
    exact lV (.inr ⟨o,e2 _ _ hp⟩) (r.shared e2 (aa.refl _)) (Full.refl _)
  | ao=>cases e
  | bl _=>cases e
  | int _=>cases e
  | str _=>cases e
  | tup _=>cases e
  | obj _ _ _=>cases e
  | aR _=>cases e⟩
noncomputable def sC(t:aD):gF:=λδ Q=>t δ λd ag=>∃xs,iN d=some xs/\Q d.pl xs ag
theorem Fb(h:PE X l (lB te)):PI X tg l (lI (sC te)) :=
 nD (Nv h) λσ H Q ⟨B,F,δ,ts,Qd,c,q,k⟩=>⟨B,F,δ,ts,_,c,q,λd ai v F1 H1 hd f1 h1 c1 s=>by
  obtain⟨xs,e,hq⟩:=hd
  have c3:=c1.snap
  have e2:=c1.ext
  have sn:=nv e2
  cases s with
  | @shr p ws ys _ _ hp r _ =>
   obtain rfl:=cP e
   refine⟨p,rfl,⟨ws,bc.of (e2 _ _ hp)⟩,k _ _ ai _ _ H1 hq (f1.trans sn) h1 c3 ?_ λ_=>⟨r.pl,lV (.inl (sn _ _ hp)) (r.shared sn (aa.refl _)) oY⟩⟩
   rw[jv r.pl]
   exact lV (.inl (e2 _ _ hp)) (r.shared e2 (aa.refl _)) (Full.refl _)
  | @own p ws ys _ _ hp r _ =>
   obtain rfl:=cP e
   refine⟨p,rfl,⟨ws,bc.of hp⟩,k _ _ ai _ _ H1 hq (f1.trans sn) h1 c3 (lV (.inl hp) (r.frozen e2) (Full.refl _)) λz=>by simp[i9]at z⟩
  | @fz p o ws ys _ _ hp r _ =>
   obtain rfl:=cP e
   refine⟨p,rfl,⟨ws,.inl (.inr ⟨o,e2 _ _ hp⟩)⟩,k _ _ ai _ _ H1 hq (f1.trans sn) h1 c3 ?_ λ_=>⟨r.pl,lV (.inr ⟨o,sn _ _ hp⟩) (r.shared sn (aa.refl _)) oY⟩⟩
   rw[jv r.pl]
   exact lV (.inr ⟨o,e2 _ _ hp⟩) (r.shared e2 (aa.refl _)) (Full.refl _)
  | ao _=>cases e
  | bl _=>cases e
  | int _=>cases e
  | str _=>cases e
  | tup _ _ _=>cases e
  | obj _ _ _ _=>cases e
  | aR _ _=>cases e⟩
theorem pB(f:Nat->Int)(l:List Nat):(l.map λk=>D.int (f k)).map D.sh=l.map λk=>D.int (f k):=by simp[D.sh]
theorem Fc(f:Nat->Int)(l:List Nat):(l.map λk=>D.int (f k)).all D.pl=true:=by simp[D.pl]
noncomputable def sD(t:bX):gF:=λδ Q=>t δ λds ag=>∃j:Int,ds=[.int j]/\(-(2 ^ 62)<=j/\j<2 ^ 62)/\Q true ((aV j.toNat).map λ(k:Nat)=>D.int (0+(k:Int))) ag
theorem sE{p:Pos}(hg:Gl X "range")(hm:X.mg "range"=none)(ha:PA X [a] (lA ta))(hs:starEach [a] X.env=[(false,eval a X.env)]:=by rfl):PI X tg (.Call (.Name "range" p) [a] [] pos) (lI (sD ta)) :=
 nD (W8 hg hm ha hs) λσ H Q ⟨B,F,δ,ts,Qd,c,q,k⟩=>⟨B,F,δ,ts,_,c,q,λds ai vs F1 H1 hd f1 h1 c1 s=>by
  obtain⟨j,rfl,⟨b1,b2⟩,hq⟩:=hd
  cases s with
  | int s =>
   cases s
   refine⟨j,rfl,b1,b2,k true _ ai _ _ H1 hq f1 h1 c1 ?_ λ_=>⟨Fc _ _,Aw 0 _⟩⟩
   rw[pB]
   exact Aw 0 _⟩
noncomputable def sF(t:bX):gF:=λδ Q=>t δ λds ag=>∃i j:Int,ds=[.int i,.int j]/\(-(2 ^ 62)<=i/\i<2 ^ 62/\-(2 ^ 62)<=j/\j<2 ^ 62)/\Q true ((aV (j-i).toNat).map λ(k:Nat)=>D.int (i+(k:Int))) ag
theorem Ay{p:Pos}(hg:Gl X "range")(hm:X.mg "range"=none)(ha:PA X [a,b] (lA ta))(hs:starEach [a,b] X.env=[(false,eval a X.env),(false,eval b X.env)]:=by rfl)(cK:starEach [b] X.env=[(false,eval b X.env)]:=by rfl) :
  PI X tg (.Call (.Name "range" p) [a,b] [] pos) (lI (sF ta)) :=
 nD (W9 hg hm ha hs cK) λσ H Q ⟨B,F,δ,ts,Qd,c,q,k⟩=>⟨B,F,δ,ts,_,c,q,λds ai vs F1 H1 hd f1 h1 c1 s=>by
  obtain⟨i,j,rfl,bd,hq⟩:=hd
  cases s with
  | int s =>
   cases s with
   | int s =>
    cases s
    refine⟨i,j,rfl,bd,k true _ ai _ _ H1 hq f1 h1 c1 ?_ λ_=>⟨Fc _ _,Aw i _⟩⟩
    rw[pB]
    exact Aw i _⟩
noncomputable def fU(xs:List D)(g:fS)(tb:bS):bS:=λEn ai=>∃Iv:Nat->Dl->Prop,Iv 0 ai /\
 (∀i d ag,xs[i]?=some d->Iv i ag->g d ag λaI=>tb { En with nx:=Iv (i+1),ct:=Iv (i+1),bk:=En.nx } aI)/\∀ag,Iv xs.length ag->En.nx ag
theorem fU.mk{xs:List D}{g:fS}{tb:bS}{En:oZ}{δ:Dl}(Iv:Nat->Dl->Prop)(h0:Iv 0 δ)(ht:∀i d ag,xs[i]?=some d->Iv i ag->g d ag λaI=>tb { En with nx:=Iv (i+1),ct:=Iv (i+1),bk:=En.nx } aI)
  (hf:∀ag,Iv xs.length ag->En.nx ag):fU xs g tb En δ:=⟨Iv,h0,ht,hf⟩
noncomputable def sG(ti:gF)(g:fS)(tb:bS):bS:=λEn δ=>ti δ λsh xs ai=>sh=true/\fU xs g tb En ai
theorem jb{ti:gF}{g:fS}{body:List Stmt}(hp:PassesOwn (model X.prog X.w) X.A X.env X.xe)(hc:X.calm=true)(hi:PI X tg iter (lI ti))(hg:PG X tg (lG 0 g))(hb:PSs X body (lS X t))
  (hs:∀x,foldedSetIterable iter X.env x=pure x:=by intro _;rfl):PS X (.For tg iter body [] pos) (lS X (sG ti g t)) :=
 j9 (Xc hp hc hi hg hb hs) λEn σ H ⟨B,F,δ,Dd,c,q,k1,k2,k3,k4⟩=>⟨B,F,δ,[],_,c,q,λsh xs ai J F1 H1 hq f1 h1 c1 _ jd=>by
  obtain⟨m8,Iv,i0,turn,fin⟩:=hq
  obtain⟨aW,jd⟩:=jd m8
  have un:∀{F' H':Hp} {ar:L2.St} {ag:Dl} {ts:List (D × V)},aj ⟨B.H0,F1⟩ F' H' ar ag ts->aj B F' H' ar ag ts:=λc'=>c'.cM0 c1.b2 c1.b3
  refine⟨λi m σ H=>m=xs.length-i/\i<=xs.length/\∃F δ,aj ⟨B.H0,F1⟩ F H σ δ []/\Iv i δ,⟨_,rfl,gi _,F1,ai,c1.rebase,i0⟩,?_⟩
  rintro i m iA H2 ⟨rfl,hi,F2,aI,c2,iv⟩
  have s2:aa F1 H2:=c2.b2.trans c2.ext
  by_cases gB:i<xs.length
  ·refine .inr ⟨jd.go i H2 s2 gB,λar H'=>∃F δ,aj ⟨B.H0,F1⟩ F H' ar δ []/\Iv (i+1) δ,λar H' z=>⟨xs.length-(i+1),by omega,rfl,gB,z⟩,λx H3 y=>?_⟩
   obtain⟨d,e,s3,r⟩:=jd.g7 i H2 x H3 s2 gB y
   have c3:=(c2.grow s3).pushS (d:=d) (v:=x) ((r.s).mono c2.b2 (aa.refl _)) (by have:=r.pl;simpa using this)
   refine⟨⟨B.H0,F1⟩,F2,aI,[],d,_,c3,turn i d aI e iv,λag ar hq _ _ c4=>?_⟩
   exact⟨⟨B.H0,F1⟩,F2,ag,_,c4,hq,λiO lW F5 H5 h5 c5=>⟨F5,iO,c5,h5⟩,λd5 v5 iO lW F5 H5 h5 c5=>k2 d5 v5 iO lW F5 H5 h5 (un c5),λiO lW F5 H5 h5 c5=>k1 iO lW F5 H5 h5 (un c5),λiO lW F5 H5 h5 c5=>⟨F5,iO,c5,h5⟩,⟨λC iO pins lW F5 H5 s5 a T h5 c5=>k4.2.1 C iO pins lW F5 H5 s5 a T h5 (un c5),λC iO pins lW F5 H5 s5 h' e vs h5 c5=>k4.2.2 C iO pins lW F5 H5 s5 h' e vs h5 (un c5)⟩⟩
  ·have e:i=xs.length:=by omega
   subst e
   exact .inl ⟨jd.stop _ H2 s2 (aY _),k1 aI iA F2 H2 (fin aI iv) (un c2)⟩⟩
end
end L3
namespace L3
open PySem L2 PySem.Spec PyProof.Rows
noncomputable def iP(δ:Dl)(q:Str × Nat):Option D:=(δ[q.2]?).getD none
noncomputable def ig(δ:Dl)(q:Str × Nat):Bool:=match iP δ q with
 | some d=>d.pl
 | none=>true
noncomputable def fc(ax:List (Str × Nat))(n:Nat)(δ:Dl):Dl:=(ax.map λq=>(iP δ q).map D.sh)++aQ n none
noncomputable def pF(sh:Bool)(xs:List D)(ax:List (Str × Nat))(n:Nat)(g:fS)(tt:eP)(te:aD)(ai:Dl)(Q:D->Dl->Prop):Prop:=∃(p:D->Bool) (f:D->D),
 (∀x∈xs.map D.sh,g x (fc ax n ai) λaI=>tt aI λb gD=>b=p x/\(p x=true->te gD λd _=>d=f x)) /\
 ((sh&&ax.all (ig ai))=true\/∀x∈xs.map D.sh,p x=true->(f x).fr=true)/\xs.length<=sizeLine/\Q (.lst true (((xs.map D.sh).filter p).map f)) ai
noncomputable def pG(ti:gF)(ax:List (Str × Nat))(n:Nat)(g:fS)(tt:eP)(te:aD):aD:=λδ Q=>ti δ λsh xs ai=>pF sh xs ax n g tt te ai Q
noncomputable def jy:eP:=λδ Q=>Q true δ
theorem b60{sh:Bool}{xs:List D}{ax:List (Str × Nat)}{n m:Nat}{te:aD}{ai:Dl}{Q:D->Dl->Prop}(f:D->D)(hx:∀x∈xs.map D.sh,te ((fc ax n ai).set m (some x)) λd _=>d=f x)
  (di:(sh&&ax.all (ig ai))=true\/∀x∈xs.map D.sh,(f x).fr=true) (hl:xs.length<=sizeLine) (hq:Q (.lst true ((xs.map D.sh).map f)) ai):pF sh xs ax n (gN m) jy te ai Q :=
 ⟨λ_=>true,f,λx h=>⟨rfl,λ_=>hx x h⟩,di.imp id λh x hx _=>h x hx,hl,by rw[MR.mpr (λ_ _=>rfl)];exact hq⟩
section
variable{B:Bs}{F H:Hp}{σ:L2.St}{δ:Dl}{ts:List (D × V)}
theorem Pb(c:aj B F H σ δ ts)(n:Nat):∀(ax:List (Str × Nat)),ax.all (ig δ)=true->RS F H (fc ax n δ) (fO ax n σ) []
 | [],_=>by
  have z:∀n,RS F H (aQ n none) (aQ n none) []:=λn=>by
   induction n with
   | zero=>exact .nil
   | succ n ih=>exact .ao ih
  exact z n
 | q::r,h=>by
  rw[dX,dh]at h
  have ih:=Pb c n r h.2
  show RS F H ((iP δ q).map D.sh::fc r n δ) ((σ[q.2]?).getD none::fO r n σ) []
  cases e:iP δ q with
  | none=>exact .ao ih
  | some d =>
   have e2:δ[q.2]?=some (some d):=by
    unfold iP at e
    cases z:δ[q.2]? with
    | none=>rw[z]at e;cases e
    | some o=>rw[z]at e;exact congrArg some e
   have hp:d.pl=true:=by have:=h.1;unfold ig at this;rw[e]at this;exact this
   obtain⟨v,e3,s⟩:=c.look e2
   rw[e3]
   show RS F H (some d.sh::_) (some v::_) []
   rw[D.An hp]
   exact .fj (A:=[]) (s.r (by simp[hp])) ih
theorem Pc(c:aj B F H σ δ ts)(n:Nat):∀(ax:List (Str × Nat)),RS H H (fc ax n δ) (fO ax n σ) []
 | []=>by
  have z:∀n,RS H H (aQ n none) (aQ n none) []:=λn=>by
   induction n with
   | zero=>exact .nil
   | succ n ih=>exact .ao ih
  exact z n
 | q::r=>by
  have ih:=Pc c n r
  show RS H H ((iP δ q).map D.sh::fc r n δ) ((σ[q.2]?).getD none::fO r n σ) []
  cases e:iP δ q with
  | none=>exact .ao ih
  | some d =>
   have e2:δ[q.2]?=some (some d):=by
    unfold iP at e
    cases z:δ[q.2]? with
    | none=>rw[z]at e;cases e
    | some o=>rw[z]at e;exact congrArg some e
   obtain⟨v,e3,s⟩:=c.look e2
   rw[e3]
   exact .fj (A:=[]) (s.frozen c.ext) ih
theorem Pd{α:Type}(xs:List α)(p:α->Bool)(i:Nat)(x:α)(h:xs[i]?=some x):(xs.take (i+1)).filter p=(xs.take i).filter p++(if p x=true then [x]else []):=by
 rw[zr,h,List.filter_append]
 simp only[Option.toList_some]
 by_cases hp:p x=true<;>simp[hp]
end
section
variable{X:Cx}{elt iter tg:Expr}{pos:Pos}{ifs:List Expr}{scope:Scope}{cl:List (Str × Addr)}{ti:gF}{tt:eP}{te:aD}{g:fS}
theorem Pe{B:Bs}{F1 H1:Hp}{σ:L2.St}{ai:Dl}{ts:List (D × V)}{J:It}{Qd:D->Dl->Prop}{Q:VK}{xs:List D}{sh:Bool}{ax:List (Str × Nat)}{n:Nat}(c1:aj B F1 H1 σ ai ts)
  (pH:JD J H1 (xs.map D.sh)) (w9:sh=true->xs.all D.pl=true/\JD J F1 xs) (p:D->Bool) (f:D->D)
  (hx:∀x∈xs.map D.sh,g x (fc ax n ai) λaI=>tt aI λb gD=>b=p x/\(p x=true->te gD λd _=>d=f x))
  (di:(sh&&ax.all (ig ai))=true\/∀x∈xs.map D.sh,p x=true->(f x).fr=true) (hlen:xs.length<=sizeLine) (hq:Qd (.lst true (((xs.map D.sh).filter p).map f)) ai)
  (k:∀d ag v F' H',Qd d ag->aa F1 F'->aa H1 H'->aj B F' H' σ ag ((d,v)::ts)->Q v H'):OD J ax n (lG ax.length g) (lT tt) (lE te) σ H1 Q:=by
 intro Dp hD
 have cD:aj B F1 (upd H1 Dp (.lst [])) σ ai ((.lst true [],.ref Dp)::ts):=c1.jw hD .nil rfl
 refine⟨λi m acc H2=>m=xs.length-i/\i<=xs.length/\H2 Dp=some (.lst acc)/\aa H1 H2/\acc.length<=i/\∃F2,aa F1 F2 /\
  aj B F2 H2 σ ai ((.lst true ((((xs.map D.sh).take i).filter p).map f),.ref Dp)::ts),⟨xs.length,rfl,gi _,bV,aa.upd hD,aY _,F1,aa.refl _,by simpa using cD⟩,?_⟩
 rintro i m acc H2 ⟨rfl,hi,iG,xb,Az,F2,ka,c2⟩
 refine⟨iG,?_⟩
 by_cases gB:i<xs.length
 case neg =>
  have e:i=xs.length:=by omega
  subst e
  refine .inl ⟨pH.stop _ H2 xb (by simp),k _ ai _ F2 H2 ?_ ka xb c2⟩
  have:(xs.map D.sh).take xs.length=xs.map D.sh:=by rw[VN (by simp)]
  rw[this]
  exact hq
 case pos =>
  refine .inr ⟨pH.go i H2 xb (by simpa using gB),λx H3 y=>?_⟩
  obtain⟨d0,e0,Fd,r0⟩:=pH.g7 i H2 x H3 xb (by simpa using gB) y
  have lY:d0∈xs.map D.sh:=qW e0
  have Pf:H3 Dp=some (.lst acc):=Fd _ _ iG
  have c3:=c2.grow Fd
  have Fe:=xb.trans Fd
  refine⟨Pf,?_⟩
  have nE:=hx d0 lY
  have turn:∀Fi,aa Fi H3->RS Fi H3 (fc ax n ai) (fO ax n σ) []->S Fi H3 [d0] [x]->d0.pl=true ->
    (∀d v F' H' A,d=f d0->p d0=true->aa H3 H'->aa Fi F'->aa F' H'->(∀a ws,F' a=some (.lst ws)->Fi a=some (.lst ws)\/H3 a=none)->R F' H' [d] [v] A->A.Nodup->(∀a∈A,H3 a=none) ->
     ∃F4,aa F2 F4/\aj B F4 H' σ ai ((d,v)::(.lst true ((((xs.map D.sh).take i).filter p).map f),.ref Dp)::ts)) ->
    lG ax.length g x (fO ax n σ) H3 λfv H4 =>
     (fv.length=(fO ax n σ).length/\∀j,j<ax.length->fv[j]?=(fO ax n σ)[j]?)/\lT tt fv H4 λb H5=>H5 Dp=some (.lst acc) /\
     if b=true then lE te fv H5 λy H6=>H6 Dp=some (.lst acc)/\acc.length<sizeLine/\∃m',m'<xs.length-i /\
      (m'=xs.length-(i+1)/\i+1<=xs.length/\upd H6 Dp (.lst (acc++[y])) Dp=some (.lst (acc++[y]))/\aa H1 (upd H6 Dp (.lst (acc++[y])))/\(acc++[y]).length<=i+1/\∃F2,aa F1 F2 /\
       aj B F2 (upd H6 Dp (.lst (acc++[y]))) σ ai ((.lst true ((((xs.map D.sh).take (i+1)).filter p).map f),.ref Dp)::ts))
     else ∃m',m'<xs.length-i/\(m'=xs.length-(i+1)/\i+1<=xs.length/\H5 Dp=some (.lst acc)/\aa H1 H5/\acc.length<=i+1/\∃F2,aa F1 F2 /\
       aj B F2 H5 σ ai ((.lst true ((((xs.map D.sh).take (i+1)).filter p).map f),.ref Dp)::ts)):=by
   intro Fi hFi hRS hS aW back
   have ci:aj ⟨H3,Fi⟩ Fi H3 (fO ax n σ) (fc ax n ai) []:=⟨hFi,aa.refl _,aa.refl _,λ_ _ q=>.inl q,[],[],.nil,hRS,by simp,by simp⟩
   refine⟨⟨H3,Fi⟩,Fi,fc ax n ai,[],d0,_,ci.pushS hS aW,nE,λag fv hq1 l1 k1 c4=>⟨⟨l1,k1⟩,⟨H3,Fi⟩,Fi,ag,[],_,c4,hq1,λb iO F5 H5 hb f5 h5 c5=>?_⟩⟩
   obtain⟨hb,ht⟩:=hb
   have Ak:H5 Dp=some (.lst acc):=h5 _ _ Pf
   refine⟨Ak,?_⟩
   by_cases hp:p d0=true
   ·rw[hb,hp]
    refine m9 ⟨⟨H3,Fi⟩,F5,iO,[],_,c5,ht hp,λd δ6 v F6 H6 hd f6 h6 c6=>?_⟩
    have Pg:H6 Dp=some (.lst acc):=h6 _ _ Ak
    obtain⟨A,C,r,s,nd,fr⟩:=c6.own
    obtain⟨F4,sH,c7⟩:=back d v F6 H6 A hd hp c6.b1 c6.b2 c6.ext c6.b3 r (e7.mp nd).1 λa ha=>fr a (fq _ ha)
    have c8:=c7.cM4 Pg
    refine⟨Pg,by omega,xs.length-(i+1),by omega,rfl,gB,bV,?_,by simpa using Az,F4,ka.trans sH,?_⟩
    ·have Ph:=Fe.trans c6.b1
     exact⟨λa o q n=>by rw[aN (dN q hD)];exact Ph.get a o q n,λa ps q=>by rw[aN (dN q hD)];exact Ph.tb a ps q⟩
    ·have e9:(((xs.map D.sh).take (i+1)).filter p).map f=(((xs.map D.sh).take i).filter p).map f++[d]:=by
      rw[Pd _ p i d0 e0,hp,hd];simp
     rw[e9]
     exact c8
   ·have Pj:p d0=false:=by simpa using hp
    rw[hb,Pj]
    refine j5 ⟨xs.length-(i+1),by omega,rfl,gB,Ak,Fe.trans h5,by omega,F2,ka,?_⟩
    have e9:(((xs.map D.sh).take (i+1)).filter p).map f=(((xs.map D.sh).take i).filter p).map f:=by
     rw[Pd _ p i d0 e0,Pj];simp
    rw[e9]
    exact c3.grow h5
  by_cases hA:(sh&&ax.all (ig ai))=true
  ·rw[dh]at hA
   obtain⟨aW,jd⟩:=w9 hA.1
   have m8:=jv aW
   rw[m8]at e0
   obtain⟨d1,e1,_,r1⟩:=jd.g7 i H2 x H3 (ka.trans c2.ext) gB y
   rw[e0]at e1;cases e1
   have cN7:d0.pl=true:=by have:=r1.pl;simpa using this
   refine turn F2 c3.ext (Pb c3 n ax hA.2) ((r1.s).mono ka (aa.refl _)) cN7 λd v F' H' A hd hp hs hf he h3 r nd fr=>⟨F',hf,c3.call hs hf he h3 r nd fr⟩
  ·have cN8:=di.resolve_left hA
   refine turn H3 (aa.refl _) (Pc c3 n ax) ((r0.shared Fe (aa.refl _)).s) (by have:=r0.pl;simpa using this) λd v F' H' A hd hp hs hf he h3 r nd fr=>⟨F2,aa.refl _,?_⟩
   exact c3.Aq hs (r.Ap (by rw[hd];simp[cN8 d0 lY hp]) (c3.ext.trans hf)) nd fr
theorem kb(ax:List (Str × Nat))(bJ:List Str)(hc:X.calm=true)(hi:PI X tg iter (lI ti))
  (hg:∀C s H fp,PG (da X scope (ax.map (·.1)++bJ) cl C s H fp) tg (lG ax.length g))
  (ht:∀C s H fp,lu (da X scope (ax.map (·.1)++bJ) cl C s H fp) ifs (lT tt)) (he:∀C s H fp,PE (da X scope (ax.map (·.1)++bJ) cl C s H fp) elt (lE te))
  (lF:closureFor scope X.env=pure cl) (lH:ly X cl) (lJ:lC cl (relabel scope X.env).names) (lK:lj X scope cl ax)
  (g6:∀y∈scope.names,y.2≠.cell) (gy:scope.kind=.function) (lM:∀y∈scope.names,y.2=.local->scope.names.lookup y.1=some .local)
  (hs:∀x,foldedSetIterable iter X.env x=pure x:=by intro _;rfl):PE X (.ListComp elt [⟨tg,iter,ifs,0⟩] scope pos) (lE (pG ti ax bJ.length g tt te)) :=
 cJ (ZP ax bJ hc hi hg ht he lF lH lJ lK g6 gy lM hs) λσ H Q ⟨B,F,δ,ts,Qd,c,q,k⟩=>⟨B,F,δ,ts,_,c,q,λsh xs ai J F1 H1 hq f1 h1 c1 pH w9=>by
  obtain⟨p,f,hx,di,hlen,hQ⟩:=hq
  exact Pe c1 pH w9 p f hx di hlen hQ λd ag v F' H' hd hf hs c'=>k d ag v F' H' hd (f1.trans hf) (h1.trans hs) c'⟩
theorem Pk{i:Nat}{x:Str}{pos' apos:Pos}(hN:X.N.Nodup)(nk:X.N[i]?=some x)(hx:L2.Loc X.env.scope x)(ax:List (Str × Nat))(bJ:List Str)(hc:X.calm=true)(hi:PI X tg iter (lI ti))
  (hg:∀C s H fp,PG (da X scope (ax.map (·.1)++bJ) cl C s H fp) tg (lG ax.length g))
  (ht:∀C s H fp,lu (da X scope (ax.map (·.1)++bJ) cl C s H fp) ifs (lT tt)) (he:∀C s H fp,PE (da X scope (ax.map (·.1)++bJ) cl C s H fp) elt (lE te))
  (lF:closureFor scope X.env=pure cl) (lH:ly X cl) (lJ:lC cl (relabel scope X.env).names) (lK:lj X scope cl ax)
  (g6:∀y∈scope.names,y.2≠.cell) (gy:scope.kind=.function) (lM:∀y∈scope.names,y.2=.local->scope.names.lookup y.1=some .local)
  (wV:swapsWith (.ListComp elt [⟨tg,iter,ifs,0⟩] scope pos) (some (.Name x pos')) apos.line X.env=pure true:=by rfl) (hf:X.fn x=true\/X.env.scope.names.lookup x=some .local:=by first | exact .inl rfl | exact .inr rfl)
  (hs:∀x,foldedSetIterable iter X.env x=pure x:=by intro _;rfl):PS X (.Assign [.Name x pos'] (.ListComp elt [⟨tg,iter,ifs,0⟩] scope pos) apos) (lS X (pz i (pG ti ax bJ.length g tt te))) :=
 j9 (ZQ hN nk hx hf ax bJ hc hi hg ht he lF lH lJ lK g6 gy lM wV hs) λEn σ H ⟨B,F,δ,Dd,c,q,k1,k2,k3,k4⟩=>⟨B,F,δ,[],_,c,q,λsh xs ai J F1 H1 hq f1 h1 c1 pH w9=>by
  obtain⟨p,f,hx,di,hlen,hQ⟩:=hq
  exact Pe (Qd:=λd ag=>Dd.nx (ag.set i (some d))) c1 pH w9 p f hx di hlen hQ λd ag v F' H' hd hf hs c'=>k1 _ _ F' H' hd (c'.store i)⟩
theorem ke{Y:Cx}:lu Y [] (lT jy):=λ_ _ _ H _ I ⟨B,F,δ,ts,Qd,c,q,k⟩=>Zw _ _ _ H _ I (k true δ F H q (aa.refl _) (aa.refl _) c)
theorem Pl{Y:Cx}{c:Expr}(h:PT Y c (lT tt)):lu Y [c] (lT tt):=Zx h
end
end L3
namespace L3
open PySem L2 PySem.Spec PyProof.Rows
section
variable{X:Cx}{F H:Hp}{v w:V}
noncomputable def l2(rd:cF):R2:=λv w H Q=>∃B F σ δ ts x y Qd,aj B F H σ δ ts/\S F H [x] [v]/\S F H [y] [w]/\rd x y Qd/\∀d z H',Qd d->aa H H'->aj B F H' σ δ ((d,z)::ts)->Q z H'
theorem bL.of{f:Value->Value->Sem Value}{rd:cF}(h:cu X f (l2 rd)):bL X f rd:=⟨_,h,λ{B F H σ δ ts x y v w Q Qd} c sx sy q k=>⟨B,F,σ,δ,ts,x,y,Qd,c,sx,sy,q,k⟩⟩
theorem xf{f:Value->Value->Sem Value}{C:Int->Int->Prop}{g:Int->Int->V}{gd:Int->Int->D}(ho:cu X f (rI C g))(hg:∀i j F H,S F H [gd i j] [g i j])(hp:∀i j,(gd i j).pl=true):bL X f λx y Q=>∃i j,x=.int i/\y=.int j/\C i j/\Q (gd i j) :=
 ⟨_,ho,λ{B F H σ δ ts x y v w Q Qd} c sx sy h k=>by
  obtain⟨i,j,rfl,rfl,hc,q⟩:=h
  cases sx;cases sy
  exact⟨i,j,rfl,rfl,hc,k _ _ _ q (aa.refl _) (c.pushS (hg i j F H) (hp i j))⟩⟩
theorem jz{f:Value->Value->Sem Value}{g:Int->Int->V}{gd:Int->Int->D}(ho:cu X f (g9 g))(hg:∀i j F H,S F H [gd i j] [g i j])(hp:∀i j,(gd i j).pl=true):bL X f λx y Q=>∃i j,x=.int i/\y=.int j/\Q (gd i j) :=
 ⟨_,ho,λ{B F H σ δ ts x y v w Q Qd} c sx sy h k=>by
  obtain⟨i,j,rfl,rfl,q⟩:=h
  cases sx;cases sy
  exact⟨i,j,rfl,rfl,k _ _ _ q (aa.refl _) (c.pushS (hg i j F H) (hp i j))⟩⟩
theorem ij{o:Bool}{xs:List D}(s:S F H [.lst o xs] [v])(e:aa F H):∃p ws,v=.ref p/\H p=some (.lst ws)/\S F H xs ws:=by
 cases s with
 | shr h r _=>exact⟨_,_,rfl,e _ _ h,r.s⟩
 | own h r _=>exact⟨_,_,rfl,h,r⟩
theorem iQ{xs:List D}(s:S F H [.tup xs] [v]):∃p ws,v=.ref p/\H p=some (.tup ws)/\S F H xs ws:=by
 cases s with
 | tup h r _=>exact⟨_,_,rfl,h,r⟩
theorem jA{d:D}{xs:List D}(s:S F H [d] [v])(e:aa F H)(h:iN d=some xs):∃p ws,v=.ref p/\Rd H p (.lst ws)/\S F H xs ws:=by
 cases s with
 | shr h' r _=>cases h;exact⟨_,_,rfl,.inl (e _ _ h'),r.s⟩
 | own h' r _=>cases h;exact⟨_,_,rfl,.inl h',r⟩
 | fz h' r _=>cases h;exact⟨_,_,rfl,.inr ⟨_,e _ _ h'⟩,r.s⟩
 | ao _=>cases h
 | bl _=>cases h
 | int _=>cases h
 | str _=>cases h
 | tup _ _ _=>cases h
 | obj _ _ _ _=>cases h
 | aR _ _=>cases h
theorem S.rep{xs:List D}{ws:List V}(s:S F H xs ws):∀k:Nat,S F H (aQ k xs).flatten (aQ k ws).flatten
 | 0=>by simpa using S.nil
 | k+1=>by
  rw[n6,n6,qZ,qZ]
  exact s.append (S.rep s k)
noncomputable def pI:cF:=λx y Q=>match x,y with
 | .int i,.int j=>Q (.int (i+j))
 | .str a,.str b=>a.length+b.length<=sizeLine/\Q (.str (a++b))
 | .lst _ xs,.lst _ ys=>(xs.length+ys.length<=sizeLine/\xs.all D.pl=true/\ys.all D.pl=true)/\Q (.lst true (xs++ys))
 | _,_=>False
theorem cC1:bL X (binaryOp .Add) λx y Q=>∃o xs o' ys,x=.lst o xs/\y=.lst o' ys/\(xs.length+ys.length<=sizeLine/\xs.all D.pl=true/\ys.all D.pl=true)/\Q (.lst true (xs++ys)) :=
 ⟨_,YI,λ{B F H σ δ ts x y v w Q Qd} c sx sy h k=>by
  obtain⟨o,xs,o',ys,rfl,rfl,⟨hz,h1,h2⟩,q⟩:=h
  obtain⟨p,ws,rfl,e1,s1⟩:=ij sx c.ext
  obtain⟨p',dZ,rfl,e2,s2⟩:=ij sy c.ext
  refine⟨p,p',ws,dZ,rfl,rfl,e1,e2,by rw[<-s1.length,<- s2.length];exact hz,λr hr=>?_⟩
  exact k _ _ _ q (aa.upd hr) (c.jw hr (s1.append s2) (by simp[h1,h2]))⟩
theorem cO0:bL X (binaryOp .Add) λx y Q=>∃i j,x=.str i/\y=.str j/\i.length+j.length<=sizeLine/\Q (.str (i++j)) :=
 ⟨_,XD,λ{B F H σ δ ts x y v w Q Qd} c sx sy h k=>by
  obtain⟨i,j,rfl,rfl,hz,q⟩:=h
  cases sx;cases sy
  exact⟨i,j,rfl,rfl,hz,k _ _ _ q (aa.refl _) (c.pushS (.str .nil) rfl)⟩⟩
theorem eE:bL X (binaryOp .Add) pI:=((jz (gd:=λi j=>.int (i+j)) Xg (λ_ _ _ _=>.int .nil) λ_ _=>rfl).or (cO0.or cC1)).imp λx y Q h=>by
 unfold pI at h
 split at h
 ·exact .inl ⟨_,_,rfl,rfl,h⟩
 ·exact .inr (.inl ⟨_,_,rfl,rfl,h.1,h.2⟩)
 ·exact .inr (.inr ⟨_,_,_,_,rfl,rfl,h.1,h.2⟩)
 ·exact h.elim
noncomputable def iI(C:Int->Int->Prop)(g:Int->Int->D):cF:=λx y Q=>match x,y with
 | .int i,.int j=>C i j/\Q (g i j)
 | _,_=>False
noncomputable def fy(g:Int->Int->D):cF:=λx y Q=>match x,y with
 | .int i,.int j=>Q (g i j)
 | _,_=>False
theorem AB{f:Value->Value->Sem Value}{C:Int->Int->Prop}{g:Int->Int->D}(h:bL X f λx y Q=>∃i j,x=.int i/\y=.int j/\C i j/\Q (g i j)):bL X f (iI C g):=h.imp λx y Q h=>by
 unfold iI at h
 split at h
 ·exact⟨_,_,rfl,rfl,h.1,h.2⟩
 ·exact h.elim
theorem kg{f:Value->Value->Sem Value}{g:Int->Int->D}(h:bL X f λx y Q=>∃i j,x=.int i/\y=.int j/\Q (g i j)):bL X f (fy g):=h.imp λx y Q h=>by
 unfold fy at h
 split at h
 ·exact⟨_,_,rfl,rfl,h⟩
 ·exact h.elim
noncomputable def sI:cF:=fy λi j=>.int (i-j)
theorem gG:bL X (binaryOp .Sub) sI:=kg (jz Ef (λ_ _ _ _=>.int .nil) λ_ _=>rfl)
noncomputable def Ff(_ j:Int):Prop:=0<j/\j.natAbs.log2<9000
theorem sJ{i j:Int}(h1:0<j)(h2:j<1073741824):Ff i j:=⟨h1,by
 have h:j.natAbs<2 ^ 30:=by omega
 have:=(Nat.log2_lt (show j.natAbs≠0 by omega)).mpr h
 omega⟩
theorem bU7:cu X (binaryOp .FloorDiv) (rI Ff λi j=>.int (i/j)):=wH λi j _ _ _ _ _ hc q =>
 floordiv_int (show j≠0 by have:=hc.1;omega) (by rw[VD i (by have:=hc.1;omega)];exact q) (.inl (PyProof.noPylong_of_log2 hc.2))
noncomputable def sM:cF:=iI Ff λi j=>.int (i/j)
theorem sN:bL X (binaryOp .FloorDiv) sM:=AB (xf bU7 (λ_ _ _ _=>.int .nil) λ_ _=>rfl)
noncomputable def sO:cF:=iI (λ_ j=>0<j) λi j=>.int (i%j)
theorem dH:bL X (binaryOp .Mod) sO:=AB (xf Xh (λ_ _ _ _=>.int .nil) λ_ _=>rfl)
noncomputable def sP:cF:=iI OB λi j=>.int (i*2 ^ j.toNat)
theorem sQ:bL X (binaryOp .LShift) sP:=AB (xf OC (λ_ _ _ _=>.int .nil) λ_ _=>rfl)
noncomputable def sR:cF:=iI (λ_ j=>0<=j) λi j=>.int (i/2 ^ j.toNat)
theorem Pm:bL X (binaryOp .RShift) sR:=AB (xf Xi (λ_ _ _ _=>.int .nil) λ_ _=>rfl)
noncomputable def sS:cF:=fy λi j=>.int (mJ i j)
theorem Pn:bL X (binaryOp .BitAnd) sS:=kg (jz Xj (λ_ _ _ _=>.int .nil) λ_ _=>rfl)
noncomputable def sT:cF:=fy λi j=>.int (mK i j)
theorem sU:bL X (binaryOp .BitXor) sT:=kg (jz Xk (λ_ _ _ _=>.int .nil) λ_ _=>rfl)
theorem bZ5:cu X (binaryOp .Mult) (rI IntMulOk λi j=>.int (i*j)):=wH λ_ _ _ _ _ _ _ hc q=>mul_int q hc
noncomputable def pJ:cF:=λx y Q=>match x,y with
 | .int i,.int j=>IntMulOk i j/\Q (.int (i*j))
 | .lst _ xs,.int k=>(-(2 ^ 63)<=k/\k<2 ^ 63/\xs.length*k.toNat<=sizeLine/\xs.all D.pl=true)/\Q (.lst true (aQ k.toNat xs).flatten)
 | _,_=>False
theorem cE1:bL X (binaryOp .Mult) λx y Q=>∃o xs k,x=.lst o xs/\y=.int k/\(-(2 ^ 63)<=k/\k<2 ^ 63/\xs.length*k.toNat<=sizeLine/\xs.all D.pl=true)/\Q (.lst true (aQ k.toNat xs).flatten) :=
 ⟨_,YL,λ{B F H σ δ ts x y v w Q Qd} c sx sy h k=>by
  obtain⟨o,xs,n,rfl,rfl,⟨b1,b2,hz,h1⟩,q⟩:=h
  obtain⟨p,ws,rfl,e1,s1⟩:=ij sx c.ext
  cases sy
  refine⟨p,n,ws,rfl,rfl,e1,b1,b2,by rw[<-s1.length];exact hz,λr hr=>?_⟩
  refine k _ _ _ q (aa.upd hr) (c.jw hr (s1.rep _) ?_)
  rw[dM]
  intro x hx
  obtain⟨l,hl,Po⟩:=List.mem_flatten.mp hx
  rw[(DB.mp hl).2]at Po
  exact dM.mp h1 x Po⟩
theorem lZ:bL X (binaryOp .Mult) pJ:=((xf (gd:=λi j=>.int (i*j)) bZ5 (λ_ _ _ _=>.int .nil) λ_ _=>rfl).or cE1).imp λx y Q h=>by
 unfold pJ at h
 split at h
 ·exact .inl ⟨_,_,rfl,rfl,h.1,h.2⟩
 ·exact .inr ⟨_,_,_,rfl,rfl,h.1,h.2⟩
 ·exact h.elim
theorem Pp:bL X (inplaceOp .Add) (fy λi j=>.int (i+j)):=kg (jz Xl (λ_ _ _ _=>.int .nil) λ_ _=>rfl)
theorem cy3:bL X (inplaceOp .Sub) (fy λi j=>.int (i-j)):=kg (jz Xm (λ_ _ _ _=>.int .nil) λ_ _=>rfl)
theorem Fg:bL X (inplaceOp .BitXor) (fy λi j=>.int (mK i j)):=kg (jz Xn (λ_ _ _ _=>.int .nil) λ_ _=>rfl)
noncomputable def sV:cF:=fy λi j=>.bl (decide (i<j))
noncomputable def sW:cF:=fy λi j=>.bl (decide (i<=j))
noncomputable def sX:cF:=fy λi j=>.bl (decide (j<i))
noncomputable def sY:cF:=fy λi j=>.bl (decide (j<=i))
theorem AD:bL X (compareOp .Lt) sV:=kg (jz Xx (λ_ _ _ _=>.bl .nil) λ_ _=>rfl)
theorem xg:bL X (compareOp .LtE) sW:=kg (jz Xy (λ_ _ _ _=>.bl .nil) λ_ _=>rfl)
theorem Fh:bL X (compareOp .Gt) sX:=kg (jz Xz (λ_ _ _ _=>.bl .nil) λ_ _=>rfl)
theorem Pq:bL X (compareOp .GtE) sY:=kg (jz XA (λ_ _ _ _=>.bl .nil) λ_ _=>rfl)
noncomputable def xh:D->Bool
 | .ao=>true
 | _=>false
noncomputable def bM:D->D->Bool
 | .ao,.ao=>true
 | .bl a,.bl b=>a==b
 | .bl a,.int b=>(if a then 1 else 0)==b
 | .int a,.bl b=>a==(if b then 1 else 0)
 | .int a,.int b=>a==b
 | .str a,.str b=>a==b
 | .lst _ xs,.lst _ ys=>fV xs ys
 | .tup xs,.tup ys=>fV xs ys
 | _,_=>false
where fV:List D->List D->Bool
 | [],[]=>true
 | x::xs,y::ys=>bM x y&&fV xs ys
 | _,_=>false
noncomputable def aL:Nat->D->Bool
 | _,.ao=>true
 | _,.bl _=>true
 | _,.int _=>true
 | _,.str _=>true
 | n+1,.lst _ xs=>xs.all (aL n)
 | n+1,.tup xs=>xs.all (aL n)
 | _,_=>false
theorem Fj:∀(xs ys:List D),xs.length=ys.length->bM.fV xs ys=(aV xs.length).all λj=>bM (xs.getD j .ao) (ys.getD j .ao)
 | [],[],_=>rfl
 | x::xs,y::ys,h=>by
  rw[eJ,VO,dX,zt]
  show(bM x y&&bM.fV xs ys)=_
  rw[Fj xs ys (by simpa using h)]
  rfl
theorem Fl:∀(xs ys:List D),xs.length≠ys.length->bM.fV xs ys=false
 | [],[],h=>absurd rfl h
 | [],_::_,_=>rfl
 | _::_,[],_=>rfl
 | x::xs,y::ys,h=>by
  show(bM x y&&bM.fV xs ys)=false
  rw[Fl xs ys (by simpa using h),Bool.and_false]
noncomputable def ofV:V->D
 | .bl b=>.bl b
 | .int i=>.int i
 | .str z=>.str z
 | _=>.ao
theorem Pr{x:D}{v:V}(h:aL 0 x=true)(s:S F H [x] [v]):x=ofV v:=by
 cases s with
 | ao _=>rfl
 | bl _=>rfl
 | int _=>rfl
 | str _=>rfl
 | _=>cases h
theorem bX8{x:D}(h:aL 0 x=true):bM x x=true:=by
 cases x with
 | ao=>rfl
 | bl b=>exact beq_self_eq_true b
 | int i=>exact beq_self_eq_true i
 | str z=>exact beq_self_eq_true z
 | _=>cases h
theorem Pt:∀(n:Nat) {xs ys:List D} {vs:List V},xs.all (aL n)=true->ys.all (aL n)=true->S F H xs vs->S F H ys vs->aa F H->bM.fV xs ys=true:=by
 intro n
 induction n with
 | zero =>
  intro xs
  induction xs with
  | nil=>intro ys vs _ _ s1 s2 _;cases s1;cases s2;rfl
  | cons x xs ih =>
   intro ys vs h1 h2 s1 s2 e
   obtain⟨v,ck,rfl,q1,r1⟩:=s1.cH
   cases ys with
   | nil=>cases s2
   | cons y ys =>
    obtain⟨v',O1,ee,q2,r2⟩:=s2.cH
    cases ee
    rw[dX,dh]at h1 h2
    show(bM x y&&bM.fV xs ys)=true
    rw[ih h1.2 h2.2 r1 r2 e,mT]
    have e1:=Pr h1.1 q1
    have e2:=Pr h2.1 q2
    rw[e2,<- e1]
    exact bX8 h1.1
 | succ n Pu =>
  intro xs
  induction xs with
  | nil=>intro ys vs _ _ s1 s2 _;cases s1;cases s2;rfl
  | cons x xs ih =>
   intro ys vs h1 h2 s1 s2 e
   obtain⟨v,ck,rfl,q1,r1⟩:=s1.cH
   cases ys with
   | nil=>cases s2
   | cons y ys =>
    obtain⟨v',O1,ee,q2,r2⟩:=s2.cH
    cases ee
    rw[dX,dh]at h1 h2
    show(bM x y&&bM.fV xs ys)=true
    rw[ih h1.2 h2.2 r1 r2 e,mT]
    cases x with
    | lst o1 a1 =>
     obtain⟨p,ws,rfl,e1,t1⟩:=ij q1 e
     cases y with
     | lst o2 a2 =>
      obtain⟨p2,Fm,ev,e2,t2⟩:=ij q2 e
      cases ev
      rw[e1]at e2;cases e2
      exact Pu h1.1 h2.1 t1 t2 e
     | tup a2=>obtain⟨p2,Fm,ev,e2,t2⟩:=iQ q2;cases ev;rw[e1]at e2;cases e2
     | _=>first | (cases q2;done) | (exact absurd h2.1 (by simp[aL]))
    | tup a1 =>
     obtain⟨p,ws,rfl,e1,t1⟩:=iQ q1
     cases y with
     | tup a2 =>
      obtain⟨p2,Fm,ev,e2,t2⟩:=iQ q2
      cases ev
      rw[e1]at e2;cases e2
      exact Pu h1.1 h2.1 t1 t2 e
     | lst o2 a2=>obtain⟨p2,Fm,ev,e2,t2⟩:=ij q2 e;cases ev;rw[e1]at e2;cases e2
     | _=>first | (cases q2;done) | (exact absurd h2.1 (by simp[aL]))
    | ao=>cases q1;cases q2;simp[bM]
    | bl _=>cases q1;cases q2;simp[bM]
    | int _=>cases q1;cases q2;simp[bM]
    | str _=>cases q1;cases q2;simp[bM]
    | obj _ _ _=>exact absurd h1.1 (by simp[aL])
    | fz _=>exact absurd h1.1 (by simp[aL])
    | aR _=>exact absurd h1.1 (by simp[aL])
end
end L3
namespace L3
open PySem L2 PySem.Spec PyProof.Rows
structure cO7(A:Around)(s:Shared)(u w:Value)(b:Bool):Prop where
 rc:SeqAt.RcAt A s u w b
 ne:SeqAt.RcNeAt A s u w (!b)
 eq:SeqAt.EqAt A s u w b
section
variable{X:Cx}{F H:Hp}{v w:V}
theorem Pw{xs:List V}{us:List Value}(r:Vals xs us){j:Nat}(h:j<us.toArray.size):∃x,xs[j]?=some x/\RelV x us.toArray[j]:=by
 have l:=r.length
 have hj:j<xs.length:=by rw[l];simpa using h
 obtain⟨u,e,q⟩:=r.get (bu hj)
 obtain⟨_,z⟩:=gg.mp e
 refine⟨_,bu hj,?_⟩
 have:us.toArray[j]=u:=by simpa using z
 rw[this];exact q
theorem Px{xs:List D}{j:Nat}{d:D}(h:xs[j]?=some d):xs.getD j .ao=d:=by rw[bF,h];rfl
theorem Py{pins:List (Addr × Obj)}{σ:L2.St}{s:Shared}(I:Inv X pins σ H s)(e:aa F H):∀(n:Nat) (x y:D) (v w:V) (u u':Value) (A:Around),aL n x=true->aL n y=true->S F H [x] [v]->S F H [y] [w]->RelV v u->RelV w u' ->
  A.units+n<cLine->cO7 A s u u' (bM x y):=by
 intro n
 induction n with
 | zero =>
  intro x y v w u u' A hx hy sx sy rv aT hu
  cases sx with
  | ao _ =>
   cases rv
   cases sy with
   | ao _=>cases aT;exact⟨.none_none,.none_none,.same _⟩
   | bl _=>cases aT;exact⟨.none_bool _,.none_bool _,.none_bool _⟩
   | int _=>obtain⟨t,rfl⟩:=aT;exact⟨.none_int _ _,.none_int _ _,.none_int _ _⟩
   | str _=>obtain⟨t,rfl⟩:=aT;exact⟨.none_str _ _,.none_str _ _,.none_str _ _⟩
   | _=>simp[aL]at hy
  | bl _ =>
   cases rv
   cases sy with
   | ao _=>cases aT;exact⟨.bool_none _,.bool_none _,.bool_none _⟩
   | bl _=>cases aT;exact⟨.bool_bool _ _,.bool_bool _ _,.bool_bool _ _⟩
   | int _=>obtain⟨t,rfl⟩:=aT;exact⟨.bool_int _ _ _,.bool_int _ _ _,.bool_int _ _ _⟩
   | str _=>obtain⟨t,rfl⟩:=aT;exact⟨.bool_str _ _ _,.bool_str _ _ _,.bool_str _ _ _⟩
   | _=>simp[aL]at hy
  | int _ =>
   obtain⟨t0,rfl⟩:=rv
   cases sy with
   | ao _=>cases aT;exact⟨.int_none _ _,.int_none _ _,.int_none _ _⟩
   | bl _=>cases aT;exact⟨.int_bool _ _ _,.int_bool _ _ _,.int_bool _ _ _⟩
   | int _=>obtain⟨t,rfl⟩:=aT;exact⟨.int_int _ _ _ _,.int_int _ _ _ _,.int_int _ _ _ _⟩
   | str _=>obtain⟨t,rfl⟩:=aT;exact⟨.int_str _ _ _ _,.int_str _ _ _ _,.int_str _ _ _ _⟩
   | _=>simp[aL]at hy
  | str _ =>
   obtain⟨t0,rfl⟩:=rv
   cases sy with
   | ao _=>cases aT;exact⟨.str_none _ _,.str_none _ _,.str_none _ _⟩
   | bl _=>cases aT;exact⟨.str_bool _ _ _,.str_bool _ _ _,.str_bool _ _ _⟩
   | int _=>obtain⟨t,rfl⟩:=aT;exact⟨.str_int _ _ _ _,.str_int _ _ _ _,.str_int _ _ _ _⟩
   | str _=>obtain⟨t,rfl⟩:=aT;exact⟨.str_str _ _ _ _,.str_str _ _ _ _,.str_str _ _ _ _⟩
   | _=>simp[aL]at hy
  | _=>simp[aL]at hx
 | succ n ih =>
  intro x y v w u u' A hx hy sx sy rv aT hu
  have aX:A.units<cLine:=by omega
  have hu1:A.in1.units+n<cLine:=by show A.units+1+n<cLine;omega
  have items:∀{xs ys:List D} {vs ws:List V} {us sZ:List Value},xs.all (aL n)=true->ys.all (aL n)=true->S F H xs vs->S F H ys ws->Vals vs us->Vals ws sZ ->
    ∀j (h1:j<us.toArray.size) (h2:j<sZ.toArray.size),SeqAt.EqAt A.in1 s us.toArray[j] sZ.toArray[j] (bM (xs.getD j .ao) (ys.getD j .ao)):=by
   intro xs ys vs ws us sZ hx hy sx sy r1 r2 j h1 h2
   obtain⟨a,e1,q1⟩:=Pw r1 h1
   obtain⟨b,e2,q2⟩:=Pw r2 h2
   obtain⟨d1,g1,t1⟩:=sx.get' e1
   obtain⟨d2,g2,t2⟩:=sy.get' e2
   rw[Px g1,Px g2]
   exact(ih d1 d2 a b _ _ A.in1 (dM.mp hx d1 (qW g1)) (dM.mp hy d2 (qW g2)) t1 t2 q1 q2 hu1).eq
  have low:∀x:D,(aL 0 x=true)\/(∃o xs,x=.lst o xs)\/(∃xs,x=.tup xs)\/aL (n+1) x=false:=by
   intro x;cases x<;>simp[aL]
  cases x with
  | lst o xs =>
   obtain⟨p,ws,rfl,e1,t1⟩:=ij sx e
   cases rv
   obtain⟨its,r1,p1,z1⟩:=I.list (bc.of (K:=X.K) e1)
   have l1:=r1.length
   cases y with
   | lst o' ys =>
    obtain⟨p',dZ,rfl,e2,t2⟩:=ij sy e
    cases aT
    obtain⟨fA,r2,p2,z2⟩:=I.list (bc.of (K:=X.K) e2)
    have l2:=r2.length
    have k1:=t1.length
    have k2:=t2.length
    by_cases hl:xs.length=ys.length
    ·have jZ:its.toArray.size=fA.toArray.size:=by simp;omega
     have ev:(aV its.toArray.size).all (λj=>bM (xs.getD j .ao) (ys.getD j .ao))=bM (.lst o xs) (.lst o' ys):=by
      show _=bM.fV xs ys
      rw[Fj xs ys hl,cY,<- l1,<- k1]
     have a:=SeqAt.RcAt.lists (e:=λj=>bM (xs.getD j .ao) (ys.getD j .ao)) p1.isList p2.isList jZ aX (items hx hy t1 t2 r1 r2)
     have b:=SeqAt.RcNeAt.lists (e:=λj=>bM (xs.getD j .ao) (ys.getD j .ao)) p1.isList p2.isList jZ aX (items hx hy t1 t2 r1 r2)
     rw[ev]at a b
     refine⟨a,b,?_⟩
     by_cases pK:p=p'
     ·subst pK
      rw[e1]at e2;cases e2
      have:bM (.lst o xs) (.lst o' ys)=true:=Pt n hx hy t1 t2 e
      rw[this]
      exact .same _
     ·exact .of_refs pK a
    ·have jZ:(its.toArray.size != fA.toArray.size)=true:=by simp;omega
     have ev:bM (.lst o xs) (.lst o' ys)=false:=Fl xs ys hl
     rw[ev]
     have a:=SeqAt.RcAt.lists_lengths p1.isList p2.isList jZ aX
     refine⟨a,SeqAt.RcNeAt.lists_lengths p1.isList p2.isList jZ aX,.of_refs (λpK=>?_) a⟩
     subst pK
     rw[e1]at e2;cases e2
     omega
   | tup ys =>
    obtain⟨p',dZ,rfl,e2,t2⟩:=iQ sy
    cases aT
    obtain⟨fA,r2,p2,z2⟩:=I.tuple (eZ.of (K:=X.K) e2)
    exact⟨.list_tuple p1.isList p2 aX,.list_tuple p1.isList p2 aX,.list_tuple p1.isList p2 aX⟩
   | ao=>cases sy;cases aT;exact⟨.list_none p1.isList aX,.list_none p1.isList aX,.list_none p1.isList aX⟩
   | bl _=>cases sy;cases aT;exact⟨.list_bool _ p1.isList aX,.list_bool _ p1.isList aX,.list_bool _ p1.isList aX⟩
   | int _=>cases sy;obtain⟨t,rfl⟩:=aT;exact⟨.list_int _ _ p1.isList aX,.list_int _ _ p1.isList aX,.list_int _ _ p1.isList aX⟩
   | str _=>cases sy;obtain⟨t,rfl⟩:=aT;exact⟨.list_str _ _ p1.isList aX,.list_str _ _ p1.isList aX,.list_str _ _ p1.isList aX⟩
   | obj _ _ _=>simp[aL]at hy
   | fz _=>simp[aL]at hy
   | aR _=>simp[aL]at hy
  | tup xs =>
   obtain⟨p,ws,rfl,e1,t1⟩:=iQ sx
   cases rv
   obtain⟨its,r1,p1,z1⟩:=I.tuple (eZ.of (K:=X.K) e1)
   have l1:=r1.length
   cases y with
   | tup ys =>
    obtain⟨p',dZ,rfl,e2,t2⟩:=iQ sy
    cases aT
    obtain⟨fA,r2,p2,z2⟩:=I.tuple (eZ.of (K:=X.K) e2)
    have l2:=r2.length
    have k1:=t1.length
    have k2:=t2.length
    have ev:((aV (min its.toArray.size fA.toArray.size)).all (λj=>bM (xs.getD j .ao) (ys.getD j .ao))&&its.toArray.size==fA.toArray.size)=bM (.tup xs) (.tup ys):=by
     show _=bM.fV xs ys
     by_cases hl:xs.length=ys.length
     ·have e3:its.length=fA.length:=by omega
      rw[Fj xs ys hl,cY,cY,<- e3,Nat.min_self,<- l1,<- k1];simp
     ·have e3:(its.length==fA.length)=false:=by simp;omega
      rw[Fl xs ys hl,cY,cY,e3,Bool.and_false]
    have a:=SeqAt.RcAt.tuples (e:=λj=>bM (xs.getD j .ao) (ys.getD j .ao)) p1 p2 aX (items hx hy t1 t2 r1 r2)
    have b:=SeqAt.RcNeAt.tuples (e:=λj=>bM (xs.getD j .ao) (ys.getD j .ao)) p1 p2 aX (items hx hy t1 t2 r1 r2)
    rw[ev]at a b
    refine⟨a,b,?_⟩
    by_cases pK:p=p'
    ·subst pK
     rw[e1]at e2;cases e2
     have:bM (.tup xs) (.tup ys)=true:=Pt n hx hy t1 t2 e
     rw[this]
     exact .same _
    ·exact .of_refs pK a
   | lst o' ys =>
    obtain⟨p',dZ,rfl,e2,t2⟩:=ij sy e
    cases aT
    obtain⟨fA,r2,p2,z2⟩:=I.list (bc.of (K:=X.K) e2)
    exact⟨.tuple_list p1 p2.isList aX,.tuple_list p1 p2.isList aX,.tuple_list p1 p2.isList aX⟩
   | ao=>cases sy;cases aT;exact⟨.tuple_none p1 aX,.tuple_none p1 aX,.tuple_none p1 aX⟩
   | bl _=>cases sy;cases aT;exact⟨.tuple_bool _ p1 aX,.tuple_bool _ p1 aX,.tuple_bool _ p1 aX⟩
   | int _=>cases sy;obtain⟨t,rfl⟩:=aT;exact⟨.tuple_int _ _ p1 aX,.tuple_int _ _ p1 aX,.tuple_int _ _ p1 aX⟩
   | str _=>cases sy;obtain⟨t,rfl⟩:=aT;exact⟨.tuple_str _ _ p1 aX,.tuple_str _ _ p1 aX,.tuple_str _ _ p1 aX⟩
   | obj _ _ _=>simp[aL]at hy
   | fz _=>simp[aL]at hy
   | aR _=>simp[aL]at hy
  | ao =>
   cases sx;cases rv
   cases y with
   | lst o' ys =>
    obtain⟨p',dZ,rfl,e2,t2⟩:=ij sy e;cases aT
    obtain⟨fA,r2,p2,z2⟩:=I.list (bc.of (K:=X.K) e2)
    exact⟨.none_list p2.isList aX,.none_list p2.isList aX,.none_list p2.isList aX⟩
   | tup ys =>
    obtain⟨p',dZ,rfl,e2,t2⟩:=iQ sy;cases aT
    obtain⟨fA,r2,p2,z2⟩:=I.tuple (eZ.of (K:=X.K) e2)
    exact⟨.none_tuple p2 aX,.none_tuple p2 aX,.none_tuple p2 aX⟩
   | ao=>exact ih _ _ _ _ _ _ A (by simp[aL]) (by simp[aL]) (.ao .nil) sy rfl aT (by omega)
   | bl _=>exact ih _ _ _ _ _ _ A (by simp[aL]) (by simp[aL]) (.ao .nil) sy rfl aT (by omega)
   | int _=>exact ih _ _ _ _ _ _ A (by simp[aL]) (by simp[aL]) (.ao .nil) sy rfl aT (by omega)
   | str _=>exact ih _ _ _ _ _ _ A (by simp[aL]) (by simp[aL]) (.ao .nil) sy rfl aT (by omega)
   | obj _ _ _=>simp[aL]at hy
   | fz _=>simp[aL]at hy
   | aR _=>simp[aL]at hy
  | bl b =>
   cases sx;cases rv
   cases y with
   | lst o' ys =>
    obtain⟨p',dZ,rfl,e2,t2⟩:=ij sy e;cases aT
    obtain⟨fA,r2,p2,z2⟩:=I.list (bc.of (K:=X.K) e2)
    exact⟨.bool_list _ p2.isList aX,.bool_list _ p2.isList aX,.bool_list _ p2.isList aX⟩
   | tup ys =>
    obtain⟨p',dZ,rfl,e2,t2⟩:=iQ sy;cases aT
    obtain⟨fA,r2,p2,z2⟩:=I.tuple (eZ.of (K:=X.K) e2)
    exact⟨.bool_tuple _ p2 aX,.bool_tuple _ p2 aX,.bool_tuple _ p2 aX⟩
   | ao=>exact ih _ _ _ _ _ _ A (by simp[aL]) (by simp[aL]) (.bl .nil) sy rfl aT (by omega)
   | bl _=>exact ih _ _ _ _ _ _ A (by simp[aL]) (by simp[aL]) (.bl .nil) sy rfl aT (by omega)
   | int _=>exact ih _ _ _ _ _ _ A (by simp[aL]) (by simp[aL]) (.bl .nil) sy rfl aT (by omega)
   | str _=>exact ih _ _ _ _ _ _ A (by simp[aL]) (by simp[aL]) (.bl .nil) sy rfl aT (by omega)
   | obj _ _ _=>simp[aL]at hy
   | fz _=>simp[aL]at hy
   | aR _=>simp[aL]at hy
  | int b =>
   cases sx
   cases y with
   | lst o' ys =>
    obtain⟨t0,rfl⟩:=rv
    obtain⟨p',dZ,rfl,e2,t2⟩:=ij sy e;cases aT
    obtain⟨fA,r2,p2,z2⟩:=I.list (bc.of (K:=X.K) e2)
    exact⟨.int_list _ _ p2.isList aX,.int_list _ _ p2.isList aX,.int_list _ _ p2.isList aX⟩
   | tup ys =>
    obtain⟨t0,rfl⟩:=rv
    obtain⟨p',dZ,rfl,e2,t2⟩:=iQ sy;cases aT
    obtain⟨fA,r2,p2,z2⟩:=I.tuple (eZ.of (K:=X.K) e2)
    exact⟨.int_tuple _ _ p2 aX,.int_tuple _ _ p2 aX,.int_tuple _ _ p2 aX⟩
   | ao=>exact ih _ _ _ _ _ _ A (by simp[aL]) (by simp[aL]) (.int .nil) sy rv aT (by omega)
   | bl _=>exact ih _ _ _ _ _ _ A (by simp[aL]) (by simp[aL]) (.int .nil) sy rv aT (by omega)
   | int _=>exact ih _ _ _ _ _ _ A (by simp[aL]) (by simp[aL]) (.int .nil) sy rv aT (by omega)
   | str _=>exact ih _ _ _ _ _ _ A (by simp[aL]) (by simp[aL]) (.int .nil) sy rv aT (by omega)
   | obj _ _ _=>simp[aL]at hy
   | fz _=>simp[aL]at hy
   | aR _=>simp[aL]at hy
  | str b =>
   cases sx
   cases y with
   | lst o' ys =>
    obtain⟨t0,rfl⟩:=rv
    obtain⟨p',dZ,rfl,e2,t2⟩:=ij sy e;cases aT
    obtain⟨fA,r2,p2,z2⟩:=I.list (bc.of (K:=X.K) e2)
    exact⟨.str_list _ _ p2.isList aX,.str_list _ _ p2.isList aX,.str_list _ _ p2.isList aX⟩
   | tup ys =>
    obtain⟨t0,rfl⟩:=rv
    obtain⟨p',dZ,rfl,e2,t2⟩:=iQ sy;cases aT
    obtain⟨fA,r2,p2,z2⟩:=I.tuple (eZ.of (K:=X.K) e2)
    exact⟨.str_tuple _ _ p2 aX,.str_tuple _ _ p2 aX,.str_tuple _ _ p2 aX⟩
   | ao=>exact ih _ _ _ _ _ _ A (by simp[aL]) (by simp[aL]) (.str .nil) sy rv aT (by omega)
   | bl _=>exact ih _ _ _ _ _ _ A (by simp[aL]) (by simp[aL]) (.str .nil) sy rv aT (by omega)
   | int _=>exact ih _ _ _ _ _ _ A (by simp[aL]) (by simp[aL]) (.str .nil) sy rv aT (by omega)
   | str _=>exact ih _ _ _ _ _ _ A (by simp[aL]) (by simp[aL]) (.str .nil) sy rv aT (by omega)
   | obj _ _ _=>simp[aL]at hy
   | fz _=>simp[aL]at hy
   | aR _=>simp[aL]at hy
  | obj _ _ _=>simp[aL]at hx
  | fz _=>simp[aL]at hx
  | aR _=>simp[aL]at hx
noncomputable def s8:cF:=λx y Q=>(aL 6 x=true/\aL 6 y=true)/\Q (.bl (bM x y))
noncomputable def s9:cF:=λx y Q=>(aL 6 x=true/\aL 6 y=true)/\Q (.bl (!bM x y))
theorem et(hu:X.A.units+6<cLine):bL X (compareOp .Eq) s8:=bL.of λpins s σ H v w u u' Q I rv aT zz=>by
 obtain⟨B,F,ar,δ,ts,x,y,Qd,c,sx,sy,⟨⟨hx,hy⟩,q⟩,k⟩:=zz
 exact(Py I c.ext 6 x y v w u u' X.A hx hy sx sy rv aT hu).rc _ _ _ _ ⟨.bl _,H,I,rfl,k _ _ _ q (aa.refl _) (c.pushS (.bl .nil) rfl)⟩
theorem me(hu:X.A.units+6<cLine):bL X (compareOp .NotEq) s9:=bL.of λpins s σ H v w u u' Q I rv aT zz=>by
 obtain⟨B,F,ar,δ,ts,x,y,Qd,c,sx,sy,⟨⟨hx,hy⟩,q⟩,k⟩:=zz
 exact(Py I c.ext 6 x y v w u u' X.A hx hy sx sy rv aT hu).ne _ _ _ _ ⟨.bl _,H,I,rfl,k _ _ _ q (aa.refl _) (c.pushS (.bl .nil) rfl)⟩
end
end L3
namespace L3
open PySem L2 PySem.Spec PyProof.Rows
section
variable{X:Cx}{F H:Hp}{v w:V}{e a b c o:Expr}{es:List Expr}{pos p p2 apos bB:Pos}{t ta tb tc te:aD}{tr:bX}{x:Str}
theorem bO0{r r':R2}{rd xi:cF}(hl:Au r rd)(DY:Au r' xi):∀σ H Q,lE (o9 rd xi ta tb tc) σ H Q->NB r r' (lB ta) (lB tb) (lB tc) σ H Q:=λσ H Q ⟨B,F,δ,ts,Qd,c,q,k⟩ =>
 ⟨B,F,δ,ts,_,c,q,λx ai v F1 H1 q1 f1 h1 c1 s1=>⟨B,F1,ai,ts,_,c1,q1,λy aI w F2 H2 q2 f2 h2 c2 s2=>by
  refine hl c2 (s1.mono f2 h2) s2 q2 λd z H' hd hs c3=>?_
  obtain⟨b,rfl,qb⟩:=hd
  have st:=c3.top
  cases st with
  | bl _ =>
   refine⟨b,rfl,?_⟩
   cases b with
   | true =>
    refine m9 ⟨B,F2,aI,ts,_,c3.pop,by simpa using qb,λz gD w3 F3 H3 q3 f3 h3 c4 s3=>?_⟩
    exact DY c4 (s2.mono f3 (hs.trans h3)) s3 q3 λd z H' hd hs' c5=>k d gD z F3 H' hd ((f1.trans f2).trans f3) ((((h1.trans h2).trans hs).trans h3).trans hs') c5
   | false=>exact j5 (k _ aI _ F2 H' (by simpa using qb) (f1.trans f2) ((h1.trans h2).trans hs) (c3.pop.pushS (.bl .nil) rfl))⟩⟩
theorem Fp{op oM:CmpOp}{rd xi:cF}(ho:bL X (compareOp op) rd)(jn:bL X (compareOp oM) xi)(ha:PE X a (lB ta))(hb:PE X b (lB tb))(hc:PE X c (lB tc))
  (hm:lastMarks [op,oM] [b,c]=false:=by with_unfolding_all rfl):PE X (.Compare a [op,oM] [b,c] pos) (lE (o9 rd xi ta tb tc)):=by
 obtain⟨r,h1,h2⟩:=ho
 obtain⟨r',i8,iF⟩:=jn
 exact cJ (XC h1 i8 ha hb hc hm) (bO0 h2 iF)
noncomputable def tf(t:aD):aD:=λδ Q=>t δ λd ag=>match d with
 | .int i=>Q (.int (-i)) ag
 | _=>False
theorem tu(ha:PE X a (lB ta)):PE X (.UnaryOp .USub a pos) (lE (tf ta)):=cJ (Xe Xp ha) λσ H Q ⟨B,F,δ,ts,Qd,c,q,k⟩=>⟨B,F,δ,ts,_,c,q,λd ai v F1 H1 q1 f1 h1 c1 s1=>by
 cases s1 with
 | int _=>exact⟨_,rfl,k _ ai _ F1 H1 q1 f1 h1 (c1.pushS (.int .nil) rfl)⟩
 | _=>exact q1.elim⟩
noncomputable abbrev jc:=List D->(D->Prop)->Prop
noncomputable def lc(rd:jc):List V->Hp->VK->Prop:=λvs H Q=>∃B F σ δ ts ds Qd,aj B F H σ δ ts/\S F H ds vs/\rd ds Qd/\∀d z H',Qd d->aa H H'->aj B F H' σ δ ((d,z)::ts)->Q z H'
noncomputable def kh(X:Cx)(f:Value)(rd:jc):Prop:=fK X f (lc rd)
theorem kh.of{f:Value}{r:List V->Hp->VK->Prop}{rd:jc}(h:fK X f r)(m:∀vs H Q,lc rd vs H Q->r vs H Q):kh X f rd:=λpins s σ H xs us Q I r q=>h pins s σ H xs us Q I r (m xs H Q q)
noncomputable def ki(rd:jc)(t:bX):aD:=λδ Q=>t δ λds ag=>rd ds λd=>Q d ag
theorem Pz{rd:jc}:∀σ H Q,lE (ki rd tr) σ H Q->Em (lc rd) (lA tr) σ H Q:=λσ H Q ⟨B,F,δ,ts,Qd,c,q,k⟩=>⟨B,F,δ,ts,_,c,q,λds ai vs F1 H1 q1 f1 h1 c1 s1 =>
 ⟨B,F1,σ,ai,ts,ds,_,c1,s1,q1,λd z H' hd hs c'=>k d ai z F1 H' hd f1 (h1.trans hs) c'⟩⟩
theorem fB{id:String}{rd:jc}(hc:kh X (.builtin id) rd)(hg:Gl X x)(hm:X.mg x=none)(hv:bootBuiltins x=some (.builtin id))(ha:PA X (e::es) (lA tr))(hn:x≠"__name__":=by decide)(cZ:(x==("__debug__":Str))=false:=by decide)
  (he:starEach (e::es) X.env=(false,eval e X.env)::starEach es X.env:=by rfl) (aW:(backTo pos (starEach es X.env)).any (·.1)=false:=by rfl):PE X (.Call (.Name x p) (e::es) [] pos) (lE (ki rd tr)) :=
 cJ (Ac hc hg hm hv ha hn cZ he aW) Pz
theorem AE{T:String}{rd:jc}(hc:kh X (.type T) rd)(hg:Gl X x)(hm:X.mg x=none)(hv:bootBuiltins x=some (.type T))(ha:PA X (e::es) (lA tr))(hn:x≠"__name__":=by decide)(cZ:(x==("__debug__":Str))=false:=by decide)
  (he:starEach (e::es) X.env=(false,eval e X.env)::starEach es X.env:=by rfl) (aW:(backTo pos (starEach es X.env)).any (·.1)=false:=by rfl):PE X (.Call (.Name x p) (e::es) [] pos) (lE (ki rd tr)) :=
 cJ (NN hc hg hm hv ha hn cZ he aW) Pz
theorem kj{d:D}{vs:List V}(s:S F H [d] vs):∃v,vs=[v]/\S F H [d] [v]:=by
 obtain⟨v,ck,rfl,h1,h2⟩:=s.cH
 cases h2
 exact⟨v,rfl,h1⟩
theorem iR{K:PySem.W.Frag}{p:Addr}{ws:List V}(h:Rd H p (.lst ws)):bc K H p ws:=.inl h
noncomputable def pM:jc:=λds Q=>match ds with
 | [.lst _ xs]=>Q (.int xs.length)
 | [.fz xs]=>Q (.int xs.length)
 | [.tup xs]=>Q (.int xs.length)
 | [.str z]=>z.length<=sizeLine/\Q (.int z.length)
 | _=>False
theorem gH:kh X (.builtin "len") pM:=kh.of (Yx.or Yy) λvs H Q zz=>by
 obtain⟨B,F,σ,δ,ts,ds,Qd,c,s,q,k⟩:=zz
 unfold pM at q
 split at q
 ·obtain⟨v,rfl,s1⟩:=kj s
  obtain⟨p,ws,rfl,h,t⟩:=jA s1 c.ext rfl
  refine .inl ⟨p,ws,rfl,.inl (iR h),?_⟩
  rw[<-t.length]
  exact k _ _ _ q (aa.refl _) (c.pushS (.int .nil) rfl)
 ·obtain⟨v,rfl,s1⟩:=kj s
  obtain⟨p,ws,rfl,h,t⟩:=jA s1 c.ext rfl
  refine .inl ⟨p,ws,rfl,.inl (iR h),?_⟩
  rw[<-t.length]
  exact k _ _ _ q (aa.refl _) (c.pushS (.int .nil) rfl)
 ·obtain⟨v,rfl,s1⟩:=kj s
  obtain⟨p,ws,rfl,h,t⟩:=iQ s1
  refine .inl ⟨p,ws,rfl,.inr (eZ.of h),?_⟩
  rw[<-t.length]
  exact k _ _ _ q (aa.refl _) (c.pushS (.int .nil) rfl)
 ·obtain⟨v,rfl,s1⟩:=kj s
  cases s1
  exact .inr ⟨_,rfl,q.1,k _ _ _ q.2 (aa.refl _) (c.pushS (.int .nil) rfl)⟩
 ·exact q.elim
noncomputable def pO:jc:=λds Q=>match ds with
 | [.lst _ xs]=>xs.all D.pl=true/\Q (.lst true xs)
 | [.fz xs]=>Q (.lst true xs)
 | [.tup xs]=>xs.all D.pl=true/\Q (.lst true xs)
 | _=>False
theorem AF:kh X (.type "list") pO:=kh.of Yz λvs H Q zz=>by
 obtain⟨B,F,σ,δ,ts,ds,Qd,c,s,q,k⟩:=zz
 unfold pO at q
 split at q
 ·obtain⟨v,rfl,s1⟩:=kj s
  obtain⟨p,ws,rfl,h,t⟩:=jA s1 c.ext rfl
  exact⟨p,ws,rfl,.inl (iR h),λl hl=>k _ _ _ q.2 (aa.upd hl) (c.jw hl t q.1)⟩
 ·obtain⟨v,rfl,s1⟩:=kj s
  cases s1 with
  | fz h r _=>exact⟨_,_,rfl,.inl (iR (.inr ⟨_,c.ext _ _ h⟩)),λl hl=>k _ _ _ q (aa.upd hl) (c.jw hl r.s r.pl)⟩
 ·obtain⟨v,rfl,s1⟩:=kj s
  obtain⟨p,ws,rfl,h,t⟩:=iQ s1
  exact⟨p,ws,rfl,.inr (eZ.of h),λl hl=>k _ _ _ q.2 (aa.upd hl) (c.jw hl t q.1)⟩
 ·exact q.elim
noncomputable def AG(bs:List Bool):List D:=bs.map D.bl
theorem PB:∀{bs:List Bool} {ws:List V},S F H (AG bs) ws->ws=bs.map V.bl
 | [],_,s=>by cases s;rfl
 | b::bs,_,s=>by
  cases s with
  | bl s=>rw[PB s];rfl
noncomputable def pP:jc:=λds Q=>match ds with
 | [.lst _ xs]=>∃bs,xs=AG bs/\Q (.bl (bs.all id))
 | _=>False
theorem PC(hc:X.calm=true):kh X (.builtin "all") pP:=kh.of (ZE hc) λvs H Q zz=>by
 obtain⟨B,F,σ,δ,ts,ds,Qd,c,s,q,k⟩:=zz
 unfold pP at q
 split at q
 ·obtain⟨v,rfl,s1⟩:=kj s
  obtain⟨bs,rfl,q⟩:=q
  obtain⟨p,ws,rfl,h,t⟩:=jA s1 c.ext rfl
  rw[PB t]at h
  exact⟨p,bs,rfl,iR h,k _ _ _ q (aa.refl _) (c.pushS (.bl .nil) rfl)⟩
 ·exact q.elim
noncomputable def AH:D->Option String
 | .int _=>some "int"
 | .bl _=>some "bool"
 | .ao=>some "NoneType"
 | .str _=>some "str"
 | .lst _ _=>some "list"
 | .fz _=>some "list"
 | .tup _=>some "tuple"
 | _=>none
noncomputable def Fq(k n:String):Option Bool:=([("int","int",true),("int","bool",false),("int","list",false),("int","tuple",false),("int","str",false),("bool","int",true),("bool","bool",true),("bool","list",false),("bool","tuple",false),("bool","str",false),
 ("NoneType","int",false),("NoneType","bool",false),("NoneType","list",false),("NoneType","tuple",false),("NoneType","str",false),("str","int",false),("str","bool",false),("str","list",false),("str","tuple",false),("str","str",true),
 ("list","int",false),("list","bool",false),("list","list",true),("list","tuple",false),("list","str",false),("tuple","int",false),("tuple","bool",false),("tuple","list",false),("tuple","tuple",true),("tuple","str",false)].find? λz=>z.1==k&&z.2.1==n).map (·.2.2)
noncomputable def kl(n:String)(d:D):Option Bool:=(AH d).bind λk=>Fq k n
theorem cv8{K:PySem.W.Frag}{k n:String}{r:Bool}(h:Fq k n=some r):PySem.W.kitOne K (.type k) (.type n)=some r:=by
 unfold Fq at h
 obtain⟨z,hz,rfl⟩:=MS.mp h
 have hm:=List.mem_of_find?_eq_some hz
 have hp:=List.find?_some hz
 rw[dh,beq_iff_eq,beq_iff_eq]at hp
 obtain⟨rfl,rfl⟩:=hp
 simp only[bG,fI,or_false]at hm
 repeat' (rcases hm with hm | hm)
 all_goals rfl
theorem mh{K:PySem.W.Frag}{d:D}(s:S F H [d] [v])(e:aa F H){k:String}(h:AH d=some k):fL K H v (.type k):=by
 cases s with
 | int _=>cases h;exact .int _
 | bl _=>cases h;exact .bl _
 | ao _=>cases h;exact .ao
 | str _=>cases h;exact .str _
 | shr h' _ _=>cases h;exact .lst (e _ _ h')
 | own h' _ _=>cases h;exact .lst h'
 | fz h' _ _=>cases h;exact .bO (e _ _ h')
 | tup h' _ _=>cases h;exact .tup h'
 | obj _ _ _ _=>cases h
 | aR _ _=>cases h
theorem cC3{K:PySem.W.Frag}{d:D}(s:S F H [d] [v])(e:aa F H){n:String}{r:Bool}(h:kl n d=some r):∃t,fL K H v t/\PySem.W.kitOne K t (.type n)=some r:=by
 unfold kl at h
 cases hk:AH d with
 | none=>rw[hk]at h;cases h
 | some k=>rw[hk]at h;exact⟨_,mh s e hk,cv8 h⟩
noncomputable def tw(n:String)(t:aD):aD:=λδ Q=>t δ λd ag=>∃r,kl n d=some r/\Q (.bl r) ag
theorem Fs{n:String}{y:Str}{q:Pos}(hg:Gl X "isinstance")(hm:X.mg "isinstance"=none)(iS:Gl X y)(fe:X.mg y=none)(hv2:bootBuiltins y=some (.type n))(ha:PE X a (lB ta))
  (hn:y≠"__name__":=by decide) (hd:(y==("__debug__":Str))=false:=by decide)
  (hs:starEach [a,.Name y q] X.env=(false,eval a X.env)::starEach [.Name y q] X.env:=by rfl) (cK:starEach [.Name y q] X.env=(false,eval (.Name y q) X.env)::starEach [] X.env:=by rfl) (aW:(backTo pos (starEach [.Name y q] X.env)).any (·.1)=false:=by rfl) :
  PE X (.Call (.Name "isinstance" p) [a,.Name y q] [] pos) (lE (tw n ta)) :=
 cJ (Ac Zr hg hm Ox (dO ha (dO (Zp iS fe hv2 hn hd) gu cK) hs) (by decide) (by decide) hs aW) λσ H Q ⟨B,F,δ,ts,Qd,c,q,k⟩=>⟨B,F,δ,ts,_,c,q,λd ai v F1 H1 q1 f1 h1 c1 s1=>by
  obtain⟨r,e,qr⟩:=q1
  obtain⟨t,h2,h3⟩:=cC3 (K:=X.K) s1 c1.ext e
  exact⟨v,n,t,r,rfl,h2,h3,k _ ai _ F1 H1 qr f1 h1 (c1.pushS (.bl .nil) rfl)⟩⟩
theorem Ft{xs:List D}{ws:List V}{i:Int}{d:D}(s:S F H xs ws)(h:dD xs i=some d):∃v,dD ws i=some v/\S F H [d] [v]:=by
 unfold dD at h ⊢
 rw[<-s.length]
 cases e:iB xs.length i with
 | none=>rw[e]at h;cases h
 | some j =>
  rw[e]at h
  exact s.get h
noncomputable def pQ(x y:D)(Q:D->Prop):Prop:=match x,y with
 | .lst _ xs,.int i=>∃d,dD xs i=some d/\Q d
 | .fz xs,.int i=>∃d,dD xs i=some d/\Q d
 | .tup xs,.int i=>∃d,dD xs i=some d/\Q d
 | .str z,.int i=>z.length<=sizeLine/\∃ch,dD z.cps.toList i=some ch/\Q (.str ⟨#[ch]⟩)
 | _,_=>False
noncomputable def tE(ta tb:aD):aD:=λδ Q=>ta δ λx ai=>tb ai λy aI=>pQ x y λd=>Q d aI
theorem cG(ha:PE X a (lB ta))(hb:PE X b (lB tb))(hs:Ep b):PE X (.Subscript a b pos) (lB (tE ta tb)) :=
 cJ (NQ Yp ha hb hs) λσ H Q ⟨B,F,δ,ts,Qd,c,q,k⟩=>⟨B,F,δ,ts,_,c,q,λx ai v F1 H1 q1 f1 h1 c1 s1=>⟨B,F1,ai,ts,_,c1,q1,λy aI w F2 H2 q2 f2 h2 c2 s2=>by
  have mi:=s1.mono f2 h2
  have fin:∀d z,Qd d aI->S F2 H2 [d] [z]->Q z H2:=λd z hd s=>k d aI z F2 H2 hd (f1.trans f2) (h1.trans h2) c2 s
  unfold pQ at q2
  split at q2
  ·obtain⟨d,ed,qd⟩:=q2
   cases s2
   obtain⟨p,ws,rfl,h,t⟩:=jA mi c2.ext rfl
   obtain⟨z,ez,sz⟩:=Ft t ed
   exact .inl ⟨p,ws,_,z,rfl,rfl,iR h,ez,fin d z qd sz⟩
  ·obtain⟨d,ed,qd⟩:=q2
   cases s2
   obtain⟨p,ws,rfl,h,t⟩:=jA mi c2.ext rfl
   obtain⟨z,ez,sz⟩:=Ft t ed
   exact .inl ⟨p,ws,_,z,rfl,rfl,iR h,ez,fin d z qd sz⟩
  ·obtain⟨d,ed,qd⟩:=q2
   cases s2
   obtain⟨p,ws,rfl,h,t⟩:=iQ mi
   obtain⟨z,ez,sz⟩:=Ft t ed
   exact .inr (.inl ⟨p,ws,_,z,rfl,rfl,eZ.of h,ez,fin d z qd sz⟩)
  ·obtain⟨hz,ch,ec,qc⟩:=q2
   cases mi
   cases s2
   exact .inr (.inr ⟨_,_,ch,rfl,rfl,hz,ec,fin _ _ qc (.str .nil)⟩)
  ·exact q2.elim⟩⟩
noncomputable abbrev tG:=Dl->(Option Int->Dl->Prop)->Prop
noncomputable def lP(t:tG):TO:=λσ H Q=>∃B F δ ts Qd,aj B F H σ δ ts/\t δ Qd/\∀o ag F' H',Qd o ag->aa F F'->aa H H'->aj B F' H' σ ag ts->Q o H'
theorem PD{oe:Option Expr}{u u':TO}(h:PO X oe u)(m:∀σ H Q,u' σ H Q->u σ H Q):PO X oe u':=λpins s σ H Q I q=>h pins s σ H Q I (m σ H Q q)
noncomputable def tH:tG:=λδ Q=>Q none δ
noncomputable def tI(t:aD):tG:=λδ Q=>t δ λd ag=>match d with
 | .int i=>Q (some i) ag
 | _=>False
theorem xj:PO X none (lP tH):=PD Yh λσ H Q ⟨B,F,δ,ts,Qd,c,q,k⟩=>k none δ F H q (aa.refl _) (aa.refl _) c
theorem pU(h:PE X e (lB t)):PO X (some e) (lP (tI t)):=PD (Yi h) λσ H Q ⟨B,F,δ,ts,Qd,c,q,k⟩=>⟨B,F,δ,ts,_,c,q,λd ai v F1 H1 q1 f1 h1 c1 s1=>by
 cases s1 with
 | int _=>exact⟨_,rfl,k _ ai F1 H1 q1 f1 h1 c1⟩
 | _=>exact q1.elim⟩
noncomputable def dS{α:Type}(xs:List α)(lo hi:Option Int):List α:=(xs.drop (HT.cw xs.length 0 lo)).take (HT.cw xs.length xs.length hi-HT.cw xs.length 0 lo)
theorem S.cut{xs:List D}{ws:List V}(s:S F H xs ws)(lo hi:Option Int):S F H (dS xs lo hi) (rH ws lo hi):=by
 unfold dS rH
 rw[<-s.length]
 exact(s.drop _).take _
theorem PH{xs:List D}{p:D->Bool}(h:xs.all p=true)(lo hi:Option Int):(dS xs lo hi).all p=true:=by
 rw[dM]at h ⊢
 intro x hx
 exact h x (DC (zu hx))
noncomputable def tJ(t:aD):aD:=λδ Q=>t δ λd ag=>match d with
 | .int i=>Q (.int (Mf.bl i.natAbs:Nat)) ag
 | _=>False
theorem mj(ho:PE X o (lB t))(iC:attributeBase o "bit_length" X.env (eval o X.env)=eval o X.env:=by rfl)(iD:(apos.endLine==bB.line)=true:=by rfl):PE X (.Call (.Attribute o "bit_length" apos) [] [] bB) (lE (tJ t)) :=
 cJ (EG ho iC iD) λσ H Q ⟨B,F,δ,ts,Qd,c,q,k⟩=>⟨B,F,δ,ts,_,c,q,λd ai v F1 H1 q1 f1 h1 c1 s1=>by
  cases s1 with
  | int _=>exact⟨rfl,_,rfl,rfl,k _ ai _ F1 H1 q1 f1 h1 (c1.pushS (.int .nil) rfl)⟩
  | _=>exact q1.elim⟩
end
end L3
namespace L3
open PySem L2 PySem.Spec PyProof.Rows
section
variable{X:Cx}{F H:Hp}{v w:V}{e a b c o tg:Expr}{es:List Expr}{pos p p2 apos bB pos':Pos}{t ta tb tc te ti:aD}{tr:bX}{x:Str}{i:Nat}
theorem PJ{F:Hp}(lo st:Int)(n:Nat):JD (EO lo st n) F ((aV n).map λ(k:Nat)=>D.int (lo+(k:Int)*st)) where
 go:=λi H' hs hi=>by
  have du:i<n:=by simpa using hi
  exact du
 g7:=λi H' x H2 hs hi zz=>by
  obtain⟨e,y⟩:=zz
  subst e y
  have du:i<n:=by simpa using hi
  exact⟨.int (lo+i*st),by simp[mS du],aa.refl _,.int .nil⟩
 stop:=λi H' hs hi=>by
  have du:n<=i:=by simpa using hi
  exact du
noncomputable def tK(t:bX):gF:=λδ Q=>t δ λds ag=>∃a b c:Int,ds=[.int a,.int b,.int c]/\Al a b c/\Q true ((aV (i4 a b c).toNat).map λ(k:Nat)=>D.int (a+(k:Int)*c)) ag
theorem b46(hg:Gl X "range")(hm:X.mg "range"=none)(ha:PA X [a,b,c] (lA tr))(hs:starEach [a,b,c] X.env=[(false,eval a X.env),(false,eval b X.env),(false,eval c X.env)]:=by rfl)
  (cK:starEach [b,c] X.env=[(false,eval b X.env),(false,eval c X.env)]:=by rfl):PI X tg (.Call (.Name "range" p) [a,b,c] [] pos) (lI (tK tr)) :=
 nD (ZV hg hm ha hs cK) λσ H Q ⟨B,F,δ,ts,Qd,c,q,k⟩=>⟨B,F,δ,ts,_,c,q,λds ai vs F1 H1 hd f1 h1 c1 s=>by
  obtain⟨i,j,l,rfl,bd,hq⟩:=hd
  cases s with
  | int s =>
   cases s with
   | int s =>
    cases s with
    | int s =>
     cases s
     refine⟨i,j,l,rfl,bd,k true _ ai _ _ H1 hq f1 h1 c1 ?_ λ_=>⟨Fc _ _,PJ i l _⟩⟩
     rw[pB]
     exact PJ i l _⟩
noncomputable def tL(i:Nat)(t:aD):bS:=λD δ=>(∃xs,δ[i]?=some (some (.lst true xs)))/\t δ λd ag=>∃xs,ag[i]?=some (some (.lst true xs))/\xs.length<sizeLine/\D.nx (ag.set i (some (.lst true (xs++[d]))))
theorem AI(hN:X.N[i]?=some x)(hv:jX X.env.scope x)(he:PE X e (lE t))(hd:(x==("__debug__":Str))=false:=by decide)(cC:(x==("__classdict__":Str))=false:=by decide)
  (iC:attributeBase (.Name x p) "append" X.env (eval (.Name x p) X.env)=eval (.Name x p) X.env:=by rfl)
  (wJ:((backTo bB (starEach [e] X.env)).all (λx=>!x.1)&&(backToKw bB (keywordEach [] X.env)).all (λx=>x.1.isSome)
   && decide ([e].length+([]:List Keyword).length+(if([]:List Keyword).isEmpty then 0 else 1)<30))=true:=by rfl)
  (iD:(apos.endLine==bB.line)=true:=by rfl) (hs:starEach [e] X.env=(false,eval e X.env)::starEach [] X.env:=by rfl) (wK:(backTo bB (starEach [] X.env)).any (·.1)=false:=by rfl)
  (wV:swapsWith (.Call (.Attribute (.Name x p) "append" apos) [e] [] bB) none pos.line X.env=pure false:=by rfl) :
  PS X (.Expr (.Call (.Attribute (.Name x p) "append" apos) [e] [] bB) pos) (lS X (tL i t)) :=
 j9 (D2 (NY PySem.F.plainAttrs_list PySem.F.slot_list_append PySem.F.type_list_append N3 (oE hN hv hd cC) (dO he gu hs) iC wJ iD hs wK) wV) λEn σ H zz=>by
  obtain⟨B,F,δ,Dd,c,⟨⟨ys,ey⟩,q⟩,k1,k2,k3,k4⟩:=zz
  obtain⟨p0,w4,g1,g2,g3⟩:=c.ownAt ey
  refine⟨.ref p0,g1,.inl ⟨rfl,_,bc.of g2⟩,B,F,δ,[],_,c,q,λd ag v F' H' hd sf sh c'=>?_⟩
  obtain⟨xs,ex,hl,hn⟩:=hd
  obtain⟨p1,ws,r1,r2,r3⟩:=c'.ownAt ex
  rw[g1]at r1;cases r1
  exact⟨p0,ws,v,rfl,rfl,r2,by omega,k1 _ _ F' _ hn (c'.app ex g1 r2)⟩
noncomputable def tM(i:Nat)(te ti:aD):bS:=λD δ=>te δ λd ai=>∃ys,ai[i]?=some (some (.lst true ys))/\o8 ti ai λk aI=>match k with
 | .int n=>∃xs j,aI[i]?=some (some (.lst true xs))/\iB xs.length n=some j/\D.nx (aI.set i (some (.lst true (xs.set j d))))
 | _=>False
theorem Fu(hN:X.N[i]?=some x)(hv:jX X.env.scope x)(he:PE X e (lE te))(hi:PE X b (lB ti))(hd:(x==("__debug__":Str))=false:=by decide)(cC:(x==("__classdict__":Str))=false:=by decide)
  (ha:∀v,assign (.Subscript (.Name x p) b pos') X.env v=(do
   let ov<-holding [v] (eval (.Name x p) X.env)
   let iv<-holding [v,ov] (eval b X.env)
   standAt pos'
   holding [v,ov,iv] (setItem ov iv v)
   release [v,ov,iv] []):=by intro _;rfl)
  (hs:swapsWithSole [.Subscript (.Name x p) b pos'] e pos.line X.env=pure false:=by rfl) (hw:swappedStores [.Subscript (.Name x p) b pos'] e X.env=pure none:=by rfl)
  (h1:(assignEach [.Subscript (.Name x p) b pos'] X.env).map (·.2)=[assign (.Subscript (.Name x p) b pos') X.env]:=by rfl) :
  PS X (.Assign [.Subscript (.Name x p) b pos'] e pos) (lS X (tM i te ti)) :=
 j9 (WV he (WU (oE hN hv hd cC) (eT hi) Yt ha) hs hw h1) λEn σ H ⟨B,F,δ,Dd,c,q,k1,k2,k3,k4⟩=>⟨B,F,δ,[],_,c,q,λd ai v F1 H1 hq f1 h1 c1=>by
  obtain⟨ys,ey,hq⟩:=hq
  obtain⟨p0,w4,g1,g2,g3⟩:=c1.ownAt ey
  refine⟨.ref p0,g1,B,F1,ai,[(d,v)],_,c1,hq,λkd aI kv F2 H2 hk f2 h2 c2=>?_⟩
  have st:=c2.top
  split at hk
  ·obtain⟨xs,j,ex,ej,hn⟩:=hk
   cases st
   have c3:=c2.pop
   obtain⟨p1,ws,r1,r2,r3⟩:=c3.ownAt ex
   rw[g1]at r1;cases r1
   exact⟨p0,ws,_,j,rfl,rfl,r2,by rw[<-r3];exact ej,k1 _ _ F2 _ hn (c3.cM5 ex g1 r2 j)⟩
  ·exact hk.elim⟩
theorem R.PK:∀{xs:List D} {ws:List V} {A:List Addr},R F H xs ws A->A.Nodup->∃A',R F H xs.dropLast ws.dropLast A'/\A'.Nodup/\∀a∈A',a∈A
 | [],_,A,r,nd=>by cases r;exact⟨[],.nil,by simp,by simp⟩
 | [d],_,A,r,nd=>by
  obtain⟨w,dZ,B1,B2,rfl,rfl,h1,h2⟩:=r.cH
  cases h2
  exact⟨[],.nil,by simp,by simp⟩
 | d::d'::ds,_,A,r,nd=>by
  obtain⟨w,dZ,B1,B2,rfl,rfl,h1,h2⟩:=r.cH
  obtain⟨n1,n2,n3⟩:=e7.mp nd
  obtain⟨A',r',iK,sub⟩:=R.PK h2 n2
  have hl:dZ≠[]:=by have:=h2.length;intro z;rw[z]at this;simp at this
  refine⟨B1++A',?_,e7.mpr ⟨n1,iK,λa ha hb=>n3 a ha (sub a hb)⟩,λa ha=>?_⟩
  ·rw[VP (by simp),VP hl]
   exact h1.cons r'
  ·rcases eH.mp ha with z | z
   ·simp[z]
   ·simp[sub a z]
end
end L3
namespace L3
open PySem L2 PySem.Spec PyProof.Rows
theorem cO{A:Around}{k:Nat}(hr:bH k A):A.units+6<cLine:=by have:=hr.un;omega
noncomputable def nums(ns:List Int):List D:=ns.map D.int
noncomputable def Fv(o:Obj):Bool:=match o.cls with
 | .type n=>n != "list"
 | _=>true
noncomputable def PL:bx:=λds Q=>∃ns:List Int,ds=[.fz (nums ns)]/\ns.length<=63/\Q (.bl true)
theorem jB{F H:Hp}:∀ns:List Int,R F H (nums ns) (ns.map V.int) []
 | []=>.nil
 | n::ns=>.int (jB ns)
theorem bu3{K:PySem.W.Frag}{a:Addr}{o:Obj}(h:K.lookup a=some o):(a,o)∈K:=by
 induction K with
 | nil=>cases h
 | cons p K ih =>
  obtain⟨b,u⟩:=p
  rw[iu]at h
  split at h
  ·rename_i z
   have:a=b:=by simpa using z
   cases h;subst this;simp
  ·exact i3 _ (ih h)
end L3
namespace L3
open PySem L2 PySem.Spec PyProof.Rows
section
variable{B:Bs}{F H:Hp}{σ:L2.St}{δ:Dl}{ts ps:List (D × V)}{i k:Nat}{p q:Addr}{l1 l2 ys OW:List D}{ws sZ:List V}
end
section
variable{X:Cx}{F H:Hp}{e b:Expr}{pos p pr apos bB AJ:Pos}{t ti te:aD}{x y:Str}{i j:Nat}
end
end L3
namespace L3
open PySem L2 PySem.Spec PyProof.Rows
theorem xk(i:Int):(D.int i).pl=true:=rfl
theorem xm(i:Bool):(D.bl i).pl=true:=rfl
theorem xn(i:Str):(D.str i).pl=true:=rfl
theorem xo:D.ao.pl=true:=rfl
theorem xp(xs:List D):(D.fz xs).pl=true:=rfl
theorem xq(C:Addr)(ns:List Str)(xs:List D):(D.obj C ns xs).pl=true:=rfl
theorem tN(i:Int):(D.int i).fr=true:=rfl
theorem xt(i:Bool):(D.bl i).fr=true:=rfl
theorem xu(i:Str):(D.str i).fr=true:=rfl
theorem xv:D.ao.fr=true:=rfl
theorem pV(i:Int):(D.int i).sh=.int i:=rfl
theorem xw(i:Bool):(D.bl i).sh=.bl i:=rfl
theorem xx(i:Str):(D.str i).sh=.str i:=rfl
theorem xy:D.ao.sh=.ao:=rfl
theorem xA(xs:List D):(D.fz xs).sh=.fz xs:=rfl
theorem xB(C:Addr)(ns:List Str)(xs:List D):(D.obj C ns xs).sh=.obj C ns xs:=rfl
theorem xC{α:Type}(n:Nat)(x:α):(aQ n [x]).flatten=aQ n x:=by
 induction n with
 | zero=>rfl
 | succ n ih=>rw[n6,qZ,ih];rfl
theorem km(ns:List Int):(nums ns).length=ns.length:=by simp[nums]
theorem pW(ns:List Int):(nums ns).all D.pl=true:=by simp[nums,D.pl]
theorem pX(ns:List Int):(nums ns).all D.fr=true:=by simp[nums,D.fr]
theorem iT(ns:List Int):(nums ns).map D.sh=nums ns:=by simp[nums,D.sh]
theorem pY(a b:List Int):nums a++nums b=nums (a++b):=by simp[nums]
theorem xD(n:Nat)(i:Int):aQ n (D.int i)=nums (aQ n i):=by simp[nums]
theorem tO(n:Nat)(ns:List Int):(nums ns).all (aL n)=true:=by
 rw[dM];intro x hx
 obtain⟨i,_,rfl⟩:=dn.mp hx
 cases n<;>rfl
theorem xE(n:Nat)(o:Bool)(ns:List Int):aL (n+1) (.lst o (nums ns))=true:=tO n ns
theorem tP(n:Nat)(i:Int):aL n (.int i)=true:=by cases n<;>rfl
theorem xF(n:Nat)(i:Bool):aL n (.bl i)=true:=by cases n<;>rfl
theorem xG(n:Nat)(i:Str):aL n (.str i)=true:=by cases n<;>rfl
theorem iU(i j:Int):bM (.int i) (.int j)=decide (i=j):=by
 show(i==j)=_
 rw[Bool.beq_eq_decide_eq]
theorem PM:∀(a b:List Int),bM.fV (nums a) (nums b)=decide (a=b)
 | [],[]=>rfl
 | [],_::_=>by simp[nums,bM.fV]
 | _::_,[]=>by simp[nums,bM.fV]
 | x::xs,y::ys=>by
  show(bM (.int x) (.int y)&&bM.fV (nums xs) (nums ys))=_
  rw[PM xs ys,iU,qU];simp
theorem tQ(o o':Bool)(a b:List Int):bM (.lst o (nums a)) (.lst o' (nums b))=decide (a=b):=PM a b
theorem by4{ns:List Int}{k:Nat}(h:k<ns.length):(nums ns)[k]?=some (.int ns[k]):=by simp[nums,h]
theorem kn{ns:List Int}{k:Int}(h0:0<=k)(h:k<ns.length):dD (nums ns) k=some (.int (ns.getD k.toNat 0)):=by
 unfold dD iB
 rw[if_pos h0,km,if_pos h]
 show(nums ns)[k.toNat]?=_
 have hk:k.toNat<ns.length:=by omega
 rw[by4 hk,bF,bu hk];rfl
theorem tR(ns:List Int)(lo hi:Option Int):dS (nums ns) lo hi=nums (dS ns lo hi):=by simp[dS,nums,List.map_drop,List.map_take]
theorem xH(i:Int):kl "int" (.int i)=some true:=by rfl
theorem xI(i:Int):kl "bool" (.int i)=some false:=by rfl
theorem xJ(i:Int):kl "list" (.int i)=some false:=by rfl
theorem xK(o:Bool)(xs:List D):kl "list" (.lst o xs)=some true:=by rfl
theorem xM:kl "int" .ao=some false:=by rfl
theorem xN(x:Str):kl "str" (.str x)=some true:=by rfl
theorem xO(xs:List D):kl "tuple" (.tup xs)=some true:=by rfl
theorem sL:sizeLine=16777216:=rfl
theorem xP{p:Prop}[Decidable p]:(decide p=true)=p:=by simp
theorem PN{α:Type}(xs:List α)(a b:Nat):dS xs (some (a:Int)) (some (b:Int))=(xs.drop a).take (b-a):=by
 unfold dS
 rw[HT.Eo,HT.Eo]
 by_cases h:a<=xs.length
 ·rw[vX h]
  apply DD
  intro i
  rw[zw,zw,VQ]
  by_cases hi:i<b-a
  ·rw[if_pos hi]
   by_cases hb:a+i<xs.length
   ·rw[if_pos (by omega)]
   ·rw[kN (by omega)];simp
  ·rw[if_neg hi,if_neg (by omega)]
 ·rw[Nat.min_eq_right (show xs.length<=a by omega),MT (aY _),MT (show xs.length<=a by omega)];simp
end L3
namespace L2
open PySem PySem.Spec PyProof.Rows
section
variable{X:Cx}{e:Expr}{te:TE}{lo hi:Option Expr}{st:Expr}{tl th ts:TO}{pos p2:Pos}
noncomputable def Fw{α:Type}(xs:List α)(lo hi st:Option Int):List α:=(sliceRange (sliceBounds lo hi st xs.length).1 (sliceBounds lo hi st xs.length).2.1 (sliceBounds lo hi st xs.length).2.2).filterMap (xs[·]?)
end
end L2
namespace L3
open PySem L2 PySem.Spec PyProof.Rows
section
variable{X:Cx}{F H:Hp}{e:Expr}{t:aD}{lo hi:Option Expr}{st:Expr}{tl th td:tG}{pos p2:Pos}
theorem PQ:∀{a:List Int} {ws:List V},S F H (nums a) ws->ws=a.map V.int
 | [],_,s=>by cases s;rfl
 | b::bs,_,s=>by
  cases s with
  | int s=>rw[PQ s];rfl
theorem S.Fx{xs:List D}{ws:List V}(s:S F H xs ws):∀ix:List Nat,S F H (ix.filterMap (xs[·]?)) (ix.filterMap (ws[·]?))
 | []=>.nil
 | i::ix=>by
  rw[qS,qS]
  cases e:xs[i]? with
  | none =>
   have:ws[i]?=none:=by
    have:=s.length
    rw[Mz]at e ⊢
    omega
   rw[this];exact S.Fx s ix
  | some x =>
   obtain⟨u,e2,q⟩:=s.get e
   rw[e2]
   exact q.cons (S.Fx s ix)
theorem S.pick{xs:List D}{ws:List V}(s:S F H xs ws)(l u d:Option Int):S F H (Fw xs l u d) (Fw ws l u d):=by
 unfold Fw;rw[<-s.length];exact s.Fx _
noncomputable def Fy:Expr->Option Int
 | .Constant (.int i) _ _=>some i
 | _=>none
noncomputable def AK:List Expr->Option (List Int)
 | []=>some []
 | e::es=>(Fy e).bind λi=>(AK es).map (i :: ·)
theorem bX2{e:Expr}{i:Int}(h:Fy e=some i):∃a b,e=.Constant (.int i) a b:=by
 cases e with
 | Constant c a b =>
  cases c with
  | int j=>cases h;exact⟨_,_,rfl⟩
  | _=>cases h
 | _=>cases h
noncomputable def cF0(ns:List Int):bX:=λδ Q=>Q (nums ns) δ
theorem PR:∀(es:List Expr) (ns:List Int),AK es=some ns->PA X es (lO (cF0 ns))
 | [],ns,h=>by cases h;exact e8
 | e::es,ns,h=>by
  obtain⟨i,hi,h2⟩:=Option.bind_eq_some_iff.mp (show(Fy e).bind (λi=>(AK es).map (i :: ·))=some ns from h)
  obtain⟨ms,hm,rfl⟩:=MS.mp h2
  obtain⟨a,b,rfl⟩:=bX2 hi
  exact w6 (eD (aq (i:=i)) (PR es ms hm)) λ_ _ _ q=>q
noncomputable def tS(ns:List Int):aD:=λδ Q=>ns.length<=sizeLine/\Q (.lst true (nums ns)) δ
theorem PU{es:List Expr}{ns:List Int}(h:AK es=some ns):PE X (.List es pos) (lE (tS ns)) :=
 cJ (gE (PR es ns h)) λ_ _ _ ⟨B,F,δ,ts,Qd,c,q,k⟩=>⟨B,F,δ,ts,Qd,c,by
  show(nums ns).length<=sizeLine/\_
  rw[km];exact q,k⟩
theorem bT1{ns:List Int}(h:0<ns.length):dD (nums ns) (-1)=some (.int (ns.getD (ns.length-1) 0)):=by
 unfold dD iB
 rw[if_neg (by decide),km,if_pos (by omega)]
 have hk:((-1:Int)+ns.length).toNat=ns.length-1:=by omega
 show(nums ns)[((-1:Int)+ns.length).toNat]?=_
 rw[hk,by4 (by omega),bF,bu (by omega)];rfl
noncomputable def tab(f:Nat->Int)(n:Nat):List Int:=(aV n).map f
theorem cc9{n:Nat}{g:fS}{tb:bS}{En:oZ}{δ:Dl}(Iv:Nat->Dl->Prop)(h0:Iv 0 δ)(ht:∀k ag,k<n->Iv k ag->g (.int k) ag λaI=>tb { En with nx:=Iv (k+1),ct:=Iv (k+1),bk:=En.nx } aI)
  (hf:∀ag,Iv n ag->En.nx ag):fU (DE (λ(k:Nat)=>D.int (0+(k:Int))) (aV (n:Int).toNat)) g tb En δ:=by
 rw[fH]
 refine fU.mk Iv h0 (λi d ag hd iv=>?_) λag iv=>hf ag (by simpa using iv)
 rw[dm]at hd
 obtain⟨k,hk,rfl⟩:=MS.mp hd
 have hi:i<n:=by have:=(gg.mp hk).1;simpa using this
 rw[mS hi]at hk
 cases hk
 rw[MU]
 exact ht i ag hi iv
theorem m6{xs:List D}{k:Int}{d:D}(h0:0<=k)(h:xs[k.toNat]?=some d):dD xs k=some d:=by
 unfold dD iB
 have hk:k.toNat<xs.length:=(gg.mp h).1
 rw[if_pos h0,if_pos (by omega)]
 exact h
end
end L3
namespace L3
open PySem L2 PySem.Spec PyProof.Rows
noncomputable abbrev jC:=List D->(D->Prop)->(Addr->Prop)->Prop
noncomputable def kq(sp:jC):Sp:=λvs H Q E=>∃F ds Qd Ed,aa F H/\R F H ds vs []/\sp ds Qd Ed/\(∀d v F' H' A,Qd d->aa H H'->aa F F'->aa F' H'->(∀a ws,F' a=some (.lst ws)->F a=some (.lst ws)\/H a=none)->R F' H' [d] [v] A->A.Nodup->(∀a∈A,H a=none)->Q v H') /\
 ∀C H',Ed C->aa H H'->E (.ref C) none H'
section
variable{P:Program}{w:World}{K:PySem.W.Frag}{mg:Str->Option Value}{base:Heap}
theorem AL{x qual:Str}{st:Stmt}{f:Addr}{fd:FuncData}{N ps:List Str}{k:Nat}{sp:jC}(F:bh K x qual st f fd)(S:bq N ps (az st))(len:∀ds Q E,sp ds Q E->ds.length=ps.length)
  (gx:∀(aG:Value) (A:Around) (outer:List Env) (s:Shared) (H:Hp) (E:XK),bH k (A.deeper (envOfC qual (az st) s.heap.objs.size f aG)) ->
   ∃t:bS,PSs (hG (iH P w) P w K mg base N qual (az st) f aG A outer s H E) (bf st) (lS (hG (iH P w) P w K mg base N qual (az st) f aG A outer s H E) t) /\
    ∀ds Q Ex,sp ds Q Ex->t { nx:=λ_=>Q .ao,rt:=Q,xc:=λC _=>Ex C,xr:=λC _=>Ex C } (jx N ds)):aO P w K mg base (iH P w) (k+1) f fd ps (kq sp):=by
 obtain⟨oc,od,kV,doc,pm,an,aG,ct,j3,rfl,lk,cC⟩:=F.ex
 refine El lk cC S (λvs H Q E ⟨F,ds,Qd,Ed,e,r,h,_⟩=>by rw[<-r.length];exact len ds Qd Ed h) λA outer s H vs Q E hr zz=>?_
 obtain⟨F,ds,Qd,Ed,e,r,h,k,kx⟩:=zz
 obtain⟨t,ht,hq⟩:=gx aG A outer s H E hr
 have fin:∀d v ag ar F' H',Qd d->aj ⟨H,F⟩ F' H' ar ag [(d,v)]->Q v H':=λd v ag ar F' H' hd c=>by
  obtain⟨A,C,r',s',nd,fr⟩:=c.own
  exact k d v F' H' A hd c.b1 c.b2 c.ext c.b3 r' (e7.mp nd).1 λa ha=>fr a (fq _ ha)
 have e1:L2.start N vs=vs.map some++aQ (N.length-ds.length) none:=by unfold L2.start;rw[r.length]
 refine⟨_,ht,⟨H,F⟩,F,jx N ds,_,?_,hq ds Qd Ed h,λag ar F' H' hd c=>fin .ao .ao ag ar F' H' hd (c.pushS (.ao .nil) rfl),fin,λ_ _ _ _ z=>z.elim,λ_ _ _ _ z=>z.elim,λC ag pins ar F' H' s' a T hx c I tr pa pT=>?_,λC ag pins ar F' H' s' h' e vs hx c I hm=>?_⟩
 ·rw[e1]
  exact aj.start e r _
 ·exact Z5 I rfl rfl rfl tr pa pT λh' T' g=>⟨a,T',.ref C,H',rfl,I.os,I.bare,g.un,g.av,g.rO,g.a0,g.a1,g.t0,g.t1,kx C H' hx c.b1⟩
 ·exact Z6 I rfl rfl rfl hm λh' T' g=>⟨e,T',.ref C,H',rfl,I.os,I.bare,g.un,g.av,g.rO,g.a0,g.a1,g.t0,g.t1,kx C H' hx c.b1⟩
end
noncomputable abbrev PV:=L2.St->Hp->VK->(Value->Hp->Prop)->Prop
noncomputable def PX(X:Cx)(e:Expr)(t:PV):Prop:=∀(pins:List (Addr × Obj)) (s:Shared) (σ:L2.St) (H:Hp) (Q:VK) (Z:Value->Hp->Prop),Inv X pins σ H s ->
 (∀a T cls H' s',Inv X pins σ H' s'->fP s'.heap a T cls->Apart X pins H' a->Apart X pins H' T->Z cls H'->X.xe (.ref a) s')->t σ H Q Z->wpAny (model X.prog X.w) X.A (eval e X.env) (EP X pins σ Q) X.xe s
noncomputable abbrev tT:=Dl->(D->Dl->Prop)->(Addr->Dl->Prop)->Prop
noncomputable def lX(t:tT):PV:=λσ H Q Z=>∃B F δ Qd Zd,aj B F H σ δ []/\t δ Qd Zd/\(∀d ag v F' H',Qd d ag->aa F F'->aa H H'->aj B F' H' σ ag [(d,v)]->Q v H')/\∀C ag F' H',Zd C ag->aa F F'->aa H H'->aj B F' H' σ ag []->Z (.ref C) H'
section
variable{X:Cx}{n:Nat}{f:Addr}{fd:FuncData}{ps:List Str}{sp:jC}{x:Str}{p pos:Pos}{e:Expr}{es:List Expr}{t:bX}{tx:tT}
theorem PY{pins:List (Addr × Obj)}{σ:L2.St}{H:Hp}{s:Shared}{Q:VK}{E:XK}{us:List Value}{vs:List V}{sp:Sp}(F:aO X.prog X.w X.K X.mg X.base (iH X.prog X.w) n f fd ps sp)(hr:bH n X.A)(hb:Binds X.K fd ps [])(hex:X.ex=[])
  (I:Inv X pins σ H s) (r:Vals vs us) (h:sp vs H Q E) (hx:∀a T cls H' s',Inv X pins σ H' s'->fP s'.heap a T cls->Apart X pins H' a->Apart X pins H' T->E cls none H'->X.xe (.ref a) s'):wpAny (model X.prog X.w) X.A (call (.ref f) us) (EP X pins σ Q) X.xe s:=by
 have hl:(us++[]).length=ps.length:=by rw[jP,<- r.length];exact F.len _ _ _ _ h
 have j6:=hb s us I.cB hl
 rw[jP]at j6
 refine wpAny_call (codeAny_mono (F.run X.A X.stack s H ⟨us,[]⟩ us vs Q E hr I.rG j6 r h) λr s' hq=>?_)
 cases r with
 | error e =>
  obtain⟨a,T,cls,H',rfl,os,bare,un,av,tr,a0,a1,t0,t1,hE⟩:=hq
  exact hx a T cls H' s' (I.Nl (ch:=[]) os un av bare λb z=>absurd z (by simp)) tr (I.apart hex a0 a1) (I.apart hex t0 t1) hE
 | ok fl =>
  cases fl with
  | ret u=>exact I.after hq
  | next=>exact dB hq
  | brk=>exact dB hq
  | cont=>exact dB hq
noncomputable def tU(sp:jC)(t:bX):tT:=λδ Q Z=>t δ λds ag=>sp (ds.map D.sh) (λd=>(ds.all D.pl||d.fr)=true/\Q d ag) λC=>Z C ag
theorem PZ{B:Bs}{F H:Hp}{σ:L2.St}{δ:Dl}{ts:List (D × V)}{Qd:D->Prop}{Ed:Addr->Prop}{Q:VK}{E:XK}{ds:List D}{vs:List V}(c:aj B F H σ δ ts)(s:S F H ds vs)(q:sp (ds.map D.sh) (λd=>(ds.all D.pl||d.fr)=true/\Qd d) Ed)
  (k:∀d v F' H',Qd d->aa F F'->aa H H'->aj B F' H' σ δ ((d,v)::ts)->Q v H') (kx:∀C H',Ed C->aa H H'->E (.ref C) none H'):kq sp vs H Q E:=by
 by_cases hp:ds.all D.pl=true
 ·rw[jv hp]at q
  exact⟨F,ds,_,_,c.ext,s.r hp,q,λd v F' H' A hd hs hf he h3 r nd fr=>k d v F' H' hd.2 hf hs (c.call hs hf he h3 r nd fr),kx⟩
 ·refine⟨H,ds.map D.sh,_,_,aa.refl _,s.frozen c.ext,q,λd v F' H' A hd hs hf he h3 r nd fr=>?_,kx⟩
  have di:d.fr=true:=by
   have:=hd.1
   rw[Du]at this
   exact this.resolve_left hp
  exact k d v F H' hd.2 (aa.refl _) hs (c.Aq hs (r.Ap (by simp[di]) (c.ext.trans hf)) nd fr)
theorem cx2(F:aO X.prog X.w X.K X.mg X.base (iH X.prog X.w) n f fd ps (kq sp))(hr:bH n X.A)(hg:Gl X x)(hm:X.mg x=some (.ref f))(hk:PySem.W.keepIn X.K (.ref f)=true)(hb:Binds X.K fd ps [])(hex:X.ex=[])
  (ha:PA X (e::es) (lA t)) (cZ:(x==("__debug__":Str))=false:=by decide) (he:starEach (e::es) X.env=(false,eval e X.env)::starEach es X.env:=by rfl) (aW:(backTo pos (starEach es X.env)).any (·.1)=false:=by rfl) :
  PX X (.Call (.Name x p) (e::es) [] pos) (lX (tU sp t)):=by
 intro pins s σ H Q Z I hz zz
 obtain⟨B,F0,δ,Qd,Zd,c,q,k,kx⟩:=zz
 refine wpAny_Call_Name_kw (oG I hg hm ?_ cZ)
 refine PySem.W.callWith_K (h₀:=X.base) I.ok.mod.jW hk (aE (ha pos pins s σ H (λvs H1=>kq sp vs H1 Q λcls _ H'=>Z cls H') I ⟨B,F0,δ,[],_,c,q,λds ai vs F1 H1 q1 f1 h1 c1 s1=>?_⟩) λus s1 ⟨vs,H1,I1,r,q⟩=>⟨I1.cB,?_⟩) he aW
 ·exact PZ c1 s1 q1 (λd v F' H' hd hf hs c'=>k d ai v F' H' hd (f1.trans hf) (h1.trans hs) c') λC H' hC hs=>kx C ai F1 H' hC f1 (h1.trans hs) (c1.grow hs)
 ·exact PY F hr hb hex I1 r q λa T cls H' s' I' tr pa pT hE=>hz a T cls H' s' I' tr pa pT hE
theorem P0{B:Bs}{F H:Hp}{σ:L2.St}{Dd:oZ}{pins:List (Addr × Obj)}(xl:XL X B Dd):∀a T cls H' s',Inv X pins σ H' s'->fP s'.heap a T cls->Apart X pins H' a->Apart X pins H' T->(∃C ag F',cls=.ref C/\Dd.xc C ag/\aj B F' H' σ ag [])->X.xe (.ref a) s':=by
 rintro a T cls H' s' I tr pa pT ⟨C,ag,F',rfl,hx,c⟩
 exact xl.1 C ag pins σ F' H' s' a T hx c I tr pa pT
noncomputable def tV(t:tT):bS:=λD δ=>t δ (λ_ ag=>D.nx ag) D.xc
theorem ch6(he:PX X e (lX tx))(hs:swapsWith e none pos.line X.env=pure false:=by rfl):PS X (.Expr e pos) (lS X (tV tx)):=by
 intro pins s σ H D I zz
 obtain⟨B,F,δ,Dd,c,q,k1,k2,k3,k4,xl⟩:=zz
 refine wpAny_Expr_any (aE (he pins s σ H (λ_ H1=>D.nx σ H1) (λcls H'=>∃C ag F',cls=.ref C/\Dd.xc C ag/\aj B F' H' σ ag []) I (P0 (H:=H) (F:=F) xl) ⟨B,F,δ,_,_,c,q,λd ag v F' H' hd _ _ c'=>k1 ag σ F' H' hd c'.pop,λC ag F' H' hC _ _ c'=>⟨C,ag,F',rfl,hC,c'⟩⟩) λv s1 ⟨x,H1,I1,r1,q1⟩=>⟨σ,H1,I1,q1⟩) I.quiet hs
noncomputable def tW(i:Nat)(t:tT):bS:=λD δ=>t δ (λd ag=>D.nx (ag.set i (some d))) D.xc
theorem cp6{i:Nat}{y:Str}{pos':Pos}(hN:X.N.Nodup)(hi:X.N[i]?=some y)(hy:Loc X.env.scope y)(he:PX X e (lX tx))(hs:swapsWith e (some (.Name y pos')) pos.line X.env=pure false:=by rfl)
  (hf:X.fn y=true\/X.env.scope.names.lookup y=some .local:=by first | exact .inl rfl | exact .inr rfl | assumption):PS X (.Assign [.Name y pos'] e pos) (lS X (tW i tx)):=by
 intro pins s σ H D I zz
 obtain⟨B,F,δ,Dd,c,q,k1,k2,k3,k4,xl⟩:=zz
 refine wpAny_Assign_Name (aE (he pins s σ H (λv H1=>D.nx (σ.set i (some v)) H1) (λcls H'=>∃C ag F',cls=.ref C/\Dd.xc C ag/\aj B F' H' σ ag []) I (P0 (H:=H) (F:=F) xl) ⟨B,F,δ,_,_,c,q,λd ag v F' H' hd _ _ c'=>k1 _ _ F' H' hd (c'.store i),λC ag F' H' hC _ _ c'=>⟨C,ag,F',rfl,hC,c'⟩⟩) λv s1 ⟨x,H1,I1,r1,q1⟩=>?_) hs
 exact wz I1 hN hi hy r1 (λs2 I2=>⟨_,H1,I2,q1⟩) hf
noncomputable def tX(t:bS):bS:=λD δ=>t { D with xc:=λ_ _=>False,xr:=λ_ _=>False } δ
theorem Fz{st:Stmt}{u:bS}(h:PS X.e5 st (lS X.e5 u)):PS X st (lS X (tX u)):=by
 intro pins s σ H D I zz
 obtain⟨B,F,δ,Dd,c,q,k1,k2,k3,k4,xl⟩:=zz
 exact wpAny_mono (h pins s σ H D (I.iy _) ⟨B,F,δ,_,c,q,k1,k2,k3,k4,XL.none (λ_ _ z=>z) λ_ _ z=>z⟩) (λ_ _ q=>q.jo) λ_ _ z=>dB z
noncomputable def tY(C:Addr)(t:bX):bS:=λD δ=>t δ λds ag=>ds.length<=9/\D.xr C ag
structure FA(K:PySem.W.Frag)(mg:Str->Option Value)(x:Str)(C:Addr):Prop where
 own:∀h:Heap,K.In h->h.Ns mainGlobals mg->∃newId Bn FC P1 B P2 P4 AM,OwnCls x C AM newId mg h/\ExcBaseFacts Bn newId FC P1/\AM.contains (.type Bn)=true/\ExcBaseFacts B P2 P4 AM
theorem AN{C:Addr}{np bB:Pos}(hm:FA X.K X.mg x C)(hc:X.calm=true)(hg:Gl X x)(ha:PA X (e::es) (lA t))(cZ:(x==("__debug__":Str))=false:=by decide)
  (he:starEach (e::es) X.env=(false,eval e X.env)::starEach es X.env:=by rfl) (aW:(backTo bB (starEach es X.env)).any (·.1)=false:=by rfl) :
  PS X (.Raise (some (.Call (.Name x np) (e::es) [] bB)) none pos) (lS X (tY C t)):=by
 intro pins s σ H D I zz
 obtain⟨B,F,δ,Dd,c,q,k1,k2,k3,k4,xl⟩:=zz
 obtain⟨newId,Bn,FC,P1,B',P2,P4,AM,O,Fn,hBn,FB⟩:=hm.own X.base I.ok.mod.jW I.ok.mod.glob
 obtain⟨tl,N,nm,qn,bs,hdct,sn,sub,ab,col,dd,k0,k1',k2',k3',k5,mN,hC,hN,nk,T⟩:=O.obj
 refine wpAny_Raise_call_subU (k5:=k5) (k3:=k3') (k2:=k2') (k1:=k1') (k0:=k0) (dd:=dd) (col:=col) (ab:=ab) (sub:=sub) (sn:=sn) (hdct:=hdct) (bs:=bs) (N:=N) (q:=qn) (nm:=nm) (C:=C) Fn hBn FB (mN:=mN) (T.hasType FB.hasBase) (I.ok.hd hc) (by rw[he];show(false||(backTo bB (starEach es X.env)).any (·.1))=false;rw[aW];rfl) nk (oG I hg O.bound ⟨rfl,?_⟩ cZ)
 have AO:=ha bB pins s σ H (λvs H1=>vs.length<=9/\∃ag F',Dd.xr C ag/\aj B F' H1 σ ag []) I ⟨B,F,δ,[],_,c,q,λds ai vs F1 H1 q1 f1 h1 c1 s1=>⟨by rw[<-s1.length];exact q1.1,ai,F1,q1.2,c1⟩⟩
 rw[he]at AO ⊢
 refine Calls.evalArgs_plain (wpAny_mono AO (λus s2 h2=>?_) λ_ _ y=>y)
 obtain⟨vs,H1,I1,r,hl,ag,F',hx,c'⟩:=h2
 exact⟨rfl,by rw[<-r.length];exact eu hl (by decide),I1.bk _ _ hC,hN.keeps I1.bk,T.keeps I1.bk,λh' e' hm'=>xl.2 C ag pins σ F' H1 s2 h' e' _ hx c' I1 hm'⟩
end
end L3
namespace L3
open PySem L2 PySem.Spec PyProof.Rows
section
variable{X:Cx}{pins rA:List (Addr × Obj)}{σ:L2.St}{H:Hp}{s:Shared}{a:Addr}
noncomputable abbrev tr(X:Cx)(xe:Value->Shared->Prop)(pn:List (Addr × Obj)):Cx:={ X with xe:=xe,pn:=pn }
noncomputable abbrev tZ(X:Cx)(A:Around)(xe:Value->Shared->Prop):Cx:={ X with A:=A,calm:=false,xe:=xe }
theorem cB7(ok:X.Ok)(xe:Value->Shared->Prop)(pn:List (Addr × Obj)):(tr X xe pn).Ok :=
 ⟨ok.mod,ok.kind,ok.glob,ok.blt,ok.above,ok.inj,ok.has,ok.kS,ok.hd,ok.frames,ok.ou,ok.oy,ok.bs,ok.fJ,ok.mY,ok.mZ,ok.eM,ok.gn⟩
theorem cw2(I:Inv X pins σ H s)(xe:Value->Shared->Prop):Inv (tr X xe (X.pn++pins)) [] σ H s :=
 ⟨cB7 I.ok _ _,I.os,I.bare,I.base,I.loc,I.cell,I.free,I.eC,λp hp=>I.pin p (by simpa using hp),I.av,I.len⟩
theorem xQ{xe:Value->Shared->Prop}(ok:X.Ok)(I:Inv (tr X xe (X.pn++pins)) rA σ H s):Inv X pins σ H s :=
 ⟨ok,I.os,I.bare,I.base,I.loc,I.cell,I.free,I.eC,λp hp=>I.pin p (fq _ hp),I.av,I.len⟩
theorem P5{xe:Value->Shared->Prop}(p:Apart (tr X xe (X.pn++pins)) rA H a):Apart X pins H a:=⟨p.old,p.free,p.loc,p.cell,λq hq=>p.pin q (fq _ hq),p.fr⟩
theorem cz3(ok:X.Ok){A:Around}(hA:A.frames=X.A.frames)(xe:Value->Shared->Prop):(tZ X A xe).Ok :=
 ⟨ok.mod,ok.kind,ok.glob,ok.blt,ok.above,ok.inj,ok.has,ok.kS,(λh=>Bool.noConfusion h),hA.trans ok.frames,ok.ou,ok.oy,ok.bs,ok.fJ,ok.mY,ok.mZ,ok.eM,ok.gn⟩
theorem P6(I:Inv X pins σ H s){A:Around}(hA:A.frames=X.A.frames)(xe:Value->Shared->Prop):Inv (tZ X A xe) pins σ H s :=
 ⟨cz3 I.ok hA xe,I.os,I.bare,I.base,I.loc,I.cell,I.free,I.eC,I.pin,I.av,I.len⟩
theorem bI4{A:Around}{xe:Value->Shared->Prop}(ok:X.Ok)(I:Inv (tZ X A xe) pins σ H s):Inv X pins σ H s:=⟨ok,I.os,I.bare,I.base,I.loc,I.cell,I.free,I.eC,I.pin,I.av,I.len⟩
theorem bP9{φ:Heap->Prop}(I:Inv X pins σ H s)(pa:Apart X pins H a)(ho:∃o,s.heap.get? a=some o)(h1:φ s.heap)(h2:∀g g':Heap,φ g->(∀o,g.get? a=some o->g'.get? a=some o)->φ g'):Inv X pins σ (upd H a (.ext φ)) s:=by
 have ne:∀{b:Addr} {u:HO},H b=some u->b≠a:=λ{b u} q=>dN q pa.free
 refine⟨I.ok,I.os,I.bare,⟨I.base.keep,I.base.slot,λb o e n hx=>?_,I.base.there,λb xs e=>?_,λb o xs e=>?_,λb ps e=>?_⟩,I.loc,I.cell,?_,λx c e=>?_,λp hp=>?_,λb u e=>?_,I.len⟩
 ·rw[aN (λz=>by rw[z,pa.old]at e;cases e)];exact I.base.free b o e n hx
 ·have q:=I.base.eY b xs e;rw[aN (ne q)];exact q
 ·have q:=I.base.eK b o xs e;rw[aN (ne q)];exact q
 ·obtain⟨m,q⟩:=I.base.dY b ps e;exact⟨m,by rw[aN (ne q)];exact q⟩
 ·rw[aN (dA pa.loc)];exact I.free
 ·rw[aN (pa.cell x c e)];exact I.eC x c e
 ·obtain⟨q1,q2,q3,q4,q5⟩:=I.pin p hp
  exact⟨q1,by rw[aN (pa.pin p hp)];exact q2,q3,q4,q5⟩
 ·by_cases hb:b=a
  ·subst hb;rw[bV]at e;cases e;exact⟨h1,ho,λg g' p kk=>h2 g g' p λo q=>kk _ o (.inl rfl) q⟩
  ·rw[aN hb]at e
   exact(I.av b u e).gZ (λ_ _ _ q=>q) (λc q=>by rw[aN (ne q)];exact q) (λc xs q=>by rw[aN (ne q)];exact q) λc xs q=>by rw[aN (ne q)];exact q
end
theorem aj.unset{B:Bs}{F H:Hp}{σ:L2.St}{δ:Dl}{ts:List (D × V)}(c:aj B F H σ δ ts)(i:Nat):aj B F H (σ.set i none) (δ.set i none) ts:=by
 obtain⟨A,C,r,q,nd,fr⟩:=(c.forget i).own
 refine⟨c.ext,c.b1,c.b2,c.b3,A,C,r,q.rR none ?_,nd,fr⟩
 by_cases h:i<δ.length
 ·exact .inl (by rw[MA h])
 ·exact .inr (by rw[kN (by simpa using h)])
noncomputable abbrev exc(C:Addr):D:=.aR (.ext λa=>j7 a C)
theorem P7{h:Heap}{a T C:Addr}(t:fP h a T (.ref C)):j7 a C h:=by
 obtain⟨oe,vs,oT,ts,h1,h2,h3,h4,_⟩:=t
 exact⟨oe,h1,h2,by obtain⟨c,d,dt,sl⟩:=oe;cases h4;rfl,h3⟩
theorem bU5{a C:Addr}(g g':Heap)(h:j7 a C g)(k:∀o,g.get? a=some o->g'.get? a=some o):j7 a C g':=let⟨o,h1,r⟩:=h;⟨o,k o h1,r⟩
section
variable{X:Cx}{tb th:bS}{body FD:List Stmt}{FE:Stmt}{K n:Str}{Kc:Addr}{i:Nat}{kp P8 pos:Pos}
noncomputable def t7(K:PySem.W.Frag)(c:Value)(i:Nat)(tb th:bS):bS:=λD δ=>tb { D with
 xc:=λC ag=>PySem.W.exmOne K (.ref C) c=some true/\th { nx:=λaI=>D.nx (aI.set i none),rt:=λ_=>False } (ag.set i (some (exc C)))
 xr:=λ_ _=>False } δ
theorem cA5(hb:∀xe pn,PSs (tr X xe pn) body (lS (tr X xe pn) tb))(hsu:∀A' xe,PSs (tZ X A' xe) (FE::FD) (lS (tZ X A' xe) th))(hg:Gl X K)(hm:X.mg K=some (.ref Kc))(hN:X.N.Nodup)(hi:X.N[i]?=some n)
  (hl:X.env.scope.names.lookup n=some .local) (hex:X.ex=[]) (bW:X.stack=X.env::X.outer) (hf:X.env.frame=some X.env.locals) (cZ:(K==("__debug__":Str))=false:=by decide) :
  PS X (.Try body [.ExceptHandler (some (.Name K kp)) (some n) (FE::FD) P8] [] [] pos) (lS X (t7 X.K (.ref Kc) i tb th)):=by
 intro pins s σ H D I zz
 obtain⟨B,F,δ,Dd,c,q,k1,k2,k3,k4,xl⟩:=zz
 refine wpAny_Try_except (wpAny_mono (hb (λe s'=>∃a T C ar F' H' ag,e=.ref a/\Inv X pins ar H' s'/\fP s'.heap a T (.ref C)/\Apart X pins H' a/\Apart X pins H' T/\aj B F' H' ar ag []/\PySem.W.exmOne X.K (.ref C) (.ref Kc)=some true/\th { nx:=λaI=>Dd.nx (aI.set i none),rt:=λ_=>False } (ag.set i (some (exc C)))) (X.pn++pins) [] s σ H D (cw2 I _) ⟨B,F,δ,_,c,q,k1,k2,k3,k4,λC ag rA ar F' H' s' a T hx c' I' EV pa pT=>⟨a,T,C,ar,F',H',ag,rfl,xQ I.ok I',EV,P5 pa,P5 pT,c',hx⟩,λ_ _ _ _ _ _ _ _ _ _ z=>z.elim⟩) (λf s1 hS=>?_) λe s1 hx=>?_)
 ·cases f with
  | next=>obtain⟨ar,H',I',q'⟩:=hS;exact zX (X:=X) pins s1 ar H' D (xQ I.ok I') q'
  | brk=>obtain⟨ar,H',I',q'⟩:=hS;exact⟨ar,H',xQ I.ok I',q'⟩
  | cont=>obtain⟨ar,H',I',q'⟩:=hS;exact⟨ar,H',xQ I.ok I',q'⟩
  | ret u=>obtain⟨v,ar,H',I',r',q'⟩:=hS;exact⟨v,ar,H',xQ I.ok I',r',q'⟩
 ·obtain⟨a,T,C,ar,F',H',ag,rfl,I1,t1,pa,pT,c1,dQ,hth⟩:=hx
  refine Z8 I1 bW hex hf t1 pa pT λh2 T2 I2 t2 pT2=>?_
  refine wpAny_handleBy_cons (codeAny_handlers_test (oG (X:=tZ X (X.A.mark (some (.ref a))) X.xe) (P6 (A:=X.A.mark (some (.ref a))) I2 rfl X.xe) hg hm ?_ cZ)) (by intro z;cases z)
  have x2:=P7 t2
  obtain⟨o2,e2,hc2,_⟩:=id x2
  have LT:PySem.W.Looks (model X.prog X.w) h2 (typeOf (.ref a)) (.ref C):=hc2 ▸ (PySem.W.Looks.ld e2).andThen .now
  refine(PySem.W.exm_one I2.cB LT dQ).here ?_
  refine codeAny_handlers_suite_as (Z9 I2 hex t2 pT2 λh3 I3 t3=>?_)
  have x3:=P7 t3
  have I4:=bP9 (φ:=j7 a C) I3 pa (x3.imp λo z=>z.1) x3 (λg g' z k=>bU5 g g' z k)
  refine wz I4 hN hi (.inl hl) (v:=.ref a) rfl (λs5 I5=>?_) (.inr hl)
  refine wpAny_mono (hsu _ _ pins s5 _ _ { nx:=λiA H2=>D.nx (iA.set i none) H2,rt:=λ_ _=>False } (P6 (A:=X.A.mark (some (.ref a))) I5 rfl _) ⟨B,F',ag.set i (some (exc C)),_,?_,hth,λaI iA F2 H2 hn c2=>k1 _ _ F2 H2 hn (c2.unset i),λ_ _ _ _ _ _ z=>z.elim,λ_ _ _ _ z=>z.elim,λ_ _ _ _ z=>z.elim,XL.none (λ_ _ z=>z) λ_ _ z=>z⟩) (λf s6 hS=>?_) λ_ _ z=>z
  ·exact((c1.grow (aa.upd pa.free)).pushS (d:=exc C) (v:=.ref a) (.aR bV .nil) rfl).store i
  ·cases f with
   | next =>
    obtain⟨z7,H6,I6,q6⟩:=hS
    exact γ (bI4 I.ok I6) hN hi hl λs7 I7=>⟨_,H6,I7,q6⟩
   | brk=>obtain⟨_,_,_,z⟩:=hS;exact z.elim
   | cont=>obtain⟨_,_,_,z⟩:=hS;exact z.elim
   | ret u=>obtain⟨_,_,_,_,_,z⟩:=hS;exact z.elim
end
end L3
namespace L3
open PySem L2 PySem.Spec PyProof.Rows
noncomputable def FF:V->Option Value
 | .ref a=>some (.ref a)
 | .ty n=>some (.type n)
 | _=>none
theorem cm1{c:V}{u cv:Value}(h:FF c=some cv)(r:RelV c u):u=cv:=by
 cases c<;>cases h<;>exact r
inductive AQ(K:PySem.W.Frag)(H:Hp):V->Value->Prop where
 | ty {v:V} {t:Value} (h:fL K H v t):AQ K H v t
 | exc {a C:Addr} (e:H a=some (.ext (j7 a C))) (x:wW K C):AQ K H (.ref a) (.ref C)
noncomputable def cI0(K:PySem.W.Frag):List V->Hp->VK->Prop:=λxs H Q=>∃x c cv t b,xs=[x,c]/\FF c=some cv/\AQ K H x t/\PySem.W.kitOne K t cv=some b/\Q (.bl b) H
section
variable{X:Cx}{F H:Hp}{v:V}{a:Expr}{ta:aD}{p pos:Pos}
theorem bN1:fK X (.builtin "isinstance") (cI0 X.K):=by
 intro pins s σ H xs us Q I r h
 obtain⟨x,c,cv,t,b,rfl,hv,ty,e,q⟩:=h
 obtain⟨u,v,rfl,ru,rv⟩:=r.two
 cases cm1 hv rv
 cases ty with
 | ty ty=>exact NF I ru ty e λtk=>⟨.bl b,H,I.tok _,rfl,q⟩
 | @exc a C ea x =>
  cases(show u=dg a from ru)
  obtain⟨xa,_,_⟩:=(show cM X.prog X.w H s.heap a (.ext (j7 a C)) from I.av a _ ea)
  exact PySem.W.kia_one (π x) I.cB xa e (λz=>nomatch z) λtk=>⟨.bl b,H,I.tok _,rfl,q⟩
noncomputable def FG(K:PySem.W.Frag)(cv:Value)(d:D)(r:Bool):Prop:=match d with
 | .aR φ=>∃C,(φ=.ext λa=>j7 a C)/\wW K C/\PySem.W.kitOne K (.ref C) cv=some r
 | d=>∃k,AH d=some k/\PySem.W.kitOne K (.type k) cv=some r
theorem cs7{K:PySem.W.Frag}{cv:Value}{d:D}{r:Bool}(s:S F H [d] [v])(e:aa F H)(h:FG K cv d r):∃t,AQ K H v t/\PySem.W.kitOne K t cv=some r:=by
 cases s with
 | aR h' _=>obtain⟨C,rfl,x,k⟩:=h;exact⟨_,.exc h' x,k⟩
 | int z=>obtain⟨k,hk,h⟩:=h;exact⟨_,.ty (mh (.int .nil) e hk),h⟩
 | bl z=>obtain⟨k,hk,h⟩:=h;exact⟨_,.ty (mh (.bl .nil) e hk),h⟩
 | ao z=>obtain⟨k,hk,h⟩:=h;exact⟨_,.ty (mh (.ao .nil) e hk),h⟩
 | str z=>obtain⟨k,hk,h⟩:=h;exact⟨_,.ty (mh (.str .nil) e hk),h⟩
 | shr h' q z=>obtain⟨k,hk,h⟩:=h;exact⟨_,.ty (mh (.shr h' q .nil) e hk),h⟩
 | own h' q z=>obtain⟨k,hk,h⟩:=h;exact⟨_,.ty (mh (.own h' q .nil) e hk),h⟩
 | fz h' q z=>obtain⟨k,hk,h⟩:=h;exact⟨_,.ty (mh (.fz h' q .nil) e hk),h⟩
 | tup h' q z=>obtain⟨k,hk,h⟩:=h;exact⟨_,.ty (mh (.tup h' q .nil) e hk),h⟩
 | obj _ _ _ _=>obtain⟨k,hk,h⟩:=h;cases hk
noncomputable def pZ(K:PySem.W.Frag)(cv:Value)(t:aD):aD:=λδ Q=>t δ λd ag=>∃r,FG K cv d r/\Q (.bl r) ag
theorem cy1{y:Str}{q:Pos}{c:V}{cv:Value}(hg:Gl X "isinstance")(hm:X.mg "isinstance"=none)(hc:PE X (.Name y q) (tC c))(hcv:FF c=some cv)(ha:PE X a (lB ta))
  (hs:starEach [a,.Name y q] X.env=(false,eval a X.env)::starEach [.Name y q] X.env) (cK:starEach [.Name y q] X.env=(false,eval (.Name y q) X.env)::starEach [] X.env) (aW:(backTo pos (starEach [.Name y q] X.env)).any (·.1)=false) :
  PE X (.Call (.Name "isinstance" p) [a,.Name y q] [] pos) (lE (pZ X.K cv ta)) :=
 cJ (Ac bN1 hg hm Ox (dO ha (dO hc gu cK) hs) (by decide) (by decide) hs aW) λσ H Q ⟨B,F,δ,ts,Qd,c,q,k⟩=>⟨B,F,δ,ts,_,c,q,λd ai v F1 H1 q1 f1 h1 c1 s1=>by
  obtain⟨r,e,qr⟩:=q1
  obtain⟨t,h2,h3⟩:=cs7 (K:=X.K) s1 c1.ext e
  exact⟨v,_,_,t,r,rfl,hcv,h2,h3,k _ ai _ F1 H1 qr f1 h1 (c1.pushS (.bl .nil) rfl)⟩⟩
theorem P9{y:Str}{q:Pos}{C:Addr}(hg:Gl X "isinstance")(hm:X.mg "isinstance"=none)(iS:Gl X y)(fe:X.mg y=some (.ref C))(ha:PE X a (lB ta))(hd:(y==("__debug__":Str))=false:=by decide)
  (hs:starEach [a,.Name y q] X.env=(false,eval a X.env)::starEach [.Name y q] X.env:=by rfl) (cK:starEach [.Name y q] X.env=(false,eval (.Name y q) X.env)::starEach [] X.env:=by rfl) (aW:(backTo pos (starEach [.Name y q] X.env)).any (·.1)=false:=by rfl) :
  PE X (.Call (.Name "isinstance" p) [a,.Name y q] [] pos) (lE (pZ X.K (.ref C) ta)) :=
 cy1 hg hm (Wq (v:=.ref C) iS fe rfl hd) rfl ha hs cK aW
end
section
variable{K:PySem.W.Frag}{mg:Str->Option Value}{x:Str}{C:Addr}
theorem cq1(hm:mg x=some (.ref C))(q:PySem.W.excIn K C [.type "ValueError",.type "Exception",.type "BaseException",.type "object"] "ValueError.__new__"=true):FA K mg x C:=by
 refine⟨λh X G=>⟨"ValueError.__new__","ValueError",_,_,"ValueError",_,_,[.type "ValueError",.type "Exception",.type "BaseException",.type "object"],?_,PySem.F.excBase_ValueError,rfl,PySem.F.excBase_ValueError⟩⟩
 refine⟨hm,?_⟩
 unfold PySem.W.excIn at q
 split at q
 ·rename_i dd cd sl ho
  split at q
  ·rename_i C' bm k0 k1 k2 k3 n k5 hm hs
   simp only[dh,beq_iff_eq,Bool.not_eq_true']at q
   obtain⟨⟨⟨⟨⟨rfl,rfl⟩,Qa⟩,ht⟩,av⟩,nk⟩:=q
   obtain⟨nm,bs,mro,ns,qn,hd,sn,sub,ab,col,del⟩:=cd
   dsimp only at hm Qa av nk
   subst hm Qa
   have hsl:sl=#[k0,k1,k2,k3,some (.builtin "ValueError.__new__"),k5]:=by
    obtain⟨l⟩:=sl
    simp only at hs
    rw[hs]
   subst hsl
   exact⟨bm,ns,nm,qn,bs,hd,sn,sub,ab,col,dd,k0,k1,k2,k3,k5,_,X _ _ ho,.of_isNs (PySem.W.isNs_of_in X av),PySem.W.nsMap_none_of_in X av nk,PySem.W.tail_of_in X ht⟩
  ·cases q
 ·cases q
open PySem.W in
theorem cy2{c:Value}:kitOne K c c=some true:=by
 unfold kitOne
 rw[if_pos (by simp)]
open PySem.W in
theorem FH{t:Value}{b:Bool}(lN:(t==.ref C)=false)(h1:(clsIn K C).isSome=true)(h2:typeIn K (.ref C)=some (.type "type"))(h3:subIn K t (.ref C)=some b):kitOne K t (.ref C)=some b:=by
 unfold kitOne kitCls
 rw[lN]
 simp only[mO,if_false]
 rw[h1,h2,if_pos (by rfl),h3]
open PySem.W in
theorem ck3{t:Value}{b:Bool}(h1:(clsIn K C).isSome=true)(h2:typeIn K (.ref C)=some (.type "type"))(h0:subIn K (.ref C) (.type "BaseException")=some true)(h3:subIn K t (.ref C)=some b):exmOne K t (.ref C)=some b:=by
 unfold exmOne kitCls
 rw[h0,if_pos (by rfl)]
 simp only
 rw[h1,h2,if_pos (by rfl),h3]
end
theorem AR{P:Program}{w:World}{X:Cx}:j0 (iH P w) X E0:=by
 rintro _ _ _ _ _ _ _ ⟨_,_,_,_,_,_,_,_,_,_,_,_,_,_,z⟩
 exact z.elim
theorem AS{P:Program}{w:World}{K:PySem.W.Frag}{mg:Str->Option Value}{base:Heap}{k:Nat}{f:Addr}{fd:FuncData}{ps:List Str}{sp:jC}(h:aO P w K mg base (iH P w) k f fd ps (kq sp)) :
  aO P w K mg base (iH P w) k f fd ps (bC λds Q=>sp ds Q λ_=>False) :=
 h.imp λvs H Q E ⟨F,ds,Qd,e,r,q,k⟩=>⟨F,ds,Qd,_,e,r,q,k,λ_ _ z=>z.elim⟩
end L3
namespace L3
open PySem L2 PySem.Spec PyProof.Rows
theorem xR{CX:dP}{P:Program}{w:World}{K:PySem.W.Frag}{mg:Str->Option Value}{base:Heap}{N:List Str}{q:Str}{sc:Scope}{f:Addr}{aG:Value}{A:Around}{outer:List Env}{s:Shared}{H:Hp}{E:XK}:(hG CX P w K mg base N q sc f aG A outer s H E).K=K:=rfl
theorem Qb{K:PySem.W.Frag}{cv:Value}{C:Addr}{r:Bool}(x:wW K C)(h:PySem.W.kitOne K (.ref C) cv=some r):FG K cv (exc C) r:=⟨C,rfl,x,h⟩
theorem xS(φ:rQ):(D.aR φ).pl=true:=rfl
theorem xT(φ:rQ):(D.aR φ).sh=.aR φ:=rfl
end L3
namespace L3
open PySem L2 PySem.Spec PyProof.Rows
theorem xU{X:Cx}:X.e5.K=X.K:=rfl
end L3
namespace L3
open PySem L2 PySem.Spec PyProof.Rows
noncomputable def gI(xs ys:List D):List D:=kO (λx y=>D.tup [x,y]) xs ys
noncomputable def fW(xs:List D):List D:=xs.mapIdx λi x=>D.tup [.int i,x]
theorem Qc(xs ys:List D):(gI xs ys).map D.sh=gI (xs.map D.sh) (ys.map D.sh):=by
 unfold gI
 rw[DF,List.zipWith_map]
 congr 1
theorem cc1{xs ys:List D}(h1:xs.all D.pl=true)(h2:ys.all D.pl=true):(gI xs ys).all D.pl=true:=by
 unfold gI
 rw[dM]at h1 h2 ⊢
 intro d hd
 obtain⟨i,hi,e⟩:=vV hd
 rw[List.getElem_zipWith]at e
 subst e
 rw[ju]
 simp only[dX,rh,mT,dh]
 exact⟨h1 _ (i6 _),h2 _ (i6 _)⟩
theorem b66(xs:List D):(fW xs).map D.sh=fW (xs.map D.sh):=by
 unfold fW
 apply DD
 intro i
 simp only[dm,MV,Option.map_map]
 cases xs[i]? with
 | none=>rfl
 | some x =>
  show some (D.sh (.tup [.int i,x]))=some (D.tup [.int i,x.sh])
  rw[lQ];rfl
theorem bW8{xs:List D}(h1:xs.all D.pl=true):(fW xs).all D.pl=true:=by
 unfold fW
 rw[dM]at h1 ⊢
 intro d hd
 obtain⟨i,hi,e⟩:=vV hd
 rw[List.getElem_mapIdx]at e
 subst e
 rw[ju]
 simp only[dX,rh,mT,dh]
 exact⟨rfl,h1 _ (i6 _)⟩
theorem p5(xs:List D):(fW xs).length=xs.length:=by simp[fW]
theorem FI(xs ys:List D):(gI xs ys).length=min xs.length ys.length:=by simp[gI]
section
variable{F H:Hp}{d:D}{v:V}{xs ys:List D}{ws us:List V}{p q:Addr}{K:PySem.W.Frag}
theorem AU(s:S F H [d] [v])(e2:aa F H)(e:iN d=some xs):∃p ws,v=.ref p/\Rd H p (.lst ws)/\R H H (xs.map D.sh) ws []/\(d.pl=true->xs.all D.pl=true/\Rd F p (.lst ws)/\R F H xs ws []):=by
 cases s with
 | @shr p ws ys _ _ hp r _ =>
  obtain rfl:=cP e
  refine⟨p,ws,rfl,.inl (e2 _ _ hp),?_,λ_=>⟨r.pl,.inl hp,r⟩⟩
  rw[jv r.pl]
  exact r.shared e2 (aa.refl _)
 | @own p ws ys _ _ hp r _ =>
  obtain rfl:=cP e
  exact⟨p,ws,rfl,.inl hp,r.frozen e2,λz=>by simp[i9]at z⟩
 | @fz p o ws ys _ _ hp r _ =>
  obtain rfl:=cP e
  refine⟨p,ws,rfl,.inr ⟨o,e2 _ _ hp⟩,?_,λ_=>⟨r.pl,.inr ⟨o,hp⟩,r⟩⟩
  rw[jv r.pl]
  exact r.shared e2 (aa.refl _)
 | ao _=>cases e
 | bl _=>cases e
 | int _=>cases e
 | str _=>cases e
 | tup _ _ _=>cases e
 | obj _ _ _ _=>cases e
 | aR _ _=>cases e
theorem AV(r:R F H xs ws []){i:Nat}(hi:i<xs.length){x:V}(hx:ws[i]?=some x):R F H [xs[i]] [x] []:=by
 obtain⟨v,A1,e2,r1,sub⟩:=r.get (bu hi)
 rw[hx]at e2;cases e2
 have:A1=[]:=VM.mpr λa ha=>by simpa using sub ha
 subst this
 exact r1
theorem Qe(hp:Rd F p (.lst ws))(r:R F H xs ws [])(hq:Rd F q (.lst us))(t:R F H ys us [])(hF:Full F H):JD (EW K p q) F (gI xs ys) where
 go:=λi H' hs hi=>by
  rw[FI]at hi
  have l1:=r.length
  have l2:=t.length
  exact⟨ws,us,_,_,.inl (fi hp hs),.inl (fi hq hs),bu (show i<ws.length by omega),bu (show i<us.length by omega)⟩
 g7:=λi H' v H2 hs hi zz=>by
  obtain⟨T,x,y,e1,e2,e3,hx,hy⟩:=zz
  subst e1 e3
  have gJ:=hi
  rw[FI]at gJ
  have h1:=AV (r.full hF hs rfl) (show i<xs.length by omega) (hx ws (.inl (fi hp hs)))
  have h2:=AV (t.full hF hs rfl) (show i<ys.length by omega) (hy us (.inl (fi hq hs)))
  have sm:=aa.upd (o:=.tup [x,y]) e2
  refine⟨_,bu hi,sm,?_⟩
  have eg:(gI xs ys)[i]=.tup [xs[i]'(by omega),ys[i]'(by omega)]:=by simp[gI]
  rw[eg]
  exact R.tup (A:=[]) (B:=[]) bV ((h1.shared (aa.refl _) sm).cons (h2.shared (aa.refl _) sm)) .nil
 stop:=λi H' hs hi=>by
  rw[FI]at hi
  have l1:=r.length
  have l2:=t.length
  exact⟨ws,us,.inl (fi hp hs),.inl (fi hq hs),by omega⟩
theorem Qg(hp:Rd F p (.lst ws))(r:R F H xs ws [])(hF:Full F H):JD (E2 K p) F (fW xs) where
 go:=λi H' hs hi=>by
  rw[p5]at hi
  have l1:=r.length
  exact⟨ws,_,.inl (fi hp hs),bu (show i<ws.length by omega)⟩
 g7:=λi H' v H2 hs hi zz=>by
  obtain⟨T,x,e1,e2,e3,hx⟩:=zz
  subst e1 e3
  have gJ:=hi
  rw[p5]at gJ
  have h1:=AV (r.full hF hs rfl) gJ (hx ws (.inl (fi hp hs)))
  have sm:=aa.upd (o:=.tup [.int i,x]) e2
  refine⟨_,bu hi,sm,?_⟩
  have eg:(fW xs)[i]=.tup [.int i,xs[i]]:=by simp[fW]
  rw[eg]
  exact R.tup (A:=[]) (B:=[]) bV (.int (h1.shared (aa.refl _) sm)) .nil
 stop:=λi H' hs hi=>by
  rw[p5]at hi
  have l1:=r.length
  exact⟨ws,.inl (fi hp hs),by omega⟩
end
section
variable{X:Cx}{a b:Expr}{ta:bX}{p pos kU:Pos}{elts:List Expr}{x1:Nat}
noncomputable def t8(t:bX):gF:=λδ Q=>t δ λds ag=>match ds with
 | [d1,d2]=>∃xs ys,iN d1=some xs/\iN d2=some ys/\Q (d1.pl&&d2.pl) (gI xs ys) ag
 | _=>False
theorem Qh(hg:Gl X "zip")(hm:X.mg "zip"=none)(ha:PA X [a,b] (lA ta))(hs:starEach [a,b] X.env=[(false,eval a X.env),(false,eval b X.env)]:=by rfl)(cK:starEach [b] X.env=[(false,eval b X.env)]:=by rfl) :
  PI X (.Tuple elts x1 kU) (.Call (.Name "zip" p) [a,b] [] pos) (lI (t8 ta)) :=
 nD (cz7 hg hm ha hs cK) λσ H Q ⟨B,F,δ,ts,Qd,c,q,k⟩=>⟨B,F,δ,ts,_,c,q,λds ai vs F1 H1 hd f1 h1 c1 s=>by
  match ds,hd,s with
  | [d1,d2],⟨xs,ys,i1,i2,hq⟩,s =>
   obtain⟨v1,ck,rfl,s1,s2⟩:=s.cH
   obtain⟨v2,ee6,rfl,s2,s3⟩:=s2.cH
   cases s3
   have e2:=c1.ext
   have sn:=nv e2
   obtain⟨p1,w1,rfl,r1,t1,u1⟩:=AU s1 e2 i1
   obtain⟨p2,w2,rfl,r2,t2,u2⟩:=AU s2 e2 i2
   refine⟨p1,p2,rfl,⟨w1,.inl r1⟩,⟨w2,.inl r2⟩,k _ _ ai _ _ H1 hq (f1.trans sn) h1 c1.snap ?_ λz=>?_⟩
   ·rw[Qc]
    exact Qe r1 t1 r2 t2 (Full.refl _)
   ·rw[dh]at z
    obtain⟨a1,a2,a3⟩:=u1 z.1
    obtain⟨b1,b2,b3⟩:=u2 z.2
    exact⟨cc1 a1 b1,Qe (fi a2 sn) (a3.shared sn (aa.refl _)) (fi b2 sn) (b3.shared sn (aa.refl _)) oY⟩⟩
noncomputable def t9(t:bX):gF:=λδ Q=>t δ λds ag=>match ds with
 | [d1]=>∃xs,iN d1=some xs/\Q d1.pl (fW xs) ag
 | _=>False
theorem FJ(hg:Gl X "enumerate")(hm:X.mg "enumerate"=none)(ha:PA X [a] (lA ta))(hs:starEach [a] X.env=[(false,eval a X.env)]:=by rfl) :
  PI X (.Tuple elts x1 kU) (.Call (.Name "enumerate" p) [a] [] pos) (lI (t9 ta)) :=
 nD (ck1 hg hm ha hs) λσ H Q ⟨B,F,δ,ts,Qd,c,q,k⟩=>⟨B,F,δ,ts,_,c,q,λds ai vs F1 H1 hd f1 h1 c1 s=>by
  match ds,hd,s with
  | [d1],⟨xs,i1,hq⟩,s =>
   obtain⟨v1,ck,rfl,s1,s2⟩:=s.cH
   cases s2
   have e2:=c1.ext
   have sn:=nv e2
   obtain⟨p1,w1,rfl,r1,t1,u1⟩:=AU s1 e2 i1
   refine⟨p1,rfl,⟨w1,.inl r1⟩,k _ _ ai _ _ H1 hq (f1.trans sn) h1 c1.snap ?_ λz=>?_⟩
   ·rw[b66]
    exact Qg r1 t1 (Full.refl _)
   ·obtain⟨a1,a2,a3⟩:=u1 z
    exact⟨bW8 a1,Qg (fi a2 sn) (a3.shared sn (aa.refl _)) oY⟩⟩
end
end L3
namespace L3
open PySem L2 PySem.Spec PyProof.Rows
section
variable{X:Cx}{F H:Hp}{e b:Expr}{pos p p2 p3 pr apos bB AJ:Pos}{t ti te:aD}{x y:Str}{i j:Nat}
theorem cH8{B:Bs}{σ:L2.St}{δ:Dl}{ts:List (D × V)}{l1 l2 ys:List D}{p0:Addr}{ws:List V}(c:aj B F H σ δ ts)(e1:δ[i]?=some (some (.lst true (l1++.lst true ys::l2))))(g1:σ[i]?=some (some (.ref p0)))(g2:H p0=some (.lst ws)) :
  ∃q us,ws[l1.length]?=some (.ref q)/\H q=some (.lst us)/\ys.length=us.length/\S F H [.lst true ys] [.ref q]:=by
 obtain⟨v,ev,sv⟩:=c.look e1
 rw[g1]at ev;cases ev
 cases sv with
 | own hh sx _ =>
  rw[g2]at hh;cases hh
  obtain⟨v2,e2,s3⟩:=sx.get (i:=l1.length) (d:=D.lst true ys) (by rw[vT (aY _),rj];rfl)
  have s4:=s3
  cases s3 with
  | own h3 s5 _=>exact⟨_,_,e2,h3,s5.length,s4⟩
end
section
variable{X:Cx}{CX:dP}{k:Nat}{f:Addr}{fd:FuncData}{ps:List Str}{sp:bx}{E:XK}{fn x1 x2 y1 y2:Str}{i1 i2 j1 j2:Nat}{tk:Nat}
 {tp t1 t2 zp ee8 q1 q2 fp ee9 a1 a2 FK ef0 ef1 cp AJ pr apos bB ef2 pos:Pos}
end
end L3
namespace L3
open PySem L2 PySem.Spec PyProof.Rows
theorem aj.cT2{B:Bs}{F H:Hp}{σ:L2.St}{δ:Dl}{ts:List (D × V)}{a b:D}{v:V}(c:aj B F H σ δ ((.tup [a,b],v)::ts)):∃p u w,v=.ref p/\H p=some (.tup [u,w])/\aj B F H σ δ ((a,u)::(b,w)::ts):=by
 obtain⟨A,C,r,s,nd,fr⟩:=c.own
 cases r with
 | @tup p ws xs A1 _ _ B1 hp r1 r2 =>
  obtain⟨u,dZ,A2,A3,rfl,rfl,h1,h2⟩:=r1.cH
  obtain⟨w,ef3,A4,A5,rfl,rfl,h3,h4⟩:=h2.cH
  cases h4
  refine⟨p,u,w,rfl,hp,c.ext,c.b1,c.b2,c.b3,A2++(A4++B1),C,h1.cons (h3.cons r2),s,?_,?_⟩
  ·simpa using nd
  ·intro a ha;exact fr a (by simpa using ha)
section
variable{X:Cx}{y1 y2:Str}{i1 i2 tk m:Nat}{t1 t2 tp:Pos}
noncomputable def je(i1 i2:Nat):fS:=λd δ Q=>match d with
 | .tup [a,b]=>Q ((δ.set i1 (some a)).set i2 (some b))
 | _=>False
theorem xV(hc:X.calm=true)(Qi:X.N.Nodup)(m1:X.N[i1]?=some y1)(l1:Loc X.env.scope y1)(m2:X.N[i2]?=some y2)(l2:Loc X.env.scope y2)(hm1:m<=i1:=by decide)(fe:m<=i2:=by decide)
  (f1:X.fn y1=true\/X.env.scope.names.lookup y1=some .local:=by first | exact .inl rfl | exact .inr rfl | assumption) (f2:X.fn y2=true\/X.env.scope.names.lookup y2=some .local:=by first | exact .inl rfl | exact .inr rfl | assumption)
  (hag:(assignEach [.Name y1 t1,.Name y2 t2] X.env).map (·.2)=assign (.Name y1 t1) X.env::(assignEach [.Name y2 t2] X.env).map (·.2):=by rfl) (cT4:(assignEach [.Name y2 t2] X.env).map (·.2)=assign (.Name y2 t2) X.env::(assignEach [] X.env).map (·.2):=by rfl)
  (hn:(assignEach [.Name y1 t1,.Name y2 t2] X.env).length=2:=by rfl) (bW:(assignEach [.Name y1 t1,.Name y2 t2] X.env).findIdx? (·.1)=none:=by rfl) :
  PG X (.Tuple [.Name y1 t1,.Name y2 t2] tk tp) (lG m (je i1 i2)) :=
 O9 (WS hc (Nr (z4 Qi m1 l1 f1) (Nr (z4 Qi m2 l2 f2) WQ cT4) hag) hn bW) λv σ H Q zz=>by
  obtain⟨B,F,δ,ts,d,Qd,c,q,k⟩:=zz
  obtain⟨a,b,rfl,q⟩:∃a b,d=D.tup [a,b]/\Qd ((δ.set i1 (some a)).set i2 (some b)):=by
   unfold je at q
   split at q
   ·exact⟨_,_,rfl,q⟩
   ·exact q.elim
  obtain⟨p,u,w,rfl,hp,c2⟩:=c.cT2
  refine⟨p,[u,w],rfl,eZ.of hp,rfl,u,[w],rfl,w,[],rfl,rfl,k _ _ q (by simp) (λj hj=>?_) ((c2.store i1).store i2)⟩
  rw[nZ (by omega),nZ (by omega)]
end
open Classical in
theorem p7{α:Type}{sh:Bool}{xs:List D}{ax:List (Str × Nat)}{n m:Nat}{te:aD}{ai:Dl}{Q:D->Dl->Prop}(l:List α)(e g:α->D)(ik:xs.map D.sh=l.map e)(inj:∀a b,e a=e b->a=b)
  (hx:∀a∈l,te ((fc ax n ai).set m (some (e a))) λd _=>d=g a) (di:(sh&&ax.all (ig ai))=true\/∀a∈l,(g a).fr=true) (hl:l.length<=sizeLine) (hq:Q (.lst true (l.map g)) ai):pF sh xs ax n (gN m) jy te ai Q:=by
 let f:D->D:=λx=>if h:∃a∈l,e a=x then g h.choose else .ao
 have hf:∀a∈l,f (e a)=g a:=λa ha=>by
  have h:∃b∈l,e b=e a:=⟨a,ha,rfl⟩
  show(if h:∃b∈l,e b=e a then g h.choose else .ao)=g a
  rw[dif_pos h]
  exact congrArg g (inj _ _ h.choose_spec.2)
 refine b60 f (λx h=>?_) (di.imp id λh x hx=>?_) ?_ ?_
 ·rw[ik]at h
  obtain⟨a,ha,rfl⟩:=dn.mp h
  rw[hf a ha];exact hx a ha
 ·rw[ik]at hx
  obtain⟨a,ha,rfl⟩:=dn.mp hx
  rw[hf a ha];exact h a ha
 ·have:=congrArg Dh ik
  simp at this
  omega
 ·rw[ik,gk,show l.map (f ∘ e)=l.map g from vY λa ha=>hf a ha]
  exact hq
end L3
namespace L3
open PySem L2 PySem.Spec PyProof.Rows
end L3
namespace L2
open PySem PySem.Spec PyProof.Rows
section
variable{X:Cx}
end
end L2
namespace L3
open PySem L2 PySem.Spec PyProof.Rows
noncomputable abbrev tx(l:List Nat):D:=.str ⟨l.toArray⟩
section
variable{X:Cx}{F H:Hp}{e:Expr}{es:List Expr}{t:aD}{pos p p2 apos bB:Pos}
noncomputable def p8(x:D)(lo hi:Option Int)(Q:D->Prop):Prop:=match x with
 | .lst _ xs=>xs.all D.pl=true/\Q (.lst true (dS xs lo hi))
 | .fz xs=>Q (.lst true (dS xs lo hi))
 | .str z=>z.length<=sizeLine/\Q (tx (dS z.cps.toList lo hi))
 | _=>False
noncomputable def ua(t:aD)(tl th:tG):aD:=λδ Q=>t δ λx ai=>tl ai λl aI=>th aI λu gD=>p8 x l u λd=>Q d gD
theorem ub{lo hi:Option Expr}{tl th:tG}(he:PE X e (lB t))(hl:PO X lo (lP tl))(hu:PO X hi (lP th)):PE X (.Subscript e (.Slice lo hi none p2) pos) (lE (ua t tl th)) :=
 cJ (Yk (Yw.or cv3) he hl hu) λσ H Q ⟨B,F,δ,ts,Qd,c,q,k⟩=>⟨B,F,δ,ts,_,c,q,λx ai v F1 H1 q1 f1 h1 c1 s1=>⟨B,F1,ai,ts,_,c1,q1,λl aI F2 H2 q2 f2 h2 c2=>⟨B,F2,aI,ts,_,c2,q2,λu gD F3 H3 q3 f3 h3 c3=>by
  have mi:=s1.mono (f2.trans f3) (h2.trans h3)
  unfold p8 at q3
  split at q3
  ·obtain⟨p,ws,rfl,h,t⟩:=jA mi c3.ext rfl
   exact .inl ⟨p,ws,rfl,iR h,λr hr=>k _ gD _ F3 _ q3.2 ((f1.trans f2).trans f3) (((h1.trans h2).trans h3).trans (aa.upd hr)) (c3.jw hr (t.cut _ _) (PH q3.1 _ _))⟩
  ·obtain⟨p,ws,rfl,h,t⟩:=jA mi c3.ext rfl
   cases mi with
   | fz h' r _=>exact .inl ⟨_,_,rfl,iR (.inr ⟨_,c3.ext _ _ h'⟩),λr' hr=>k _ gD _ F3 _ q3 ((f1.trans f2).trans f3) (((h1.trans h2).trans h3).trans (aa.upd hr)) (c3.jw hr (r.s.cut _ _) (PH r.pl _ _))⟩
  ·cases mi with
   | str _=>exact .inr ⟨_,rfl,q3.1,k _ gD _ F3 H3 q3.2 ((f1.trans f2).trans f3) ((h1.trans h2).trans h3) (c3.pushS (.str .nil) rfl)⟩
  ·exact q3.elim⟩⟩⟩
noncomputable def O3:cF:=λx y Q=>match x,y with
 | .str z,.str w=>∃ch,z=⟨#[ch]⟩/\Q (.bl (decide (ch∈w.cps.toList)))
 | _,_=>False
end
theorem xW(a:List Nat):(⟨a.toArray⟩:Str).length=a.length:=by show a.toArray.size=_;simp
end L3
namespace L3
open PySem L2 PySem.Spec PyProof.Rows
noncomputable def au(l:List Nat):List D:=nums (l.map λ(n:Nat)=>(n:Int))
theorem dw(l:List Nat):(au l).length=l.length:=by unfold au;rw[km,cQ]
theorem ff(l:List Nat):au l=l.map λ(n:Nat)=>D.int (n:Int):=by unfold au nums;rw[gk];rfl
theorem Qj(l:List Nat):(au l).map D.sh=l.map λ(n:Nat)=>D.int (n:Int):=by unfold au;rw[iT];exact ff l
theorem ud(a b:Nat)(h:D.int (a:Int)=D.int (b:Int)):a=b:=by injection h with h;omega
theorem kr(l:List Nat):(au l).all D.pl=true:=pW _
theorem ue(l:List Nat):(au l).map D.sh=au l:=iT _
theorem ku(a b:List Nat):au a++au b=au (a++b):=by unfold au;rw[pY,oi]
theorem uf(l:List Nat)(lo hi:Option Int):dS (au l) lo hi=au (dS l lo hi):=by
 unfold au
 rw[tR]
 congr 1
 unfold dS
 rw[cQ,List.map_take,List.map_drop]
theorem FL{α:Type}(xs:List α)(b:Nat):dS xs none (some (b:Int))=xs.take b:=by
 have:=PN xs 0 b
 unfold dS at this ⊢
 simpa[HT.cw]using this
theorem bW5{α:Type}(xs:List α)(a:Nat):dS xs (some (a:Int)) none=xs.drop a:=by
 unfold dS
 rw[HT.Eo]
 show(xs.drop (min a xs.length)).take (xs.length-min a xs.length)=_
 by_cases h:a<=xs.length
 ·rw[vX h,VN (by rw[jQ];exact aY _)]
 ·rw[Nat.min_eq_right (by omega),DG,MT (by omega)];simp
noncomputable def vl(c:List Nat):Nat:=c.foldl (λa c=>2*a+(c-48)) 0
end L3
namespace L2
open PySem PySem.Spec PyProof.Rows
section
variable{X:Cx}{tg l o e:Expr}{tl to te:TE}{apos bB:Pos}
end
end L2
namespace L3
open PySem L2 PySem.Spec PyProof.Rows
section
variable{X:Cx}{F H:Hp}{tg l e:Expr}{te t tb:aD}{apos bB pos:Pos}
variable{o:Expr}
noncomputable def FC:cF:=λx y Q=>match x,y with
 | .int i,.lst _ xs=>∃ns:List Int,xs=nums ns/\Q (.bl (decide (i∈ns)))
 | _,_=>False
theorem AW:∀{ns:List Int} {ws:List V},S F H (nums ns) ws->ws=ns.map V.int
 | [],_,s=>by cases s;rfl
 | n::ns,_,s=>by
  cases s with
  | int s=>rw[AW s];rfl
end
end L3
namespace L3
open PySem L2 PySem.Spec PyProof.Rows
end L3
namespace L2
open PySem PySem.Spec PyProof.Rows
noncomputable def Tb(ts:List Addr)(H:Hp):Prop:=∀P∈ts,∃ps,H P=some (.cR ps)
structure ug(ts:List Addr)(H:Hp):Prop where
 any:∀b,H b=none\/(∃o xs,H b=some (.bO o (.lst xs)))\/(b∈ts/\H b=some (.cR #[]))
 tab:∀P∈ts,H P=some (.cR #[])
theorem ug.tb{ts:List Addr}{H:Hp}(h:ug ts H):Tb ts H:=λP hP=>⟨#[],h.tab P hP⟩
noncomputable def Bm(mg:Str->Option Value)(base:Heap):Prop:=∃bm o,mg "__builtins__"=some (.ref bm)/\bm≠builtinsNs/\bm≠mainGlobals/\base.get? bm=some o/\o.cls=.type "module"/\o.dict=some builtinsNs/\o.data=.plain
theorem bP5{P:Program}{w:World}{K:PySem.W.Frag}{mg mb:Str->Option Value}{CX:dP}{k:Nat}{fa a:Addr}{fd:FuncData}{x:Str}{sp:Sp}{bg:Shared}{vs:List Value}{ns:List Int}{ts:List Addr}
  (KX:K.In bg.heap) (AX:bg.heap.Ns mainGlobals mg) (hb:bg.heap.Ns builtinsNs mb) (hbb:∀x:Str,x≠"__name__"->mb x=bootBuiltins x) (cT8:bg.heap.NoLimit) (hg:bg.gens=#[])
  (ht:∀P∈ts,bg.heap.get? P=some (PySem.W.tabObj #[])) (FN:∀P∈ts,isCodeTable bg.heap P) (hkt:∀P∈ts,K.lookup P=none)
  (ha:bg.heap.get? a=some { cls:=.type "list",data:=.seq vs.toArray }) (hi:IntsAre vs ns) (hl:ns.length<=sizeLine) (hr:bH k callerA)
  (xX:Bm mg bg.heap) (F:∀base:Heap,K.In base->base.Ns mainGlobals mg->Bm mg base->aO P w K mg base CX k fa fd [x] sp) (cU0:∀(s:Shared) (u:Value),BindsTo s fd ⟨[u],[]⟩ [(x,u)])
  (hJ:∀H:Hp,ug ts H->bc K H a (ns.map V.int)->sp [.ref a] H (λv _=>v=.bl true) λ_ _ _=>False)
  (FP:∀H e s',CX [] H bg (λ_ _ _=>False) e s'->False) :
  codeAny (model P w) callerA (.call (.ref fa) ⟨[.ref a],[]⟩) (λr s'=>r=.ok (.ret (.bool true))/\OldK bg.heap s'.heap/\s'.os=bg.os/\AllBare s'.gens) bg:=by
 have rv:=N5 hi
 have cU1:=hi.length
 have nat:a ∉ ts:=λz=>by
  have:=ht a z
  rw[ha]at this
  cases this
 have core:∀H:Hp,ug ts H->bc K H a (ns.map V.int)->cn P w H bg.heap->(∀b,H b≠none->b=a\/b∈ts)->(H a≠none->K.lookup a=none) ->
   codeAny (model P w) callerA (.call (.ref fa) ⟨[.ref a],[]⟩) (λr s'=>r=.ok (.ret (.bool true))/\OldK bg.heap s'.heap/\s'.os=bg.os/\AllBare s'.gens) bg:=by
  intro H hO hS av hA hK
  have FQ:∀{b:Addr} {o:Obj},bg.heap.get? b=some o->H b=none->(jV bg.heap H).get? b=some o:=λe n=>We e n
  have wI:∀{b:Addr} {o:Obj} {es:Array DictEntry} {ep:Nat},bg.heap.get? b=some o->o.data=.dict es ep->H b=none:=λ{b o es ep} e d=>by
   cases q:H b with
   | none=>rfl
   | some u =>
    rcases hA b (by rw[q];simp)with e' | e'
    ·subst e'
     rw[ha]at e;cases e
     have d':Data.seq vs.toArray _=Data.dict es ep:=d
     cases d'
    ·rw[ht b e']at e;cases e
     have d':De #[]=Data.dict es ep:=d
     cases d'
  have AY:∀{b:Addr} {m:Str->Option Value},bg.heap.Ns b m->(jV bg.heap H).Ns b m:=λ{b m} ⟨o,es,ep,e,d,r⟩=>⟨o,es,ep,FQ e (wI e d),d,r⟩
  have Qk:K.In (jV bg.heap H):=λb o e=>FQ (KX b o e) (by
   cases q:H b with
   | none=>rfl
   | some u =>
    rcases hA b (by rw[q];simp)with e' | e'
    ·subst e'
     rw[hK (by rw[q];simp)]at e;cases e
    ·rw[hkt b e']at e;cases e)
  have hBm:Bm mg (jV bg.heap H):=by
   obtain⟨bm,o,b1,b2,b3,b4,b5,b6,b7⟩:=xX
   refine⟨bm,o,b1,b2,b3,FQ b4 ?_,b5,b6,b7⟩
   cases q:H bm with
   | none=>rfl
   | some u =>
    rcases hA bm (by rw[q];simp)with e' | e'
    ·rw[e',ha]at b4;cases b4
     have d':Data.seq vs.toArray _=Data.plain:=b7
     cases d'
    ·rw[ht bm e']at b4;cases b4
     have d':De #[]=Data.plain:=b7
     cases d'
  have hM:Mod K mg (jV bg.heap H):=⟨Qk,AY AX,⟨mb,AY hb,hbb⟩,let⟨mc,h1,h2⟩:=cT8;⟨mc,AY h1,h2⟩⟩
  have e0:fw P w K mg (jV bg.heap H) callerA [] bg H:=⟨rfl,hM,λb o e=>Wf e,MC (Wd _ _),trivial,λb hb=>absurd (show b∈([]:List Addr) from hb) (by simp),av,.of_eq hg⟩
  refine codeAny_mono ((F _ Qk (AY AX) hBm).run callerA [] bg H ⟨[.ref a],[]⟩ [.ref a] [.ref a] _ _ hr e0 (cU0 bg (.ref a)) (.cons rfl .nil) (hJ H hO hS)) λr s' h=>?_
  cases r with
  | error e=>exact(FP H e s' h).elim
  | ok fl =>
   cases fl with
   | next=>exact dB h
   | brk=>exact dB h
   | cont=>exact dB h
   | ret u =>
    obtain⟨v,H',os,bare,un,Ql,r',q⟩:=h
    have q':v=.bl true:=q
    subst q'
    obtain rfl:u=C9 true:=r'
    have each:∀b o,bg.heap.get? b=some o->asItWas bg.heap s'.heap b o/\∃o',s'.heap.get? b=some o':=λb o e=>by
     cases q:H b with
     | none =>
      have z:=un.keep b o e q (by intro z;exact absurd (show b∈([]:List Addr) from z) (by simp)) (by simp)
      exact⟨.inl z,o,z⟩
     | some u =>
      rcases hO.any b with z | ⟨ob,xs,z⟩ | ⟨iV,z⟩
      ·rw[q]at z;cases z
      ·have z2:=un.eK b ob _ z
       obtain⟨e1,_⟩:=av b _ z
       obtain⟨e2,_⟩:=Ql b _ z2
       rw[e]at e1;cases e1
       exact⟨.inl e2,_,e2⟩
      ·obtain⟨more,z2⟩:=un.dY b _ z
       have e2:=(Ql b _ z2).1
       rw[ht b iV]at e;cases e
       exact⟨.inr (.inl ⟨FN b iV,rfl,#[],more,rfl,e2⟩),_,e2⟩
    exact⟨rfl,⟨λb o e=>(each b o e).1,λb o e=>(each b o e).2⟩,os,bare⟩
 have tok:∀(H:Hp) (b:Addr),b∈ts->cM P w H bg.heap b (.cR #[]):=λH b hb=>⟨ht b hb,trivial,λpos cv q=>by cases q⟩
 cases hk:K.lookup a with
 | some o =>
  have e:=KX a o hk
  rw[ha]at e
  cases e
  refine core (λb=>if b∈ts then some (.cR #[])else none) ⟨λb=>?_,λb hb=>if_pos hb⟩ (.inr ⟨_,vs.toArray,_,hk,rfl,rfl,rfl,by rw[cY,cU1];exact hl,by simpa using rv⟩) (λb u z=>?_) (λb z=>?_) λz=>absurd (if_neg nat) z
  ·by_cases hb:b∈ts
   ·exact .inr (.inr ⟨hb,if_pos hb⟩)
   ·exact .inl (if_neg hb)
  ·by_cases hb:b∈ts
   ·have z':=(if_pos hb).symm.trans z
    cases z'
    exact tok _ b hb
   ·have z':=(if_neg hb).symm.trans z
    cases z'
  ·by_cases hb:b∈ts
   ·exact .inr hb
   ·exact absurd (if_neg hb) z
 | none =>
  refine core (λb=>if b=a then some (.bO { cls:=.type "list",data:=.seq vs.toArray } (.lst (ns.map V.int)))else if b∈ts then some (.cR #[])else none) ⟨λb=>?_,λb hb=>?_⟩ (.inl (.inr ⟨{ cls:=.type "list",data:=.seq vs.toArray },if_pos rfl⟩)) (λb u z=>?_) (λb z=>?_) λ_=>hk
  ·by_cases hb:b=a
   ·exact .inr (.inl ⟨_,_,if_pos hb⟩)
   ·by_cases iV:b∈ts
    ·exact .inr (.inr ⟨iV,(if_neg hb).trans (if_pos iV)⟩)
    ·exact .inl ((if_neg hb).trans (if_neg iV))
  ·have lN:b≠a:=λz=>nat (z ▸ hb)
   exact(if_neg lN).trans (if_pos hb)
  ·by_cases hb:b=a
   ·have z':=(if_pos hb).symm.trans z
    cases z'
    subst hb
    exact⟨ha,by rw[cQ];exact hl,vs,_,rv,ha⟩
   ·by_cases iV:b∈ts
    ·have z':=((if_neg hb).trans (if_pos iV)).symm.trans z
     cases z'
     exact tok _ b iV
    ·have z':=((if_neg hb).trans (if_neg iV)).symm.trans z
     cases z'
  ·by_cases hb:b=a
   ·exact .inl hb
   ·by_cases iV:b∈ts
    ·exact .inr iV
    ·exact absurd ((if_neg hb).trans (if_neg iV)) z
theorem cU3{l:PySem.W.OpenLaw}{n k:Nat}{q:Program}{loose:List Str}{XP:(Str->Option Value)->Heap->Prop}{YP:World->Heap->Prop}{d:DefRec}{K:Params->PySem.W.Frag}{CX:World->dP}{sp:World->Sp}{x:Str}{ts:List Addr}
  (hn:l.most=some n) (rF:n<=sizeLine) (wM:d.params.defaults=[]) (hr:bH k callerA)
  (hY:∀(w:World) (h:Heap),YP w h->(K w.params).In h/\∀P∈ts,h.get? P=some (PySem.W.tabObj #[]))
  (hC:∀(w:World) (h:Heap),(K w.params).In h->∀P∈ts,(K w.params).lookup P=none/\∃c,PySem.W.CodeHd h c P)
  (F:∀(w:World) (mg:Str->Option Value) (fa:Addr) (h:Heap),(K w.params).In h->h.Ns mainGlobals mg->mg d.name=some (.ref fa) ->
   ∃fd:FuncData,(∀(s:Shared) (u:Value),BindsTo s fd ⟨[u],[]⟩ [(x,u)]) /\
    ∀base:Heap,(K w.params).In base->base.Ns mainGlobals mg->Bm mg base->aO l.prog w (K w.params) mg base (CX w) k fa fd [x] (sp w))
  (hJ:∀(w:World) (H:Hp) (a:Addr) (ns:List Int),ns.length<=n->ug ts H->bc (K w.params) H a (ns.map V.int)->sp w [.ref a] H (λv _=>v=.bl true) λ_ _ _=>False)
  (FP:∀(w:World) (H:Hp) (s:Shared) (e:Value) (s':Shared),CX w [] H s (λ_ _ _=>False) e s'->False) :
  PySem.W.WalkO q loose XP YP l.row.toRowW d [] (λf vs=>PySem.call f vs):=by
 refine Att.YV hn wM λw bZ bg mg mb fa o pm cd doc a vs ns G Y ho hd cC wN Ey hints hlen hg=>?_
 obtain⟨KX,hT⟩:=hY w _ Y
 obtain⟨fd,hb,hF⟩:=F w mg fa _ KX G.T.g wN
 have FN:∀P∈ts,isCodeTable bg.heap P:=λP hP=>by
  obtain⟨_,c,C⟩:=hC w _ KX P hP
  exact(C.tab (hT P hP)).isCodeTable
 have xX:Bm mg bg.heap:=by
  obtain⟨bm,ob,b1,b2,b3,b4,b5,b6⟩:=G.T.bmain
  refine⟨bm,ob,b1,b2,λq=>?_,b3,b4,b5,b6⟩
  obtain⟨o,es,ep,e,hd,_⟩:=G.T.g
  rw[q,e]at b3;cases b3;rw[hd]at b6;cases b6
 exact bP5 KX G.T.g G.T.b G.T.builtins G.T.nolimit hg hT FN (λP hP=>(hC w _ KX P hP).1) Ey hints (eu hlen rF) hr xX hF hb (λH hO hS=>hJ w H a ns hlen hO hS) λH e s'=>FP w H bg e s'
end L2
namespace L3
open PySem L2 PySem.Spec PyProof.Rows
noncomputable def xY(ts:List Addr)(sp:Sp):Sp:=λvs H Q E=>Tb ts H/\sp vs H Q E
theorem Qm{X:Cx}{pins:List (Addr × Obj)}{σ:L2.St}{H:Hp}{s:Shared}{ts:List Addr}(I:Inv X pins σ H s)(h:Tb ts X.jm):Tb ts H:=λP hP=>by
 obtain⟨ps,e⟩:=h P hP
 obtain⟨m,e2⟩:=I.base.dY P ps e
 exact⟨_,e2⟩
noncomputable def AZ(ts:List Addr)(K:PySem.W.Frag):Sp:=λvs H Q _=>∃(a:Addr) (ns:List Int),vs=[.ref a]/\ug ts H/\bc K H a (ns.map V.int)/\ns.length<=63/\∀H',Q (.bl true) H'
theorem bV1{ts:List Addr}{K:PySem.W.Frag}(nl:K.all (λp=>Fv p.2)=true){vs:List V}{H:Hp}{Q:VK}{E:XK}(h:AZ ts K vs H Q E):xY ts (bC PL) vs H Q E:=by
 obtain⟨a,ns,rfl,hO,hS,hl,q⟩:=h
 have hz:∃o,H a=some (.bO o (.lst (ns.map V.int))):=by
  rcases hS with (hS | hS) | ⟨o,its,n,hk,hc,_⟩
  ·rcases hO.any a with z | ⟨o,xs,z⟩ | ⟨_,z⟩
   ·rw[hS]at z;cases z
   ·rw[hS]at z;cases z
   ·rw[hS]at z;cases z
  ·exact hS
  ·have hm:=bu3 hk
   have:=dM.mp nl _ hm
   simp[Fv,hc]at this
 obtain⟨o,ho⟩:=hz
 refine⟨hO.tb,H,[.fz (nums ns)],λd=>d=.bl true,aa.refl _,.fz ho (jB ns) .nil,⟨ns,rfl,hl,rfl⟩,λd v F' H' A hd hs hf he h3 r nd fr=>?_⟩
 subst hd
 cases r
 exact q H'
end L3
namespace L2
open PySem PySem.Spec PyProof.Rows
noncomputable def rem(H:Hp)(f c:Addr):Hp:=λb=>if b=f\/b=c then none else H b
noncomputable def mm(H H':Hp)(f c:Addr):Hp:=λb=>if b=f\/b=c then H b else H' b
section
variable{P:Program}{w:World}{H H':Hp}{h:Heap}{a b f c:Addr}{o:HO}{of oc:Obj}
theorem Qn:rem H f c f=none:=if_pos (.inl rfl)
theorem A6:rem H f c c=none:=if_pos (.inr rfl)
theorem fX(h1:b≠f)(h2:b≠c):rem H f c b=H b:=if_neg (by simp[h1,h2])
theorem uh(e:H b=none):rem H f c b=none:=by unfold rem;split;rfl;exact e
theorem Qo(e:rem H f c b=some o):b≠f/\b≠c/\H b=some o:=by
 unfold rem at e
 split at e
 ·cases e
 ·rename_i n
  exact⟨λz=>n (.inl z),λz=>n (.inr z),e⟩
theorem nF(h1:b≠f)(h2:b≠c):mm H H' f c b=H' b:=if_neg (by simp[h1,h2])
theorem Qp:mm H H' f c f=H f:=if_pos (.inl rfl)
theorem FR:mm H H' f c c=H c:=if_pos (.inr rfl)
theorem cM.rem{φ:Heap->Prop}(x:cM P w H h a o)(ha:a≠f)(hf:H f=some (.ext φ))(hc:H c=some (.own f)\/H c=none)(FT:¬ ∀h',φ h'->∃q,h'.CodeRec (.ref f) q):cM P w (rem H f c) h a o:=by
 have own:∀b,H b=some (.own a)->L2.rem H f c b=some (.own a):=λb e=>by
  rw[fX (λz=>by subst z;rw[hf]at e;cases e) (λz=>by subst z;rcases hc with hc | hc<;>(rw[hc]at e;cases e);exact ha rfl)];exact e
 have tup:∀b xs,H b=some (.tup xs)->L2.rem H f c b=some (.tup xs):=λb xs e=>by
  rw[fX (λz=>by subst z;rw[hf]at e;cases e) (λz=>by subst z;rcases hc with hc | hc<;>(rw[hc]at e;cases e))];exact e
 induction o with
 | lst xs=>exact x
 | tup xs=>exact x
 | dK cT=>exact x
 | dT cT =>
  obtain⟨z,y,xs,r,ob⟩:=x
  exact⟨z,y,xs,Paired.DU r λp q z=>⟨z.1,tup _ _ z.2.1,z.2.2⟩,ob⟩
 | set S n=>exact x
 | ins C dx fs =>
  obtain⟨d,r⟩:=x
  exact⟨own _ d,r⟩
 | own y=>exact x
 | xd fs=>exact x
 | wk lo hi=>exact x
 | bO ob u ih=>obtain⟨e,q⟩:=x;exact⟨e,ih q⟩
 | cR ps =>
  obtain⟨e,t,cc⟩:=x
  refine⟨e,t,λpos cv q=>?_⟩
  obtain⟨d,φ,e1,e2,e3⟩:=cc pos cv q
  refine⟨d,φ,e1,?_,e3⟩
  rw[fX (λz=>?_) (λz=>by subst z;rcases hc with hc | hc<;>(rw[hc]at e2;cases e2))]
  ·exact e2
  ·subst z
   rw[hf]at e2;cases e2
   exact FT e3
 | met f y=>exact x
 | ext φ=>obtain⟨p,r,st⟩:=x;exact⟨p,r,λh1 h2 p1 kk=>st h1 h2 p1 λb o hb q=>kk b o (hb.imp id (own b)) q⟩
theorem Qq{φ:Heap->Prop}{fd:FuncData}(p:φ h)(g:∀h',φ h'->h'.get? f=some of)(hd:of.data=.func fd):¬ ∀h',φ h'->∃q,h'.CodeRec (.ref f) q:=λz=>by
 obtain⟨q,k,ok,vs,t,q1,q2,q3,_⟩:=z h p
 cases q1
 rw[g h p]at q2;cases q2
 rw[hd]at q3;cases q3
theorem cn.lam(ok:cn P w H h)(hf:H f=some (.ext (L3.iJ of oc c f))):L3.iJ of oc c f h:=(ok f _ hf).1
theorem cn.rem{fd:FuncData}(ok:cn P w H h)(hf:H f=some (.ext (L3.iJ of oc c f)))(hc:H c=some (.own f))(hd:of.data=.func fd):cn P w (rem H f c) h:=λb o e =>
 let⟨h1,_,h3⟩:=Qo e;(ok b o h3).rem h1 hf (.inl hc) (Qq (ok.lam hf) (λ_ p=>p.1) hd)
end
theorem fw.rem{P:Program}{w:World}{K:PySem.W.Frag}{mg:Str->Option Value}{base:Heap}{A:Around}{outer:List Env}{s:Shared}{H:Hp}{f c:Addr}{of oc:Obj}{fd:FuncData}(e:fw P w K mg base A outer s H)
  (hf:H f=some (.ext (L3.iJ of oc c f))) (hc:H c=some (.own f)) (hd:of.data=.func fd):fw P w K mg base A outer s (rem H f c) :=
 ⟨e.frames,e.mod,λb o q=>⟨(e.bs b o q).1,uh (e.bs b o q).2⟩,e.fJ,e.eM,λb hb=>uh (e.gn b hb),e.av.rem hf hc hd,e.bare⟩
theorem CE.add{P:Program}{w:World}{K:PySem.W.Frag}{mg:Str->Option Value}{base:Heap}{A:Around}{outer:List Env}{s s':Shared}{H:Hp}{f c:Addr}{of oc:Obj}{Q Q':VK}{u:Value}(e0:fw P w K mg base A outer s H)
  (hf:H f=some (.ext (L3.iJ of oc c f))) (hc:H c=some (.own f)) (h:CE outer P w (rem H f c) s Q u s') (hQ:∀v H',Q v H'->H' f=none->H' c=none->Q' v (mm H H' f c)):CE outer P w H s Q' u s':=by
 obtain⟨v,H',os,bare,un,av,r,q⟩:=h
 obtain⟨gf,gc⟩:=e0.av.lam hf
 have Qr:∀{b o},H b=some o->b ∉ cU outer:=λ{b o} e z=>by rw[e0.gn b z]at e;cases e
 have nf:H' f=none:=un.free f _ gf Qn (by simp)
 have nc:H' c=none:=un.free c _ gc A6 (by simp)
 have kf:=un.keep f _ gf Qn (Qr hf) (by simp)
 have kc:=un.keep c _ gc A6 (Qr hc) (by simp)
 refine⟨v,mm H H' f c,os,bare,⟨λb o e n=>un.keep b o e (uh n),λb o e n=>un.slot b o e (uh n),λb o e n x=>?_,un.there,λb xs e=>?_,λb ob xs e=>?_,λb ps e=>?_⟩,λb o e=>?_,r,hQ v H' q nf nc⟩
 ·rw[nF (λz=>by subst z;rw[hf]at n;cases n) (λz=>by subst z;rw[hc]at n;cases n)]
  exact un.free b o e (uh n) x
 ·have n1:b≠f:=λz=>by subst z;rw[hf]at e;cases e
  have n2:b≠c:=λz=>by subst z;rw[hc]at e;cases e
  rw[nF n1 n2]
  exact un.eY b xs (by rw[fX n1 n2];exact e)
 ·have n1:b≠f:=λz=>by subst z;rw[hf]at e;cases e
  have n2:b≠c:=λz=>by subst z;rw[hc]at e;cases e
  rw[nF n1 n2]
  exact un.eK b ob xs (by rw[fX n1 n2];exact e)
 ·have n1:b≠f:=λz=>by subst z;rw[hf]at e;cases e
  have n2:b≠c:=λz=>by subst z;rw[hc]at e;cases e
  rw[nF n1 n2]
  exact un.dY b ps (by rw[fX n1 n2];exact e)
 ·by_cases z:b=f
  ·subst z
   rw[Qp,hf]at e;cases e
   refine⟨⟨kf,kc⟩,⟨_,kf⟩,λh1 h2 p kk=>⟨kk b _ (.inl rfl) p.1,kk c _ (.inr ?_) p.2⟩⟩
   rw[FR];exact hc
  ·by_cases z2:b=c
   ·subst z2
    rw[FR,hc]at e;cases e
    exact⟨_,kc⟩
   ·rw[nF z z2]at e
    have up:∀{b' o'},H' b'=some o'->mm H H' f c b'=some o':=λ{b' o'} q=>by
     rw[nF (λz=>by subst z;rw[nf]at q;cases q) (λz=>by subst z;rw[nc]at q;cases q)];exact q
    exact(av b o e).gZ (λ_ _ _ q=>q) (λ_ q=>up q) (λ_ _ q=>up q) λ_ _ q=>up q
theorem bW7{prog:Program}{w:World}{A:Around}{R:Result->Shared->Prop}{s:Shared}{a:Addr}{args:Args}{o:Obj}{fd:FuncData}{body:Expr}{q:Str}(cU6:A.depth<recursionLimit)
  (ho:s.heap.get? a=some o)
  (wm:o.data=.func fd) (hco:fd.scope.isCoroutine=false) (cU8:fd.scope.isGenerator=false) (gx:fd.body=.expr body) (cC:s.heap.CodeRec fd.code q)
  (h:wpAny (model prog w) A.in1 (bindArgs fd args) (λbinds bg =>
   wpAny (model prog w) A.in1 (newFunctionEnv fd.scope fd.globals fd.closure binds (q++".<locals>.") (some a) fd.code none fd.builtins)
    (λenv iz=>iz.heap.NoLimit/\codeAny (model prog w) A (.expr body env) R iz) (λe s'=>R (.error e) s') bg) (λe s'=>R (.error e) s') s) :
  codeAny (model prog w) A (.call (.ref a) args) R s:=by
 refine codeAny_of_tree ?_
 show wpAny _ A.in1 (callAny (.ref a) args) _ _ s
 simp only[callAny]
 refine wpAny_bind (wpAny_load ho ?_)
 obtain⟨c,oc,vs,tq,hc,g5,EL,hq⟩:=cC
 simp only[wm,callFunction,hco,cU8,gx,hc]
 rw[hc]at h
 refine wpAny_bind (m:=field (.ref c) 1) (wpAny_field g5 EL hq (wpAny_bind (wpAny_pure ?_)))
 exact wpAny_bind (wpAny_mono h (λbinds bg A7=>wpAny_bind (wpAny_mono A7 (λenv iz Qs=>wpAny_bind (wpAny_enterFrame Qs.1 cU6
  (wpAny_pure (And.intro rfl Qs.2)))) λ_ _ h'=>h')) λ_ _ h'=>h')
structure Qt(p1 p2 x:Str)(sc:Scope):Prop where
 kind:sc.kind=.function
 co:sc.isCoroutine=false
 gen:sc.isGenerator=false
 nd:[p1,p2,x].Nodup
 l1:sc.names.lookup p1=some .local
 l2:sc.names.lookup p2=some .local
 Qu:∀y∈sc.names,y.2≠.cell
 only:∀y∈sc.names,y.2=.free->y.1=x
 lx:sc.names.lookup x=some .free
noncomputable def p9(CX:dP)(P:Program)(w:World)(K:PySem.W.Frag)(mg:Str->Option Value)(base:Heap)(N:List Str)(qual:Str)(scope:Scope)(f:Addr)(cd:Value)(cl:List (Str × Addr))(A:Around)(outer:List Env)(s:Shared)(H:Hp)(E:XK):Cx where
 prog:=P
 w:=w
 K:=K
 mg:=mg
 base:=base
 A:=A.deeper (PySem.W.envX qual scope s.heap.objs.size f cd cl)
 N:=N
 bZ:=s
 jm:=H
 env:=PySem.W.envX qual scope s.heap.objs.size f cd cl
 outer:=outer
 stack:=PySem.W.envX qual scope s.heap.objs.size f cd cl::outer
 ex:=[]
 calm:=true
 fn:=λ_=>false
 pn:=[]
 xe:=λe s'=>wpAny (model P w) (A.deeper (PySem.W.envX qual scope s.heap.objs.size f cd cl)) (leaving (PySem.W.envX qual scope s.heap.objs.size f cd cl) e) (λ_ oR=>CX outer H s E e oR) (λe' oR=>CX outer H s E e' oR) s'
theorem cg4{CX:dP}{P:Program}{w:World}{K:PySem.W.Frag}{mg:Str->Option Value}{base:Heap}{p1 p2 x qn q:Str}{params:Arguments}{body:Expr}{scope:Scope}{pm il:Value}{f c c':Addr}{k:Nat}{A:Around}{outer:List Env}{s:Shared}{H:Hp}{E:XK}
  {u1 u2 uc:Value} {v1 v2 vc:V} {Q:VK} {t:TE} {args:Args} (S:Qt p1 p2 x scope) (e0:fw P w K mg base A outer s H) (hr:bH (k+1) A)
  (hf:s.heap.get? f=some (PySem.W.kla_obj "<lambda>" qn params body scope [(x,c)] pm c' il)) (hc:s.heap.IsCell c (some uc)) (rc:RelV vc uc) (hH:H c=none) (cC:s.heap.CodeRec (.ref c') q)
  (hb:bindArgs (PySem.W.kla_fn "<lambda>" qn params body scope [(x,c)] pm (.ref c') il) args=pure [(p1,u1),(p2,u2)]) (r1:RelV v1 u1) (r2:RelV v2 u2)
  (ht:PE (p9 CX P w K mg base [p1,p2,x] q scope f (.ref c') [(x,c)] A outer s H E) body t) (h:t [some v1,some v2,some vc] H Q) :
  codeAny (model P w) A (.call (.ref f) args) (CR CX outer P w H s Q E) s:=by
 have lim:s.heap.NoLimit:=e0.mod.nolimit.keeps λb o e=>(e0.bs b o e).1
 refine bW7 hr.depth hf rfl S.co S.gen rfl cC ?_
 rw[hb]
 have cV0:∀y∈[(p1,u1),(p2,u2)],scope.names.lookup y.1=some .local:=λy hy=>by
  simp at hy
  rcases hy with rfl | rfl
  ·exact S.l1
  ·exact S.l2
 refine wpAny_pure (wpAny_newFunctionEnv S.Qu cV0 (λA7 AX Qv=>⟨lim.fresh _ Qv,?_⟩) S.kind)
 show codeAny _ _ (.expr body (PySem.W.envX q scope s.heap.objs.size f (.ref c') [(x,c)])) _ _
 have hk:∀b o,s.heap.get? b=some o->A7.get? b=some o:=λb o e=>Qv.extBut b o (cy (aS e)) (bK _ e)
 have dQ:p1≠p2/\p1≠x/\p2≠x:=by have:=S.nd;simp at this;exact⟨this.1.1,this.1.2,this.2⟩
 have look:∀y d,([(x,c)]:List (Str × Addr)).lookup y=some d->y=x/\d=c:=λy d e=>by
  rw[iu]at e
  split at e
  ·rename_i z;exact⟨beq_iff_eq.mp z,(cP e).symm⟩
  ·cases e
 have I:Inv (p9 CX P w K mg base [p1,p2,x] q scope f (.ref c') [(x,c)] A outer s H E) [] [some v1,some v2,some vc] H { s with heap:=A7,toks:=s.toks+[(p1,u1),(p2,u2)].length }:=by
  refine⟨⟨e0.mod,S.kind,rfl,rfl,aY _,λy z d h1 h2=>?_,λy hy=>?_,λy d z _=>absurd z (by simp[p9]),λ_=>hr.hd,Around.frames_deeper e0.frames,.inr ⟨rfl,rfl⟩,λb z=>absurd z (by simp[p9]),e0.bs,e0.fJ,λb _ _=>by simp[p9],λb z=>absurd z (by simp[p9]),e0.eM,e0.gn⟩,
   rfl,e0.bare,Un.kept hk,⟨_,AX,λi y v h1 h2 h3=>?_⟩,λy d h=>?_,e0.av.fresh (aY _),λy d h=>?_,λp hp=>absurd (show p∈([]:List (Addr × Obj)) from hp) (by simp),e0.av.kept hk,rfl⟩
  ·exact(look y d h1).1.trans (look z d h2).1.symm
  ·have hy:scope.names.lookup y=some .cell\/scope.names.lookup y=some .free:=hy
   rcases hy with hy | hy
   ·exact absurd rfl (S.Qu _ (PySem.mem_of_lookup hy))
   ·obtain rfl:y=x:=S.only _ (PySem.mem_of_lookup hy) rfl
    exact⟨c,by show([(y,c)]:List (Str × Addr)).lookup y=_;rw[iu,beq_self_eq_true]⟩
  ·match i,h1,h2 with
   | 0,h1,h2 =>
    cases h1;cases h2
    exact⟨u1,r1,.inl ⟨S.l1,by
     show([(p1,u1),(p2,u2)]:List (Str × Value)).reverse.lookup p1=_
     simp[iu,beq_eq_false_iff_ne.mpr dQ.1]⟩⟩
   | 1,h1,h2 =>
    cases h1;cases h2
    exact⟨u2,r2,.inl ⟨S.l2,by
     show([(p1,u1),(p2,u2)]:List (Str × Value)).reverse.lookup p2=_
     simp[iu]⟩⟩
   | 2,h1,h2 =>
    cases h1;cases h2
    exact⟨uc,rc,.inr ⟨.inr S.lx,c,by show([(x,c)]:List (Str × Addr)).lookup x=_;rw[iu,beq_self_eq_true],hc.keeps hk⟩⟩
   | n+3,h1,h2=>cases h2
  ·obtain⟨rfl,rfl⟩:=look y d h
   exact⟨_,hc.keeps hk⟩
  ·obtain⟨rfl,rfl⟩:=look y d h
   exact hH
 refine PySem.W.kla_codeExpr (wpAny_mono (ht [] _ _ H _ I h) (λu s' hs=>?_) λe s' hs=>hs)
 obtain⟨v,H',J,rv,q⟩:=hs
 exact⟨v,H',J.os,J.bare,J.base,J.av,rv,q⟩
end L2
namespace L3
open PySem L2 PySem.Spec PyProof.Rows
theorem aa.mm{H H':Hp}{f c:Addr}{o1 o2:HO}(h:aa (rem H f c) H')(h1:H f=some o1)(n1:ia o1=true)(h2:H c=some o2)(n2:ia o2=true):aa H (mm H H' f c) where
 get b o e n:=by
  by_cases z:b=f
  ·rw[z,Qp,<- z];exact e
  ·by_cases z2:b=c
   ·rw[z2,FR,<- z2];exact e
   ·rw[nF z z2];exact h.get b o (by rw[fX z z2];exact e) n
 tb b ps e:=by
  have z:b≠f:=λz=>by subst z;rw[h1]at e;cases e;cases n1
  have z2:b≠c:=λz=>by subst z;rw[h2]at e;cases e;cases n2
  rw[nF z z2]
  exact h.tb b ps (by rw[fX z z2];exact e)
noncomputable abbrev ui:=Int->Int->(Int->Prop)->Prop
structure xZ(P:Program)(w:World)(K:PySem.W.Frag)(mg:Str->Option Value)(base:Heap)(n:Nat)(of oc:Obj)(c k:Addr)(sp:ui):Prop where
 fn:∃o1 od fd sl,of=⟨o1,od,.func fd,sl⟩
 run:∀(A:Around) (outer:List Env) (s:Shared) (H:Hp) (f:Addr) (t u:Tok) (i j:Int) (Qd:Int->Prop),bH n A->fw P w K mg base A outer s H->s.heap.get? f=some of->s.heap.get? c=some oc->H c=none->(∃q,s.heap.CodeRec (.ref k) q)->sp i j Qd ->
  codeAny (model P w) A (.call (.ref f) ⟨[.int i t,.int j u],[]⟩) (CR aZ outer P w H s (λv H'=>∃r,v=.int r/\Qd r/\aa H H') (λ_ _ _=>False)) s
noncomputable def uj(L:Obj->Obj->Addr->Addr->ui->Prop)(i:Nat)(ta:bX):aD:=λδ Q=>∃of oc c k sp,δ[i]?=some (some (.aR (.lam of oc c k)))/\L of oc c k sp/\ta δ λds ag=>∃a b,ds=[.int a,.int b]/\sp a b λr=>Q (.int r) ag
theorem Qw{X:Cx}{n i:Nat}{x:Str}{p pos:Pos}{e1 e2:Expr}{ta:bX}(hN:X.N[i]?=some x)(hv:jX X.env.scope x)(hr:bH n X.A)(ha:PA X [e1,e2] (lA ta))
  (hd:(x==("__debug__":Str))=false:=by decide) (cC:(x==("__classdict__":Str))=false:=by decide) (he:starEach [e1,e2] X.env=(false,eval e1 X.env)::starEach [e2] X.env:=by rfl) (aW:(backTo pos (starEach [e2] X.env)).any (·.1)=false:=by rfl) :
  PE X (.Call (.Name x p) [e1,e2] [] pos) (lE (uj (xZ X.prog X.w X.K X.mg X.base n) i ta)):=by
 intro pins s σ H Q I zz
 obtain⟨B,F,δ,ts,Qd,c,⟨of,oc,cc,k,sp,ed,L,q⟩,kk⟩:=zz
 obtain⟨v,ev,sv⟩:=c.look ed
 obtain⟨f,rfl,lam⟩:∃f,v=.ref f/\gC H f of oc cc k:=by
  cases sv with
  | aR h _=>exact⟨_,rfl,h⟩
 refine wpAny_Call_Name_kw (aE (oE hN hv hd cC pins s σ H (λv' H'=>v'=.ref f/\H'=H) I ⟨_,ev,rfl,rfl⟩) λu s1 zz=>?_)
 obtain⟨v',H',I1,r1,e1,e2⟩:=zz
 subst e1 e2
 obtain rfl:u=.ref f:=r1
 have fnAt:∀{H1:Hp} {s2:Shared},Inv X pins σ H1 s2->gC H1 f of oc cc k->PySem.W.FnAt f s2.heap:=λ{H1 s2} J l=>by
  obtain⟨o1,od,fd,sl,e⟩:=L.fn
  exact⟨o1,od,fd,sl,by rw[<-e];exact(J.av.lam l.fn).1⟩
 refine PySem.W.callWith_F (fnAt I1 lam) (aE (ha pos pins s1 σ H' (λvs H2=>∃a b ag F',vs=[.int a,.int b]/\(sp a b λr=>Qd (.int r) ag)/\aa F F'/\aa H' H2/\aj B F' H2 σ ag ts) I1
  ⟨B,F,δ,ts,_,c,q,λds ag vs F' H2 ⟨a,b,eds,q2⟩ f1 h1 c1 s1=>?_⟩) λus s2 ⟨vs,H2,I2,r2,a,b,ag,F',evs,q2,f1,h1,c1⟩=>⟨fnAt I2 ((show nt H' f (.lam of oc cc k) from lam).mono λa o e _ t=>h1.get a o e t),?_⟩) he aW
 ·subst eds
  refine⟨a,b,ag,F',?_,q2,f1,h1,c1⟩
  cases s1 with
  | int s1=>cases s1 with
   | int s1=>cases s1;rfl
 ·subst evs
  have nG:gC H2 f of oc cc k:=(show nt H' f (.lam of oc cc k) from lam).mono λa o e _ t=>h1.get a o e t
  obtain⟨o1,od,fd,sl,eof⟩:=L.fn
  have cV3:of.data=.func fd:=by rw[eof]
  obtain⟨gf,gc⟩:=I2.av.lam nG.fn
  obtain⟨ψ,eψ,x6⟩:=nG.E5
  obtain⟨u1,u2,t1,t2,rfl⟩:∃(u1 u2:Unit) (t1 t2:Tok),us=[.int a t1,.int b t2]:=by
   cases r2 with
   | cons ra r2=>cases r2 with
    | cons rb r2 =>
     cases r2
     obtain⟨t1,rfl⟩:=ra
     obtain⟨t2,rfl⟩:=rb
     exact⟨(),(),t1,t2,rfl⟩
  refine wpAny_call (codeAny_mono (L.run X.A X.stack s2 (rem H2 f cc) f t1 t2 a b _ hr (I2.rG.rem nG.fn nG.cell cV3) gf gc A6 (x6 _ (I2.av k _ eψ).1) q2) λr s' hq=>?_)
  cases r with
  | error e=>exact hq.elim
  | ok fl =>
   cases fl with
   | ret u =>
    refine I2.after (CE.add I2.rG nG.fn nG.cell hq (Q':=Q) ?_)
    rintro v H3 ⟨r,rfl,hqd,hs⟩ nf nc
    have sm:=hs.mm nG.fn rfl nG.cell rfl
    exact kk _ ag _ F' _ hqd f1 (h1.trans sm) ((c1.grow sm).pushS (.int .nil) rfl)
   | next=>exact dB hq
   | brk=>exact dB hq
   | cont=>exact dB hq
end L3
namespace L2
open PySem PySem.Spec PyProof.Rows
theorem bt4{p:Pos}{c:Value}(l:List Value)(h:TriplesOk l):TriplesOk (l++[rawInt p.line,rawInt p.col,c]):=by
 fun_induction TriplesOk l with
 | case1=>simp[TriplesOk,rawInt]
 | case2 a b d e f rest ih=>exact ih h
 | case3=>exact h.elim
theorem bF2{p q:Pos}{c cv:Value}(l:List Value)(h:TriplesOk l)(e:codeAmong q (l++[rawInt p.line,rawInt p.col,c])=some cv):codeAmong q l=some cv\/cv=c:=by
 fun_induction TriplesOk l with
 | case1 =>
  simp only[q9,rawInt,codeAmong]at e
  split at e
  ·exact .inr (cP e).symm
  ·cases e
 | case2 a b d e' f rest ih =>
  simp only[vZ,codeAmong]at e ⊢
  split at e
  ·rename_i z;rw[if_pos z];exact .inl e
  ·rename_i z;rw[if_neg z];exact ih h e
 | case3=>exact h.elim
noncomputable def mq(f:Addr)(o:Obj):Heap->Prop:=λh=>h.get? f=some o
noncomputable def cI3(P c:Addr)(x:Str)(params:Arguments)(body:Expr)(scope:Scope):TE:=λ_ H Q=>(∃ps,H P=some (.cR ps)) /\
 ∀f k qn pm il H',H f=none->H' f=some (.ext (mq f (PySem.W.kla_obj "<lambda>" qn params body scope [(x,c)] pm k il)))->L3.E4 H' k->k≠f->L3.aa H H'->(∀a ws,H' a=some (.lst ws)->H a=some (.lst ws))->Q (.ref f) H'
theorem Qx{X:Cx}{P c cc:Addr}{x:Str}{params:Arguments}{body:Expr}{scope:Scope}{pos:Pos}(fN:closureFor scope X.env=pure [(x,c)])(A8:X.env.code=.ref cc)(hK:PySem.W.codeHdIn X.K cc P=true)(xX:Bm X.mg X.base)
  (cV9:defaultsOf params X.env=([],[]):=by rfl):PE X (.Lambda params body scope pos) (cI3 P c x params body scope):=by
 intro pins s σ H Q I zz
 obtain⟨⟨ps,hP⟩,q⟩:=zz
 obtain⟨bm,ob,b1,b2,b3,b4,b5,b6,b7⟩:=xX
 have C:=PySem.W.codeHd_of_K I.cB hK
 obtain⟨oP,A9,codes⟩:=I.av P _ hP
 have hg:=I.mod.glob.keeps I.bk
 have Qy:∀{b o},X.base.get? b=some o->b≠P:=λ{b o} e z=>by
  have:=(I.bs b o e).2
  rw[z,hP]at this;cases this
 have hgP:mainGlobals≠P:=by
  obtain⟨o,es,ep,e,_⟩:=I.mod.glob
  exact Qy e
 have Qz:s.heap.BuiltinsAt X.mg P:=⟨bm,ob,b1,b2,b3,Qy b4,I.bk _ _ b4,b5,b6,b7⟩
 refine PySem.W.kla_eval cV9 ?_
 have fresh:∀{b:Addr},s.heap.objs.size<=b->H b=none:=λ{b} h=>I.av.fresh h
 cases FU:codeAmong pos ps.toList with
 | none =>
  refine PySem.W.kla_makeFunction (mg:=X.mg) fN I.ok.glob hg A8 C oP A9 FU hgP Qz λk il h' tk hx x8 gB cW1 QB=>?_
  have FV:P<s.heap.objs.size:=aS oP
  have hPk:k≠P:=λz=>by rw[z]at x8;exact absurd FV (kP.mpr x8)
  have qa:s.heap.objs.size<=h'.objs.size:=eu x8 (zc gB)
  have hPf:h'.objs.size≠P:=λz=>by rw[<-z]at FV;exact absurd FV (kP.mpr qa)
  have QC:k≠h'.objs.size:=cy gB
  generalize QD:PySem.W.kla_obj "<lambda>" (X.env.qual++"<lambda>") params body scope [(x,c)] ((X.mg "__name__").getD .none) k il=obj
  have di:obj.isFreed=false:=by rw[<-QD];rfl
  have x9:∀b,b≠P->b≠k->b≠h'.objs.size->upd (upd (upd H P (.cR (ps++#[rawInt pos.line,rawInt pos.col,.ref k]))) k (.ext λh=>∃q,h.CodeRec (.ref k) q)) h'.objs.size (.ext (mq h'.objs.size obj)) b=H b:=λb n1 n2 n3=>by
   rw[aN n3,aN n2,aN n1]
  have Ba:upd (upd (upd H P (.cR (ps++#[rawInt pos.line,rawInt pos.col,.ref k]))) k (.ext λh=>∃q,h.CodeRec (.ref k) q)) h'.objs.size (.ext (mq h'.objs.size obj)) h'.objs.size=some (.ext (mq h'.objs.size obj)):=bV
  have atK:upd (upd (upd H P (.cR (ps++#[rawInt pos.line,rawInt pos.col,.ref k]))) k (.ext λh=>∃q,h.CodeRec (.ref k) q)) h'.objs.size (.ext (mq h'.objs.size obj)) k=some (.ext λh=>∃q,h.CodeRec (.ref k) q):=by rw[aN QC,bV]
  have Bb:upd (upd (upd H P (.cR (ps++#[rawInt pos.line,rawInt pos.col,.ref k]))) k (.ext λh=>∃q,h.CodeRec (.ref k) q)) h'.objs.size (.ext (mq h'.objs.size obj)) P=some (.cR (ps++#[rawInt pos.line,rawInt pos.col,.ref k])):=by rw[aN hPf.symm,aN hPk.symm,bV]
  generalize hHn:upd (upd (upd H P (.cR (ps++#[rawInt pos.line,rawInt pos.col,.ref k]))) k (.ext λh=>∃q,h.CodeRec (.ref k) q)) h'.objs.size (.ext (mq h'.objs.size obj))=Hn at x9 Ba atK Bb
  have old:∀{b o},H b=some o->b≠P->Hn b=some o:=λ{b o} e n=>by
   have hb:b<s.heap.objs.size:=I.av.lt e
   rw[x9 b n (λz=>absurd hb (kP.mpr (z ▸ x8))) (λz=>absurd hb (kP.mpr (z ▸ qa)))];exact e
  have kept:∀b o,b≠P->s.heap.get? b=some o->(h'.push obj).get? b=some o:=λb o n e=>bK _ (hx b o n e)
  have un:Un X.fs [] H Hn s.heap (h'.push obj):=by
   refine⟨λb o e n _ _=>kept b o (λz=>by rw[z,hP]at n;cases n) e,λb o e n _ _=>⟨o.slots,kept b o (λz=>by rw[z,hP]at n;cases n) e⟩,λb o e n _=>?_,λb o e _=>?_,λb xs e=>old e (λz=>by rw[z,hP]at e;cases e),λb ob xs e=>old e (λz=>by rw[z,hP]at e;cases e),λb QE e=>?_⟩
   ·have hb:=aS e
    rw[x9 b (λz=>by rw[z,hP]at n;cases n) (λz=>absurd hb (kP.mpr (z ▸ x8))) (λz=>absurd hb (kP.mpr (z ▸ qa)))];exact n
   ·by_cases z:b=P
    ·rw[z];exact⟨_,bK _ QB⟩
    ·exact⟨o,kept b o z e⟩
   ·by_cases z:b=P
    ·subst z
     rw[hP]at e;cases e
     exact⟨_,Bb⟩
    ·exact⟨#[],by rw[old e z];simp⟩
  have av:cn X.prog X.w Hn (h'.push obj):=λb o e=>by
   by_cases z1:b=h'.objs.size
   ·subst z1
    rw[Ba]at e;cases e
    exact⟨cS _ di,⟨_,cS _ di⟩,λh1 h2 p kk=>kk _ _ (.inl rfl) p⟩
   ·by_cases z2:b=k
    ·subst z2
     rw[atK]at e;cases e
     have hr:=cW1.push obj
     refine⟨⟨_,hr⟩,?_,λh1 h2 ⟨q,c1,o1,vs,t,e1,e2,r⟩ kk=>?_⟩
     ·obtain⟨c1,o1,vs,t,e1,e2,_⟩:=hr
      cases e1
      exact⟨o1,e2⟩
     ·cases e1
      exact⟨q,_,o1,vs,t,rfl,kk _ _ (.inl rfl) e2,r⟩
    ·by_cases z3:b=P
     ·subst z3
      rw[Bb]at e;cases e
      refine⟨bK _ QB,by rw[VR];exact bt4 _ A9,λp' cv e'=>?_⟩
      rw[VR]at e'
      rcases bF2 _ A9 e' with e' | e'
      ·obtain⟨d,φ,e1,e2,e3⟩:=codes p' cv e'
       exact⟨d,φ,e1,old e2 (λz=>by rw[z,hP]at e2;cases e2),e3⟩
      ·exact⟨k,_,e',atK,λh' p=>p⟩
     ·rw[x9 b z3 z2 z1]at e
      have nP:∀{b' o'},H b'=some o'->(∀ps,o'≠.cR ps)->b'≠P:=λ{b' o'} e n z=>by rw[z,hP]at e;cases e;exact n _ rfl
      refine(I.av b o e).gZ (λb' u j6 e'=>kept b' u ?_ e') (λb' e'=>old e' (nP e' (λps z=>by cases z))) (λb' xs e'=>old e' (nP e' (λps z=>by cases z))) λb' φ e'=>old e' (nP e' (λps z=>by cases z))
      rcases j6 with rfl | j6
      ·exact z3
      ·exact nP j6 (λps z=>by cases z)
  refine⟨.ref h'.objs.size,Hn,I.un un av,rfl,q _ k _ _ _ _ (fresh qa) (by rw[QD];exact Ba) ⟨_,atK,λh p=>p⟩ QC ⟨λb o e n=>old e (λz=>by rw[z,hP]at e;cases e;cases n),λb QE e=>?_⟩ λa ws e=>?_⟩
  ·exact un.dY b QE e
  ·by_cases z1:a=h'.objs.size
   ·subst z1;rw[Ba]at e;cases e
   ·by_cases z2:a=k
    ·subst z2;rw[atK]at e;cases e
    ·by_cases z3:a=P
     ·subst z3;rw[Bb]at e;cases e
     ·rw[x9 a z3 z2 z1]at e;exact e
 | some cv =>
  obtain⟨k,φ,rfl,hk,FT⟩:=codes pos cv FU
  refine PySem.W.kla_makeFunctionHit (mg:=X.mg) fN I.ok.glob hg A8 C oP A9 FU Qz λil h' tk hx qa=>?_
  have hf:=fresh qa
  refine⟨.ref h'.objs.size,upd H h'.objs.size (.ext (mq h'.objs.size (PySem.W.kla_obj "<lambda>" (X.env.qual++"<lambda>") params body scope [(x,c)] ((X.mg "__name__").getD .none) k il))),I.laid (λb u e=>bK _ (hx b u e)) qa ?_,rfl,q _ k (X.env.qual++"<lambda>") ((X.mg "__name__").getD .none) il _ hf bV ⟨φ,?_,FT⟩ (dN hk hf) (L3.aa.of λb o e=>?_) λa ws e=>?_⟩
  ·exact⟨cS _ rfl,⟨_,cS _ rfl⟩,λh1 h2 p kk=>kk _ _ (.inl rfl) p⟩
  ·rw[aN (dN hk hf)];exact hk
  ·rw[aN (dN e hf)];exact e
  ·by_cases z:a=h'.objs.size
   ·subst z;rw[bV]at e;cases e
   ·rw[aN z]at e;exact e
end L2
namespace L2
open PySem PySem.Spec PyProof.Rows
structure Bc(K:PySem.W.Frag)(C:Addr)(m:Str)(f:Addr):Prop where
 ga:PySem.W.specialIn K (.ref C) "__getattribute__"=some (some (.builtin "type.__getattribute__"))
 rd:PySem.W.readsIn K C (.type "type")=true
 at_:PySem.W.findCls K (.ref C) (.type "type") m=some (.val (.ref f))
 kp:PySem.W.keepIn K (.ref f)=true
section
variable{X:Cx}{CX:dP}{k:Nat}{f C:Addr}{fd:FuncData}{ps:List Str}{sp:Sp}{E:XK}{x m:Str}{p pos apos:Pos}{e o:Expr}{es:List Expr}{ta:TE}{t:TA}
theorem bV4{pins:List (Addr × Obj)}{σ:St}{H:Hp}{s:Shared}{pl:Sem Bool}{A:Around}{E':Value->Shared->Prop}{Q:Value × List Value->Shared->Prop}(I:Inv X pins σ H s)(M:Bc X.K C m f)(h:∀s',Inv X pins σ H s'->Q (.ref f,[]) s') :
  wpAny (model X.prog X.w) A (getMethod (.ref C) m pl) Q E' s :=
 PySem.W.method_cls I.cB M.ga (PySem.W.cls_value (mc:=.type "type") I.cB M.rd M.at_ rfl (h _ (I.tok _)))
theorem cf4{pins:List (Addr × Obj)}{σ:St}{H:Hp}{s:Shared}{pl:Sem Bool}{Q:Value->Shared->Prop}{QA:List V->Hp->Prop}(I:Inv X pins σ H s)(M:Bc X.K C m f)(hg:Gl X x)(hm:X.mg x=some (.ref C))(ha:PA X (e::es) t)(h:t σ H QA)
  (hq:∀us s1 vs H1,Inv X pins σ H1 s1->Vals vs us->QA vs H1->wpAny (model X.prog X.w) X.A (call (.ref f) us) Q X.xe s1)
  (cZ:(x==("__debug__":Str))=false:=by decide) (bW:starEach (e::es) X.env=(false,eval e X.env)::starEach es X.env:=by rfl) (aW:(backTo pos (starEach es X.env)).any (·.1)=false:=by rfl)
  (ht:eval (.Call (.Attribute (.Name x p) m apos) (e::es) [] pos) X.env=(do
   let ov<-eval (.Name x p) X.env
   standAt apos.atName
   let (f,first)<-holding [ov] (getMethod ov m pl)
   callWith pos f first (backTo pos (starEach (e::es) X.env)) (backToKw pos (keywordEach [] X.env))):=by rfl) :
  wpAny (model X.prog X.w) X.A (eval (.Call (.Attribute (.Name x p) m apos) (e::es) [] pos) X.env) Q X.xe s:=by
 refine PySem.W.methodCall_KW (pl:=pl) (oG I hg hm ?_ cZ) ht
 refine bV4 I M λs1 I1=>?_
 refine PySem.W.callWith_K (first:=[]) (h₀:=X.base) I.ok.mod.jW M.kp (aE (ha pos pins s1 σ H _ I1 h) λus s2 ⟨vs,H2,I2,r,q2⟩=>⟨I2.cB,?_⟩) bW aW
 exact hq us s2 vs H2 I2 r q2
noncomputable def cD2(sp:Sp)(E:XK)(c:Addr)(i:Nat)(t:TA):TE:=λσ H Q=>t σ H λvs H1=>∃f of fd v,H1 f=some (.ext (mq f of))/\of.data=.func fd/\σ[i]?=some (some v) /\
 ∀oc u,oc.data=.cell (some u)->RelV v u->H1 c=none->c≠f->sp vs (upd (upd H1 f (.ext (L3.iJ of oc c f))) c (.own f)) (λr H2=>H2 f=some (.ext (L3.iJ of oc c f))/\H2 c=some (.own f)/\Q r (rem H2 f c)) E
theorem QF{pl:Sem Bool}{y:Str}{c:Addr}{i:Nat}(M:Bc X.K C m f)(F:aO X.prog X.w X.K X.mg X.base aZ k f fd ps sp)(hr:bH k X.A)(hb:Binds X.K fd ps [])(hg:Gl X x)(hm:X.mg x=some (.ref C))
  (hN:X.N[i]?=some y) (hy:X.env.scope.names.lookup y=some .cell) (fN:X.env.cells.lookup y=some c) (wt:X.fn y=true) (ha:PA X (e::es) t)
  (cZ:(x==("__debug__":Str))=false:=by decide) (bW:starEach (e::es) X.env=(false,eval e X.env)::starEach es X.env:=by rfl) (aW:(backTo pos (starEach es X.env)).any (·.1)=false:=by rfl)
  (ht:eval (.Call (.Attribute (.Name x p) m apos) (e::es) [] pos) X.env=(do
   let ov<-eval (.Name x p) X.env
   standAt apos.atName
   let (f,first)<-holding [ov] (getMethod ov m pl)
   callWith pos f first (backTo pos (starEach (e::es) X.env)) (backToKw pos (keywordEach [] X.env))):=by rfl) :
  PE X (.Call (.Attribute (.Name x p) m apos) (e::es) [] pos) (cD2 sp E c i t):=by
 intro pins s σ H Q I h
 refine cf4 (pl:=pl) I M hg hm ha h (λus s1 vs H1 I1 r ⟨fa,of,fdd,v,hf,hd,hv,hq⟩=>?_) cZ bW aW ht
 obtain⟨ml,_,hl⟩:=I1.loc
 obtain⟨u,rv,lk⟩:=hl i y v hN hv (.inr (.inl hy))
 obtain⟨oc,gc,g5⟩:∃oc,s1.heap.get? c=some oc/\oc.data=.cell (some u):=by
  rcases lk with⟨hk,_⟩ | ⟨_,c',wu,ic⟩
  ·rw[show X.env.kindOf y=some .cell from hy]at hk;cases hk
  ·rw[fN]at wu;cases wu;exact ic
 have nc:H1 c=none:=I1.eC y c fN
 have nH:c≠fa:=λz=>by rw[z,hf]at nc;cases nc
 have gf:s1.heap.get? fa=some of:=(I1.av fa _ hf).1
 have kW:=hq oc u g5 rv nc nH
 have QG:=I1.ok.kS y c wt fN
 generalize hH:upd (upd H1 fa (.ext (L3.iJ of oc c fa))) c (.own fa)=Hp at kW
 have QH:Hp c=some (.own fa):=by rw[<-hH,bV]
 have atf:Hp fa=some (.ext (L3.iJ of oc c fa)):=by rw[<-hH,aN nH.symm,bV]
 have kz:∀b,b≠fa->b≠c->Hp b=H1 b:=λb n1 n2=>by rw[<-hH,aN n2,aN n1]
 have nfs:c ∉ X.fs:=λhb=>by
  obtain⟨_,o,ho,_⟩:=I1.ok.eM.mem hb
  exact absurd (cI (aS ho) QG) (gQ _)
 have nst:∀b∈cU X.stack,b≠c:=λb hb z=>by
  rcases bG.mp (I1.wo b hb)with e | hb
  ·exact I1.i7 y c fN (z ▸ e)
  ·exact nfs (z ▸ hb)
 have cX0:cn X.prog X.w Hp s1.heap:=λb ob q=>by
  by_cases z1:b=c
  ·subst z1;rw[QH]at q;cases q;exact⟨_,gc⟩
  ·by_cases z2:b=fa
   ·subst z2;rw[atf]at q;cases q
    exact⟨⟨gf,gc⟩,⟨_,gf⟩,λh1 h2 p kk=>⟨kk _ _ (.inl rfl) p.1,kk _ _ (.inr QH) p.2⟩⟩
   ·rw[kz b z2 z1]at q
    have x1:=(I1.av b ob q).rem (f:=fa) (c:=c) z2 hf (.inr nc) (Qq gf (λ_ p=>p) hd)
    have up:∀{b' o'},rem H1 fa c b'=some o'->Hp b'=some o':=λ{b' o'} q=>by
     obtain⟨n1,n2,q'⟩:=Qo q
     rw[kz b' n1 n2];exact q'
    exact x1.gZ (λ_ _ _ q=>q) (λ_ q=>up q) (λ_ _ q=>up q) λ_ _ q=>up q
 have e0:fw X.prog X.w X.K X.mg X.base X.A X.stack s1 Hp:=by
  have e1:=I1.rG
  refine⟨e1.frames,e1.mod,λb ob q=>⟨(e1.bs b ob q).1,?_⟩,e1.fJ,e1.eM,λb hb=>?_,cX0,e1.bare⟩
  ·have hb0:=(I1.ok.bs b ob q).1
   rw[kz b (λz=>by have:=(e1.bs b ob q).2;rw[z,hf]at this;cases this) (λz=>absurd (cI (aS hb0) (z ▸ QG)) (gQ _))]
   exact(e1.bs b ob q).2
  ·have nb:=e1.gn b hb
   rw[kz b (λz=>by rw[z,hf]at nb;cases nb) (nst b hb)];exact nb
 have hlen:us.length=ps.length:=by rw[<-r.length];exact F.len _ _ _ _ kW
 refine wpAny_call (codeAny_mono (F.run X.A X.stack s1 Hp ⟨us,[]⟩ us vs _ E hr e0 (by have:=hb s1 us I1.cB (by rw[jP];exact hlen);rwa [jP]at this) r kW) λrr s' hz=>?_)
 cases rr with
 | error e=>exact hz.elim
 | ok fl =>
  cases fl with
  | next=>exact dB hz
  | brk=>exact dB hz
  | cont=>exact dB hz
  | ret u' =>
   obtain⟨v',H2,os,bare,un,QI,rv',q1,q2,q3⟩:=hz
   obtain⟨_,QJ⟩:=QI.lam q1
   refine I1.after ⟨v',rem H2 fa c,os,bare,⟨λb ob g n hb hx=>?_,λb ob g n hb hx=>?_,λb ob g n hx=>?_,un.there,λb xs g=>?_,λb ob xs g=>?_,λb ps g=>?_⟩,QI.rem q1 q2 hd,rv',q3⟩
   ·by_cases z:b=c
    ·rw[z,gc]at g;cases g;rw[z];exact QJ
    ·exact un.keep b ob g (by rw[kz b (λz=>by rw[z,hf]at n;cases n) z];exact n) hb hx
   ·by_cases z:b=c
    ·rw[z,gc]at g;cases g;rw[z];exact⟨_,QJ⟩
    ·exact un.slot b ob g (by rw[kz b (λz=>by rw[z,hf]at n;cases n) z];exact n) hb hx
   ·by_cases z:b=c
    ·rw[z];exact A6
    ·exact uh (un.free b ob g (by rw[kz b (λz=>by rw[z,hf]at n;cases n) z];exact n) hx)
   ·have n1:b≠fa:=λz=>by rw[z,hf]at g;cases g
    have n2:b≠c:=λz=>by rw[z,nc]at g;cases g
    rw[fX n1 n2]
    exact un.eY b xs (by rw[kz b n1 n2];exact g)
   ·have n1:b≠fa:=λz=>by rw[z,hf]at g;cases g
    have n2:b≠c:=λz=>by rw[z,nc]at g;cases g
    rw[fX n1 n2]
    exact un.eK b ob xs (by rw[kz b n1 n2];exact g)
   ·have n1:b≠fa:=λz=>by rw[z,hf]at g;cases g
    have n2:b≠c:=λz=>by rw[z,nc]at g;cases g
    rw[fX n1 n2]
    exact un.dY b ps (by rw[kz b n1 n2];exact g)
end
end L2
namespace L3
open PySem L2 PySem.Spec PyProof.Rows
theorem FW{ts:List Addr}{H H':Hp}(h:Tb ts H)(s:aa H H'):Tb ts H':=λP hP=>by
 obtain⟨ps,e⟩:=h P hP
 obtain⟨m,e2⟩:=s.tb P ps e
 exact⟨_,e2⟩
theorem QK{P:Program}{w:World}{K:PySem.W.Frag}{mg:Str->Option Value}{base:Heap}{n:Nat}{p1 p2 x qn:Str}{params:Arguments}{body:Expr}{scope:Scope}{pm il:Value}{oc:Obj}{c k:Addr}{m:Int}{tm:Tok}{sp:ui}(S:Qt p1 p2 x scope)
  (g5:oc.data=.cell (some (.int m tm))) (hb:∀u1 u2:Value,bindArgs (PySem.W.kla_fn "<lambda>" qn params body scope [(x,c)] pm (.ref k) il) ⟨[u1,u2],[]⟩=pure [(p1,u1),(p2,u2)])
  (gx:∀(q:Str) (f:Addr) (A:Around) (outer:List Env) (s:Shared) (H:Hp) (E:XK),bH n (A.deeper (PySem.W.envX q scope s.heap.objs.size f (.ref k) [(x,c)])) ->
   ∃t:aD,PE (p9 aZ P w K mg base [p1,p2,x] q scope f (.ref k) [(x,c)] A outer s H E).e5 body (lE t)/\∀i j Qd,sp i j Qd->t [some (.int i),some (.int j),some (.int m)] λd _=>∃r,d=.int r/\Qd r) :
  xZ P w K mg base (n+1) (PySem.W.kla_obj "<lambda>" qn params body scope [(x,c)] pm k il) oc c k sp where
 fn:=⟨_,_,_,_,rfl⟩
 run A outer s H f t u i j Qd hr e0 gf gc hH cC h:=by
  obtain⟨q,cC⟩:=cC
  obtain⟨tt,ht,hq⟩:=gx q f A outer s H (λ_ _ _=>False) (hr.deeper _)
  refine cg4 (v1:=.int i) (v2:=.int j) (vc:=.int m) (E:=λ_ _ _=>False) S e0 hr gf ⟨oc,gc,g5⟩ ⟨tm,rfl⟩ hH cC (hb _ _) ⟨t,rfl⟩ ⟨u,rfl⟩ ht.e5 ?_
  refine⟨⟨H,H⟩,H,_,[],_,?_,hq i j Qd h,λd ag v F' H' hd f1 h1 c1=>?_⟩
  ·exact aj.start (ds:=[.int i,.int j,.int m]) (vs:=[.int i,.int j,.int m]) (aa.refl H) (.int (.int (.int .nil))) 0
  ·obtain⟨r,rfl,hd⟩:=hd
   have s1:=c1.top
   cases s1
   exact⟨r,rfl,hd,h1⟩
section
variable{X:Cx}{CX:dP}{n:Nat}{f:Addr}{fd:FuncData}{ps:List Str}{sp:bx}{E:XK}{x:Str}{p pos:Pos}{e:Expr}{es:List Expr}{t:bX}{tl:List Addr}
theorem cj0(hT:Tb tl X.jm)(F:aO X.prog X.w X.K X.mg X.base CX n f fd ps (xY tl (bC sp)))(hr:bH n X.A)(hg:Gl X x)(hm:X.mg x=some (.ref f))(hk:PySem.W.keepIn X.K (.ref f)=true)(hb:Binds X.K fd ps [])(hx:j0 CX X E)
  (ha:PA X (e::es) (lA t)) (cZ:(x==("__debug__":Str))=false:=by decide) (he:starEach (e::es) X.env=(false,eval e X.env)::starEach es X.env:=by rfl) (aW:(backTo pos (starEach es X.env)).any (·.1)=false:=by rfl) :
  PE X (.Call (.Name x p) (e::es) [] pos) (lE (pk sp t)):=by
 intro pins s σ H Q I zz
 obtain⟨B,F',δ,ts,Qd,c,q,k⟩:=zz
 have tb:=Qm I hT
 refine oQ F hr hg hm hk hb .nil hx ha cZ he aW pins s σ H Q I ⟨B,F',δ,ts,_,c,q,λds ai vs F1 H1 q1 f1 h1 c1 s1=>?_⟩
 refine⟨FW tb h1,?_⟩
 rw[jP]
 exact E9 c1 s1 q1 λd v F' H' hd hf hs c'=>k d ai v F' H' hd (f1.trans hf) (h1.trans hs) c'
end
section
variable{P:Program}{w:World}{K:PySem.W.Frag}{mg:Str->Option Value}{base:Heap}
theorem QL{x qual:Str}{st:Stmt}{f:Addr}{fd:FuncData}{N ps:List Str}{k:Nat}{sp:bx}{tl:List Addr}(F:bh K x qual st f fd)(S:bq N ps (az st))(len:∀ds Q,sp ds Q->ds.length=ps.length)
  (gx:∀(aG:Value) (A:Around) (outer:List Env) (s:Shared) (H:Hp) (E:XK),Tb tl H->bH k (A.deeper (envOfC qual (az st) s.heap.objs.size f aG)) ->
   ∃t:bS,PSs (hG aZ P w K mg base N qual (az st) f aG A outer s H E).e5 (bf st) (lS (hG aZ P w K mg base N qual (az st) f aG A outer s H E).e5 t)/\∀ds Q,sp ds Q->t { nx:=λ_=>Q .ao,rt:=Q } (jx N ds)):aO P w K mg base aZ (k+1) f fd ps (xY tl (bC sp)):=by
 refine F.ok S (λvs H Q E ⟨_,F,ds,Qd,e,r,h,_⟩=>by rw[<-r.length];exact len ds Qd h) λaG A outer s H vs Q E hr zz=>?_
 obtain⟨tb,F,ds,Qd,e,r,h,k⟩:=zz
 obtain⟨t,ht,hq⟩:=gx aG A outer s H E tb hr
 have fin:∀d v ag ar F' H',Qd d->aj ⟨H,F⟩ F' H' ar ag [(d,v)]->Q v H':=λd v ag ar F' H' hd c=>by
  obtain⟨A,C,r',s',nd,fr⟩:=c.own
  exact k d v F' H' A hd c.b1 c.b2 c.ext c.b3 r' (e7.mp nd).1 λa ha=>fr a (fq _ ha)
 have e1:L2.start N vs=vs.map some++aQ (N.length-ds.length) none:=by unfold L2.start;rw[r.length]
 refine⟨_,ht,⟨H,F⟩,F,jx N ds,_,?_,hq ds Qd h,λag ar F' H' hd c=>fin .ao .ao ag ar F' H' hd (c.pushS (.ao .nil) rfl),fin,λ_ _ _ _ z=>z.elim,λ_ _ _ _ z=>z.elim,XL.none (λ_ _ z=>z) λ_ _ z=>z⟩
 rw[e1]
 exact aj.start e r _
theorem QM{x qual:Str}{st:Stmt}{f cc:Addr}{fd:FuncData}{N ps:List Str}{k:Nat}{sp:Sp}(F:bh K x qual st f fd)(A8:fd.code=.ref cc)(S:bq N ps (az st))(len:∀vs H Q E,sp vs H Q E->vs.length=ps.length)
  (gx:∀(A:Around) (outer:List Env) (s:Shared) (H:Hp) (vs:List V) (Q:VK) (E:XK),bH k (A.deeper (envOfC qual (az st) s.heap.objs.size f (.ref cc)))->sp vs H Q E ->
   ∃t,PSs (hG aZ P w K mg base N qual (az st) f (.ref cc) A outer s H E).e5 (bf st) t/\t { nx:=λ_ H'=>Q .ao H',rt:=Q } (L2.start N vs) H):aO P w K mg base aZ (k+1) f fd ps sp:=by
 obtain⟨oc,od,kV,doc,pm,an,aG,ct,j3,rfl,lk,cC⟩:=F.ex
 obtain rfl:aG=.ref cc:=A8
 refine El lk cC S len λA outer s H vs Q E hr hJ=>?_
 obtain⟨t,h,q⟩:=gx A outer s H vs Q E hr hJ
 exact⟨t,h.e5,q⟩
end
end L3
namespace L3
open PySem L2 PySem.Spec PyProof.Rows
theorem bD2{ns:List Str}{xs:List D}{ws:List V}{F H:Hp}{f:Str}{d:D}(r:R F H xs ws [])(h:(ns.zip xs).lookup f=some d):∃w,(ns.zip ws).lookup f=some w/\R F H [d] [w] []:=by
 generalize e:([]:List Addr)=A at r
 induction ns generalizing xs ws A with
 | nil=>simp at h
 | cons n ns ih =>
  cases xs with
  | nil=>simp at h
  | cons x xs =>
   obtain⟨v,ck,A1,A2,rfl,rfl,h1,h2⟩:=R.cH r
   obtain⟨rfl,rfl⟩:=DA.mp e.symm
   rw[VS]at h ⊢
   by_cases z:f=n
   ·subst z
    rw[iu,beq_self_eq_true]at h
    cases h
    refine⟨v,?_,h1⟩
    rw[iu,beq_self_eq_true]
   ·have z':(f==n)=false:=beq_eq_false_iff_ne.mpr z
    rw[iu,z']at h
    obtain⟨w,e1,e2⟩:=ih h [] rfl h2
    refine⟨w,?_,e2⟩
    rw[iu,z']
    exact e1
theorem QN{ns:List Str}{ws:List V}{f:Str}(h:f ∉ ns):(ns.zip ws).lookup f=none:=by
 induction ns generalizing ws with
 | nil=>simp
 | cons n ns ih =>
  cases ws with
  | nil=>simp
  | cons w ws =>
   rw[VS,iu]
   have hn:(f==n)=false:=beq_eq_false_iff_ne.mpr λz=>h (by rw[z];simp)
   simp only[hn]
   exact ih λz=>h (by simp[z])
theorem FX{F H:Hp}{C:Addr}{ns:List Str}{xs:List D}{v:V}(s:S F H [.obj C ns xs] [v]):∃p dx ws,v=.ref p/\H p=some (.ins C dx (ns.zip ws))/\ns.length=ws.length/\R F H xs ws []:=by
 cases s with
 | obj h l r _=>exact⟨_,_,_,rfl,h,l,r⟩
section
variable{X:Cx}{e o:Expr}{es:List Expr}{f m x:Str}{pos p apos:Pos}{t to:aD}{ta:bX}{n:Nat}
noncomputable def qe(K:PySem.W.Frag)(t:aD)(f:Str):aD:=λδ Q=>t δ λd ag=>∃C ns xs v,d=.obj C ns xs/\dq K C/\cj K C f/\(ns.zip xs).lookup f=some v/\Q v ag
theorem cE4(he:PE X e (lB t))(hb:attributeBase e f X.env (eval e X.env)=eval e X.env:=by rfl):PE X (.Attribute e f pos) (lB (qe X.K t f)) :=
 cJ (Ab he hb) λσ H Q ⟨B,F,δ,ts,Qd,c,q,k⟩=>⟨B,F,δ,ts,_,c,q,λd ag v F' H' ⟨C,ns,xs,w,ed,hc,hn,hl,hq⟩ f1 h1 c1 s1=>by
  subst ed
  obtain⟨p,dx,ws,rfl,hp,_,r⟩:=FX s1
  obtain⟨u,hu,ru⟩:=bD2 r hl
  exact⟨p,C,dx,_,u,rfl,hp,hc,hn,hu,k w ag u F' H' hq f1 h1 c1 ru.s⟩⟩
structure qf(P:Program)(w:World)(K:PySem.W.Frag)(mg:Str->Option Value)(base:Heap)(n:Nat)(m:Str)(C:Addr)(sp:bx):Prop where
 cls:dq K C
 ex:∃f fd ps,Meth K C m f/\aO P w K mg base aZ n f fd ps (bC sp)/\Binds K fd ps []
noncomputable def qg(MO:Addr->bx->Prop)(m:Str)(to:aD)(ta:bX):aD:=λδ Q=>to δ λd ai=>∃C ns xs sp,d=.obj C ns xs/\MO C sp/\m ∉ ns/\ta ai λds aI=>sp ((D.obj C ns xs::ds).map D.sh) λr=>((D.obj C ns xs::ds).all D.pl||r.fr)=true/\Q r aI
theorem cx1{pl:Sem Bool}(ho:PE X o (lB to))(hr:bH n X.A)(ha:PA X (e::es) (lA ta))
  (bW:starEach (e::es) X.env=(false,eval e X.env)::starEach es X.env:=by rfl) (aW:(backTo pos (starEach es X.env)).any (·.1)=false:=by rfl)
  (ht:eval (.Call (.Attribute o m apos) (e::es) [] pos) X.env=(do
   let ov<-eval o X.env
   standAt apos.atName
   let (f,first)<-holding [ov] (getMethod ov m pl)
   callWith pos f first (backTo pos (starEach (e::es) X.env)) (backToKw pos (keywordEach [] X.env))):=by rfl) :
  PE X (.Call (.Attribute o m apos) (e::es) [] pos) (lE (qg (qf X.prog X.w X.K X.mg X.base n m) m to ta)):=by
 intro pins s σ H Q I zz
 obtain⟨B,F,δ,ts,Qd,c,q,k⟩:=zz
 refine PySem.W.methodCall_KW (pl:=pl) (aE (ho pins s σ H (λx H1=>∃d ai F1,S F1 H1 [d] [x]/\aj B F1 H1 σ ai ts/\aa F F1/\aa H H1/\∃C ns xs sp,d=.obj C ns xs/\qf X.prog X.w X.K X.mg X.base n m C sp/\m ∉ ns/\ta ai λds aI=>sp ((D.obj C ns xs::ds).map D.sh) λr=>((D.obj C ns xs::ds).all D.pl||r.fr)=true/\Qd r aI) I
  ⟨B,F,δ,ts,_,c,q,λd ai v F1 H1 hq f1 h1 c1 s1=>⟨d,ai,F1,s1,c1,f1,h1,hq⟩⟩) λu s1 ⟨x,H1,I1,rx,d,ai,F1,sd,c1,f1,h1,C,ns,xs,sp,ed,M,hm,hq⟩=>?_) ht
 subst ed
 obtain⟨a,dx,ws,rfl,ea,hl,r0⟩:=FX sd
 obtain rfl:u=dg a:=rx
 obtain⟨f,fd,ps,ya,FO,hb⟩:=M.ex
 refine Ei I1 ea M.cls ya (QN hm) ?_
 refine PySem.W.callWith_K (first:=[.ref a]) (h₀:=X.base) I.ok.mod.jW ya.kp (aE (ha pos pins s1 σ H1 (λvs H2=>∃ds aI F2,S F2 H2 ds vs/\aj B F2 H2 σ aI ts/\aa F1 F2/\aa H1 H2/\sp ((D.obj C ns xs::ds).map D.sh) λr=>((D.obj C ns xs::ds).all D.pl||r.fr)=true/\Qd r aI) I1
  ⟨B,F1,ai,ts,_,c1,hq,λds aI vs F2 H2 hq f2 h2 c2 s2=>⟨ds,aI,F2,s2,c2,f2,h2,hq⟩⟩) λus s2 ⟨vs,H2,I2,r,ds,aI,F2,FY,c2,f2,h2,hJ⟩=>⟨I2.cB,?_⟩) bW aW
 refine Ek (us:=.ref a::us) (vs:=.ref a::vs) (eO:=[]) FO hr hb .nil bj I2 (.cons rfl r) ?_
 rw[jP]
 exact E9 c2 (.obj (h2 _ _ ea) hl (r0.shared f2 h2) FY) hJ λd v F' H' hd hf hs c'=>k d aI v F' H' hd (f1.trans (f2.trans hf)) (h1.trans (h2.trans hs)) c'
end
structure de(x:Addr)(H H':Hp):Prop where
 get:∀b o,b≠x->H b=some o->ia o=true->H' b=some o
 tb:∀b ps,H b=some (.cR ps)->∃more,H' b=some (.cR (ps++more))
theorem de.trans{x:Addr}{H H1 H2:Hp}(a:de x H H1)(b:de x H1 H2):de x H H2 :=
 ⟨λc o n h t=>b.get c o n (a.get c o n h t) t,λc ps h=>by
  obtain⟨m1,e1⟩:=a.tb c ps h
  obtain⟨m2,e2⟩:=b.tb c _ e1
  exact⟨m1++m2,by rw[e2,vQ]⟩⟩
theorem aa.x{x:Addr}{H H':Hp}(h:aa H H'):de x H H':=⟨λb o _ e n=>h.get b o e n,h.tb⟩
theorem de.upd{x C dx:Addr}{H:Hp}{o o':HO}(h:H x=some o)(n:ia o=true):de x H (upd H x o') :=
 ⟨λb o z e _=>by rw[aN z];exact e,λb ps e=>⟨#[],by rw[aN (λz=>by rw[z,h]at e;cases e;cases n),e];simp⟩⟩
noncomputable def FZ(tl:List Addr)(C:Addr)(uk:List D->List Str->List D->Prop):Sp:=λvs H Q _=>∃x dx ck ds ns xs,vs=.ref x::ck/\Tb tl H/\H x=some (.ins C dx [])/\R H H ds ck []/\uk ds ns xs /\
 ∀H' ws A,de x H H'->H' x=some (.ins C dx (ns.zip ws))->ns.length=ws.length->R (λ_=>none) H' xs ws A->A.Nodup->(∀a∈A,H a=none)->Q .ao H'
noncomputable def um(C:Addr)(uk:List D->List Str->List D->Prop)(ta:bX):aD:=λδ Q=>ta δ λds ag=>∃ns xs,uk (ds.map D.sh) ns xs/\Q (.obj C ns (xs.map D.sh)) ag
theorem aj.made{B:Bs}{F H H':Hp}{σ:L2.St}{δ:Dl}{ts:List (D × V)}{C dx x:Addr}{ns:List Str}{xs:List D}{ws:List V}{A:List Addr}(c:aj B F H σ δ ts)(hs:aa H H')(hx:H' x=some (.ins C dx (ns.zip ws)))(hl:ns.length=ws.length)
  (r:R (λ_=>none) H' xs ws A) (fr:∀a∈A,H a=none):aa F (L3.bO F H' A)/\aj B (L3.bO F H' A) H' σ δ ((.obj C ns (xs.map D.sh),.ref x)::ts):=by
 have c1:=c.grow hs
 have hF:∀a∈A,F a=none:=λa ha=>c.ext.free (fr a ha)
 have r1:R F H' xs ws A:=r.keep (aa.of λb o e=>by cases e) (fR.same (aa.refl _)) ie.nil hF (by simp)
 have r2:=r1.bO c1.ext A (λ_ h=>h)
 have fs:aa F (L3.bO F H' A):=j8 c1.ext
 obtain⟨A',C',r',s',nd,Aj⟩:=c.own
 have out:∀a,(∃ws,H a=some (.lst ws))/\F a=none->L3.bO F H' A a=none:=λa zz=>by
  obtain⟨⟨ws,h⟩,hf⟩:=zz
  rw[Ao (λz=>by rw[fr a z]at h;cases h)];exact hf
 have g1:=r'.grow fs hs λa ha=>out a (r'.lists a ha)
 have g2:=s'.keep fs (fR.same hs) ie.nil (λa ha=>out a (s'.lists a ha)) (by simp)
 refine⟨fs,O0 c1.ext,c1.b1,c1.b2.trans fs,λa ws h=>?_,A',C',?_,g2,nd,Aj⟩
 ·by_cases z:a∈A
  ·exact .inr (c.b1.free (fr a z))
  ·rw[Ao z]at h;exact c.b3 a ws h
 ·exact R.obj hx hl r2 g1
section
variable{X:Cx}{CX:dP}{n:Nat}{f C:Addr}{fd:FuncData}{ps:List Str}{uk:List D->List Str->List D->Prop}{E:XK}{x:Str}{p pos:Pos}{e:Expr}{es:List Expr}{t:bX}{tl:List Addr}
theorem QO(hT:Tb tl X.jm)(M:Mk X.K C f)(F:aO X.prog X.w X.K X.mg X.base CX n f fd ps (FZ tl C uk))(hr:bH (n+1) X.A)(hg:Gl X x)(hm:X.mg x=some (.ref C))(hb:Binds X.K fd ps [])(hx:j0 CX X E)
  (ha:PA X (e::es) (lA t)) (cZ:(x==("__debug__":Str))=false:=by decide) (he:starEach (e::es) X.env=(false,eval e X.env)::starEach es X.env:=by rfl) (aW:(backTo pos (starEach es X.env)).any (·.1)=false:=by rfl) :
  PE X (.Call (.Name x p) (e::es) [] pos) (lE (um C uk t)):=by
 intro pins s σ H Q I zz
 obtain⟨B,F',δ,ts,Qd,c,q,k⟩:=zz
 have tb:=Qm I hT
 refine Yc M F hr hg hm hb .nil hx ha cZ he aW pins s σ H Q I ⟨B,F',δ,ts,_,c,q,λds ai vs F1 H1 q1 f1 h1 c1 s1=>?_⟩
 intro x dx dQ fx lN
 obtain⟨ns,xs,hI,hq⟩:=q1
 have sm:aa H1 (upd (upd H1 dx (.own x)) x (.ins C dx [])):=.of λb o e=>by rw[aN (dN e dQ),aN (dN e fx)];exact e
 refine⟨x,dx,vs,ds.map D.sh,ns,xs,by rw[jP],FW (FW tb h1) sm,bV,(s1.frozen c1.ext).shared sm sm,hI,λH' ws A QP dR hl r nd fr=>⟨rfl,?_⟩⟩
 have s2:aa H1 H':=⟨λb o e n=>QP.get b o (dN e dQ) (sm.get b o e n) n,λb ps e=>by
  obtain⟨m1,e1⟩:=sm.tb b ps e
  obtain⟨m2,e2⟩:=QP.tb b _ e1
  exact⟨m1++m2,by rw[e2,vQ]⟩⟩
 obtain⟨fs,c2⟩:=c1.made s2 dR hl r λa ha=>sm.free (fr a ha)
 exact k _ ai _ _ H' hq (f1.trans fs) (h1.trans s2) c2
end
end L3
namespace Mf
open PySem L2 L3
noncomputable def gm(m:Bool × Nat)(a b:Nat):Nat:=if m.1 then md (cl a b) m.2 else a*b%m.2
noncomputable def ah(m:Bool × Nat):Nat:=if m.1 then 2 ^ (bl m.2-1)else m.2
noncomputable def Bd(g:Nat->Nat->Nat)(a:Nat):Nat->Nat->List Int->Option (List Int)
 | 0,_,_=>none
 | f+1,p,acc=>if p=1 then some acc else if p<64 then Bd g a f (g p a) (acc++[(p:Int)])else none
noncomputable def Ga(g:Nat->Nat->Nat)(a:Nat):Option (List Int):=Bd g a 64 (g 1 a) [1]
noncomputable def Be(g:Nat->Nat->Nat)(many:Nat):Nat->Nat->List Int->Option (List Int)
 | 0,_,_=>none
 | f+1,st,l=>if l.length+1<many then(match Ga g (st+1)with | some l'=>Be g many f (st+1) l' | none=>none)else some l
noncomputable def yb(g:Nat->Nat->Nat)(many:Nat):Option (List Int):=match Ga g 1 with | some l=>Be g many 62 1 l | none=>none
noncomputable def yc(g:Nat->Nat->Nat):ui:=λi j Q=>∃a b:Nat,i=a/\j=b/\a<64/\b<64/\Q (g a b:Nat)
noncomputable def fY:List Nat:=[7,11,13,19,25,31,37,41,47,55,59,61,67,73,87,91,97,103,109,115,117]
noncomputable def mr:List Nat:=[2,3,5,7,11,13,17,19,23,29,31,37,41,43,47,53,59,61]
noncomputable def aF:List (Bool × Nat):=fY.map (λn=>(true,n))++mr.map λn=>(false,n)
noncomputable def mw(l:List Int):Nat->List Int
 | 0=>aQ (l.length+1) 0
 | i+1=>(mw l i).set (l.getD i 0).toNat (i:Int)
noncomputable def dy(l:List Int):List Int:=mw l l.length
theorem yd(l:List Int):∀i,(mw l i).length=l.length+1
 | 0=>by simp[mw]
 | i+1=>by simp[mw,yd l i]
noncomputable def nJ(l g:List Int)(a:Nat):List Int:=if a=0 then aQ (l.length+1) 0 else 0::(aV l.length).map λ(b:Nat)=>l.getD ((g.getD a 0+g.getD (b+1) 0)%(l.length:Int)).toNat 0
noncomputable def uo(l g:List Int)(n:Nat):List D:=(aV n).map λa=>D.lst true (nums (nJ l g a))
noncomputable def nK(l g:List Int):List D:=uo l g (l.length+1)
end Mf
namespace L3
open PySem L2 Mf
noncomputable def LI(H:Hp)(p:Addr)(ns:List Int):Prop:=H p=some (.lst (ns.map V.int))
theorem LI.same{H H':Hp}{p:Addr}{ns:List Int}(h:LI H p ns)(s:aa H H'):LI H' p ns:=s.get _ _ h
theorem LI.upd{H:Hp}{p x:Addr}{ns:List Int}{o o':HO}(h:LI H p ns)(hx:H x=some o)(n:∀ws,o≠.lst ws):LI (upd H x o') p ns:=by
 unfold LI
 rw[aN (λz=>by rw[z]at h;unfold LI at h;rw[hx]at h;cases h;exact n _ rfl)];exact h
theorem QQ{F' H' H:Hp}{v:V}{A:List Addr}{ns:List Int}(r:R F' H' [.lst true (nums ns)] [v] A)(fr:∀a∈A,H a=none):∃p,v=.ref p/\LI H' p ns/\H p=none:=by
 cases r with
 | @own p ws xs A1 _ _ B1 hp hf r1 r2 =>
  have:=PQ r1.s
  subst this
  exact⟨p,rfl,hp,fr p (by simp)⟩
structure cX7(K:PySem.W.Frag)(C f:Addr):Prop where
 cls:dq K C
 many:cj K C "many"
 wide:cj K C "wide"
 Gb:cj K C "powers"
 cX8:cj K C "logs"
 step:cj K C "step"
 sp:Meth K C "step_power" f
structure QR(g:Nat->Nat->Nat)(many:Nat)(l:List Int)(st:Int):Prop where
 lo:2<=many
 hi:many<=64
 step:yb g many=some l
 len:l.length+1=many
 ins:∀x∈l,0<=x/\x.toNat<=l.length
 st:l[((1:Int)%((many:Int)-1)).toNat]?=some st
noncomputable def fZ(b:Str):List Str:=[b,"many","wide","powers","logs","step"]
noncomputable def Bf(n0:Int)(many:Nat)(p1 p2:Addr)(st:Int):List V:=[.int n0,.int many,.int ((bl many:Nat)-1),.ref p1,.ref p2,.int st]
theorem uq{f:Str}{v:V}:∀{fs:List (Str × V)},(∀p∈fs,p.1≠f)->eN f v fs=fs++[(f,v)]
 | [],_=>rfl
 | (g,x)::r,h=>by
  unfold eN
  rw[if_neg (h (g,x) (by simp)),uq λp hp=>h p (by simp[hp])];rfl
theorem gC.ye{H:Hp}{x C dx f c k:Addr}{fs:List (Str × V)}{o':HO}{of oc:Obj}(h:gC H f of oc c k)(hx:H x=some (.ins C dx fs)):gC (L2.upd H x o') f of oc c k:=by
 obtain⟨ψ,e,x6⟩:=h.E5
 exact⟨by rw[aN (λz=>by rw[<-z,h.fn]at hx;cases hx)];exact h.fn,by rw[aN (λz=>by rw[<-z,h.cell]at hx;cases hx)];exact h.cell,ψ,by rw[aN (λz=>by rw[<-z,e]at hx;cases hx)];exact e,x6⟩
theorem gC.same{H H':Hp}{f c k:Addr}{of oc:Obj}(h:gC H f of oc c k)(s:aa H H'):gC H' f of oc c k:=nt.mono (z:=.lam of oc c k) h λa o e _ t=>s.get a o e t
theorem yf{H:Hp}{x p:Addr}{o o':HO}(hx:H x=some o)(h:L2.upd H x o' p=none):H p=none:=by
 by_cases z:p=x
 ·subst z;rw[bV]at h;cases h
 ·rw[aN z]at h;exact h
theorem Bg{α:Type}{b f:Str}{v:α}{r:List (Str × α)}(h:b≠f):((b,v)::r).lookup f=r.lookup f:=by
 rw[iu,beq_eq_false_iff_ne.mpr (dA h)]
section
variable{H2 H3 H':Hp}{x f c p:Addr}{o1 o2:HO}
theorem yg{b:Addr}{o:HO}(e:H3 b=some o)(nb:b≠f)(nc:H3 c=none):L2.upd (L2.upd H3 f o1) c o2 b=some o:=by
 rw[aN (dN e nc),aN nb];exact e
theorem QS(hs:aa H2 H3)(nf:H2 f=none)(nc:H3 c=none)(s:de x (L2.upd (L2.upd H3 f o1) c o2) H'):de x H2 (rem H' f c) where
 get b o n e t:=by
  have z1:=dN e nf
  have e3:=hs.get b o e t
  rw[fX z1 (dN e3 nc)]
  exact s.get b o n (yg e3 z1 nc) t
 tb b ps e:=by
  have z1:=dN e nf
  obtain⟨m,e3⟩:=hs.tb b ps e
  obtain⟨m2,e4⟩:=s.tb b _ (yg e3 z1 nc)
  exact⟨m++m2,by rw[fX z1 (dN e3 nc),e4,vQ]⟩
theorem Bh(hs:aa H2 H3)(h:L2.upd (L2.upd H3 f o1) c o2 p=none):H2 p=none:=by
 refine hs.free ?_
 by_cases z:p=c
 ·subst z;rw[bV]at h;cases h
 ·rw[aN z]at h
  by_cases z2:p=f
  ·subst z2;rw[bV]at h;cases h
  ·rw[aN z2]at h;exact h
theorem LI.rem{l:List Int}{φ:Heap->Prop}{y:Addr}(h:LI H' p l)(hf:H' f=some (.ext φ))(hc:H' c=some (.own y)):LI (rem H' f c) p l:=by
 unfold LI at h ⊢
 rw[fX (λz=>by rw[z,hf]at h;cases h) (λz=>by rw[z,hc]at h;cases h)];exact h
theorem QT{of oc:Obj}{k:Addr}(lN:c≠f)(nc:H3 c=none)(hk:E4 H3 k)(kf:k≠f):gC (L2.upd (L2.upd H3 f (.ext (iJ of oc c f))) c (.own f)) f of oc c k:=by
 obtain⟨ψ,e,x6⟩:=hk
 exact⟨by rw[aN lN.symm,bV],bV,ψ,yg e kf nc,x6⟩
end
noncomputable def fl(m:Bool × Nat):List Int:=(yb (gm m) (ah m)).getD []
noncomputable def fst(m:Bool × Nat):Int:=(fl m).getD ((1:Int)%((ah m:Int)-1)).toNat 0
noncomputable def QU(m:Bool × Nat):Bool:=decide (2<=ah m)&&decide (ah m<=64)&&(yb (gm m) (ah m)).isSome&&decide ((fl m).length+1=ah m)&&(fl m).all (λx=>decide (0<=x)&&decide (x.toNat<=(fl m).length))&&decide (((1:Int)%((ah m:Int)-1)).toNat<(fl m).length)
theorem cj6:aF.all QU=true:=by decide +kernel
theorem bN{m:Bool × Nat}(h:m∈aF):QR (gm m) (ah m) (fl m) (fst m):=by
 have h:=dM.mp cj6 m h
 simp only[QU,dh,decide_eq_true_eq,dM]at h
 obtain⟨⟨⟨⟨⟨h1,h2⟩,h3⟩,h4⟩,h5⟩,h6⟩:=h
 obtain⟨l,e⟩:=zi.mp h3
 have el:fl m=l:=by unfold fl;rw[e];rfl
 refine⟨h1,h2,by rw[e,el],h4,λx hx=>h5 x hx,?_⟩
 unfold fst
 rw[bF,bu h6];rfl
theorem b71:∀p∈mr,(decide (2<=(p:Int))&&decide ((p:Int)<=61)&&(aV ((p:Int).toNat-2)).all λi=>(p:Int)%(2+(i:Int)) != 0)=true:=by decide +kernel
theorem cc7:∀p∈fY,(decide (4<=(p:Int))&&decide ((p:Int)<=127)&&al (p:Int).toNat)=true:=by decide +kernel
theorem R.ye{F H:Hp}{x C dx:Addr}{fs:List (Str × V)}{o':HO}{ds:List D}{vs:List V}{A:List Addr}(r:R F H ds vs A)(hx:H x=some (.ins C dx fs))(hd:ds.all D.fr=true):R F (L2.upd H x o') ds vs A:=by
 have up:∀{a o},H a=some o->(∀C dx fs,o≠.ins C dx fs)->L2.upd H x o' a=some o:=λ{a o} e n=>by
  rw[aN (λz=>by rw[z,hx]at e;cases e;exact n _ _ _ rfl)];exact e
 induction r with
 | nil=>exact .nil
 | ao _ ih=>exact .ao (ih (by simpa[D.fr]using hd))
 | bl _ ih=>exact .bl (ih (by simpa[D.fr]using hd))
 | int _ ih=>exact .int (ih (by simpa[D.fr]using hd))
 | str _ ih=>exact .str (ih (by simpa[D.fr]using hd))
 | shr h x _ i1 ih=>simp[ib]at hd
 | own h f _ _ i1 i2 =>
  rw[dX,ib,dh,og]at hd
  exact .own (up h λ_ _ _ z=>by cases z) f (i1 hd.1) (i2 hd.2)
 | tup h _ _ i1 i2 =>
  rw[dX,nu,dh]at hd
  exact .tup (up h λ_ _ _ z=>by cases z) (i1 hd.1) (i2 hd.2)
 | obj h l x _ i1 ih=>simp[D.fr]at hd
 | fz h x _ i1 ih=>simp[D.fr]at hd
 | @aR p z _ _ _ h r ih =>
  refine .aR ?_ (ih (by simpa[D.fr]using hd))
  cases z with
  | ext φ=>exact up h λ_ _ _ z=>by cases z
  | lam of oc c k=>exact gC.ye h hx
theorem QV(l g:List Int):(nK l g).all D.fr=true:=by
 unfold nK uo
 rw[zt,dM]
 intro a _
 show(D.lst true (nums _)).fr=true
 rw[ib,pX];rfl
theorem de.free{x a:Addr}{H H':Hp}(s:de x H H')(hx:H' x≠none)(h:H' a=none):H a=none:=by
 cases q:H a with
 | none=>rfl
 | some o =>
  by_cases z:a=x
  ·subst z;exact absurd h hx
  ·cases n:ia o with
   | true=>rw[s.get a o z q n]at h;cases h
   | false =>
    obtain⟨ps,rfl⟩:=E3 n
    obtain⟨m,e⟩:=s.tb a ps q
    rw[e]at h;cases h
theorem QW(l:List Int):∀i,∀x∈mw l i,0<=x
 | 0=>λx hx=>by rw[(DB.mp hx).2];exact Int.le_refl _
 | i+1=>λx hx=>by
  unfold mw at hx
  rcases MW hx with h | h
  ·exact QW l i x h
  ·rw[h];exact MB _
theorem QX:∀p∈fY,bl p<=7:=by decide +kernel
theorem QY:∀p∈fY,1<=bl p:=by decide +kernel
theorem bV5(a b:Nat):bl (cl a b)<=bl a+bl b:=by
 by_cases ha:a=0
 ·subst ha;rw[nj];exact gi _
 ·by_cases hb:b=0
  ·subst hb
   have:cl a 0=0:=rfl
   rw[this];exact gi _
  ·rw[Ol ha hb];omega
noncomputable def ur(l g:List Int):List D:=(aV (l.length+1)).map λa=>D.lst false (nums (nJ l g a))
theorem bX1(l g:List Int):(D.lst true (nK l g)).sh=.lst false (ur l g):=by
 rw[fQ]
 unfold nK uo ur
 rw[gk]
 congr 1
 apply vY
 intro a _
 show D.sh (.lst true (nums _))=_
 rw[fQ,iT]
noncomputable abbrev pD(m:Bool × Nat):List D:=[.int m.2,.int (ah m),.int ((bl (ah m):Nat)-1),.lst false (nums (fl m)),.lst false (nums (dy (fl m))),.int (fst m)]
noncomputable def qh(C:Addr)(p:Nat):D:=.obj C (fZ "prime") (pD (false,p))
noncomputable def yh(C:Addr)(p:Nat):D:=.obj C (fZ "bits"++[("products":Str)]) (pD (true,p)++[.lst false (ur (fl (true,p)) (dy (fl (true,p))))])
noncomputable def fD(cb cp:Addr)(m:Bool × Nat):D:=if m.1 then yh cb m.2 else qh cp m.2
end L3
namespace L3
open PySem L2 Mf
theorem yi{u p:Nat}(h:bl u<bl p):md u p=u:=wU (q:=0) (by rw[nj,mM]) h
theorem bQ3{u v n:Nat}(hu:bl u<n)(hv:bl v<n):bl (u ^^^ v)<n:=by
 have h1:u<2 ^ (n-1):=dF.mp (by omega)
 have h2:v<2 ^ (n-1):=dF.mp (by omega)
 have:=dF.mpr (rL h1 h2)
 omega
theorem Bi{p:Nat}(hp:p≠0)(u v:Nat):md (u ^^^ v) p=md u p ^^^ md v p:=by
 obtain⟨⟨q1,e1⟩,l1⟩:=wR hp u
 obtain⟨⟨q2,e2⟩,l2⟩:=wR hp v
 refine wU (q:=q1 ^^^ q2) ?_ (bQ3 l1 l2)
 rw[ni,<- Oa,<- e1,<- e2]
theorem QZ{p:Nat}(hp:p≠0)(w:Nat):md (cl p w) p=0:=by rw[wQ];exact Ze w hp
theorem bR:∀m∈aF,0<m.2:=by decide +kernel
theorem jf(m:Bool × Nat)(a b:Nat):gm m a b=gm m b a:=by
 unfold gm
 split
 ·rw[wQ]
 ·rw[kK]
theorem Q0{n:Nat}(hn:n≠0)(u c:Nat):md (cl (md u n) c) n=md (cl u c) n:=by
 obtain⟨⟨q,e⟩,_⟩:=wR hn u
 have h:cl u c=cl n (cl q c) ^^^ cl (md u n) c:=by
  conv=>lhs;rw[e]
  rw[ni,wQ n q,Ou]
 rw[h,Bi hn,QZ hn,mM]
theorem kA{m:Bool × Nat}(h:0<m.2)(a b c:Nat):gm m (gm m a b) c=gm m a (gm m b c):=by
 unfold gm
 split
 ·rw[Q0 (by omega),wQ (md (cl b c) m.2) a,Q0 (by omega),Ou a b c,wQ (cl b c) a]
 ·rw[v3,MX,<- v3,v3 a (b*c%m.2),MX,<- v3,oa]
theorem Q1{m:Bool × Nat}(h:m.1=true){a:Nat}:a<ah m↔bl a<=bl m.2-1:=by
 unfold ah
 rw[if_pos h];exact dF.symm
theorem Gd{m:Bool × Nat}{a:Nat}(ha:a<ah m):gm m 1 a=a:=by
 obtain⟨k,n⟩:=m
 cases k with
 | true =>
  show md (cl 1 a) n=a
  rw[EB]
  have h1:=(Q1 (m:=(true,n)) rfl).mp ha
  have h1:bl a<=bl n-1:=h1
  by_cases z:bl n=0
  ·have a0:a=0:=by
    have:=dF (n:=a) (m:=0)
    have:=this.mp (by omega)
    omega
   subst a0
   have n0:n=0:=by
    have:=(dF (n:=n) (m:=0)).mp (by omega)
    omega
   subst n0
   decide
  ·exact yi (by omega)
 | false=>show 1*a%n=a;rw[Nat.one_mul];exact zx ha
theorem uu{m:Bool × Nat}{a:Nat}(ha:a<ah m):gm m a 1=a:=by rw[jf];exact Gd ha
noncomputable def lg(m:Bool × Nat)(a:Nat):Int:=(dy (fl m)).getD a 0
noncomputable def pw(m:Bool × Nat)(k:Nat):Int:=(fl m).getD k 0
noncomputable def Ge(m:Bool × Nat):Bool:=((aV (ah m-1)).all λk=>decide (1<=pw m k)&&decide (pw m k<ah m)&&decide (lg m (pw m k).toNat=k))&&((aV (ah m-1)).all λa=>decide (0<=lg m (a+1))&&decide (lg m (a+1)<(ah m:Int)-1)&&decide (pw m (lg m (a+1)).toNat=((a+1:Nat):Int)))
theorem Q2:aF.all Ge=true:=by decide +kernel
theorem Bj{m:Bool × Nat}(hm:m∈aF){k:Nat}(hk:k<ah m-1):1<=pw m k/\pw m k<ah m/\lg m (pw m k).toNat=k:=by
 have h:=dM.mp Q2 m hm
 simp only[Ge,dh,dM,decide_eq_true_eq,gR]at h
 have:=h.1 k hk
 exact⟨this.1.1,this.1.2,this.2⟩
theorem Bk{m:Bool × Nat}(hm:m∈aF){a:Nat}(h1:1<=a)(h2:a<ah m):0<=lg m a/\lg m a<(ah m:Int)-1/\pw m (lg m a).toNat=a:=by
 have h:=dM.mp Q2 m hm
 simp only[Ge,dh,dM,decide_eq_true_eq,gR]at h
 have:=h.2 (a-1) (by omega)
 rw[show a-1+1=a by omega]at this
 exact⟨this.1.1,this.1.2,this.2⟩
theorem fg(m:Bool × Nat)(b:Nat)(h:0<m.2):gm m 0 b=0:=by
 unfold gm
 split
 ·rw[nj];exact yi (by rw[kZ];exact fM (by omega))
 ·rw[Nat.zero_mul,Nat.zero_mod]
theorem jg(m:Bool × Nat)(b:Nat)(h:0<m.2):gm m b 0=0:=by rw[jf];exact fg m b h
noncomputable def stC(m:Bool × Nat):Bool:=decide (pw m 0=1)&&(aV (ah m-1)).all λk=>decide (gm m (pw m k).toNat (pw m (1%(ah m-1))).toNat=(pw m ((k+1)%(ah m-1))).toNat)
theorem Q3:aF.all stC=true:=by decide +kernel
theorem ck8(m:Bool × Nat)(hm:m∈aF):pw m 0=1:=by
 have h:=dM.mp Q3 m hm
 simp only[stC,dh,decide_eq_true_eq]at h
 exact h.1
noncomputable def pN(m:Bool × Nat)(k:Nat):Nat:=(pw m (k%(ah m-1))).toNat
theorem cA6{m:Bool × Nat}(hm:m∈aF)(k:Nat):pN m k<ah m:=by
 have dE:=(bN hm).lo
 have:=Bj hm (mU k (show 0<ah m-1 by omega))
 unfold pN
 omega
theorem Q4{m:Bool × Nat}(hm:m∈aF)(k:Nat):gm m (pN m k) (pN m 1)=pN m (k+1):=by
 have dE:=(bN hm).lo
 have h:=dM.mp Q3 m hm
 simp only[stC,dh,decide_eq_true_eq,dM,gR]at h
 have h2:=h.2 (k%(ah m-1)) (mU k (by omega))
 rw[zy]at h2
 exact h2
theorem Q5{m:Bool × Nat}(hm:m∈aF)(i:Nat):∀j,gm m (pN m i) (pN m j)=pN m (i+j)
 | 0=>by
  have e:pN m 0=1:=by unfold pN;rw[Nat.zero_mod,ck8 m hm];rfl
  rw[e,uu (cA6 hm i)];rfl
 | j+1=>by rw[<-Q4 hm j,<- kA (bR m hm),Q5 hm i j,Q4 hm];rfl
theorem Gf{m:Bool × Nat}(hm:m∈aF){a b:Nat}(a1:1<=a)(a2:a<ah m)(b1:1<=b)(b2:b<ah m):((gm m a b:Nat):Int)=pw m ((lg m a+lg m b)%((ah m:Int)-1)).toNat:=by
 have dE:=(bN hm).lo
 obtain⟨g0,g1,g2⟩:=Bk hm a1 a2
 obtain⟨f0,f1,f2⟩:=Bk hm b1 b2
 have ea:pN m (lg m a).toNat=a:=by unfold pN;rw[zx (by omega),g2];rfl
 have eb:pN m (lg m b).toNat=b:=by unfold pN;rw[zx (by omega),f2];rfl
 have e:=Q5 hm (lg m a).toNat (lg m b).toNat
 rw[ea,eb]at e
 rw[e]
 have ei:((lg m a+lg m b)%((ah m:Int)-1)).toNat=((lg m a).toNat+(lg m b).toNat)%(ah m-1):=by
  have:(((lg m a).toNat+(lg m b).toNat)%(ah m-1):Nat)=((lg m a+lg m b)%((ah m:Int)-1)):=by
   rw[mV,DH,zA g0,zA f0,Int.natCast_sub (by omega)];rfl
  omega
 rw[ei]
 have:=Bj hm (mU ((lg m a).toNat+(lg m b).toNat) (show 0<ah m-1 by omega))
 unfold pN
 omega
theorem ci6{p a:Nat}(hp:p∈fY)(ha:a<ah (true,p)):nJ (fl (true,p)) (dy (fl (true,p))) a=(aV (ah (true,p))).map λb=>((gm (true,p) a b:Nat):Int):=by
 have hm:(true,p)∈aF:=fq _ (DI hp)
 have h0:=bR _ hm
 have hF:=bN hm
 have hlen:=hF.len
 unfold nJ
 split
 ·rename_i h
  subst h
  rw[hlen]
  refine zB (by simp) λi h1 h2=>?_
  simp[fg _ _ h0]
 ·rename_i h
  rw[<-hlen,VO,dk,gk,jg _ _ h0]
  congr 1
  apply vY
  intro b hb
  have hb:=gR.mp hb
  show(fl (true,p)).getD (((dy (fl (true,p))).getD a 0+(dy (fl (true,p))).getD (b+1) 0)%((fl (true,p)).length:Int)).toNat 0=((gm (true,p) a (b+1):Nat):Int)
  rw[Gf hm (by omega) ha (by omega) (by omega),show(((fl (true,p)).length:Nat):Int)=(ah (true,p):Int)-1 by omega]
  rfl
theorem Q6{p a b:Nat}(hp:p∈fY)(ha:a<ah (true,p))(hb:b<ah (true,p)):dD (nums (nJ (fl (true,p)) (dy (fl (true,p))) a)) (b:Int)=some (.int (gm (true,p) a b:Nat)):=by
 refine m6 (by omega) ?_
 rw[ci6 hp ha]
 unfold nums
 rw[fH,dm,dm,mS hb];rfl
theorem Q7{p a:Nat}(hp:p∈fY)(ha:a<ah (true,p)):dD (ur (fl (true,p)) (dy (fl (true,p)))) (a:Int)=some (.lst false (nums (nJ (fl (true,p)) (dy (fl (true,p))) a))):=by
 have hF:=bN (m:=(true,p)) (fq _ (DI hp))
 refine m6 (by omega) ?_
 unfold ur
 rw[fH,dm,mS (by rw[hF.len];exact ha)];rfl
end L3
namespace L3
open PySem L2 Mf
theorem cv0(C:Addr)(p:Nat):D.obj C (fZ "bits"++[("products":Str)]) (DE D.sh [.int p,.int (ah (true,p)),.int ((bl (ah (true,p)):Nat)-1),.lst true (nums (fl (true,p))),.lst true (nums (dy (fl (true,p)))),.int (fst (true,p)),.lst true (nK (fl (true,p)) (dy (fl (true,p))))])=yh C p:=by
 simp only[dk,kJ]
 rw[bX1]
 simp only[fQ,pV,iT];rfl
theorem bU6(C:Addr)(p:Nat):D.obj C (fZ "prime") (DE D.sh [.int p,.int p,.int ((bl p:Nat)-1),.lst true (nums (fl (false,p))),.lst true (nums (dy (fl (false,p)))),.int (fst (false,p))])=qh C p:=by
 simp only[dk,kJ,fQ,pV,iT];rfl
theorem Bl{n:Nat}(h:(true,n)∈aF):n∈fY:=by
 rcases eH.mp h with h | h
 ·obtain⟨x,hx,e⟩:=dn.mp h
  cases e;exact hx
 ·obtain⟨x,hx,e⟩:=dn.mp h
  cases e
theorem bx3{n:Nat}(h:(false,n)∈aF):n∈mr:=by
 rcases eH.mp h with h | h
 ·obtain⟨x,hx,e⟩:=dn.mp h
  cases e
 ·obtain⟨x,hx,e⟩:=dn.mp h
  cases e;exact hx
open Classical in
theorem bO6{α:Type}{sh:Bool}{xs:List D}{ax:List (Str × Nat)}{n:Nat}{g0:fS}{te:aD}{ai:Dl}{Q:D->Dl->Prop}(l:List α)(e g:α->D)(ik:xs.map D.sh=l.map e)(inj:∀a b,e a=e b->a=b)
  (hx:∀a∈l,g0 (e a) (fc ax n ai) λaI=>te aI λd _=>d=g a) (hg:∀d δ (P P':Dl->Prop),(∀ag,P ag->P' ag)->g0 d δ P->g0 d δ P') (di:(sh&&ax.all (ig ai))=true\/∀a∈l,(g a).fr=true) (hl:l.length<=sizeLine) (hq:Q (.lst true (l.map g)) ai):pF sh xs ax n g0 jy te ai Q:=by
 let f:D->D:=λx=>if h:∃a∈l,e a=x then g h.choose else .ao
 have hf:∀a∈l,f (e a)=g a:=λa ha=>by
  have h:∃b∈l,e b=e a:=⟨a,ha,rfl⟩
  show(if h:∃b∈l,e b=e a then g h.choose else .ao)=g a
  rw[dif_pos h]
  exact congrArg g (inj _ _ h.choose_spec.2)
 refine⟨λ_=>true,f,λx h=>?_,di.imp id λh x hx _=>?_,?_,?_⟩
 ·rw[ik]at h
  obtain⟨a,ha,rfl⟩:=dn.mp h
  rw[hf a ha]
  exact hg _ _ _ _ (λag h=>⟨rfl,λ_=>h⟩) (hx a ha)
 ·rw[ik]at hx
  obtain⟨a,ha,rfl⟩:=dn.mp hx
  rw[hf a ha];exact h a ha
 ·have:=congrArg Dh ik
  simp at this
  omega
 ·rw[ik,MR.mpr (λ_ _=>rfl),gk,show l.map (f ∘ e)=l.map g from vY λa ha=>hf a ha]
  exact hq
theorem b63{i1 i2:Nat}(d:D)(δ:Dl)(P P':Dl->Prop)(h:∀ag,P ag->P' ag)(q:je i1 i2 d δ P):je i1 i2 d δ P':=by
 unfold je at q ⊢
 split at q
 ·exact h _ q
 ·exact q
theorem bG9(xs ys:List Int):(gI (nums xs) (nums ys)).map D.sh=(xs.zip ys).map λz=>D.tup [.int z.1,.int z.2]:=by
 rw[Qc,iT,iT]
 unfold gI nums
 rw[List.zipWith_map,List.zip,DF]
theorem cl9{p x y:Nat}(hp:p≠0)(hx:bl x<bl p):md (cl x y) p=(if y%2=1 then x else 0) ^^^ md (cl (if bl (2*x)=bl p then 2*x ^^^ p else 2*x) (y/2)) p:=by
 have e0:md (if y%2=1 then x else 0) p=(if y%2=1 then x else 0):=by
  split
  ·exact yi hx
  ·exact yi (by rw[kZ];exact fM hp)
 rw[Oh,Bi hp,e0]
 congr 1
 split
 ·rw[ni,Bi hp,QZ hp,jk]
 ·rfl
theorem cf6{p x:Nat}(hp:p≠0)(hx:bl x<bl p):bl (if bl (2*x)=bl p then 2*x ^^^ p else 2*x)<bl p:=by
 have h2:=Zg x
 have h0:=fM hp
 split
 ·rename_i h
  have n0:2*x≠0:=λz=>by rw[z,kZ]at h;omega
  have a1:=hV (2*x)
  have a2:=hV p
  have b1:=rJ n0
  have b2:=rJ hp
  rw[h]at a1 b1
  obtain⟨k,hk⟩:∃k,bl p=k+1:=⟨bl p-1,by omega⟩
  rw[hk]at a1 a2 b1 b2 ⊢
  have:=dF.mpr (N8 a1 a2 b1 b2)
  omega
 ·omega
end L3
namespace L3
open PySem L2 PySem.Spec PyProof.Rows
structure Bo(P:Program)(w:World)(K:PySem.W.Frag)(mg:Str->Option Value)(base:Heap)(n:Nat)(m:Str)(C:Addr)(sp:jC):Prop where
 cls:dq K C
 ex:∃f fd ps,Meth K C m f/\aO P w K mg base (iH P w) n f fd ps (kq sp)/\Binds K fd ps []
section
variable{X:Cx}{e o:Expr}{es:List Expr}{f m x:Str}{pos p apos:Pos}{to:aD}{ta:bX}{n:Nat}
noncomputable def qi(MO:Addr->jC->Prop)(m:Str)(to:aD)(ta:bX):tT:=λδ Q Z=>to δ λd ai=>∃C ns xs sp,d=.obj C ns xs/\MO C sp/\m ∉ ns/\ta ai λds aI=>sp ((D.obj C ns xs::ds).map D.sh) (λr=>((D.obj C ns xs::ds).all D.pl||r.fr)=true/\Q r aI) λC=>Z C aI
theorem cp8{pl:Sem Bool}(ho:PE X o (lB to))(hr:bH n X.A)(hex:X.ex=[])(ha:PA X (e::es) (lA ta))
  (bW:starEach (e::es) X.env=(false,eval e X.env)::starEach es X.env:=by rfl) (aW:(backTo pos (starEach es X.env)).any (·.1)=false:=by rfl)
  (ht:eval (.Call (.Attribute o m apos) (e::es) [] pos) X.env=(do
   let ov<-eval o X.env
   standAt apos.atName
   let (f,first)<-holding [ov] (getMethod ov m pl)
   callWith pos f first (backTo pos (starEach (e::es) X.env)) (backToKw pos (keywordEach [] X.env))):=by rfl) :
  PX X (.Call (.Attribute o m apos) (e::es) [] pos) (lX (qi (Bo X.prog X.w X.K X.mg X.base n m) m to ta)):=by
 intro pins s σ H Q Z I hz zz
 obtain⟨B,F,δ,Qd,Zd,c,q,k,kx⟩:=zz
 refine PySem.W.methodCall_KW (pl:=pl) (aE (ho pins s σ H (λx H1=>∃d ai F1,S F1 H1 [d] [x]/\aj B F1 H1 σ ai []/\aa F F1/\aa H H1/\∃C ns xs sp,d=.obj C ns xs/\Bo X.prog X.w X.K X.mg X.base n m C sp/\m ∉ ns/\ta ai λds aI=>sp ((D.obj C ns xs::ds).map D.sh) (λr=>((D.obj C ns xs::ds).all D.pl||r.fr)=true/\Qd r aI) λC=>Zd C aI) I
  ⟨B,F,δ,[],_,c,q,λd ai v F1 H1 hq f1 h1 c1 s1=>⟨d,ai,F1,s1,c1,f1,h1,hq⟩⟩) λu s1 ⟨x,H1,I1,rx,d,ai,F1,sd,c1,f1,h1,C,ns,xs,sp,ed,M,hm,hq⟩=>?_) ht
 subst ed
 obtain⟨a,dx,ws,rfl,ea,hl,r0⟩:=FX sd
 obtain rfl:u=dg a:=rx
 obtain⟨f,fd,ps,ya,FO,hb⟩:=M.ex
 refine Ei I1 ea M.cls ya (QN hm) ?_
 refine PySem.W.callWith_K (first:=[.ref a]) (h₀:=X.base) I.ok.mod.jW ya.kp (aE (ha pos pins s1 σ H1 (λvs H2=>∃ds aI F2,S F2 H2 ds vs/\aj B F2 H2 σ aI []/\aa F1 F2/\aa H1 H2/\sp ((D.obj C ns xs::ds).map D.sh) (λr=>((D.obj C ns xs::ds).all D.pl||r.fr)=true/\Qd r aI) λC=>Zd C aI) I1
  ⟨B,F1,ai,[],_,c1,hq,λds aI vs F2 H2 hq f2 h2 c2 s2=>⟨ds,aI,F2,s2,c2,f2,h2,hq⟩⟩) λus s2 ⟨vs,H2,I2,r,ds,aI,F2,FY,c2,f2,h2,hJ⟩=>⟨I2.cB,?_⟩) bW aW
 refine PY (us:=.ref a::us) (vs:=.ref a::vs) (E:=λcls _ H'=>Z cls H') FO hr hb hex I2 (.cons rfl r) ?_ λa T cls H' s' I' tr pa pT hE=>hz a T cls H' s' I' tr pa pT hE
 exact PZ c2 (.obj (h2 _ _ ea) hl (r0.shared f2 h2) FY) hJ (λd v F' H' hd hf hs c'=>k d aI v F' H' hd (f1.trans (f2.trans hf)) (h1.trans (h2.trans hs)) c') λC H' hC hs=>kx C aI F2 H' hC (f1.trans f2) (h1.trans (h2.trans hs)) (c2.grow hs)
end
section
variable{X:Cx}{tb th:bS}{body FD:List Stmt}{FE:Stmt}{K:Str}{Kc:Addr}{kp P8 pos:Pos}
end
structure Q8(K:PySem.W.Frag)(C:Addr):Prop where
 cls:dq K C
 ha:PySem.W.findIn K (.ref C) "__class__"=some (some (.builtin "object.__class__"))
 hn:PySem.W.specialIn K (.builtin "object.__class__") "__get__"=some (some (.builtin "getset_descriptor.__get__"))
 Ej:PySem.W.takesIn K (.builtin "object.__class__")=some true
 hm:PySem.W.mroIn K C (.type "object")=some true
end L3
namespace L3
open PySem L2 Mf
theorem Q9{m:Bool × Nat}(hm:m∈aF){a b:Nat}(a1:1<=a)(a2:a<ah m)(b1:1<=b)(b2:b<ah m):∃r:Nat,pw m ((lg m a-lg m b)%((ah m:Int)-1)).toNat=r/\r<ah m/\gm m r b=a:=by
 have hF:=bN hm
 have dE:=hF.lo
 have n0:=gW (lg m a-lg m b) (show(ah m:Int)-1≠0 by omega)
 have n1:=gX (lg m a-lg m b) (show(0:Int)<(ah m:Int)-1 by omega)
 obtain⟨p1,p2,p3⟩:=Bj hm (k:=((lg m a-lg m b)%((ah m:Int)-1)).toNat) (by omega)
 obtain⟨g0,g1,g2⟩:=Bk hm a1 a2
 refine⟨(pw m ((lg m a-lg m b)%((ah m:Int)-1)).toNat).toNat,by omega,by omega,?_⟩
 have e:=Gf hm (a:=(pw m ((lg m a-lg m b)%((ah m:Int)-1)).toNat).toNat) (by omega) (by omega) b1 b2
 rw[p3,zA n0,Int.emod_add_emod,Int.sub_add_cancel,MY g0 g1,g2]at e
 omega
end L3
namespace L3
open PySem L2 PySem.Spec PyProof.Rows
section
variable{X:Cx}{e o a:Expr}{es:List Expr}{f m y:Str}{pos p apos q:Pos}{t to ta':aD}{ta:bX}{n:Nat}{P:Program}{w:World}{K:PySem.W.Frag}{mg:Str->Option Value}{base:Heap}
theorem jh(he:PE X e (lB t))(hK:K=X.K:=by rfl)(hb:attributeBase e f X.env (eval e X.env)=eval e X.env:=by rfl):PE X (.Attribute e f pos) (lB (qe K t f)):=by
 subst hK;exact cE4 he hb
theorem nL{pl:Sem Bool}(ho:PE X o (lB to))(hr:bH n X.A)(ha:PA X (e::es) (lA ta))(hP:P=X.prog:=by rfl)(hw:w=X.w:=by rfl)(hK:K=X.K:=by rfl)(hm:mg=X.mg:=by rfl)(hb:base=X.base:=by rfl)
  (bW:starEach (e::es) X.env=(false,eval e X.env)::starEach es X.env:=by rfl) (aW:(backTo pos (starEach es X.env)).any (·.1)=false:=by rfl)
  (ht:eval (.Call (.Attribute o m apos) (e::es) [] pos) X.env=(do
   let ov<-eval o X.env
   standAt apos.atName
   let (f,first)<-holding [ov] (getMethod ov m pl)
   callWith pos f first (backTo pos (starEach (e::es) X.env)) (backToKw pos (keywordEach [] X.env))):=by rfl) :
  PE X (.Call (.Attribute o m apos) (e::es) [] pos) (lE (qg (qf P w K mg base n m) m to ta)):=by
 subst hP hw hK hm hb;exact cx1 ho hr ha bW aW ht
theorem cm3{pl:Sem Bool}(ho:PE X o (lB to))(hr:bH n X.A)(hex:X.ex=[])(ha:PA X (e::es) (lA ta))(hP:P=X.prog:=by rfl)(hw:w=X.w:=by rfl)(hK:K=X.K:=by rfl)(hm:mg=X.mg:=by rfl)(hb:base=X.base:=by rfl)
  (bW:starEach (e::es) X.env=(false,eval e X.env)::starEach es X.env:=by rfl) (aW:(backTo pos (starEach es X.env)).any (·.1)=false:=by rfl)
  (ht:eval (.Call (.Attribute o m apos) (e::es) [] pos) X.env=(do
   let ov<-eval o X.env
   standAt apos.atName
   let (f,first)<-holding [ov] (getMethod ov m pl)
   callWith pos f first (backTo pos (starEach (e::es) X.env)) (backToKw pos (keywordEach [] X.env))):=by rfl) :
  PX X (.Call (.Attribute o m apos) (e::es) [] pos) (lX (qi (Bo P w K mg base n m) m to ta)):=by
 subst hP hw hK hm hb;exact cp8 ho hr hex ha bW aW ht
end
theorem cf1:∀m∈Mf.aF,1<=Mf.bl m.2/\Mf.bl m.2<=7:=by decide +kernel
end L3
namespace L3
open PySem L2 Mf
noncomputable def gp(m:Bool × Nat)(a b:Nat):Nat:=if m.1 then a ^^^ b else(a+b)%m.2
noncomputable def gl(m:Bool × Nat)(a b:Nat):Int:=if m.1 then(a ^^^ b:Nat)else((a:Int)-b)%m.2
noncomputable def gd(m:Bool × Nat)(xs ys:List Nat):Nat:=(kO (gm m) xs ys).foldl (gp m) 0
noncomputable def nM(c:Int):Bool × Nat:=if c%2=0 then(true,fY.getD (c/2%21).toNat 0)else(false,mr.getD (c/2%18).toNat 0)
theorem bZ1(c:Int):nM c∈aF:=by
 unfold nM
 split
 ·refine fq _ (dn.mpr ⟨_,?_,rfl⟩)
  have h:(c/2%21).toNat<fY.length:=by
   have:=gX (c/2) (show(0:Int)<21 by decide)
   show _<21
   omega
  rw[bF,bu h]
  exact i6 _
 ·refine eI _ (dn.mpr ⟨_,?_,rfl⟩)
  have h:(c/2%18).toNat<mr.length:=by
   have:=gX (c/2) (show(0:Int)<18 by decide)
   show _<18
   omega
  rw[bF,bu h]
  exact i6 _
noncomputable def dJ(m:Bool × Nat):D:=.tup [.bl m.1,.int m.2]
theorem Bp(cb cp:Addr)(m:Bool × Nat):fD cb cp m=.obj (if m.1 then cb else cp) (if m.1 then fZ "bits"++[("products":Str)]else fZ "prime") (if m.1 then pD (true,m.2)++[.lst false (ur (fl (true,m.2)) (dy (fl (true,m.2))))]else pD (false,m.2)):=by
 obtain⟨k,n⟩:=m
 cases k<;>rfl
theorem cB5(m:Bool × Nat)(x:Str)(h:x ∉ (["bits","prime","many","wide","powers","logs","step","products"]:List Str)):x ∉ (if m.1 then fZ "bits"++[("products":Str)]else fZ "prime"):=by
 obtain⟨k,n⟩:=m
 intro z
 apply h
 cases k
 ·have z:x∈fZ "prime":=z
  simp[fZ]at z
  simp only[bG]
  rcases z with z | z | z | z | z | z<;>simp[z]
 ·have z:x∈fZ "bits"++[("products":Str)]:=z
  simp[fZ]at z
  simp only[bG]
  rcases z with z | z | z | z | z | z | z<;>simp[z]
theorem cB4(cb cp:Addr)(m:Bool × Nat):(fD cb cp m).sh=fD cb cp m:=by rw[Bp];rfl
theorem cB9(cb cp:Addr)(m:Bool × Nat):(fD cb cp m).pl=true:=by rw[Bp];rfl
theorem cl3(m:Bool × Nat):(dJ m).sh=dJ m:=rfl
theorem cg2(m:Bool × Nat):(dJ m).pl=true:=rfl
noncomputable def Ra(P:Program)(w:World)(K:PySem.W.Frag)(mg:Str->Option Value)(base:Heap)(n:Nat)(cb cp:Addr)(m:Bool × Nat)(x:Str)(ds:List D)(Q:D->Prop):Prop:=∃C ns xs sp,fD cb cp m=.obj C ns xs/\qf P w K mg base n x C sp/\x ∉ ns/\sp (.obj C ns xs::ds) Q
theorem gK(m:Bool × Nat)(a b:Nat):gp m a b=gp m b a:=by
 unfold gp
 split
 ·rw[MH]
 ·rw[Dm]
theorem iW(m:Bool × Nat)(a b c:Nat):gp m (gp m a b) c=gp m a (gp m b c):=by
 unfold gp
 split
 ·rw[n9]
 ·rw[zy,Nat.add_mod_mod,Nat.add_assoc]
theorem yj{m:Bool × Nat}(h:0<m.2)(a b c:Nat):gm m (gp m a b) c=gp m (gm m a c) (gm m b c):=by
 unfold gm gp
 split
 ·rw[ni,Bi (by omega)]
 ·rw[v3,MX,<- v3,Nat.add_mul,zy,Nat.add_mod_mod]
theorem yk{m:Bool × Nat}(h:0<m.2)(a b c:Nat):gm m c (gp m a b)=gp m (gm m c a) (gm m c b):=by rw[jf,yj h,jf m a,jf m b]
theorem b08:∀m∈aF,m.1=true->2<=bl m.2:=by decide +kernel
theorem qj{m:Bool × Nat}(hm:m∈aF){a b:Nat}(ha:a<ah m)(hb:b<ah m):gp m a b<ah m:=by
 have h0:=bR m hm
 obtain⟨k,n⟩:=m
 cases k with
 | true=>exact rL ha hb
 | false=>exact mU _ h0
theorem dU{m:Bool × Nat}(hm:m∈aF)(a b:Nat):gm m a b<ah m:=by
 have h0:=bR m hm
 obtain⟨k,n⟩:=m
 cases k with
 | true =>
  have h2:=b08 (true,n) hm rfl
  have:=(wR (show n≠0 by have:0<n:=h0;omega) (cl a b)).2
  refine(Q1 rfl).mpr ?_
  show bl (md (cl a b) n)<=bl n-1
  omega
 | false=>exact mU _ h0
theorem fC{m:Bool × Nat}{a:Nat}(ha:a<ah m):gp m 0 a=a:=by
 obtain⟨k,n⟩:=m
 cases k with
 | true=>exact mM a
 | false=>show(0+a)%n=a;rw[Nat.zero_add];exact zx ha
theorem jD{m:Bool × Nat}{a:Nat}(ha:a<ah m):gp m a 0=a:=by rw[gK];exact fC ha
theorem cA7{m:Bool × Nat}(hm:m∈aF){a b:Nat}(ha:a<ah m)(hb:b<ah m):∃r:Nat,gl m a b=r/\r<ah m/\gp m r b=a:=by
 have h0:=bR m hm
 obtain⟨k,n⟩:=m
 cases k with
 | true=>exact⟨a ^^^ b,rfl,rL ha hb,by show a ^^^ b ^^^ b=a;rw[n9,zm,jk]⟩
 | false =>
  have h0:0<n:=h0
  have ha:a<n:=ha
  have hb:b<n:=hb
  refine⟨(a+(n-b))%n,?_,mU _ h0,?_⟩
  ·show((a:Int)-b)%n=_
   rw[mV,DH,Int.natCast_sub (by omega),show((a:Int)+((n:Int)-b))=((a:Int)-b)+n by omega,Int.add_emod_right]
  ·show((a+(n-b))%n+b)%n=a
   rw[zy,show a+(n-b)+b=a+n by omega,Nat.add_mod_right,zx ha]
noncomputable def eS(m:Bool × Nat)(n:Int):Nat:=(pw m (n%((ah m:Int)-1)).toNat).toNat
theorem Bq{m:Bool × Nat}(hm:m∈aF)(n:Int):1<=eS m n/\eS m n<ah m/\lg m (eS m n)=n%((ah m:Int)-1)/\pw m (n%((ah m:Int)-1)).toNat=eS m n:=by
 have dE:=(bN hm).lo
 have n0:=gW n (show(ah m:Int)-1≠0 by omega)
 have n1:=gX n (show(0:Int)<(ah m:Int)-1 by omega)
 obtain⟨p1,p2,p3⟩:=Bj hm (k:=(n%((ah m:Int)-1)).toNat) (by omega)
 unfold eS
 rw[p3]
 omega
theorem cB1{m:Bool × Nat}(hm:m∈aF)(a b:Int):gm m (eS m a) (eS m b)=eS m (a+b):=by
 obtain⟨a1,a2,a3,_⟩:=Bq hm a
 obtain⟨b1,b2,b3,_⟩:=Bq hm b
 have e:=Gf hm a1 a2 b1 b2
 rw[a3,b3,<- Int.add_emod]at e
 have c:=(Bq hm (a+b)).2.2.2
 rw[c]at e
 omega
theorem Rb{m:Bool × Nat}(hm:m∈aF){a:Nat}(h1:1<=a)(h2:a<ah m):eS m (lg m a)=a:=by
 obtain⟨g0,g1,g2⟩:=Bk hm h1 h2
 unfold eS
 rw[MY g0 g1,g2];rfl
theorem cD4{m:Bool × Nat}(hm:m∈aF){a b:Nat}(a1:1<=a)(a2:a<ah m)(b1:1<=b)(b2:b<ah m):gm m a b≠0:=by
 rw[<-Rb hm a1 a2,<- Rb hm b1 b2,cB1 hm]
 have:=(Bq hm (lg m a+lg m b)).1
 omega
noncomputable def aP(m:Bool × Nat)(x:Nat):List Nat->Nat
 | []=>0
 | a::l=>gp m (gm m (aP m x l) x) a
theorem qk{m:Bool × Nat}(hm:m∈aF)(x:Nat):∀{l:List Nat},(∀a∈l,a<ah m)->aP m x l<ah m
 | [],_=>by have:=(bN hm).lo;show 0<_;omega
 | a::l,h=>qj hm (dU hm _ _) (h a (by simp))
end L3
namespace L2
open PySem PySem.Spec PyProof.Rows
noncomputable def Gg(K:PySem.W.Frag)(a:Addr)(n:Nat):It :=
 ⟨λi H=>i<n/\∃xs x,bc K H a xs/\xs[n-1-i]?=some x,λi H x H'=>H'=H/\∀xs,bc K H a xs->xs[n-1-i]?=some x,λi _=>n<=i⟩
theorem bV6{P:Program}{w:World}{K:PySem.W.Frag}{tg:Expr}(a it:Addr)(n:Nat):Turn P w K tg (Gg K a n) [it] it (λi h=>i<=n/\h.IsRevIter it a ((n:Int)-1-(i:Int))) where
 mem:=by simp
 obj:=λi h st b hb=>by
  have e:b=it:=by simpa using hb
  subst e
  obtain⟨_,o,e,c,d⟩:=st
  exact⟨o,e,λv z=>by rw[d]at z;cases z⟩
 keep:=λi h h' st k=>⟨st.1,st.2.at λo e=>k it (by simp) o e⟩
 item:=by
  intro X hP hw hK hc i pins s σ H E I hf st hg
  subst hP hw hK
  obtain⟨hi,xs,x,hq,hx⟩:=hg
  obtain⟨its,rv,p,hz⟩:=I.list hq
  obtain⟨u,hu,ru⟩:=rv.get hx
  obtain⟨f0,f1,f2,f3,f4,f5⟩:=hf it (by simp)
  obtain⟨hle,st⟩:=st
  have e0:(n:Int)-1-(i:Int)=((n-1-i:Nat):Int):=by omega
  rw[e0]at st
  refine wpAny_pyNext_rev_item st p.isList (x:=u) (by simpa using hu) λh' gq sb=>?_
  have e1:((n-1-i:Nat):Int)-1=(n:Int)-1-((i+1:Nat):Int):=by omega
  rw[e1]at gq
  have I1:Inv X pins σ H { s with heap:=h' }:=I.turned (t':=s.toks) (λb o hb e=>(sb.2 b hb).trans e) f0 f1 f3 f4 f5
  obtain⟨o,e,c,d⟩:=id gq
  exact⟨u,rfl,z5 (s:={ s with heap:=h' }) e c d (by decide) ⟨x,H,I1,ru,⟨rfl,λys hy=>by rw[I.wA hy hq];exact hx⟩,⟨hi,gq⟩,λb hb=>(hf b hb).1⟩⟩
 done:=by
  intro X hP hw hK hc i pins s σ H E I hf st hg
  subst hP hw hK
  obtain⟨f0,f1,f2,f3,f4,f5⟩:=hf it (by simp)
  obtain⟨hle,st⟩:=st
  have hg:n<=i:=hg
  have e0:(n:Int)-1-(i:Int)=-1:=by omega
  rw[e0]at st
  exact wpAny_pyNext_rev_end (I.ok.hd hc) st λh' eb=>⟨rfl,I.turned (t':=s.toks) (λb o hb e=>eb b o hb e) f0 f1 f3 f4 f5⟩
 self:=λ_ _ _ _ _ st h=>wpAny_pyIter_revIter st.2 h
section
variable{X:Cx}{a:Expr}{ta:TA}{p pos:Pos}{tg:Expr}
noncomputable def cJ7(K:PySem.W.Frag)(ta:TA):TI:=λσ H R=>ta σ H λvs H1=>∃a xs,vs=[.ref a]/\bc K H1 a xs/\R (Gg K a xs.length) H1
theorem Rc:bootBuiltins "reversed"=some (.type "reversed"):=by decide +kernel
theorem cu9(hg:Gl X "reversed")(hm:X.mg "reversed"=none)(ha:PA X [a] ta)(hs:starEach [a] X.env=[(false,eval a X.env)]:=by rfl) :
  PI X tg (.Call (.Name "reversed" p) [a] [] pos) (cJ7 X.K ta):=by
 intro pins s σ H R I h
 refine Call_ (iw I hg hm Rc (jO (aE (ha pos pins s σ H _ I h) λus s1 ⟨vs,H1,I1,r1,q1⟩=>?_) hs rfl))
 obtain⟨a,xs,e,hx,q⟩:=q1
 subst e
 cases r1 with
 | cons r rr =>
  cases rr
  cases r
  obtain⟨as,ra,pa,_⟩:=I1.list hx
  have hl:=ra.length
  have hit:(s1.heap.push (revObj a ((as.toArray.size:Int)-1))).IsRevIter s1.heap.objs.size a ((xs.length:Int)-1-((0:Nat):Int)):=by
   refine⟨_,cS _ rfl,rfl,?_⟩
   rw[show(xs.length:Int)-1-((0:Nat):Int)=(as.toArray.size:Int)-1 by simp;omega];rfl
  refine call_reversed_list pa.isList ?_
  refine wpAny_pyIter_revIter hit ?_
  refine⟨s1.heap.objs.size,[s1.heap.objs.size],_,_,H1,rfl,I1.kept (t':=s1.toks) λb o e=>bK _ e,bV6 a _ xs.length,⟨gi _,hit⟩,λb hb=>?_,q⟩
  have e:b=s1.heap.objs.size:=by simpa using hb
  subst e
  exact I1.rE (aY _) (I1.av.fresh (aY _))
end
end L2
namespace L3
open PySem L2 PySem.Spec PyProof.Rows
section
variable{F H:Hp}{K:PySem.W.Frag}{p:Addr}{ws:List V}{xs:List D}
theorem Rh(hp:Rd F p (.lst ws))(r:R F H xs ws [])(hF:Full F H):JD (Gg K p ws.length) F xs.reverse where
 go:=λi H' hs hi=>by
  rw[kQ]at hi
  have l1:=r.length
  exact⟨by omega,ws,_,.inl (fi hp hs),bu (show ws.length-1-i<ws.length by omega)⟩
 g7:=λi H' v H2 hs hi zz=>by
  obtain⟨e,hx⟩:=zz
  subst e
  have gJ:=hi
  rw[kQ]at gJ
  have l1:=r.length
  have h1:=AV (r.full hF hs rfl) (show xs.length-1-i<xs.length by omega) (x:=v) (by rw[l1];exact hx ws (.inl (fi hp hs)))
  refine⟨_,?_,aa.refl _,h1⟩
  rw[zC gJ,bu]
 stop:=λi H' hs hi=>by
  rw[kQ]at hi
  have l1:=r.length
  show ws.length<=i
  omega
end
section
variable{X:Cx}{a:Expr}{ta:bX}{p pos:Pos}{tg:Expr}
noncomputable def uv(t:bX):gF:=λδ Q=>t δ λds ag=>match ds with
 | [d1]=>∃xs,iN d1=some xs/\Q d1.pl xs.reverse ag
 | _=>False
theorem Gh(hg:Gl X "reversed")(hm:X.mg "reversed"=none)(ha:PA X [a] (lA ta))(hs:starEach [a] X.env=[(false,eval a X.env)]:=by rfl) :
  PI X tg (.Call (.Name "reversed" p) [a] [] pos) (lI (uv ta)) :=
 nD (cu9 hg hm ha hs) λσ H Q ⟨B,F,δ,ts,Qd,c,q,k⟩=>⟨B,F,δ,ts,_,c,q,λds ai vs F1 H1 hd f1 h1 c1 s=>by
  match ds,hd,s with
  | [d1],⟨xs,i1,hq⟩,s =>
   obtain⟨v1,ck,rfl,s1,s2⟩:=s.cH
   cases s2
   have e2:=c1.ext
   have sn:=nv e2
   obtain⟨p1,w1,rfl,r1,t1,u1⟩:=AU s1 e2 i1
   refine⟨p1,w1,rfl,.inl r1,k _ _ ai _ _ H1 hq (f1.trans sn) h1 c1.snap ?_ λz=>?_⟩
   ·rw[MZ]
    exact Rh r1 t1 (Full.refl _)
   ·obtain⟨a1,a2,a3⟩:=u1 z
    exact⟨by rw[List.all_reverse];exact a1,Rh (fi a2 sn) (a3.shared sn (aa.refl _)) oY⟩⟩
end
end L3
namespace L3
open PySem L2 Mf
noncomputable def bw(l:List Nat):List Nat:=(l.reverse.dropWhile (·==0)).reverse
theorem Gi{l:List Nat}{k:Nat}(hk:k<=l.length)(hz:∀x∈l.drop k,x=0)(hn:k=0\/l.getD (k-1) 0≠0):bw l=l.take k:=by
 unfold bw
 conv=>lhs;rw[<-VT k l]
 rw[VU,List.dropWhile_append_of_pos (λa ha=>by simp[hz a (List.mem_reverse.mp ha)])]
 rcases hn with rfl | hn
 ·simp
 ·by_cases h0:k=0
  ·subst h0;simp
  ·have e:l.take k=l.take (k-1)++[l.getD (k-1) 0]:=by
    conv=>lhs;rw[show k=k-1+1 by omega]
    rw[zr,bF,bu (by omega)];rfl
   rw[e,VU]
   generalize l.getD (k-1) 0=v at hn
   simp[List.dropWhile_cons,hn]
theorem yl(l:List Nat):∃k,k<=l.length/\(∀x∈l.drop k,x=0)/\(k=0\/l.getD (k-1) 0≠0)/\bw l=l.take k:=by
 have:∀n,n<=l.length->(∀x∈l.drop n,x=0)->∃k,k<=l.length/\(∀x∈l.drop k,x=0)/\(k=0\/l.getD (k-1) 0≠0):=by
  intro n
  induction n with
  | zero=>exact λh1 h2=>⟨0,h1,h2,.inl rfl⟩
  | succ n ih =>
   intro h1 h2
   by_cases h:l.getD n 0=0
   ·refine ih (by omega) λx hx=>?_
    rw[v7 (by omega)]at hx
    rcases bG.mp hx with hx | hx
    ·rw[hx]
     rw[bF,bu (by omega)]at h
     exact h
    ·exact h2 x hx
   ·exact⟨n+1,h1,h2,.inr h⟩
 obtain⟨k,h1,h2,h3⟩:=this l.length (aY _) (by simp)
 exact⟨k,h1,h2,h3,Gi h1 h2 h3⟩
theorem ym{l:List Nat}{x:Nat}(h:x∈bw l):x∈l:=by
 obtain⟨k,_,_,_,e⟩:=yl l
 rw[e]at h
 exact zu h
theorem Br(l:List Nat):(bw l).length<=l.length:=by
 obtain⟨k,_,_,_,e⟩:=yl l
 rw[e,gj];omega
theorem Bt(l:List Nat):(bw l).length=0\/(bw l).getD ((bw l).length-1) 0≠0:=by
 obtain⟨k,h1,_,h3,e⟩:=yl l
 rw[e,gj,vX h1]
 rcases h3 with h3 | h3
 ·exact .inl h3
 ·by_cases h0:k=0
  ·exact .inl h0
  ·right
   rw[bF]at h3 ⊢
   rw[zw,if_pos (by omega)]
   exact h3
theorem Bu{m:Bool × Nat}(hm:m∈aF)(x:Nat):∀{l:List Nat},(∀a∈l,a=0)->aP m x l=0
 | [],_=>rfl
 | a::l,h=>by
  have dE:=(bN hm).lo
  show gp m (gm m (aP m x l) x) a=0
  rw[Bu hm x λa ha=>h a (by simp[ha]),h a (by simp),fg _ _ (bR m hm),fC (by omega)]
theorem Ri{m:Bool × Nat}(hm:m∈aF)(x:Nat):∀(l:List Nat) (k:Nat),(∀a∈l.drop k,a=0)->aP m x (l.take k)=aP m x l
 | [],k,_=>by rw[List.take_nil]
 | a::l,0,h=>by rw[List.take_zero];exact(Bu hm x h).symm
 | a::l,k+1,h=>by
  rw[List.take_succ_cons]
  show gp m (gm m (aP m x (l.take k)) x) a=gp m (gm m (aP m x l) x) a
  rw[Ri hm x l k h]
theorem Bv{m:Bool × Nat}(hm:m∈aF)(x:Nat)(l:List Nat):aP m x (bw l)=aP m x l:=by
 obtain⟨k,_,h2,_,e⟩:=yl l
 rw[e];exact Ri hm x l k h2
noncomputable def px(m:Bool × Nat)(x:Nat):Nat->Nat
 | 0=>1
 | k+1=>gm m (px m x k) x
noncomputable def iX(m:Bool × Nat)(t:List Nat)(k v:Nat):List Nat:=t.set k (gp m (t.getD k 0) v)
noncomputable def eF(m:Bool × Nat)(x:Nat):List Nat->Nat->List Nat->List Nat
 | t,_,[]=>t
 | t,i,y::b=>eF m x (iX m t i (gm m x y)) (i+1) b
noncomputable def gb(m:Bool × Nat)(b:List Nat):List Nat->Nat->List Nat->List Nat
 | t,_,[]=>t
 | t,i,x::a=>gb m b (eF m x t i b) (i+1) a
noncomputable def mx(m:Bool × Nat)(a b:List Nat):List Nat:=gb m b (aQ (a.length+b.length) 0) 0 a
noncomputable def my(m:Bool × Nat)(a b:List Nat):List Nat:=bw (mx m a b)
theorem Rj(m:Bool × Nat)(x:Nat):∀(b c t:List Nat) (i:Nat),eF m x t i (b++c)=eF m x (eF m x t i b) (i+b.length) c
 | [],c,t,i=>rfl
 | y::b,c,t,i=>by
  show eF m x (iX m t i (gm m x y)) (i+1) (b++c)=_
  rw[Rj m x b c,eJ,show i+1+b.length=i+(b.length+1) by omega];rfl
theorem b68(m:Bool × Nat)(x:Nat)(b t:List Nat)(i:Nat){j:Nat}(hj:j<b.length):eF m x t i (b.take (j+1))=iX m (eF m x t i (b.take j)) (i+j) (gm m x b[j]):=by
 rw[zr,bu hj,Rj,gj,vX (by omega)];rfl
theorem Rk(m:Bool × Nat)(b:List Nat):∀(a c t:List Nat) (i:Nat),gb m b t i (a++c)=gb m b (gb m b t i a) (i+a.length) c
 | [],c,t,i=>rfl
 | y::a,c,t,i=>by
  show gb m b (eF m y t i b) (i+1) (a++c)=_
  rw[Rk m b a c,eJ,show i+1+a.length=i+(a.length+1) by omega];rfl
theorem b72(m:Bool × Nat)(b a t:List Nat)(i:Nat){j:Nat}(hj:j<a.length):gb m b t i (a.take (j+1))=eF m a[j] (gb m b t i (a.take j)) (i+j) b:=by
 rw[zr,bu hj,Rk,gj,vX (by omega)];rfl
theorem Gj(m:Bool × Nat)(t:List Nat)(k v:Nat):(iX m t k v).length=t.length:=by unfold iX;rw[MD]
theorem yn(m:Bool × Nat)(x:Nat):∀(b t:List Nat) (i:Nat),(eF m x t i b).length=t.length
 | [],t,i=>rfl
 | y::b,t,i=>(yn m x b _ _).trans (Gj m t i _)
theorem Gk(m:Bool × Nat)(b:List Nat):∀(a t:List Nat) (i:Nat),(gb m b t i a).length=t.length
 | [],t,i=>rfl
 | y::a,t,i=>(Gk m b a _ _).trans (yn m y b t i)
noncomputable def AllLt(n:Nat)(l:List Nat):Prop:=∀a∈l,a<n
theorem AllLt.getD{n:Nat}{l:List Nat}(h:AllLt n l)(h0:0<n)(k:Nat):l.getD k 0<n:=by
 rw[bF]
 cases e:l[k]? with
 | none=>exact h0
 | some v=>exact h v (qW e)
theorem Gm{m:Bool × Nat}(hm:m∈aF){t:List Nat}(ht:AllLt (ah m) t){k v:Nat}(hv:v<ah m):AllLt (ah m) (iX m t k v):=λa ha=>by
 unfold iX at ha
 have dE:=(bN hm).lo
 rcases MW ha with h | h
 ·exact ht a h
 ·rw[h];exact qj hm (ht.getD (by omega) k) hv
theorem yo{m:Bool × Nat}(hm:m∈aF)(x:Nat):∀(b t:List Nat) (i:Nat),AllLt (ah m) t->AllLt (ah m) (eF m x t i b)
 | [],t,i,h=>h
 | y::b,t,i,h=>yo hm x b _ _ (Gm hm h (dU hm _ _))
theorem Gn{m:Bool × Nat}(hm:m∈aF)(b:List Nat):∀(a t:List Nat) (i:Nat),AllLt (ah m) t->AllLt (ah m) (gb m b t i a)
 | [],t,i,h=>h
 | y::a,t,i,h=>Gn hm b a _ _ (yo hm y b t i h)
theorem qm{m:Bool × Nat}(hm:m∈aF)(n:Nat):AllLt (ah m) (aQ n 0):=λa ha=>by
 have dE:=(bN hm).lo
 rw[(DB.mp ha).2];omega
theorem bV0{m:Bool × Nat}(hm:m∈aF)(a b:List Nat):AllLt (ah m) (mx m a b):=Gn hm b a _ 0 (qm hm _)
theorem bJ6(m:Bool × Nat)(a b:List Nat):(mx m a b).length=a.length+b.length:=by unfold mx;rw[Gk,kI]
theorem ci8{m:Bool × Nat}(hm:m∈aF)(a b:List Nat):AllLt (ah m) (my m a b):=λx hx=>bV0 hm a b x (ym hx)
theorem Rl{m:Bool × Nat}(hm:m∈aF)(X:Nat){v:Nat}(hv:v<ah m):∀(t:List Nat) (k:Nat),k<t.length->aP m X (iX m t k v)=gp m (aP m X t) (gm m v (px m X k))
 | [],k,h=>by simp at h
 | a::t,0,_=>by
  show gp m (gm m (aP m X t) X) (gp m a v)=gp m (gp m (gm m (aP m X t) X) a) (gm m v 1)
  rw[uu hv,iW]
 | a::t,k+1,h=>by
  have ih:=Rl hm X hv t k (by simpa using h)
  have h0:=bR m hm
  show gp m (gm m (aP m X (iX m t k v)) X) a=gp m (gp m (gm m (aP m X t) X) a) (gm m v (gm m (px m X k) X))
  rw[ih,yj h0,kA h0,iW,iW,gK m _ a]
theorem Rm{m:Bool × Nat}(hm:m∈aF)(X x:Nat):∀(b t:List Nat) (i:Nat),AllLt (ah m) t->i+b.length<=t.length->aP m X (eF m x t i b)=gp m (aP m X t) (gm m (gm m x (px m X i)) (aP m X b))
 | [],t,i,ht,_=>by
  show aP m X t=gp m (aP m X t) (gm m (gm m x (px m X i)) 0)
  rw[jg _ _ (bR m hm),jD (qk hm X ht)]
 | y::b,t,i,ht,hl=>by
  have h0:=bR m hm
  rw[eJ]at hl
  show aP m X (eF m x (iX m t i (gm m x y)) (i+1) b)=gp m (aP m X t) (gm m (gm m x (px m X i)) (gp m (gm m (aP m X b) X) y))
  rw[Rm hm X x b _ _ (Gm hm ht (dU hm _ _)) (by rw[Gj];omega),Rl hm X (dU hm _ _) t i (by omega),iW]
  congr 1
  rw[yk h0,gK]
  congr 1
  ·show gm m (gm m x (gm m (px m X i) X)) (aP m X b)=_
   rw[<-kA h0 x,kA h0 _ X,jf m X]
  ·rw[kA h0,kA h0,jf m y]
theorem Rn{m:Bool × Nat}(hm:m∈aF)(X:Nat)(b:List Nat):∀(a t:List Nat) (i:Nat),AllLt (ah m) t->i+a.length+b.length<=t.length->aP m X (gb m b t i a)=gp m (aP m X t) (gm m (gm m (aP m X a) (px m X i)) (aP m X b))
 | [],t,i,ht,_=>by
  have h0:=bR m hm
  show aP m X t=gp m (aP m X t) (gm m (gm m 0 (px m X i)) (aP m X b))
  rw[fg _ _ h0,fg _ _ h0,jD (qk hm X ht)]
 | x::a,t,i,ht,hl=>by
  have h0:=bR m hm
  rw[eJ]at hl
  show aP m X (gb m b (eF m x t i b) (i+1) a)=gp m (aP m X t) (gm m (gm m (gp m (gm m (aP m X a) X) x) (px m X i)) (aP m X b))
  rw[Rn hm X b a _ _ (yo hm x b t i ht) (by rw[yn];omega),Rm hm X x b t i ht (by omega),iW]
  congr 1
  rw[yj h0,yj h0,gK]
  congr 1
  show gm m (gm m (aP m X a) (gm m (px m X i) X)) (aP m X b)=_
  rw[jf m (px m X i) X,<- kA h0 (aP m X a)]
theorem b49{m:Bool × Nat}(hm:m∈aF)(X:Nat)(a b:List Nat)(ha:AllLt (ah m) a)(hb:AllLt (ah m) b):aP m X (my m a b)=gm m (aP m X a) (aP m X b):=by
 unfold my
 rw[Bv hm]
 unfold mx
 rw[Rn hm X b a _ 0 (qm hm _) (by rw[kI];omega),Bu hm X (λx hx=>(DB.mp hx).2)]
 show gp m 0 (gm m (gm m (aP m X a) 1) (aP m X b))=_
 rw[uu (qk hm X ha),fC (dU hm _ _)]
end L3
namespace L3
open PySem L2 PySem.Spec PyProof.Rows
theorem bQ1(n:Nat)(l:List Nat):(au l).all (aL n)=true:=by
 rw[ff,zt,dM]
 intro a _
 exact tP n _
theorem Bw(n:Nat)(o:Bool)(l:List Nat):aL (n+1) (.lst o (au l))=true:=bQ1 n l
theorem qo(o o':Bool)(a b:List Nat):bM (.lst o (au a)) (.lst o' (au b))=decide (a=b):=by
 unfold au
 rw[tQ]
 congr 1
 apply propext
 constructor
 ·intro h
  have:=congrArg (DE zD) h
  have e:(zD ∘ λ(n:Nat)=>(n:Int))=id:=by funext x;rfl
  rw[gk,gk,e,M0,M0]at this
  exact this
 ·intro h;rw[h]
theorem By{l:List Nat}{k:Int}(h0:0<=k)(h:k.toNat<l.length):dD (au l) k=some (.int ((l.getD k.toNat 0:Nat):Int)):=by
 refine m6 h0 ?_
 rw[ff,dm,bu h,bF,bu h];rfl
theorem Gp{l:List Nat}(h:0<l.length):dD (au l) (-1)=some (.int ((l.getD (l.length-1) 0:Nat):Int)):=by
 unfold au
 rw[bT1 (by rw[cQ];exact h),cQ]
 congr 2
 rw[bF,bF,dm]
 cases l[l.length-1]?<;>rfl
theorem Gq{n:Nat}{k:Int}(h0:0<=k)(h:k.toNat<n):iB n k=some k.toNat:=by
 unfold iB
 rw[if_pos h0,if_pos (by omega)]
theorem Gr{n:Nat}(k:Int)(h:k=n):(((aV k.toNat).map λ(k:Nat)=>D.int (0+(k:Int))).map D.sh)=(aV n).map λ(i:Nat)=>D.int (i:Int):=by
 subst h
 rw[pB,fH]
 simp
theorem Ro{n nn:Nat}{k:Int}(h:k=n)(hn:n<=1000000){δ:Dl}{Q:D->Dl->Prop}(q:Q (.lst true (au (aQ n 0))) δ):pF true ((aV k.toNat).map λ(k:Nat)=>D.int (0+(k:Int))) [] nn (gN 0) jy (dC (D.int 0)) δ Q:=by
 refine p7 (aV n) (λ(i:Nat)=>D.int (i:Int)) (λ_=>D.int ((0:Nat):Int)) (Gr _ h) ud (λk hk=>?_) (.inr λ_ _=>rfl) (by rw[eB,sL];omega) ?_
 ·exact rfl
 ·rw[show((aV n).map λ_=>D.int ((0:Nat):Int))=au (aQ n 0) by rw[ff,zE,List.map_const',eB]]
  exact q
theorem bQ0{l:List Nat}{k:Nat}(h1:0<k)(hk:k<=l.length)(hz:∀x∈l.drop k,x=0)(h0:l.getD (k-1) 0=0):∀x∈l.drop (k-1),x=0:=by
 intro x hx
 rw[v7 (by omega)]at hx
 rcases bG.mp hx with hx | hx
 ·rw[hx]
  rw[bF,bu (by omega)]at h0
  exact h0
 ·rw[show k-1+1=k by omega]at hx
  exact hz x hx
theorem Rp(l:List Nat)(k v:Nat):(au l).set k (.int (v:Nat))=au (l.set k v):=by
 rw[ff,ff,List.map_set]
theorem Rq(l:List Nat):(au l).all D.fr=true:=pX _
theorem Gs(o:Bool)(l:List Nat):(D.lst o (au l)).sh=.lst false (au l):=by rw[fQ,ue]
theorem jE(l:List Nat):(D.lst true (au l)).fr=true:=by rw[ib,Rq];rfl
theorem cj1{xs:List D}{i:Nat}{d:D}(h:(fW xs)[i]?=some d):∃hi:i<xs.length,d=.tup [.int i,xs[i]]:=by
 have hi:i<(fW xs).length:=(gg.mp h).1
 rw[p5]at hi
 refine⟨hi,?_⟩
 unfold fW at h
 rw[MV,bu hi]at h
 exact(cP h).symm
theorem Ru{l:List Nat}{i:Nat}{d:D}(h:(fW (au l))[i]?=some d):∃hi:i<l.length,d=.tup [.int i,.int (l[i]:Nat)]:=by
 obtain⟨hi,e⟩:=cj1 h
 rw[dw]at hi
 refine⟨hi,?_⟩
 rw[e]
 simp only[ff,M1]
theorem Rv{l:List Nat}{i:Nat}{d:D}(h:(au l)[i]?=some d):∃hi:i<l.length,d=.int (l[i]:Nat):=by
 have hi:i<l.length:=by
  have:=(gg.mp h).1
  rw[dw]at this;exact this
 refine⟨hi,?_⟩
 rw[ff,dm,bu hi]at h
 exact(cP h).symm
section
variable{X:Cx}
end
end L3
namespace L3
open PySem L2 Mf
noncomputable def eU(m:Bool × Nat)(a b:Nat):Nat:=(gl m a b).toNat
theorem yp{m:Bool × Nat}(hm:m∈aF){a b:Nat}(ha:a<ah m)(hb:b<ah m):gl m a b=(eU m a b:Nat)/\eU m a b<ah m/\gp m (eU m a b) b=a:=by
 obtain⟨r,e,h1,h2⟩:=cA7 hm ha hb
 have:eU m a b=r:=by unfold eU;rw[e];rfl
 rw[this]
 exact⟨e,h1,h2⟩
noncomputable def goN(m:Bool × Nat)(n a:Nat):Nat:=if m.1 then(if n%2=1 then a else 0)else n*a%m.2
theorem Rw{m:Bool × Nat}(hm:m∈aF)(n:Nat){a:Nat}(ha:a<ah m):goN m n a<ah m:=by
 have dE:=(bN hm).lo
 have h0:=bR m hm
 obtain⟨k,p⟩:=m
 cases k with
 | true =>
  show(if n%2=1 then a else 0)<_
  split
  ·exact ha
  ·omega
 | false=>exact mU _ h0
theorem Rx{n:Nat}{f:Nat->Nat->Nat}:∀{a b:List Nat},(∀x∈a,∀y∈b,f x y<n)->AllLt n (kO f a b)
 | [],_,_=>by intro x hx;simp at hx
 | _::_,[],_=>by intro x hx;simp at hx
 | x::a,y::b,h=>by
  intro z hz
  rw[List.zipWith_cons_cons]at hz
  rcases bG.mp hz with rfl | hz
  ·exact h x (by simp) y (by simp)
  ·exact Rx (λx hx y hy=>h x (by simp[hx]) y (by simp[hy])) z hz
noncomputable def jF(m:Bool × Nat)(a:List Nat):List Nat:=(aV (a.length-1)).map λk=>goN m (k+1) (a.getD (k+1) 0)
theorem Gu(m:Bool × Nat)(a:List Nat):(jF m a).length=a.length-1:=by unfold jF;rw[cQ,eB]
theorem Gv{m:Bool × Nat}(hm:m∈aF){a:List Nat}(ha:AllLt (ah m) a):AllLt (ah m) (jF m a):=λx hx=>by
 have dE:=(bN hm).lo
 obtain⟨k,_,rfl⟩:=dn.mp hx
 exact Rw hm _ (ha.getD (by omega) _)
theorem bD8(xs ys:List Nat):(gI (au xs) (au ys)).map D.sh=(xs.zip ys).map λz=>D.tup [.int (z.1:Int),.int (z.2:Int)]:=by
 unfold au
 rw[bG9,List.zip_map,gk];rfl
theorem Ry{sh:Bool}{ax:List (Str × Nat)}{n i1 i2:Nat}{te:aD}{ai:Dl}{Q:D->Dl->Prop}(f:Nat->Nat->Nat){A B:List Nat}(hx:∀x∈A,∀y∈B,je i1 i2 (.tup [.int (x:Int),.int (y:Int)]) (fc ax n ai) λaI=>te aI λd _=>d=.int ((f x y:Nat):Int))
  (hl:A.length<=100000) (hq:Q (.lst true (au (kO f A B))) ai):pF sh (gI (au A) (au B)) ax n (je i1 i2) jy te ai Q:=by
 refine bO6 (A.zip B) (λz=>D.tup [.int (z.1:Int),.int (z.2:Int)]) (λz=>D.int ((f z.1 z.2:Nat):Int)) (bD8 A B) (λa b h=>?_) (λz hz=>hx z.1 (zh hz).1 z.2 (zh hz).2) b63 (.inr λ_ _=>rfl) (by rw[List.length_zip,sL];omega) ?_
 ·injection h with h
  simp at h
  exact Prod.ext (by omega) (by omega)
 ·rw[show((A.zip B).map λz=>D.int ((f z.1 z.2:Nat):Int))=au (kO f A B) by rw[ff,List.zip,DF,DF]]
  exact hq
end L3
namespace L3
open PySem L2 PySem.Spec PyProof.Rows
section
variable{X:Cx}{a b:Expr}{ta tb:aD}{pos:Pos}
end
end L3
namespace L3
open PySem L2 Mf
end L3
namespace L2
open PySem PySem.Spec PyProof.Rows
end L2
namespace L3
open PySem L2 PySem.Spec PyProof.Rows Mf
end L3
namespace L3
open PySem L2 Mf
noncomputable def cf(l:List Nat)(k:Nat):Nat:=l.getD k 0
theorem fE{l:List Nat}{k:Nat}(h:l.length<=k):cf l k=0:=by
 unfold cf;rw[bF,kN h];rfl
theorem jG{m:Bool × Nat}(hm:m∈aF){l:List Nat}(h:AllLt (ah m) l)(k:Nat):cf l k<ah m:=h.getD (by have:=(bN hm).lo;omega) k
theorem cc5(a:Nat)(l:List Nat)(k:Nat):cf (a::l) (k+1)=cf l k:=rfl
theorem cl8(l:List Nat)(n k:Nat):cf (l.take n) k=if k<n then cf l k else 0:=by
 unfold cf
 rw[bF,zw]
 split
 ·rw[bF]
 ·rfl
theorem gL(l:List Nat)(k:Nat):cf (bw l) k=cf l k:=by
 obtain⟨n,h1,h2,_,e⟩:=yl l
 rw[e,cl8]
 split
 ·rfl
 ·rename_i h
  symm
  by_cases hk:k<l.length
  ·have hk2:k-n<(l.drop n).length:=by rw[jQ];omega
   have:=h2 _ (i6 hk2)
   rw[M3]at this
   unfold cf
   rw[bF,bu hk]
   simp only[show n+(k-n)=k by omega]at this
   exact this
  ·exact fE (by omega)
theorem Rz{l l':List Nat}(h:∀k,cf l k=cf l' k):bw l=bw l':=by
 have key:∀{l l':List Nat},(∀k,cf l k=cf l' k)->(bw l).length<=(bw l').length:=λ{l l'} h=>by
  rcases Bt l with h0 | h0
  ·omega
  ·have e:cf (bw l') ((bw l).length-1)≠0:=by
    rw[gL,<- h,<- gL];exact h0
   apply VI
   intro z
   by_cases hz:(bw l).length=0
   ·omega
   ·exact e (fE (by omega))
 have len:(bw l).length=(bw l').length:=Nat.le_antisymm (key h) (key λk=>(h k).symm)
 refine zB len λk h1 h2=>?_
 have e:cf (bw l) k=cf (bw l') k:=by rw[gL,gL,h]
 unfold cf at e
 rw[bF,bF,bu h1,bu h2]at e
 exact e
theorem bV2(m:Bool × Nat)(t:List Nat){j:Nat}(hj:j<t.length)(v k:Nat):cf (iX m t j v) k=if k=j then gp m (cf t j) v else cf t k:=by
 unfold cf iX
 rw[bF,List.getElem?_set]
 by_cases h:k=j
 ·subst h
  rw[if_pos rfl,if_pos hj,if_pos rfl];rfl
 ·rw[if_neg (dA h),if_neg h,bF]
theorem RA{m:Bool × Nat}(hm:m∈aF)(x:Nat):∀(b t:List Nat) (i k:Nat),AllLt (ah m) t->i+b.length<=t.length->cf (eF m x t i b) k=gp m (cf t k) (if k<i then 0 else gm m x (cf b (k-i)))
 | [],t,i,k,ht,_=>by
  have e:(if k<i then 0 else gm m x (cf [] (k-i)))=0:=by
   split
   ·rfl
   ·rw[fE (gi _),jg _ _ (bR m hm)]
  rw[e,jD (jG hm ht k)];rfl
 | y::b,t,i,k,ht,hl=>by
  rw[eJ]at hl
  show cf (eF m x (iX m t i (gm m x y)) (i+1) b) k=_
  rw[RA hm x b _ (i+1) k (Gm hm ht (dU hm _ _)) (by rw[Gj];omega),bV2 m t (by omega)]
  by_cases h1:k=i
  ·subst h1
   rw[if_pos rfl,if_pos (by omega),if_neg (by omega),rj,jD (qj hm (jG hm ht _) (dU hm _ _))];rfl
  ·rw[if_neg h1]
   by_cases h2:k<i
   ·rw[if_pos (by omega),if_pos h2]
   ·rw[if_neg (by omega),if_neg h2,show k-i=(k-(i+1))+1 by omega,cc5]
noncomputable def dz(m:Bool × Nat)(b:List Nat):List Nat->Nat->Nat
 | [],_=>0
 | x::q,k=>gp m (gm m x (cf b k)) (match k with | 0=>0 | k+1=>dz m b q k)
theorem Bz{m:Bool × Nat}(hm:m∈aF)(b:List Nat):∀(q:List Nat) (k:Nat),dz m b q k<ah m
 | [],_=>by have:=(bN hm).lo;show 0<_;omega
 | x::q,0=>qj hm (dU hm _ _) (by have:=(bN hm).lo;show 0<_;omega)
 | x::q,k+1=>qj hm (dU hm _ _) (Bz hm b q k)
theorem RB{m:Bool × Nat}(hm:m∈aF)(b:List Nat):∀(a t:List Nat) (i k:Nat),AllLt (ah m) t->i+a.length+b.length<=t.length->cf (gb m b t i a) k=gp m (cf t k) (if k<i then 0 else dz m b a (k-i))
 | [],t,i,k,ht,_=>by
  have e:(if k<i then 0 else dz m b [] (k-i))=0:=by split<;>rfl
  rw[e,jD (jG hm ht k)];rfl
 | x::a,t,i,k,ht,hl=>by
  rw[eJ]at hl
  have dE:=(bN hm).lo
  show cf (gb m b (eF m x t i b) (i+1) a) k=_
  rw[RB hm b a _ (i+1) k (yo hm x b t i ht) (by rw[yn];omega),RA hm x b t i k ht (by omega),iW]
  congr 1
  by_cases h1:k<i
  ·rw[if_pos h1,if_pos (by omega),if_pos h1,fC (by omega)]
  ·rw[if_neg h1,if_neg h1]
   by_cases h2:k=i
   ·subst h2
    rw[if_pos (by omega),rj];rfl
   ·rw[if_neg (by omega),show k-i=(k-(i+1))+1 by omega];rfl
theorem BA(n k:Nat):cf (aQ n 0) k=0:=by
 unfold cf
 rw[bF,Di]
 split<;>rfl
theorem RC{m:Bool × Nat}(hm:m∈aF)(a b:List Nat)(k:Nat):cf (my m a b) k=dz m b a k:=by
 unfold my
 rw[gL]
 unfold mx
 rw[RB hm b a _ 0 k (qm hm _) (by rw[kI];omega),BA,if_neg (v9 k),oh,fC (Bz hm b a k)]
theorem RD{m:Bool × Nat}(b:List Nat):∀(q:List Nat) (k:Nat),dz m (bw b) q k=dz m b q k
 | [],_=>rfl
 | x::q,0=>by show gp m (gm m x (cf (bw b) 0)) 0=gp m (gm m x (cf b 0)) 0;rw[gL]
 | x::q,k+1=>by
  show gp m (gm m x (cf (bw b) (k+1))) (dz m (bw b) q k)=gp m (gm m x (cf b (k+1))) (dz m b q k)
  rw[gL,RD b q k]
theorem RE{m:Bool × Nat}(hm:m∈aF)(b:List Nat):∀(n k:Nat),dz m b (aQ n 0) k=0
 | 0,_=>rfl
 | n+1,0=>by
  have dE:=(bN hm).lo
  show gp m (gm m 0 (cf b 0)) 0=0
  rw[fg _ _ (bR m hm),fC (by omega)]
 | n+1,k+1=>by
  have dE:=(bN hm).lo
  show gp m (gm m 0 (cf b (k+1))) (dz m b (aQ n 0) k)=0
  rw[fg _ _ (bR m hm),RE hm b n k,fC (by omega)]
theorem RF{m:Bool × Nat}(hm:m∈aF)(b:List Nat)(f:Nat):∀(q:List Nat) (i k:Nat),i<q.length->cf q i=0->dz m b (q.set i f) k=gp m (dz m b q k) (if k<i then 0 else gm m f (cf b (k-i)))
 | [],i,k,h,_=>absurd h (v9 i)
 | x::q,0,k,_,hx=>by
  have hx:x=0:=hx
  subst hx
  have dE:=(bN hm).lo
  show gp m (gm m f (cf b k)) (match k with | 0=>0 | k+1=>dz m b q k)=gp m (gp m (gm m 0 (cf b k)) (match k with | 0=>0 | k+1=>dz m b q k)) (gm m f (cf b (k-0)))
  have l2:(match k with | 0=>0 | k+1=>dz m b q k)<ah m:=by
   cases k with
   | zero=>show 0<_;omega
   | succ k=>exact Bz hm b q k
  rw[fg _ _ (bR m hm),fC l2,oh,gK]
 | x::q,i+1,0,h,hx=>by
  have dE:=(bN hm).lo
  show gp m (gm m x (cf b 0)) 0=gp m (gp m (gm m x (cf b 0)) 0) 0
  rw[jD (dU hm _ _),jD (dU hm _ _)]
 | x::q,i+1,k+1,h,hx=>by
  show gp m (gm m x (cf b (k+1))) (dz m b (q.set i f) k)=gp m (gp m (gm m x (cf b (k+1))) (dz m b q k)) (if k+1<i+1 then 0 else gm m f (cf b (k+1-(i+1))))
  rw[RF hm b f q i k (by simpa using h) hx,iW,Nat.add_sub_add_right]
  congr 2
  by_cases hk:k<i
  ·rw[if_pos hk,if_pos (by omega)]
  ·rw[if_neg hk,if_neg (by omega)]
theorem bZ9{m:Bool × Nat}{x:Nat}(hx:x<ah m):eU m x 0=x:=by
 obtain⟨k,n⟩:=m
 cases k with
 | true=>show(((x ^^^ 0:Nat):Int)).toNat=x;rw[jk];rfl
 | false =>
  have hx:x<n:=hx
  show(((x:Int)-((0:Nat):Int))%(n:Int)).toNat=x
  rw[show(x:Int)-((0:Nat):Int)=x by omega,MY (by omega) (by omega)];rfl
theorem RG(m:Bool × Nat)(x:Nat):eU m x x=0:=by
 obtain⟨k,n⟩:=m
 cases k with
 | true=>show(((x ^^^ x:Nat):Int)).toNat=0;rw[zm];rfl
 | false=>show(((x:Int)-(x:Int))%(n:Int)).toNat=0;rw[Int.sub_self,Int.zero_emod];rfl
noncomputable def mz(m:Bool × Nat)(D rest:List Nat)(k f:Nat):List Nat:=rest.take k++(kO (λx y=>eU m x (gm m f y)) (rest.drop k) D).dropLast
theorem RH(m:Bool × Nat){D rest:List Nat}{k:Nat}(f:Nat)(hl:rest.length=k+D.length)(h0:0<D.length):(mz m D rest k f).length=k+D.length-1:=by
 unfold mz
 rw[mL,gj,MF,M4,jQ]
 omega
theorem bX0{m:Bool × Nat}(hm:m∈aF){D rest:List Nat}{k f:Nat}(hr:AllLt (ah m) rest):AllLt (ah m) (mz m D rest k f):=λx hx=>by
 rcases eH.mp hx with hx | hx
 ·exact hr x (zu hx)
 ·exact Rx (λa ha b _=>(yp hm (hr a (DC ha)) (dU hm _ _)).2.1) x (by rw[VV]at hx;exact zu hx)
theorem bV3{m:Bool × Nat}(hm:m∈aF){D rest:List Nat}{k f:Nat}(hr:AllLt (ah m) rest)(hl:rest.length=k+D.length)(h0:0<D.length)(hf:gm m f (cf D (D.length-1))=cf rest (rest.length-1))(j:Nat) :
  cf (mz m D rest k f) j=eU m (cf rest j) (if j<k then 0 else gm m f (cf D (j-k))):=by
 have dE:=(bN hm).lo
 have h00:=bR m hm
 by_cases h1:j<k
 ·rw[if_pos h1,bZ9 (jG hm hr j)]
  unfold mz cf
  rw[bF,Dj (by rw[gj];omega),zw,if_pos h1,bF]
 ·rw[if_neg h1]
  have lz:(kO (λx y=>eU m x (gm m f y)) (rest.drop k) D).length=D.length:=by rw[M4,jQ];omega
  by_cases h2:j<k+(D.length-1)
  ·unfold mz cf
   rw[bF,vT (by rw[gj];omega),gj,vX (by omega),List.getElem?_dropLast,if_pos (by rw[lz];omega),List.getElem?_zipWith,VQ,show k+(j-k)=j by omega,
    bu (show j<rest.length by omega),bu (show j-k<D.length by omega),bF,bu (show j<rest.length by omega),bF,bu (show j-k<D.length by omega)]
   rfl
  ·have lhs:cf (mz m D rest k f) j=0:=fE (by
    have:=RH m f hl h0
    omega)
   rw[lhs]
   by_cases h3:j=k+(D.length-1)
   ·subst h3
    rw[show k+(D.length-1)-k=D.length-1 by omega,hf,show rest.length-1=k+(D.length-1) by omega,RG]
   ·rw[fE (show rest.length<=j by omega),fE (show D.length<=j-k by omega),jg _ _ h00,RG]
structure mB(m:Bool × Nat)(A D:List Nat)(n i:Nat)(q rest:List Nat):Prop where
 ql:q.length=n
 qb:AllLt (ah m) q
 q0:∀k,k<n-i->cf q k=0
 rl:rest.length+i+1=n+D.length
 rb:AllLt (ah m) rest
 id:∀j,gp m (dz m D q j) (cf rest j)=cf A j
 fst:i=0->rest=A
 top:0<i->cf q (n-1)≠0
theorem mB.start{m:Bool × Nat}(hm:m∈aF){A D:List Nat}{n:Nat}(hA:AllLt (ah m) A)(hl:A.length+1=n+D.length):mB m A D n 0 (aQ n 0) A :=
 ⟨kI,qm hm n,λk _=>BA n k,hl,hA,λj=>by rw[RE hm,fC (jG hm hA j)],λ_=>rfl,λh=>absurd h (gQ 0)⟩
theorem mB.next{m:Bool × Nat}(hm:m∈aF){A D q rest:List Nat}{n i f:Nat}(I:mB m A D n i q rest)(hD:0<D.length)(hi:i<n)(hf:f<ah m)(ht:gm m f (cf D (D.length-1))=cf rest (rest.length-1))(hA:cf A (A.length-1)≠0) :
  mB m A D n (i+1) (q.set (n-1-i) f) (mz m D rest (n-1-i) f):=by
 have Gw:rest.length=n-1-i+D.length:=by have:=I.rl;omega
 refine⟨by rw[MD,I.ql],λa ha=>?_,λk hk=>?_,?_,bX0 hm I.rb,λj=>?_,λh=>absurd h (Nat.succ_ne_zero i),λ_=>?_⟩
 ·rcases MW ha with h | h
  ·exact I.qb a h
  ·rw[h];exact hf
 ·have:=I.q0 k (by omega)
  unfold cf at this ⊢
  rw[bF,nZ (by omega),<- bF];exact this
 ·have:=RH m f Gw hD
  have:=I.rl
  omega
 ·have c1:(if j<n-1-i then 0 else gm m f (cf D (j-(n-1-i))))<ah m:=by
   split
   ·have:=(bN hm).lo;omega
   ·exact dU hm _ _
  rw[RF hm D f q _ j (by rw[I.ql];omega) (I.q0 _ (by omega)),bV3 hm I.rb Gw hD ht,iW,gK m _ (eU m _ _),(yp hm (jG hm I.rb j) c1).2.2]
  exact I.id j
 ·by_cases h0:i=0
  ·subst h0
   have f0:f≠0:=λz=>by
    rw[z,fg _ _ (bR m hm),I.fst rfl]at ht
    exact hA ht.symm
   unfold cf
   rw[oh,bF,List.getElem?_set,if_pos rfl,if_pos (by rw[I.ql];omega)]
   exact f0
  ·have:=I.top (by omega)
   unfold cf at this ⊢
   rw[bF,nZ (by omega),<- bF];exact this
theorem mB.quot{m:Bool × Nat}{A D q rest:List Nat}{n:Nat}(I:mB m A D n n q rest):q=bw q:=by
 symm
 have h:=Gi (l:=q) (k:=q.length) (aY _) (by simp) (by
  rw[I.ql]
  by_cases h:n=0
  ·exact .inl h
  ·exact .inr (I.top (by omega)))
 rw[h,zo]
theorem cr5{α:Type}(xs:List α):dS xs none (some (-1))=xs.dropLast:=by
 have e1:HT.cw xs.length 0 none=0:=rfl
 have e2:HT.cw xs.length xs.length (some (-1))=xs.length-1:=by
  unfold HT.cw
  simp
  omega
 unfold dS
 rw[e1,e2,Dz,oh,VV]
end L3
namespace L3
open PySem L2 PySem.Spec PyProof.Rows
section
variable{B:Bs}{F H:Hp}{σ:L2.St}{δ:Dl}{ts ps:List (D × V)}{i k:Nat}{p q:Addr}{l1 l2 ys OW:List D}{ws sZ:List V}
end
section
variable{X:Cx}{F H:Hp}{e b:Expr}{pos p p2 p3 pr apos bB AJ:Pos}{t ti te:aD}{x y:Str}{i j:Nat}
end
end L3
namespace L3
structure Rg(N:Nat)(p q:Nat->Nat->Nat):Prop where
 pc:∀a b,p a b=p b a
 pa:∀a b c,p (p a b) c=p a (p b c)
 mc:∀a b,q a b=q b a
 ma:∀{a b c},a<N->b<N->c<N->q (q a b) c=q a (q b c)
 dl:∀a b c,q a (p b c)=p (q a b) (q a c)
 z:∀{a},a<N->p 0 a=a
 qz:∀a,q a 0=0
 one:∀{a},a<N->q 1 a=a
 lp:∀{a b},a<N->b<N->p a b<N
 lq:∀a b,q a b<N
 ng:∀{a},a<N->∃b,b<N/\p a b=0
section
variable{N:Nat}{p q:Nat->Nat->Nat}
noncomputable def sm(p:Nat->Nat->Nat):Nat->(Nat->Nat)->Nat
 | 0,_=>0
 | n+1,f=>p (sm p n f) (f n)
theorem Rg.pos(r:Rg N p q):0<N:=kM (gi _) (r.lq 0 0)
theorem Rg.z'(r:Rg N p q){a:Nat}(h:a<N):p a 0=a:=by rw[r.pc];exact r.z h
theorem Rg.RI(r:Rg N p q){a b c:Nat}(ha:a<N)(hb:b<N)(hc:c<N)(h:p a c=p b c):a=b:=by
 obtain⟨d,_,e⟩:=r.ng hc
 have:=congrArg (λx=>p x d) h
 simp only[r.pa,e]at this
 rw[r.z' ha,r.z' hb]at this
 exact this
theorem iY{f g:Nat->Nat}:∀{n:Nat},(∀j,j<n->f j=g j)->sm p n f=sm p n g
 | 0,_=>rfl
 | n+1,h=>by rw[sm,sm,iY λj hj=>h j (by omega),h n (by omega)]
theorem uw(r:Rg N p q){f:Nat->Nat}:∀{n:Nat},(∀j,j<n->f j<N)->sm p n f<N
 | 0,_=>r.pos
 | n+1,h=>r.lp (uw r λj hj=>h j (by omega)) (h n (by omega))
theorem qp(r:Rg N p q){f:Nat->Nat}:∀{n:Nat},(∀j,j<n->f j=0)->sm p n f=0
 | 0,_=>rfl
 | n+1,h=>by rw[sm,qp r λj hj=>h j (by omega),h n (by omega)];exact r.z r.pos
theorem Rg.four(r:Rg N p q)(a b c d:Nat):p (p a b) (p c d)=p (p a c) (p b d):=by
 rw[r.pa,r.pa,<- r.pa b,<- r.pa c,r.pc b c]
theorem BB(r:Rg N p q)(f g:Nat->Nat):∀n,sm p n (λj=>p (f j) (g j))=p (sm p n f) (sm p n g)
 | 0=>(r.z r.pos).symm
 | n+1=>by rw[sm,BB r f g n,sm,sm,r.four]
theorem BC(r:Rg N p q)(c:Nat)(f:Nat->Nat):∀n,sm p n (λj=>q c (f j))=q c (sm p n f)
 | 0=>(r.qz c).symm
 | n+1=>by rw[sm,BC r c f n,sm,r.dl]
theorem RJ(r:Rg N p q)(F:Nat->Nat->Nat)(k:Nat):∀n,sm p n (λi=>sm p k λj=>F i j)=sm p k λj=>sm p n λi=>F i j
 | 0=>(qp r λ_ _=>rfl).symm
 | n+1=>by
  rw[sm,RJ r F k n,<- BB r];rfl
theorem yq(r:Rg N p q){f:Nat->Nat}(n:Nat):∀k,(∀j,j<n+k->f j<N)->sm p (n+k) f=p (sm p n f) (sm p k λj=>f (n+j))
 | 0,h=>(r.z' (uw r λj hj=>h j (by omega))).symm
 | k+1,h=>by
  rw[<-Nat.add_assoc,sm,yq r n k λj hj=>h j (by omega),sm,r.pa]
theorem cv2(r:Rg N p q){f:Nat->Nat}{n n':Nat}(hn:n<=n')(h:∀j,j<n'->f j<N)(hz:∀j,n<=j->j<n'->f j=0):sm p n' f=sm p n f:=by
 obtain⟨k,rfl⟩:=VW hn
 rw[yq r n k h,qp r (f:=λj=>f (n+j)) λj hj=>hz _ (by omega) (by omega),r.z' (uw r λj hj=>h j (by omega))]
theorem bY4(r:Rg N p q){f:Nat->Nat}(n:Nat)(h:∀j,j<n+1->f j<N):sm p (n+1) f=p (f 0) (sm p n λj=>f (j+1)):=by
 rw[Dm n 1,yq r 1 n λj hj=>h j (by omega)]
 show p (p 0 (f 0)) _=_
 rw[r.z (h 0 (by omega))]
 congr 1
 exact iY λj _=>by rw[Dm]
noncomputable def ds(p q:Nat->Nat->Nat)(s c:Nat->Nat)(n:Nat):Nat:=sm p (n+1) λj=>q (c j) (s (n-j))
theorem cD0(r:Rg N p q)(s c:Nat->Nat)(n:Nat):ds p q s c n<N:=uw r λj _=>r.lq _ _
noncomputable def fF(k:Nat)(b:Nat->Nat)(j:Nat):Nat:=if j<k then 0 else b (j-k)
theorem RK(r:Rg N p q)(s b:Nat->Nat){k n:Nat}(h:k<=n):ds p q s (fF k b) n=ds p q s b (n-k):=by
 unfold ds
 obtain⟨d,rfl⟩:=VW h
 rw[show k+d+1=k+(d+1) by omega,yq r k (d+1) λj _=>r.lq _ _,qp r (n:=k),r.z (uw r λj _=>r.lq _ _)]
 ·rw[DJ]
  refine iY λj _=>?_
  unfold fF
  rw[if_neg (by omega),DJ,show k+d-(k+j)=d-j by omega]
 ·intro j hj
  unfold fF
  rw[if_pos hj,r.mc,r.qz]
structure BI(N:Nat)(p q:Nat->Nat->Nat)(s:Nat->Nat)(n L:Nat)(c b:Nat->Nat)(o:Nat):Prop where
 c0:c 0=1
 cz:∀j,L<j->c j=0
 cl:∀j,c j<N
 ln:L<=n
 kp:∀i,L<=i->i<n->ds p q s c i=0
 mn:∀L1 c1,c1 0=1->(∀j,L1<j->c1 j=0)->(∀j,c1 j<N)->(∀i,L1<=i->i<n->ds p q s c1 i=0)->L<=L1
 b0:b 0=0
 bz:∀j,n+1-L<j->b j=0
 bl:∀j,b j<N
 bk:∀i,n+1-L<=i->i<n->ds p q s b i=0
 bo:n+1-L<=n->ds p q s b n=o
theorem RL(r:Rg N p q){b:Nat->Nat}(h:∀j,b j<N)(j:Nat):fF 1 b j<N:=by
 unfold fF
 split
 ·exact r.pos
 ·exact h _
theorem RM{b:Nat->Nat}{n:Nat}(h:∀j,n<j->b j=0)(j:Nat)(hj:n+1<j):fF 1 b j=0:=by
 unfold fF
 rw[if_neg (by omega)]
 exact h _ (by omega)
theorem BI.same(r:Rg N p q){s c b:Nat->Nat}{n L o:Nat}(I:BI N p q s n L c b o)(h:ds p q s c n=0):BI N p q s (n+1) L c (fF 1 b) o where
 c0:=I.c0
 cz:=I.cz
 cl:=I.cl
 ln:=by have:=I.ln;omega
 kp:=λi h1 h2=>by
  by_cases e:i=n
  ·rw[e];exact h
  ·exact I.kp i h1 (by omega)
 mn:=λL1 c1 h1 h2 h3 h4=>I.mn L1 c1 h1 h2 h3 λi a b=>h4 i a (by omega)
 b0:=rfl
 bz:=λj hj=>RM I.bz j (by have:=I.ln;omega)
 bl:=RL r I.bl
 bk:=λi h1 h2=>by
  have:=I.ln
  rw[RK r s b (show 1<=i by omega)]
  exact I.bk _ (by omega) (by omega)
 bo:=λh1=>by
  rw[RK r s b (by omega)]
  exact I.bo (by have:=I.ln;omega)
end
end L3
namespace L3
section
variable{N:Nat}{p q:Nat->Nat->Nat}
theorem RN{s:Nat->Nat}{j n:Nat}(h:n<j):fF j s n=0:=if_pos h
theorem yr(s:Nat->Nat){j n:Nat}(h:j<=n):fF j s n=s (n-j):=if_neg (by omega)
theorem Rg.zq(r:Rg N p q)(a:Nat):q 0 a=0:=by rw[r.mc];exact r.qz a
theorem BD(r:Rg N p q)(s c:Nat->Nat){n M:Nat}(h:n<M):ds p q s c n=sm p M λj=>q (c j) (fF j s n):=by
 unfold ds
 rw[cv2 r (show n+1<=M by omega) (λj _=>r.lq _ _) λj h1 _=>by rw[RN (by omega),r.qz]]
 exact iY λj hj=>by rw[yr s (by omega)]
theorem ce6(r:Rg N p q)(s a b:Nat->Nat)(n:Nat):ds p q s (λj=>p (a j) (b j)) n=p (ds p q s a n) (ds p q s b n):=by
 unfold ds
 rw[<-BB r]
 exact iY λj _=>by rw[r.mc (p _ _),r.dl,r.mc (a j),r.mc (b j)]
theorem ci7(r:Rg N p q)(s t c:Nat->Nat)(n:Nat):ds p q (λj=>p (s j) (t j)) c n=p (ds p q s c n) (ds p q t c n):=by
 unfold ds
 rw[<-BB r]
 exact iY λj _=>r.dl _ _ _
theorem b05(r:Rg N p q){a b s:Nat->Nat}(ha:∀j,a j<N)(hb:∀j,b j<N)(hs:∀j,s j<N)(n:Nat):ds p q s (ds p q b a) n=ds p q (ds p q s b) a n:=by
 have m8:∀(s:Nat->Nat) (k j:Nat),(∀j,s j<N)->fF k s j<N:=λs k j h=>by
  unfold fF
  split
  ·exact r.pos
  ·exact h _
 rw[BD r (ds p q s b) a (vS n),BD r s (ds p q b a) (vS n)]
 have e1:sm p (n+1) (λk=>q (ds p q b a k) (fF k s n))=sm p (n+1) λk=>sm p (n+1) λi=>q (a i) (q (fF i b k) (fF k s n)):=iY λk hk=>by
  rw[BD r b a hk,r.mc,<- BC r]
  exact iY λi _=>by rw[r.mc,r.ma (ha i) (m8 b i k hb) (m8 s k n hs)]
 rw[e1,RJ r]
 refine iY λi hi=>?_
 rw[BC r (a i)]
 congr 1
 rw[yr _ (by omega),BD r s b (show n-i<n+1-i by omega),show n+1=i+(n+1-i) by omega,yq r i _ λj _=>r.lq _ _,qp r (n:=i) λj hj=>by rw[RN hj,r.zq]]
 rw[r.z (uw r λj _=>r.lq _ _),DJ]
 refine iY λj hj=>?_
 rw[yr b (by omega),DJ,yr s (by omega),yr s (by omega),show n-(i+j)=n-i-j by omega]
theorem cp4(r:Rg N p q){u s:Nat->Nat}{d e:Nat}(hu:∀j,d<=j->u j=0)(hs:∀j,e<=j->s j=0)(n:Nat)(h:d+e<=n):ds p q s u n=0:=qp r λj _=>by
 by_cases h1:d<=j
 ·rw[hu j h1,r.zq]
 ·rw[hs _ (by omega),r.qz]
noncomputable def Mk(N:Nat)(p q:Nat->Nat->Nat)(a r0 r1:Nat->Nat):Prop:=∃(u0 u1:Nat->Nat) (d:Nat),(∀j,u0 j<N)/\(∀j,u1 j<N)/\(∀j,d<=j->u0 j=0)/\(∀j,d<=j->u1 j=0)/\∀k,a k=p (ds p q r0 u0 k) (ds p q r1 u1 k)
theorem Mk.next(r:Rg N p q){a r0 r1 r2 t:Nat->Nat}{e:Nat}(h:Mk N p q a r0 r1)(l1:∀j,r1 j<N)(lt:∀j,t j<N)(ft:∀j,e<=j->t j=0)(h2:∀k,r0 k=p (ds p q r1 t k) (r2 k)):Mk N p q a r1 r2:=by
 obtain⟨u0,u1,d,a1,a2,a3,a4,a5⟩:=h
 refine⟨λj=>p (ds p q t u0 j) (u1 j),u0,d+e,λj=>r.lp (cD0 r _ _ _) (a2 j),a1,λj hj=>?_,λj hj=>a3 j (by omega),λk=>?_⟩
 ·show p (ds p q t u0 j) (u1 j)=0
  rw[cp4 r a3 ft j hj,a4 j (by omega)];exact r.z r.pos
 ·rw[a5 k,ce6 r,b05 r a1 lt l1,show r0=λk=>p (ds p q r1 t k) (r2 k) from funext h2,ci7 r,r.pa,r.pa,r.pc (ds p q r2 u0 k)]
end
end L3
namespace L3
open PySem L2 Mf
theorem rg{m:Bool × Nat}(hm:m∈aF):Rg (ah m) (gp m) (gm m) where
 pc:=gK m
 pa:=iW m
 mc:=jf m
 ma:=λ_ _ _=>kA (bR m hm) _ _ _
 dl:=λa b c=>yk (bR m hm) b c a
 z:=fC
 qz:=λa=>jg m a (bR m hm)
 one:=Gd
 lp:=qj hm
 lq:=dU hm
 ng:=λ{a} ha=>by
  have g:=yp hm (a:=0) (b:=a) (by omega) ha
  exact⟨_,g.2.1,(gK m _ _).trans g.2.2⟩
theorem cx9{m:Bool × Nat}(hm:m∈aF)(f:Nat)(b:List Nat)(j:Nat):cf (b.map (gm m f)) j=gm m f (cf b j):=by
 unfold cf
 rw[bF,dm,bF]
 cases b[j]? with
 | none=>exact(jg m f (bR m hm)).symm
 | some x=>rfl
theorem quot{m:Bool × Nat}(hm:m∈aF){a b:Nat}(ha:a<ah m)(hb:b<ah m)(h0:b≠0):∃r,r<ah m/\gm m r b=a:=by
 by_cases a0:a=0
 ·exact⟨0,by have:=(bN hm).lo;omega,by rw[a0];exact fg m b (bR m hm)⟩
 ·obtain⟨r,_,h1,h2⟩:=Q9 hm (show 1<=a by omega) ha (show 1<=b by omega) hb
  exact⟨r,h1,h2⟩
theorem Gx{p q:Nat->Nat->Nat}{s s' c:Nat->Nat}{n:Nat}(h:∀j,j<n+1->s j=s' j):ds p q s c n=ds p q s' c n:=iY λj hj=>by rw[h (n-j) (by omega)]
theorem BI.other{N:Nat}{p q:Nat->Nat->Nat}(r:Rg N p q){s s' c b:Nat->Nat}{n L o:Nat}(I:BI N p q s n L c b o)(h:∀j,j<n->s j=s' j):BI N p q s' n L c b o where
 c0:=I.c0
 cz:=I.cz
 cl:=I.cl
 ln:=I.ln
 kp:=λi h1 h2=>by rw[<-Gx λj hj=>h j (by omega)];exact I.kp i h1 h2
 mn:=λL1 c1 h1 h2 h3 h4=>I.mn L1 c1 h1 h2 h3 λi a b=>by rw[Gx λj hj=>h j (by omega)];exact h4 i a b
 b0:=I.b0
 bz:=I.bz
 bl:=I.bl
 bk:=λi h1 h2=>by rw[<-Gx λj hj=>h j (by omega)];exact I.bk i h1 h2
 bo:=λh1=>by
  rw[<-I.bo h1]
  refine iY λj hj=>?_
  by_cases e:j=0
  ·rw[e,I.b0,r.mc,r.qz,r.mc,r.qz]
  ·rw[h (n-j) (by omega)]
theorem BI.start{m:Bool × Nat}(hm:m∈aF)(s:Nat->Nat):BI (ah m) (gp m) (gm m) s 0 0 (cf [1]) (fF 1 (cf [1])) 1:=by
 have lo:=(bN hm).lo
 have cl:∀j,cf [1] j<ah m:=λj=>by
  cases j with
  | zero=>exact lo
  | succ j=>exact cI (show 0<2 by decide) lo
 have cz:∀j,0<j->cf [1] j=0:=λj hj=>fE (show([1]:List Nat).length<=j from hj)
 exact⟨rfl,cz,cl,aY _,λi _ h=>absurd h (v9 i),λ_ _ _ _ _ _=>gi _,rfl,λj hj=>RM cz j hj,RL (rg hm) cl,λi _ h=>absurd h (v9 i),λh=>absurd h (by omega)⟩
end L3
namespace L3
open PySem L2 PySem.Spec PyProof.Rows
section
variable{X:Cx}{i j:Nat}{x y:Str}{p pos pos' apos bB:Pos}
end
section
variable{X:Cx}{e:Expr}{t:aD}{p pos:Pos}
end
section
variable{X:Cx}
end
end L3
namespace L3
open PySem L2 Mf
open Classical in
theorem RO{α:Type}{sh:Bool}{xs:List D}{ax:List (Str × Nat)}{n:Nat}{g0:fS}{tt:eP}{te:aD}{ai:Dl}{Q:D->Dl->Prop}(l:List α)(e g:α->D)(kp:α->Bool)(ik:xs.map D.sh=l.map e)(inj:∀a b,e a=e b->a=b)
  (hx:∀a∈l,g0 (e a) (fc ax n ai) λaI=>tt aI λb gD=>b=kp a/\(kp a=true->te gD λd _=>d=g a)) (di:(sh&&ax.all (ig ai))=true\/∀a∈l,kp a=true->(g a).fr=true) (hl:l.length<=sizeLine) (hq:Q (.lst true ((l.filter kp).map g)) ai):pF sh xs ax n g0 tt te ai Q:=by
 have pick:∀{β:Type} (h:α->β) (z:β),∃f:D->β,∀a∈l,f (e a)=h a:=λh z=>⟨λx=>if w:∃a∈l,e a=x then h w.choose else z,λa ha=>by
  have w:∃b∈l,e b=e a:=⟨a,ha,rfl⟩
  show(if w:∃b∈l,e b=e a then h w.choose else z)=h a
  rw[dif_pos w]
  exact congrArg h (inj _ _ w.choose_spec.2)⟩
 obtain⟨f,hf⟩:=pick g .ao
 obtain⟨p,hp⟩:=pick kp false
 refine⟨p,f,λx h=>?_,di.imp id λh x dR=>?_,?_,?_⟩
 ·rw[ik]at h
  obtain⟨a,ha,rfl⟩:=dn.mp h
  rw[hp a ha,hf a ha]
  exact hx a ha
 ·rw[ik]at dR
  obtain⟨a,ha,rfl⟩:=dn.mp dR
  rw[hp a ha,hf a ha];exact h a ha
 ·have:=congrArg Dh ik
  simp at this
  omega
 ·rw[ik,List.filter_map,gk,show l.filter (p ∘ e)=l.filter kp from List.filter_congr λa ha=>hp a ha,show(l.filter kp).map (f ∘ e)=(l.filter kp).map g from vY λa ha=>hf a (Dc.mp ha).1]
  exact hq
end L3
namespace L2
open PySem PySem.Spec PyProof.Rows
section
variable{X:Cx}{scope:Scope}{cl:List (Str × Addr)}
end
end L2
namespace L2
open PySem PySem.Spec PyProof.Rows
section
variable{X:Cx}{elt iter tg:Expr}{pos:Pos}{ifs:List Expr}{scope:Scope}{cl:List (Str × Addr)}{wi:TI}{tt:TT}{te:TE}{g:TG}
end
end L2
namespace L3
open PySem L2 PySem.Spec PyProof.Rows
section
variable{X:Cx}{elt iter tg:Expr}{pos:Pos}{ifs:List Expr}{scope:Scope}{cl:List (Str × Addr)}{ti:gF}{tt:eP}{te:aD}{g:fS}
end
end L3
namespace L3
open PySem L2 Mf
theorem lo1{m:Bool × Nat}(hm:m∈aF):1<ah m:=by have:=(bN hm).lo;omega
inductive Sp(N:Nat)(p q:Nat->Nat->Nat)(S:(Nat->Nat)->Prop):(Nat->Nat)->Prop
 | mem {f:Nat->Nat}:S f->Sp N p q S f
 | zero:Sp N p q S λ_=>0
 | add {f g:Nat->Nat}:Sp N p q S f->Sp N p q S g->Sp N p q S λk=>p (f k) (g k)
 | mul {f:Nat->Nat} (c:Nat):c<N->Sp N p q S f->Sp N p q S λk=>q c (f k)
theorem Sp.trans{N:Nat}{p q:Nat->Nat->Nat}{S S':(Nat->Nat)->Prop}(h:∀f,S f->Sp N p q S' f){f:Nat->Nat}(s:Sp N p q S f):Sp N p q S' f:=by
 induction s with
 | mem a=>exact h _ a
 | zero=>exact .zero
 | add _ _ a b=>exact .add a b
 | mul c hc _ a=>exact .mul c hc a
theorem Sp.lt{N:Nat}{p q:Nat->Nat->Nat}(r:Rg N p q){S:(Nat->Nat)->Prop}(h:∀f,S f->∀k,f k<N){f:Nat->Nat}(s:Sp N p q S f):∀k,f k<N:=by
 induction s with
 | mem a=>exact h _ a
 | zero=>exact λ_=>r.pos
 | add _ _ a b=>exact λk=>r.lp (a k) (b k)
 | mul c hc _ a=>exact λk=>r.lq _ _
theorem Gy(f:Nat->Nat){w k:Nat}(h:k<w):cf ((aV w).map f) k=f k:=by
 unfold cf
 rw[bF,dm,mS h];rfl
end L3
namespace L3
open PySem L2 Mf
noncomputable def dt(m:Bool × Nat)(w:Nat)(x y:Nat->Nat):Nat:=sm (gp m) w λj=>gm m (x j) (y j)
theorem Sp.sm{N:Nat}{p q:Nat->Nat->Nat}{S:(Nat->Nat)->Prop}{c:Nat->Nat}{F:Nat->Nat->Nat}:∀{n:Nat},(∀i,i<n->c i<N)->(∀i,i<n->Sp N p q S (F i))->Sp N p q S λk=>L3.sm p n λi=>q (c i) (F i k)
 | 0,_,_=>.zero
 | n+1,hc,h=>.add (Sp.sm (λi hi=>hc i (by omega)) λi hi=>h i (by omega)) (.mul _ (hc n (by omega)) (h n (by omega)))
end L3
namespace L3
open PySem L2 PySem.Spec PyProof.Rows
section
variable{X:Cx}{F H:Hp}{e b:Expr}{pos pos' p p2 p3 apos bB:Pos}{ti te:aD}{x y:Str}{i j:Nat}
end
section
variable{X:Cx}
end
section
variable{X:Cx}{es:List Expr}{tr:bX}{pos:Pos}
end
end L3
namespace L3
open PySem L2 Mf
end L3
namespace L3
open PySem L2 Mf
theorem cs2(a b:List Nat)(k:Nat):cf (a++b) k=if k<a.length then cf a k else cf b (k-a.length):=by
 unfold cf
 rw[bF,List.getElem?_append]
 split<;>rw[bF]
end L3
namespace L3
open PySem L2 Mf
end L3
namespace L2
open PySem PySem.Spec PyProof.Rows
section
variable{X:Cx}
end
end L2
namespace L3
open PySem L2 PySem.Spec PyProof.Rows
section
variable{X:Cx}
end
end L3
namespace L2
open PySem PySem.Spec PyProof.Rows
section
variable{X:Cx}{a:Expr}{ta:TE}{p p2 pos cW:Pos}
noncomputable def tLR(ta:TE):TE:=λσ H Q=>ta σ H λv H1=>∃j:Nat,v=.int (j:Int)/\j<=1000/\∀l,H1 l=none->Q (.ref l) (upd H1 l (.lst ((aV j).map λ(k:Nat)=>V.int (k:Int))))
theorem bE0{n:Nat}{acc:Array Value}(h:ItemsOf (λ(i:Nat) (v:Value)=>∃t,v=fG ((0:Int)+(i:Int)*1) t) acc n):Vals ((aV n).map λ(k:Nat)=>V.int (k:Int)) acc.toList:=by
 have key:∀(l:List Value) (b:Nat),(∀(i:Nat) (v:Value),l[i]?=some v->∃t,v=fG ((b+i:Nat):Int) t)->Vals ((List.range' b l.length).map λ(k:Nat)=>V.int (k:Int)) l:=by
  intro l
  induction l with
  | nil=>exact λb _=>.nil
  | cons v l ih =>
   intro b hb
   rw[eJ,List.range'_succ,dk]
   refine .cons ?_ (ih (b+1) λi v hv=>?_)
   ·obtain⟨t,rfl⟩:=hb 0 v rfl
    exact⟨t,rfl⟩
   ·obtain⟨t,e⟩:=hb (i+1) v (by simpa using hv)
    exact⟨t,by rw[e];congr 1;omega⟩
 have hl:acc.toList.length=n:=by rw[gh];exact h.1
 rw[List.range_eq_range',<- hl]
 refine key acc.toList 0 λi v hv=>?_
 obtain⟨t,e⟩:=h.2 i v (by simpa using hv)
 exact⟨t,by rw[e];congr 1;omega⟩
theorem bt3(hc:X.calm=true)(hg:Gl X "list")(hm:X.mg "list"=none)(iS:Gl X "range")(fe:X.mg "range"=none)(ha:PE X a ta)
  (hs:starEach [.Call (.Name "range" p2) [a] [] cW] X.env=(false,eval (.Call (.Name "range" p2) [a] [] cW) X.env)::starEach [] X.env:=by rfl) (aW:(backTo pos (starEach [] X.env)).any (·.1)=false:=by rfl)
  (cK:starEach [a] X.env=(false,eval a X.env)::starEach [] X.env:=by rfl) (qu:(backTo cW (starEach [] X.env)).any (·.1)=false:=by rfl) (qv:starEach [] X.env=[]:=by rfl) :
  PE X (.Call (.Name "list" p) [.Call (.Name "range" p2) [a] [] cW] [] pos) (tLR ta):=by
 intro pins s σ H Q I h
 refine wpAny_Call_Name_kw (iw I hg hm oV ?_ (by decide) (by decide))
 refine jO ?_ hs aW
 rw[hs]
 show wpAny _ _ (spliced ((false,eval (.Call (.Name "range" p2) [a] [] cW) X.env)::backTo pos (starEach [] X.env))) _ _ s
 refine Dg ?_
 refine wpAny_Call_Name_kw (iw I iS fe Zn ?_ (by decide) (by decide))
 refine jO ?_ cK qu
 rw[cK]
 show wpAny _ _ (spliced ((false,eval a X.env)::backTo cW (starEach [] X.env))) _ _ s
 refine Dg (aE (ha pins s σ H _ I h) λu s1 zz=>?_)
 obtain⟨x,H1,I1,r1,q1⟩:=zz
 obtain⟨j,rfl,hj,q⟩:=q1
 obtain⟨t,rfl⟩:=r1
 rw[qv]
 refine Df ?_
 refine call_range_1 ?_
 refine Df ?_
 have I2:Inv X pins σ H1 { s1 with heap:=s1.heap.push { cls:=.type "range",data:=.fields #[.int 0 s1.toks,.int j t,.int 1 (s1.toks+1)] },toks:=s1.toks+1+1 }:=I1.kept λb o e=>bK _ e
 refine call_list_range (n:=j) (I2.ok.hd hc) (IsRange.new ..) (small_one (by omega) (by omega) (by omega) (by omega)) (by rw[rangeSize_one];split<;>omega) (by omega) λh' tk dj c' kp e iG=>?_
 have hv:=bE0 iG
 exact⟨.ref _,_,I2.laid (t':=tk) kp (by omega) (show cM X.prog X.w _ h' _ (.lst _) from⟨by rw[cQ,eB];have:=oN;unfold sizeLine;omega,dj.toList,c',hv,by simpa using e⟩),rfl,q _ (I2.av.fresh (aY _))⟩
end
end L2
namespace L3
open PySem L2 PySem.Spec PyProof.Rows
section
variable{X:Cx}{a:Expr}{t:aD}{p p2 pos cW:Pos}
noncomputable def uz(t:aD):aD:=λδ Q=>t δ λd ai=>∃j:Nat,d=.int (j:Int)/\j<=1000/\Q (.lst true (au (aV j))) ai
theorem bv1(hc:X.calm=true)(hg:Gl X "list")(hm:X.mg "list"=none)(iS:Gl X "range")(fe:X.mg "range"=none)(ha:PE X a (lB t))
  (hs:starEach [.Call (.Name "range" p2) [a] [] cW] X.env=(false,eval (.Call (.Name "range" p2) [a] [] cW) X.env)::starEach [] X.env:=by rfl) (aW:(backTo pos (starEach [] X.env)).any (·.1)=false:=by rfl)
  (cK:starEach [a] X.env=(false,eval a X.env)::starEach [] X.env:=by rfl) (qu:(backTo cW (starEach [] X.env)).any (·.1)=false:=by rfl) (qv:starEach [] X.env=[]:=by rfl) :
  PE X (.Call (.Name "list" p) [.Call (.Name "range" p2) [a] [] cW] [] pos) (lE (uz t)) :=
 cJ (bt3 hc hg hm iS fe ha hs aW cK qu qv) λσ H Q ⟨B,F,δ,ts,Qd,c,q,k⟩=>⟨B,F,δ,ts,_,c,q,λd ai v F1 H1 q1 f1 h1 c1 s1=>by
  obtain⟨j,rfl,hj,hq⟩:=q1
  cases s1
  refine⟨j,rfl,hj,λl hl=>?_⟩
  have sn:∀ns:List Nat,S F1 H1 (au ns) (ns.map λ(k:Nat)=>V.int (k:Int)):=λns=>by
   induction ns with
   | nil=>exact .nil
   | cons n ns ih=>exact .int ih
  exact k _ ai _ F1 _ hq f1 (h1.trans (aa.upd hl)) (c1.jw hl (sn _) (kr _))⟩
end
end L3
namespace L3
open PySem L2 PySem.Spec PyProof.Rows
section
variable{F H:Hp}
end
section
variable{X:Cx}{e:Expr}{t:aD}{p2 pos:Pos}
end
end L3
namespace L3
open PySem L2 PySem.Spec PyProof.Rows
noncomputable def EE(A:List Addr)(H:Hp):Hp:=λa=>if a∈A then none else H a
section
variable{F H:Hp}
end
section
variable{P:Program}{w:World}{K:PySem.W.Frag}{mg:Str->Option Value}{base:Heap}
end
section
variable{X:Cx}{CX:dP}{n i:Nat}{f:Addr}{fd:FuncData}{ps:List Str}{sp:bx}{E:XK}{fn x:Str}{e:Expr}{te:aD}{p p2 pos pos' cW:Pos}
end
end L3
namespace L2
section
variable{α:Type}{P:List α->Prop}
theorem cr8(h:P []):∀us:List α,us.length=0->P us:=by
 intro us hl;rcases us with _ | ⟨a,t⟩
 ·exact h
 ·cases hl
theorem jH(h:∀a,P [a]):∀us:List α,us.length=1->P us:=by
 intro us hl;rcases us with _ | ⟨a,t⟩
 ·cases hl
 ·exact cr8 (P:=λt=>P (a::t)) (h a) t (DK hl)
theorem gM(h:∀a b,P [a,b]):∀us:List α,us.length=2->P us:=by
 intro us hl;rcases us with _ | ⟨a,t⟩
 ·cases hl
 ·exact jH (P:=λt=>P (a::t)) (h a) t (DK hl)
theorem fh(h:∀a b c,P [a,b,c]):∀us:List α,us.length=3->P us:=by
 intro us hl;rcases us with _ | ⟨a,t⟩
 ·cases hl
 ·exact gM (P:=λt=>P (a::t)) (h a) t (DK hl)
theorem Gz(h:∀a b c d,P [a,b,c,d]):∀us:List α,us.length=4->P us:=by
 intro us hl;rcases us with _ | ⟨a,t⟩
 ·cases hl
 ·exact fh (P:=λt=>P (a::t)) (h a) t (DK hl)
end
end L2
namespace L3
open PySem L2 PySem.Spec PyProof.Rows
section
variable{B:Bs}{F H:Hp}{σ:L2.St}{δ:Dl}{ts:List (D × V)}
theorem aj.apart{j:Nat}{p q:Addr}{xs ys:List D}(c:aj B F H σ δ ((.lst true xs,.ref q)::ts))(e:δ[j]?=some (some (.lst true ys)))(e2:σ[j]?=some (some (.ref p))):p≠q:=by
 obtain⟨A,C,r,s,nd,fr⟩:=c.own
 obtain⟨v,A',C',e1,h1,h2,pm⟩:=s.pick e
 rw[e2]at e1;cases e1
 intro z
 subst z
 have i1:p∈A:=by
  cases r with
  | own h f x r=>simp
 have i2:p∈C:=by
  refine pm.mem_iff.mpr ?_
  cases h1 with
  | own h f x r=>simp
 exact(e7.mp nd).2.2 p i1 i2
theorem yt(F H:Hp):∀ns:List Int,R F H (nums ns) (ns.map V.int) []
 | []=>.nil
 | _::ns=>.int (yt F H ns)
end
section
variable{X:Cx}{elt iter tg:Expr}{pos:Pos}{scope:Scope}{cl:List (Str × Addr)}{ti:gF}{te:aD}{g:fS}
end
end L3
namespace L2
open PySem PySem.Spec PyProof.Rows
section
variable{X:Cx}
theorem RP:∀{ns:List Int} {its:List Value},PyProof.Rows.IntsAre its ns->Vals (ns.map V.int) its
 | _,_,.nil=>.nil
 | _,_,.cons n t r=>.cons ⟨t,rfl⟩ (RP r)
end
end L2
namespace L3
open PySem L2 PySem.Spec PyProof.Rows
section
variable{X:Cx}
end
end L3
namespace L3
open PySem L2 Mf
noncomputable def BE(l:List Nat)(z:Nat->Nat):Nat->List Nat
 | 0=>l
 | t+1=>(BE l z t).eraseIdx (z t%(BE l z t).length)
noncomputable def drawn(l:List Nat)(z:Nat->Nat)(t:Nat):Nat:=(BE l z t).getD (z t%(BE l z t).length) 0
theorem BF{α:Type}:∀(l:List α) (i:Nat) (h:i<l.length),(l[i]::l.eraseIdx i).Perm l
 | a::l,0,_=>DL _
 | a::l,i+1,h=>by
  have h':i<l.length:=by simpa using h
  show(l[i]::a::l.eraseIdx i).Perm (a::l)
  exact(List.Perm.swap _ _ _).trans (List.Perm.cons a (BF l i h'))
end L3
namespace L3
open PySem L2 Mf
section
variable{m:Bool × Nat}{C:Nat->Nat->Nat}{w:Nat}
end
end L3
namespace L3
open PySem L2 Mf
section
variable{m:Bool × Nat}{C:Nat->Nat->Nat}{w:Nat}
end
end L3
namespace L3
open PySem L2 Mf
section
variable{m:Bool × Nat}{C:Nat->Nat->Nat}
end
end L3
namespace L3
open PySem L2 PySem.Spec PyProof.Rows
section
variable{B:Bs}{F H:Hp}{σ:L2.St}{δ:Dl}{ts:List (D × V)}
end
section
variable{X:Cx}{a:Expr}{ta:aD}{pos p2:Pos}{tk:Nat}
end
end L3
namespace L3
open PySem L2 PySem.Spec PyProof.Rows
section
variable{X:Cx}{a b:Expr}{ta tb:aD}{elts:List Expr}{x1:Nat}{kU p pos:Pos}
end
end L3
namespace L3
open PySem L2 Mf
section
variable{m:Bool × Nat}
end
end L3
namespace L3
open PySem L2 PySem.Spec PyProof.Rows
section
variable{B:Bs}{F H:Hp}{σ:L2.St}{δ:Dl}{ts ps:List (D × V)}{p:Addr}
end
section
variable{X:Cx}{iter tg:Expr}{te:aD}{g:fS}{t:bS}{pos:Pos}
end
section
variable{X:Cx}{e:Expr}{pos p pr apos bB AJ tp:Pos}{t:aD}{x y:Str}{i j:Nat}{n0:Int}
end
end L3
namespace L2
open PySem PySem.Spec PyProof.Rows
section
variable{prog:Program}{w:World}{A:Around}{E:Value->Shared->Prop}{s:Shared}
end
section
variable{prog:Program}{w:World}{A:Around}{E:Value->Shared->Prop}{s:Shared}
end
section
variable{X:Cx}{pins:List (Addr × Obj)}{σ:St}{H:Hp}{s:Shared}
end
section
variable{X:Cx}{a b:Expr}{ta:TA}{p pos kU:Pos}{elts:List Expr}{x1:Nat}
end
end L2
namespace L3
open PySem L2 PySem.Spec PyProof.Rows
section
variable{F H:Hp}{p q:Addr}{xs ys:List D}{ws us:List V}
theorem b03{v:V}(s:S F H [.tup xs] [v])(e:aa F H):∃p ws,v=.ref p/\H p=some (.tup ws)/\R H H (xs.map D.sh) ws []/\((D.tup xs).pl=true->xs.all D.pl=true/\R F H xs ws []):=by
 cases s with
 | @tup p ws _ _ _ h sx sr=>exact⟨p,ws,rfl,h,sx.frozen e,λz=>by rw[ju]at z;exact⟨z,sx.r z⟩⟩
end
section
variable{X:Cx}{a b l tg:Expr}{ta:bX}{te:aD}{p pos kU:Pos}{elts:List Expr}{x1:Nat}
end
end L3
namespace L3
open PySem L2 Mf
section
variable{m:Bool × Nat}
end
end L3
namespace L3
open PySem L2 PySem.Spec PyProof.Rows
section
variable{B:Bs}{F H:Hp}{σ:L2.St}{δ:Dl}{ts:List (D × V)}
theorem aj.c81{p:Addr}{d:D}{xs:List D}{ws:List V}{z:V}(c:aj B F H σ δ ((.tup (d::xs),.ref p)::ts))(e1:H p=some (.tup (z::ws))):aj B F H σ δ ((d,z)::ts):=by
 refine aj.pack (ps:=[(.tup (d::xs),.ref p)]) c (aa.refl _) λA1 r1 nd=>?_
 have r1:R F H [.tup (d::xs)] [.ref p] A1:=r1
 cases r1 with
 | @tup _ wx _ Ax _ _ Bx hx rx rc =>
  cases rc
  rw[e1]at hx;cases hx
  obtain⟨v,ck,B1,B2,e,rfl,h1,h2⟩:=R.cH rx
  obtain⟨rfl,rfl⟩:=mP e
  rw[jP]at nd
  exact⟨B1,h1,(e7.mp nd).1,λa ha=>.inl (by simp[ha])⟩
end
section
variable{X:Cx}{a:Expr}{ta:aD}{pos p2:Pos}{tk:Nat}
noncomputable def uA(ta:aD):aD:=λδ Q=>ta δ λx ai=>∃d xs,x=.tup (d::xs)/\Q d ai
theorem cA4(ha:PE X a (lE ta))(hs:Ep (.Constant (.int 0) tk p2)):PE X (.Subscript a (.Constant (.int 0) tk p2) pos) (lE (uA ta)) :=
 cJ (NQ NU ha oF hs) λσ H Q ⟨B,F,δ,ts,Qd,c,q,k⟩=>⟨B,F,δ,ts,_,c,q,λx ai v F1 H1 q1 f1 h1 c1=>by
  obtain⟨d,xs,rfl,hq⟩:=q1
  obtain⟨p,ws,rfl,e1,s1,_⟩:=b03 c1.top c1.ext
  have hl:=s1.length
  cases ws with
  | nil=>simp at hl
  | cons z vs=>exact⟨p,_,0,z,rfl,rfl,eZ.of e1,(by unfold dD;rw[Gq (Int.le_refl 0) (by show 0<(z::vs).length;simp)];rfl),k _ ai z F1 H1 hq f1 h1 (c1.c81 e1)⟩⟩
end
end L3
namespace L2
open PySem PySem.Spec PyProof.Rows
noncomputable def Rs(a:Array Nat):Prop:=a.toList.Pairwise (· < ·)
theorem Rs.lt{a:Array Nat}(r:Rs a){i k:Nat}(h:i<k)(hk:k<a.size):a[i]'(by omega)<a[k]:=by
 have:=List.pairwise_iff_getElem.mp r i k (by simpa using(by omega:i<a.size)) (by simpa using hk) h
 simpa using this
theorem GA{a:Array Nat}{j:Nat}(r:Rs a):∀(fuel lo hi:Nat),lo<=hi->hi<=a.size->hi-lo<=fuel->(∀i,(h:i<a.size)->i<lo->a[i]<j)->(∀i,(h:i<a.size)->hi<=i->j<=a[i]) ->
  zF a j fuel lo hi<=a.size/\(∀i,(h:i<a.size)->i<zF a j fuel lo hi->a[i]<j)/\∀i,(h:i<a.size)->zF a j fuel lo hi<=i->j<=a[i]
 | 0,lo,hi,h1,h2,h3,h4,h5=>by
  have e:lo=hi:=by omega
  subst e
  unfold zF
  exact⟨h2,h4,h5⟩
 | fuel+1,lo,hi,h1,h2,h3,h4,h5=>by
  unfold zF
  by_cases hl:lo<hi
  ·rw[if_pos hl]
   have hm:(lo+hi)/2<a.size:=by omega
   have eg:a.getD ((lo+hi)/2) j=a[(lo+hi)/2]:=by simp[zG,hm]
   dsimp only
   rw[eg]
   by_cases hc:a[(lo+hi)/2]<j
   ·rw[if_pos hc]
    refine GA r fuel _ hi (by omega) h2 (by omega) (λi du gB=>?_) h5
    by_cases e:i=(lo+hi)/2
    ·subst e;exact hc
    ·exact Nat.lt_trans (r.lt (show i<(lo+hi)/2 by omega) hm) hc
   ·rw[if_neg hc]
    refine GA r fuel lo _ (by omega) (by omega) (by omega) h4 (λi du hle=>?_)
    by_cases e:i=(lo+hi)/2
    ·subst e;omega
    ·exact zc (kM (Nat.le_of_not_lt hc) (r.lt (show(lo+hi)/2<i by omega) du))
  ·rw[if_neg hl]
   have e:lo=hi:=by omega
   subst e
   exact⟨h2,h4,h5⟩
theorem RQ{a:Array Nat}{j:Nat}(r:Rs a):eX a j<=a.size/\(∀i,(h:i<a.size)->i<eX a j->a[i]<j)/\∀i,(h:i<a.size)->eX a j<=i->j<=a[i] :=
 GA r a.size 0 a.size (gi _) (aY _) (by omega) (λi _ h=>absurd h (v9 _)) λi h h'=>absurd h' (by omega)
theorem Rs.ins{a:Array Nat}{j:Nat}(r:Rs a)(hn:a[eX a j]?≠some j):Rs (SetTable.insertAt a (eX a j) j):=by
 obtain⟨h1,h2,h3⟩:=RQ (j:=j) r
 unfold Rs
 rw[SetTable.toList_insertAt]
 refine List.pairwise_append.mpr ⟨r.sublist (List.take_sublist _ _),rk.mpr ⟨λx hx=>?_,r.sublist (List.drop_sublist _ _)⟩,λx hx y hy=>?_⟩
 ·obtain⟨i,hi,e⟩:=vV hx
  rw[M3]at e
  have du:eX a j+i<a.size:=by rw[jQ,gh]at hi;omega
  have e':a[eX a j+i]=x:=by simpa using e
  have:=h3 _ du (by omega)
  rcases Nat.lt_or_ge j x with z | z
  ·exact z
  ·exfalso
   have ex:x=j:=by omega
   cases i with
   | zero=>exact hn (by rw[mW (by simpa using du)];simpa[ex]using e')
   | succ i =>
    have:=r.lt (show eX a j<eX a j+(i+1) by omega) du
    have:=h3 (eX a j) (by omega) (aY _)
    omega
 ·obtain⟨i,hi,e⟩:=vV hx
  rw[List.getElem_take]at e
  have gJ:i<eX a j:=by rw[gj]at hi;omega
  have e':a[i]'(by omega)=x:=by simpa using e
  have xl:=h2 i (by omega) gJ
  rcases bG.mp hy with rfl | hy
  ·omega
  ·obtain⟨k,hk,f⟩:=vV hy
   rw[M3]at f
   have Ai:eX a j+k<a.size:=by rw[jQ,gh]at hk;omega
   have f':a[eX a j+k]=y:=by simpa using f
   have:=h3 _ Ai (by omega)
   omega
structure cV(led:Bool)(t:SetTable):Prop where
 led:t.led=led
 GB:t.dummies=#[]
 BG:Rs t.place
theorem cV.off{led:Bool}{t:SetTable}(p:cV led t):cV led { t with plain:=false }:=⟨p.led,p.GB,p.BG⟩
theorem cV.fresh(led:Bool):cV led (.fresh 0 0 led):=⟨rfl,rfl,MG⟩
theorem cV.standIn{led:Bool}{t:SetTable}(p:cV led t)(n:Nat):cV led (t.standIn n):=⟨p.led,rfl,by
 show(Array.range n).toList.Pairwise (· < ·)
 rw[Array.toList_range];exact M5⟩
theorem RR(j:Nat):SetTable.has #[] j=false:=by
 unfold SetTable.has;simp
theorem RT{led:Bool}{t:SetTable}(p:cV led t){f:Nat->Int}{h:Int}:∀(fuel:Nat) (q:SetTable.Probe) (j:Nat) (d:Option Nat),q.dummy=none->M6 t f h fuel q=some (.empty j d)->d=none/\t.place[eX t.place j]?≠some j
 | 0,q,j,d,hq,e=>by unfold M6 at e;cases e
 | fuel+1,q,j,d,hq,e=>by
  unfold M6 at e
  have adv:∀q:SetTable.Probe,(t.advance q).dummy=q.dummy:=λq=>by
   unfold SetTable.advance
   split<;>rfl
  have sl:t.slot q.j=.empty\/(∃i,t.slot q.j=.live i):=by
   unfold SetTable.slot
   rw[p.GB,RR]
   dsimp only
   split
   ·exact .inr ⟨_,rfl⟩
   ·exact .inl rfl
  rcases sl with z | ⟨i,z⟩
  ·rw[z]at e
   dsimp only at e
   injection e with e
   injection e with e1 e2
   subst e1
   refine⟨by rw[<-e2];exact hq,λy=>?_⟩
   unfold SetTable.slot at z
   dsimp only at z
   rw[y]at z
   simp at z
  ·rw[z]at e
   dsimp only at e
   split at e
   ·cases e
   ·exact RT p fuel _ j d (by rw[adv];exact hq) e
theorem cV.put{led:Bool}{t:SetTable}(p:cV led t){j:Nat}(hn:t.place[eX t.place j]?≠some j):cV led (t.put j).1:=⟨p.led,by
 show(if SetTable.has t.dummies j then _ else t.dummies)=#[]
 rw[p.GB,RR];rfl,p.BG.ins hn⟩
theorem cV.orStandIn{led:Bool}{t:SetTable}(p:cV led t)(n:Nat):cV led (t.orStandIn n):=by
 unfold SetTable.orStandIn
 split
 ·exact p
 ·exact p.standIn n
theorem bI9{led:Bool}{t:SetTable}(p:cV led t)(es:Array (Int × Value))(h:Int)(x:Value):cV led (layNew t es h x).2.1:=by
 unfold layNew
 split
 ·rename_i slot wd e
  unfold SetTable.freeSlot at e
  split at e
  ·rename_i j d e2
   obtain⟨e3,e4⟩:=RT p _ _ j d rfl e2
   subst e3
   injection e with e
   injection e with e _
   subst e
   exact(p.put e4).orStandIn _
  ·cases e
 ·exact p.standIn _
theorem RU(f:Nat->Option Nat):∀l:List Nat,l.Pairwise (· < ·)->((l.filterMap λj=>(f j).map (j,·)).map (·.1)).Pairwise (· < ·)/\∀x∈(l.filterMap λj=>(f j).map (j,·)).map (·.1),x∈l
 | [],_=>⟨MG,λ_ h=>h⟩
 | a::l,h=>by
  obtain⟨h1,h2⟩:=rk.mp h
  obtain⟨i1,i2⟩:=RU f l h2
  cases e:f a with
  | none =>
   rw[List.filterMap_cons_none (by rw[e];rfl)]
   exact⟨i1,λx hx=>i3 _ (i2 x hx)⟩
  | some v =>
   rw[List.filterMap_cons_some (b:=(a,v)) (by rw[e];rfl),dk]
   exact⟨rk.mpr ⟨λx hx=>h1 x (i2 x hx),i1⟩,λx hx=>by
    rcases bG.mp hx with z | z
    ·rw[z];exact zd
    ·exact i3 _ (i2 x z)⟩
theorem bw3{led:Bool}{t:SetTable}(p:cV led t)(es:Array (Int × Value))(wanted:Nat):cV led (relayAll t es wanted).2.1:=by
 unfold relayAll
 split
 ·rename_i t' order e
  dsimp only
  split
  ·unfold SetTable.relaid SetTable.laid at e
   cases ow:SetTable.layClean (SetTable.sizeAbove wanted-1) (es.map (·.1))with
   | none=>rw[ow]at e;cases e
   | some owner =>
    rw[ow]at e
    simp only[Option.bind_eq_bind,MM,Option.pure_def,rm,Prod.mk.injEq]at e
    obtain⟨rfl,_⟩:=e
    exact⟨p.led,rfl,(RU (λj=>owner.getD j none) _ M5).1⟩
  ·exact p.standIn _
 ·exact p.standIn _
end L2
namespace L2
open PySem PySem.Spec PyProof.Rows
section
variable{prog:Program}{w:World}{A:Around}{E:Value->Shared->Prop}{s:Shared}
noncomputable def eV(prog:Program)(w:World)(led:Bool)(h:Heap)(a:Addr)(S:Int->Bool)(n:Nat):Prop :=
 ∃o es ep t,h.get? a=some o/\o.ExactSet/\o.data=.set es ep t/\ElemsOf (intKind prog w) es.toList/\(∀k,S k=true↔∃e∈es.toList,(intKind prog w).is k e.2=true)/\es.size<scanBound/\t.fits es.size=true/\es.size=n/\cV led t
theorem eV.at{led:Bool}{h h':Heap}{a:Addr}{S:Int->Bool}{n:Nat}(x:eV prog w led h a S n)(k:∀o,h.get? a=some o->h'.get? a=some o):eV prog w led h' a S n:=by
 obtain⟨o,es,ep,t,g,r⟩:=x
 exact⟨o,es,ep,t,k o g,r⟩
theorem eV.eq{led:Bool}{h:Heap}{a:Addr}{S S':Int->Bool}{n n':Nat}(x:eV prog w led h a S n)(e:∀k,S k=S' k)(en:n=n'):eV prog w led h a S' n':=by
 have:S=S':=funext e
 subst this;subst en;exact x
theorem eV.store{led:Bool}{h:Heap}{a:Addr}{o:Obj}{es cm:Array (Int × Value)}{ep:Nat}{t t1:SetTable}{S':Int->Bool}(g:h.get? a=some o)(ex:o.ExactSet)(d:o.data=.set es ep t)(el:ElemsOf (intKind prog w) cm.toList)
  (mem:∀k,S' k=true↔∃e∈cm.toList,(intKind prog w).is k e.2=true) (b:cm.size<scanBound) (f:t1.fits cm.size=true) (p:cV led t1) :
  (h.update a (Obj.putSet cm t1)).get? a=some { o with data:=.set cm (ep+1) t1 }/\eV prog w led (h.update a (Obj.putSet cm t1)) a S' cm.size:=by
 obtain⟨g1,_⟩:=SetOf_store (knd:=intKind prog w) g ex d el mem b f
 exact⟨g1,_,cm,ep+1,t1,g1,ex,rfl,el,mem,b,f,rfl,p⟩
theorem RV{led:Bool}{gv:Bool->Sem Unit}(hg:∀(b:Bool) (s1:Shared) (Q:Unit->Shared->Prop),Q () s1->wpAny (model prog w) A (gv b) Q E s1){a:Addr}{o:Obj}{es cm:Array (Int × Value)}{ep:Nat}{t t1:SetTable}{S':Int->Bool}{wd:Bool}{R:Option Bool->Shared->Prop}
  (g:s.heap.get? a=some o) (ex:o.ExactSet) (d:o.data=.set es ep t) (el:ElemsOf (intKind prog w) cm.toList) (mem:∀k,S' k=true↔∃e∈cm.toList,(intKind prog w).is k e.2=true) (b:cm.size<scanBound) (f:t1.fits cm.size=true) (p:cV led t1)
  (q:∀h',nY a s.heap h'->eV prog w led h' a S' cm.size->R (some true) { s with heap:=h' }) :
  wpAny (model prog w) A (do
    storeSet a cm t1
    if(!wd&&t1.tooFull)=true then do
      gv (relayAll t1 cm (rn cm.size)).2.2
      storeSet a (relayAll t1 cm (rn cm.size)).1 (relayAll t1 cm (rn cm.size)).2.1
      pure (some true)
     else pure (some true)) R E s:=by
 obtain⟨g1,S1⟩:=eV.store g ex d el mem b f p
 have u1:=Heap.SameBut.update s.heap a (Obj.putSet cm t1)
 refine wpAny_bind (wpAny_storeSet_of g d ?_ (fits_of_scanBound b))
 split
 ·have rp:=relayAll_perm t1 cm (rn cm.size)
  have rf:=relayAll_fits t1 cm (rn cm.size)
  have rt:=bw3 p cm (rn cm.size)
  generalize relayAll t1 cm (rn cm.size)=W at rp rf rt ⊢
  obtain⟨RW,t2,c86⟩:=W
  dsimp only at rp rf rt ⊢
  have z:RW.size=cm.size:=by rw[<-gh,rp.length_eq,gh]
  have b2:RW.size<scanBound:=by rw[z];exact b
  refine wpAny_bind (hg _ _ _ (wpAny_bind (wpAny_storeSet_of g1 rfl ?_ (fits_of_scanBound b2))))
  obtain⟨_,S2⟩:=eV.store (S':=S') g1 ex rfl (el.perm rp) (λk=>(mem k).trans ⟨λ⟨e,he,y⟩=>⟨e,rp.mem_iff.mpr he,y⟩,λ⟨e,he,y⟩=>⟨e,rp.mem_iff.mp he,y⟩⟩) b2 rf rt
  rw[z]at S2
  exact wpAny_pure (q _ (u1.trans (Heap.SameBut.update _ a _)) S2)
 ·exact wpAny_pure (q _ u1 S1)
theorem ce0{led:Bool}{a:Addr}{S:Int->Bool}{n:Nat}{k:Int}{tk:Tok}{Q:Bool->Shared->Prop}(x:eV prog w led s.heap a S n)(room:n+1<scanBound)
  (q:∀h',nY a s.heap h'->eV prog w led h' a (λk'=>S k'||decide (k'=k)) (if S k then n else n+1)->Q (!S k) { s with heap:=h' }) :
  wpAny (model prog w) A (setAddHashed a (.int k tk) ((intKind prog w).hash k)) Q E s:=by
 obtain⟨o,es,ep,t,g,ex,d,el,mem,b,f,rfl,p⟩:=x
 have ky:(intKind prog w).is k (.int k tk)=true:=intKind_is _ _ _ _
 unfold setAddHashed setAddHashedIn
 refine wpAny_holding (wpAny_bind (wpAny_setState_of g d f ?_))
 dsimp only
 rw[byScan_of (show(fG k tk).scannable=true from rfl) b el]
 simp only[↓reduceIte]
 unfold setAddByScan
 refine wpAny_bind (wpAny_bind (wpAny_rule (wpAny_bind (wpAny_setScan_of ky g d f el ?_))))
 cases hr:List.findIdx? (λe=>(intKind prog w).is k e.2) es.toList with
 | some j =>
  dsimp only
  obtain⟨hj,hp,_⟩:=List.findIdx?_eq_some_iff_getElem.mp hr
  have sk:S k=true:=(mem k).mpr ⟨es.toList[j],i6 hj,hp⟩
  have y:=q s.heap (Heap.SameBut.refl a s.heap) ⟨o,es,ep,t,g,ex,d,el,λk'=>by
   rw[Du,decide_eq_true_eq,<- mem k']
   exact⟨λz=>z.elim id λe=>e ▸ sk,.inl⟩,b,f,by rw[if_pos sk],p⟩
  rw[sk]at y
  exact wpAny_pure (wpAny_pure y)
 | none =>
  dsimp only
  have sk:S k=false:=by
   cases h:S k with
   | false=>rfl
   | true =>
    obtain⟨e,he,hp⟩:=(mem k).mp h
    have:=List.findIdx?_eq_none_iff.mp hr e he
    rw[hp]at this;cases this
  have lp:=layNew_perm t es ((intKind prog w).hash k) (.int k tk)
  have lf:=layNew_fits t es ((intKind prog w).hash k) (.int k tk)
  have lt:=bI9 p es ((intKind prog w).hash k) (.int k tk)
  generalize layNew t es ((intKind prog w).hash k) (.int k tk)=W at lp lf lt ⊢
  obtain⟨cm,t1,wd,c86⟩:=W
  dsimp only at lp lf lt ⊢
  rw[VX]at lp
  have z:cm.size=es.size+1:=by rw[<-gh,lp.length_eq,mL,gh];rfl
  have RX:ElemsOf (intKind prog w) cm.toList:=(el.push ky rfl).perm lp
  have RY:∀k',(S k'||decide (k'=k))=true↔∃e∈cm.toList,(intKind prog w).is k' e.2=true:=mem_push_iff ky mem lp
  have b1:cm.size<scanBound:=by rw[z];exact room
  have gw:∀(c:Bool) (s1:Shared) (Q':Unit->Shared->Prop),Q' () s1->wpAny (model prog w) A (match c with | true=>rule "set.scan.the-table-gave-way" | false=>pure ()) Q' E s1:=λc s1 Q' y=>by cases c<;>first | exact wpAny_pure y | exact wpAny_rule y
  have fin:∀h',nY a s.heap h'->eV prog w led h' a (λk'=>S k'||decide (k'=k)) cm.size->Q true { s with heap:=h' }:=λh' c1 c2=>by
   have y:=q h' c1
   rw[sk]at y
   rw[z]at c2
   exact y (by rw[if_neg ir];exact c2)
  refine wpAny_bind (gw _ _ _ ?_)
  split
  ·refine wpAny_bind ?_
   rw[hashByValue_scannable 8 (show(fG k tk).scannable=true from rfl)]
   refine wpAny_pure (RV (led:=led) ?_ g ex d RX RY b1 ?_ ?_ ?_)
   ·intro c s1 Q' y;cases c<;>first | exact wpAny_pure y | exact wpAny_rule y
   ·split
    ·exact lf
    ·exact SetTable.fits_plain_off lf
   ·split
    ·exact lt
    ·exact lt.off
   ·intro h' c1 c2;dsimp only;exact wpAny_pure (fin h' c1 c2)
  ·refine wpAny_bind (wpAny_pure ?_)
   simp only[↓reduceIte]
   refine RV ?_ g ex d RX RY b1 lf lt ?_
   ·intro c s1 Q' y;cases c<;>first | exact wpAny_pure y | exact wpAny_rule y
   ·intro h' c1 c2;dsimp only;exact wpAny_pure (fin h' c1 c2)
end
end L2
namespace L2
open PySem PySem.Spec PyProof.Rows
noncomputable def eG(w:World):Bool:=w.params.followText "set-order"
section
variable{prog:Program}{w:World}{A:Around}{R:Result->Shared->Prop}{I:Addr}{fp wr:List Addr}{G:Array GenState->Array GenState->Prop}{n:Nat}{P:Nat->Value->Prop}{St:Nat->Shared->Prop}
theorem b56(W:WalksS prog w A.in1 I fp wr G n P St)(a:Addr)(af:a ∉ fp)(val:Nat->Int)(hv:∀i v,P i v->∃t,v=.int (val i) t)(hb:n+1<scanBound) :
  ∀(k i:Nat) (s:Shared),n-i=k->i<=n->St i s->eV prog w (!eG w) s.heap a (λz=>(firstMet val i).any (·==z)) (firstMet val i).length ->
   (∀s',Moved (a::wr) G s s'->eV prog w (!eG w) s'.heap a (λz=>(firstMet val n).any (·==z)) (firstMet val n).length->R (.ok (.ret .none)) s') ->
   codeAny (model prog w) A (.builtin "set.update.loop" ⟨[.ref a,.ref I],[]⟩) R s:=by
 have aw:a ∉ wr:=λh=>af (W.sub _ h)
 have sub:∀b∈wr,b∈a::wr:=λb h=>i3 _ h
 intro k
 induction k with
 | zero =>
  intro i s hk hi st x r
  obtain rfl:i=n:=by omega
  refine codeAny_builtin F.entry_set_update_loop ?_
  rw[DM M7 _]
  show wpAny _ A.in1 (pyNext (.ref I) >>= _) _ _ s
  refine wpAny_bind (W.done s _ _ st λs' mv=>?_)
  show wpAny _ A.in1 (ret iq) _ _ s'
  exact wpAny_pure (r s' (mv.mono sub) (x.at λo g=>mv.heap a _ aw g))
 | succ k ih =>
  intro i s hk hi st x r
  have lt:i<n:=by omega
  refine codeAny_builtin F.entry_set_update_loop ?_
  rw[DM M7 _]
  show wpAny _ A.in1 (pyNext (.ref I) >>= _) _ _ s
  refine wpAny_bind (W.item i s _ _ lt st λv s1 pv st1 mv=>?_)
  obtain⟨t,rfl⟩:=hv i v pv
  have x1:=x.at (h':=s1.heap) λo g=>mv.heap a _ aw g
  show wpAny _ A.in1 (holding [fG (val i) t] (setAdd a (.int (val i) t)) >>= _) _ _ s1
  refine wpAny_bind (wpAny_holding ?_)
  unfold setAdd
  refine wpAny_holding (wpAny_bind ((intKind prog w).pyHash (k:=val i) (intKind_is _ _ _ _) ?_))
  refine ce0 (s:={ s1 with toks:=s1.toks+1 }) x1 (by have:=firstMet_length_le val i;omega) λh2 sb x2=>?_
  have x3:eV prog w (!eG w) h2 a (λz=>(firstMet val (i+1)).any (·==z)) (firstMet val (i+1)).length:=x2.eq (λz=>by rw[firstMet_succ,step_any]) (by rw[firstMet_succ,step_length])
  refine wpAny_pure ⟨plainId_quiet M7 _,ih (i+1) _ (by omega) lt (W.frame _ s1 _ _ st1 (ze _) λb hb o e=>?_) x3 λs2 mv2 x4=>?_⟩
  ·rw[sb.2 b (λh:b=a=>af (by rw[<-h];exact hb))];exact e
  ·refine r s2 (Moved.trans W.gtrans ((mv.mono sub).then_heap (ze _) λb o hb e=>?_) mv2) x4
   rw[sb.2 b (λh:b=a=>hb (by rw[h];exact zd))];exact e
end
section
variable{prog:Program}{w:World}{A:Around}{E:Value->Shared->Prop}{s:Shared}
noncomputable abbrev ji(w:World):Obj:={ cls:=.type "set",dict:=none,data:=.set #[] 0 (.fresh 0 0 (!eG w)) }
theorem cc8(v:Value){Q:Value->Shared->Prop}(q:Q (.ref s.heap.objs.size) { s with heap:=s.heap.push (ji w) }) :
  codeAny (model prog w) A (.call (.builtin "set.__new__") ⟨[.type "set",v],[]⟩) (wants Q E) s:=by
 refine codeAny_of_tree ?_
 show wpAny _ A.in1 (do checkBuiltinCall "set.__new__" ⟨[.type "set",v],[]⟩;again (.builtin "set.__new__" ⟨[.type "set",v],[]⟩)) _ _ s
 refine wpAny_bind (wpAny_of_eq (F.newCall_set_1 v) (wpAny_pure ⟨plainId_quiet F.plain_set_new _,codeAny_builtin F.entry_set_new ?_⟩))
 rw[DM F.plain_set_new _]
 unfold Builtin.«set.__new__» Builtin.Frozenset.newClass
 have c92:=sub_set_self
 obtain⟨hp,g,d,tk,os⟩:=s
 dsimp only
 wp_walk
 refine wpAny_askSetting (wpAny_pure ?_)
 dsimp only
 simp only[newObj]
 refine wpAny_bind (wpAny_alloc (wpAny_pure ?_))
 exact wpAny_pure q
end
end L2
namespace L2
open PySem PySem.Spec PyProof.Rows
section
variable{prog:Program}{w:World}{A:Around}{E:Value->Shared->Prop}{s:Shared}
set_option maxRecDepth 100000 in
set_option maxHeartbeats 3200000 in
theorem bx4{l:Addr}{its:Array Value}{ns:List Int}{Q:Value->Shared->Prop}(hh:A.handled=none)(hl:s.heap.IsList l its)(hi:IntsAre its.toList ns)(hb:its.size+1<scanBound)
  (q:∀(h':Heap) (tk:Nat),eV prog w (!eG w) h' s.heap.objs.size (λz=>(firstMet (λi=>ns.getD i 0) its.size).any (·==z)) (firstMet (λi=>ns.getD i 0) its.size).length ->
   (∀b o,b<s.heap.objs.size->s.heap.get? b=some o->h'.get? b=some o)->Q (.ref s.heap.objs.size) { s with heap:=h',toks:=tk }) :
  wpAny (model prog w) A (call (.type "set") [.ref l]) Q E s:=by
 obtain⟨c,tl,ef8⟩:=oj.mro
 have ef9:=oj.made
 have c92:=oj.sub
 refine wpAny_call (codeAny_of_tree ?_)
 show wpAny _ _ (callAny (.type "set") _) _ _ _
 refine wpAny_pure ⟨Code.quiet_builtin _ (by decide +kernel),codeAny_builtin F.entry_type_call ?_⟩
 rw[Around.under_plain (weight_type_call_type "set" [.ref l] []) rfl]
 have n1:=oj.notType
 have n2:=oj.canCreate
 have n3:=F.typeCall_set_1 (.ref l)
 repeat (any_goals (first | assumption | wp_step))
 refine codeAny_mono (cc8 (.ref l) (E:=E) (Q:=λobj s1=>obj=.ref s.heap.objs.size/\s1={ s with heap:=s.heap.push (ji w) }) ⟨rfl,rfl⟩) λr s1 hr=>?_
 cases r with
 | error e=>exact hr
 | ok fl =>
  cases fl with
  | ret obj =>
   obtain⟨rfl,rfl⟩:=hr
   have gS:(s.heap.push (ji w)).get? s.heap.objs.size=some (ji w):=cS _ rfl
   have hT:Shared.TypeIs { s with heap:=s.heap.push (ji w) } (.ref s.heap.objs.size) "set":=⟨_,gS,rfl⟩
   have li:=oj.init.lookup
   have bi:=oj.init.bind (.ref s.heap.objs.size)
   repeat (any_goals (first | assumption | wp_step))
   refine codeAny_mono (codeAny_call_builtin (R:=wants (λr s2=>r=.none/\∃h' tk,s2={ s with heap:=h',toks:=tk } /\
     eV prog w (!eG w) h' s.heap.objs.size (λz=>(firstMet (λi=>ns.getD i 0) its.size).any (·==z)) (firstMet (λi=>ns.getD i 0) its.size).length /\
     (∀b o,b<s.heap.objs.size->s.heap.get? b=some o->h'.get? b=some o)) E) oj.init.plain F.entry_set_init (check_set_init_1 hT ?_)) λr2 s2 yu=>?_
   ·obtain⟨ol,gl,cl,nl,dl⟩:=id hl
    obtain⟨eg0,c94,eg1,c95⟩:=ol
    simp only at cl dl
    subst cl;subst dl
    have gl1:(s.heap.push (ji w)).get? l=some { cls:=.type "list",dict:=c94,data:=.seq its nl,slots:=c95 }:=bK _ gl
    have m1:=F.sub_list_set
    have m2:=F.sub_list_frozenset
    have m3:(iZ "list"==iZ "dict")=false:=by decide
    have uB:(s.heap.push (ji w)).IsList l its:=⟨_,gl1,rfl,nl,rfl⟩
    unfold Builtin.«set.__init__» noKeywords Builtin.Frozenset.updateFrom
    generalize hPI:pyIter=PI
    wp_walk
    subst hPI
    refine wpAny_pyIter_list uB (wpAny_bind (wpAny_runValue ?_))
    have lS:l<s.heap.objs.size:=aS gl
    have h3:A.in1.in1.in1.handled=none:=by simp[hh]
    have nI:l≠(s.heap.push (ji w)).objs.size:=by rw[kH];exact cy (DN lS)
    have nf:s.heap.objs.size ∉ [(s.heap.push (ji w)).objs.size,l]:=by
     rw[kH];simp only[bG,gU,fI,or_false,not_or]
     exact⟨cy (vS _),qT lS⟩
    refine b56 ((Walks.list h3 _ l nI its).toS) s.heap.objs.size nf (λi=>ns.getD i 0) (λi v e=>IntsAre.int_at hi i v (by rw[q8];exact e)) hb (its.size-0) 0 _ (by omega) (gi _)
     ⟨⟨_,cS _ rfl,rfl,rfl⟩,uB.push _⟩ ?hS ?hR
    case hS =>
     have g2:((s.heap.push (ji w)).push { cls:=.type "list_iterator",data:=.fields #[.ref l,.int 0 0] }).get? s.heap.objs.size=some (ji w):=bK _ gS
     exact⟨ji w,#[],0,_,g2,⟨rfl,rfl,rfl⟩,rfl,λe h=>(by simp at h),λk=>⟨λh=>by simp[firstMet]at h,λ⟨e,h,_⟩=>by simp at h⟩,by decide,by simp[SetTable.fits,SetTable.fill,SetTable.fresh],rfl,cV.fresh _⟩
    case hR =>
     intro s3 mv x3
     obtain⟨h4,g4,d4,k4,o4⟩:=s3
     have eg:g4=s.gens:=mv.gens
     have ed:d4=s.drawn:=mv.drawn
     have eo:o4=s.os:=mv.os
     subst eg;subst ed;subst eo
     show wpAny _ _ _ _ _ _
     refine wpAny_pure ?_
     show wpAny _ _ (ret iq) _ _ _
     refine wpAny_pure ⟨rfl,h4,k4,rfl,x3,λb o lb e=>?_⟩
     refine mv.heap b o ?_ (bK _ (bK _ e))
     simp only[bG,gU,fI,or_false,not_or]
     exact⟨cy lb,by rw[kH];exact cy (DN lb)⟩
   ·cases r2 with
    | error e=>exact yu
    | ok f2 =>
     cases f2 with
     | ret r =>
      obtain⟨rfl,h',tk,rfl,x3,kk⟩:=yu
      repeat (any_goals (first | assumption | wp_step))
      exact q _ _ x3 kk
     | _=>exact yu.elim
  | _=>exact hr.elim
end
end L2
namespace L2
open PySem PySem.Spec PyProof.Rows
theorem RZ:entryFor table "set.__iter__"=some Builtin.«frozenset.__iter__» :=
 entryFor_alias (id':="frozenset.__iter__") (by kernel_rfl) (by first | rfl | decide +kernel | (unfold String.splitOn;simp +decide [VY])) (by decide +kernel) (by kernel_rfl)
theorem jI:Slot "set_iterator" "__next__" "set_iterator.__next__" :=
 .of (owner:="set_iterator") (n:="__next__") (by rw[typeLookup_type,builtinLookup_eq_fast];kernel_rfl) (by decide +kernel) (by decide +kernel) (by decide +kernel) (by first | exact .inl (by decide +kernel) | exact .inr (by decide +kernel)) (by rw[isSubtype_type];kernel_rfl)
theorem BH:entryFor table "set_iterator.__next__"=some Builtin.«set_iterator.__next__»:=entryFor_of_tree (by kernel_rfl)
theorem BJ(a:Value):argsOk "set_iterator.__next__" ⟨[a],[]⟩:=by unfold argsOk;kernel_rfl
theorem R0:Slot "set_iterator" "__iter__" "set_iterator.__iter__" :=
 .of (owner:="set_iterator") (n:="__iter__") (by rw[typeLookup_type,builtinLookup_eq_fast];kernel_rfl) (by decide +kernel) (by decide +kernel) (by decide +kernel) (by first | exact .inl (by decide +kernel) | exact .inr (by decide +kernel)) (by rw[isSubtype_type];kernel_rfl)
theorem by0:entryFor table "set_iterator.__iter__"=some Builtin.«dict_keyiterator.__iter__» :=
 entryFor_alias (id':="dict_keyiterator.__iter__") (by kernel_rfl) (by first | rfl | decide +kernel | (unfold String.splitOn;simp +decide [VY])) (by decide +kernel) (by kernel_rfl)
theorem bv4(a:Value):argsOk "set_iterator.__iter__" ⟨[a],[]⟩:=by unfold argsOk;kernel_rfl
noncomputable def jJ(h:Heap)(I a:Addr)(m:Value)(i n ep:Nat):Prop:=h.get? I=some { cls:=.type "set_iterator",dict:=none,data:=.fields #[m,.int i 0,.ref a,.int n 0,.int ep 0],slots:=#[] }
section
variable{prog:Program}{w:World}{A:Around}{E:Value->Shared->Prop}{s:Shared}
theorem R1{I a:Addr}{m:Value}{i n ep:Nat}{Q:Value->Shared->Prop}(x:jJ s.heap I a m i n ep)(q:Q (.ref I) s):wpAny (model prog w) A (pyIter (.ref I)) Q E s:=by
 have hT:s.TypeIs (.ref I) "set_iterator":=⟨_,x,rfl⟩
 refine wpAny_pyIter_slot hT R0 (wpAny_call_entry R0 hT by0 ?_ (bv4 _))
 show wpAny _ _ (ret (.ref I)) _ _ s
 exact wpAny_pure ⟨_,rfl,"set_iterator",_,hT,jI.lookup,q⟩
theorem bU8{r:Addr}{Q:Bool->Shared->Prop}(hT:s.TypeIs (.ref r) "set")(q:Q false s):wpAny (model prog w) A (DO (.ref r)) Q E s:=by
 unfold DO
 refine wpAny_bind (wpAny_specialOf hT F.slot_set_len.lookup ?_)
 generalize yv:("set.__len__":String)=GC
 wp_delta
 rw[show splitId GC=some ("set","__len__") from by subst yv;decide +kernel]
 subst yv
 refine wpAny_bind (wpAny_isInstance (T:="set") (b:=true) hT (by rw[isSubtype_type];kernel_rfl) ?_)
 refine wpAny_ite_split (λc=>absurd c (by decide)) (λ_=>?_)
 refine wpAny_ite_split (λ_=>?_) (λc=>absurd (by decide +kernel) c)
 exact wpAny_bind (wpAny_typeOf hT (wpAny_pure q))
end
end L2
namespace L2
open PySem PySem.Spec PyProof.Rows
section
variable{prog:Program}{w:World}{A:Around}{E:Value->Shared->Prop}{s:Shared}
noncomputable def nN(prog:Program)(w:World)(o:Obj)(a:Addr)(sl i ep:Nat)(r:Option (Value × Nat)):Prop :=
 ∀(A:Around) (E:Value->Shared->Prop) (s:Shared) (Q:Option (Value × Nat)->Shared->Prop),s.heap.get? a=some o->Q r s->wpAny (model prog w) A (setNext a sl i ep) Q E s
theorem uC{a:Addr}{o:Obj}{es:Array (Int × Value)}{ep:Nat}{t:SetTable}{Q:Array (Int × Value)->Shared->Prop}(g:s.heap.get? a=some o)(d:o.data=.set es ep t)(f:t.fits es.size=true)(q:Q es s):wpAny (model prog w) A (setEntries a) Q E s:=by
 unfold setEntries
 exact wpAny_bind (wpAny_setState_of g d f (wpAny_pure q))
theorem bX3{I a:Addr}{o:Obj}{es:Array (Int × Value)}{t:SetTable}{sl nx i n ep:Nat}{x:Value}{Q:Option Value->Shared->Prop}(it:jJ s.heap I a (.int sl 0) i n ep)(g:s.heap.get? a=some o)(d:o.data=.set es ep t)(f:t.fits es.size=true)(hn:es.size=n)(ne:a≠I)
  (v:nN prog w o a sl i ep (some (x,nx))) (q:∀h',jJ h' I a (.int nx 0) (i+1) n ep->nY I s.heap h'->Q (some x) { s with heap:=h' }):wpAny (model prog w) A (pyNext (.ref I)) Q E s:=by
 have hT:s.TypeIs (.ref I) "set_iterator":=⟨_,it,rfl⟩
 unfold pyNext
 refine wpAny_bind (wpAny_attempt (wpAny_callSpecial?_slot (name:=zH "__next__") hT jI (wpAny_call_entry jI hT BH ?_ (BJ _))))
 show wpAny _ _ (fieldsOf (.ref I) >>= _) _ _ s
 refine wpAny_bind (wpAny_fieldsOf it rfl ?_)
 show wpAny _ _ (setEntries a >>= _) _ _ s
 refine wpAny_bind (uC g d f ?_)
 rw[if_neg (by rw[hn];simp)]
 show wpAny _ _ (setNext a (sl:Int).toNat (i:Int).toNat (ep:Int).toNat >>= _) _ _ s
 rw[fH,fH,fH]
 refine wpAny_bind (v _ _ s _ g ?_)
 show wpAny _ _ (setField (.ref I) 0 (rawInt nx) >>= _) _ _ s
 refine wpAny_bind (wpAny_setField_rec it (by simp) λh1 i1 b1=>?_)
 refine wpAny_bind (wpAny_setField_rec i1 (by simp) λh2 i2 b2=>?_)
 exact wpAny_pure ⟨x,rfl,wpAny_pure (q h2 i2 (b1.trans b2))⟩
theorem cj2{I a:Addr}{o:Obj}{es:Array (Int × Value)}{t:SetTable}{sl i n ep:Nat}{Q:Option Value->Shared->Prop}(hh:A.handled=none)(it:jJ s.heap I a (.int sl 0) i n ep)(g:s.heap.get? a=some o)(d:o.data=.set es ep t)(f:t.fits es.size=true)(hn:es.size=n)
  (v:nN prog w o a sl i ep none) (q:∀h',Heap.ExtBut I s.heap h'->Q none { s with heap:=h' }):wpAny (model prog w) A (pyNext (.ref I)) Q E s:=by
 have hT:s.TypeIs (.ref I) "set_iterator":=⟨_,it,rfl⟩
 unfold pyNext
 refine wpAny_bind (wpAny_attempt (wpAny_callSpecial?_slot (name:=zH "__next__") hT jI (wpAny_call_entry jI hT BH ?_ (BJ _))))
 show wpAny _ _ (fieldsOf (.ref I) >>= _) _ _ s
 refine wpAny_bind (wpAny_fieldsOf it rfl ?_)
 show wpAny _ _ (setEntries a >>= _) _ _ s
 refine wpAny_bind (uC g d f ?_)
 rw[if_neg (by rw[hn];simp)]
 show wpAny _ _ (setNext a (sl:Int).toNat (i:Int).toNat (ep:Int).toNat >>= _) _ _ s
 rw[fH,fH,fH]
 refine wpAny_bind (v _ _ s _ g ?_)
 show wpAny _ _ (setField (.ref I) 2 .none >>= _) _ _ s
 refine wpAny_bind (wpAny_setField_rec it (by simp) λh1 i1 b1=>?_)
 show wpAny _ _ (newExc (.type "StopIteration") [] >>= _) _ _ _
 refine wpAny_bind ?_
 simp only[newExc,newTuple]
 refine wpAny_bind (wpAny_newObj_type ?_ (by size_fits))
 refine wpAny_bind (m:=firstArgMember _ _) (wpAny_of_eq (a:=iq) (by first | rfl | (simp only[firstArgMember];rfl)) ?_)
 refine wpAny_newObj_type ?_ (by size_fits)
 simp only[raiseNew]
 refine wpAny_bind (wpAny_handled ?_)
 first | rw[show A.in1.handled=none from hh] | rw[hh]
 refine wpAny_bind (wpAny_pure (wpAny_throw ?_))
 refine wpAny_bind (wpAny_isInstance (T:="StopIteration") (b:=true) ⟨_,cS _ rfl,rfl⟩ isSubtype_stop ?_)
 exact wpAny_pure (q _ ((b1.extBut.push _).push _))
end
end L2
namespace L2
open PySem PySem.Spec PyProof.Rows
theorem BF{α:Type}{l:List α}{n:Nat}(h:n<l.length):(l[n]::l.eraseIdx n).Perm l:=by
 rw[List.eraseIdx_eq_take_drop_succ]
 have e:l=l.take n++l[n]::l.drop (n+1):=by rw[<-v7 h,VT]
 exact List.perm_middle.symm.trans (List.Perm.of_eq e.symm)
theorem R3{α:Type}(f:Nat->Nat):∀(fuel k:Nat) (left:List α) (out:Array α),left.length=fuel->(pickOrder.go f fuel k left out).toList.Perm (out.toList++left)
 | 0,k,left,out,h=>by
  have:left=[]:=VZ.mp h
  subst this
  unfold pickOrder.go
  rw[jP]
 | fuel+1,k,left,out,h=>by
  unfold pickOrder.go
  have lt:f k%left.length<left.length:=mU _ (by omega)
  rw[bu lt]
  dsimp only
  refine(R3 f fuel (k+1) _ _ (by rw[V0,if_pos lt];omega)).trans ?_
  rw[VX,dW]
  exact List.Perm.append_left _ (BF lt)
theorem bJ7{α:Type}(f:Nat->Nat)(a:Array α):(pickOrder f a).toList.Perm a.toList:=by
 have:=R3 f a.size 0 a.toList #[] (by simp)
 simpa[pickOrder]using this
section
variable{prog:Program}{w:World}{A:Around}{E:Value->Shared->Prop}{s:Shared}
theorem BK{Q:Bool->Shared->Prop}(q:Q (eG w) s):wpAny (model prog w) A setsByText Q E s:=by
 unfold setsByText
 exact wpAny_bind (wpAny_askSetting (wpAny_pure q))
theorem R4{a:Addr}{o:Obj}{es:Array (Int × Value)}{ep:Nat}{t:SetTable}(d:o.data=.set es ep t)(f:t.fits es.size=true)(bt:eG w=true)(sl i:Nat) :
  nN prog w o a sl i ep (((pickOrder (w.params.setOrder a ep) es)[i]?).map λe=>(e.2,sl)):=by
 intro A E s Q g q
 unfold setNext
 refine wpAny_bind (wpAny_setState_of g d f ?_)
 dsimp only
 refine wpAny_bind (BK ?_)
 rw[bt,if_pos rfl,if_neg (by simp)]
 refine wpAny_bind ?_
 unfold setWalk
 refine wpAny_bind (wpAny_setState_of g d f ?_)
 dsimp only
 refine wpAny_bind (BK ?_)
 rw[bt,if_pos rfl]
 exact wpAny_bind (wpAny_askSetting (wpAny_pure (wpAny_pure q)))
theorem R5{a:Addr}{o:Obj}{es:Array (Int × Value)}{ep:Nat}{t:SetTable}(d:o.data=.set es ep t)(f:t.fits es.size=true)(bt:eG w=false)(p:cV true t)(nd:(!t.plain&&decide (es.size>1))=false)(sl i:Nat) :
  nN prog w o a sl i ep (match es[eX t.place sl]?,t.place[eX t.place sl]? with | some (_,x),some j=>some (x,j+1) | _,_=>none):=by
 intro A E s Q g q
 unfold setNext
 refine wpAny_bind (wpAny_setState_of g d f ?_)
 dsimp only
 refine wpAny_bind (BK ?_)
 rw[bt,if_neg ir]
 refine wpAny_ite_split (λz=>?_) (λ_=>?_)
 ·have z':(!t.plain&&decide (es.size>1))=true:=z
  rw[nd]at z';cases z'
 refine wpAny_bind ?_
 show wpAny _ _ (if(!t.led && !es.isEmpty)=true then unsupported _ else pure ()) _ _ _
 rw[if_neg (by rw[p.led];simp)]
 exact wpAny_pure (wpAny_pure q)
noncomputable def mk(t:SetTable):Nat->Nat
 | 0=>0
 | i+1=>t.place.getD i 0+1
theorem R6{t:SetTable}(r:Rs t.place){i:Nat}(hi:i<=t.place.size):eX t.place (mk t i)=i:=by
 obtain⟨h1,h2,h3⟩:=RQ (j:=mk t i) r
 cases i with
 | zero =>
  cases e:eX t.place (mk t 0)with
  | zero=>rfl
  | succ p =>
   exfalso
   have:=h2 0 (by omega) (by omega)
   exact absurd this (v9 _)
 | succ i =>
  have ei:mk t (i+1)=t.place[i]+1:=by simp[mk,zG,hi,Nat.lt_of_succ_le hi]
  rcases Nat.lt_trichotomy (eX t.place (mk t (i+1))) (i+1)with z | z | z
  ·have:=h3 i hi (by omega)
   omega
  ·exact z
  ·have y:=h2 (i+1) (by omega) z
   have:=r.lt (show i<i+1 by omega) (show i+1<t.place.size by omega)
   omega
theorem bS0{I a:Addr}{o:Obj}{es:Array (Int × Value)}{ep n:Nat}{t:SetTable}(hh:A.handled=none)(d:o.data=.set es ep t)(f:t.fits es.size=true)(hn:es.size=n)(ne:a≠I)(L:List Value)(sl:Nat->Nat)(hL:L.length=n)
  (v1:∀i x,L[i]?=some x->nN prog w o a (sl i) i ep (some (x,sl (i+1)))) (v2:nN prog w o a (sl n) n ep none) :
  Walks prog w A I [I,a] [I] n (λi v=>L[i]?=some v) (λi h=>jJ h I a (.int (sl i) 0) i n ep/\h.get? a=some o) where
 sub:=λb hb=>by simp at hb;simp[hb]
 frame:=λi h h' st k=>⟨k I (by simp) _ st.1,k a (by simp) _ st.2⟩
 item:=λi s Q E hi st q=>by
  have e:L[i]?=some (L[i]'(by omega)):=bu (by omega)
  exact bX3 st.1 st.2 d f hn ne (v1 i _ e) λh' i1 b1=>q _ h' s.toks e ⟨i1,b1.extBut _ _ ne st.2⟩ λb o' hb e'=>b1.extBut _ _ (λz=>hb (by simp[z])) e'
 done:=λs Q E st q=>cj2 hh st.1 st.2 d f hn v2 λh' b1=>q h' s.toks λb o' hb e'=>b1 _ _ (λz=>hb (by simp[z])) e'
 self:=λi s Q E st q=>R1 st.1 q
end
end L2
namespace L2
open PySem PySem.Spec PyProof.Rows
section
variable{prog:Program}{w:World}{A:Around}{E:Value->Shared->Prop}{s:Shared}
noncomputable abbrev yw(m:Value)(a:Addr)(n ep:Nat):Obj:={ cls:=.type "set_iterator",dict:=none,data:=.fields #[m,.int (0:Nat) 0,.ref a,.int n 0,.int ep 0],slots:=#[] }
theorem R7{a:Addr}{o:Obj}{es:Array (Int × Value)}{ep:Nat}{t:SetTable}{Q:Bool->Shared->Prop}(g:s.heap.get? a=some o)(d:o.data=.set es ep t)(f:t.fits es.size=true)(q:Q (!eG w&&(!t.plain&&decide (es.size>1))) s):wpAny (model prog w) A (setDrawn a) Q E s:=by
 unfold setDrawn
 refine wpAny_bind (wpAny_setState_of g d f ?_)
 dsimp only
 exact wpAny_bind (BK (wpAny_pure q))
theorem b69{a:Addr}{o:Obj}{es:Array (Int × Value)}{ep:Nat}{t:SetTable}{Q:Value->Shared->Prop}(g:s.heap.get? a=some o)(c:o.cls=.type "set")(d:o.data=.set es ep t)(f:t.fits es.size=true)(nd:(!eG w&&(!t.plain&&decide (es.size>1)))=false)
  (q:Q (.ref s.heap.objs.size) { s with heap:=s.heap.push (yw (.int (0:Nat) 0) a es.size ep) }):wpAny (model prog w) A (pyIter (.ref a)) Q E s:=by
 have hT:s.TypeIs (.ref a) "set":=⟨o,g,c⟩
 refine wpAny_pyIter_slot hT DP (wpAny_call_entry DP hT RZ ?_ (F.args_set_iter_1 _))
 show wpAny _ _ (DQ a >>= _) _ _ s
 refine wpAny_bind ?_
 unfold DQ
 refine wpAny_bind (uC g d f (wpAny_pure ?_))
 refine wpAny_bind (R7 g d f ?_)
 rw[nd,if_neg ir]
 refine wpAny_bind (wpAny_pure ?_)
 refine wpAny_bind (wpAny_setEpoch_of g d f ?_)
 exact wpAny_bind (wpAny_newObj_type (wpAny_pure ⟨_,rfl,"set_iterator",_,⟨_,cS _ rfl,rfl⟩,jI.lookup,q⟩))
theorem cr6{n:Nat}{src:Source}{Q:Nat->Shared->Prop}(hn:n≠0)(q:∀i dr,i<n->Q i { s with drawn:=dr }):wpAny (model prog w) A (choose src n) Q E s:=λΓ p _=>⟨hn,q _ _ (mU _ (Nat.pos_of_ne_zero hn))⟩
theorem R8{α:Type}:∀(n:Nat) (xs:List α) (s:Shared) (Q:List α->Shared->Prop),xs.length<=n->(∀ys dr,ys.Perm xs->Q ys { s with drawn:=dr })->wpAny (model prog w) A (drawOrder n xs) Q E s
 | 0,xs,s,Q,h,q=>by
  have:xs=[]:=VZ.mp (by omega)
  subst this
  unfold drawOrder
  exact wpAny_pure (q [] s.drawn (DL _))
 | n+1,[],s,Q,h,q=>by
  unfold drawOrder
  exact wpAny_pure (q [] s.drawn (DL _))
 | n+1,x::xs,s,Q,h,q=>by
  unfold drawOrder
  refine wpAny_bind (cr6 (by simp) λi dr lt=>?_)
  rw[bu lt]
  dsimp only
  refine wpAny_bind (R8 n _ _ _ (by rw[V0,if_pos lt];simp at h ⊢;omega) λys dr2 hp=>?_)
  exact wpAny_pure (q _ dr2 ((List.Perm.cons _ hp).trans (BF lt)))
theorem bD6{a:Addr}{o:Obj}{es:Array (Int × Value)}{ep pl:Nat}{t:SetTable}{x:Value}{hx:Int}{Q:Value->Shared->Prop}(g:s.heap.get? a=some o)(d:o.data=.set es ep t)(f:t.fits es.size=true)(e:es[pl]?=some (hx,x))(q:Q x s):wpAny (model prog w) A (setNextDrawn a pl ep) Q E s:=by
 unfold setNextDrawn
 refine wpAny_bind (wpAny_setState_of g d f ?_)
 dsimp only
 rw[if_neg (by simp),e]
 exact wpAny_pure q
theorem b57{a:Addr}{o:Obj}{es:Array (Int × Value)}{ep:Nat}{t:SetTable}{Q:Value->Shared->Prop}(g:s.heap.get? a=some o)(c:o.cls=.type "set")(d:o.data=.set es ep t)(f:t.fits es.size=true)(b:es.size<scanBound)(dr:(!eG w&&(!t.plain&&decide (es.size>1)))=true)
  (q:∀(ps:List Nat) mC,ps.Perm (aV es.size)->Q (.ref (s.heap.objs.size+1)) { s with heap:=(s.heap.push { cls:=.type "tuple",data:=.seq (ps.map λ(i:Nat)=>fG i 0).toArray }).push (yw (.ref s.heap.objs.size) a es.size ep),drawn:=mC }):wpAny (model prog w) A (pyIter (.ref a)) Q E s:=by
 have hT:s.TypeIs (.ref a) "set":=⟨o,g,c⟩
 refine wpAny_pyIter_slot hT DP (wpAny_call_entry DP hT RZ ?_ (F.args_set_iter_1 _))
 show wpAny _ _ (DQ a >>= _) _ _ s
 refine wpAny_bind ?_
 unfold DQ
 refine wpAny_bind (uC g d f (wpAny_pure ?_))
 refine wpAny_bind (R7 g d f ?_)
 rw[dr,if_pos rfl]
 refine wpAny_bind (R8 es.size (aV es.size) s _ (MC eB) λps mC hp=>?_)
 refine wpAny_bind (wpAny_newTuple ?_ ?_)
 ·have g1:(s.heap.push { cls:=.type "tuple",data:=.seq (ps.map λ(i:Nat)=>rawInt i).toArray }).get? a=some o:=bK _ g
  refine wpAny_bind (wpAny_setEpoch_of g1 d f ?_)
  refine wpAny_bind (wpAny_newObj_type (wpAny_pure ⟨_,rfl,"set_iterator",_,⟨_,cS _ rfl,rfl⟩,jI.lookup,?_⟩))
  have:=q ps mC hp
  rw[<-kH s.heap { cls:=.type "tuple",data:=.seq (ps.map λ(i:Nat)=>fG i 0).toArray }]at this
  exact this
 ·have:=hp.length_eq
  rw[eB]at this
  have:=fits_of_scanBound b
  simp only[cQ]
  omega
end
end L2
namespace L2
open PySem PySem.Spec PyProof.Rows
section
variable{prog:Program}{w:World}{A:Around}{E:Value->Shared->Prop}{s:Shared}
noncomputable def BL(h:Heap)(T:Addr)(ps:List Nat):Prop:=∃nT,h.get? T=some { cls:=.type "tuple",data:=.seq (ps.map λ(i:Nat)=>fG i 0).toArray nT }
theorem bJ9{I a T:Addr}{o:Obj}{es:Array (Int × Value)}{t:SetTable}{i n ep:Nat}{ps:List Nat}{pl:Nat}{hx:Int}{x:Value}{Q:Option Value->Shared->Prop}(it:jJ s.heap I a (.ref T) i n ep)(g:s.heap.get? a=some o)(d:o.data=.set es ep t)(f:t.fits es.size=true)(hn:es.size=n)(tp:BL s.heap T ps)
  (e1:ps[i]?=some pl) (e2:es[pl]?=some (hx,x)) (q:∀h',jJ h' I a (.ref T) (i+1) n ep->nY I s.heap h'->Q (some x) { s with heap:=h' }):wpAny (model prog w) A (pyNext (.ref I)) Q E s:=by
 have hT:s.TypeIs (.ref I) "set_iterator":=⟨_,it,rfl⟩
 obtain⟨nT,gT⟩:=tp
 unfold pyNext
 refine wpAny_bind (wpAny_attempt (wpAny_callSpecial?_slot (name:=zH "__next__") hT jI (wpAny_call_entry jI hT BH ?_ (BJ _))))
 show wpAny _ _ (fieldsOf (.ref I) >>= _) _ _ s
 refine wpAny_bind (wpAny_fieldsOf it rfl ?_)
 show wpAny _ _ (setEntries a >>= _) _ _ s
 refine wpAny_bind (uC g d f ?_)
 rw[if_neg (by rw[hn];simp)]
 show wpAny _ _ (seqItems? (.ref T) >>= _) _ _ s
 refine wpAny_bind (wpAny_seqItems gT rfl ?_)
 dsimp only
 rw[fH,show(ps.map λ(i:Nat)=>fG i 0).toArray[i]?=some (.int pl 0) by simp[e1]]
 dsimp only
 rw[fH,fH]
 refine wpAny_bind (bD6 g d f e2 ?_)
 refine wpAny_bind (wpAny_setField_rec it (by simp) λh1 i1 b1=>?_)
 exact wpAny_pure ⟨x,rfl,wpAny_pure (q h1 i1 b1)⟩
theorem bV7{I a T:Addr}{o:Obj}{es:Array (Int × Value)}{t:SetTable}{i n ep:Nat}{ps:List Nat}{Q:Option Value->Shared->Prop}(hh:A.handled=none)(it:jJ s.heap I a (.ref T) i n ep)(g:s.heap.get? a=some o)(d:o.data=.set es ep t)(f:t.fits es.size=true)(hn:es.size=n)(tp:BL s.heap T ps)
  (e1:ps[i]?=none) (q:∀h',Heap.ExtBut I s.heap h'->Q none { s with heap:=h' }):wpAny (model prog w) A (pyNext (.ref I)) Q E s:=by
 have hT:s.TypeIs (.ref I) "set_iterator":=⟨_,it,rfl⟩
 obtain⟨nT,gT⟩:=tp
 unfold pyNext
 refine wpAny_bind (wpAny_attempt (wpAny_callSpecial?_slot (name:=zH "__next__") hT jI (wpAny_call_entry jI hT BH ?_ (BJ _))))
 show wpAny _ _ (fieldsOf (.ref I) >>= _) _ _ s
 refine wpAny_bind (wpAny_fieldsOf it rfl ?_)
 show wpAny _ _ (setEntries a >>= _) _ _ s
 refine wpAny_bind (uC g d f ?_)
 rw[if_neg (by rw[hn];simp)]
 show wpAny _ _ (seqItems? (.ref T) >>= _) _ _ s
 refine wpAny_bind (wpAny_seqItems gT rfl ?_)
 dsimp only
 rw[fH,show(ps.map λ(i:Nat)=>fG i 0).toArray[i]?=none by simp[e1]]
 dsimp only
 refine wpAny_bind (wpAny_setField_rec it (by simp) λh0 i0 b0=>?_)
 refine wpAny_bind (wpAny_setField_rec i0 (by simp) λh1 i1 b1=>?_)
 show wpAny _ _ (newExc (.type "StopIteration") [] >>= _) _ _ _
 refine wpAny_bind ?_
 simp only[newExc,newTuple]
 refine wpAny_bind (wpAny_newObj_type ?_ (by size_fits))
 refine wpAny_bind (m:=firstArgMember _ _) (wpAny_of_eq (a:=iq) (by first | rfl | (simp only[firstArgMember];rfl)) ?_)
 refine wpAny_newObj_type ?_ (by size_fits)
 simp only[raiseNew]
 refine wpAny_bind (wpAny_handled ?_)
 first | rw[show A.in1.handled=none from hh] | rw[hh]
 refine wpAny_bind (wpAny_pure (wpAny_throw ?_))
 refine wpAny_bind (wpAny_isInstance (T:="StopIteration") (b:=true) ⟨_,cS _ rfl,rfl⟩ isSubtype_stop ?_)
 exact wpAny_pure (q _ (((b0.trans b1).extBut.push _).push _))
theorem bF5{I a T:Addr}{o:Obj}{es:Array (Int × Value)}{ep n:Nat}{t:SetTable}(hh:A.handled=none)(d:o.data=.set es ep t)(f:t.fits es.size=true)(hn:es.size=n)(ne:a≠I)(nT:T≠I)(ps:List Nat)(hp:ps.length=n)(L:List Value)(hL:L.length=n)
  (v:∀(i pl:Nat),ps[i]?=some pl->∃hx x,es[pl]?=some (hx,x)/\L[i]?=some x) :
  Walks prog w A I [I,a,T] [I] n (λi v=>L[i]?=some v) (λi h=>jJ h I a (.ref T) i n ep/\h.get? a=some o/\BL h T ps) where
 sub:=λb hb=>by simp at hb;simp[hb]
 frame:=λi h h' st k=>⟨k I (by simp) _ st.1,k a (by simp) _ st.2.1,by obtain⟨m,e⟩:=st.2.2;exact⟨m,k T (by simp) _ e⟩⟩
 item:=λi s Q E hi st q=>by
  obtain⟨hx,x,e2,e3⟩:=v i _ (bu (show i<ps.length by omega))
  exact bJ9 st.1 st.2.1 d f hn st.2.2 (bu (show i<ps.length by omega)) e2 λh' i1 b1=>q _ h' s.toks e3 ⟨i1,b1.extBut _ _ ne st.2.1,by obtain⟨m,e⟩:=st.2.2;exact⟨m,b1.extBut _ _ nT e⟩⟩ λb o' hb e'=>b1.extBut _ _ (λz=>hb (by simp[z])) e'
 done:=λs Q E st q=>bV7 hh st.1 st.2.1 d f hn st.2.2 (kN (by omega)) λh' b1=>q h' s.toks λb o' hb e'=>b1 _ _ (λz=>hb (by simp[z])) e'
 self:=λi s Q E st q=>R1 st.1 q
end
end L2
namespace L2
open PySem PySem.Spec PyProof.Rows
section
variable{prog:Program}{w:World}{A:Around}{E:Value->Shared->Prop}{s:Shared}
theorem bY7{led:Bool}{a:Addr}{o:Obj}{es:Array (Int × Value)}{ep:Nat}{t:SetTable}{Q:Value->Shared->Prop}(hh:A.handled=none)(g:s.heap.get? a=some o)(c:o.cls=.type "set")(d:o.data=.set es ep t)(f:t.fits es.size=true)(b:es.size<scanBound)(p:cV (!eG w) t)
  (q:∀(h':Heap) dr (I:Addr) (fp:List Addr) (L:List Value) (St:Nat->Heap->Prop),L.Perm (es.toList.map (·.2))->Walks prog w A I fp [I] L.length (λi v=>L[i]?=some v) St->St 0 h'->(∀b o,s.heap.get? b=some o->h'.get? b=some o)->s.heap.objs.size<=I->(∀b∈fp,b=a\/s.heap.objs.size<=b)->Q (.ref I) { s with heap:=h',drawn:=dr }) :
  wpAny (model prog w) A (pyIter (.ref a)) Q E s:=by
 have al:a<s.heap.objs.size:=aS g
 have ne:a≠s.heap.objs.size:=cy al
 by_cases dr:(!eG w&&(!t.plain&&decide (es.size>1)))=true
 ·refine b57 g c d f b dr λps mC hp=>?_
  have hl:ps.length=es.size:=by rw[hp.length_eq,eB]
  have ok:∀pl∈ps,pl<es.size:=λpl h=>gR.mp (hp.mem_iff.mp h)
  have e1:es.toList.map (·.2)=(aV es.size).map λi=>(es.getD i (0,.none)).2:=by
   refine zB (by simp) λi h1 h2=>?_
   simp at h1
   simp[zG,h1]
  have hL:(ps.map λi=>(es.getD i (0,.none)).2).length=es.size:=by rw[cQ,hl]
  refine q _ mC _ [s.heap.objs.size+1,a,s.heap.objs.size] (ps.map λi=>(es.getD i (0,.none)).2) (λi h=>jJ h (s.heap.objs.size+1) a (.ref s.heap.objs.size) i es.size ep/\h.get? a=some o/\BL h s.heap.objs.size ps) (by rw[e1];exact hp.map _) (by
   rw[hL]
   exact bF5 hh d f rfl (cy (DN al)) (cy (vS _)) ps hl _ hL λi pl e=>by
    have aW:=ok pl (qW e)
    refine⟨(es[pl]).1,(es[pl]).2,mW aW,?_⟩
    rw[dm,e]
    simp[zG,aW]) ⟨?_,?_,?_⟩ (λb o e=>bK _ (bK _ e)) (ze _) (λb hb=>?_)
  ·have:=cS (s.heap.push { cls:=.type "tuple",data:=.seq (ps.map λ(i:Nat)=>fG i 0).toArray }) (o:=yw (.ref s.heap.objs.size) a es.size ep) rfl
   rw[kH]at this
   exact this
  ·exact bK _ (bK _ g)
  ·exact⟨_,bK _ (cS _ rfl)⟩
  ·simp only[bG,fI,or_false]at hb
   rcases hb with rfl | rfl | rfl
   ·exact .inr (ze _)
   ·exact .inl rfl
   ·exact .inr (aY _)
 ·have mC:(!eG w&&(!t.plain&&decide (es.size>1)))=false:=Bool.eq_false_iff.mpr dr
  refine b69 g c d f mC ?_
  have fin:∀(L:List Value) (sl:Nat->Nat),sl 0=0->L.length=es.size->L.Perm (es.toList.map (·.2))->(∀i x,L[i]?=some x->nN prog w o a (sl i) i ep (some (x,sl (i+1))))->nN prog w o a (sl es.size) es.size ep none->Q (.ref s.heap.objs.size) { s with heap:=s.heap.push (yw (.int (0:Nat) 0) a es.size ep) }:=λL sl s0 hL hp v1 v2=>by
   have:=q (s.heap.push (yw (.int (0:Nat) 0) a es.size ep)) s.drawn s.heap.objs.size [s.heap.objs.size,a] L (λi h=>jJ h s.heap.objs.size a (.int (sl i) 0) i es.size ep/\h.get? a=some o) hp (by rw[hL];exact bS0 hh d f rfl ne L sl hL v1 v2) ⟨by rw[s0];exact cS _ rfl,bK _ g⟩ (λb o e=>bK _ e) (aY _) (λb hb=>by
    simp only[bG,fI,or_false]at hb
    rcases hb with rfl | rfl
    ·exact .inr (aY _)
    ·exact .inl rfl)
   exact this
  cases bt:eG w with
  | true =>
   have pp:=bJ7 (w.params.setOrder a ep) es
   have pl:(pickOrder (w.params.setOrder a ep) es).size=es.size:=by rw[<-gh,pp.length_eq,gh]
   refine fin ((pickOrder (w.params.setOrder a ep) es).toList.map (·.2)) (λ_=>0) rfl (by simp[pl]) (pp.map _) (λi x e=>?_) ?_
   ·have:=R4 (prog:=prog) (a:=a) d f bt 0 i
    rw[dm,q8]at e
    cases e2:(pickOrder (w.params.setOrder a ep) es)[i]? with
    | none=>rw[e2]at e;cases e
    | some y =>
     rw[e2]at e this
     injection e with e
     rw[<-e]
     exact this
   ·have:=R4 (prog:=prog) (a:=a) d f bt 0 es.size
    rw[DR (by omega)]at this
    exact this
  | false =>
   rw[bt]at p mC
   have nd:(!t.plain&&decide (es.size>1))=false:=by simpa using mC
   have ps:t.place.size=es.size:=by
    simp only[SetTable.fits,dh,beq_iff_eq]at f
    exact f.1
   refine fin (es.toList.map (·.2)) (mk t) rfl (by simp) (DL _) (λi x e=>?_) ?_
   ·have hi:i<es.size:=by have:=(gg.mp e).1;simpa using this
    have:=R5 (prog:=prog) (a:=a) d f bt p nd (mk t i) i
    rw[R6 p.BG (by omega),mW hi,mW (by omega)]at this
    have ex:x=(es[i]).2:=by
     rw[dm,q8,mW hi]at e
     injection e with e;exact e.symm
    rw[ex,show mk t (i+1)=t.place[i]+1 by simp[mk,zG,ps,hi]]
    exact this
   ·have:=R5 (prog:=prog) (a:=a) d f bt p nd (mk t es.size) es.size
    rw[R6 p.BG (by omega),DR (aY _)]at this
    exact this
end
end L2
namespace L2
open PySem PySem.Spec PyProof.Rows
section
variable{prog:Program}{w:World}{A:Around}{E:Value->Shared->Prop}{s:Shared}
theorem bD0{R:Result->Shared->Prop}{a S:Addr}{o:Obj}{es:Array (Int × Value)}{ep:Nat}{t:SetTable}(hh:A.handled=none)(g:s.heap.get? a=some o)(c:o.cls=.type "set")(d:o.data=.set es ep t)(f:t.fits es.size=true)(b:es.size<scanBound)(p:cV (!eG w) t)
  (nS:S≠a) (res:Value) (c₀:Nat) (hS:s.heap.get? S=some { cls:=.type "list",data:=.seq #[] c₀ }) (hn:es.size<=sizeLine)
  (hR:∀h' tk dr dj c',dj.toList.Perm (es.toList.map (·.2))->(∀b o,b≠S->s.heap.get? b=some o->h'.get? b=some o)->h'.get? S=some { cls:=.type "list",dict:=none,data:=.seq dj c',slots:=#[] }->R (.ok (.ret res)) { s with heap:=h',toks:=tk,drawn:=dr }) :
  wpAny (model prog w) A.in1 (wa (.ref S) (.ref a) res)
   (λfin s'=>match fin with | .done f=>R (.ok f) s' | .again c'=>c'.quiet=true/\codeAny (model prog w) A c' R s') (λe s'=>R (.error e) s') s:=by
 have hT:s.TypeIs (.ref a) "set":=⟨o,g,c⟩
 unfold wa
 refine wpAny_bind (wpAny_typeOf (T:="set") hT ?_)
 have h1:DS (.ref S) (.ref a)=false:=by simp[DS,nS]
 simp only[h1,show(iZ "set"==iZ "list")=false by decide,show(iZ "set"==iZ "tuple")=false by decide,n5,mO,if_false]
 refine wpAny_bind (bY7 (led:=true) (A:=A.in1) hh g c d f b p λh1 dr I fp L St hL W st k1 hI hfp=>?_)
 have GD:=k1 _ _ hS
 have R9:S ∉ fp:=λh=>by
  rcases hfp S h with h | h
  ·exact nS h
  ·exact absurd (aS hS) (kP.mpr h)
 have hSI:S≠I:=λh=>absurd (aS hS) (kP.mpr (h ▸ hI))
 have hl:L.length=es.size:=by rw[hL.length_eq];simp
 have key:∀(h:Heap) (c₁ tk:Nat),St 0 h->(∀b o,b≠S->s.heap.get? b=some o->h.get? b=some o) ->
   h.get? S=some { cls:=.type "list",data:=.seq #[] c₁ }->codeAny (model prog w) A (.builtin "list.extend.loop" ⟨[.ref S,.ref I,res],[]⟩) R { s with heap:=h,toks:=tk,drawn:=dr }:=by
  intro h c₁ tk bW hk GF
  refine codeAny_extend_loopS W.toS (hl ▸ hn) S R9 res _ 0 _ #[] c₁ rfl (gi _) bW GF (ItemsOf.nil _) λs' dj c' hm uD iG=>?_
  rw[Moved.eq_with hm]
  have ea:dj.toList=L:=by
   refine DD λi=>?_
   rw[q8]
   by_cases hi:i<L.length
   ·have h2:i<dj.size:=by rw[iG.1];exact hi
    rw[mW h2]
    exact(iG.2 i _ (mW h2)).symm
   ·rw[kN (kP.mp hi)]
    exact DR (by rw[iG.1];omega)
  refine hR s'.heap s'.toks dr dj c' (ea ▸ hL) (λb o hb e=>hm.heap b o (λlY=>?_) (hk b o hb e)) uD
  rcases bG.mp lY with e' | lY
  ·exact hb e'
  ·exact absurd (aS e) (kP.mpr (gU.mp lY ▸ hI))
 refine wpAny_bind (wpAny_holding (bU8 ⟨o,k1 _ _ g,c⟩ ?_))
 refine wpAny_ite_split (λ_=>?_) (λ_=>wpAny_pure ⟨plainId_quiet PySem.F.plain_extend_loop _,key _ c₀ _ st (λb o _ e=>k1 b o e) GD⟩)
 refine wpAny_bind (wpAny_rule ?_)
 refine wpAny_bind ?_
 show wpAny _ _ (updateSeq S (·.push .none) >>= λ_=>updateSeq S (·.pop)) _ _ _
 refine wpAny_bind (wpAny_updateSeq GD rfl ?_)
 have y2:=qX (jR (·.push iq)) GD rfl
 refine wpAny_updateSeq (hz:=by seq_fits) y2 rfl ?_
 have y3:=qX (jR (·.pop)) y2 rfl
 have ot:∀b o,b≠S->h1.get? b=some o->((h1.update S (jR (·.push iq))).update S (jR (·.pop))).get? b=some o:=λb o n e=>(jS _ _ (dA n)).trans ((jS _ _ (dA n)).trans e)
 exact wpAny_pure ⟨plainId_quiet PySem.F.plain_extend_loop _,key _ _ _ (W.frame 0 _ _ st λb hb o e=>ot b o (λh=>R9 (h ▸ hb)) e) (λb o hb e=>ot b o hb (k1 b o e)) y3⟩
theorem bY6{R:Result->Shared->Prop}{a S:Addr}{o:Obj}{es:Array (Int × Value)}{ep:Nat}{t:SetTable}(hh:A.handled=none)(g:s.heap.get? a=some o)(c:o.cls=.type "set")(d:o.data=.set es ep t)(f:t.fits es.size=true)(b:es.size<scanBound)(p:cV (!eG w) t)
  (nS:S≠a) (c₀:Nat) (hS:s.heap.get? S=some { cls:=.type "list",data:=.seq #[] c₀ }) (hn:es.size<=sizeLine)
  (hR:∀h' tk dr dj c',dj.toList.Perm (es.toList.map (·.2))->(∀b o,b≠S->s.heap.get? b=some o->h'.get? b=some o)->h'.get? S=some { cls:=.type "list",dict:=none,data:=.seq dj c',slots:=#[] }->R (.ok (.ret (.ref S))) { s with heap:=h',toks:=tk,drawn:=dr }) :
  codeAny (model prog w) A (.builtin "list.__iadd__" ⟨[.ref S,.ref a],[]⟩) R s:=by
 refine codeAny_builtin entry_list_iadd' ?_
 rw[DM (show plainId "list.__iadd__"=true by decide +kernel) _]
 exact bD0 hh g c d f b p nS _ c₀ hS hn hR
theorem bw1{a:Addr}{o:Obj}{es:Array (Int × Value)}{ep:Nat}{t:SetTable}{Q:List Value->Shared->Prop}(hh:A.handled=none)(g:s.heap.get? a=some o)(c:o.cls=.type "set")(d:o.data=.set es ep t)(f:t.fits es.size=true)(b:es.size<scanBound)(p:cV (!eG w) t)(hn:es.size<=sizeLine)
  (q:∀h' tk dr L,L.Perm (es.toList.map (·.2))->(∀b o,s.heap.get? b=some o->h'.get? b=some o)->Q L { s with heap:=h',toks:=tk,drawn:=dr }) :
  wpAny (model prog w) A (collect (.ref a)) Q E s:=by
 unfold collect
 refine wpAny_bind (wpAny_runValue (codeAny_builtin entry_proto_collect' ?_))
 show wpAny _ _ (do again (.builtin "list.__iadd__" ⟨[<-newList [],.ref a],[]⟩)) _ _ s
 have al:a<s.heap.objs.size:=aS g
 refine wpAny_bind (wpAny_newList (wpAny_pure ⟨Code.quiet_builtin _ (by decide +kernel),bY6 hh (bK _ g) c d f b p (qT al) 0 (cS _ rfl) hn λh' tk dr dj c' h1 h2 h3=>?_⟩))
 dsimp only
 refine wpAny_bind (wpAny_load h3 ?_)
 exact wpAny_pure (q h' tk dr _ h1 λb o e=>h2 b o (cy (aS e)) (bK _ e))
end
end L2
namespace L2
open PySem PySem.Spec PyProof.Rows
theorem GG(val:Nat->Int):∀i,(firstMet val i).Nodup
 | 0=>by rw[firstMet_zero];exact .nil
 | i+1=>by
  rw[firstMet_succ]
  have ih:=GG val i
  unfold step_dedup
  split
  ·exact ih
  ·rename_i h
   rw[List.nodup_append]
   refine⟨ih,by simp,λa ha b hb e=>?_⟩
   rw[gU]at hb
   subst hb;subst e
   exact h (by first | simpa using ha | (simp;exact ha))
theorem ci9(ns:List Int)(k:Int):k∈firstMet (λi=>ns.getD i 0) ns.length↔k∈ns:=by
 have h:=firstMet_any (λi=>ns.getD i 0) ns.length k
 have e:(aV ns.length).map (λi=>ns.getD i 0)=ns:=by
  refine zB (by simp) λi h1 h2=>?_
  simp[List.getD,h2]
 rw[e]at h
 have f:∀l:List Int,l.any (·==k)=true↔k∈l:=λl=>by
  rw[List.any_eq_true]
  exact⟨λ⟨x,hx,e⟩=>by rw[beq_iff_eq]at e;exact e ▸ hx,λhx=>⟨k,hx,by simp⟩⟩
 rw[<-f,h,f]
theorem Sa{α:Type}[DecidableEq α]:∀{a b:List α},a.Nodup->(∀x∈a,x∈b)->b.length<=a.length->b.Perm a
 | [],b,_,_,h=>by
  cases b with
  | nil=>exact .nil
  | cons x b=>simp at h
 | x::a,b,nd,s,h=>by
  have hx:=s x (by simp)
  have iK:=i5.mp nd
  have:=Sa (a:=a) (b:=b.erase x) iK.2 (λy hy=>by
   have:y≠x:=λe=>iK.1 (e ▸ hy)
   exact(V1 this).mpr (s y (by simp[hy]))) (by
   rw[V2 hx];simp at h;omega)
  exact(M8 hx).trans (this.cons x)
theorem cz5{l:List Int}(p:l.Pairwise (·<=·))(n:l.Nodup):l.Pairwise (· < ·):=by
 induction l with
 | nil=>exact .nil
 | cons x l ih =>
  have p':=rk.mp p
  have n':=i5.mp n
  refine rk.mpr ⟨λy hy=>?_,ih p'.2 n'.2⟩
  have h1:=p'.1 y hy
  have h2:x≠y:=λe=>n'.1 (e ▸ hy)
  omega
noncomputable def BM(P:Program)(w:World)(l:Addr)(ns:List Int):HO:=.ext λh=>eV P w (!eG w) h l (λz=>(firstMet (λi=>ns.getD i 0) ns.length).any (·==z)) (firstMet (λi=>ns.getD i 0) ns.length).length
section
variable{prog:Program}{w:World}{A:Around}{E:Value->Shared->Prop}{s:Shared}
theorem bD1{a:Addr}{o:Obj}{es:Array (Int × Value)}{ep:Nat}{t:SetTable}{ns:List Int}{Q:Value->Shared->Prop}(hh:A.handled=none)(g:s.heap.get? a=some o)(c:o.cls=.type "set")(d:o.data=.set es ep t)(f:t.fits es.size=true)(b:es.size<64)(p:cV (!eG w) t)(hI:IntsAre (es.toList.map (·.2)) ns)
  (q:∀(h1 h':Heap) tk dr e (vs:List Value) (ms:List Int),IntsAre vs ms->ms.Perm ns->ms.Pairwise (·<=·)->(∀b o,s.heap.get? b=some o->h1.get? b=some o)->(∀b o,h1.get? b=some o->h'.get? b=some o)->h'.get? h1.objs.size=some (seqObj "list" vs.toArray e)->Q (.ref h1.objs.size) { s with heap:=h',toks:=tk,drawn:=dr }) :
  wpAny (model prog w) A (call (.builtin "sorted") [.ref a]) Q E s:=by
 refine Calls.call_function_entry kind_sorted plain_sorted entry_sorted (args_sorted1 _) ?_
 unfold Builtin.«sorted»
 refine wpAny_bind (m:=checkCount "sorted" 1 1 _) (wpAny_pure ?_)
 refine wpAny_bind (bw1 (A:=A.in1) hh g c d f (by unfold scanBound;omega) p (by rw[sizeLine_eq];omega) λh1 tk dr L pL k1=>?_)
 have iL:IntsAre L (L.map numOf):=intsAre_map L λv hv=>hI.all v (pL.mem_iff.mp hv)
 have pn:(L.map numOf).Perm ns:=by rw[<-hI.nums];exact pL.map _
 have lL:L.length<64:=by rw[pL.length_eq];simpa using b
 refine wpAny_bind (wpAny_newList ?_ (by rw[sizeLine_eq];omega))
 have rB:(h1.push (seqObj "list" L.toArray 0)).get? h1.objs.size=some (seqObj "list" L.toArray 0):=cS _ rfl
 refine wpAny_bind (wpAny_holding (wpAny_call_entry slot_list_sort ⟨_,rB,rfl⟩ entry_list_sort (list_sort_tree rB iL lL λout ns' a1 a2 a3=>⟨_,rfl,?_⟩) (args_list_sort _)))
 obtain⟨e,he⟩:=sortedHeap_at (out:=out) rB
 exact wpAny_pure ⟨_,rfl,q h1 _ tk dr e out.toList ns' a1 (a2.trans pn) a3 k1 (λb o e1=>by
  rw[sortedHeap_old (cy (aS e1)) (by rw[size_push'];exact DN (aS e1))]
  exact bK _ e1) he⟩
end
section
variable{X:Cx}
theorem bS3(hc:X.calm=true):fK X (.type "set") (λxs H Q=>∃(p:Addr) (ns:List Int),xs=[.ref p]/\bc X.K H p (ns.map V.int)/\ns.length<64/\∀l,H l=none->Q (.ref l) (upd H l (BM X.prog X.w l ns))):=by
 intro pins s σ H xs us Q I r h
 obtain⟨p,ns,rfl,hS,hn,q⟩:=h
 obtain⟨u,rfl,ru⟩:=r.one
 cases ru
 obtain⟨its,rv,pl,hz⟩:=I.list hS
 have hl:=pl.isList
 have hlen:ns.length=its.length:=by have:=rv.length;rwa [cQ]at this
 refine bx4 (I.ok.hd hc) hl (ns:=ns) (by simpa using NO rv) (by simp only[cY];unfold scanBound;omega) λh' tk x k=>?_
 rw[show its.toArray.size=ns.length by simp[hlen]]at x
 have x0:=x
 obtain⟨o,_,_,_,g,_⟩:=x0
 exact⟨.ref _,_,I.laid (t':=tk) (λb o e=>k b o (aS e) e) (aY _) (show cM X.prog X.w _ _ _ (BM X.prog X.w _ ns) from⟨x,⟨o,g⟩,λh1 h2 y z=>y.at λo e=>z _ o (.inl rfl) e⟩),rfl,q _ (I.av.fresh (aY _))⟩
theorem bt9(hc:X.calm=true):fK X (.builtin "sorted") (λxs H Q=>∃(p:Addr) (ns:List Int),xs=[.ref p]/\H p=some (BM X.prog X.w p ns)/\ns.length<64/\∀(ms:List Int) l,ms.Pairwise (· < ·)->(∀k,k∈ms↔k∈ns)->H l=none->Q (.ref l) (upd H l (.lst (ms.map V.int)))):=by
 intro pins s σ H xs us Q I r h
 obtain⟨p,ns,rfl,hS,hn,q⟩:=h
 obtain⟨u,rfl,ru⟩:=r.one
 cases ru
 obtain⟨x,_,_⟩:=I.av p _ hS
 obtain⟨o,es,ep,t,g,ex,d,el,mem,b,f,sz,tb⟩:=x
 have fl:=firstMet_length_le (λi=>ns.getD i 0) ns.length
 have h1:∀v∈es.toList.map (·.2),∃n t,v=.int n t:=λv hv=>by
  obtain⟨e,he,rfl⟩:=dn.mp hv
  obtain⟨⟨k,hk,_⟩,_⟩:=el e he
  obtain⟨t,ht⟩:=Mx hk
  exact⟨k,t,ht⟩
 have iE:=intsAre_map _ h1
 have pE:((es.toList.map (·.2)).map numOf).Perm (firstMet (λi=>ns.getD i 0) ns.length):=by
  refine Sa (GG _ _) (λk hk=>?_) (by simp[sz])
  obtain⟨e,he,hke⟩:=(mem k).mp (by rw[List.any_eq_true];exact⟨k,hk,by simp⟩)
  obtain⟨t,ht⟩:=Mx hke
  refine dn.mpr ⟨e.2,dn.mpr ⟨e,he,rfl⟩,?_⟩
  rw[ht];rfl
 refine bD1 (I.ok.hd hc) g ex.1 d f (by omega) tb iE λh1 h' tk dr e vs ms a1 a2 a3 k1 k2 he=>?_
 have pm:=a2.trans pE
 have I0:=I.kept (t':=tk) k1
 have I1:=I0.laid (t':=tk) (o:=.lst (ms.map V.int)) k2 (aY _) (show cM X.prog X.w _ _ _ (.lst _) from⟨by rw[cQ,pm.length_eq,sizeLine_eq];omega,vs,e,RP a1,he⟩)
 exact⟨.ref _,_,⟨I1.ok,I1.os,I1.bare,I1.base,I1.loc,I1.cell,I1.free,I1.eC,I1.pin,I1.av,I1.len⟩,rfl,q ms _ (cz5 a3 (pm.nodup_iff.mpr (GG _ _))) (λk=>by rw[pm.mem_iff,ci9]) (I0.av.fresh (aY _))⟩
end
end L2
namespace L3
open PySem L2 PySem.Spec PyProof.Rows
section
variable{X:Cx}{e:Expr}{tr:bX}{p p2 pos cW:Pos}
noncomputable def qw:jc:=λds Q=>match ds with
 | [.lst _ xs]=>∃ns,xs=nums ns/\ns.length<64/\∀ms:List Int,ms.Pairwise (· < ·)->(∀k,k∈ms↔k∈ns)->Q (.lst true (nums ms))
 | _=>False
theorem bM3(hc:X.calm=true)(hg:Gl X "sorted")(hm:X.mg "sorted"=none)(iS:Gl X "set")(fe:X.mg "set"=none)(ha:PA X [e] (lA tr))(he:starEach [e] X.env=[(false,eval e X.env)]:=by rfl):PE X (.Call (.Name "sorted" p) [.Call (.Name "set" p2) [e] [] cW] [] pos) (lE (ki qw tr)) :=
 cJ (Ac (bt9 hc) hg hm rfl (dO (NN (bS3 hc) iS fe rfl ha (he:=he)) gu)) λσ H Q ⟨B,F,δ,ts,Qd,c,q,k⟩=>⟨B,F,δ,ts,_,c,q,λds ai vs F1 H1 q1 f1 h1 c1 s1=>by
  unfold qw at q1
  split at q1
  ·obtain⟨v,rfl,s2⟩:=kj s1
   obtain⟨ns,rfl,hn,q1⟩:=q1
   obtain⟨p,ws,rfl,h,t⟩:=jA s2 c1.ext rfl
   rw[AW t]at h
   refine⟨p,ns,rfl,iR h,hn,λl hl=>⟨l,ns,rfl,bV,hn,λms l2 hs hm oU=>?_⟩⟩
   have g1:aa H1 (upd H1 l (BM X.prog X.w l ns)):=aa.upd hl
   have c2:=c1.grow g1
   exact k _ _ _ _ _ (q1 ms hs hm) f1 (h1.trans (g1.trans (aa.upd oU))) (c2.jw oU (yt _ _ ms).s (yt F1 H1 ms).pl)
  ·exact q1.elim⟩
end
end L3
namespace L3
open PySem L2 Mf
theorem Sb{α:Type}[DecidableEq α]:∀{a b:List α},a.Nodup->(∀x∈a,x∈b)->a.length<=b.length
 | [],_,_,_=>gi _
 | x::a,b,nd,s=>by
  have hx:=s x (by simp)
  have iK:=i5.mp nd
  have:=Sb (a:=a) (b:=b.erase x) iK.2 λy hy=>(V1 (λ(e:y=x)=>iK.1 (e ▸ hy))).mpr (s y (by simp[hy]))
  have p:=List.length_pos_of_mem hx
  rw[V2 hx]at this
  rw[eJ];omega
theorem cE0{wd:List Nat}{ms:List Int}(h1:ms.Pairwise (· < ·))(h2:∀k,k∈ms↔k∈wd.map λ(n:Nat)=>(n:Int)):∃hs:List Nat,nums ms=au hs/\hs.Pairwise (· < ·)/\(∀h,h∈hs↔h∈wd)/\hs.length<=wd.length:=by
 have nn:∀k∈ms,((k.toNat:Nat):Int)=k:=λk hk=>by
  obtain⟨x,_,e⟩:=dn.mp ((h2 k).mp hk)
  omega
 have mem:∀h,h∈ms.map zD↔h∈wd:=λh=>by
  constructor
  ·intro hh
   obtain⟨k,hk,rfl⟩:=dn.mp hh
   obtain⟨x,hx,e⟩:=dn.mp ((h2 k).mp hk)
   rw[show k.toNat=x by omega];exact hx
  ·intro hh
   exact dn.mpr ⟨(h:Int),(h2 _).mpr (dn.mpr ⟨h,hh,rfl⟩),fH h⟩
 have pw:(ms.map zD).Pairwise (· < ·):=by
  rw[List.pairwise_map]
  refine List.Pairwise.imp_of_mem (λha hb h=>?_) h1
  have:=nn _ ha
  have:=nn _ hb
  omega
 refine⟨ms.map zD,?_,pw,mem,Sb (pw.imp λh e=>absurd e (cy h)) λx hx=>(mem x).mp hx⟩
 unfold au
 rw[gk]
 congr 1
 refine((vY (g:=id) λk hk=>nn k hk).trans (M0 ms)).symm
end L3
namespace L2
open PySem PySem.Spec PyProof.Rows
section
variable{X:Cx}
theorem bN5:kY X "list.count" (λx xs H Q=>∃(p:Addr) (ns:List Int) (k:Int),x=.ref p/\xs=[.int k]/\bc X.K H p (ns.map V.int)/\Q (.int (ns.count k:Nat)) H):=by
 intro pins s σ H x xs v us Q I rx r h
 obtain⟨p,ns,k,rfl,rfl,hS,q⟩:=h
 cases rx
 obtain⟨u,rfl,ru⟩:=r.one
 obtain⟨t,rfl⟩:=ru
 obtain⟨its,rv,pl,hz⟩:=I.list hS
 exact count_list_ints pl.isList (NO rv) ⟨.int _,H,I.tok _,⟨_,rfl⟩,q⟩
end
end L2
namespace L3
open PySem L2 PySem.Spec PyProof.Rows
section
variable{X:Cx}{o e:Expr}{t tb:aD}{apos bB:Pos}
noncomputable def uE(t tb:aD):aD:=λδ Q=>t δ λd ai=>∃(o:Bool) (ns:List Int),d=.lst o (nums ns)/\tb ai λb aI=>∃k,b=.int k/\Q (.int (ns.count k:Nat)) aI
theorem ch7(ho:PE X o (lB t))(he:PE X e (lB tb))(iC:attributeBase o "count" X.env (eval o X.env)=eval o X.env:=by rfl)
  (wJ:((backTo bB (starEach [e] X.env)).all (λx=>!x.1)&&(backToKw bB (keywordEach [] X.env)).all (λx=>x.1.isSome)
   && decide ([e].length+([]:List Keyword).length+(if([]:List Keyword).isEmpty then 0 else 1)<30))=true:=by rfl)
  (iD:(apos.endLine==bB.line)=true:=by rfl) (hs:starEach [e] X.env=(false,eval e X.env)::starEach [] X.env:=by rfl) (wK:(backTo bB (starEach [] X.env)).any (·.1)=false:=by rfl) :
  PE X (.Call (.Attribute o "count" apos) [e] [] bB) (lE (uE t tb)) :=
 cJ (NY PySem.F.plainAttrs_list PySem.F.slot_list_count PySem.F.type_list_count bN5 ho (dO he gu hs) iC wJ iD hs wK) λσ H Q ⟨B,F,δ,ts,Qd,c,q,k⟩=>⟨B,F,δ,ts,_,c,q,λd ai v F1 H1 q1 f1 h1 c1 s1=>by
  obtain⟨o,ns,rfl,q1⟩:=q1
  obtain⟨p,ws,rfl,h,t⟩:=jA s1 c1.ext rfl
  rw[AW t]at h
  exact⟨.inl ⟨rfl,_,iR h⟩,B,F1,ai,ts,_,c1,q1,λb aI w F2 H2 q2 f2 h2 c2 s2=>by
   obtain⟨n,rfl,q3⟩:=q2
   cases s2
   exact⟨p,ns,n,rfl,rfl,iR (h.elim (λz=>.inl (h2 _ _ z)) λ⟨o,z⟩=>.inr ⟨o,h2 _ _ z⟩),k _ aI _ F2 H2 q3 (f1.trans f2) (h1.trans h2) (c2.pushS (.int .nil) rfl)⟩⟩⟩
end
section
variable{X:Cx}{i:Nat}{x:Str}{p pos apos bB FK cW:Pos}{a b:List Stmt}{t u:bS}{k:Int}{j}
noncomputable def uF(i:Nat)(k:Int)(t u:bS):bS:=λD δ=>∃xs n,δ[i]?=some (some (.lst true (xs++[.int n])))/\((n≠k->t D (δ.set i (some (.lst true xs))))/\(n=k->u D (δ.set i (some (.lst true xs)))))
theorem ce5(hN:X.N[i]?=some x)(hv:jX X.env.scope x)(ha:PSs X a (lS X t))(hb:PSs X b (lS X u))(hd:(x==("__debug__":Str))=false:=by decide)(cC:(x==("__classdict__":Str))=false:=by decide)
  (iC:attributeBase (.Name x p) "pop" X.env (eval (.Name x p) X.env)=eval (.Name x p) X.env:=by rfl) (iD:(apos.endLine==bB.line)=true:=by rfl) (hm:behindInMarks .NotEq (.Constant (.int k) j FK)=false:=by rfl) :
  PS X (.If (.Compare (.Call (.Attribute (.Name x p) "pop" apos) [] [] bB) [.NotEq] [.Constant (.int k) j FK] cW) a b pos) (lS X (uF i k t u)) :=
 j9 (zY (NA Xw (NX PySem.F.plainAttrs_list PySem.F.slot_list_pop PySem.F.type_list_pop YF (oE hN hv hd cC) iC iD) oF hm) ha hb) λEn σ H zz=>by
  obtain⟨B,F,δ,Dd,c,⟨ys,n,ey,hn1,rF⟩,kk⟩:=zz
  obtain⟨p0,w4,g1,g2,g3⟩:=c.ownAt ey
  obtain⟨v0,e0,s0⟩:=c.look ey
  rw[g1]at e0
  cases e0
  obtain⟨p1,yx,e1,h1,t1⟩:=ij s0 c.ext
  cases e1
  have e2:yx=w4:=by have:=c.ext;rw[g2]at h1;cases h1;rfl
  subst e2
  have hl:yx.length=ys.length+1:=by rw[<-t1.length,mL];rfl
  obtain⟨v,e3,s3⟩:=t1.get (i:=ys.length) (d:=.int n) (by rw[vT (aY _),rj];rfl)
  cases s3
  have c':aj B F (upd H p0 (.lst yx.dropLast)) σ (δ.set i (some (.lst true ys))) []:=by
   have:aj B F (upd H p0 (.lst yx.dropLast)) σ (δ.set i (some (.lst true (ys++[D.int n]).dropLast))) []:=aj.mut (ps:=[]) c ey g1 λdZ A1 A2 h r1 r2 nd=>by
    rw[g2]at h;cases h
    obtain⟨A',r',iK,sub⟩:=r1.PK (e7.mp nd).1
    exact⟨A',r',iK,λa ha=>fq _ (sub a ha)⟩
   rw[List.dropLast_concat]at this
   exact this
  refine⟨.ref p0,g1,.inl ⟨rfl,_,bc.of g2⟩,p0,yx,_,rfl,rfl,g2,by rw[hl,Nat.add_sub_cancel];exact e3,rfl,_,rfl,?_⟩
  dsimp only
  by_cases e:n=k
  ·rw[if_neg (by simp[e])]
   exact⟨B,F,_,Dd,c',rF e,kk⟩
  ·rw[if_pos (by simp[e])]
   exact⟨B,F,_,Dd,c',hn1 e,kk⟩
end
end L3
namespace L3
open PySem L2 Mf
section
variable{N:Nat}{p q:Nat->Nat->Nat}
noncomputable def gO(p q:Nat->Nat->Nat)(n:Nat)(f:Nat->Nat):Nat->Nat
 | 0=>q (f 0) n
 | k+1=>p (q (f (k+1)) n) (f k)
theorem p4(r:Rg N p q)(a b c d:Nat):p (p a b) (p c d)=p (p a c) (p b d):=by rw[r.pa,r.pa,<- r.pa b,r.pc b c,r.pa c]
theorem Rg.dr(r:Rg N p q)(a b c:Nat):q (p a b) c=p (q a c) (q b c):=by rw[r.mc,r.dl,r.mc c,r.mc c]
theorem Sd(r:Rg N p q){n:Nat}{f:Nat->Nat}(hf:∀k,f k<N):∀k,gO p q n f k<N
 | 0=>r.lq _ _
 | _+1=>r.lp (r.lq _ _) (hf _)
theorem q3(r:Rg N p q){a b c:Nat}(ha:a<N)(hb:b<N)(hc:c<N):q (q a b) c=q (q a c) b:=by rw[r.ma ha hb hc,r.mc b c,r.ma ha hc hb]
theorem bL5(r:Rg N p q){n n':Nat}{f:Nat->Nat}(hn:n<N)(oB:n'<N)(hf:∀k,f k<N):gO p q n (gO p q n' f)=gO p q n' (gO p q n f):=funext λk=>by
 cases k with
 | zero=>exact q3 r (hf 0) oB hn
 | succ k =>
  cases k with
  | zero =>
   show p (q (p (q (f 1) n') (f 0)) n) (q (f 0) n')=p (q (p (q (f 1) n) (f 0)) n') (q (f 0) n)
   rw[r.dr,r.dr,q3 r (hf 1) oB hn,r.pa,r.pa,r.pc (q (f 0) n)]
  | succ k =>
   show p (q (p (q (f (k+2)) n') (f (k+1))) n) (p (q (f (k+1)) n') (f k))=p (q (p (q (f (k+2)) n) (f (k+1))) n') (p (q (f (k+1)) n) (f k))
   rw[r.dr,r.dr,q3 r (hf _) oB hn,p4 r,p4 r (q (q (f (k+2)) n) n')]
theorem bY8(r:Rg N p q){n D:Nat}{f g:Nat->Nat}(hf:∀k,f k<N)(hg:∀k,g k<N)(zf:∀k,D<=k->f k=0)(zg:∀k,D<=k->g k=0)(h:∀k,gO p q n f (k+1)=gO p q n g (k+1)):f=g:=by
 have key:∀j k,D<=k+j->f k=g k:=by
  intro j
  induction j with
  | zero=>exact λk hk=>by rw[zf k hk,zg k hk]
  | succ j ih =>
   intro k hk
   have e:=h k
   have e1:=ih (k+1) (by omega)
   simp only[gO]at e
   rw[e1,r.pc,r.pc _ (g k)]at e
   exact r.RI (hf k) (hg k) (r.lq _ _) e
 exact funext λk=>key D k (by omega)
noncomputable def eW(p q:Nat->Nat->Nat)(ng:Nat->Nat)(c:Nat):List Nat->Nat->Nat
 | []=>λk=>if k=0 then c else 0
 | s::S=>gO p q (ng s) (eW p q ng c S)
variable{ng:Nat->Nat}{c:Nat}
theorem qy(r:Rg N p q)(hc:c<N):∀(S:List Nat) k,eW p q ng c S k<N
 | [],k=>by
  show(if k=0 then c else 0)<N
  split
  ·exact hc
  ·exact r.pos
 | _::S,k=>Sd r (qy r hc S) k
theorem GH(r:Rg N p q)(hc:c<N)(hn:∀s,ng s<N){S S':List Nat}(h:S.Perm S'):eW p q ng c S=eW p q ng c S':=by
 induction h with
 | nil=>rfl
 | cons x _ ih=>show gO p q (ng x) _=gO p q (ng x) _;rw[ih]
 | swap x y l=>exact bL5 r (hn _) (hn _) (qy r hc l)
 | trans _ _ a b=>exact a.trans b
theorem qA(r:Rg N p q):∀(S:List Nat) k,S.length<k->eW p q ng c S k=0
 | [],k,h=>if_neg (by simp at h;omega)
 | s::S,0,h=>absurd h (by simp)
 | s::S,k+1,h=>by
  rw[eJ]at h
  show p (q (eW p q ng c S (k+1)) (ng s)) (eW p q ng c S k)=0
  rw[qA r S (k+1) (by omega),qA r S k (by omega),r.mc,r.qz,r.z r.pos]
theorem BN(r:Rg N p q)(hc:c<N):∀S:List Nat,eW p q ng c S S.length=c
 | []=>rfl
 | s::S=>by
  show p (q (eW p q ng c S (S.length+1)) (ng s)) (eW p q ng c S S.length)=c
  rw[qA r S (S.length+1) (by omega),BN r hc S,r.mc,r.qz,r.z hc]
theorem BO(r:Rg N p q)(hc:c<N)(hn:∀s,ng s<N){a:Nat}(ha:a<N):∀(S:List Nat) k,q a (eW p q ng c S k)=eW p q ng (q a c) S k
 | [],k=>by
  show q a (if k=0 then c else 0)=if k=0 then q a c else 0
  split
  ·rfl
  ·exact r.qz a
 | s::S,0=>by
  show q a (q (eW p q ng c S 0) (ng s))=q (eW p q ng (q a c) S 0) (ng s)
  rw[<-BO r hc hn ha S 0,r.ma ha (qy r hc S 0) (hn s)]
 | s::S,k+1=>by
  show q a (p (q (eW p q ng c S (k+1)) (ng s)) (eW p q ng c S k))=p (q (eW p q ng (q a c) S (k+1)) (ng s)) (eW p q ng (q a c) S k)
  rw[<-BO r hc hn ha S (k+1),<- BO r hc hn ha S k,r.dl,r.ma ha (qy r hc S _) (hn s)]
end
section
variable{m:Bool × Nat}
theorem GI(hm:m∈aF){s:Nat}(hs:s<ah m):eU m 0 s<ah m/\gp m (eU m 0 s) s=0:=by
 have:=yp hm (a:=0) (b:=s) (by omega) hs
 exact⟨this.2.1,this.2.2⟩
noncomputable def df(m:Bool × Nat)(s:Nat):Nat:=if s<ah m then eU m 0 s else 0
theorem nO(hm:m∈aF)(s:Nat):df m s<ah m:=by
 unfold df
 split
 ·exact(GI hm ‹_›).1
 ·exact(rg hm).pos
theorem Se{s:Nat}(hs:s<ah m):df m s=eU m 0 s:=if_pos hs
theorem GJ(hm:m∈aF){s x:Nat}(hs:s<ah m)(hx:x<ah m):gp m (df m s) x=0↔x=s:=by
 have h:=(GI hm hs).2
 rw[Se hs]
 refine⟨λe=>?_,λe=>e ▸ h⟩
 refine(rg hm).RI hx hs (GI hm hs).1 ?_
 rw[gK,e,gK,h]
noncomputable abbrev PF(m:Bool × Nat)(c:Nat)(S:List Nat):Nat->Nat:=eW (gp m) (gm m) (df m) c S
theorem yy(hm:m∈aF){n:Nat}(hn:n<ah m):∀{L:List Nat},AllLt (ah m) L->∀k,dz m [n,1] L k=gO (gp m) (gm m) n (cf L) k
 | [],_,0=>by
  show 0=gm m 0 n
  rw[fg m _ (bR m hm)]
 | [],_,k+1=>by
  show 0=gp m (gm m 0 n) 0
  rw[fg m _ (bR m hm),fC (rg hm).pos]
 | x::L,h,0=>by
  show gp m (gm m x n) 0=gm m x n
  exact jD (dU hm _ _)
 | x::L,h,1=>by
  show gp m (gm m x 1) (dz m [n,1] L 0)=gp m (gm m (cf L 0) n) x
  rw[uu (h x (by simp)),yy hm hn (λa ha=>h a (by simp[ha])) 0,gK];rfl
 | x::L,h,k+2=>by
  show gp m (gm m x (cf [n,1] (k+2))) (dz m [n,1] L (k+1))=gp m (gm m (cf L (k+1)) n) (cf L k)
  rw[show cf [n,1] (k+2)=0 from rfl,jg m _ (bR m hm),yy hm hn (λa ha=>h a (by simp[ha])) (k+1),fC (Sd (rg hm) (jG hm λa ha=>h a (by simp[ha])) _)];rfl
theorem Sf(hm:m∈aF){x:Nat}{l l':List Nat}(h:∀k,cf l k=cf l' k):aP m x l=aP m x l':=by rw[<-Bv hm,Rz h,Bv hm]
theorem cp5(hm:m∈aF){n x:Nat}(hn:n<ah m)(hx:x<ah m){L Q:List Nat}(hQ:AllLt (ah m) Q)(h:∀k,cf L k=gO (gp m) (gm m) n (cf Q) k):aP m x L=gm m (aP m x Q) (gp m n x):=by
 have lo:=lo1 hm
 rw[Sf hm (l':=my m Q [n,1]) λk=>by rw[h k,RC hm,yy hm hn hQ],b49 hm x Q [n,1] hQ (λa ha=>by
  simp only[bG,fI,or_false]at ha
  rcases ha with rfl | rfl
  ·exact hn
  ·exact lo)]
 congr 1
 show gp m (gm m (gp m (gm m 0 x) 1) x) n=gp m n x
 rw[fg m _ (bR m hm),fC lo,Gd hx,gK]
noncomputable def kB(m:Bool × Nat)(c:Nat)(S:List Nat):List Nat:=(aV (S.length+1)).map (PF m c S)
theorem BP(hm:m∈aF)(c:Nat)(S:List Nat)(k:Nat):cf (kB m c S) k=PF m c S k:=by
 by_cases h:k<S.length+1
 ·exact Gy _ h
 ·rw[fE (by unfold kB;rw[cQ,eB];omega)]
  exact(qA (rg hm) S k (by omega)).symm
theorem Sg(hm:m∈aF){c:Nat}(hc:c<ah m)(S:List Nat):AllLt (ah m) (kB m c S):=λa ha=>by
 obtain⟨k,_,rfl⟩:=dn.mp ha
 exact qy (rg hm) hc S k
theorem GK(hm:m∈aF){c x:Nat}(hc:c<ah m)(c0:c≠0)(hx:x<ah m):∀{S:List Nat},(∀s∈S,s<ah m)->(aP m x (kB m c S)=0↔x∈S)
 | [],_=>by
  show gp m (gm m 0 x) c=0↔_
  rw[fg m _ (bR m hm),fC hc]
  simp[c0]
 | s::S,h=>by
  have hs:=h s (by simp)
  have ih:=GK hm hc c0 hx (S:=S) λa ha=>h a (by simp[ha])
  have lS:=Sg hm hc S
  have hl:=qk hm x lS
  have ga:=qj hm (nO hm s) hx
  rw[cp5 hm (Q:=kB m c S) (nO hm s) hx lS λk=>by rw[BP hm,show cf (kB m c S)=_ from funext (BP hm c S)];rfl]
  rw[bG,<- ih,<- GJ hm hs hx]
  constructor
  ·intro e
   by_cases h1:aP m x (kB m c S)=0
   ·exact .inr h1
   ·by_cases h2:gp m (df m s) x=0
    ·exact .inl h2
    ·exact absurd e (cD4 hm (by omega) hl (by omega) ga)
  ·rintro (e | e)
   ·rw[e,jg m _ (bR m hm)]
   ·rw[e,fg m _ (bR m hm)]
theorem GL(hm:m∈aF){c x:Nat}(hc:c<ah m)(c0:c≠0)(hx:x<ah m){S L:List Nat}(hS:∀s∈S,s<ah m)(h:∀k,cf L k=PF m c S k):aP m x L=0↔x∈S:=by
 rw[Sf hm (l':=kB m c S) λk=>by rw[h k,BP hm]]
 exact GK hm hc c0 hx hS
theorem cg0{l:List Nat}{d:Nat}(h1:cf l d≠0)(h2:∀k,d<k->cf l k=0):(bw l).length=d+1:=by
 have e1:=gL l
 rcases Bt l with h | h
 ·refine absurd (e1 d ▸ h1) ?_
  rw[fE (by omega)];simp
 ·have a:¬ (bw l).length<=d:=λz=>h1 (by rw[<-e1 d];exact fE z)
  have b:¬ d+1<(bw l).length:=λz=>h (by
   have:=e1 ((bw l).length-1)
   rw[h2 _ (by omega)]at this
   exact this)
  omega
theorem Sh(hm:m∈aF)(n:Nat){a b:Nat}(ha:a<ah m)(hb:b<ah m):goN m n (gp m a b)=gp m (goN m n a) (goN m n b):=by
 obtain⟨k,p⟩:=m
 cases k with
 | true =>
  show(if n%2=1 then a ^^^ b else 0)=(if n%2=1 then a else 0) ^^^ (if n%2=1 then b else 0)
  split<;>simp
 | false =>
  show n*((a+b)%p)%p=(n*a%p+n*b%p)%p
  rw[Nat.mul_mod_mod,Nat.mul_add,<- Nat.add_mod]
theorem cy7(hm:m∈aF)(n a b:Nat):gm m (goN m n a) b=goN m n (gm m a b):=by
 obtain⟨k,p⟩:=m
 cases k with
 | true =>
  show gm (true,p) (if n%2=1 then a else 0) b=if n%2=1 then gm (true,p) a b else 0
  split
  ·rfl
  ·exact fg _ _ (bR _ hm)
 | false =>
  have e:∀x y,gm (false,p) x y=x*y%p:=λx y=>rfl
  rw[e,e]
  show n*a%p*b%p=n*(a*b%p)%p
  rw[Nat.mod_mul_mod,Nat.mul_mod_mod,oa]
theorem GN(n:Nat):goN m n 0=0:=by
 obtain⟨k,p⟩:=m
 cases k with
 | true=>show(if n%2=1 then 0 else 0)=0;simp
 | false=>show n*0%p=0;simp
theorem b47(a:Nat):goN m 0 a=0:=by
 obtain⟨k,p⟩:=m
 cases k with
 | true=>rfl
 | false=>show 0*a%p=0;simp
theorem bZ4(n:Nat){a:Nat}(ha:a<ah m):goN m (n+1) a=gp m (goN m n a) a:=by
 obtain⟨k,p⟩:=m
 cases k with
 | true =>
  show(if(n+1)%2=1 then a else 0)=(if n%2=1 then a else 0) ^^^ a
  rcases Nat.mod_two_eq_zero_or_one n with h | h
  ·rw[if_pos (by omega),if_neg (by omega)];simp
  ·rw[if_neg (by omega),if_pos h];simp
 | false =>
  show(n+1)*a%p=(n*a%p+a)%p
  rw[Nat.add_mul,Nat.one_mul,zy]
theorem GO(hm:m∈aF)(x:Nat):∀{l:List Nat},AllLt (ah m) l->∀n,l.length<=n->aP m x l=sm (gp m) n λk=>gm m (cf l k) (px m x k)
 | [],_,n,_=>(qp (rg hm) λj _=>by rw[show cf [] j=0 from rfl,fg m _ (bR m hm)]).symm
 | a::l,h,0,hn=>by simp at hn
 | a::l,h,n+1,hn=>by
  have hl:AllLt (ah m) l:=λb hb=>h b (by simp[hb])
  rw[bY4 (rg hm) n λ_ _=>dU hm _ _]
  show gp m (gm m (aP m x l) x) a=gp m (gm m a 1) (sm (gp m) n λj=>gm m (cf l j) (gm m (px m x j) x))
  rw[uu (h a (by simp)),gK,GO hm x hl n (by simpa using hn),jf m _ x,<- BC (rg hm)]
  congr 1
  exact iY λj _=>by rw[jf m x,kA (bR m hm)]
theorem cu1(a:List Nat)(k:Nat):cf (jF m a) k=goN m (k+1) (cf a (k+1)):=by
 by_cases h:k<a.length-1
 ·exact Gy _ h
 ·rw[fE (by rw[Gu];omega),fE (l:=a) (by omega),GN]
theorem b54(hm:m∈aF){x:Nat}(hx:x<ah m){L Q:List Nat}(hL:AllLt (ah m) L)(hQ:AllLt (ah m) Q)(h:∀k,cf L k=gO (gp m) (gm m) (df m x) (cf Q) k):aP m x (jF m L)=aP m x Q:=by
 have m0:=bR m hm
 have key:∀n,gp m (sm (gp m) n λk=>gm m (cf (jF m L) k) (px m x k)) (goN m n (gm m (cf Q n) (px m x n)))=sm (gp m) n λk=>gm m (cf Q k) (px m x k):=by
  intro n
  induction n with
  | zero=>show gp m 0 _=0;rw[b47,fC (rg hm).pos]
  | succ n ih =>
   show gp m (gp m (sm (gp m) n _) (gm m (cf (jF m L) n) (px m x n))) (goN m (n+1) (gm m (cf Q (n+1)) (gm m (px m x n) x)))=gp m (sm (gp m) n _) (gm m (cf Q n) (px m x n))
   rw[<-ih,iW,iW]
   congr 1
   have e1:gm m (cf (jF m L) n) (px m x n)=gp m (goN m (n+1) (gm m (gm m (cf Q (n+1)) (df m x)) (px m x n))) (goN m (n+1) (gm m (cf Q n) (px m x n))):=by
    rw[cu1,h,cy7 hm,<- Sh hm _ (dU hm _ _) (dU hm _ _)]
    congr 1
    show gm m (gp m _ _) _=_
    rw[yj m0]
   have e2:gp m (goN m (n+1) (gm m (gm m (cf Q (n+1)) (df m x)) (px m x n))) (goN m (n+1) (gm m (cf Q (n+1)) (gm m (px m x n) x)))=0:=by
    rw[<-Sh hm _ (dU hm _ _) (dU hm _ _)]
    have:gp m (gm m (gm m (cf Q (n+1)) (df m x)) (px m x n)) (gm m (cf Q (n+1)) (gm m (px m x n) x))=0:=by
     rw[kA m0,jf m (df m x),<- yk m0,<- yk m0,(GJ hm hx hx).mpr rfl,jg m _ m0,jg m _ m0]
    rw[this,GN]
   rw[e1,gK m (goN m (n+1) (gm m (gm m (cf Q (n+1)) (df m x)) (px m x n))),iW,e2,jD (Rw hm _ (dU hm _ _)),bZ4 n (dU hm _ _)]
 have k1:=key (max L.length Q.length)
 rw[fE (l:=Q) (Nat.le_max_right _ _),fg m _ m0,GN,<- GO hm x (Gv hm hL) _ (by rw[Gu];omega),<- GO hm x hQ _ (Nat.le_max_right _ _),jD (qk hm x (Gv hm hL))]at k1
 exact k1
end
theorem Si:∀{a b:List Nat},a.Pairwise (· < ·)->b.Pairwise (· < ·)->(∀x,x∈a↔x∈b)->a=b
 | [],[],_,_,_=>rfl
 | [],y::b,_,_,h=>absurd ((h y).mpr (by simp)) (by simp)
 | x::a,[],_,_,h=>absurd ((h x).mp (by simp)) (by simp)
 | x::a,y::b,pa,pb,h=>by
  have GP:=rk.mp pa
  have GQ:=rk.mp pb
  have e:x=y:=by
   have h1:=(h x).mp (by simp)
   have h2:=(h y).mpr (by simp)
   rw[bG]at h1 h2
   rcases h1 with h1 | h1
   ·exact h1
   ·rcases h2 with h2 | h2
    ·exact h2.symm
    ·have:=GP.1 y h2
     have:=GQ.1 x h1
     omega
  subst e
  rw[Si GP.2 GQ.2 λz=>?_]
  constructor
  ·intro hz
   have:=GP.1 z hz
   rcases bG.mp ((h z).mp (by simp[hz]))with e | e
   ·omega
   ·exact e
  ·intro hz
   have:=GQ.1 z hz
   rcases bG.mp ((h z).mpr (by simp[hz]))with e | e
   ·omega
   ·exact e
end L3
namespace L2
open PySem PySem.Spec PyProof.Rows
theorem b01:typeLookup (.type "list_reverseiterator") "__len__"=pure none:=by rw[typeLookup_type,builtinLookup_eq_fast];kernel_rfl
theorem bX9:typeLookup (.type "list_reverseiterator") "__length_hint__"=pure (some (.builtin "list_reverseiterator.__length_hint__")):=by rw[typeLookup_type,builtinLookup_eq_fast];kernel_rfl
section
variable{prog:Program}{w:World}{A:Around}{E:Value->Shared->Prop}{s:Shared}
theorem ck0{r:Addr}{Q:Bool->Shared->Prop}(hT:s.TypeIs (.ref r) "list_reverseiterator")(q:Q false s):wpAny (model prog w) A (DO (.ref r)) Q E s:=by
 unfold DO
 refine wpAny_bind (wpAny_specialOf hT b01 ?_)
 show wpAny _ _ (specialOf (dg r) (zH "__length_hint__") >>= _) _ _ _
 refine wpAny_bind (wpAny_specialOf hT bX9 ?_)
 generalize yv:("list_reverseiterator.__length_hint__":String)=GC
 wp_delta
 rw[show splitId GC=some ("list_reverseiterator","__length_hint__") from by subst yv;decide +kernel]
 subst yv
 refine wpAny_bind (wpAny_isInstance (T:="list_reverseiterator") (b:=true) hT (by rw[isSubtype_type];kernel_rfl) ?_)
 exact wpAny_pure q
theorem bJ0{R:Result->Shared->Prop}{I l S:Addr}{its:Array Value}(hh:A.handled=none)(hI:s.heap.IsRevIter I l ((its.size:Int)-1))(hl:s.heap.IsList l its)(nl:l≠I)(nS:S≠I)(nSl:S≠l)(res:Value)(c₀:Nat)(hS:s.heap.get? S=some { cls:=.type "list",data:=.seq #[] c₀ })(hn:its.size<=sizeLine)
  (hR:∀h' tk dj c',dj.toList=its.toList.reverse->(∀b o,b≠S->b≠I->s.heap.get? b=some o->h'.get? b=some o)->h'.get? S=some { cls:=.type "list",dict:=none,data:=.seq dj c',slots:=#[] }->R (.ok (.ret res)) { s with heap:=h',toks:=tk }) :
  wpAny (model prog w) A.in1 (wa (.ref S) (.ref I) res)
   (λfin s'=>match fin with | .done f=>R (.ok f) s' | .again c'=>c'.quiet=true/\codeAny (model prog w) A c' R s') (λe s'=>R (.error e) s') s:=by
 have W:=Walks.listRev (prog:=prog) (w:=w) (A:=A.in1) hh I l nl its
 have st:(0<=its.size/\s.heap.IsRevIter I l ((its.size:Int)-1-((0:Nat):Int))/\s.heap.IsList l its):=⟨gi _,by simpa using hI,hl⟩
 have hT:s.TypeIs (.ref I) "list_reverseiterator":=let⟨o,g,c,_⟩:=hI;⟨o,g,c⟩
 have nf:S ∉ [I,l]:=by simp[nS,nSl]
 have key:∀c₁,s.heap.get? S=some { cls:=.type "list",data:=.seq #[] c₁ }->codeAny (model prog w) A (.builtin "list.extend.loop" ⟨[.ref S,.ref I,res],[]⟩) R s:=λc₁ GF=>by
  refine codeAny_extend_loopS W.toS hn S nf res _ 0 _ #[] c₁ rfl (gi _) st GF (ItemsOf.nil _) λs' dj c' hm uD iG=>?_
  rw[Moved.eq_with hm]
  refine hR s'.heap s'.toks dj c' ?_ (λb o b1 b2 e=>hm.heap b o (by simp[b1,b2]) e) uD
  refine DD λi=>?_
  rw[q8]
  by_cases hi:i<its.size
  ·have h2:i<dj.size:=by rw[iG.1];exact hi
   have:=iG.2 i _ (mW h2)
   rw[mW h2,zC (by simpa using hi),gh,q8]
   exact this.symm
  ·rw[kN (by simp;omega)]
   exact DR (by rw[iG.1];omega)
 unfold wa
 refine wpAny_bind (wpAny_typeOf (T:="list_reverseiterator") hT ?_)
 have h1:DS (.ref S) (.ref I)=false:=by simp[DS,nS]
 simp only[h1,show(iZ "list_reverseiterator"==iZ "list")=false by decide,show(iZ "list_reverseiterator"==iZ "tuple")=false by decide,n5,mO,if_false]
 refine wpAny_bind (wpAny_pyIter_revIter hI ?_)
 refine wpAny_bind (wpAny_holding (ck0 hT ?_))
 refine wpAny_ite_split (λc=>absurd c (by decide)) (λ_=>wpAny_pure ⟨plainId_quiet PySem.F.plain_extend_loop _,key _ hS⟩)
theorem cg9{I l:Addr}{its:Array Value}{Q:Value->Shared->Prop}(hh:A.handled=none)(hI:s.heap.IsRevIter I l ((its.size:Int)-1))(hl:s.heap.IsList l its)(nl:l≠I)(hn:its.size<=sizeLine)
  (q:∀h' tk dj c',dj.toList=its.toList.reverse->(∀b o,b≠I->s.heap.get? b=some o->h'.get? b=some o)->h'.get? s.heap.objs.size=some { cls:=.type "list",dict:=none,data:=.seq dj c',slots:=#[] }->Q (.ref s.heap.objs.size) { s with heap:=h',toks:=tk }) :
  wpAny (model prog w) A (call (.type "list") [.ref I]) Q E s:=by
 have lI:I<s.heap.objs.size:=let⟨_,g,_⟩:=hI;aS g
 have ll:l<s.heap.objs.size:=let⟨_,g,_⟩:=hl;aS g
 refine callType_codes (Q₁:=λu s1=>u=.ref s.heap.objs.size/\s1={ s with heap:=s.heap.push { cls:=.type "list",data:=.seq #[] } }) F.called_list (F.typeCall_list_1 _) F.entry_list_init
  (code_list_new _ ⟨rfl,rfl⟩) λu s1 e1=>?_
 obtain⟨rfl,rfl⟩:=e1
 have g0:(s.heap.push { cls:=.type "list",data:=.seq #[] }).get? s.heap.objs.size=some { cls:=.type "list",data:=.seq #[] }:=cS _ rfl
 refine⟨⟨_,g0,rfl⟩,F.args_list_init_2 _ _,?_⟩
 show wpAny _ A.in1.in1 (do let old<-Builtin.List.listItems (.ref s.heap.objs.size);Builtin.List.listUpdate (.ref s.heap.objs.size) (λ_=>#[]);letGo old.toList.reverse;wa (.ref s.heap.objs.size) (.ref I) .none) _ _ _
 refine wpAny_bind ?_
 unfold Builtin.List.listItems
 refine wpAny_bind (wpAny_seqItems g0 rfl (wpAny_pure ?_))
 show wpAny _ A.in1.in1 (updateSeq s.heap.objs.size (λ_=>#[]) >>= λ_=>letGo (#[]:Array Value).toList.reverse >>= λ_=>wa (.ref s.heap.objs.size) (.ref I) .none) _ _ _
 refine wpAny_bind (wpAny_updateSeq g0 rfl ?_)
 have g1:=qX (jR (λ_=>(#[]:Array Value))) g0 rfl
 have ot:∀b o,s.heap.get? b=some o->((s.heap.push { cls:=.type "list",data:=.seq #[] }).update s.heap.objs.size (jR (λ_=>(#[]:Array Value)))).get? b=some o:=λb o e=>(jS _ _ (qT (aS e))).trans (bK _ e)
 refine wpAny_bind (wpAny_letGo ?_)
 refine bJ0 (A:=A.in1) (l:=l) hh (hI.at λo e=>ot _ _ e) (hl.at λo e=>ot _ _ e) nl (qT lI) (qT ll) .none _ g1 hn λh' tk dj c' h1 h2 h3=>?_
 exact⟨rfl,q h' tk dj c' h1 (λb o b1 e=>h2 b o (cy (aS e)) b1 (ot b o e)) h3⟩
end
theorem b53:∀{xs:List V} {us:List Value},Vals xs us->Vals xs.reverse us.reverse:=by
 have app:∀{a b:List V} {c d:List Value},Vals a c->Vals b d->Vals (a++b) (c++d):=by
  intro a b c d h h'
  induction h with
  | nil=>exact h'
  | cons r _ ih=>exact .cons r ih
 intro xs us h
 induction h with
 | nil=>exact .nil
 | cons r _ ih =>
  rw[Dk,Dk]
  exact app ih (.cons r .nil)
section
variable{X:Cx}{e:Expr}{ta:TA}{p p2 pos cW:Pos}
noncomputable def tRL(K:PySem.W.Frag)(ta:TA):TE:=λσ H Q=>ta σ H λvs H1=>∃a xs,vs=[.ref a]/\bc K H1 a xs/\∀l,H1 l=none->Q (.ref l) (upd H1 l (.lst xs.reverse))
theorem bG0(hc:X.calm=true)(hg:Gl X "list")(hm:X.mg "list"=none)(iS:Gl X "reversed")(fe:X.mg "reversed"=none)(ha:PA X [e] ta)
  (hs:starEach [.Call (.Name "reversed" p2) [e] [] cW] X.env=(false,eval (.Call (.Name "reversed" p2) [e] [] cW) X.env)::starEach [] X.env:=by rfl) (aW:(backTo pos (starEach [] X.env)).any (·.1)=false:=by rfl)
  (cK:starEach [e] X.env=(false,eval e X.env)::starEach [] X.env:=by rfl) (qu:(backTo cW (starEach [] X.env)).any (·.1)=false:=by rfl) (qv:starEach [] X.env=[]:=by rfl) :
  PE X (.Call (.Name "list" p) [.Call (.Name "reversed" p2) [e] [] cW] [] pos) (tRL X.K ta):=by
 intro pins s σ H Q I h
 refine wpAny_Call_Name_kw (iw I hg hm oV ?_ (by decide) (by decide))
 refine jO ?_ hs aW
 rw[hs]
 show wpAny _ _ (spliced ((false,eval (.Call (.Name "reversed" p2) [e] [] cW) X.env)::backTo pos (starEach [] X.env))) _ _ s
 refine Dg ?_
 refine wpAny_Call_Name_kw (iw I iS fe Rc ?_ (by decide) (by decide))
 refine jO (aE (ha cW pins s σ H _ I h) λus s1 ⟨vs,H1,I1,r1,q1⟩=>?_) cK qu
 obtain⟨a,xs,rfl,hx,q⟩:=q1
 obtain⟨u,rfl,ru⟩:=r1.one
 cases ru
 obtain⟨as,ra,pa,hz⟩:=I1.list hx
 have hl:=ra.length
 have al:a<s1.heap.objs.size:=let⟨_,g,_⟩:=pa.isList;aS g
 refine call_reversed_list pa.isList ?_
 rw[qv]
 refine Df ?_
 have I2:Inv X pins σ H1 { s1 with heap:=s1.heap.push (revObj a ((as.toArray.size:Int)-1)) }:=I1.kept (t':=s1.toks) λb o e=>bK _ e
 have hit:(s1.heap.push (revObj a ((as.toArray.size:Int)-1))).IsRevIter s1.heap.objs.size a ((as.toArray.size:Int)-1):=⟨_,cS _ rfl,rfl,rfl⟩
 refine cg9 (I2.ok.hd hc) hit (pa.isList.push _) (cy al) (by simp;omega) λh' tk dj c' h1 h2 h3=>?_
 have k1:∀b o,s1.heap.get? b=some o->h'.get? b=some o:=λb o e=>h2 b o (cy (aS e)) (bK _ e)
 have rv:Vals xs.reverse dj.toList:=by rw[h1];exact b53 ra
 have I3:=I1.laid (t':=tk) (h':=h') (a:=(s1.heap.push (revObj a ((as.toArray.size:Int)-1))).objs.size) k1 (by rw[kH];omega) (show cM X.prog X.w _ h' _ (.lst xs.reverse) from⟨by rw[kQ];exact hz,dj.toList,c',rv,by simpa using h3⟩)
 exact⟨.ref _,_,I3,rfl,q _ (I1.av.fresh (by rw[kH];omega))⟩
end
end L2
namespace L3
open PySem L2 PySem.Spec PyProof.Rows
section
variable{X:Cx}{e:Expr}{tr:bX}{p p2 pos cW:Pos}
noncomputable def qB:jc:=λds Q=>match ds with
 | [.lst _ xs]=>∃ns,xs=nums ns/\Q (.lst true (nums ns.reverse))
 | _=>False
theorem bK8(hc:X.calm=true)(hg:Gl X "list")(hm:X.mg "list"=none)(iS:Gl X "reversed")(fe:X.mg "reversed"=none)(ha:PA X [e] (lA tr))
  (hs:starEach [.Call (.Name "reversed" p2) [e] [] cW] X.env=(false,eval (.Call (.Name "reversed" p2) [e] [] cW) X.env)::starEach [] X.env:=by rfl) (aW:(backTo pos (starEach [] X.env)).any (·.1)=false:=by rfl)
  (cK:starEach [e] X.env=(false,eval e X.env)::starEach [] X.env:=by rfl) (qu:(backTo cW (starEach [] X.env)).any (·.1)=false:=by rfl) (qv:starEach [] X.env=[]:=by rfl) :
  PE X (.Call (.Name "list" p) [.Call (.Name "reversed" p2) [e] [] cW] [] pos) (lE (ki qB tr)) :=
 cJ (bG0 hc hg hm iS fe ha hs aW cK qu qv) λσ H Q ⟨B,F,δ,ts,Qd,c,q,k⟩=>⟨B,F,δ,ts,_,c,q,λds ai vs F1 H1 q1 f1 h1 c1 s1=>by
  unfold qB at q1
  split at q1
  ·obtain⟨v,rfl,s2⟩:=kj s1
   obtain⟨ns,rfl,q1⟩:=q1
   obtain⟨p,ws,rfl,h,t⟩:=jA s2 c1.ext rfl
   rw[AW t]at h
   refine⟨p,_,rfl,iR h,λl hl=>?_⟩
   rw[<-MZ]
   exact k _ _ _ _ _ q1 f1 (h1.trans (aa.upd hl)) (c1.jw hl (yt _ _ _).s (yt F1 H1 _).pl)
  ·exact q1.elim⟩
end
end L3
namespace HK12
open PySem.W (Frag codeHdIn kitOne nsIn fnOf codeIn keepIn findIn isFn specialIn takesIn mroIn clsIn typeIn subIn mg_of mg_none_of CodeHd)
open PySem L2 L3 Mf
seal L2.PSs L2.PS L2.PE L2.PT L2.PA L2.PI L2.PG L2.PO L2.PW
local macro_rules | `(tactic| walk_at "l3") => do
  let l ← (("r9 pz se sg dT lU ny nB dC o8 pk pj ph rZ r6 ki tE pQ tH tI rS rT rV rW rX rY o9 tf pM pO pI sI pJ sM sO sP sR sS sT iI fy sV sW sX sY xh s8 s9 gN tJ tw si sA sC sD sF tK sG tL tM pG jy fc iP ig vW qY zI zJ pq jx iN pP tS tV tW tU tX tY t7 pZ xR ua p8 t8 je xU xS xT dk kJ vZ q9 eJ zK aQ wb wc we wg rm exists_eq_left' exists_eq_left D.bl.injEq D.int.injEq D.lst.injEq D.fz.injEq D.str.injEq D.tup.injEq zL and_true true_and dX rh mT og xk xm xn xo xp xq i9 ju pV xw xx xy xA xB fQ lQ tN xt xu xv ib nu zM zN vR wj zO zP n5 xH xI xJ xK xM xN xO km pW pX iT pY xD tR xC xE tP xF xG iU tQ if_true mO if_false reduceIte xP decide_eq_true_eq tO dw kr ue uf ku xW sq uj qi t9 qe qg um uv uz qw uE uF qB uA sL cB4 cB9 cl3 cg2 Bw qo".splitOn " ").toArray.map fun (s : String) => Lean.mkIdent s.toName).mapM fun i => `(Lean.Parser.Tactic.simpLemma| $i:term)
  `(tactic| simp only [$l,*])
noncomputable def top (i:Nat):Stmt:=PySem.Challenge.pw_mendfield_k12_roots_peeled.main.body.getD i (.Pass ⟨0,0,0,0⟩)
noncomputable abbrev uG:Stmt:=top 34
theorem GR:bq ["_law_cell_here","_law_some","_law_primes"] ["_law_cell_here"] (az uG):=⟨rfl,rfl,rfl,by decide +kernel,rfl,by decide +kernel,by decide +kernel⟩
noncomputable abbrev uH:Stmt:=top 22
theorem BQ:bq ["a","product","found","power"] ["a","product"] (az uH):=⟨rfl,rfl,rfl,by decide +kernel,rfl,by decide +kernel,by decide +kernel⟩
noncomputable abbrev uI:Stmt:=top 23
theorem yz:bq ["many","product","step","found"] ["many","product"] (az uI):=⟨rfl,rfl,rfl,by decide +kernel,rfl,by decide +kernel,by decide +kernel⟩
noncomputable abbrev uJ:Stmt:=top 24
theorem GS:bq ["powers","logs","n","a"] ["powers"] (az uJ):=⟨rfl,rfl,rfl,by decide +kernel,rfl,by decide +kernel,by decide +kernel⟩
noncomputable abbrev uK:Stmt:=gz (top 28) 8
theorem aA8:bq ["self","n"] ["self","n"] (az uK):=⟨rfl,rfl,rfl,by decide +kernel,rfl,by decide +kernel,by decide +kernel⟩
noncomputable abbrev uL:Stmt:=gz (top 28) 0
theorem aJ9:bq ["self","many","product"] ["self","many","product"] (az uL):=⟨rfl,rfl,rfl,by decide +kernel,rfl,by decide +kernel,by decide +kernel⟩
noncomputable abbrev uM:Stmt:=top 27
theorem az4:bq ["prime"] ["prime"] (az uM):=⟨rfl,rfl,rfl,by decide +kernel,rfl,by decide +kernel,by decide +kernel⟩
noncomputable abbrev mD:Stmt:=gz (top 30) 0
theorem aB9:bq ["self","prime"] ["self","prime"] (az mD):=⟨rfl,rfl,rfl,by decide +kernel,rfl,by decide +kernel,by decide +kernel⟩
noncomputable abbrev uN:Stmt:=top 25
theorem BR:bq ["powers","logs","many","rows","a"] ["powers","logs"] (az uN):=⟨rfl,rfl,rfl,by decide +kernel,rfl,by decide +kernel,by decide +kernel⟩
noncomputable abbrev uO:Stmt:=top 19
theorem uP:bq ["a","b","quotient","rest","shift"] ["a","b"] (az uO):=⟨rfl,rfl,rfl,by decide +kernel,rfl,by decide +kernel,by decide +kernel⟩
noncomputable abbrev uQ:Stmt:=top 20
theorem GU:bq ["a","half","b"] ["a"] (az uQ):=⟨rfl,rfl,rfl,by decide +kernel,rfl,by decide +kernel,by decide +kernel⟩
noncomputable abbrev uR:Stmt:=top 26
theorem aC0:bq ["bits"] ["bits"] (az uR):=⟨rfl,rfl,rfl,by decide +kernel,rfl,by decide +kernel,by decide +kernel⟩
noncomputable abbrev uS:Stmt:=top 18
theorem BS:bq ["a","b","product","k"] ["a","b"] (az uS):=⟨rfl,rfl,rfl,by decide +kernel,rfl,by decide +kernel,by decide +kernel⟩
noncomputable abbrev mE:Stmt:=gz (top 29) 0
theorem Sj:bq ["self","bits","many"] ["self","bits"] (az mE):=⟨rfl,rfl,rfl,by decide +kernel,rfl,by decide +kernel,by decide +kernel⟩
noncomputable abbrev uT:Stmt:=top 36
theorem aK0:bq ["_law_told_here"] ["_law_told_here"] (az uT):=⟨rfl,rfl,rfl,by decide +kernel,rfl,by decide +kernel,by decide +kernel⟩
noncomputable abbrev uU:Stmt:=top 35
theorem aM0:bq ["_law_told_here"] ["_law_told_here"] (az uU):=⟨rfl,rfl,rfl,by decide +kernel,rfl,by decide +kernel,by decide +kernel⟩
noncomputable abbrev uV:Stmt:=top 7
theorem GV:bq ["a","length"] ["a"] (az uV):=⟨rfl,rfl,rfl,by decide +kernel,rfl,by decide +kernel,by decide +kernel⟩
noncomputable abbrev uW:Stmt:=gz (top 29) 1
theorem aG5:bq ["self","a","b"] ["self","a","b"] (az uW):=⟨rfl,rfl,rfl,by decide +kernel,rfl,by decide +kernel,by decide +kernel⟩
noncomputable abbrev uX:Stmt:=gz (top 30) 1
theorem aC1:bq ["self","a","b"] ["self","a","b"] (az uX):=⟨rfl,rfl,rfl,by decide +kernel,rfl,by decide +kernel,by decide +kernel⟩
noncomputable abbrev uY:Stmt:=gz (top 29) 3
theorem aF1:bq ["self","a","b"] ["self","a","b"] (az uY):=⟨rfl,rfl,rfl,by decide +kernel,rfl,by decide +kernel,by decide +kernel⟩
noncomputable abbrev uZ:Stmt:=gz (top 30) 3
theorem aA9:bq ["self","a","b"] ["self","a","b"] (az uZ):=⟨rfl,rfl,rfl,by decide +kernel,rfl,by decide +kernel,by decide +kernel⟩
noncomputable abbrev u3:Stmt:=top 8
theorem BU:bq ["field","a","b","total","i","x","j","y"] ["field","a","b"] (az u3):=⟨rfl,rfl,rfl,by decide +kernel,rfl,by decide +kernel,by decide +kernel⟩
noncomputable abbrev u4:Stmt:=gz (top 29) 2
theorem aF2:bq ["self","a","b"] ["self","a","b"] (az u4):=⟨rfl,rfl,rfl,by decide +kernel,rfl,by decide +kernel,by decide +kernel⟩
noncomputable abbrev u5:Stmt:=gz (top 30) 2
theorem aB0:bq ["self","a","b"] ["self","a","b"] (az u5):=⟨rfl,rfl,rfl,by decide +kernel,rfl,by decide +kernel,by decide +kernel⟩
noncomputable abbrev u6:Stmt:=top 13
theorem aM1:bq ["field","r"] ["field","r"] (az u6):=⟨rfl,rfl,rfl,by decide +kernel,rfl,by decide +kernel,by decide +kernel⟩
noncomputable abbrev u7:Stmt:=top 14
theorem BV:bq ["field","some","found","r"] ["field","some"] (az u7):=⟨rfl,rfl,rfl,by decide +kernel,rfl,by decide +kernel,by decide +kernel⟩
noncomputable abbrev u9:Stmt:=top 10
theorem BW:bq ["field","a","x","value","number"] ["field","a","x"] (az u9):=⟨rfl,rfl,rfl,by decide +kernel,rfl,by decide +kernel,by decide +kernel⟩
noncomputable abbrev va:Stmt:=top 15
theorem aO0:bq ["field","a"] ["field","a"] (az va):=⟨rfl,rfl,rfl,by decide +kernel,rfl,by decide +kernel,by decide +kernel⟩
noncomputable abbrev vb:Stmt:=gz (top 28) 5
theorem aK1:bq ["self","a","b"] ["self","a","b"] (az vb):=⟨rfl,rfl,rfl,by decide +kernel,rfl,by decide +kernel,by decide +kernel⟩
noncomputable abbrev vd:Stmt:=gz (top 29) 7
theorem Sk:bq ["self","row","a","other","by_a"] ["self","row","a","other"] (az vd):=⟨rfl,rfl,rfl,by decide +kernel,rfl,by decide +kernel,by decide +kernel⟩
noncomputable abbrev ve:Stmt:=gz (top 30) 7
theorem Sl:bq ["self","row","a","other","prime"] ["self","row","a","other"] (az ve):=⟨rfl,rfl,rfl,by decide +kernel,rfl,by decide +kernel,by decide +kernel⟩
noncomputable abbrev vf:Stmt:=top 9
theorem qC:bq ["field","a","b","divisor","rest","quotient","k","factor"] ["field","a","b"] (az vf):=⟨rfl,rfl,rfl,by decide +kernel,rfl,by decide +kernel,by decide +kernel⟩
noncomputable abbrev vg:Stmt:=top 16
theorem yA:bq ["field","a","x","left","times"] ["field","a","x"] (az vg):=⟨rfl,rfl,rfl,by decide +kernel,rfl,by decide +kernel,by decide +kernel⟩
noncomputable abbrev vh:Stmt:=top 32
theorem aM2:bq ["_law_script","_law_k"] ["_law_script","_law_k"] (az vh):=⟨rfl,rfl,rfl,by decide +kernel,rfl,by decide +kernel,by decide +kernel⟩
noncomputable abbrev vi:Stmt:=top 37
theorem aM3:bq ["_law_told_here","_law_a","_law_b"] ["_law_told_here","_law_a","_law_b"] (az vi):=⟨rfl,rfl,rfl,by decide +kernel,rfl,by decide +kernel,by decide +kernel⟩
noncomputable abbrev vj:Stmt:=top 39
theorem vk:bq ["_law_told_here","_law_a","_law_b","_law_total"] ["_law_told_here","_law_a","_law_b"] (az vj):=⟨rfl,rfl,rfl,by decide +kernel,rfl,by decide +kernel,by decide +kernel⟩
noncomputable abbrev vm:Stmt:=top 41
theorem nQ:bq ["_law_told_here","_law_a","_law_roots","_law_rest","_law_r","_law_carry","_law_behind","_law_y"] ["_law_told_here","_law_a","_law_roots"] (az vm):=⟨rfl,rfl,rfl,by decide +kernel,rfl,by decide +kernel,by decide +kernel⟩
noncomputable abbrev vn:Stmt:=top 43
theorem yB:bq ["_law_field_here","_law_many_here","_law_size","_law_x","_law_nought_here","_law_error","e"] ["_law_field_here","_law_many_here","_law_size","_law_x"] (az vn):=⟨rfl,rfl,rfl,by decide +kernel,rfl,by decide +kernel,by decide +kernel⟩
noncomputable abbrev vo:Stmt:=top 33
theorem aK2:bq ["_law_x"] ["_law_x"] (az vo):=⟨rfl,rfl,rfl,by decide +kernel,rfl,by decide +kernel,by decide +kernel⟩
noncomputable abbrev vp:Stmt:=top 40
theorem aK3:bq ["_law_found","_law_many_here"] ["_law_found","_law_many_here"] (az vp):=⟨rfl,rfl,rfl,by decide +kernel,rfl,by decide +kernel,by decide +kernel⟩
noncomputable abbrev vq:Stmt:=gz (top 29) 4
theorem aF3:bq ["self","n","a"] ["self","n","a"] (az vq):=⟨rfl,rfl,rfl,by decide +kernel,rfl,by decide +kernel,by decide +kernel⟩
noncomputable abbrev vt:Stmt:=gz (top 30) 4
theorem aB1:bq ["self","n","a"] ["self","n","a"] (az vt):=⟨rfl,rfl,rfl,by decide +kernel,rfl,by decide +kernel,by decide +kernel⟩
noncomputable abbrev vv:Stmt:=top 11
theorem bX4:bq ["field","a"] ["field","a"] (az vv):=⟨rfl,rfl,rfl,by decide +kernel,rfl,by decide +kernel,by decide +kernel⟩
noncomputable abbrev vw:Stmt:=top 42
theorem BX:bq ["_law_told_here","_law_a","_law_x","_law_total","_law_y"] ["_law_told_here","_law_a","_law_x"] (az vw):=⟨rfl,rfl,rfl,by decide +kernel,rfl,by decide +kernel,by decide +kernel⟩
noncomputable abbrev mF:Stmt:=top 44
theorem fk:bq ["_law_script","_law_told_here","_law_field_here","_law_many_here","_law_room","_law_roots","_law_handed","_law_found","_law_way","_law_factor","_law_x","_law_a","_law_given","_law_told_roots","_law_often","_law_some","_law_twice"] ["_law_script"] (az mF):=⟨rfl,rfl,rfl,by decide +kernel,rfl,by decide +kernel,by decide +kernel⟩
set_option genInjectivity false in
set_option genSizeOf false in
structure j4 where
 GW:Addr
 GX:FuncData
 GY:Addr
 GZ:FuncData
 G0:Addr
 G1:FuncData
 G2:Addr
 G3:FuncData
 yC:Addr
 G4:FuncData
 G5:Addr
 G6:FuncData
 G7:Addr
 G8:FuncData
 G9:Addr
 BY:FuncData
 Ha:Addr
 Hb:FuncData
 Hc:Addr
 Hd:FuncData
 He:Addr
 Hf:FuncData
 Hg:Addr
 Hh:FuncData
 Hi:Addr
 Hj:FuncData
 Hk:Addr
 BZ:FuncData
 Hl:Addr
 Hm:FuncData
 Ho:Addr
 Hq:FuncData
 Hr:Addr
 Hs:FuncData
 Ht:Addr
 Hu:FuncData
 Hv:Addr
 Hw:FuncData
 Hx:Addr
 Hy:FuncData
 Hz:Addr
 HA:FuncData
 HB:Addr
 HC:FuncData
 HD:Addr
 HE:FuncData
 HF:Addr
 HG:FuncData
 HH:Addr
 HI:FuncData
 HJ:Addr
 HK:FuncData
 HL:Addr
 HM:FuncData
 HN:Addr
 HP:FuncData
 B0:Addr
 HQ:FuncData
 HR:Addr
 HS:FuncData
 HU:Addr
 HV:FuncData
 HW:Addr
 HX:FuncData
 HY:Addr
 HZ:FuncData
 Ia:Addr
 Ib:FuncData
 Ic:Addr
 Ie:FuncData
 Ig:Addr
 Ih:FuncData
 Ii:Addr
 Ij:FuncData
 Ik:Addr
 Il:FuncData
 Im:Addr
 Io:FuncData
 Ip:Addr
 Iq:FuncData
 Ir:Addr
 Iu:FuncData
 Iw:Addr
 Iy:FuncData
 Iz:Addr
 IA:FuncData
 IB:Addr
 IC:FuncData
 ID:Addr
 IE:FuncData
 Sm:Addr
 jK:Addr
 Sn:Addr
 jL:Addr
 aJ:Addr
 cX:Addr
 jM:Addr
 mG:Addr
 jN:Addr
 aM:Addr
structure Txt(K:Frag)(mg:Str->Option Value)(t:j4):Prop where
 Sq:bh K "_law_told" "_law_told" uG t.GW t.GX
 aO1:mg "_law_told"=some (.ref t.GW)
 aO2:Binds K t.GX ["_law_cell_here"] []
 IF:bh K "powers_of" "powers_of" uH t.GY t.GZ
 Sr:mg "powers_of"=some (.ref t.GY)
 Ss:Binds K t.GZ ["a","product"] []
 Su:bh K "step_powers" "step_powers" uI t.G0 t.G1
 di5:mg "step_powers"=some (.ref t.G0)
 di6:Binds K t.G1 ["many","product"] []
 Sv:bh K "logs_of" "logs_of" uJ t.G2 t.G3
 di7:mg "logs_of"=some (.ref t.G2)
 di8:Binds K t.G3 ["powers"] []
 aC2:bh K "step_power" "Field.step_power" uK t.yC t.G4
 IG:Binds K t.G4 ["self","n"] []
 aM4:bh K "__init__" "Field.__init__" uL t.G5 t.G6
 Sw:Binds K t.G6 ["self","many","product"] []
 Sx:bh K "makes_prime_field" "makes_prime_field" uM t.G7 t.G8
 dj1:mg "makes_prime_field"=some (.ref t.G7)
 dj2:Binds K t.G8 ["prime"] []
 aF4:bh K "__init__" "PrimeField.__init__" mD t.G9 t.BY
 aF5:Binds K t.BY ["self","prime"] []
 Sy:bh K "product_rows" "product_rows" uN t.Ha t.Hb
 dj5:mg "product_rows"=some (.ref t.Ha)
 dj6:Binds K t.Hb ["powers","logs"] []
 IH:bh K "bits_divided" "bits_divided" uO t.Hc t.Hd
 Sz:mg "bits_divided"=some (.ref t.Hc)
 SA:Binds K t.Hd ["a","b"] []
 SD:bh K "stands_alone" "stands_alone" uQ t.He t.Hf
 dj7:mg "stands_alone"=some (.ref t.He)
 dj8:Binds K t.Hf ["a"] []
 SE:bh K "makes_bit_field" "makes_bit_field" uR t.Hg t.Hh
 dj9:mg "makes_bit_field"=some (.ref t.Hg)
 dk0:Binds K t.Hh ["bits"] []
 SF:bh K "bits_times" "bits_times" uS t.Hi t.Hj
 dk1:mg "bits_times"=some (.ref t.Hi)
 dk2:Binds K t.Hj ["a","b"] []
 aI0:bh K "__init__" "BitField.__init__" mE t.Hk t.BZ
 aI1:Binds K t.BZ ["self","bits"] []
 SG:bh K "_law_field" "_law_field" uT t.Hl t.Hm
 aM5:mg "_law_field"=some (.ref t.Hl)
 aM6:Binds K t.Hm ["_law_told_here"] []
 SH:bh K "_law_many" "_law_many" uU t.Ho t.Hq
 aO3:mg "_law_many"=some (.ref t.Ho)
 aO4:Binds K t.Hq ["_law_told_here"] []
 qD:bh K "trimmed" "trimmed" uV t.Hr t.Hs
 vx:mg "trimmed"=some (.ref t.Hr)
 vy:Binds K t.Hs ["a"] []
 aI2:bh K "plus" "BitField.plus" uW t.Ht t.Hu
 aI3:Binds K t.Hu ["self","a","b"] []
 aF6:bh K "plus" "PrimeField.plus" uX t.Hv t.Hw
 aF7:Binds K t.Hw ["self","a","b"] []
 aG6:bh K "times" "BitField.times" uY t.Hx t.Hy
 aG7:Binds K t.Hy ["self","a","b"] []
 aC5:bh K "times" "PrimeField.times" uZ t.Hz t.HA
 aC6:Binds K t.HA ["self","a","b"] []
 SI:bh K "poly_times" "poly_times" u3 t.HB t.HC
 dl7:mg "poly_times"=some (.ref t.HB)
 dl8:Binds K t.HC ["field","a","b"] []
 aG8:bh K "minus" "BitField.minus" u4 t.HD t.HE
 aG9:Binds K t.HE ["self","a","b"] []
 aC7:bh K "minus" "PrimeField.minus" u5 t.HF t.HG
 aC8:Binds K t.HG ["self","a","b"] []
 II:bh K "less_root" "less_root" u6 t.HH t.HI
 SJ:mg "less_root"=some (.ref t.HH)
 SK:Binds K t.HI ["field","r"] []
 SM:bh K "by_roots" "by_roots" u7 t.HJ t.HK
 dm3:mg "by_roots"=some (.ref t.HJ)
 dm4:Binds K t.HK ["field","some"] []
 yD:bh K "value_at" "value_at" u9 t.HL t.HM
 B3:mg "value_at"=some (.ref t.HL)
 B4:Binds K t.HM ["field","a","x"] []
 B5:bh K "roots_of" "roots_of" va t.HN t.HP
 IJ:mg "roots_of"=some (.ref t.HN)
 IK:Binds K t.HP ["field","a"] []
 aM7:bh K "over" "Field.over" vb t.B0 t.HQ
 SN:Binds K t.HQ ["self","a","b"] []
 aB2:bh K "lessened" "BitField.lessened" vd t.HR t.HS
 aB3:Binds K t.HS ["self","row","a","other"] []
 az1:bh K "lessened" "PrimeField.lessened" ve t.HU t.HV
 az2:Binds K t.HV ["self","row","a","other"] []
 SO:bh K "poly_divided" "poly_divided" vf t.HW t.HX
 dn0:mg "poly_divided"=some (.ref t.HW)
 dn1:Binds K t.HX ["field","a","b"] []
 IL:bh K "how_often" "how_often" vg t.HY t.HZ
 SQ:mg "how_often"=some (.ref t.HY)
 SR:Binds K t.HZ ["field","a","x"] []
 nR:bh K "_law_cell" "_law_cell" vh t.Ia t.Ib
 qE:mg "_law_cell"=some (.ref t.Ia)
 qF:Binds K t.Ib ["_law_script","_law_k"] []
 IM:bh K "_law_plus" "_law_plus" vi t.Ic t.Ie
 SS:mg "_law_plus"=some (.ref t.Ic)
 SU:Binds K t.Ie ["_law_told_here","_law_a","_law_b"] []
 B6:bh K "_law_times" "_law_times" vj t.Ig t.Ih
 IQ:mg "_law_times"=some (.ref t.Ig)
 IS:Binds K t.Ih ["_law_told_here","_law_a","_law_b"] []
 SV:bh K "_law_peeled" "_law_peeled" vm t.Ii t.Ij
 aK4:mg "_law_peeled"=some (.ref t.Ii)
 aK5:Binds K t.Ij ["_law_told_here","_law_a","_law_roots"] []
 SW:bh K "_law_nought" "_law_nought" vn t.Ik t.Il
 aK6:mg "_law_nought"=some (.ref t.Ik)
 aK7:Binds K t.Il ["_law_field_here","_law_many_here","_law_size","_law_x"] []
 IT:bh K "_law_whole" "_law_whole" vo t.Im t.Io
 SX:mg "_law_whole"=some (.ref t.Im)
 SY:Binds K t.Io ["_law_x"] []
 IU:bh K "_law_signs" "_law_signs" vp t.Ip t.Iq
 S0:mg "_law_signs"=some (.ref t.Ip)
 S3:Binds K t.Iq ["_law_found","_law_many_here"] []
 aH0:bh K "often" "BitField.often" vq t.Ir t.Iu
 aH1:Binds K t.Iu ["self","n","a"] []
 aD4:bh K "often" "PrimeField.often" vt t.Iw t.Iy
 aD5:Binds K t.Iy ["self","n","a"] []
 S4:bh K "slope" "slope" vv t.Iz t.IA
 do0:mg "slope"=some (.ref t.Iz)
 do1:Binds K t.IA ["field","a"] []
 S5:bh K "_law_value" "_law_value" vw t.IB t.IC
 aM8:mg "_law_value"=some (.ref t.IB)
 aM9:Binds K t.IC ["_law_told_here","_law_a","_law_x"] []
 do4:bh K "law" "law" mF t.ID t.IE
 eg3:mg "law"=some (.ref t.ID)
 eg4:Binds K t.IE ["_law_script"] []
 aD7:t.BY.code=.ref t.Sm
 aD8:codeHdIn K t.Sm t.jK=true
 aH2:t.BZ.code=.ref t.Sn
 aH3:codeHdIn K t.Sn t.jL=true
 fm:dq K t.aJ
 yE:Mk K t.aJ t.Hk
 aP4:Q8 K t.aJ
 yF:cj K t.aJ "bits"
 nU:cj K t.aJ "logs"
 qG:cj K t.aJ "many"
 qH:cj K t.aJ "powers"
 B7:cj K t.aJ "prime"
 qI:cj K t.aJ "products"
 yG:cj K t.aJ "step"
 yH:cj K t.aJ "wide"
 yI:Meth K t.aJ "lessened" t.HR
 yJ:Meth K t.aJ "minus" t.HD
 yK:Meth K t.aJ "often" t.Ir
 yL:Meth K t.aJ "over" t.B0
 yM:Meth K t.aJ "plus" t.Ht
 vz:Meth K t.aJ "step_power" t.yC
 yN:Meth K t.aJ "times" t.Hx
 fo:dq K t.aM
 yO:Mk K t.aM t.G9
 aP3:Q8 K t.aM
 B8:cj K t.aM "bits"
 qJ:cj K t.aM "logs"
 qK:cj K t.aM "many"
 vA:cj K t.aM "powers"
 kC:cj K t.aM "prime"
 B9:cj K t.aM "products"
 yP:cj K t.aM "step"
 yQ:cj K t.aM "wide"
 yR:Meth K t.aM "lessened" t.HU
 yS:Meth K t.aM "minus" t.HF
 yT:Meth K t.aM "often" t.Iw
 yU:Meth K t.aM "over" t.B0
 yV:Meth K t.aM "plus" t.Hv
 vB:Meth K t.aM "step_power" t.yC
 yW:Meth K t.aM "times" t.Hz
 S6:Bc K t.jM "__init__" t.G5
 S7:mg "all"=none
 do9:mg "bool"=none
 IV:mg "enumerate"=none
 dp0:mg "int"=none
 yX:mg "isinstance"=none
 gP:mg "len"=none
 qL:mg "list"=none
 jj:mg "range"=none
 Ca:mg "reversed"=none
 dp1:mg "set"=none
 dp2:mg "sorted"=none
 S8:mg "zip"=none
 yY:mg "BitField"=some (.ref t.aJ)
 vC:mg "ByNought"=some (.ref t.cX)
 vD:mg "Field"=some (.ref t.jM)
 yZ:mg "MendError"=some (.ref t.mG)
 y0:mg "NoPoints"=some (.ref t.jN)
 y6:mg "PrimeField"=some (.ref t.aM)
 Cb:FA K mg "ByNought" t.cX
 S9:wW K t.cX
 aB4:kitOne K (.ref t.cX) (.ref t.cX)=some true
 aB5:kitOne K (.ref t.cX) (.ref t.jN)=some false
 az6:PySem.W.exmOne K (.ref t.cX) (.ref t.mG)=some true
 aP2:kitOne K (.type "NoneType") (.ref t.cX)=some false
 eg8:kitOne K (.type "NoneType") (.ref t.jN)=some false
section
variable{P:Program}{w:World}{K:Frag}{mg:Str->Option Value}{base:Heap}{t:j4}
theorem cs4(T:Txt K mg t)(m:Bool × Nat){Q:D->Prop}(q:Q (.int (ah m))):∃C ns xs v,fD t.aJ t.aM m=.obj C ns xs/\dq K C/\cj K C "many"/\(ns.zip xs).lookup ("many":Str)=some v/\Q v:=by
 obtain⟨k,n⟩:=m
 cases k with
 | true=>exact⟨_,_,_,_,rfl,T.fm,T.qG,rfl,q⟩
 | false=>exact⟨_,_,_,_,rfl,T.fo,T.qK,rfl,q⟩
noncomputable abbrev aN0:bx:=λds Q=>∃c:Int,ds=[.int c]/\Q (dJ (nM c))
theorem aN1(T:Txt K mg t):aO P w K mg base aZ 1 t.GW t.GX ["_law_cell_here"] (bC (aN0 )):=by
 refine cx T.Sq GR ?_ ?_
 ·intro ds Q h
  obtain⟨c,rfl,q⟩:=h<;>rfl
 ·intro aG A outer s H E hr
  refine⟨_,(aC (aU (i:=1) GR.nd rfl (ay rfl) (PU (ns:=[7,11,13,19,25,31,37,41,47,55,59,61,67,73,87,91,97,103,109,115,117]) (by decide +kernel)))
   (aC (aU (i:=2) GR.nd rfl (ay rfl) (PU (ns:=[2,3,5,7,11,13,17,19,23,29,31,37,41,43,47,53,59,61]) (by decide +kernel)))
   (aC (dG (cN (et (cO hr)) (ae (aH dH (bv 0) (ae aq))) (ae aq) (bY _)) (aK (bb (Av (eD iM (eD (eT (cG (bv 1) (ae (aH dH (ae (aH sN (bv 0) (ae aq))) (ae aq))) (λ_ _=>rfl))) e8))))) dv)
   (aK (bb (Av (eD iM (eD (eT (cG (bv 2) (ae (aH dH (ae (aH sN (bv 0) (ae aq))) (ae aq))) (λ_ _=>rfl))) e8)))))))),λds Q h=>?_⟩
  obtain⟨c,rfl,q⟩:=h
  refine aB λU hU=>?_
  walk_at"l3"
  refine⟨by decide,hU _ ?_⟩
  clear hU U
  refine aB λU hU=>?_
  walk_at"l3"
  refine⟨by decide,hU _ ?_⟩
  clear hU U
  refine aB λU hU=>?_
  walk_at"l3"
  refine⟨by decide,?_⟩
  have n1:=gW (c/2) (show(21:Int)≠0 by decide)
  have n2:=gX (c/2) (show(0:Int)<21 by decide)
  have n3:=gW (c/2) (show(18:Int)≠0 by decide)
  have n4:=gX (c/2) (show(0:Int)<18 by decide)
  split
  ·rename_i hc
   refine⟨sJ (by decide) (by decide),by decide,_,kn n1 (by simpa using n2),rfl,by decide,?_⟩
   have e:dJ (nM c)=.tup [.bl true,.int (([7,11,13,19,25,31,37,41,47,55,59,61,67,73,87,91,97,103,109,115,117]:List Int).getD (c/2%21).toNat 0)]:=by
    unfold nM dJ
    rw[if_pos hc]
    have:∀k:Nat,((fY.getD k 0:Nat):Int)=([7,11,13,19,25,31,37,41,47,55,59,61,67,73,87,91,97,103,109,115,117]:List Int).getD k 0:=λk=>by
     show _=(fY.map (λ(n:Nat)=>(n:Int))).getD k ((0:Nat):Int)
     rw[bF,bF,dm]
     cases fY[k]?<;>rfl
    rw[<-this]
   rw[<-e];exact q
  ·rename_i hc
   refine hU _ ?_
   walk_at"l3"
   refine⟨sJ (by decide) (by decide),by decide,_,kn n3 (by simpa using n4),rfl,by decide,?_⟩
   have e:dJ (nM c)=.tup [.bl false,.int (([2,3,5,7,11,13,17,19,23,29,31,37,41,43,47,53,59,61]:List Int).getD (c/2%18).toNat 0)]:=by
    unfold nM dJ
    rw[if_neg hc]
    have:∀k:Nat,((mr.getD k 0:Nat):Int)=([2,3,5,7,11,13,17,19,23,29,31,37,41,43,47,53,59,61]:List Int).getD k 0:=λk=>by
     show _=(mr.map (λ(n:Nat)=>(n:Int))).getD k ((0:Nat):Int)
     rw[bF,bF,dm]
     cases mr[k]?<;>rfl
    rw[<-this]
   rw[<-e];exact q
noncomputable abbrev aN2(L:Obj->Obj->Addr->Addr->ui->Prop):bx:=λds Q=>∃(a:Nat) (of oc:Obj) (c k:Addr) (g:Nat->Nat->Nat) (l:List Int),ds=[.int a,.aR (.lam of oc c k)]/\L of oc c k (yc g)/\a<64/\Ga g a=some l/\Q (.lst true (nums l))
theorem Ta(T:Txt K mg t):aO P w K mg base aZ 5 t.GY t.GZ ["a","product"] (bC (aN2 (xZ P w K mg base 4))):=by
 refine cx T.IF BQ ?_ ?_
 ·intro ds Q h
  obtain⟨a,of,oc,c,k,g,l,rfl,hL,ha,hp,q⟩:=h<;>rfl
 ·intro aG A outer s H E hr
  refine⟨_,(aC (aU (i:=2) BQ.nd rfl (ay rfl) (gE (eD aq e8)))
   (aC (aU (i:=3) BQ.nd rfl (ay rfl) (Qw (n:=4) (i:=1) rfl (by first | exact ay rfl | exact bU (ay rfl)) (hr.mono (by decide)) (ak (ae aq) (ak (bv 0) aA))))
   (aC (su fu (cN (me (cO hr)) (bv 3) (ae aq) (bY _))
    (aC (AI (i:=2) rfl (by first | exact ay rfl | exact bU (ay rfl)) (eT (bv 3)))
    (aK (aU (i:=3) BQ.nd rfl (ay rfl) (Qw (n:=4) (i:=1) rfl (by first | exact ay rfl | exact bU (ay rfl)) (hr.mono (by decide)) (ak (bv 3) (ak (bv 0) aA)))))))
   (aK (bb (em 2)))))),λds Q h=>?_⟩
  obtain⟨a,of,oc,c,k,g,l,rfl,hL,ha,hp,q⟩:=h
  refine aB λU hU=>?_
  walk_at"l3"
  refine⟨by decide,hU _ ?_⟩
  clear hU U
  refine aB λU hU=>?_
  walk_at"l3"
  refine⟨of,oc,c,k,yc g,rfl,hL,1,a,⟨rfl,rfl⟩,1,a,rfl,rfl,by decide,ha,hU _ ?_⟩
  clear hU U
  refine aB λU hU=>?_
  walk_at"l3"
  refine⟨λm δ=>∃(p:Nat) (acc:List Int),δ=[some (.int a),some (.aR (.lam of oc c k)),some (.lst true (nums acc)),some (.int p)]/\acc.length+m<=70/\Bd g a m p acc=some l,⟨64,_,[1],rfl,by decide,hp⟩,?_⟩
  rintro m δ ⟨p,acc,rfl,hn,hg⟩
  walk_at"l3"
  cases m with
  | zero=>cases hg
  | succ m =>
   unfold Bd at hg
   split at hg
   ·rename_i h1
    subst h1
    cases hg
    rw[if_neg (by simp)]
    refine hU _ ?_
    walk_at"l3"
    exact q
   ·rename_i h1
    rw[if_pos (by simp;omega)]
    split at hg
    ·rename_i h2
     clear hU
     refine aB λU hU=>?_
     walk_at"l3"
     refine⟨⟨_,rfl⟩,by omega,hU _ ?_⟩
     clear hU
     walk_at"l3"
     exact⟨of,oc,c,k,yc g,rfl,hL,p,a,⟨rfl,rfl⟩,p,a,rfl,rfl,h2,ha,m,by omega,g p a,acc++[(p:Int)],⟨by rw[<-pY];rfl,rfl⟩,by simp;omega,hg⟩
    ·cases hg
noncomputable abbrev aJ2(L:Obj->Obj->Addr->Addr->ui->Prop):bx:=λds Q=>∃(n:Nat) (of oc:Obj) (c k:Addr) (g:Nat->Nat->Nat) (l:List Int),ds=[.int n,.aR (.lam of oc c k)]/\L of oc c k (yc g)/\yb g n=some l/\Q (.lst true (nums l))
theorem aJ3(T:Txt K mg t):aO P w K mg base aZ 6 t.G0 t.G1 ["many","product"] (bC (aJ2 (xZ P w K mg base 4))):=by
 refine cx T.Su yz ?_ ?_
 ·intro ds Q h
  obtain⟨n,of,oc,c,k,g,l,rfl,hL,hp,q⟩:=h<;>rfl
 ·intro aG A outer s H E hr
  refine⟨_,(aC (aU (i:=2) yz.nd rfl (ay rfl) aq)
   (aC (aU (i:=3) yz.nd rfl (ay rfl) (bE ((Ta T).mono (by decide)) hr rfl T.Sr T.IF.kp T.Ss bj (ak (bv 2) (ak (bv 1) aA))))
   (aC (su fu (cN AD (ae (fB (gH) (by rfl) T.gP gA (ak (bv 3) aA))) (ae (aH gG (bv 0) (ae aq))) (bY _))
    (aC (sj (i:=2) yz.nd rfl (ay rfl) (ae aq) Pp)
    (aK (aU (i:=3) yz.nd rfl (ay rfl) (bE ((Ta T).mono (by decide)) hr rfl T.Sr T.IF.kp T.Ss bj (ak (bv 2) (ak (bv 1) aA)))))))
   (aK (bb (em 3)))))),λds Q h=>?_⟩
  obtain⟨n,of,oc,c,k,g,l,rfl,hL,hp,q⟩:=h
  unfold yb at hp
  split at hp
  ·rename_i l0 h0
   refine aB λU hU=>?_
   walk_at"l3"
   refine hU _ ?_
   clear hU U
   refine aB λU hU=>?_
   walk_at"l3"
   refine⟨1,of,oc,c,k,g,l0,rfl,hL,by decide,h0,hU _ ?_⟩
   clear hU U
   refine aB λU hU=>?_
   walk_at"l3"
   refine⟨λm δ=>∃(st:Nat) (l1:List Int),δ=[some (.int n),some (.aR (.lam of oc c k)),some (.int st),some (.lst true (nums l1))]/\st+m<=63/\Be g n m st l1=some l,⟨62,1,l0,rfl,by decide,hp⟩,?_⟩
   rintro m δ ⟨st,l1,rfl,hn,hg⟩
   walk_at"l3"
   cases m with
   | zero=>cases hg
   | succ m =>
    unfold Be at hg
    split at hg
    ·rename_i h1
     rw[if_pos (by omega)]
     split at hg
     ·rename_i l2 h2
      clear hU
      refine aB λU hU=>?_
      walk_at"l3"
      refine hU _ ?_
      clear hU
      walk_at"l3"
      exact⟨st+1,of,oc,c,k,g,l2,rfl,hL,by omega,h2,m,by omega,st+1,l2,⟨rfl,rfl⟩,by omega,hg⟩
     ·cases hg
    ·rename_i h1
     rw[if_neg (by omega)]
     cases hg
     refine hU _ ?_
     walk_at"l3"
     exact q
  ·cases hp
noncomputable abbrev aO9:bx:=λds Q=>∃(l:List Int),ds=[.lst false (nums l)]/\l.length<=64/\(∀x∈l,0<=x/\x.toNat<=l.length)/\Q (.lst true (nums (dy l)))
theorem aP0(T:Txt K mg t):aO P w K mg base aZ 1 t.G2 t.G3 ["powers"] (bC (aO9 )):=by
 refine cx T.Sv GS ?_ ?_
 ·intro ds Q h
  obtain⟨l,rfl,hl,hx,q⟩:=h<;>rfl
 ·intro aG A outer s H E hr
  refine⟨_,(aC (aU (i:=1) GS.nd rfl (ay rfl) (aH lZ (ae (gE (eD aq e8))) (ae (aH eE (ae (fB (gH) (by rfl) T.gP gA (ak (bv 0) aA))) (ae aq)))))
   (aC (jb fu rfl (FJ rfl T.IV (ak (bv 0) aA)) (xV (i1:=2) (i2:=3) rfl GS.nd rfl (ay rfl) rfl (ay rfl))
    (aK (Fu (i:=1) rfl (by first | exact ay rfl | exact bU (ay rfl)) (eT (bv 2)) (bv 3))))
   (aK (bb (em 1))))),λds Q h=>?_⟩
  obtain⟨l,rfl,hl,hx,q⟩:=h
  refine aB λU hU=>?_
  walk_at"l3"
  refine⟨by decide,⟨by omega,by omega,by omega⟩,hU _ ?_⟩
  clear hU U
  refine aB λU hU=>?_
  walk_at"l3"
  refine fU.mk (λi δ=>∃o1 o2,δ=[some (.lst false (nums l)),some (.lst true (nums (mw l i))),o1,o2]) ⟨none,none,?_⟩ ?_ ?_
  ·rw[show((l.length:Int)+1).toNat=l.length+1 by omega];rfl
  ·rintro i d δ hd ⟨o1,o2,rfl⟩
   obtain⟨hi,rfl⟩:∃h:i<l.length,d=.tup [.int i,.int l[i]]:=by
    unfold fW nums at hd
    rw[MV,dm]at hd
    by_cases hi:i<l.length
    ·rw[bu hi]at hd
     simp at hd
     exact⟨hi,hd.symm⟩
    ·rw[kN (by omega)]at hd;simp at hd
   have dQ:=hx l[i] (i6 _)
   walk_at"l3"
   refine⟨_,(l[i]).toNat,rfl,?_,_,_,?_,rfl,rfl⟩
   ·unfold iB
    rw[km,yd,if_pos dQ.1,if_pos (by omega)]
   ·unfold nums
    rw[<-List.map_set]
    congr 1
    show _=(mw l i).set (l.getD i 0).toNat (i:Int)
    rw[bF,bu hi];rfl
  ·rintro δ ⟨o1,o2,rfl⟩
   refine hU _ ?_
   simp only[r9,pz,se,sg,dT,lU,ny,nB,dC,o8,pk,pj,ph,rZ,r6,ki,tE,pQ,tH,tI,rS,rT,rV,rW,rX,rY,o9,tf,pM,pO,pI,sI,pJ,sM,sO,sP,sR,sS,sT,iI,fy,sV,sW,sX,sY,xh,s8,s9,gN,tJ,tw,si,sA,sC,sD,sF,tK,sG,tL,tM,pG,jy,fc,iP,ig,vW,qY,zI,zJ,pq,jx,iN,pP,tS,tV,tW,tU,tX,tY,t7,pZ,xR,ua,p8,t8,je,xU,xS,xT,dk,kJ,vZ,q9,eJ,zK,aQ,wb,wc,we,wg,rm,exists_eq_left',exists_eq_left,D.bl.injEq,D.int.injEq,D.lst.injEq,D.fz.injEq,D.str.injEq,D.tup.injEq,zL,and_true,true_and,dX,rh,mT,og,xk,xm,xn,xo,xp,xq,i9,ju,pV,xw,xx,xy,xA,xB,fQ,lQ,tN,xt,xu,xv,ib,nu,zM,zN,vR,wj,zO,zP,n5,xH,xI,xJ,xK,xM,xN,xO,km,pW,pX,iT,pY,xD,tR,xC,xE,tP,xF,xG,iU,tQ,if_true,mO,if_false,reduceIte,xP,decide_eq_true_eq,tO,dw,kr,ue,uf,ku,xW,sq,uj,qi,t9,qe,qg,um,uv,uz,qw,uE,uF,qB,uA,p5]
   exact q
noncomputable abbrev IW(K:Frag):bx:=λds Q=>∃(C:Addr) (ns:List Str) (xs:List D) (n:Int) (many:Nat) (l:List Int) (r:Int),ds=[.obj C ns xs,.int n]/\dq K C/\cj K C "powers"/\cj K C "many"/\(ns.zip xs).lookup ("powers":Str)=some (.lst false (nums l))/\(ns.zip xs).lookup ("many":Str)=some (.int many)/\2<=many/\l[(n%((many:Int)-1)).toNat]?=some r/\Q (.int r)
theorem IY(T:Txt K mg t):aO P w K mg base aZ 1 t.yC t.G4 ["self","n"] (bC (IW K)):=by
 refine cx T.aC2 aA8 ?_ ?_
 ·intro ds Q h
  obtain⟨C,ns,xs,n,many,l,r,rfl,hC,h1,h2,h3,h4,h5,h6,q⟩:=h<;>rfl
 ·intro aG A outer s H E hr
  refine⟨_,(aK (bb (eT (cG (jh (K:=K) (bv 0)) (ae (aH dH (bv 1) (ae (aH gG (jh (K:=K) (bv 0)) (ae aq))))) (λ_ _=>rfl))))),λds Q h=>?_⟩
  obtain⟨C,ns,xs,n,many,l,r,rfl,hC,h1,h2,h3,h4,h5,h6,q⟩:=h
  walk_at"l3"
  refine⟨C,ns,xs,_,rfl,hC,h1,h3,C,ns,xs,_,rfl,hC,h2,h4,?_⟩
  refine⟨by omega,_,m6 (d:=.int r) (gW _ (by omega)) ?_,rfl,q⟩
  unfold nums
  rw[dm,h6];rfl
noncomputable abbrev aK8(P:Program)(w:World)(K:Frag)(mg:Str->Option Value)(base:Heap)(fs:Addr):Sp:=λvs H Q _=>∃(x dx f C:Addr) (b:Str) (n0:Int) (many:Nat) (of oc:Obj) (c k:Addr) (g:Nat->Nat->Nat) (l:List Int) (st:Int),
 vs=[.ref x,.int many,.ref f]/\H x=some (.ins C dx [(b,.int n0)])/\(∀n∈(["many","wide","powers","logs","step","step_power"]:List Str),b≠n)/\cX7 K C fs/\gC H f of oc c k/\xZ P w K mg base 4 of oc c k (yc g)/\QR g many l st /\
 ∀H' p1 p2,de x H H'->H' x=some (.ins C dx ((fZ b).zip (Bf n0 many p1 p2 st)))->LI H' p1 l->LI H' p2 (dy l)->p1≠p2->H p1=none->H p2=none->Q .ao H'
theorem Tc(T:Txt K mg t):aO P w K mg base aZ 7 t.G5 t.G6 ["self","many","product"] (aK8 P w K mg base t.yC):=by
 refine T.aM4.ok aJ9 (λvs H Q E h=>?_) λaG A outer s H vs Q E hr h=>?_
 ·obtain⟨x,dx,f,C,b,n0,many,of,oc,c,k,g,l,st,rfl,_⟩:=h;rfl
 obtain⟨x,dx,f,C,b,n0,many,of,oc,c,k,g,l,st,rfl,hx,hb,hC,dq5,hL,hF,q⟩:=h
 refine⟨_,jq (m5 (pv 0) (pv 1) rfl) (jq (m5 (pv 0) (z8 Ef (EG (pv 1)) oF) rfl)
  (jq (m5 (pv 0) (oQ ((aJ3 T).mono (by decide)) hr rfl T.di5 T.Su.kp T.di6 .nil bj (dO (pv 1) (dO (pv 2) gu))) rfl)
  (jq (m5 (pv 0) (oQ ((aP0 T).mono (by decide)) hr rfl T.di7 T.Sv.kp T.di8 .nil bj (dO (Ab (pv 0) rfl) gu)) rfl)
  (rD (m5 (pv 0) (Ya (pv 0) hC.cls hC.sp ((IY T).mono (by decide)) hr T.IG .nil bj (dO oF gu)) rfl))))),?_⟩
 have nb:∀n∈(["many","wide","powers","logs","step","step_power"]:List Str),b≠n:=hb
 refine⟨.int many,rfl,.ref x,rfl,x,C,dx,_,rfl,hx,hC.cls,hC.many,kM (aY 1) (by decide),?_⟩
 rw[uq (by simpa using nb "many" (by simp))]
 generalize e1:upd H x (HO.ins C dx ([(b,V.int n0)]++[(("many":Str),V.int many)]))=H1
 have dQ:H1 x=some (.ins C dx [(b,V.int n0),(("many":Str),V.int many)]):=by rw[<-e1,bV];rfl
 have s1:de x H H1:=by rw[<-e1];exact de.upd (C:=C) (dx:=dx) hx rfl
 have l1:gC H1 f of oc c k:=by rw[<-e1];exact dq5.ye hx
 have n1:∀p,H1 p=none->H p=none:=λp h=>yf hx (by rw[e1];exact h)
 refine⟨_,rfl,rfl,_,rfl,rfl,_,_,rfl,rfl,.ref x,rfl,x,C,dx,_,rfl,dQ,hC.cls,hC.wide,kM (aY 2) (by decide),?_⟩
 rw[uq (by simp;exact⟨nb "wide" (by simp),by decide⟩),gY]
 generalize e2:upd H1 x (HO.ins C dx ([(b,V.int n0),(("many":Str),V.int many)]++[(("wide":Str),V.int ((bl many:Nat)-1))]))=H2
 have fx:H2 x=some (.ins C dx [(b,V.int n0),(("many":Str),V.int many),(("wide":Str),V.int ((bl many:Nat)-1))]):=by rw[<-e2,bV];rfl
 have s2:de x H H2:=by rw[<-e2];exact s1.trans (de.upd (C:=C) (dx:=dx) dQ rfl)
 have l2:gC H2 f of oc c k:=by rw[<-e2];exact l1.ye dQ
 have n2:∀p,H2 p=none->H p=none:=λp h=>n1 p (yf dQ (by rw[e2];exact h))
 refine⟨_,rfl,_,rfl,H2,[.int many,.aR (.lam of oc c k)],λd=>d=.lst true (nums l),aa.refl _,.int (.aR l2 .nil),⟨many,of,oc,c,k,g,l,rfl,hL,hF.step,rfl⟩,λd v F' H3 A' hd hs hf he h3 r nd fr=>?_⟩
 subst hd
 obtain⟨p1,rfl,hp1,y7⟩:=QQ r fr
 have kD:=hs.get _ _ fx
 have s3:=s2.trans (hs.x (x:=x))
 refine⟨.ref x,rfl,x,C,dx,_,rfl,kD,hC.cls,hC.Gb,kM (aY 3) (by decide),?_⟩
 rw[uq (by simp;exact⟨nb "powers" (by simp),by decide,by decide⟩)]
 generalize e4:upd H3 x (HO.ins C dx ([(b,V.int n0),(("many":Str),V.int many),(("wide":Str),V.int ((bl many:Nat)-1))]++[(("powers":Str),V.ref p1)]))=H4
 have nV:H4 x=some (.ins C dx [(b,V.int n0),(("many":Str),V.int many),(("wide":Str),V.int ((bl many:Nat)-1)),(("powers":Str),V.ref p1)]):=by rw[<-e4,bV];rfl
 have s4:de x H H4:=by rw[<-e4];exact s3.trans (de.upd (C:=C) (dx:=dx) kD rfl)
 have p4:LI H4 p1 l:=by rw[<-e4];exact hp1.upd kD (λws z=>by cases z)
 have n4:∀p,H4 p=none->H p=none:=λp h=>n2 p (hs.free (yf kD (by rw[e4];exact h)))
 refine⟨.ref x,rfl,x,C,dx,_,.ref p1,rfl,nV,hC.cls,hC.Gb,by rw[Bg (nb "powers" (by simp))];rfl,H4,[.lst false (nums l)],λd=>d=.lst true (nums (dy l)),aa.refl _,.shr p4 (jB l) .nil,⟨l,rfl,by have:=hF.len;have:=hF.hi;omega,hF.ins,rfl⟩,λd v F' H5 A' hd nW hf he h3 r nd fr=>?_⟩
 subst hd
 obtain⟨p2,rfl,Td,qM⟩:=QQ r fr
 have kE:=nW.get _ _ nV
 have s5:=s4.trans (nW.x (x:=x))
 have dq7:p1≠p2:=λz=>by rw[<-z]at qM;unfold LI at p4;rw[qM]at p4;cases p4
 refine⟨.ref x,rfl,x,C,dx,_,rfl,kE,hC.cls,hC.cX8,kM (aY 4) (by decide),?_⟩
 rw[uq (by simp;exact⟨nb "logs" (by simp),by decide,by decide,by decide⟩)]
 generalize e6:upd H5 x (HO.ins C dx ([(b,V.int n0),(("many":Str),V.int many),(("wide":Str),V.int ((bl many:Nat)-1)),(("powers":Str),V.ref p1)]++[(("logs":Str),V.ref p2)]))=H6
 have IZ:H6 x=some (.ins C dx (([b,"many","wide","powers","logs"]:List Str).zip [V.int n0,V.int many,V.int ((bl many:Nat)-1),V.ref p1,V.ref p2])):=by rw[<-e6,bV];rfl
 have s6:de x H H6:=by rw[<-e6];exact s5.trans (de.upd (C:=C) (dx:=dx) kE rfl)
 have p6:LI H6 p1 l:=by rw[<-e6];exact(p4.same nW).upd kE (λws z=>by cases z)
 have q6:LI H6 p2 (dy l):=by rw[<-e6];exact Td.upd kE (λws z=>by cases z)
 refine⟨.ref x,rfl,x,dx,_,rfl,IZ,by show kG ("step_power":Str) ((b,V.int n0)::_)=none;rw[Bg (nb "step_power" (by simp))];rfl,H6,[.obj C [b,"many","wide","powers","logs"] [.int n0,.int many,.int ((bl many:Nat)-1),.lst false (nums l),.lst false (nums (dy l))],.int 1],λd=>d=.int st,aa.refl _,
  .obj IZ rfl (.int (.int (.int (.shr p6 (jB l) (.shr q6 (jB _) .nil))))) (.int .nil),⟨C,_,_,1,many,l,st,rfl,hC.cls,hC.Gb,hC.many,by show kG ("powers":Str) ((b,D.int n0)::_)=_;rw[Bg (nb "powers" (by simp))];rfl,by show kG ("many":Str) ((b,D.int n0)::_)=_;rw[Bg (nb "many" (by simp))];rfl,hF.lo,hF.st,rfl⟩,λd v F' H7 A' hd Cc hf he h3 r nd fr=>?_⟩
 subst hd
 cases r
 have Cd:=Cc.get _ _ IZ
 refine⟨.ref x,rfl,x,C,dx,_,rfl,Cd,hC.cls,hC.step,kM (aY 5) (by decide),?_⟩
 rw[uq (by simp;exact⟨nb "step" (by simp),by decide,by decide,by decide,by decide⟩)]
 refine q _ p1 p2 ((s6.trans (Cc.x (x:=x))).trans (de.upd (C:=C) (dx:=dx) Cd rfl)) (by rw[bV];rfl) ((p6.same Cc).upd Cd (λws z=>by cases z)) ((q6.same Cc).upd Cd (λws z=>by cases z)) dq7 (n2 p1 y7) (n4 p2 qM)
noncomputable abbrev az7:bx:=λds Q=>∃a:Int,ds=[.int a]/\Q (.bl (decide (2<=a)&&decide (a<=61)&&(aV (a.toNat-2)).all λi=>a%(2+(i:Int)) != 0))
theorem az8(T:Txt K mg t):aO P w K mg base aZ 1 t.G7 t.G8 ["prime"] (bC (az7 )):=by
 refine cx T.Sx az4 ?_ ?_
 ·intro ds Q h
  obtain⟨a,rfl,q⟩:=h<;>rfl
 ·intro aG A outer s H E hr
  refine⟨_,(aK (bb (pf (ae (Fp xg xg (ae aq) (bv 0) (ae aq))) (rC (fB (PC rfl) (by rfl) T.S7 Oy (ak (ae (kb [("prime",0)] ["d"] rfl (Ay rfl T.jj (ak (ae aq) (ak (bv 0) aA))) (λ_ _ _ _=>(fb (i:=1) (show(["prime","d"]:List Str).Nodup by decide +kernel) rfl (ay (lookup_relabel_local rfl)) (by decide) (bU (lookup_relabel_local rfl)))) (λ_ _ _ _=>ke) (λ_ _ _ _=>(nC (me (cO hr)) (ae (aH dH (bv 0) (bv 1))) (ae aq) (bY _))) rfl ⟨rfl,trivial⟩ (by repeat' (first | exact trivial | refine⟨.inl rfl,?_⟩ | refine⟨.inr (.inl rfl),?_⟩ | refine⟨.inr (.inr ⟨_,rfl⟩),?_⟩)) ⟨⟨rfl,.inl rfl,.inl rfl,_,rfl,rfl⟩,trivial⟩ (by decide +kernel) rfl (by decide +kernel))) aA)))))),λds Q h=>?_⟩
  obtain⟨a,rfl,q⟩:=h
  walk_at"l3"
  split
  ·rename_i h1
   split
   ·rename_i h2
    refine⟨2,a,⟨rfl,rfl⟩,⟨by decide,by decide,by omega,by omega⟩,?_⟩
    have e0:(a-2).toNat=a.toNat-2:=by omega
    rw[e0]
    refine p7 (aV (a.toNat-2)) (λ(k:Nat)=>D.int (2+(k:Int))) (λ(k:Nat)=>D.bl (a%(2+(k:Int)) != 0)) (by rw[pB]) (λx y h=>by injection h with h;omega) (λk hk=>?_) (.inr λ_ _=>rfl) (by rw[eB,sL];omega) ?_
    ·walk_at"l3"
     refine⟨by omega,?_⟩
     by_cases z:a%(2+(k:Int))=0<;>simp[z]
    ·refine⟨(aV (a.toNat-2)).map λ(k:Nat)=>a%(2+(k:Int)) != 0,?_,?_⟩
     ·unfold AG;rw[gk];rfl
     ·have e:(decide (2<=a)&&decide (a<=61)&&(aV (a.toNat-2)).all λi=>a%(2+(i:Int)) != 0)=((aV (a.toNat-2)).map λ(k:Nat)=>a%(2+(k:Int)) != 0).all id:=by
       simp[h1,h2,zt]
      rw[<-e];exact q
   ·rename_i h2
    have e:(decide (2<=a)&&decide (a<=61)&&(aV (a.toNat-2)).all λi=>a%(2+(i:Int)) != 0)=false:=by simp[h2]
    rw[e]at q;exact q
  ·rename_i h1
   have e:(decide (2<=a)&&decide (a<=61)&&(aV (a.toNat-2)).all λi=>a%(2+(i:Int)) != 0)=false:=by simp[h1]
   rw[e]at q;exact q
noncomputable abbrev aJ4:List D->List Str->List D->Prop:=λds ns xs=>∃p:Nat,ds=[.int p]/\p∈mr/\ns=fZ "prime"/\xs=[.int p,.int p,.int ((bl p:Nat)-1),.lst true (nums (fl (false,p))),.lst true (nums (dy (fl (false,p)))),.int (fst (false,p))]
theorem aE0(T:Txt K mg t)(hB:Bm mg base):aO P w K mg base aZ 8 t.G9 t.BY ["self","prime"] (FZ [t.jK,t.jL] t.aM aJ4):=by
 refine QM T.aF4 T.aD7 aB9 (λvs H Q E h=>?_) λA outer s H vs Q E hr h=>?_
 ·obtain⟨x,dx,ck,ds,ns,xs,rfl,_,_,r,⟨p,rfl,_⟩,_⟩:=h
  have:=r.length
  simp at this
  simp[this]
 obtain⟨x,dx,ck,ds,ns,xs,rfl,tb,hx,r,⟨p,rfl,hp,rfl,rfl⟩,q⟩:=h
 obtain rfl:ck=[.int p]:=by
  cases r with
  | int r=>cases r;rfl
 have hm:(false,p)∈aF:=eI _ (DI hp)
 have hF:=bN hm
 refine⟨_,jq (zY (D1 (D0 (oQ ((az8 T).mono (by decide)) hr rfl T.dj1 T.Sx.kp T.dj2 .nil bj (dO (pv 1) gu)))) (rD Np) zX)
  (jq (m5 (pv 0) (pv 1) rfl)
  (rD (D2 (QF (E:=E0) (i:=1) T.S6 ((Tc T).mono (by decide)) hr T.Sw rfl T.vD rfl rfl rfl rfl (dO (pv 0) (dO (pv 1) (dO (Qx rfl rfl T.aD8 hB) gu))))))),?_⟩
 refine⟨_,rfl,H,[.int p],λd=>d=.bl true,aa.refl _,.int .nil,⟨p,rfl,by rw[b71 p hp]⟩,λd v F' H1 A1 hd qN hf he h3 r nd fr=>?_⟩
 subst hd
 cases r
 refine⟨true,rfl,?_⟩
 refine j5 ?_
 have dQ:=qN.get _ _ hx
 refine⟨.int p,rfl,.ref x,rfl,x,t.aM,dx,_,rfl,dQ,T.fo,T.kC,by decide,?_⟩
 generalize e2:upd H1 x (HO.ins t.aM dx (eN "prime" (.int p) []))=H2
 have fx:H2 x=some (.ins t.aM dx [(("prime":Str),.int p)]):=by rw[<-e2,bV];rfl
 have s2:de x H H2:=by rw[<-e2];exact(qN.x (x:=x)).trans (de.upd (C:=x) (dx:=dx) dQ rfl)
 have n2:∀p,H2 p=none->H p=none:=λp h=>qN.free (yf dQ (by rw[e2];exact h))
 obtain⟨ps,hP⟩:=tb t.jK (by simp)
 obtain⟨more,Ja⟩:=s2.tb _ ps hP
 refine⟨.ref x,rfl,.int p,rfl,⟨_,Ja⟩,λf k qn pm il H3 nf Jb hk kf mH hl3=>?_⟩
 refine⟨f,_,_,.int p,Jb,rfl,rfl,λoc u g5 hu nc nH=>?_⟩
 obtain⟨tm,rfl⟩:∃tm,u=fG p tm:=hu
 have kD:=mH.get _ _ fx
 refine⟨x,dx,f,t.aM,"prime",p,p,_,oc,_,k,gm (false,p),fl (false,p),fst (false,p),rfl,yg kD (λz=>by rw[z,nf]at fx;cases fx) nc,by decide,⟨T.fo,T.qK,T.yQ,T.vA,T.qJ,T.yP,T.vB⟩,QT nH nc hk kf,?_,hF,λH' p1 p2 sx dR uB oU ne y7 qM=>?_⟩
 ·refine QK (n:=3) ⟨rfl,rfl,rfl,by decide,rfl,rfl,by decide,by decide,rfl⟩ g5 (λu1 u2=>rfl) λq f A outer s H E hr=>?_
  refine⟨_,aH dH (ae (aH lZ (bv 0) (bv 1))) (bv 2),λi j Qd h=>?_⟩
  obtain⟨a,b,rfl,rfl,ha,hb,hq⟩:=h
  walk_at"l3"
  have hp0:2<=p:=hF.lo
  refine⟨oK.ok (.inr ⟨by omega,by omega⟩),by omega,?_⟩
  have e:((gm (false,p) a b:Nat):Int)=(a:Int)*b%p:=by
   show((a*b%p:Nat):Int)=_
   rw[mV,zR]
  rw[<-e];exact hq
 ·have gf:H' f=some (.ext (iJ _ oc _ f)):=sx.get f _ (λz=>by rw[z]at nf;rw[nf]at fx;cases fx) (by rw[aN nH.symm,bV]) rfl
  have gc:=sx.get _ _ (dN kD nc).symm bV rfl
  refine⟨gf,gc,?_⟩
  refine q _ (Bf p p p1 p2 (fst (false,p))) [p1,p2] (s2.trans (QS mH nf nc sx)) ?_ rfl ?_ (by simp[ne]) (λa ha=>?_)
  ·rw[fX (λz=>by rw[z,gf]at dR;cases dR) (λz=>by rw[z,gc]at dR;cases dR)];exact dR
  ·exact .int (.int (.int (.own (uB.rem gf gc) rfl (jB _) (.own (oU.rem gf gc) rfl (jB _) (.int .nil)))))
  ·simp at ha
   rcases ha with rfl | rfl
   ·exact n2 _ (Bh mH y7)
   ·exact n2 _ (Bh mH qM)
noncomputable abbrev aI5:bx:=λds Q=>∃(l g:List Int),ds=[.lst false (nums l),.lst false (nums g)]/\1<=l.length/\l.length<=63/\g.length=l.length+1/\(∀x∈g,0<=x)/\Q (.lst true (nK l g))
theorem aI6(T:Txt K mg t):aO P w K mg base aZ 1 t.Ha t.Hb ["powers","logs"] (bC (aI5 )):=by
 refine cx T.Sy BR ?_ ?_
 ·intro ds Q h
  obtain⟨l,g,rfl,h1,h2,h3,h4,q⟩:=h<;>rfl
 ·intro aG A outer s H E hr
  refine⟨_,(aC (aU (i:=2) BR.nd rfl (bU rfl) (aH eE (ae (fB (gH) (by rfl) T.gP gA (ak (bv 0) aA))) (ae aq)))
   (aC (aU (i:=3) BR.nd rfl (ay rfl) (gE (eD (aH lZ (ae (gE (eD aq e8))) (bv 2)) e8)))
   (aC (jb fu rfl (Ay rfl T.jj (ak (ae aq) (ak (bv 2) aA))) (fb (i:=4) BR.nd rfl (bU rfl))
    (aK (AI (i:=3) rfl (by first | exact ay rfl | exact bU (ay rfl)) (aH eE (ae (gE (eD aq e8))) (ae (kb [("powers",0),("many",2),("logs",1),("a",4)] ["b"] rfl (Ay rfl T.jj (ak (ae aq) (ak (bv 2) aA))) (λ_ _ _ _=>(fb (i:=4) (show(["powers","many","logs","a","b"]:List Str).Nodup by decide +kernel) rfl (ay (lookup_relabel_local rfl)) (by decide) (bU (lookup_relabel_local rfl)))) (λ_ _ _ _=>ke) (λ_ _ _ _=>(eT (cG (bv 0) (ae (aH dH (ae (aH eE (cG (bv 2) (bv 3) (λ_ _=>rfl)) (cG (bv 2) (bv 4) (λ_ _=>rfl)))) (ae (aH gG (bv 1) (ae aq))))) (λ_ _=>rfl)))) rfl ⟨rfl,⟨rfl,⟨rfl,⟨rfl,trivial⟩⟩⟩⟩ (by repeat' (first | exact trivial | refine⟨.inl rfl,?_⟩ | refine⟨.inr (.inl rfl),?_⟩ | refine⟨.inr (.inr ⟨_,rfl⟩),?_⟩)) ⟨⟨rfl,.inl rfl,.inl rfl,_,rfl,rfl⟩,⟨⟨rfl,.inl rfl,.inl rfl,_,rfl,rfl⟩,⟨⟨rfl,.inl rfl,.inl rfl,_,rfl,rfl⟩,⟨⟨rfl,.inl rfl,.inl rfl,_,rfl,rfl⟩,trivial⟩⟩⟩⟩ (by decide +kernel) rfl (by decide +kernel)))))))
   (aK (bb (em 3)))))),λds Q h=>?_⟩
  obtain⟨l,g,rfl,h1,h2,h3,h4,q⟩:=h
  refine aB λU hU=>?_
  walk_at"l3"
  refine hU _ ?_
  clear hU U
  refine aB λU hU=>?_
  walk_at"l3"
  refine⟨by decide,⟨by omega,by omega,by omega⟩,by decide,hU _ ?_⟩
  clear hU U
  refine aB λU hU=>?_
  walk_at"l3"
  refine⟨1,(l.length:Int)+1,⟨rfl,rfl⟩,⟨by decide,by decide,by omega,by omega⟩,?_⟩
  have en:((l.length:Int)+1-1).toNat=l.length:=by omega
  rw[en]
  refine fU.mk (λi δ=>∃o,δ=[some (.lst false (nums l)),some (.lst false (nums g)),some (.int ((l.length:Int)+1)),some (.lst true (uo l g (i+1))),o]) ⟨none,?_⟩ ?_ ?_
  ·rw[show((l.length:Int)+1).toNat=l.length+1 by omega];rfl
  ·rintro i d δ hd ⟨o,rfl⟩
   obtain⟨hi,rfl⟩:i<l.length/\d=.int (1+(i:Int)):=by
    rw[dm]at hd
    by_cases hi:i<l.length
    ·rw[mS hi]at hd
     exact⟨hi,(cP hd).symm⟩
    ·rw[kN (by simpa using hi)]at hd;cases hd
   walk_at"l3"
   refine⟨⟨_,rfl⟩,by decide,1,(l.length:Int)+1,⟨rfl,rfl⟩,⟨by decide,by decide,by omega,by omega⟩,?_⟩
   rw[en]
   refine p7 (aV l.length) (λ(k:Nat)=>D.int (1+(k:Int))) (λ(k:Nat)=>D.int (l.getD ((g.getD (i+1) 0+g.getD (k+1) 0)%(l.length:Int)).toNat 0)) (by rw[pB]) (λx y h=>by injection h with h;omega) (λk hk=>?_) (.inr λ_ _=>rfl) (by rw[eB,sL];omega) ?_
   ·have Ai:=gR.mp hk
    walk_at"l3"
    have e1:(1+(i:Int)).toNat=i+1:=by omega
    have e2:(1+(k:Int)).toNat=k+1:=by omega
    have e3:(l.length:Int)+1-1=l.length:=by omega
    have n0:=gW (g.getD (i+1) 0+g.getD (k+1) 0) (show(l.length:Int)≠0 by omega)
    have n1:=gX (g.getD (i+1) 0+g.getD (k+1) 0) (show(0:Int)<l.length by omega)
    refine⟨_,kn (by omega) (by omega),_,kn (by omega) (by omega),?_⟩
    rw[e1,e2,e3]
    exact⟨by omega,_,kn n0 n1,rfl,rfl⟩
   ·walk_at"l3"
    refine⟨⟨by simp;omega,by rw[zt,dM];intro x _;rfl⟩,by simp[uo];omega,_,?_,rfl⟩
    unfold uo
    rw[M9 (n:=i+1),oi]
    congr 1
    show _=[D.lst true (nums (nJ l g (i+1)))]
    unfold nJ
    rw[if_neg (by omega)]
    unfold nums
    rw[dk,gk];rfl
  ·rintro δ ⟨o,rfl⟩
   refine hU _ ?_
   simp only[r9,pz,se,sg,dT,lU,ny,nB,dC,o8,pk,pj,ph,rZ,r6,ki,tE,pQ,tH,tI,rS,rT,rV,rW,rX,rY,o9,tf,pM,pO,pI,sI,pJ,sM,sO,sP,sR,sS,sT,iI,fy,sV,sW,sX,sY,xh,s8,s9,gN,tJ,tw,si,sA,sC,sD,sF,tK,sG,tL,tM,pG,jy,fc,iP,ig,vW,qY,zI,zJ,pq,jx,iN,pP,tS,tV,tW,tU,tX,tY,t7,pZ,xR,ua,p8,t8,je,xU,xS,xT,dk,kJ,vZ,q9,eJ,zK,aQ,wb,wc,we,wg,rm,exists_eq_left',exists_eq_left,D.bl.injEq,D.int.injEq,D.lst.injEq,D.fz.injEq,D.str.injEq,D.tup.injEq,zL,and_true,true_and,dX,rh,mT,og,xk,xm,xn,xo,xp,xq,i9,ju,pV,xw,xx,xy,xA,xB,fQ,lQ,tN,xt,xu,xv,ib,nu,zM,zN,vR,wj,zO,zP,n5,xH,xI,xJ,xK,xM,xN,xO,km,pW,pX,iT,pY,xD,tR,xC,xE,tP,xF,xG,iU,tQ,if_true,mO,if_false,reduceIte,xP,decide_eq_true_eq,tO,dw,kr,ue,uf,ku,xW,sq,uj,qi,t9,qe,qg,um,uv,uz,qw,uE,uF,qB,uA,cQ,eB]
   exact q
noncomputable abbrev aI7(t:j4):jC:=λds Q Ex=>∃a b:Nat,ds=[.int a,.int b]/\bl a<=1000000/\bl b<=1000000/\(b=0->Ex t.cX)/\(b≠0->∀q r:Nat,a=cl q b ^^^ r->bl r<bl b->Q (.tup [.int q,.int r]))
theorem Te(T:Txt K mg t):aO P w K mg base (iH P w) 1 t.Hc t.Hd ["a","b"] (kq (aI7 t )):=by
 refine AL T.IH uP ?_ ?_
 ·intro ds Q Ex h
  obtain⟨a,b,rfl,ha,hb,qx,q⟩:=h<;>rfl
 ·intro aG A outer s H E hr
  refine⟨_,(aC (dG (cN (et (cO hr)) (bv 1) (ae aq) (bY _)) (aK (AN T.Cb rfl (by rfl) (ak (ae As) aA))) dv)
   (aC (aU (i:=2) uP.nd rfl (ay rfl) aq)
   (aC (aU (i:=3) uP.nd rfl (ay rfl) (em 0))
   (aC (Fz (su fu (cN Pq (ae (mj (bv 3))) (ae (mj (bv 1))) (bY _))
    (aC (aU (i:=4) uP.nd rfl (ay rfl) (aH gG (ae (mj (bv 3))) (ae (mj (bv 1)))))
    (aC (sj (i:=2) uP.nd rfl (ay rfl) (ae (aH sQ (ae aq) (bv 4))) Fg)
    (aK (sj (i:=3) uP.nd rfl (ay rfl) (ae (aH sQ (bv 1) (bv 4))) Fg))))))
   (aK (bb (Av (eD (em 2) (eD (em 3) e8))))))))),λds Q Ex h=>?_⟩
  obtain⟨a,b,rfl,ha,hb,qx,q⟩:=h
  refine aB λU hU=>?_
  walk_at"l3"
  split
  ·rename_i h0
   exact⟨by decide,qx (by omega)⟩
  ·rename_i h0
   have b0:b≠0:=by omega
   refine hU _ ?_
   clear hU U
   refine aB λU hU=>?_
   walk_at"l3"
   refine hU _ ?_
   clear hU U
   refine aB λU hU=>?_
   walk_at"l3"
   refine hU _ ?_
   clear hU U
   refine aB λU hU=>?_
   walk_at"l3"
   refine⟨λm δ=>∃(x r:Nat) (o sh:Option D),δ=[o,some (.int b),some (.int (x:Nat)),some (.int (r:Nat)),sh]/\a=cl x b ^^^ r/\bl r<=bl a/\m=bl r,
    ⟨bl a,0,a,_,none,rfl,by rw[nj,mM],aY _,rfl⟩,?_⟩
   rintro m δ ⟨x,r,o,sh,rfl,inv,hra,rfl⟩
   simp only[r9,pz,se,sg,dT,lU,ny,nB,dC,o8,pk,pj,ph,rZ,r6,ki,tE,pQ,tH,tI,rS,rT,rV,rW,rX,rY,o9,tf,pM,pO,pI,sI,pJ,sM,sO,sP,sR,sS,sT,iI,fy,sV,sW,sX,sY,xh,s8,s9,gN,tJ,tw,si,sA,sC,sD,sF,tK,sG,tL,tM,pG,jy,fc,iP,ig,vW,qY,zI,zJ,pq,jx,iN,pP,tS,tV,tW,tU,tX,tY,t7,pZ,xR,ua,p8,t8,je,xU,xS,xT,dk,kJ,vZ,q9,eJ,zK,aQ,wb,wc,we,wg,rm,exists_eq_left',exists_eq_left,D.bl.injEq,D.int.injEq,D.lst.injEq,D.fz.injEq,D.str.injEq,D.tup.injEq,zL,and_true,true_and,dX,rh,mT,og,xk,xm,xn,xo,xp,xq,i9,ju,pV,xw,xx,xy,xA,xB,fQ,lQ,tN,xt,xu,xv,ib,nu,zM,zN,vR,wj,zO,zP,n5,xH,xI,xJ,xK,xM,xN,xO,km,pW,pX,iT,pY,xD,tR,xC,xE,tP,xF,xG,iU,tQ,if_true,mO,if_false,reduceIte,xP,decide_eq_true_eq,tO,dw,kr,ue,uf,ku,xW,sq,uj,qi,t9,qe,qg,um,uv,uz,qw,uE,uF,qB,uA,gY]
   split
   ·rename_i hc
    have hle:bl b<=bl r:=by omega
    have EE:=Oo b0 hle
    have es:(((bl r:Nat):Int)-((bl b:Nat):Int))=((bl r-bl b:Nat):Int):=by omega
    clear hU
    refine aB λU hU=>?_
    walk_at"l3"
    simp only[gY,es]
    refine hU _ ?_
    clear hU
    refine aB λU hU=>?_
    walk_at"l3"
    have o1:bl (1:Int).natAbs=1:=by decide
    refine⟨⟨by omega,by omega⟩,hU _ ?_⟩
    clear hU
    simp only[r9,pz,se,sg,dT,lU,ny,nB,dC,o8,pk,pj,ph,rZ,r6,ki,tE,pQ,tH,tI,rS,rT,rV,rW,rX,rY,o9,tf,pM,pO,pI,sI,pJ,sM,sO,sP,sR,sS,sT,iI,fy,sV,sW,sX,sY,xh,s8,s9,gN,tJ,tw,si,sA,sC,sD,sF,tK,sG,tL,tM,pG,jy,fc,iP,ig,vW,qY,zI,zJ,pq,jx,iN,pP,tS,tV,tW,tU,tX,tY,t7,pZ,xR,ua,p8,t8,je,xU,xS,xT,dk,kJ,vZ,q9,eJ,zK,aQ,wb,wc,we,wg,rm,exists_eq_left',exists_eq_left,D.bl.injEq,D.int.injEq,D.lst.injEq,D.fz.injEq,D.str.injEq,D.tup.injEq,zL,and_true,true_and,dX,rh,mT,og,xk,xm,xn,xo,xp,xq,i9,ju,pV,xw,xx,xy,xA,xB,fQ,lQ,tN,xt,xu,xv,ib,nu,zM,zN,vR,wj,zO,zP,n5,xH,xI,xJ,xK,xM,xN,xO,km,pW,pX,iT,pY,xD,tR,xC,xE,tP,xF,xG,iU,tQ,if_true,mO,if_false,reduceIte,xP,decide_eq_true_eq,tO,dw,kr,ue,uf,ku,xW,sq,uj,qi,t9,qe,qg,um,uv,uz,qw,uE,uF,qB,uA,gY]
    refine⟨⟨by omega,by rw[gY];omega⟩,_,EE,x ^^^ 2 ^ (bl r-bl b),r ^^^ b <<< (bl r-bl b),o,_,⟨rfl,?_,?_,rfl⟩,Y4 inv,by omega,rfl⟩
    ·rw[show(1:Int)=((1:Nat):Int) from rfl,rM,lh,DT]
    ·rw[rM,lh]
   ·rename_i hc
    refine hU _ ?_
    walk_at"l3"
    refine⟨by decide,q b0 x r inv (by omega)⟩
noncomputable abbrev aI8:bx:=λds Q=>∃a:Nat,ds=[.int a]/\bl a<=60/\Q (.bl (al a))
theorem aI9(T:Txt K mg t):aO P w K mg base aZ 2 t.He t.Hf ["a"] (bC (aI8 )):=by
 refine cx T.SD GU ?_ ?_
 ·intro ds Q h
  obtain⟨a,rfl,ha,q⟩:=h<;>rfl
 ·intro aG A outer s H E hr
  refine⟨_,(aC (dG (cN AD (bv 0) (ae aq) (bY _)) (aK (bb iM)) dv)
   (aC (aU (i:=1) GU.nd rfl (ay rfl) (aH sN (ae (aH gG (ae (mj (bv 0))) (ae aq))) (ae aq)))
   (aC (jb fu rfl (Ay rfl T.jj (ak (ae aq) (ak (ae (aH sQ (ae aq) (ae (aH eE (bv 1) (ae aq))))) aA))) (fb (i:=2) GU.nd rfl (ay rfl))
    (aK (dG (cN (et (cO hr)) (cG (ae (bE (AS ((Te T).mono (by decide))) hr rfl T.Sz T.IH.kp T.SA AR (ak (bv 0) (ak (bv 2) aA)))) (ae aq) (λ_ _=>rfl)) (ae aq) (bY _)) (aK (bb iM)) dv)))
   (aK (bb iM))))),λds Q h=>?_⟩
  obtain⟨a,rfl,ha,q⟩:=h
  refine aB λU hU=>?_
  walk_at"l3"
  split
  ·rename_i h2
   rw[Zh (by omega)]at q;exact q
  ·rename_i h2
   have h2:2<=a:=by omega
   have hp:=fM (show a≠0 by omega)
   refine hU _ ?_
   clear hU U
   refine aB λU hU=>?_
   walk_at"l3"
   simp only[gY]
   refine⟨sJ (by omega) (by omega),hU _ ?_⟩
   clear hU U
   have eh:((((bl a:Nat):Int)-1)/2+1)=(((bl a-1)/2+1:Nat):Int):=by omega
   have e1:(1:Int)*2 ^ ((((bl a:Nat):Int)-1)/2+1).toNat=((2 ^ ((bl a-1)/2+1):Nat):Int):=by
    rw[eh,show(1:Int)=((1:Nat):Int) from rfl,rM,DT]
   have big:2 ^ ((bl a-1)/2+1)<=2 ^ 40:=zj (by decide) (by omega)
   have o1:bl (1:Int).natAbs=1:=by decide
   refine aB λU hU=>?_
   walk_at"l3"
   rw[e1]
   have eh1:((2 ^ ((bl a-1)/2+1):Nat):Int)<=2 ^ 40:=by exact_mod_cast big
   have nn:(0:Int)<=((2 ^ ((bl a-1)/2+1):Nat):Int):=MB _
   refine⟨⟨by omega,by omega⟩,_,_,⟨rfl,rfl⟩,⟨by decide,by decide,by omega,by omega⟩,?_⟩
   have en:(((2 ^ ((bl a-1)/2+1):Nat):Int)-2).toNat=2 ^ ((bl a-1)/2+1)-2:=by omega
   rw[en]
   refine fU.mk (λi δ=>(∃o1 o2,δ=[some (.int a),o1,o2])/\∀j,j<i->md a (2+j)≠0) ⟨⟨_,_,rfl⟩,λj hj=>absurd hj (by omega)⟩ ?_ ?_
   ·rintro i d δ hd ⟨⟨o1,o2,rfl⟩,inv⟩
    obtain⟨hi,rfl⟩:i<2 ^ ((bl a-1)/2+1)-2/\d=.int (2+(i:Int)):=by
     rw[dm]at hd
     by_cases hi:i<2 ^ ((bl a-1)/2+1)-2
     ·rw[mS hi]at hd
      exact⟨hi,(cP hd).symm⟩
     ·rw[kN (by simpa using hi)]at hd;cases hd
    have bi:bl (2+i)<=60:=by
     have:=(Zk h2 (show 2+i<2 ^ ((bl a-1)/2+1) by omega)).2
     omega
    walk_at"l3"
    refine⟨a,2+i,by rw[show((2+i:Nat):Int)=2+(i:Int) by omega],by omega,by omega,by omega,λ_ x r e l=>?_⟩
    have em:md a (2+i)=r:=wU e l
    refine⟨.int r,rfl,rfl,?_⟩
    rw[iU]
    split
    ·rename_i hz
     have r0:r=0:=by have:=of_decide_eq_true hz;omega
     rw[Zj hi (em.trans r0)]at q
     exact q
    ·rename_i hz
     refine⟨⟨_,_,rfl,rfl⟩,λj hj=>?_⟩
     by_cases ej:j=i
     ·rw[ej,em]
      intro r0
      exact hz (decide_eq_true (by omega))
     ·exact inv j (by omega)
   ·rintro δ ⟨⟨o1,o2,rfl⟩,inv⟩
    rw[cQ,eB]at inv
    rw[Zi h2 inv]at q
    refine hU _ ?_
    walk_at"l3"
    exact q
noncomputable abbrev aE1:bx:=λds Q=>∃a:Int,ds=[.int a]/\Q (.bl (decide (4<=a)&&decide (a<=127)&&al a.toNat))
theorem aE2(T:Txt K mg t):aO P w K mg base aZ 3 t.Hg t.Hh ["bits"] (bC (aE1 )):=by
 refine cx T.SE aC0 ?_ ?_
 ·intro ds Q h
  obtain⟨a,rfl,q⟩:=h<;>rfl
 ·intro aG A outer s H E hr
  refine⟨_,(aK (bb (pf (ae (Fp xg xg (ae aq) (bv 0) (ae aq))) (rC (bE ((aI9 T).mono (by decide)) hr rfl T.dj7 T.SD.kp T.dj8 bj (ak (bv 0) aA)))))),λds Q h=>?_⟩
  obtain⟨a,rfl,q⟩:=h
  walk_at"l3"
  split
  ·rename_i h1
   split
   ·rename_i h2
    refine⟨a.toNat,by rw[zA (by omega)],?_,?_⟩
    ·have:bl a.toNat<=bl 127:=EF (by omega)
     exact eu this (by decide)
    ·have e:(decide (4<=a)&&decide (a<=127)&&al a.toNat)=al a.toNat:=by simp[h1,h2]
     rw[e]at q;exact q
   ·rename_i h2
    have e:(decide (4<=a)&&decide (a<=127)&&al a.toNat)=false:=by simp[h2]
    rw[e]at q;exact q
  ·rename_i h1
   have e:(decide (4<=a)&&decide (a<=127)&&al a.toNat)=false:=by simp[h1]
   rw[e]at q;exact q
noncomputable abbrev aK9:bx:=λds Q=>∃a b:Nat,ds=[.int a,.int b]/\bl a<=1000/\bl b<=1000/\Q (.int (cl a b:Nat))
theorem aL0(T:Txt K mg t):aO P w K mg base aZ 1 t.Hi t.Hj ["a","b"] (bC (aK9 )):=by
 refine cx T.SF BS ?_ ?_
 ·intro ds Q h
  obtain⟨a,b,rfl,ha,hb,q⟩:=h<;>rfl
 ·intro aG A outer s H E hr
  refine⟨_,(aC (aU (i:=2) BS.nd rfl (ay rfl) aq)
   (aC (jb fu rfl (sE rfl T.jj (ak (ae (mj (bv 1))) aA)) (fb (i:=3) BS.nd rfl (ay rfl))
    (aK (dG (cN (et (cO hr)) (ae (aH Pn (ae (aH Pm (bv 1) (bv 3))) (ae aq))) (ae aq) (bY _)) (aK (sj (i:=2) BS.nd rfl (ay rfl) (ae (aH sQ (bv 0) (bv 3))) Fg)) dv)))
   (aK (bb (em 2))))),λds Q h=>?_⟩
  obtain⟨a,b,rfl,ha,hb,q⟩:=h
  refine aB λU hU=>?_
  walk_at"l3"
  refine hU _ ?_
  clear hU U
  refine aB λU hU=>?_
  walk_at"l3"
  simp only[gY]
  refine⟨⟨by omega,by omega⟩,cc9 (λi δ=>∃o,δ=[some (.int a),some (.int b),some (.int (Mf.P a b i:Nat)),o]) ⟨none,rfl⟩ ?_ ?_⟩
  ·rintro i δ hi ⟨o,rfl⟩
   walk_at"l3"
   refine⟨by omega,?_⟩
   have Ce:(mJ ((b:Int)/2 ^ ((i:Int)).toNat) 1=1)↔b.testBit i=true:=by
    have h:=Zs b i
    rw[MU]at h
    rw[<-h,dI]
   split
   ·rename_i hc
    have h:=Zt (a:=a) (Ce.mp hc)
    rw[MU]at h
    exact⟨⟨by omega,by rw[gY];omega⟩,_,h,rfl⟩
   ·rename_i hc
    exact⟨_,by rw[Zu (λz=>hc (Ce.mpr z))],rfl⟩
  ·rintro δ ⟨o,rfl⟩
   refine hU _ ?_
   walk_at"l3"
   exact q
noncomputable abbrev aN3:List D->List Str->List D->Prop:=λds ns xs=>∃p:Nat,ds=[.int p]/\p∈fY/\ns=fZ "bits"++[("products":Str)]/\xs=[.int p,.int (ah (true,p)),.int ((bl (ah (true,p)):Nat)-1),.lst true (nums (fl (true,p))),.lst true (nums (dy (fl (true,p)))),.int (fst (true,p)),.lst true (nK (fl (true,p)) (dy (fl (true,p))))]
theorem aH4(T:Txt K mg t)(hB:Bm mg base):aO P w K mg base aZ 8 t.Hk t.BZ ["self","bits"] (FZ [t.jK,t.jL] t.aJ aN3):=by
 refine QM T.aI0 T.aH2 Sj (λvs H Q E h=>?_) λA outer s H vs Q E hr h=>?_
 ·obtain⟨x,dx,ck,ds,ns,xs,rfl,_,_,r,⟨p,rfl,_⟩,_⟩:=h
  have:=r.length
  simp at this
  simp[this]
 obtain⟨x,dx,ck,ds,ns,xs,rfl,tb,hx,r,⟨p,rfl,hp,rfl,rfl⟩,q⟩:=h
 obtain rfl:ck=[.int p]:=by
  cases r with
  | int r=>cases r;rfl
 have hm:(true,p)∈aF:=fq _ (DI hp)
 have hF:=bN hm
 refine⟨_,jq (zY (D1 (D0 (oQ ((aE2 T).mono (by decide)) hr rfl T.dj9 T.SE.kp T.dk0 .nil bj (dO (pv 1) gu)))) (rD Np) zX)
  (jq (m5 (pv 0) (pv 1) rfl)
  (jq (Nt (i:=2) Sj.nd rfl (ay rfl) (z8 OC oF (z8 Ef (EG (pv 1)) oF)))
  (jq (D2 (QF (E:=E0) (i:=1) T.S6 ((Tc T).mono (by decide)) hr T.Sw rfl T.vD rfl rfl rfl rfl (dO (pv 0) (dO (pv 2) (dO (Qx rfl rfl T.aH3 hB) gu)))))
  (rD (m5 (pv 0) (oQ ((aI6 T).mono (by decide)) hr rfl T.dj5 T.Sy.kp T.dj6 .nil bj (dO (Ab (pv 0) rfl) (dO (Ab (pv 0) rfl) gu))) rfl))))),?_⟩
 refine⟨_,rfl,H,[.int p],λd=>d=.bl true,aa.refl _,.int .nil,⟨p,rfl,by rw[cc7 p hp]⟩,λd v F' H1 A1 hd qN hf he h3 r nd fr=>?_⟩
 subst hd
 cases r
 refine⟨true,rfl,?_⟩
 refine j5 ?_
 have dQ:=qN.get _ _ hx
 refine⟨.int p,rfl,.ref x,rfl,x,t.aJ,dx,_,rfl,dQ,T.fm,T.yF,by decide,?_⟩
 generalize e2:upd H1 x (HO.ins t.aJ dx (eN "bits" (.int p) []))=H2
 have fx:H2 x=some (.ins t.aJ dx [(("bits":Str),.int p)]):=by rw[<-e2,bV];rfl
 have s2:de x H H2:=by rw[<-e2];exact(qN.x (x:=x)).trans (de.upd (C:=x) (dx:=dx) dQ rfl)
 have n2:∀p,H2 p=none->H p=none:=λp h=>qN.free (yf dQ (by rw[e2];exact h))
 obtain⟨ps,hP⟩:=tb t.jL (by simp)
 obtain⟨more,Ja⟩:=s2.tb _ ps hP
 have bp:bl p<=7:=QX p hp
 have Cf:1<=bl p:=QY p hp
 refine⟨.int p,rfl,rfl,p,rfl,rfl,_,_,rfl,rfl,_,_,rfl,rfl,?_,?_⟩
 ·have o1:bl (1:Int).natAbs=1:=by decide
  rw[gY]
  exact⟨by omega,by omega⟩
 have em:(1:Int)*2 ^ (((bl ((p:Int)).natAbs:Nat):Int)-1).toNat=((ah (true,p):Nat):Int):=by
  rw[gY,show(((bl p:Nat):Int)-1)=((bl p-1:Nat):Int) by omega,show(1:Int)=((1:Nat):Int) from rfl,rM,DT];rfl
 show z0 2 (.int ((1:Int)*2 ^ (((bl ((p:Int)).natAbs:Nat):Int)-1).toNat)) _ _ _
 rw[em]
 refine⟨.ref x,rfl,.int (ah (true,p)),rfl,⟨_,Ja⟩,λf k qn pm il H3 nf Jb hk kf mH hl3=>?_⟩
 refine⟨f,_,_,.int p,Jb,rfl,rfl,λoc u g5 hu nc nH=>?_⟩
 obtain⟨tm,rfl⟩:∃tm,u=fG p tm:=hu
 have kD:=mH.get _ _ fx
 refine⟨x,dx,f,t.aJ,"bits",p,ah (true,p),_,oc,_,k,gm (true,p),fl (true,p),fst (true,p),rfl,yg kD (λz=>by rw[z,nf]at fx;cases fx) nc,by decide,⟨T.fm,T.qG,T.yH,T.qH,T.nU,T.yG,T.vz⟩,QT nH nc hk kf,?_,hF,λH' p1 p2 sx dR uB oU ne y7 qM=>?_⟩
 ·refine QK (n:=3) ⟨rfl,rfl,rfl,by decide,rfl,rfl,by decide,by decide,rfl⟩ g5 (λu1 u2=>rfl) λq f A outer s H E hr=>?_
  refine⟨_,eT (cG (ae (bE (AS ((Te T).mono (by decide))) hr rfl T.Sz T.IH.kp T.SA AR (ak (ae (bE ((aL0 T).mono (by decide)) hr rfl T.dk1 T.SF.kp T.dk2 bj (ak (bv 0) (ak (bv 1) aA)))) (ak (bv 2) aA)))) (ae aq) (λ_ _=>rfl)),λi j Qd h=>?_⟩
  obtain⟨a,b,rfl,rfl,ha,hb,hq⟩:=h
  walk_at"l3"
  have b1:bl a<=6:=by
   have:bl a<=bl 63:=EF (by omega)
   exact eu this (by decide)
  have b2:bl b<=6:=by
   have:bl b<=bl 63:=EF (by omega)
   exact eu this (by decide)
  have p0:p≠0:=by
   intro z
   rw[z]at Cf
   exact absurd Cf (by decide)
  refine⟨a,b,rfl,by omega,by omega,cl a b,p,rfl,eu (bV5 a b) (by omega),by omega,λz=>p0 z,λ_ x r e l=>⟨by simp[D.pl],.int r,rfl,rfl,r,rfl,?_⟩⟩
  have er:gm (true,p) a b=r:=wU e l
  rw[<-er];exact hq
 ·have gf:H' f=some (.ext (iJ _ oc _ f)):=sx.get f _ (λz=>by rw[z]at nf;rw[nf]at fx;cases fx) (by rw[aN nH.symm,bV]) rfl
  have gc:=sx.get _ _ (dN kD nc).symm bV rfl
  refine⟨gf,gc,?_⟩
  have s4:=s2.trans (QS mH nf nc sx)
  have f1:=n2 _ (Bh mH y7)
  have f2:=n2 _ (Bh mH qM)
  have l1:=uB.rem gf gc
  have l2:=oU.rem gf gc
  have nV:rem H' f (s.heap.objs.size+1) x=some (.ins t.aJ dx ((fZ "bits").zip (Bf p (ah (true,p)) p1 p2 (fst (true,p))))):=by
   rw[fX (λz=>by rw[z,gf]at dR;cases dR) (λz=>by rw[z,gc]at dR;cases dR)];exact dR
  generalize rem H' f (s.heap.objs.size+1)=H4 at s4 l1 l2 nV
  refine⟨.ref x,rfl,x,t.aJ,dx,_,.ref p1,rfl,nV,T.fm,T.qH,rfl,.ref x,rfl,x,t.aJ,dx,_,.ref p2,rfl,nV,T.fm,T.nU,rfl,H4,[.lst false (nums (fl (true,p))),.lst false (nums (dy (fl (true,p))))],λd=>d=.lst true (nK (fl (true,p)) (dy (fl (true,p)))),aa.refl _,.shr l1 (jB _) (.shr l2 (jB _) .nil),
   ⟨_,_,rfl,by have:=hF.len;have:=hF.lo;omega,by have:=hF.len;have:=hF.hi;omega,yd _ _,QW _ _,rfl⟩,λd v F' H5 A' hd nW hf he h3 r nd fr=>?_⟩
  subst hd
  obtain⟨p3,rfl⟩:∃p3,v=.ref p3:=by cases r;exact⟨_,rfl⟩
  have kE:=nW.get _ _ nV
  have nA:∀{a ws},H4 a=some (.lst ws)->a ∉ A':=λ{a ws} e z=>by rw[fr a z]at e;cases e
  refine⟨.ref x,rfl,x,t.aJ,dx,_,rfl,kE,T.fm,T.qI,kM (aY 6) (by decide),?_⟩
  refine q _ (Bf p (ah (true,p)) p1 p2 (fst (true,p))++[.ref p3]) (p1::p2::A') ((s4.trans (nW.x (x:=x))).trans (de.upd (C:=x) (dx:=dx) kE rfl)) (by rw[bV];rfl) rfl ?_ ?_ ?_
  ·exact .int (.int (.int (.own ((l1.same nW).upd kE (λws z=>by cases z)) rfl (jB _) (.own ((l2.same nW).upd kE (λws z=>by cases z)) rfl (jB _) (.int ((r.Ap (by simp[ib,QV]) (aa.of λb o e=>by cases e)).ye kE (by simp[ib,QV])))))))
  ·exact i5.mpr ⟨by simp[ne];exact nA l1,i5.mpr ⟨nA l2,nd⟩⟩
  ·intro a ha
   rcases bG.mp ha with rfl | ha
   ·exact f1
   ·rcases bG.mp ha with rfl | ha
    ·exact f2
    ·exact s4.free (by rw[nV];simp) (fr a ha)
noncomputable abbrev aL1(cb cp:Addr):bx:=λds Q=>∃m:Bool × Nat,ds=[dJ m]/\m∈aF/\Q (fD cb cp m)
theorem aL2(T:Txt K mg t)(hB:Bm mg base):aO P w K mg base aZ 10 t.Hl t.Hm ["_law_told_here"] (xY [t.jK,t.jL] (bC (aL1 t.aJ t.aM))):=by
 refine QL T.SG aK0 ?_ ?_
 ·intro ds Q h
  obtain⟨m,rfl,hm,q⟩:=h<;>rfl
 ·intro aG A outer s H E hT hr
  refine⟨_,(aC (dG (ja (cG (bv 0) (ae aq) (λ_ _=>rfl))) (aK (bb (QO hT T.yE ((aH4 T hB).mono (by decide)) hr rfl T.yY T.aI1 bj (ak (cG (bv 0) (ae aq) (λ_ _=>rfl)) aA)))) dv)
   (aK (bb (QO hT T.yO ((aE0 T hB).mono (by decide)) hr rfl T.y6 T.aF5 bj (ak (cG (bv 0) (ae aq) (λ_ _=>rfl)) aA))))),λds Q h=>?_⟩
  obtain⟨m,rfl,hm,q⟩:=h
  unfold dJ at *
  refine aB λU hU=>?_
  walk_at"l3"
  obtain⟨b,n⟩:=m
  cases b with
  | true =>
   refine⟨_,rfl,true,rfl,?_⟩
   rw[if_pos rfl]
   refine⟨_,rfl,_,_,⟨n,rfl,Bl hm,rfl,rfl⟩,?_⟩
   rw[cv0];exact q
  | false =>
   refine⟨_,rfl,false,rfl,?_⟩
   rw[if_neg (by decide)]
   refine hU _ ?_
   walk_at"l3"
   refine⟨_,rfl,_,_,⟨n,rfl,bx3 hm,rfl,rfl⟩,?_⟩
   rw[bU6];exact q
noncomputable abbrev aN4:bx:=λds Q=>∃m:Bool × Nat,ds=[dJ m]/\bl m.2<=1000/\1<=bl m.2/\Q (.int (ah m:Nat))
theorem aN5(T:Txt K mg t):aO P w K mg base aZ 1 t.Ho t.Hq ["_law_told_here"] (bC (aN4 )):=by
 refine cx T.SH aM0 ?_ ?_
 ·intro ds Q h
  obtain⟨m,rfl,h1,h2,q⟩:=h<;>rfl
 ·intro aG A outer s H E hr
  refine⟨_,(aC (dG (ja (cG (bv 0) (ae aq) (λ_ _=>rfl))) (aK (bb (aH sQ (ae aq) (ae (aH gG (ae (mj (cG (bv 0) (ae aq) (λ_ _=>rfl)))) (ae aq)))))) dv)
   (aK (bb (eT (cG (bv 0) (ae aq) (λ_ _=>rfl)))))),λds Q h=>?_⟩
  obtain⟨m,rfl,h1,h2,q⟩:=h
  unfold dJ at *
  refine aB λU hU=>?_
  walk_at"l3"
  obtain⟨b,n⟩:=m
  cases b with
  | true =>
   refine⟨_,rfl,true,rfl,?_⟩
   rw[if_pos rfl]
   refine⟨_,rfl,?_⟩
   have o1:bl (1:Int).natAbs=1:=by decide
   have e:(1:Int)*2 ^ (((bl ((n:Int)).natAbs:Nat):Int)-1).toNat=((ah (true,n):Nat):Int):=by
    have iF:1<=bl n:=h2
    rw[gY,show(((bl n:Nat):Int)-1)=((bl n-1:Nat):Int) by omega,show(1:Int)=((1:Nat):Int) from rfl,rM,DT];rfl
   refine⟨?_,by rw[e];exact q⟩
   rw[gY]
   have i8:bl n<=1000:=h1
   have iF:1<=bl n:=h2
   exact⟨by omega,by omega⟩
  | false =>
   refine⟨_,rfl,false,rfl,?_⟩
   rw[if_neg (by decide)]
   refine hU _ ?_
   walk_at"l3"
   exact⟨_,rfl,rfl,q⟩
noncomputable abbrev aP1:bx:=λds Q=>∃l:List Nat,ds=[.lst false (au l)]/\l.length<=1000/\Q (.lst true (au (bw l)))
theorem vE(T:Txt K mg t):aO P w K mg base aZ 1 t.Hr t.Hs ["a"] (bC (aP1 )):=by
 refine cx T.qD GV ?_ ?_
 ·intro ds Q h
  obtain⟨l,rfl,hl,q⟩:=h<;>rfl
 ·intro aG A outer s H E hr
  refine⟨_,(aC (aU (i:=1) GV.nd rfl (ay rfl) (fB (gH) (by rfl) T.gP gA (ak (bv 0) aA)))
   (aC (su fu (PW.pt (O6 (cN Fh (bv 1) (ae aq) (bY _)) (Nn (cN (et (cO hr)) (cG (bv 0) (ae (aH gG (bv 1) (ae aq))) (λ_ _=>rfl)) (ae aq) (bY _)))))
    (aK (sj (i:=1) GV.nd rfl (ay rfl) (ae aq) cy3)))
   (aK (bb (ub (bv 0) xj (pU (bv 1))))))),λds Q h=>?_⟩
  obtain⟨l,rfl,hl,q⟩:=h
  refine aB λU hU=>?_
  walk_at"l3"
  refine hU _ ?_
  clear hU U
  refine aB λU hU=>?_
  walk_at"l3"
  refine⟨λn δ=>∃k:Nat,δ=[some (.lst false (au l)),some (.int (k:Nat))]/\k<=l.length/\(∀x∈l.drop k,x=0)/\n=k,⟨l.length,l.length,rfl,aY _,by simp,rfl⟩,?_⟩
  rintro n δ ⟨k,rfl,hk,hz,rfl⟩
  walk_at"l3"
  have fin:(n=0\/l.getD (n-1) 0≠0)->U [some (.lst false (au l)),some (.int (n:Nat))]:=λh=>by
   refine hU _ ?_
   walk_at"l3"
   rw[Gi hk hz h]at q
   rw[show dS l none (some (n:Int))=l.take n from FL l n]
   exact q
  split
  ·rename_i h1
   refine⟨_,By (by omega) (by omega),rfl,?_⟩
   rw[iU,show((n:Int)-1).toNat=n-1 by omega]
   by_cases h0:l.getD (n-1) 0=0
   ·rw[if_pos (by rw[h0];rfl)]
    refine⟨n-1,by omega,n-1,by omega,by omega,bQ0 (by omega) hk hz h0,rfl⟩
   ·rw[if_neg (by simp only[decide_eq_true_eq];omega)]
    exact fin (.inr h0)
  ·rename_i h1
   exact fin (.inl (by omega))
noncomputable abbrev Tf:bx:=λds Q=>∃(d:D) (a b:Nat),ds=[d,.int a,.int b]/\Q (.int (a ^^^ b:Nat))
theorem aH5(T:Txt K mg t):aO P w K mg base aZ 1 t.Ht t.Hu ["self","a","b"] (bC (Tf )):=by
 refine cx T.aI2 aG5 ?_ ?_
 ·intro ds Q h
  obtain⟨d,a,b,rfl,q⟩:=h<;>rfl
 ·intro aG A outer s H E hr
  refine⟨_,(aK (bb (aH sU (bv 1) (bv 2)))),λds Q h=>?_⟩
  obtain⟨d,a,b,rfl,q⟩:=h
  walk_at"l3"
  rw[lh];exact q
noncomputable abbrev Tg(K:Frag):bx:=λds Q=>∃(C:Addr) (p:Nat) (a b:Int),ds=[qh C p,.int a,.int b]/\dq K C/\cj K C "prime"/\0<p/\Q (.int ((a+b)%p))
theorem aE3(T:Txt K mg t):aO P w K mg base aZ 1 t.Hv t.Hw ["self","a","b"] (bC (Tg K)):=by
 refine cx T.aF6 aC1 ?_ ?_
 ·intro ds Q h
  obtain⟨C,p,a,b,rfl,hC,hn,hp,q⟩:=h<;>rfl
 ·intro aG A outer s H E hr
  refine⟨_,(aK (bb (aH dH (ae (aH eE (bv 1) (bv 2))) (jh (K:=K) (bv 0))))),λds Q h=>?_⟩
  obtain⟨C,p,a,b,rfl,hC,hn,hp,q⟩:=h
  walk_at"l3"
  refine⟨C,_,_,.int p,rfl,hC,hn,rfl,?_⟩
  exact⟨by omega,q⟩
theorem Th(T:Txt K mg t){m:Bool × Nat}(h0:0<m.2):∃C ns xs sp,fD t.aJ t.aM m=.obj C ns xs/\qf P w K mg base 1 "plus" C sp/\("plus":Str) ∉ ns/\∀(a b:Nat) (Q:D->Prop),Q (.int (gp m a b:Nat))->sp [.obj C ns xs,.int a,.int b] Q:=by
 obtain⟨k,n⟩:=m
 cases k with
 | true=>exact⟨_,_,_,Tf,rfl,⟨T.fm,_,_,_,T.yM,aH5 T,T.aI3⟩,by decide,λa b Q q=>⟨_,a,b,rfl,q⟩⟩
 | false =>
  refine⟨_,_,_,Tg K,rfl,⟨T.fo,_,_,_,T.yV,aE3 T,T.aF7⟩,by decide,λa b Q q=>⟨_,n,a,b,rfl,T.fo,T.kC,h0,?_⟩⟩
  have e:((gp (false,n) a b:Nat):Int)=((a:Int)+b)%n:=by
   show(((a+b)%n:Nat):Int)=_
   rw[mV,DH]
  rw[<-e];exact q
noncomputable abbrev Ti(K:Frag):bx:=λds Q=>∃(C:Addr) (p a b:Nat),ds=[yh C p,.int a,.int b]/\dq K C/\cj K C "products"/\p∈fY/\a<ah (true,p)/\b<ah (true,p)/\Q (.int (gm (true,p) a b:Nat))
theorem aF8(T:Txt K mg t):aO P w K mg base aZ 1 t.Hx t.Hy ["self","a","b"] (bC (Ti K)):=by
 refine cx T.aG6 aF1 ?_ ?_
 ·intro ds Q h
  obtain⟨C,p,a,b,rfl,hC,hn,hp,ha,hb,q⟩:=h<;>rfl
 ·intro aG A outer s H E hr
  refine⟨_,(aK (bb (eT (cG (cG (jh (K:=K) (bv 0)) (bv 1) (λ_ _=>rfl)) (bv 2) (λ_ _=>rfl))))),λds Q h=>?_⟩
  obtain⟨C,p,a,b,rfl,hC,hn,hp,ha,hb,q⟩:=h
  walk_at"l3"
  refine⟨C,_,_,_,rfl,hC,hn,rfl,?_⟩
  exact⟨_,Q7 hp ha,_,Q6 hp ha hb,rfl,q⟩
noncomputable abbrev Tj(K:Frag):bx:=λds Q=>∃(C:Addr) (p:Nat) (a b:Int),ds=[qh C p,.int a,.int b]/\dq K C/\cj K C "prime"/\0<p/\IntMulOk a b/\Q (.int (a*b%p))
theorem aB6(T:Txt K mg t):aO P w K mg base aZ 1 t.Hz t.HA ["self","a","b"] (bC (Tj K)):=by
 refine cx T.aC5 aA9 ?_ ?_
 ·intro ds Q h
  obtain⟨C,p,a,b,rfl,hC,hn,hp,hm,q⟩:=h<;>rfl
 ·intro aG A outer s H E hr
  refine⟨_,(aK (bb (aH dH (ae (aH lZ (bv 1) (bv 2))) (jh (K:=K) (bv 0))))),λds Q h=>?_⟩
  obtain⟨C,p,a,b,rfl,hC,hn,hp,hm,q⟩:=h
  walk_at"l3"
  exact⟨hm,C,_,_,.int p,rfl,hC,hn,rfl,by omega,q⟩
theorem Tn(T:Txt K mg t){m:Bool × Nat}(hm:m∈aF){a b:Nat}(ha:a<ah m)(hb:b<ah m){Q:D->Prop}(q:Q (.int (gm m a b:Nat))):Ra P w K mg base 1 t.aJ t.aM m "times" [.int a,.int b] Q:=by
 have hF:=bN hm
 obtain⟨k,n⟩:=m
 cases k with
 | true=>exact⟨_,_,_,Ti K,rfl,⟨T.fm,_,_,_,T.yN,aF8 T,T.aG7⟩,by decide,_,n,a,b,rfl,T.fm,T.qI,Bl hm,ha,hb,q⟩
 | false =>
  have Cg:n<=64:=hF.hi
  have AO:a<n:=ha
  have j6:b<n:=hb
  refine⟨_,_,_,Tj K,rfl,⟨T.fo,_,_,_,T.yW,aB6 T,T.aC6⟩,by decide,_,n,a,b,rfl,T.fo,T.kC,by omega,oK.ok (.inr ⟨by omega,by omega⟩),?_⟩
  have e:((gm (false,n) a b:Nat):Int)=(a:Int)*b%n:=by
   show((a*b%n:Nat):Int)=_
   rw[mV,zR]
  rw[<-e];exact q
noncomputable abbrev aL3(cb cp:Addr):bx:=λds Q=>∃(m:Bool × Nat) (a b:List Nat),ds=[fD cb cp m,.lst false (au a),.lst false (au b)]/\m∈aF/\AllLt (ah m) a/\AllLt (ah m) b/\a.length+b.length<=1000/\Q (.lst true (au (my m a b)))
theorem aL4(T:Txt K mg t):aO P w K mg base aZ 2 t.HB t.HC ["field","a","b"] (bC (aL3 t.aJ t.aM)):=by
 refine cx T.SI BU ?_ ?_
 ·intro ds Q h
  obtain⟨m,a,b,rfl,hm,ha,hb,hl,q⟩:=h<;>rfl
 ·intro aG A outer s H E hr
  refine⟨_,(aC (aU (i:=3) BU.nd rfl (ay rfl) (aH lZ (ae (gE (eD aq e8))) (ae (aH eE (ae (fB (gH) (by rfl) T.gP gA (ak (bv 1) aA))) (ae (fB (gH) (by rfl) T.gP gA (ak (bv 2) aA)))))))
   (aC (jb fu rfl (FJ rfl T.IV (ak (bv 1) aA)) (xV (i1:=4) (i2:=5) rfl BU.nd rfl (ay rfl) rfl (ay rfl))
    (aK (jb fu rfl (FJ rfl T.IV (ak (bv 2) aA)) (xV (i1:=6) (i2:=7) rfl BU.nd rfl (ay rfl) rfl (ay rfl))
     (aK (Fu (i:=3) rfl (by first | exact ay rfl | exact bU (ay rfl)) (nL (P:=P) (w:=w) (K:=K) (mg:=mg) (base:=base) (n:=1) (bv 0) (hr.mono (by decide)) (ak (cG (bv 3) (ae (aH eE (bv 4) (bv 6))) (λ_ _=>rfl)) (ak (ae (nL (P:=P) (w:=w) (K:=K) (mg:=mg) (base:=base) (n:=1) (bv 0) (hr.mono (by decide)) (ak (bv 5) (ak (bv 7) aA)))) aA))) (ae (aH eE (bv 4) (bv 6))))))))
   (aK (bb (bE ((vE T).mono (by decide)) hr rfl T.vx T.qD.kp T.vy bj (ak (bv 3) aA)))))),λds Q h=>?_⟩
  obtain⟨m,a,b,rfl,hm,ha,hb,hl,q⟩:=h
  have m0:=bR m hm
  refine aB λU hU=>?_
  walk_at"l3"
  refine⟨by decide,⟨by omega,by omega,by omega⟩,?_⟩
  rw[show nums (aQ ((a.length:Int)+(b.length:Int)).toNat 0)=au (aQ (a.length+b.length) 0) by rw[ff,zE];unfold nums;rw[zE];rfl]
  refine hU _ ?_
  clear hU U
  refine aB λU hU=>?_
  walk_at"l3"
  refine fU.mk (λi δ=>∃o4 o5 o6 o7,δ=[some (fD t.aJ t.aM m),some (D.lst false (au a)),some (D.lst false (au b)),some (D.lst true (au (gb m b (aQ (a.length+b.length) 0) 0 (a.take i)))),o4,o5,o6,o7]) ⟨_,_,_,_,rfl⟩ ?_ ?_
  ·rintro i d δ hd ⟨o4,o5,o6,o7,rfl⟩
   obtain⟨hi,rfl⟩:=Ru hd
   clear hd
   generalize hT:gb m b (aQ (a.length+b.length) 0) 0 (a.take i)=tt
   have lT:tt.length=a.length+b.length:=by rw[<-hT,Gk,kI]
   have bT:AllLt (ah m) tt:=by rw[<-hT];exact Gn hm b _ _ _ (qm hm _)
   walk_at"l3"
   refine fU.mk (λj δ=>∃o6 o7,δ=[some (fD t.aJ t.aM m),some (D.lst false (au a)),some (D.lst false (au b)),some (D.lst true (au (eF m a[i] tt i (b.take j)))),some (D.int i),some (D.int (a[i]:Nat)),o6,o7]) ⟨_,_,rfl⟩ ?_ ?_
   ·rintro j d δ hd ⟨o6,o7,rfl⟩
    obtain⟨hj,rfl⟩:=Ru hd
    clear hd
    have lP:(eF m a[i] tt i (b.take j)).length=a.length+b.length:=by rw[yn,lT]
    have bP:AllLt (ah m) (eF m a[i] tt i (b.take j)):=yo hm _ _ _ _ bT
    obtain⟨C,ns,xs,sp,e1,e2,e3,e4⟩:=Th (P:=P) (w:=w) (base:=base) T m0
    walk_at"l3"
    refine⟨C,ns,xs,sp,e1,e2,e3,_,By (by omega) (by omega),Tn T hm (ha _ (i6 _)) (hb _ (i6 _)) (e4 _ _ _ ⟨rfl,_,((i:Int)+(j:Int)).toNat,rfl,Gq (by omega) (by rw[dw];omega),_,_,?_,rfl,rfl⟩)⟩
    rw[b68 m _ b tt i hj,Rp,show((i:Int)+(j:Int)).toNat=i+j by omega];rfl
   ·rintro δ ⟨o6,o7,rfl⟩
    rw[p5,dw,zo,b72 m b a _ 0 hi,hT,Nat.zero_add]
    exact⟨_,_,_,_,rfl⟩
  ·rintro δ ⟨o4,o5,o6,o7,rfl⟩
   rw[p5,dw,zo]
   refine hU _ ?_
   walk_at"l3"
   have:=bJ6 m a b
   exact⟨mx m a b,rfl,by rw[this];exact hl,by rw[ib,Rq];rfl,q⟩
noncomputable abbrev To:bx:=λds Q=>∃(d:D) (a b:Nat),ds=[d,.int a,.int b]/\Q (.int (a ^^^ b:Nat))
theorem aF9(T:Txt K mg t):aO P w K mg base aZ 1 t.HD t.HE ["self","a","b"] (bC (To )):=by
 refine cx T.aG8 aF2 ?_ ?_
 ·intro ds Q h
  obtain⟨d,a,b,rfl,q⟩:=h<;>rfl
 ·intro aG A outer s H E hr
  refine⟨_,(aK (bb (aH sU (bv 1) (bv 2)))),λds Q h=>?_⟩
  obtain⟨d,a,b,rfl,q⟩:=h
  walk_at"l3"
  rw[lh];exact q
noncomputable abbrev Tp(K:Frag):bx:=λds Q=>∃(C:Addr) (p:Nat) (a b:Int),ds=[qh C p,.int a,.int b]/\dq K C/\cj K C "prime"/\0<p/\Q (.int ((a-b)%p))
theorem aB7(T:Txt K mg t):aO P w K mg base aZ 1 t.HF t.HG ["self","a","b"] (bC (Tp K)):=by
 refine cx T.aC7 aB0 ?_ ?_
 ·intro ds Q h
  obtain⟨C,p,a,b,rfl,hC,hn,hp,q⟩:=h<;>rfl
 ·intro aG A outer s H E hr
  refine⟨_,(aK (bb (aH dH (ae (aH gG (bv 1) (bv 2))) (jh (K:=K) (bv 0))))),λds Q h=>?_⟩
  obtain⟨C,p,a,b,rfl,hC,hn,hp,q⟩:=h
  walk_at"l3"
  refine⟨C,_,_,.int p,rfl,hC,hn,rfl,?_⟩
  exact⟨by omega,q⟩
theorem ci4(T:Txt K mg t){m:Bool × Nat}(h0:0<m.2):∃C ns xs sp,fD t.aJ t.aM m=.obj C ns xs/\qf P w K mg base 1 "minus" C sp/\("minus":Str) ∉ ns/\∀(a b:Nat) (Q:D->Prop),Q (.int (gl m a b))->sp [.obj C ns xs,.int a,.int b] Q:=by
 obtain⟨k,n⟩:=m
 cases k with
 | true=>exact⟨_,_,_,To,rfl,⟨T.fm,_,_,_,T.yJ,aF9 T,T.aG9⟩,by decide,λa b Q q=>⟨_,a,b,rfl,q⟩⟩
 | false=>exact⟨_,_,_,Tp K,rfl,⟨T.fo,_,_,_,T.yS,aB7 T,T.aC8⟩,by decide,λa b Q q=>⟨_,n,a,b,rfl,T.fo,T.kC,h0,q⟩⟩
noncomputable abbrev aN6(cb cp:Addr):bx:=λds Q=>∃(m:Bool × Nat) (r:Nat),ds=[fD cb cp m,.int r]/\m∈aF/\r<ah m/\Q (.lst true (au [df m r,1]))
theorem Tq(T:Txt K mg t):aO P w K mg base aZ 2 t.HH t.HI ["field","r"] (bC (aN6 t.aJ t.aM)):=by
 refine cx T.II aM1 ?_ ?_
 ·intro ds Q h
  obtain⟨m,r,rfl,hm,Ae,q⟩:=h<;>rfl
 ·intro aG A outer s H E hr
  refine⟨_,(aK (bb (gE (eD (nL (P:=P) (w:=w) (K:=K) (mg:=mg) (base:=base) (n:=1) (bv 0) (hr.mono (by decide)) (ak (ae aq) (ak (bv 1) aA))) (eD aq e8))))),λds Q h=>?_⟩
  obtain⟨m,r,rfl,hm,Ae,q⟩:=h
  have dE:=(bN hm).lo
  have m0:=bR m hm
  obtain⟨C,ns,xs,sp,e1,e2,e3,e4⟩:=ci4 (P:=P) (w:=w) (base:=base) T m0
  have ga:=yp hm (a:=0) (b:=r) (by omega) Ae
  walk_at"l3"
  refine⟨C,ns,xs,sp,e1,e2,e3,e4 0 r _ ⟨by decide,?_⟩⟩
  rw[ga.1,<- Se Ae]
  exact q
noncomputable abbrev aO5(t:j4):bx:=λds Q=>∃(m:Bool × Nat) (l:List Nat),ds=[fD t.aJ t.aM m,.lst false (au l)]/\m∈aF/\AllLt (ah m) l/\l.length<=100/\∀L:List Nat,AllLt (ah m) L->L.length=l.length+1->(∀k,cf L k=PF m 1 l k)->Q (.lst true (au L))
theorem aO6(T:Txt K mg t):aO P w K mg base aZ 3 t.HJ t.HK ["field","some"] (bC (aO5 t)):=by
 refine cx T.SM BV ?_ ?_
 ·intro ds Q h
  obtain⟨m,l,rfl,hm,hl,Jc,q⟩:=h<;>rfl
 ·intro aG A outer s H E hr
  refine⟨_,(aC (aU (i:=2) BV.nd rfl (ay rfl) (gE (eD aq e8)))
   (aC (jb fu rfl (Pa (eT (bv 1))) (fb (i:=3) BV.nd rfl (ay rfl))
    (aK (aU (i:=2) BV.nd rfl (ay rfl) (bE ((aL4 T).mono (by decide)) hr rfl T.dl7 T.SI.kp T.dl8 bj (ak (bv 0) (ak (bv 2) (ak (ae (bE ((Tq T).mono (by decide)) hr rfl T.SJ T.II.kp T.SK bj (ak (bv 0) (ak (bv 3) aA)))) aA)))))))
   (aK (bb (em 2))))),λds Q h=>?_⟩
  obtain⟨m,l,rfl,hm,hl,Jc,q⟩:=h
  have dE:=(bN hm).lo
  refine aB λU hU=>?_
  walk_at"l3"
  refine⟨by decide,hU _ ?_⟩
  clear hU U
  refine aB λU hU=>?_
  walk_at"l3"
  refine fU.mk (λi δ=>∃(L:List Nat) (o:Option D),δ=[some (fD t.aJ t.aM m),some (D.lst false (au l)),some (D.lst true (au L)),o]/\AllLt (ah m) L/\L.length=i+1/\∀k,cf L k=PF m 1 (l.take i) k) ⟨[1],none,rfl,?_,rfl,λk=>?_⟩ ?_ ?_
  ·intro a ha
   rw[gU]at ha
   omega
  ·cases k<;>rfl
  ·rintro i d δ hd ⟨L,o,rfl,hL,lL,cL⟩
   obtain⟨hi,rfl⟩:=Rv hd
   clear hd hU
   have qO:=hl _ (i6 hi)
   have hn:=nO hm l[i]
   have h2:AllLt (ah m) [df m l[i],1]:=λa ha=>by
    simp only[bG,fI,or_false]at ha
    rcases ha with rfl | rfl
    ·exact hn
    ·omega
   have ec:∀k,cf (my m L [df m l[i],1]) k=PF m 1 (l.take (i+1)) k:=λk=>by
    rw[RC hm,yy hm hn hL,show cf L=_ from funext cL,zr,bu hi]
    show eW _ _ _ 1 (l[i]::l.take i) k=_
    exact congrFun (GH (rg hm) (by omega) (nO hm) (mQ (l₁:=[l[i]]) (l₂:=l.take i))) k
   have lt:(l.take (i+1)).length=i+1:=by rw[gj];omega
   have lp:(my m L [df m l[i],1]).length=i+1+1:=by
    refine cg0 (l:=mx m L [df m l[i],1]) ?_ λk hk=>?_
    ·rw[<-gL]
     have e:=ec (i+1)
     have tp:=BN (c:=1) (ng:=df m) (rg hm) (by omega) (l.take (i+1))
     rw[lt]at tp
     rw[show cf (bw (mx m L [df m l[i],1])) (i+1)=_ from e.trans tp]
     decide
    ·rw[<-gL]
     exact(ec k).trans (qA (rg hm) _ k (by omega))
   walk_at"l3"
   exact⟨m,l[i],rfl,hm,qO,m,L,[df m l[i],1],by rw[Gs],hm,hL,h2,by rw[lL];simp;omega,jE _,_,_,⟨rfl,rfl⟩,ci8 hm _ _,lp,ec⟩
  ·rintro δ ⟨L,o,rfl,hL,lL,cL⟩
   refine hU _ ?_
   walk_at"l3"
   rw[dw]at lL cL
   rw[zo]at cL
   exact q L hL lL cL
noncomputable abbrev aO7(cb cp:Addr):bx:=λds Q=>∃(m:Bool × Nat) (l:List Nat) (x:Nat),ds=[fD cb cp m,.lst false (au l),.int x]/\m∈aF/\(∀a∈l,a<ah m)/\x<ah m/\Q (.int (aP m x l:Nat))
theorem Ci(T:Txt K mg t):aO P w K mg base aZ 2 t.HL t.HM ["field","a","x"] (bC (aO7 t.aJ t.aM)):=by
 refine cx T.yD BW ?_ ?_
 ·intro ds Q h
  obtain⟨m,l,x,rfl,hm,ha,hx,q⟩:=h<;>rfl
 ·intro aG A outer s H E hr
  refine⟨_,(aC (aU (i:=3) BW.nd rfl (ay rfl) aq)
   (aC (jb fu rfl (Gh rfl T.Ca (ak (bv 1) aA)) (fb (i:=4) BW.nd rfl (ay rfl))
    (aK (aU (i:=3) BW.nd rfl (ay rfl) (nL (P:=P) (w:=w) (K:=K) (mg:=mg) (base:=base) (n:=1) (bv 0) (hr.mono (by decide)) (ak (ae (nL (P:=P) (w:=w) (K:=K) (mg:=mg) (base:=base) (n:=1) (bv 0) (hr.mono (by decide)) (ak (bv 3) (ak (bv 2) aA)))) (ak (bv 4) aA))))))
   (aK (bb (em 3))))),λds Q h=>?_⟩
  obtain⟨m,l,x,rfl,hm,ha,hx,q⟩:=h
  have m0:=bR m hm
  refine aB λU hU=>?_
  walk_at"l3"
  refine hU _ ?_
  clear hU U
  refine aB λU hU=>?_
  walk_at"l3"
  refine fU.mk (λi δ=>∃o,δ=[some (fD t.aJ t.aM m),some (.lst false (au l)),some (.int x),some (.int (aP m x (l.drop (l.length-i)):Nat)),o]) ⟨none,by rw[oh,DG];rfl⟩ ?_ ?_
  ·rintro i d δ hd ⟨o,rfl⟩
   have gJ:i<l.length:=by
    have:=(gg.mp hd).1
    rw[kQ,dw]at this;exact this
   obtain⟨hi,rfl⟩:∃hi:l.length-1-i<l.length,d=.int (l[l.length-1-i]:Nat):=by
    refine⟨by omega,?_⟩
    rw[zC (by rw[dw];exact gJ),ff,dm,cQ,bu (by omega)]at hd
    exact(cP hd).symm
   have hv:aP m x (l.drop (l.length-i))<ah m:=qk hm x λa h=>ha a (DC h)
   obtain⟨C,ns,xs,sp,e1,e2,e3,e4⟩:=Th (P:=P) (w:=w) (base:=base) T m0
   walk_at"l3"
   refine⟨C,ns,xs,sp,e1,e2,e3,Tn T hm hv hx (e4 _ _ _ ⟨rfl,_,?_,rfl⟩)⟩
   have e:l.drop (l.length-(i+1))=l[l.length-1-i]::l.drop (l.length-i):=by
    rw[show l.length-(i+1)=l.length-1-i by omega,v7 hi,show l.length-1-i+1=l.length-i by omega]
   rw[e];rfl
  ·rintro δ ⟨o,rfl⟩
   refine hU _ ?_
   walk_at"l3"
   rw[kQ,dw,rj,Dz]
   exact q
noncomputable abbrev aO8(t:j4):bx:=λds Q=>∃(m:Bool × Nat) (l:List Nat),ds=[fD t.aJ t.aM m,.lst false (au l)]/\m∈aF/\AllLt (ah m) l/\Q (.lst true (au ((aV (ah m)).filter λx=>aP m x l==0)))
theorem Jd(T:Txt K mg t):aO P w K mg base aZ 3 t.HN t.HP ["field","a"] (bC (aO8 t)):=by
 refine cx T.B5 aO0 ?_ ?_
 ·intro ds Q h
  obtain⟨m,l,rfl,hm,hl,q⟩:=h<;>rfl
 ·intro aG A outer s H E hr
  refine⟨_,(aK (bb (kb [("field",0),("a",1)] ["x"] rfl (sE rfl T.jj (ak (jh (K:=K) (bv 0)) aA)) (λ_ _ _ _=>(fb (i:=2) (show(["field","a","x"]:List Str).Nodup by decide +kernel) rfl (ay (lookup_relabel_local rfl)) (by decide) (bU (lookup_relabel_local rfl)))) (λ_ _ _ _=>(Pl (cN (et (cO hr)) (ae (bE ((Ci T).mono (by decide)) hr rfl T.B3 T.yD.kp T.B4 bj (ak (bv 0) (ak (bv 1) (ak (bv 2) aA))))) (ae aq) (bY _)))) (λ_ _ _ _=>(eT (bv 2))) rfl ⟨rfl,⟨rfl,trivial⟩⟩ (by repeat' (first | exact trivial | refine⟨.inl rfl,?_⟩ | refine⟨.inr (.inl rfl),?_⟩ | refine⟨.inr (.inr ⟨_,rfl⟩),?_⟩)) ⟨⟨rfl,.inl rfl,.inl rfl,_,rfl,rfl⟩,⟨⟨rfl,.inl rfl,.inl rfl,_,rfl,rfl⟩,trivial⟩⟩ (by decide +kernel) rfl (by decide +kernel)))),λds Q h=>?_⟩
  obtain⟨m,l,rfl,hm,hl,q⟩:=h
  have dE:=(bN hm).lo
  have Je:=(bN hm).hi
  walk_at"l3"
  refine cs4 T m ⟨_,rfl,⟨by omega,by omega⟩,RO (aV (ah m)) (λ(i:Nat)=>D.int (i:Int)) (λ(i:Nat)=>D.int (i:Int)) (λx=>aP m x l==0) (Gr _ rfl) ud (λj hj=>?_) (.inr λ_ _ _=>rfl) (by rw[eB,sL];omega) ?_⟩
  ·have hj:=gR.mp hj
   walk_at"l3"
   refine⟨m,l,j,rfl,hm,hl,hj,by rfl,?_,λ_=>trivial⟩
   rw[show D.int 0=D.int ((0:Nat):Int) from rfl,iU]
   by_cases h0:aP m j l=0
   ·rw[h0];rfl
   ·rw[decide_eq_false (by omega),beq_eq_false_iff_ne.mpr h0]
  ·rw[ff]at q
   exact q
noncomputable abbrev Tr(t:j4)(P:Program)(w:World)(K:Frag)(mg:Str->Option Value)(base:Heap):jC:=λds Q Ex=>∃(m:Bool × Nat) (a b:Nat),ds=[fD t.aJ t.aM m,.int a,.int b]/\m∈aF/\a<ah m/\b<ah m/\(b=0->Ex t.cX)/\(b≠0->∀r:Nat,r<ah m->gm m r b=a->Q (.int (r:Nat)))
theorem Ts(T:Txt K mg t):aO P w K mg base (iH P w) 2 t.B0 t.HQ ["self","a","b"] (kq (Tr t P w K mg base)):=by
 refine AL T.aM7 aK1 ?_ ?_
 ·intro ds Q Ex h
  obtain⟨m,a,b,rfl,hm,ha,hb,qx,q⟩:=h<;>rfl
 ·intro aG A outer s H E hr
  refine⟨_,(aC (dG (cN (et (cO hr)) (bv 2) (ae aq) (bY _)) (aK (AN T.Cb rfl (by rfl) (ak (ae As) aA))) dv)
   (aC (dG (cN (et (cO hr)) (bv 1) (ae aq) (bY _)) (aK (bb aq)) dv)
   (aK (bb (nL (P:=P) (w:=w) (K:=K) (mg:=mg) (base:=base) (n:=1) (bv 0) (hr.mono (by decide)) (ak (ae (aH gG (cG (jh (K:=K) (bv 0)) (bv 1) (λ_ _=>rfl)) (cG (jh (K:=K) (bv 0)) (bv 2) (λ_ _=>rfl)))) aA)))))),λds Q Ex h=>?_⟩
  obtain⟨m,a,b,rfl,hm,ha,hb,qx,q⟩:=h
  refine aB λU hU=>?_
  walk_at"l3"
  split
  ·rename_i h0
   exact⟨by decide,qx (by omega)⟩
  ·rename_i h0
   have b0:b≠0:=by omega
   refine hU _ ?_
   clear hU U
   refine aB λU hU=>?_
   walk_at"l3"
   split
   ·rename_i h1
    have a0:a=0:=by omega
    subst a0
    exact q b0 0 ha (fg m b (bR m hm))
   ·rename_i h1
    have a0:a≠0:=by omega
    refine hU _ ?_
    clear hU U
    have hF:=bN hm
    obtain⟨r,e,qO,yu⟩:=Q9 hm (show 1<=a by omega) ha (show 1<=b by omega) hb
    have qr:=q b0 r qO yu
    obtain⟨k,n⟩:=m
    cases k with
    | true =>
     walk_at"l3"
     have ll:(dy (fl (true,n))).length=ah (true,n):=(yd _ _).trans hF.len
     have n0:=gW (lg (true,n) a-lg (true,n) b) (show(ah (true,n):Int)-1≠0 by have:=hF.lo;omega)
     have n1:=gX (lg (true,n) a-lg (true,n) b) (show(0:Int)<(ah (true,n):Int)-1 by have:=hF.lo;omega)
     refine⟨_,_,_,IW K,rfl,⟨T.fm,_,_,_,T.vz,IY T,T.IG⟩,by decide,_,_,_,_,rfl,T.fm,T.nU,rfl,_,kn (by omega) (by rw[ll];omega),_,_,_,_,rfl,T.fm,T.nU,rfl,_,kn (by omega) (by rw[ll];omega),?_⟩
     refine⟨_,_,_,_,ah (true,n),fl (true,n),r,rfl,T.fm,T.qH,T.qG,rfl,rfl,hF.lo,?_,qr⟩
     have hk:((lg (true,n) a-lg (true,n) b)%((ah (true,n):Int)-1)).toNat<(fl (true,n)).length:=by have:=hF.len;omega
     show(fl (true,n))[((lg (true,n) a-lg (true,n) b)%((ah (true,n):Int)-1)).toNat]?=some (r:Int)
     rw[<-e]
     unfold pw
     rw[bF,bu hk];rfl
    | false =>
     walk_at"l3"
     have ll:(dy (fl (false,n))).length=ah (false,n):=(yd _ _).trans hF.len
     have n0:=gW (lg (false,n) a-lg (false,n) b) (show(ah (false,n):Int)-1≠0 by have:=hF.lo;omega)
     have n1:=gX (lg (false,n) a-lg (false,n) b) (show(0:Int)<(ah (false,n):Int)-1 by have:=hF.lo;omega)
     refine⟨_,_,_,IW K,rfl,⟨T.fo,_,_,_,T.vB,IY T,T.IG⟩,by decide,_,_,_,_,rfl,T.fo,T.qJ,rfl,_,kn (by omega) (by rw[ll];omega),_,_,_,_,rfl,T.fo,T.qJ,rfl,_,kn (by omega) (by rw[ll];omega),?_⟩
     refine⟨_,_,_,_,ah (false,n),fl (false,n),r,rfl,T.fo,T.vA,T.qK,rfl,rfl,hF.lo,?_,qr⟩
     have hk:((lg (false,n) a-lg (false,n) b)%((ah (false,n):Int)-1)).toNat<(fl (false,n)).length:=by have:=hF.len;omega
     show(fl (false,n))[((lg (false,n) a-lg (false,n) b)%((ah (false,n):Int)-1)).toNat]?=some (r:Int)
     rw[<-e]
     unfold pw
     rw[bF,bu hk];rfl
theorem bH6(T:Txt K mg t)(m:Bool × Nat):Bo P w K mg base 2 "over" (if m.1 then t.aJ else t.aM) (Tr t P w K mg base):=by
 obtain⟨k,n⟩:=m
 cases k with
 | true=>exact⟨T.fm,_,_,_,T.yL,Ts T,T.SN⟩
 | false=>exact⟨T.fo,_,_,_,T.yU,Ts T,T.SN⟩
noncomputable abbrev Tt(K:Frag):bx:=λds Q=>∃(C:Addr) (p a:Nat) (xs ys:List Nat),ds=[yh C p,.lst false (au xs),.int a,.lst false (au ys)]/\dq K C/\cj K C "products"/\p∈fY/\a<ah (true,p)/\(∀y∈ys,y<ah (true,p))/\xs.length<=1000/\Q (.lst true (au (kO (λx y=>eU (true,p) x (gm (true,p) a y)) xs ys)))
theorem az9(T:Txt K mg t):aO P w K mg base aZ 1 t.HR t.HS ["self","row","a","other"] (bC (Tt K)):=by
 refine cx T.aB2 Sk ?_ ?_
 ·intro ds Q h
  obtain⟨C,p,a,xs,ys,rfl,hC,hn,hp,ha,hy,hl,q⟩:=h<;>rfl
 ·intro aG A outer s H E hr
  refine⟨_,(aC (aU (i:=4) Sk.nd rfl (bU rfl) (eT (cG (jh (K:=K) (bv 0)) (bv 2) (λ_ _=>rfl))))
   (aK (bb (kb [("by_a",4)] ["x","y"] rfl (Qh rfl T.S8 (ak (bv 1) (ak (bv 3) aA))) (λ_ _ _ _=>(xV (i1:=1) (i2:=2) rfl (show(["by_a","x","y"]:List Str).Nodup by decide +kernel) rfl (ay (lookup_relabel_local rfl)) rfl (ay (lookup_relabel_local rfl)) (by decide) (by decide) (bU (lookup_relabel_local rfl)) (bU (lookup_relabel_local rfl)))) (λ_ _ _ _=>ke) (λ_ _ _ _=>(aH sU (bv 1) (cG (bv 0) (bv 2) (λ_ _=>rfl)))) rfl ⟨rfl,trivial⟩ (by repeat' (first | exact trivial | refine⟨.inl rfl,?_⟩ | refine⟨.inr (.inl rfl),?_⟩ | refine⟨.inr (.inr ⟨_,rfl⟩),?_⟩)) ⟨⟨rfl,.inl rfl,.inl rfl,_,rfl,rfl⟩,trivial⟩ (by decide +kernel) rfl (by decide +kernel))))),λds Q h=>?_⟩
  obtain⟨C,p,a,xs,ys,rfl,hC,hn,hp,ha,hy,hl,q⟩:=h
  refine aB λU hU=>?_
  walk_at"l3"
  refine⟨C,_,_,_,rfl,hC,hn,rfl,_,Q7 hp ha,?_⟩
  refine⟨by rw[i9,pW];rfl,hU _ ?_⟩
  clear hU U
  walk_at"l3"
  refine⟨_,_,rfl,rfl,Ry (λx y=>eU (true,p) x (gm (true,p) a y)) (λx hx y Cj=>?_) (by omega) q⟩
  walk_at"l3"
  refine⟨_,Q6 hp ha (hy y Cj),?_⟩
  show mK (x:Int) ((gm (true,p) a y:Nat):Int)=_
  rw[lh];rfl
noncomputable abbrev Tu(K:Frag):bx:=λds Q=>∃(C:Addr) (p a:Nat) (xs ys:List Nat),ds=[qh C p,.lst false (au xs),.int a,.lst false (au ys)]/\dq K C/\cj K C "prime"/\0<p/\a<64/\(∀y∈ys,y<64)/\xs.length<=1000/\Q (.lst true (au (kO (λx y=>eU (false,p) x (gm (false,p) a y)) xs ys)))
theorem ay0(T:Txt K mg t):aO P w K mg base aZ 1 t.HU t.HV ["self","row","a","other"] (bC (Tu K)):=by
 refine cx T.az1 Sl ?_ ?_
 ·intro ds Q h
  obtain⟨C,p,a,xs,ys,rfl,hC,hn,hp,ha,hy,hl,q⟩:=h<;>rfl
 ·intro aG A outer s H E hr
  refine⟨_,(aC (aU (i:=4) Sl.nd rfl (bU rfl) (eT (jh (K:=K) (bv 0))))
   (aK (bb (kb [("prime",4),("a",2)] ["x","y"] rfl (Qh rfl T.S8 (ak (bv 1) (ak (bv 3) aA))) (λ_ _ _ _=>(xV (i1:=2) (i2:=3) rfl (show(["prime","a","x","y"]:List Str).Nodup by decide +kernel) rfl (ay (lookup_relabel_local rfl)) rfl (ay (lookup_relabel_local rfl)) (by decide) (by decide) (bU (lookup_relabel_local rfl)) (bU (lookup_relabel_local rfl)))) (λ_ _ _ _=>ke) (λ_ _ _ _=>(aH dH (ae (aH gG (bv 2) (ae (aH lZ (bv 1) (bv 3))))) (bv 0))) rfl ⟨rfl,⟨rfl,trivial⟩⟩ (by repeat' (first | exact trivial | refine⟨.inl rfl,?_⟩ | refine⟨.inr (.inl rfl),?_⟩ | refine⟨.inr (.inr ⟨_,rfl⟩),?_⟩)) ⟨⟨rfl,.inl rfl,.inl rfl,_,rfl,rfl⟩,⟨⟨rfl,.inl rfl,.inl rfl,_,rfl,rfl⟩,trivial⟩⟩ (by decide +kernel) rfl (by decide +kernel))))),λds Q h=>?_⟩
  obtain⟨C,p,a,xs,ys,rfl,hC,hn,hp,ha,hy,hl,q⟩:=h
  refine aB λU hU=>?_
  walk_at"l3"
  refine⟨C,_,_,.int p,rfl,hC,hn,rfl,rfl,hU _ ?_⟩
  clear hU U
  walk_at"l3"
  refine⟨_,_,rfl,rfl,Ry (λx y=>eU (false,p) x (gm (false,p) a y)) (λx hx y Cj=>?_) (by omega) q⟩
  have h2:=hy y Cj
  walk_at"l3"
  refine⟨oK.ok (.inr ⟨by omega,by omega⟩),by omega,?_⟩
  have e:((x:Int)-((a*y%p:Nat):Int))%(p:Int)=((x:Int)-(a:Int)*y)%p:=by
   rw[mV,zR,Int.sub_emod,Int.emod_emod,<- Int.sub_emod]
  show _=(((((x:Int)-((a*y%p:Nat):Int))%(p:Int)).toNat:Nat):Int)
  rw[e,zA (gW _ (by omega))]
theorem bD4(T:Txt K mg t){m:Bool × Nat}(hm:m∈aF):∃C ns zs sp,fD t.aJ t.aM m=.obj C ns zs/\qf P w K mg base 1 "lessened" C sp/\("lessened":Str) ∉ ns/\∀(xs ys:List Nat) (a:Nat) (Q:D->Prop),a<ah m->(∀y∈ys,y<ah m)->xs.length<=1000->Q (.lst true (au (kO (λx y=>eU m x (gm m a y)) xs ys)))->sp [.obj C ns zs,.lst false (au xs),.int a,.lst false (au ys)] Q:=by
 have hF:=bN hm
 obtain⟨k,n⟩:=m
 cases k with
 | true=>exact⟨_,_,_,Tt K,rfl,⟨T.fm,_,_,_,T.yI,az9 T,T.aB3⟩,by decide,λxs ys a Q ha hy hl q=>⟨_,n,a,xs,ys,rfl,T.fm,T.qI,Bl hm,ha,hy,hl,q⟩⟩
 | false =>
  have Cg:n<=64:=hF.hi
  have l2:2<=n:=hF.lo
  exact⟨_,_,_,Tu K,rfl,⟨T.fo,_,_,_,T.yR,ay0 T,T.az2⟩,by decide,λxs ys a Q ha hy hl q=>⟨_,n,a,xs,ys,rfl,T.fo,T.kC,by omega,cI (show a<n from ha) Cg,λy h=>cI (show y<n from hy y h) Cg,hl,q⟩⟩
noncomputable abbrev aJ0(t:j4)(P:Program)(w:World)(K:Frag)(mg:Str->Option Value)(base:Heap):jC:=λds Q Ex=>∃(m:Bool × Nat) (a b:List Nat),ds=[fD t.aJ t.aM m,.lst false (au a),.lst false (au b)]/\m∈aF/\AllLt (ah m) a/\AllLt (ah m) b/\a.length<=300/\b.length<=300/\(bw b=[]->Ex t.cX)/\(bw b≠[]->∀q r:List Nat,q=bw q->AllLt (ah m) q->q.length<=300->AllLt (ah m) r->r.length<=300->(bw r).length<(bw b).length->(∀k,gp m (dz m b q k) (cf r k)=cf a k)->Q (.tup [.lst true (au q),.lst true (au (bw r))]))
theorem aJ1(T:Txt K mg t):aO P w K mg base (iH P w) 3 t.HW t.HX ["field","a","b"] (kq (aJ0 t P w K mg base)):=by
 refine AL T.SO qC ?_ ?_
 ·intro ds Q Ex h
  obtain⟨m,a,b,rfl,hm,ha,hb,Ck,Tv,qx,q⟩:=h<;>rfl
 ·intro aG A outer s H E hr
  refine⟨_,(aC (aU (i:=3) qC.nd rfl (ay rfl) (bE ((vE T).mono (by decide)) hr rfl T.vx T.qD.kp T.vy bj (ak (bv 2) aA)))
   (aC (dG (cN (et (cO hr)) (bv 3) (ae (gE e8)) (bY _)) (aK (AN T.Cb rfl (by rfl) (ak (ae As) aA))) dv)
   (aC (aU (i:=4) qC.nd rfl (ay rfl) (bE ((vE T).mono (by decide)) hr rfl T.vx T.qD.kp T.vy bj (ak (bv 1) aA)))
   (aC (aU (i:=5) qC.nd rfl (ay rfl) (aH lZ (ae (gE (eD aq e8))) (ae (aH eE (ae (aH gG (ae (fB (gH) (by rfl) T.gP gA (ak (bv 4) aA))) (ae (fB (gH) (by rfl) T.gP gA (ak (bv 3) aA))))) (ae aq)))))
   (aC (Fz (jb fu rfl (b46 rfl T.jj (ak (ae (aH gG (ae (fB (gH) (by rfl) T.gP gA (ak (bv 5) aA))) (ae aq))) (ak (ae (tu (ae aq))) (ak (ae (tu (ae aq))) aA)))) (fb (i:=6) qC.nd rfl (ay rfl))
    (aC (cp6 (i:=7) qC.nd rfl (ay rfl) (cm3 (P:=P) (w:=w) (K:=K) (mg:=mg) (base:=base) (n:=2) (bv 0) (hr.mono (by decide)) rfl (ak (cG (bv 4) (ae (tu (ae aq))) (λ_ _=>rfl)) (ak (cG (bv 3) (ae (tu (ae aq))) (λ_ _=>rfl)) aA))))
    (aC (Fu (i:=5) rfl (by first | exact ay rfl | exact bU (ay rfl)) (eT (bv 7)) (bv 6))
    (aK (aU (i:=4) qC.nd rfl (ay rfl) (aH eE (ae (ub (bv 4) xj (pU (bv 6)))) (ae (ub (ae (nL (P:=P) (w:=w) (K:=K) (mg:=mg) (base:=base) (n:=1) (bv 0) (hr.mono (by decide)) (ak (ae (ub (bv 4) (pU (bv 6)) xj)) (ak (bv 7) (ak (bv 3) aA))))) xj (pU (ae (tu (ae aq)))))))))))))
   (aK (bb (Av (eD (em 5) (eD (bE ((vE T).mono (by decide)) hr rfl T.vx T.qD.kp T.vy bj (ak (bv 4) aA)) e8)))))))))),λds Q Ex h=>?_⟩
  obtain⟨m,a,b,rfl,hm,ha,hb,Ck,Tv,qx,q⟩:=h
  have dE:=(bN hm).lo
  refine aB λU hU=>?_
  walk_at"l3"
  refine⟨b,rfl,by omega,hU _ ?_⟩
  clear hU U
  obtain⟨D',hD⟩:∃D',D'=bw b:=⟨_,rfl⟩
  have bD:AllLt (ah m) D':=by rw[hD];exact λz hz=>hb z (ym hz)
  have lD:D'.length<=300:=by rw[hD];exact eu (Br b) Tv
  rw[<-hD]at qx q ⊢
  refine aB λU hU=>?_
  walk_at"l3"
  refine⟨by decide,rfl,?_⟩
  rw[show(D.lst true ([]:List D))=D.lst true (au []) from rfl,qo]
  by_cases h0:D'=[]
  ·rw[if_pos (decide_eq_true h0)]
   exact⟨by decide,qx h0⟩
  rw[if_neg (by simp only[decide_eq_true_eq];exact h0)]
  have q:=q h0
  have pD:0<D'.length:=by
   cases D' with
   | nil=>exact absurd rfl h0
   | cons _ _=>exact Nat.succ_pos _
  have tD:cf D' (D'.length-1)≠0:=by
   rcases Bt b with h | h
   ·rw[<-hD]at h;omega
   ·rw[<-hD]at h;exact h
  refine hU _ ?_
  clear hU U qx
  refine aB λU hU=>?_
  walk_at"l3"
  refine⟨a,rfl,by omega,hU _ ?_⟩
  clear hU U
  obtain⟨A',hA⟩:∃A',A'=bw a:=⟨_,rfl⟩
  have bA:AllLt (ah m) A':=by rw[hA];exact λz hz=>ha z (ym hz)
  have lA:A'.length<=300:=by rw[hA];exact eu (Br a) Ck
  rw[<-hA]
  refine aB λU hU=>?_
  walk_at"l3"
  obtain⟨n,en,hn⟩:∃n:Nat,((A'.length:Int)-(D'.length:Int)+1).toNat=n/\n=A'.length+1-D'.length:=⟨_,rfl,by omega⟩
  refine⟨by decide,⟨by omega,by omega,by omega⟩,?_⟩
  rw[en,show nums (aQ n 0)=au (aQ n 0) by rw[ff,zE];unfold nums;rw[zE];rfl]
  refine hU _ ?_
  clear hU U
  refine aB λU hU=>?_
  walk_at"l3"
  rw[kI]
  refine⟨_,_,_,⟨rfl,rfl,rfl⟩,?_,?_⟩
  ·exact⟨⟨by omega,by omega,by decide,by decide⟩,.inr rfl⟩
  have Cm:(i4 ((n:Int)-1) (-1) (-1)).toNat=n:=by
   unfold i4
   rw[if_neg (by decide)]
   by_cases h:(n:Int)-1 > -1
   ·rw[if_pos h]
    have:((n:Int)-1 - -1-1) / - -1=(n:Int)-1:=by rw[show(- -1:Int)=1 from rfl,Int.ediv_one];omega
    rw[this];omega
   ·rw[if_neg h];omega
  rw[Cm]
  refine fU.mk (λi δ=>∃(qt rest:List Nat) (o1 o2:Option D),δ=[some (fD t.aJ t.aM m),some (D.lst false (au a)),some (D.lst false (au b)),some (D.lst true (au D')),some (D.lst true (au rest)),some (D.lst true (au qt)),o1,o2]/\(0<n->mB m A' D' n i qt rest)/\(n=0->qt=[]/\rest=A')) ⟨_,_,none,none,rfl,λh=>mB.start hm bA (by omega),λh=>⟨by rw[h];rfl,rfl⟩⟩ ?_ ?_
  ·rintro i d δ hd ⟨qt,rest,o1,o2,rfl,I,_⟩
   have hi:i<n:=by
    have:=(gg.mp hd).1
    simpa using this
   rw[dm,mS hi]at hd
   obtain rfl:d=.int ((n-1-i:Nat):Int):=by
    rw[<-cP hd]
    show D.int ((n:Int)-1+(i:Int)*(-1))=_
    congr 1
    omega
   have I:=I (by omega)
   have Gw:rest.length=n-1-i+D'.length:=by have:=I.rl;omega
   have hr0:0<rest.length:=by omega
   have hql:=I.ql
   refine aB λU hU=>?_
   walk_at"l3"
   refine⟨_,_,_,_,Bp _ _ m,bH6 T m,cB5 m _ (by decide),_,Gp hr0,_,Gp pD,m,_,_,by rw[Bp];rfl,hm,jG hm I.rb _,jG hm bD _,λz=>absurd z tD,λ_ f hf ht=>⟨rfl,hU _ ?_⟩⟩
   clear hU
   have tA:cf A' (A'.length-1)≠0:=by
    rcases Bt a with h | h
    ·rw[<-hA]at h;omega
    ·rw[<-hA]at h;exact h
   have I2:=I.next hm pD hi hf ht tA
   refine aB λU hU=>?_
   walk_at"l3"
   refine⟨_,n-1-i,rfl,by rw[Gq (by omega) (by rw[dw];omega)];rfl,?_⟩
   rw[Rp]
   refine hU _ ?_
   clear hU
   obtain⟨C,ns,xs,sp,e1,e2,e3,e4⟩:=bD4 (P:=P) (w:=w) (base:=base) T hm
   walk_at"l3"
   rw[bW5,FL]
   refine⟨C,ns,xs,sp,e1,e2,e3,e4 _ _ _ _ hf bD (by rw[jQ];omega) ⟨jE _,kr _,?_⟩⟩
   rw[uf,cr5]
   refine⟨⟨?_,kr _⟩,qt.set (n-1-i) f,mz m D' rest (n-1-i) f,_,_,⟨?_,rfl,rfl,rfl⟩,λ_=>I2,λh=>by omega⟩
   ·rw[dw,gj,MF,M4,jQ];omega
   ·rw[ku];rfl
  ·rintro δ ⟨qt,rest,o1,o2,rfl,I,I0⟩
   rw[cQ,eB]at I
   refine hU _ ?_
   walk_at"l3"
   have lr:rest.length<D'.length:=by
    by_cases h:n=0
    ·rw[(I0 h).2];omega
    ·have:=(I (by omega)).rl
     omega
   have g:qt=bw qt/\AllLt (ah m) qt/\qt.length=n/\AllLt (ah m) rest/\∀k,gp m (dz m b qt k) (cf rest k)=cf a k:=by
    by_cases h:n=0
    ·obtain⟨rfl,rfl⟩:=I0 h
     refine⟨rfl,λa h=>by simp at h,h.symm,bA,λk=>?_⟩
     rw[show dz m b [] k=0 from rfl,fC (jG hm bA k),hA,gL]
    ·have I:=I (by omega)
     refine⟨I.quot,I.qb,I.ql,I.rb,λk=>?_⟩
     have:=I.id k
     rw[hD,RD,hA,gL]at this
     exact this
   exact⟨rest,rfl,by omega,jE _,by decide,q qt rest g.1 g.2.1 (by omega) g.2.2.2.1 (by omega) (kM (Br rest) lr) g.2.2.2.2⟩
noncomputable abbrev aN7(t:j4)(P:Program)(w:World)(K:Frag)(mg:Str->Option Value)(base:Heap):jC:=λds Q Ex=>∃(m:Bool × Nat) (a:List Nat) (x:Nat),ds=[fD t.aJ t.aM m,.lst false (au a),.int x]/\m∈aF/\AllLt (ah m) a/\a.length<=200/\x<ah m/\(bw a=[]->Ex t.cX)/\(bw a≠[]->∃(c:Nat) (S:List Nat),c≠0/\c<ah m/\(∀s∈S,s<ah m)/\(∀k,cf a k=PF m c S k)/\Q (.int (S.count x:Nat)))
theorem Tw(T:Txt K mg t):aO P w K mg base (iH P w) 4 t.HY t.HZ ["field","a","x"] (kq (aN7 t P w K mg base)):=by
 refine AL T.IL yA ?_ ?_
 ·intro ds Q Ex h
  obtain⟨m,a,x,rfl,hm,ha,Ck,hx,qx,q⟩:=h<;>rfl
 ·intro aG A outer s H E hr
  refine⟨_,(aC (aU (i:=3) yA.nd rfl (ay rfl) (bE ((vE T).mono (by decide)) hr rfl T.vx T.qD.kp T.vy bj (ak (bv 1) aA)))
   (aC (dG (cN (et (cO hr)) (bv 3) (ae (gE e8)) (bY _)) (aK (AN T.Cb rfl (by rfl) (ak (ae As) aA))) dv)
   (aC (aU (i:=4) yA.nd rfl (ay rfl) aq)
   (aC (Fz (su fu (cN (et (cO hr)) (ae (bE ((Ci T).mono (by decide)) hr rfl T.B3 T.yD.kp T.B4 bj (ak (bv 0) (ak (bv 3) (ak (bv 2) aA))))) (ae aq) (bY _))
    (aC (aU (i:=3) yA.nd rfl (ay rfl) (cA4 (bE (AS ((aJ1 T).mono (by decide))) hr rfl T.dn0 T.SO.kp T.dn1 AR (ak (bv 0) (ak (bv 3) (ak (ae (bE ((Tq T).mono (by decide)) hr rfl T.SJ T.II.kp T.SK bj (ak (bv 0) (ak (bv 2) aA)))) aA)))) (λ_ _=>rfl)))
    (aK (sj (i:=4) yA.nd rfl (ay rfl) (ae aq) Pp)))))
   (aK (bb (em 4))))))),λds Q Ex h=>?_⟩
  obtain⟨m,a,x,rfl,hm,ha,Ck,hx,qx,q⟩:=h
  have dE:=(bN hm).lo
  refine aB λU hU=>?_
  walk_at"l3"
  refine⟨a,rfl,by omega,hU _ ?_⟩
  clear hU U
  refine aB λU hU=>?_
  walk_at"l3"
  refine⟨by decide,rfl,?_⟩
  rw[show(D.lst true ([]:List D))=D.lst true (au []) from rfl,qo]
  by_cases h0:bw a=[]
  ·rw[if_pos (decide_eq_true h0)]
   exact⟨by decide,qx h0⟩
  rw[if_neg (by simp only[decide_eq_true_eq];exact h0)]
  obtain⟨c,S,c0,cl,hS,ca,q⟩:=q h0
  have lc:=Br a
  refine hU _ ?_
  clear hU U
  refine aB λU hU=>?_
  walk_at"l3"
  refine hU _ ?_
  clear hU U
  refine aB λU hU=>?_
  walk_at"l3"
  refine⟨λn δ=>∃(L S':List Nat) (tm:Nat),δ=[some (fD t.aJ t.aM m),some (D.lst false (au a)),some (D.int x),some (D.lst true (au L)),some (D.int tm)]/\AllLt (ah m) L/\L.length<=300/\(∀s∈S',s<ah m)/\(∀k,cf L k=PF m c S' k)/\tm+S'.count x=S.count x/\n=S'.length,⟨S.length,bw a,S,0,rfl,λz hz=>ha z (ym hz),by omega,hS,λk=>by rw[gL];exact ca k,by omega,rfl⟩,?_⟩
  clear lc
  rintro n δ ⟨L,S',tm,rfl,hL,lL,uD,cL,ht,rfl⟩
  walk_at"l3"
  have hv:=GL hm cl c0 hx uD cL
  have hn:=nO hm x
  refine⟨m,L,x,rfl,hm,hL,hx,rfl,rfl,?_⟩
  rw[show D.int 0=D.int ((0:Nat):Int) from rfl,iU]
  by_cases hz:aP m x L=0
  ·rw[hz,decide_eq_true rfl,if_pos rfl]
   clear hU
   have Jf:=hv.mp hz
   have pS:=M8 Jf
   have cE:mX x (S'.erase x)+1=mX x S':=by
    have:=pS.count_eq x
    rw[V3]at this;omega
   have lE:(S'.erase x).length+1=S'.length:=by
    have:=pS.length_eq
    rw[eJ]at this;omega
   have h2:AllLt (ah m) [df m x,1]:=λa ha=>by
    simp only[bG,fI,or_false]at ha
    rcases ha with rfl | rfl
    ·exact hn
    ·omega
   have cb:bw [df m x,1]=[df m x,1]:=by
    unfold bw;rfl
   refine aB λU hU=>?_
   walk_at"l3"
   refine⟨m,x,rfl,hm,hx,m,L,[df m x,1],rfl,hm,hL,h2,lL,by simp,(λz=>by rw[cb]at z;cases z),λ_ qq rr cq lq lql lr _ hr hi=>?_⟩
   have eq:cf qq=PF m c (S'.erase x):=by
    refine bY8 (n:=df m x) (D:=max qq.length (S'.length+1)) (rg hm) (jG hm lq) (qy (rg hm) cl _) (λk hk=>fE (by omega)) (λk hk=>qA (rg hm) _ k (by omega)) λk=>?_
    have e1:=hi (k+1)
    have e2:cf rr (k+1)=0:=by
     rw[cb]at hr
     rw[<-gL]
     exact fE (by simp at hr;omega)
    rw[e2,jD (Bz hm _ _ _),yy hm hn lq,cL (k+1)]at e1
    rw[e1]
    exact congrFun (GH (rg hm) cl (nO hm) pS) (k+1)
   refine⟨by rw[nu,dX,dX,jE,jE];simp,_,_,rfl,hU _ ?_⟩
   clear hU
   walk_at"l3"
   exact⟨_,by omega,qq,S'.erase x,tm+1,⟨rfl,by omega⟩,lq,by omega,λs hs=>uD s (V4 hs),λk=>congrFun eq k,by omega,rfl⟩
  ·rw[decide_eq_false (by omega),if_neg (by decide)]
   have n0:mX x S'=0:=Na.mpr λz=>hz (hv.mpr z)
   refine hU _ ?_
   walk_at"l3"
   rw[show tm=mX x S by omega]
   exact q
noncomputable abbrev aN8:bx:=λds Q=>∃(ns:List Int) (k:Int),ds=[.fz (nums ns),.int k]/\0<=k/\Q (.int (ns.getD k.toNat 0))
theorem qP(T:Txt K mg t):aO P w K mg base aZ 1 t.Ia t.Ib ["_law_script","_law_k"] (bC (aN8 )):=by
 refine cx T.nR aM2 ?_ ?_
 ·intro ds Q h
  obtain⟨ns,k,rfl,hk,q⟩:=h<;>rfl
 ·intro aG A outer s H E hr
  refine⟨_,(aC (dG (cN AD (bv 1) (ae (fB (gH) (by rfl) T.gP gA (ak (bv 0) aA))) (bY _)) (aK (bb (eT (cG (bv 0) (bv 1) (λ_ _=>rfl))))) dv)
   (aK (bb aq))),λds Q h=>?_⟩
  obtain⟨ns,k,rfl,hk,q⟩:=h
  refine aB λU hU=>?_
  walk_at"l3"
  split
  ·rename_i h
   exact⟨_,kn hk h,rfl,q⟩
  ·rename_i h
   refine hU _ ?_
   walk_at"l3"
   rw[bF,kN (by omega)]at q
   exact q
noncomputable abbrev aN9:bx:=λds Q=>∃(m:Bool × Nat) (a b:Nat),ds=[dJ m,.int a,.int b]/\0<m.2/\Q (.int (gp m a b:Nat))
theorem Tx(T:Txt K mg t):aO P w K mg base aZ 1 t.Ic t.Ie ["_law_told_here","_law_a","_law_b"] (bC (aN9 )):=by
 refine cx T.IM aM3 ?_ ?_
 ·intro ds Q h
  obtain⟨m,a,b,rfl,h0,q⟩:=h<;>rfl
 ·intro aG A outer s H E hr
  refine⟨_,(aC (dG (ja (cG (bv 0) (ae aq) (λ_ _=>rfl))) (aK (bb (aH sU (bv 1) (bv 2)))) dv)
   (aK (bb (aH dH (ae (aH eE (bv 1) (bv 2))) (cG (bv 0) (ae aq) (λ_ _=>rfl)))))),λds Q h=>?_⟩
  obtain⟨m,a,b,rfl,h0,q⟩:=h
  unfold dJ at *
  obtain⟨k,n⟩:=m
  refine aB λU hU=>?_
  walk_at"l3"
  cases k with
  | true =>
   refine⟨_,rfl,true,rfl,?_⟩
   rw[if_pos rfl,lh]
   exact q
  | false =>
   refine⟨_,rfl,false,rfl,?_⟩
   rw[if_neg (by decide)]
   refine hU _ ?_
   walk_at"l3"
   refine⟨_,rfl,?_⟩
   refine⟨by omega,?_⟩
   have e:((gp (false,n) a b:Nat):Int)=((a:Int)+b)%n:=by
    show(((a+b)%n:Nat):Int)=_
    rw[mV,DH]
   rw[<-e];exact q
noncomputable abbrev aL5:bx:=λds Q=>∃(m:Bool × Nat) (a b:Nat),ds=[dJ m,.int a,.int b]/\m∈aF/\a<ah m/\b<ah m/\Q (.int (gm m a b:Nat))
theorem Jg(T:Txt K mg t):aO P w K mg base aZ 1 t.Ig t.Ih ["_law_told_here","_law_a","_law_b"] (bC (aL5 )):=by
 refine cx T.B6 vk ?_ ?_
 ·intro ds Q h
  obtain⟨m,a,b,rfl,hm,ha,hb,q⟩:=h<;>rfl
 ·intro aG A outer s H E hr
  refine⟨_,(aC (dG (pe (ja (cG (bv 0) (ae aq) (λ_ _=>rfl)))) (aK (bb (aH dH (ae (aH lZ (bv 1) (bv 2))) (cG (bv 0) (ae aq) (λ_ _=>rfl))))) dv)
   (aC (aU (i:=3) vk.nd rfl (ay rfl) aq)
   (aC (su fu (cN Fh (bv 2) (ae aq) (bY _))
    (aC (dG (cN (et (cO hr)) (ae (aH Pn (bv 2) (ae aq))) (ae aq) (bY _)) (aK (aU (i:=3) vk.nd rfl (ay rfl) (aH sU (bv 3) (bv 1)))) dv)
    (aC (aU (i:=1) vk.nd rfl (ay rfl) (aH sQ (bv 1) (ae aq)))
    (aC (dG (cN (et (cO hr)) (ae (mj (bv 1))) (ae (mj (cG (bv 0) (ae aq) (λ_ _=>rfl)))) (bY _)) (aK (aU (i:=1) vk.nd rfl (ay rfl) (aH sU (bv 1) (cG (bv 0) (ae aq) (λ_ _=>rfl))))) dv)
    (aK (aU (i:=2) vk.nd rfl (ay rfl) (aH Pm (bv 2) (ae aq))))))))
   (aK (bb (em 3)))))),λds Q h=>?_⟩
  obtain⟨m,a,b,rfl,hm,ha,hb,q⟩:=h
  unfold dJ at *
  obtain⟨k,n⟩:=m
  refine aB λU hU=>?_
  walk_at"l3"
  have hF:=bN hm
  cases k with
  | false =>
   refine⟨_,rfl,false,rfl,?_⟩
   have Cg:n<=64:=hF.hi
   have l2:2<=n:=hF.lo
   have AO:a<n:=ha
   have j6:b<n:=hb
   rw[if_pos (by decide)]
   refine⟨oK.ok (.inr ⟨by omega,by omega⟩),_,rfl,by omega,?_⟩
   have e:((gm (false,n) a b:Nat):Int)=(a:Int)*b%n:=by
    show((a*b%n:Nat):Int)=_
    rw[mV,zR]
   rw[<-e];exact q
  | true =>
   refine⟨_,rfl,true,rfl,?_⟩
   rw[if_neg (by decide)]
   have hp:=Bl hm
   have bp:=QX n hp
   have Cf:=QY n hp
   have p0:n≠0:=λz=>by rw[z,kZ]at Cf;omega
   have nE:bl a<bl n:=by
    have:=dF.mpr (show a<2 ^ (bl n-1) from ha)
    omega
   have hy0:bl b<bl n:=by
    have:=dF.mpr (show b<2 ^ (bl n-1) from hb)
    omega
   refine hU _ ?_
   clear hU U
   refine aB λU hU=>?_
   walk_at"l3"
   refine hU _ ?_
   clear hU U
   refine aB λU hU=>?_
   walk_at"l3"
   refine⟨λm δ=>∃(x y z:Nat),δ=[some (.tup [.bl true,.int n]),some (.int (x:Nat)),some (.int (y:Nat)),some (.int (z:Nat))]/\z ^^^ md (cl x y) n=gm (true,n) a b/\bl x<bl n/\bl y<bl n/\m=bl y,
    ⟨bl b,a,b,0,rfl,by rw[mM];rfl,nE,hy0,rfl⟩,?_⟩
   rintro m δ ⟨x,y,z,rfl,inv,hx,hy,rfl⟩
   walk_at"l3"
   split
   ·rename_i hy1
    have Td:=fM (show y≠0 by omega)
    have Cj:bl (y/2)=bl y-1:=Zf y
    have e1:((x:Int)*2 ^ (1:Int).toNat)=((2*x:Nat):Int):=by
     show(x:Int)*(2:Int) ^ 1=_
     omega
    have e2:((y:Int)/2 ^ (1:Int).toNat)=((y/2:Nat):Int):=by
     show(y:Int)/(2:Int) ^ 1=_
     omega
    have a1:mJ (y:Int) 1=((y%2:Nat):Int):=by
     rw[show(1:Int)=((1:Nat):Int) from rfl,Ot,Nat.and_one_is_mod]
    have tm:=cl9 (y:=y) p0 hx
    have tb:=cf6 p0 hx
    clear hU
    refine aB λU hU=>?_
    walk_at"l3"
    have fin:∀z':Nat,z'=z ^^^ (if y%2=1 then x else 0)->U [some (.tup [.bl true,.int n]),some (.int x),some (.int y),some (.int z')]:=by
     intro z' hz
     have dv7:z' ^^^ md (cl (if bl (2*x)=bl n then 2*x ^^^ n else 2*x) (y/2)) n=gm (true,n) a b:=by
      rw[hz,n9,<- tm];exact inv
     refine hU _ ?_
     clear hU
     refine aB λU hU=>?_
     walk_at"l3"
     refine⟨⟨by decide,by simp only[gY];omega⟩,hU _ ?_⟩
     clear hU
     rw[e1]
     refine aB λU hU=>?_
     walk_at"l3"
     have last:∀x':Nat,x'=(if bl (2*x)=bl n then 2*x ^^^ n else 2*x)->U [some (.tup [.bl true,.int n]),some (.int (x':Nat)),some (.int y),some (.int z')]:=by
      intro x' dR
      refine hU _ ?_
      walk_at"l3"
      exact⟨by decide,bl (y/2),by omega,x',y/2,z',⟨rfl,e2,rfl⟩,by rw[dR];exact dv7,by rw[dR];exact tb,by omega,rfl⟩
     refine⟨_,rfl,?_⟩
     show(if(((bl (((2*x:Nat):Int)).natAbs:Nat):Int)=((bl ((n:Int)).natAbs:Nat):Int))then _ else _)
     rw[gY,gY]
     split
     ·rename_i hc
      refine⟨_,rfl,?_⟩
      have g:=last (2*x ^^^ n) (by rw[if_pos (by omega)])
      rw[<-lh]at g
      exact g
     ·rename_i hc
      exact last (2*x) (by rw[if_neg (by omega)])
    rw[a1]
    split
    ·rename_i Ce
     have odd:y%2=1:=by omega
     have g:=fin (z ^^^ x) (by rw[if_pos odd])
     rw[<-lh]at g
     exact g
    ·rename_i Ce
     exact fin z (by rw[if_neg (by omega),jk])
   ·rename_i hy1
    have hy:y=0:=by omega
    subst hy
    rw[YY,yi (by rw[kZ];exact fM p0),jk]at inv
    subst inv
    refine hU _ ?_
    walk_at"l3"
    exact q
noncomputable abbrev aJ5:bx:=λds Q=>∃(m:Bool × Nat) (a l:List Nat),ds=[dJ m,.lst false (au a),.lst false (au l)]/\m∈aF/\AllLt (ah m) a/\AllLt (ah m) l/\l.length<=100/\a.length=l.length+1/\(∀k,cf a k=PF m 1 l k)/\Q (.bl true)
theorem aJ6(T:Txt K mg t):aO P w K mg base aZ 2 t.Ii t.Ij ["_law_told_here","_law_a","_law_roots"] (bC (aJ5 )):=by
 refine cx T.SV nQ ?_ ?_
 ·intro ds Q h
  obtain⟨m,a,l,rfl,hm,ha,hl,Jc,Az,ca,q⟩:=h<;>rfl
 ·intro aG A outer s H E hr
  refine⟨_,(aC (aU (i:=3) nQ.nd rfl (ay rfl) (AE (AF) (by rfl) T.qL oV (ak (bv 1) aA)))
   (aC (jb fu rfl (Pa (eT (bv 2))) (fb (i:=4) nQ.nd rfl (ay rfl))
    (aC (aU (i:=5) nQ.nd rfl (ay rfl) aq)
    (aC (aU (i:=6) nQ.nd rfl (ay rfl) (gE e8))
    (cw6 3 (aC (jb fu rfl (Gh rfl T.Ca (ak (bv 3) aA)) (fb (i:=7) nQ.nd rfl (ay rfl))
     (aC (aU (i:=5) nQ.nd rfl (ay rfl) (bE ((Tx T).mono (by decide)) hr rfl T.SS T.IM.kp T.SU bj (ak (bv 0) (ak (ae (bE ((Jg T).mono (by decide)) hr rfl T.IQ T.B6.kp T.IS bj (ak (bv 0) (ak (bv 5) (ak (bv 4) aA))))) (ak (bv 7) aA)))))
     (aK (AI (i:=6) rfl (by first | exact ay rfl | exact bU (ay rfl)) (eT (bv 5))))))
    (aC (ce5 (i:=6) rfl (by first | exact ay rfl | exact bU (ay rfl)) (aK (bb iM)) dv)
    (aK (aU (i:=3) nQ.nd rfl (ay rfl) (bK8 rfl (by rfl) T.qL (by rfl) T.Ca (ak (bv 6) aA))))))))))
   (aK (bb (nC (et (cO hr)) (bv 3) (ae (gE (eD aq e8))) (bY _)))))),λds Q h=>?_⟩
  obtain⟨m,a,l,rfl,hm,ha,hl,Jc,Az,ca,q⟩:=h
  have dE:=(bN hm).lo
  have m0:=bR m hm
  refine aB λU hU=>?_
  walk_at"l3"
  refine hU _ ?_
  clear hU U
  refine aB λU hU=>?_
  walk_at"l3"
  refine fU.mk (λi δ=>∃(L:List Nat) (o1 o2 o3 o4:Option D),δ=[some (dJ m),some (D.lst false (au a)),some (D.lst false (au l)),some (D.lst true (au L)),o1,o2,o3,o4]/\AllLt (ah m) L/\L.length+i=l.length+1/\∀k,cf L k=PF m 1 (l.drop i) k) ⟨a,_,_,_,_,rfl,ha,Az,ca⟩ ?_ ?_
  ·rintro i d δ hd ⟨L,o1,o2,o3,o4,rfl,hL,lL,cL⟩
   obtain⟨hi,rfl⟩:=Rv hd
   clear hd hU
   have qO:=hl _ (i6 hi)
   obtain⟨Qf,eQ⟩:∃Qf,Qf=PF m 1 (l.drop (i+1)):=⟨_,rfl⟩
   have bQ:∀k,Qf k<ah m:=λk=>by rw[eQ];exact qy (rg hm) (by omega) _ k
   have zQ:∀k,l.length-(i+1)<k->Qf k=0:=λk hk=>by rw[eQ];exact qA (rg hm) _ k (by rw[jQ];exact hk)
   have cL2:∀k,cf L k=gO (gp m) (gm m) (df m l[i]) Qf k:=λk=>by rw[cL k,v7 hi,eQ];rfl
   obtain⟨hq,eh⟩:∃hq:Nat->Nat,∀k,hq k=if k=0 then 0 else Qf (k-1):=⟨_,λ_=>rfl⟩
   have stp:∀k,gp m (gm m (Qf k) l[i]) (cf L k)=hq k:=λk=>by
    have e0:gp m (gm m (Qf k) l[i]) (gm m (Qf k) (df m l[i]))=0:=by
     rw[<-yk m0,gK,(GJ hm qO qO).mpr rfl,jg m _ m0]
    rw[cL2 k,eh k]
    cases k with
    | zero=>rw[if_pos rfl];exact e0
    | succ k =>
     rw[if_neg (by omega),Nat.add_sub_cancel]
     show gp m _ (gp m _ (Qf k))=_
     rw[<-iW,e0,fC (bQ k)]
   have hqb:∀k,hq k<ah m:=λk=>by
    rw[eh];split
    ·omega
    ·exact bQ _
   have p1:1<=L.length:=by omega
   refine aB λU hU=>?_
   walk_at"l3"
   refine hU _ ?_
   clear hU
   refine aB λU hU=>?_
   walk_at"l3"
   refine⟨by decide,hU _ ?_⟩
   clear hU
   simp only[pq,wg,we,wc,wb,rm,exists_eq_left',Gs]
   refine aB λU hU=>?_
   walk_at"l3"
   refine fU.mk (λj δ=>∃(o4:Option D),δ=[some (dJ m),some (D.lst false (au a)),some (D.lst false (au l)),some (D.lst false (au L)),some (D.int (l[i]:Nat)),some (D.int (hq (L.length-j):Nat)),some (D.lst true (au ((aV j).map λz=>hq (L.length-1-z)))),o4]) ⟨o4,by rw[eh,if_neg (by omega),oh,zQ _ (by omega)];rfl⟩ ?_ ?_
   ·rintro j d δ hd ⟨o4,rfl⟩
    have gJ:j<L.length:=by
     have:=(gg.mp hd).1
     rw[kQ,dw]at this;exact this
    obtain⟨hj,rfl⟩:∃hj:L.length-1-j<L.length,d=.int (L[L.length-1-j]:Nat):=by
     refine⟨by omega,?_⟩
     rw[zC (by rw[dw];exact gJ),ff,dm,cQ,bu (by omega)]at hd
     exact(cP hd).symm
    have e1:hq (L.length-j)=Qf (L.length-1-j):=by rw[eh,if_neg (by omega)];congr 1;omega
    have e2:L[L.length-1-j]=cf L (L.length-1-j):=by
     unfold cf
     rw[bF,bu hj];rfl
    clear hU hd
    refine aB λU hU=>?_
    walk_at"l3"
    refine⟨m,_,_,rfl,hm,hqb _,qO,m,_,_,rfl,m0,?_⟩
    rw[e1,e2,stp]
    refine⟨rfl,hU _ ?_⟩
    clear hU
    walk_at"l3"
    refine⟨⟨_,rfl⟩,by rw[cQ,eB];omega,_,?_,?_,rfl⟩
    ·rw[show L.length-(j+1)=L.length-1-j by omega]
    ·rw[M9,oi,<- ku];rfl
   ·rintro δ ⟨o4,rfl⟩
    rw[kQ,dw]
    refine hU _ ?_
    clear hU
    refine aB λU hU=>?_
    walk_at"l3"
    have eb:(aV L.length).map (λz=>hq (L.length-1-z))=(aV (L.length-1)).map (λz=>hq (L.length-1-z))++[0]:=by
     rw[show aV L.length=aV (L.length-1+1) by rw[Nat.sub_add_cancel p1],M9,oi]
     congr 1
     rw[dk,kJ,rj,eh,if_pos rfl]
    rw[eb,<- ku]
    refine⟨_,0,rfl,λz=>absurd rfl z,λ_=>hU _ ?_⟩
    clear hU eb
    have er:((aV (L.length-1)).map λz=>hq (L.length-1-z)).reverse=(aV (L.length-1)).map Qf:=by
     refine zB (by simp) λk h1 h2=>?_
     simp at h2
     rw[List.getElem_reverse,M1,M1,V5,V5,eh]
     simp only[cQ,eB]
     rw[if_neg (by omega)]
     congr 1;omega
    walk_at"l3"
    refine⟨_,rfl,(aV (L.length-1)).map Qf,_,_,_,_,⟨?_,rfl,rfl,rfl,rfl⟩,λx hx=>?_,by rw[cQ,eB];omega,λk=>?_⟩
    ·rw[<-er]
     unfold au
     rw[MZ]
    ·obtain⟨k,_,rfl⟩:=dn.mp hx
     exact bQ k
    ·rw[<-eQ]
     by_cases hk:k<L.length-1
     ·exact Gy _ hk
     ·rw[fE (by rw[cQ,eB];omega)]
      exact(zQ k (by omega)).symm
  ·rintro δ ⟨L,o1,o2,o3,o4,rfl,hL,lL,cL⟩
   refine hU _ ?_
   rw[dw]at lL cL
   rw[DG]at cL
   walk_at"l3"
   have eL:L=[1]:=by
    cases L with
    | nil=>simp at lL
    | cons z L =>
     have hz:=cL 0
     cases L with
     | nil =>
      have:z=1:=hz
      rw[this]
     | cons y L=>simp at lL;omega
   subst eL
   refine⟨by decide,by decide,?_⟩
   rw[show D.lst true [D.int 1]=D.lst true (au [1]) from rfl,qo,decide_eq_true rfl]
   exact q
noncomputable abbrev aJ7(t:j4):bx:=λds Q=>∃(m:Bool × Nat) (n x:Nat),ds=[fD t.aJ t.aM m,.int (ah m),.int n,.int x]/\m∈aF/\n<=100/\x<ah m/\Q (.bl true)
theorem aJ8(T:Txt K mg t):aO P w K mg base aZ 5 t.Ik t.Il ["_law_field_here","_law_many_here","_law_size","_law_x"] (bC (aJ7 t)):=by
 refine cx T.SW yB ?_ ?_
 ·intro ds Q h
  obtain⟨m,n,x,rfl,hm,hn,hx,q⟩:=h<;>rfl
 ·intro aG A outer s H E hr
  refine⟨_,(aC (Pk (i:=4) yB.nd rfl (ay rfl) [] ["_law_k"] rfl (sE rfl T.jj (ak (bv 2) aA)) (λ_ _ _ _=>(fb (i:=0) (show(["_law_k"]:List Str).Nodup by decide +kernel) rfl (ay (lookup_relabel_local rfl)) (by decide) (bU (lookup_relabel_local rfl)))) (λ_ _ _ _=>ke) (λ_ _ _ _=>aq) rfl trivial (by repeat' (first | exact trivial | refine⟨.inl rfl,?_⟩ | refine⟨.inr (.inl rfl),?_⟩ | refine⟨.inr (.inr ⟨_,rfl⟩),?_⟩)) trivial (by decide +kernel) rfl (by decide +kernel))
   (aC (aU (i:=5) yB.nd rfl (ay rfl) cD5)
   (aC (cA5 (i:=6) (λ_ _=>(aK (ch6 (cx2 ((Tw T).mono (by decide)) hr rfl T.SQ T.IL.kp T.SR rfl (ak (bv 0) (ak (bv 4) (ak (bv 3) aA)))))))
    (λ_ _=>(aK (aU (i:=5) yB.nd rfl (ay rfl) (em 6)))) (by rfl) T.yZ yB.nd rfl rfl rfl rfl rfl)
   (aC (dG (PW.pt (pd (pe (ja (ae (P9 (by rfl) T.yX (by rfl) T.vC (bv 5))))) (zW (ja (ae (P9 (by rfl) T.yX (by rfl) T.y0 (bv 5))))))) (aK (bb iM)) dv)
   (aK (bb (nC (et (cO hr)) (ae (bE ((Jd T).mono (by decide)) hr rfl T.IJ T.B5.kp T.IK bj (ak (bv 0) (ak (bv 4) aA)))) (ae (bv1 rfl (by rfl) T.qL (by rfl) T.jj (bv 1))) (bY _)))))))),λds Q h=>?_⟩
  obtain⟨m,n,x,rfl,hm,hn,hx,q⟩:=h
  have dE:=(bN hm).lo
  have Je:=(bN hm).hi
  refine aB λU hU=>?_
  walk_at"l3"
  refine⟨⟨by omega,by omega⟩,Ro (n:=n) rfl (by omega) (hU _ ?_)⟩
  clear hU U
  refine aB λU hU=>?_
  walk_at"l3"
  refine hU _ ?_
  clear hU U
  refine aB λU hU=>?_
  walk_at"l3"
  have key:U [some (fD t.aJ t.aM m),some (D.int (ah m)),some (D.int n),some (D.int x),some (D.lst true (au (aQ n 0))),some (exc t.cX),none]:=by
   refine hU _ ?_
   clear hU U
   refine aB λU hU=>?_
   walk_at"l3"
   refine⟨_,Qb T.S9 T.aB4,?_⟩
   rw[if_neg (by decide)]
   refine⟨_,Qb T.S9 T.aB5,?_⟩
   rw[if_neg (by decide)]
   refine hU _ ?_
   clear hU U
   walk_at"l3"
   refine⟨m,aQ n 0,rfl,hm,qm hm n,jE _,ah m,rfl,by omega,Bw 5 true _,?_⟩
   rw[qo,MR.mpr λz _=>by rw[Bu hm z λa ha=>V6 ha];rfl,decide_eq_true rfl]
   exact q
  have c0:bw (aQ n 0)=[]:=Rz (l':=[]) λk=>by rw[BA];rfl
  exact⟨m,aQ n 0,x,⟨rfl,rfl,rfl⟩,hm,qm hm n,by rw[kI];omega,hx,λ_=>⟨T.az6,key⟩,λz=>absurd c0 z⟩
noncomputable abbrev aL6:bx:=λds Q=>∃i:Int,ds=[.int i]/\Q (.bl true)
theorem Tz(T:Txt K mg t):aO P w K mg base aZ 1 t.Im t.Io ["_law_x"] (bC (aL6 )):=by
 refine cx T.IT aK2 ?_ ?_
 ·intro ds Q h
  obtain⟨i,rfl,q⟩:=h<;>rfl
 ·intro aG A outer s H E hr
  refine⟨_,(aK (bb (pf (ae (Fs (by rfl) T.yX (by rfl) T.dp0 Zl (bv 0))) (rC (cD3 (ae (Fs (by rfl) T.yX (by rfl) T.do9 Zm (bv 0)))))))),λds Q h=>?_⟩
  obtain⟨i,rfl,q⟩:=h
  walk_at"l3"
  exact q
noncomputable abbrev aL7:bx:=λds Q=>∃(l:List Nat) (n:Nat),ds=[.lst false (au l),.int n]/\(∀a∈l,a<n)/\l.length<=1000/\Q (.bl true)
theorem TB(T:Txt K mg t):aO P w K mg base aZ 2 t.Ip t.Iq ["_law_found","_law_many_here"] (bC (aL7 )):=by
 refine cx T.IU aK3 ?_ ?_
 ·intro ds Q h
  obtain⟨l,n,rfl,ha,hl,q⟩:=h<;>rfl
 ·intro aG A outer s H E hr
  refine⟨_,(aC (dG (pe (ja (ae (Fs (by rfl) T.yX (by rfl) T.qL oV (bv 0))))) (aK (bb iM)) dv)
   (aK (bb (fB (PC rfl) (by rfl) T.S7 Oy (ak (ae (kb [("_law_many_here",1)] ["_law_x"] rfl (Fb (bv 0)) (λ_ _ _ _=>(fb (i:=1) (show(["_law_many_here","_law_x"]:List Str).Nodup by decide +kernel) rfl (ay (lookup_relabel_local rfl)) (by decide) (bU (lookup_relabel_local rfl)))) (λ_ _ _ _=>ke) (λ_ _ _ _=>(pf (ae (bE ((Tz T).mono (by decide)) hr rfl T.SX T.IT.kp T.SY bj (ak (bv 1) aA))) (rC (Fp xg AD (ae aq) (bv 1) (bv 0))))) rfl ⟨rfl,trivial⟩ (by repeat' (first | exact trivial | refine⟨.inl rfl,?_⟩ | refine⟨.inr (.inl rfl),?_⟩ | refine⟨.inr (.inr ⟨_,rfl⟩),?_⟩)) ⟨⟨rfl,.inl rfl,.inl rfl,_,rfl,rfl⟩,trivial⟩ (by decide +kernel) rfl (by decide +kernel))) aA))))),λds Q h=>?_⟩
  obtain⟨l,n,rfl,ha,hl,q⟩:=h
  refine aB λU hU=>?_
  walk_at"l3"
  refine hU _ ?_
  clear hU U
  walk_at"l3"
  refine p7 l (λ(i:Nat)=>D.int (i:Int)) (λ_=>D.bl true) (Qj l) ud (λi hi=>?_) (.inr λ_ _=>rfl) (by rw[sL];omega) ?_
  ·walk_at"l3"
   have:=ha i hi
   refine⟨i,rfl,true,rfl,?_⟩
   rw[if_pos rfl,if_pos (by omega)]
   omega
  ·refine⟨l.map λ_=>true,by unfold AG;rw[gk];rfl,?_⟩
   have e:(l.map λ_=>true).all id=true:=by simp
   rw[e];exact q
noncomputable abbrev TC:bx:=λds Q=>∃(C:Addr) (p n a:Nat),ds=[yh C p,.int n,.int a]/\Q (.int (goN (true,p) n a:Nat))
theorem aG0(T:Txt K mg t):aO P w K mg base aZ 1 t.Ir t.Iu ["self","n","a"] (bC (TC )):=by
 refine cx T.aH0 aF3 ?_ ?_
 ·intro ds Q h
  obtain⟨C,p,n,a,rfl,q⟩:=h<;>rfl
 ·intro aG A outer s H E hr
  refine⟨_,(aK (bb (O7 (cN (et (cO hr)) (ae (aH dH (bv 1) (ae aq))) (ae aq) (bY _)) (em 2) aq))),λds Q h=>?_⟩
  obtain⟨C,p,n,a,rfl,q⟩:=h
  walk_at"l3"
  refine⟨by decide,?_⟩
  have q:Q (.int ((if n%2=1 then a else 0:Nat):Int)):=q
  split
  ·rw[if_pos (by omega)]at q;exact q
  ·rw[if_neg (by omega)]at q;exact q
noncomputable abbrev TF(K:Frag):bx:=λds Q=>∃(C:Addr) (p n a:Nat),ds=[qh C p,.int n,.int a]/\dq K C/\cj K C "prime"/\0<p/\IntMulOk (n:Int) (a:Int)/\Q (.int (goN (false,p) n a:Nat))
theorem aB8(T:Txt K mg t):aO P w K mg base aZ 1 t.Iw t.Iy ["self","n","a"] (bC (TF K)):=by
 refine cx T.aD4 aB1 ?_ ?_
 ·intro ds Q h
  obtain⟨C,p,n,a,rfl,hC,hn,hp,hq,q⟩:=h<;>rfl
 ·intro aG A outer s H E hr
  refine⟨_,(aK (bb (aH dH (ae (aH lZ (bv 1) (bv 2))) (jh (K:=K) (bv 0))))),λds Q h=>?_⟩
  obtain⟨C,p,n,a,rfl,hC,hn,hp,hq,q⟩:=h
  walk_at"l3"
  refine⟨hq,C,_,_,.int p,rfl,hC,hn,rfl,?_⟩
  have e:((goN (false,p) n a:Nat):Int)=(n:Int)*a%p:=by
   show((n*a%p:Nat):Int)=_
   rw[mV,zR]
  rw[e]at q
  exact⟨by omega,q⟩
theorem ch0(T:Txt K mg t){m:Bool × Nat}(h0:0<m.2){n a:Nat}(hn:IntMulOk (n:Int) (a:Int)){Q:D->Prop}(q:Q (.int (goN m n a:Nat))):Ra P w K mg base 1 t.aJ t.aM m "often" [.int n,.int a] Q:=by
 obtain⟨k,p⟩:=m
 cases k with
 | true=>exact⟨_,_,_,TC,rfl,⟨T.fm,_,_,_,T.yK,aG0 T,T.aH1⟩,by decide,_,p,n,a,rfl,q⟩
 | false=>exact⟨_,_,_,TF K,rfl,⟨T.fo,_,_,_,T.yT,aB8 T,T.aD5⟩,by decide,_,p,n,a,rfl,T.fo,T.kC,h0,hn,q⟩
noncomputable abbrev b58(cb cp:Addr):bx:=λds Q=>∃(m:Bool × Nat) (a:List Nat),ds=[fD cb cp m,.lst false (au a)]/\m∈aF/\AllLt (ah m) a/\a.length<=500/\Q (.lst true (au (bw (jF m a))))
theorem b62(T:Txt K mg t):aO P w K mg base aZ 2 t.Iz t.IA ["field","a"] (bC (b58 t.aJ t.aM)):=by
 refine cx T.S4 bX4 ?_ ?_
 ·intro ds Q h
  obtain⟨m,a,rfl,hm,ha,hl,q⟩:=h<;>rfl
 ·intro aG A outer s H E hr
  refine⟨_,(aK (bb (bE ((vE T).mono (by decide)) hr rfl T.vx T.qD.kp T.vy bj (ak (ae (kb [("field",0),("a",1)] ["k"] rfl (sE rfl T.jj (ak (ae (aH gG (ae (fB (gH) (by rfl) T.gP gA (ak (bv 1) aA))) (ae aq))) aA)) (λ_ _ _ _=>(fb (i:=2) (show(["field","a","k"]:List Str).Nodup by decide +kernel) rfl (ay (lookup_relabel_local rfl)) (by decide) (bU (lookup_relabel_local rfl)))) (λ_ _ _ _=>ke) (λ_ _ _ _=>(nL (P:=P) (w:=w) (K:=K) (mg:=mg) (base:=base) (n:=1) (bv 0) (hr.mono (by decide)) (ak (ae (aH eE (bv 2) (ae aq))) (ak (cG (bv 1) (ae (aH eE (bv 2) (ae aq))) (λ_ _=>rfl)) aA)))) rfl ⟨rfl,⟨rfl,trivial⟩⟩ (by repeat' (first | exact trivial | refine⟨.inl rfl,?_⟩ | refine⟨.inr (.inl rfl),?_⟩ | refine⟨.inr (.inr ⟨_,rfl⟩),?_⟩)) ⟨⟨rfl,.inl rfl,.inl rfl,_,rfl,rfl⟩,⟨⟨rfl,.inl rfl,.inl rfl,_,rfl,rfl⟩,trivial⟩⟩ (by decide +kernel) rfl (by decide +kernel))) aA)))),λds Q h=>?_⟩
  obtain⟨m,a,rfl,hm,ha,hl,q⟩:=h
  have m0:=bR m hm
  have hF:=bN hm
  have Je:=hF.hi
  walk_at"l3"
  refine⟨⟨by omega,by omega⟩,?_⟩
  refine p7 (aV (a.length-1)) (λ(i:Nat)=>D.int (i:Int)) (λk=>D.int ((goN m (k+1) (a.getD (k+1) 0):Nat):Int)) ?_ ud (λi hi=>?_) (.inr λ_ _=>rfl) (by rw[eB,sL];omega) ?_
  ·rw[pB,show((a.length:Int)-1).toNat=a.length-1 by omega];simp
  ·have hi:=gR.mp hi
   walk_at"l3"
   obtain⟨C,ns,xs,sp,e1,e2,e3,e4⟩:=ch0 (P:=P) (w:=w) (base:=base) T m0 (n:=i+1) (a:=a.getD (i+1) 0) (oK.ok (.inr ⟨by omega,by have:=ha.getD (show 0<ah m by have:=hF.lo;omega) (i+1);omega⟩)) (Q:=λr=>((D.int ((a.getD (i+1) 0:Nat):Int)).pl||r.fr)=true/\r=D.int ((goN m (i+1) (a.getD (i+1) 0):Nat):Int)) ⟨rfl,rfl⟩
   refine⟨C,ns,xs,sp,e1,e2,e3,_,By (by omega) (by omega),?_⟩
   rw[show((i:Int)+1).toNat=i+1 by omega]
   exact e4
  ·rw[show((aV (a.length-1)).map λk=>D.int ((goN m (k+1) (a.getD (k+1) 0):Nat):Int))=au (jF m a) by rw[ff];unfold jF;rw[gk];rfl]
   walk_at"l3"
   exact⟨_,rfl,by rw[Gu];omega,jE _,q⟩
noncomputable abbrev aL8:bx:=λds Q=>∃(m:Bool × Nat) (l:List Nat) (x:Nat),ds=[dJ m,.lst false (au l),.int x]/\m∈aF/\AllLt (ah m) l/\x<ah m/\Q (.int (aP m x l:Nat))
theorem aL9(T:Txt K mg t):aO P w K mg base aZ 2 t.IB t.IC ["_law_told_here","_law_a","_law_x"] (bC (aL8 )):=by
 refine cx T.S5 BX ?_ ?_
 ·intro ds Q h
  obtain⟨m,l,x,rfl,hm,ha,hx,q⟩:=h<;>rfl
 ·intro aG A outer s H E hr
  refine⟨_,(aC (aU (i:=3) BX.nd rfl (ay rfl) aq)
   (aC (jb fu rfl (Gh rfl T.Ca (ak (bv 1) aA)) (fb (i:=4) BX.nd rfl (ay rfl))
    (aK (aU (i:=3) BX.nd rfl (ay rfl) (bE ((Tx T).mono (by decide)) hr rfl T.SS T.IM.kp T.SU bj (ak (bv 0) (ak (ae (bE ((Jg T).mono (by decide)) hr rfl T.IQ T.B6.kp T.IS bj (ak (bv 0) (ak (bv 3) (ak (bv 2) aA))))) (ak (bv 4) aA)))))))
   (aK (bb (em 3))))),λds Q h=>?_⟩
  obtain⟨m,l,x,rfl,hm,ha,hx,q⟩:=h
  have m0:=bR m hm
  refine aB λU hU=>?_
  walk_at"l3"
  refine hU _ ?_
  clear hU U
  refine aB λU hU=>?_
  walk_at"l3"
  refine fU.mk (λi δ=>∃o,δ=[some (dJ m),some (.lst false (au l)),some (.int x),some (.int (aP m x (l.drop (l.length-i)):Nat)),o]) ⟨none,by rw[oh,DG];rfl⟩ ?_ ?_
  ·rintro i d δ hd ⟨o,rfl⟩
   have gJ:i<l.length:=by
    have:=(gg.mp hd).1
    rw[kQ,dw]at this;exact this
   obtain⟨hi,rfl⟩:∃hi:l.length-1-i<l.length,d=.int (l[l.length-1-i]:Nat):=by
    refine⟨by omega,?_⟩
    rw[zC (by rw[dw];exact gJ),ff,dm,cQ,bu (by omega)]at hd
    exact(cP hd).symm
   have hv:aP m x (l.drop (l.length-i))<ah m:=qk hm x λa h=>ha a (DC h)
   walk_at"l3"
   refine⟨m,_,_,rfl,hm,hv,hx,m,_,_,rfl,m0,rfl,_,?_,rfl⟩
   have e:l.drop (l.length-(i+1))=l[l.length-1-i]::l.drop (l.length-i):=by
    rw[show l.length-(i+1)=l.length-1-i by omega,v7 hi,show l.length-1-i+1=l.length-i by omega]
   rw[e];rfl
  ·rintro δ ⟨o,rfl⟩
   refine hU _ ?_
   walk_at"l3"
   rw[kQ,dw,rj,Dz]
   exact q
theorem TH(x:Nat):∀l:List Nat,(l.map λ(n:Nat)=>(n:Int)).count (x:Int)=l.count x
 | []=>rfl
 | y::l=>by
  rw[dk,List.count_cons,List.count_cons,TH x l]
  congr 1
  by_cases h:y=x
  ·rw[h];simp
  ·rw[if_neg (by simp;omega),if_neg (by simpa using h)]
theorem cu7(T:Txt K mg t)(hB:Bm mg base):aO P w K mg base aZ 11 t.ID t.IE ["_law_script"] (xY [t.jK,t.jL] (bC (PL ))):=by
 refine QL T.do4 fk ?_ ?_
 ·intro ds Q h
  obtain⟨ns,rfl,hl,q⟩:=h<;>rfl
 ·intro aG A outer s H E hT hr
  refine⟨_,(aC (aU (i:=1) fk.nd rfl (bU rfl) (bE ((aN1 T).mono (by decide)) hr rfl T.aO1 T.Sq.kp T.aO2 bj (ak (ae (bE ((qP T).mono (by decide)) hr rfl T.qE T.nR.kp T.qF bj (ak (bv 0) (ak (ae aq) aA)))) aA)))
   (aC (aU (i:=2) fk.nd rfl (ay rfl) (cj0 hT ((aL2 T hB).mono (by decide)) hr rfl T.aM5 T.SG.kp T.aM6 bj (ak (bv 1) aA)))
   (aC (aU (i:=3) fk.nd rfl (bU rfl) (bE ((aN5 T).mono (by decide)) hr rfl T.aO3 T.SH.kp T.aO4 bj (ak (bv 1) aA)))
   (aC (aU (i:=4) fk.nd rfl (ay rfl) (O7 (ja (cG (bv 1) (ae aq) (λ_ _=>rfl))) aq aq))
   (aC (Pk (i:=5) fk.nd rfl (ay rfl) [("_law_many_here",3)] ["_law_cell_here"] rfl (Fb (ae (ub (bv 0) (pU (ae aq)) (pU (ae (aH eE (ae aq) (bv 4))))))) (λ_ _ _ _=>(fb (i:=1) (show(["_law_many_here","_law_cell_here"]:List Str).Nodup by decide +kernel) rfl (ay (lookup_relabel_local rfl)) (by decide) (bU (lookup_relabel_local rfl)))) (λ_ _ _ _=>ke) (λ_ _ _ _=>(aH dH (bv 1) (bv 0))) rfl ⟨rfl,trivial⟩ (by repeat' (first | exact trivial | refine⟨.inl rfl,?_⟩ | refine⟨.inr (.inl rfl),?_⟩ | refine⟨.inr (.inr ⟨_,rfl⟩),?_⟩)) ⟨⟨rfl,.inl rfl,.inl rfl,_,rfl,rfl⟩,trivial⟩ (by decide +kernel) rfl (by decide +kernel))
   (aC (aU (i:=6) fk.nd rfl (ay rfl) (AE (AF) (by rfl) T.qL oV (ak (bv 5) aA)))
   (aC (aU (i:=7) fk.nd rfl (ay rfl) (bE ((aO6 T).mono (by decide)) hr rfl T.dm3 T.SM.kp T.dm4 bj (ak (bv 2) (ak (bv 6) aA))))
   (aC (dG (PW.pt (pd (pe (ja (ae (bE ((TB T).mono (by decide)) hr rfl T.S0 T.IU.kp T.S3 bj (ak (bv 7) (ak (bv 3) aA)))))) (pd (cN (me (cO hr)) (ae (fB (gH) (by rfl) T.gP gA (ak (bv 7) aA))) (ae (aH eE (ae (fB (gH) (by rfl) T.gP gA (ak (bv 5) aA))) (ae aq))) (bY _)) (pd (cN (me (cO hr)) (cG (bv 7) (ae (tu (ae aq))) (λ_ _=>rfl)) (ae aq) (bY _)) (zW (cN (me (cO hr)) (bv 6) (bv 5) (bY _))))))) (aK (bb iM)) dv)
   (aC (dG (pe (ja (ae (bE ((aJ6 T).mono (by decide)) hr rfl T.aK4 T.SV.kp T.aK5 bj (ak (bv 1) (ak (bv 7) (ak (bv 5) aA))))))) (aK (bb iM)) dv)
   (aC (aU (i:=8) fk.nd rfl (ay rfl) (aH dH (ae (bE ((qP T).mono (by decide)) hr rfl T.qE T.nR.kp T.qF bj (ak (bv 0) (ak (ae aq) aA)))) (ae aq)))
   (aC (aU (i:=9) fk.nd rfl (bU rfl) (aH eE (ae aq) (ae (aH dH (ae (bE ((qP T).mono (by decide)) hr rfl T.qE T.nR.kp T.qF bj (ak (bv 0) (ak (ae aq) aA)))) (ae (aH gG (bv 3) (ae aq)))))))
   (aC (aU (i:=10) fk.nd rfl (ay rfl) (aH dH (ae (bE ((qP T).mono (by decide)) hr rfl T.qE T.nR.kp T.qF bj (ak (bv 0) (ak (ae aq) aA)))) (bv 3)))
   (aC (dG (PW.pt (O6 (cN (et (cO hr)) (ae (aH sN (bv 8) (ae aq))) (ae aq) (bY _)) (Nn (cN Fh (ae (fB (gH) (by rfl) T.gP gA (ak (bv 5) aA))) (ae aq) (bY _))))) (aK (aU (i:=10) fk.nd rfl (ay rfl) (eT (cG (bv 5) (ae (aH dH (ae (bE ((qP T).mono (by decide)) hr rfl T.qE T.nR.kp T.qF bj (ak (bv 0) (ak (ae aq) aA)))) (ae (fB (gH) (by rfl) T.gP gA (ak (bv 5) aA))))) (λ_ _=>rfl))))) dv)
   (aC (aU (i:=11) fk.nd rfl (ay rfl) (aH eE (ae (kb [("_law_told_here",1),("_law_factor",9)] ["_law_y"] rfl (Fb (bv 7)) (λ_ _ _ _=>(fb (i:=2) (show(["_law_told_here","_law_factor","_law_y"]:List Str).Nodup by decide +kernel) rfl (ay (lookup_relabel_local rfl)) (by decide) (bU (lookup_relabel_local rfl)))) (λ_ _ _ _=>ke) (λ_ _ _ _=>(bE ((Jg T).mono (by decide)) hr rfl T.IQ T.B6.kp T.IS bj (ak (bv 0) (ak (bv 1) (ak (bv 2) aA))))) rfl ⟨rfl,⟨rfl,trivial⟩⟩ (by repeat' (first | exact trivial | refine⟨.inl rfl,?_⟩ | refine⟨.inr (.inl rfl),?_⟩ | refine⟨.inr (.inr ⟨_,rfl⟩),?_⟩)) ⟨⟨rfl,.inl rfl,.inl rfl,_,rfl,rfl⟩,⟨⟨rfl,.inl rfl,.inl rfl,_,rfl,rfl⟩,trivial⟩⟩ (by decide +kernel) rfl (by decide +kernel))) (ae (kb [] ["_law_k"] rfl (sE rfl T.jj (ak (ae (aH dH (bv 8) (ae aq))) aA)) (λ_ _ _ _=>(fb (i:=0) (show(["_law_k"]:List Str).Nodup by decide +kernel) rfl (ay (lookup_relabel_local rfl)) (by decide) (bU (lookup_relabel_local rfl)))) (λ_ _ _ _=>ke) (λ_ _ _ _=>aq) rfl trivial (by repeat' (first | exact trivial | refine⟨.inl rfl,?_⟩ | refine⟨.inr (.inl rfl),?_⟩ | refine⟨.inr (.inr ⟨_,rfl⟩),?_⟩)) trivial (by decide +kernel) rfl (by decide +kernel)))))
   (aC (AI (i:=7) rfl (by first | exact ay rfl | exact bU (ay rfl)) aq)
   (aC (aU (i:=12) fk.nd rfl (ay rfl) (AE (AF) (by rfl) T.qL oV (ak (bv 11) aA)))
   (aC (aU (i:=13) fk.nd rfl (ay rfl) (bE ((Jd T).mono (by decide)) hr rfl T.IJ T.B5.kp T.IK bj (ak (bv 2) (ak (bv 12) aA))))
   (aC (dG (PW.pt (pd (pe (ja (ae (bE ((TB T).mono (by decide)) hr rfl T.S0 T.IU.kp T.S3 bj (ak (bv 13) (ak (bv 3) aA)))))) (zW (cN (me (cO hr)) (bv 13) (ae (bM3 rfl (by rfl) T.dp2 (by rfl) T.dp1 (ak (bv 5) aA))) (bY _))))) (aK (bb iM)) dv)
   (aC (aU (i:=14) fk.nd rfl (ay rfl) (bE (AS ((Tw T).mono (by decide))) hr rfl T.SQ T.IL.kp T.SR AR (ak (bv 2) (ak (bv 12) (ak (bv 10) aA)))))
   (aC (dG (PW.pt (pd (pe (ja (ae (bE ((Tz T).mono (by decide)) hr rfl T.SX T.IT.kp T.SY bj (ak (bv 14) aA))))) (pd (cN (me (cO hr)) (bv 14) (ae (ch7 (bv 5) (bv 10))) (bY _)) (zW (cN (me (cO hr)) (bv 6) (bv 5) (bY _)))))) (aK (bb iM)) dv)
   (aC (aU (i:=15) fk.nd rfl (bU rfl) (aH eE (ae (ub (bv 5) xj (pU (ae (aH eE (ae aq) (ae (aH dH (ae (aH sN (ae (bE ((qP T).mono (by decide)) hr rfl T.qE T.nR.kp T.qF bj (ak (bv 0) (ak (ae aq) aA)))) (ae aq))) (ae aq)))))))) (ae (gE (eD (aH eE (ae aq) (ae (aH dH (ae (aH sN (ae (bE ((qP T).mono (by decide)) hr rfl T.qE T.nR.kp T.qF bj (ak (bv 0) (ak (ae aq) aA)))) (ae aq))) (ae (aH gG (bv 3) (ae aq)))))) e8)))))
   (aC (dG (cN (me (cO hr)) (ae (bE ((Jd T).mono (by decide)) hr rfl T.IJ T.B5.kp T.IK bj (ak (bv 2) (ak (ae (AE (AF) (by rfl) T.qL oV (ak (bv 15) aA))) aA)))) (ae (kb [("_law_told_here",1),("_law_some",15)] ["_law_y"] rfl (sE rfl T.jj (ak (bv 3) aA)) (λ_ _ _ _=>(fb (i:=2) (show(["_law_told_here","_law_some","_law_y"]:List Str).Nodup by decide +kernel) rfl (ay (lookup_relabel_local rfl)) (by decide) (bU (lookup_relabel_local rfl)))) (λ_ _ _ _=>(Pl (cN (et (cO hr)) (ae (bE ((aL9 T).mono (by decide)) hr rfl T.aM8 T.S5.kp T.aM9 bj (ak (bv 0) (ak (bv 1) (ak (bv 2) aA))))) (ae aq) (bY _)))) (λ_ _ _ _=>(eT (bv 2))) rfl ⟨rfl,⟨rfl,trivial⟩⟩ (by repeat' (first | exact trivial | refine⟨.inl rfl,?_⟩ | refine⟨.inr (.inl rfl),?_⟩ | refine⟨.inr (.inr ⟨_,rfl⟩),?_⟩)) ⟨⟨rfl,.inl rfl,.inl rfl,_,rfl,rfl⟩,⟨⟨rfl,.inl rfl,.inl rfl,_,rfl,rfl⟩,trivial⟩⟩ (by decide +kernel) rfl (by decide +kernel))) (bY _)) (aK (bb iM)) dv)
   (aC (aU (i:=16) fk.nd rfl (ay rfl) (pf (ae (nC (et (cO hr)) (ae (bE ((Ci T).mono (by decide)) hr rfl T.B3 T.yD.kp T.B4 bj (ak (bv 2) (ak (bv 12) (ak (bv 10) aA))))) (ae aq) (bY _))) (rC (nC (et (cO hr)) (ae (bE ((Ci T).mono (by decide)) hr rfl T.B3 T.yD.kp T.B4 bj (ak (bv 2) (ak (ae (bE ((b62 T).mono (by decide)) hr rfl T.do0 T.S4.kp T.do1 bj (ak (bv 2) (ak (bv 12) aA)))) (ak (bv 10) aA))))) (ae aq) (bY _)))))
   (aK (bb (pf (ae (nC (et (cO hr)) (bv 16) (ae (nC Pq (bv 14) (ae aq) (bY _))) (bY _))) (pf (ae (nC (et (cO hr)) (bv 12) (bv 11) (bY _))) (rC (bE ((aJ8 T).mono (by decide)) hr rfl T.aK6 T.SW.kp T.aK7 bj (ak (bv 2) (ak (bv 3) (ak (ae (aH dH (bv 8) (ae aq))) (ak (bv 10) aA))))))))))))))))))))))))))))))))),λds Q h=>?_⟩
  obtain⟨ns,rfl,hl,q⟩:=h
  refine aB λU hU=>?_
  walk_at"l3"
  refine⟨ns,0,rfl,by decide,_,rfl,rfl,hU _ ?_⟩
  clear hU U
  generalize hmm:nM (ns.getD (0:Int).toNat 0)=m
  have hm:m∈aF:=by rw[<-hmm];exact bZ1 _
  have hF:=bN hm
  have dE:=hF.lo
  have Je:=hF.hi
  have hbl:=cf1 m hm
  have m0:=bR m hm
  have TJ:∀z:Int,z%(ah m:Int)=(((z%(ah m:Int)).toNat:Nat):Int):=λz=>by
   have n0:=gW z (show(ah m:Int)≠0 by omega)
   omega
  have TK:∀z:Int,(z%(ah m:Int)).toNat<ah m:=λz=>by
   have n1:=gX z (show(0:Int)<(ah m:Int) by omega)
   omega
  refine aB λU hU=>?_
  walk_at"l3"
  refine⟨m,rfl,hm,hU _ ?_⟩
  clear hU U
  refine aB λU hU=>?_
  walk_at"l3"
  refine⟨m,rfl,by omega,by omega,hU _ ?_⟩
  clear hU U
  refine aB λU hU=>?_
  walk_at"l3"
  have st:∀r:Nat,r<=59->U [some (D.fz (nums ns)),some (dJ m),some (fD t.aJ t.aM m),some (D.int (ah m)),some (D.int r),none,none,none,none,none,none,none,none,none,none,none,none]:=by
   intro r hr
   refine hU _ ?_
   clear hU U
   refine aB λU hU=>?_
   walk_at"l3"
   generalize hL:dS ns (some 4) (some (4+(r:Int)))=L
   have lL:L.length<=59:=by
    rw[<-hL,show(4:Int)+(r:Int)=((4+r:Nat):Int) by omega,show dS ns (some 4) _=_ from PN ns 4 (4+r),gj,jQ];omega
   refine p7 L (λz=>D.int z) (λz=>D.int (((z%(ah m:Int)).toNat:Nat):Int)) (by rw[iT];rfl) (λa b h=>by injection h) (λz hz=>?_) (.inr λ_ _=>rfl) (by rw[sL];omega) ?_
   ·walk_at"l3"
    exact⟨by omega,by rw[<-TJ]⟩
   obtain⟨rs,Cm,mI,lrs⟩:∃cs:List Nat,(L.map λz=>D.int (((z%(ah m:Int)).toNat:Nat):Int))=au cs/\AllLt (ah m) cs/\cs.length<=59:=by
    refine⟨L.map λz=>(z%(ah m:Int)).toNat,by rw[ff,gk];rfl,λa ha=>?_,by simpa using lL⟩
    obtain⟨k,_,rfl⟩:=dn.mp ha
    exact TK _
   rw[Cm]
   clear Cm hL lL L
   refine hU _ ?_
   clear hU U
   refine aB λU hU=>?_
   walk_at"l3"
   refine hU _ ?_
   clear hU U
   refine aB λU hU=>?_
   walk_at"l3"
   refine⟨m,rs,rfl,hm,mI,by omega,λFo Jh Ji Jj=>⟨jE _,hU _ ?_⟩⟩
   clear hU U
   have tF:cf Fo rs.length=1:=by rw[Jj];exact BN (rg hm) (by omega) rs
   refine aB λU hU=>?_
   walk_at"l3"
   refine⟨Fo,ah m,rfl,Jh,by omega,rfl,true,rfl,?_⟩
   rw[if_neg (by decide),if_neg (by simp[Ji])]
   refine⟨_,Gp (by omega),rfl,?_⟩
   rw[show Fo.getD (Fo.length-1) 0=1 by rw[Ji];exact tF,if_neg (by decide),if_neg (by simp)]
   refine hU _ ?_
   clear hU U
   refine aB λU hU=>?_
   walk_at"l3"
   refine⟨m,Fo,rs,rfl,hm,Jh,mI,by omega,Ji,Jj,rfl,true,rfl,?_⟩
   rw[if_neg (by decide)]
   refine hU _ ?_
   clear hU U
   refine aB λU hU=>?_
   walk_at"l3"
   refine⟨ns,2,rfl,by decide,by decide,?_⟩
   obtain⟨wy,ew,hw⟩:∃k:Nat,ns.getD (2:Int).toNat 0%8=k/\k<8:=by
    have n0:=gW (ns.getD (2:Int).toNat 0) (show(8:Int)≠0 by omega)
    have n1:=gX (ns.getD (2:Int).toNat 0) (show(0:Int)<8 by omega)
    exact⟨(ns.getD (2:Int).toNat 0%8).toNat,by omega,by omega⟩
   rw[ew]
   refine hU _ ?_
   clear hU U
   refine aB λU hU=>?_
   walk_at"l3"
   refine⟨ns,1,rfl,by decide,by omega,?_⟩
   obtain⟨fa,ef,y8,kF⟩:∃v:Nat,1+ns.getD (1:Int).toNat 0%((ah m:Int)-1)=v/\v≠0/\v<ah m:=by
    have n0:=gW (ns.getD (1:Int).toNat 0) (show((ah m:Int)-1)≠0 by omega)
    have n1:=gX (ns.getD (1:Int).toNat 0) (show(0:Int)<((ah m:Int)-1) by omega)
    exact⟨(1+ns.getD (1:Int).toNat 0%((ah m:Int)-1)).toNat,by omega,by omega,by omega⟩
   rw[ef]
   refine hU _ ?_
   clear hU U
   refine aB λU hU=>?_
   walk_at"l3"
   refine⟨ns,3,rfl,by decide,by omega,?_⟩
   rw[TJ]
   generalize nE:(ns.getD (3:Int).toNat 0%(ah m:Int)).toNat=x0
   have nE:x0<ah m:=by rw[<-nE];exact TK _
   refine hU _ ?_
   clear hU U
   refine aB λU hU=>?_
   walk_at"l3"
   have fin:∀x:Nat,x<ah m->U [some (D.fz (nums ns)),some (dJ m),some (fD t.aJ t.aM m),some (D.int ↑(ah m)),some (D.int ↑r),some (D.lst true (au rs)),some (D.lst true (au rs)),some (D.lst true (au Fo)),some (D.int ↑wy),some (D.int ↑fa),some (D.int ↑x),none,none,none,none,none,none]:=by
    intro x hx
    refine hU _ ?_
    clear hU U
    refine aB λU hU=>?_
    walk_at"l3"
    have mf:AllLt (ah m) (Fo.map (gm m fa)):=λz hz=>by
     obtain⟨y,_,rfl⟩:=dn.mp hz
     exact dU hm _ _
    refine p7 Fo (λ(i:Nat)=>D.int (i:Int)) (λy=>D.int ((gm m fa y:Nat):Int)) (Qj _) ud (λy hy=>?_) (.inr λ_ _=>rfl) (by rw[sL];omega) ?_
    ·walk_at"l3"
     exact⟨m,fa,y,rfl,hm,kF,Jh y hy,rfl⟩
    rw[show(Fo.map λy=>D.int ((gm m fa y:Nat):Int))=au (Fo.map (gm m fa)) by rw[ff,gk];rfl]
    refine⟨by decide,⟨by omega,by omega⟩,Ro (n:=wy%4) (by omega) (by omega) ?_⟩
    dsimp only
    refine⟨⟨by rw[dw,dw,cQ,kI];omega,kr _,kr _⟩,?_⟩
    rw[ku]
    obtain⟨AA,eA⟩:∃AA,AA=Fo.map (gm m fa)++aQ (wy%4) 0:=⟨_,rfl⟩
    have lA:AllLt (ah m) AA:=λz hz=>by
     rw[eA]at hz
     rcases eH.mp hz with h | h
     ·exact mf z h
     ·rw[V6 h];omega
    have nA:AA.length<=64:=by rw[eA,mL,cQ,kI];omega
    have cA:∀k,cf AA k=PF m fa rs k:=λk=>by
     have e1:cf AA k=gm m fa (cf Fo k):=by
      rw[eA,cs2]
      split
      ·exact cx9 hm fa Fo k
      ·rename_i h
       rw[cQ]at h
       rw[BA,fE (l:=Fo) (by omega),jg m _ m0]
     rw[e1,Jj,BO (rg hm) (by omega) (nO hm) kF,uu kF]
    rw[<-eA]
    refine hU _ ?_
    clear hU U
    refine aB λU hU=>?_
    walk_at"l3"
    refine⟨⟨_,rfl⟩,by omega,hU _ ?_⟩
    clear hU U
    generalize (D.lst true (au Fo++[D.int 1]))=dx6
    refine aB λU hU=>?_
    walk_at"l3"
    refine hU _ ?_
    clear hU U
    refine aB λU hU=>?_
    walk_at"l3"
    refine⟨m,AA,rfl,hm,lA,jE _,hU _ ?_⟩
    clear hU U
    obtain⟨Rt,eR⟩:∃Rt,Rt=(aV (ah m)).filter λx=>aP m x AA==0:=⟨_,rfl⟩
    have mR:∀y,y∈Rt↔y<ah m/\y∈rs:=λy=>by
     rw[eR,Dc,gR]
     refine and_congr_right λhy=>?_
     rw[beq_iff_eq]
     exact GL hm kF y8 hy mI cA
    have pR:Rt.Pairwise (· < ·):=by rw[eR];exact M5.filter _
    have lR:Rt.length<=64:=by
     rw[eR]
     refine eu (List.length_filter_le _ _) ?_
     rw[eB];omega
    rw[<-eR]
    refine aB λU hU=>?_
    walk_at"l3"
    refine⟨Rt,ah m,rfl,λy hy=>((mR y).mp hy).1,by omega,rfl,true,rfl,?_⟩
    rw[if_neg (by decide)]
    refine⟨_,rfl,by rw[cQ];omega,λms h1 h2=>?_⟩
    obtain⟨hs,e1,hp,lY,_⟩:=cE0 h1 h2
    have eh:Rt=hs:=Si pR hp λy=>by
     rw[mR,lY]
     exact⟨λz=>z.2,λz=>⟨mI y z,z⟩⟩
    rw[e1,<- eh,qo,decide_eq_true rfl,if_neg (by decide)]
    clear e1 h1 h2 lY eh hp
    refine hU _ ?_
    clear hU U eR mR pR
    generalize (D.lst true (au Rt))=dx7
    have nz:bw AA≠[]:=λz=>by
     have e:=gL AA rs.length
     rw[z,cA]at e
     exact y8 ((BN (rg hm) kF rs).symm.trans e.symm)
    refine aB λU hU=>?_
    walk_at"l3"
    refine⟨m,AA,x,rfl,hm,lA,by omega,hx,λz=>absurd z nz,λ_=>⟨fa,rs,y8,kF,mI,cA,rfl,hU _ ?_⟩⟩
    clear hU U
    refine aB λU hU=>?_
    walk_at"l3"
    refine⟨_,rfl,_,rfl,?_⟩
    rw[if_neg (by decide)]
    refine⟨true,_,⟨rfl,rfl⟩,?_⟩
    rw[TH,decide_eq_true rfl,if_neg (by decide),if_neg (by simp)]
    refine hU _ ?_
    clear hU U
    refine aB λU hU=>?_
    walk_at"l3"
    refine⟨ns,2,rfl,by decide,sJ (by decide) (by decide),by decide,ns,1,rfl,by decide,sJ (by decide) (by decide),by omega,by decide,?_⟩
    obtain⟨kc,TL,_⟩:∃k:Nat,1+ns.getD (2:Int).toNat 0/8%5=k/\k<=5:=by
     have n0:=gW (ns.getD (2:Int).toNat 0/8) (show(5:Int)≠0 by omega)
     have n1:=gX (ns.getD (2:Int).toNat 0/8) (show(0:Int)<5 by omega)
     exact⟨(1+ns.getD (2:Int).toNat 0/8%5).toNat,by omega,by omega⟩
    obtain⟨lv,TM,_,hlv⟩:∃v:Nat,1+ns.getD (1:Int).toNat 0/64%((ah m:Int)-1)=v/\v≠0/\v<ah m:=by
     have n0:=gW (ns.getD (1:Int).toNat 0/64) (show((ah m:Int)-1)≠0 by omega)
     have n1:=gX (ns.getD (1:Int).toNat 0/64) (show(0:Int)<((ah m:Int)-1) by omega)
     exact⟨(1+ns.getD (1:Int).toNat 0/64%((ah m:Int)-1)).toNat,by omega,by omega,by omega⟩
    rw[TL,TM,FL]
    have es:au (rs.take kc)++[D.int (lv:Int)]=au (rs.take kc++[lv]):=ku _ [lv]
    rw[es]
    obtain⟨So,eS,TN,lSo⟩:∃So,rs.take kc++[lv]=So/\AllLt (ah m) So/\So.length<=64:=by
     refine⟨_,rfl,λz hz=>?_,by rw[mL,gj];simp;omega⟩
     rcases eH.mp hz with h | h
     ·exact mI z (zu h)
     ·rw[gU]at h
      rw[h];exact hlv
    rw[eS]
    refine⟨by rw[gj];omega,hU _ ?_⟩
    clear hU U es eS TL TM
    refine aB λU hU=>?_
    walk_at"l3"
    refine⟨m,So,rfl,hm,TN,jE _,⟨by omega,by omega⟩,RO (aV (ah m)) (λ(i:Nat)=>D.int (i:Int)) (λ(i:Nat)=>D.int (i:Int)) (λx=>aP m x So==0) (Gr _ rfl) ud (λj hj=>?_) (.inr λ_ _ _=>rfl) (by rw[eB,sL];omega) ?_⟩
    ·have hj:=gR.mp hj
     walk_at"l3"
     refine⟨m,So,j,rfl,hm,TN,hj,by rfl,?_,λ_=>trivial⟩
     rw[show D.int 0=D.int ((0:Nat):Int) from rfl,iU]
     by_cases h0:aP m j So=0
     ·rw[h0];rfl
     ·rw[decide_eq_false (by omega),beq_eq_false_iff_ne.mpr h0]
    rw[<-ff]
    refine⟨⟨Bw 5 true _,Bw 5 true _⟩,?_⟩
    rw[qo,decide_eq_true rfl,if_neg (by decide)]
    refine hU _ ?_
    clear hU U
    generalize (D.lst true (au So))=dx9
    refine aB λU hU=>?_
    walk_at"l3"
    have fin2:∀b:Bool,b=decide (2<=rs.count x)->U [some (D.fz (nums ns)),some (dJ m),some (fD t.aJ t.aM m),some (D.int ↑(ah m)),some (D.int ↑r),some (D.lst true (au rs)),some (D.lst true (au rs)),some dx6,some (D.int ↑wy),some (D.int ↑fa),some (D.int ↑x),some (D.lst true (au AA)),some (D.lst true (au AA)),some dx7,some (D.int ↑(mX x rs)),some dx9,some (D.bl b)]:=by
     intro b hb
     refine hU _ ?_
     clear hU U
     walk_at"l3"
     have e:decide ((2:Int)<=(mX x rs:Nat))=b:=by rw[hb,decide_eq_decide];omega
     rw[e,show bM (D.bl b) (D.bl b)=true by cases b<;>rfl,if_pos rfl]
     refine⟨by decide,m,wy%4,x,by rw[show((wy:Int)%4)=((wy%4:Nat):Int) by omega],hm,by omega,hx,q⟩
    have hv:=GL hm kF y8 hx mI cA
    refine⟨m,AA,x,rfl,hm,lA,hx,rfl,rfl,?_⟩
    rw[show D.int 0=D.int ((0:Nat):Int) from rfl,iU]
    by_cases hz:aP m x AA=0
    ·rw[hz,decide_eq_true rfl,if_pos rfl]
     refine⟨m,AA,rfl,hm,lA,by omega,jE _,m,_,x,by rw[Gs],hm,(λz hz=>Gv hm lA z (ym hz)),hx,by rw[tN,wj],rfl,fin2 _ ?_⟩
     have Jf:=hv.mp hz
     have pS:=M8 Jf
     have cE:mX x (rs.erase x)+1=mX x rs:=by
      have:=pS.count_eq x
      rw[V3]at this;omega
     have hE:∀s∈rs.erase x,s<ah m:=λs hs=>mI s (V4 hs)
     have sl:=b54 hm hx lA (Sg hm kF (rs.erase x)) λk=>by
      rw[cA k,show cf (kB m fa (rs.erase x))=_ from funext (BP hm fa (rs.erase x))]
      exact congrFun (GH (rg hm) kF (nO hm) pS) k
     have h2:=GK hm kF y8 hx hE
     rw[iU,Bv hm,sl]
     by_cases fe:x∈rs.erase x
     ·have:=List.count_pos_iff.mpr fe
      rw[h2.mpr fe,decide_eq_true rfl,decide_eq_true (by omega)]
     ·have:=Na.mpr fe
      have nh:aP m x (kB m fa (rs.erase x))≠0:=λe=>fe (h2.mp e)
      rw[decide_eq_false (by omega),decide_eq_false (by omega)]
    ·rw[decide_eq_false (by omega),if_neg (by decide)]
     have n0:mX x rs=0:=Na.mpr λz=>hz (hv.mpr z)
     exact fin2 _ (by rw[n0];rfl)
   refine⟨sJ (by decide) (by decide),?_⟩
   split
   ·split
    ·rename_i h1 h2
     have h2:0<rs.length:=by omega
     refine⟨ns,3,rfl,by decide,by omega,?_⟩
     obtain⟨k,ek,hk⟩:∃k:Nat,ns.getD (3:Int).toNat 0%(rs.length:Int)=k/\k<rs.length:=by
      have n0:=gW (ns.getD (3:Int).toNat 0) (show(rs.length:Int)≠0 by omega)
      have n1:=gX (ns.getD (3:Int).toNat 0) (show(0:Int)<(rs.length:Int) by omega)
      exact⟨(ns.getD (3:Int).toNat 0%(rs.length:Int)).toNat,by omega,by omega⟩
     rw[ek]
     exact⟨.int (rs.getD k 0:Nat),by rw[By (by omega) (by omega),fH],rfl,fin _ (mI.getD (by omega) k)⟩
    ·exact fin x0 nE
   ·exact fin x0 nE
  refine(show ∃d,dD [D.bl m.1,D.int m.2] (0:Int)=some d/\_ from⟨_,rfl,m.1,rfl,?_⟩)
  split
  ·exact st 30 (by decide)
  ·exact st 59 (by decide)
end
set_option maxHeartbeats 0 in
theorem all_mk{l:PySem.W.OpenLaw}{w:World}{K:Frag}{h:Heap}{mg:Str->Option Value}{fa:Addr}{ts:List Addr}(X:K.In h)(G:h.Ns mainGlobals mg)(hfa:mg "law"=some (.ref fa))
  {od0 an0:Option Addr} {sl0:Array (Option Value)} {oc0 kV0 dc0 pm0 TQ ct0:Value} {f0:Addr}
  {od1 an1:Option Addr} {sl1:Array (Option Value)} {oc1 kV1 dc1 pm1 TR ct1:Value} {f1:Addr}
  {od2 an2:Option Addr} {sl2:Array (Option Value)} {oc2 kV2 dc2 pm2 TU ct2:Value} {f2:Addr}
  {od3 an3:Option Addr} {sl3:Array (Option Value)} {oc3 kV3 dc3 pm3 TV ct3:Value} {f3:Addr}
  {od4 an4:Option Addr} {sl4:Array (Option Value)} {oc4 kV4 dc4 pm4 TX ct4:Value} {f4:Addr}
  {od5 an5:Option Addr} {sl5:Array (Option Value)} {oc5 kV5 dc5 pm5 TY ct5:Value} {f5:Addr}
  {od6 an6:Option Addr} {sl6:Array (Option Value)} {oc6 kV6 dc6 pm6 TZ ct6:Value} {f6:Addr}
  {od7 an7:Option Addr} {sl7:Array (Option Value)} {oc7 kV7 dc7 pm7 ct7:Value} {f7:Addr}
  {y9 jK:Addr} {aE7:Option Addr} {aE8:Array (Option Value)} {T1:Array Value} {aE9:Value}
  {od8 an8:Option Addr} {sl8:Array (Option Value)} {oc8 kV8 dc8 pm8 T3 ct8:Value} {f8:Addr}
  {od9 an9:Option Addr} {sl9:Array (Option Value)} {oc9 kV9 dc9 pm9 T4 ct9:Value} {f9:Addr}
  {dG4 dG5:Option Addr} {dG6:Array (Option Value)} {dG7 dG8 dG9 dH0 T5 dH1:Value} {Cn:Addr}
  {dH2 dH3:Option Addr} {dH4:Array (Option Value)} {dH5 dH6 dH7 dH8 T6 dH9:Value} {Co:Addr}
  {dI0 dI1:Option Addr} {dI2:Array (Option Value)} {dI3 dI4 dI5 dI6 T7 dI7:Value} {ka:Addr}
  {dI8 dI9:Option Addr} {dJ0:Array (Option Value)} {dJ1 dJ2 dJ3 dJ4 dJ5:Value} {vF:Addr}
  {za jL:Addr} {aH6:Option Addr} {aH7:Array (Option Value)} {T8:Array Value} {aH8:Value}
  {dJ9 dK0:Option Addr} {dK1:Array (Option Value)} {dK2 dK3 dK4 dK5 T9 dK6:Value} {Cp:Addr}
  {dK7 dK8:Option Addr} {dK9:Array (Option Value)} {dL0 dL1 dL2 dL3 Ua dL4:Value} {Cq:Addr}
  {dL5 dL6:Option Addr} {dL7:Array (Option Value)} {dL8 dL9 dM0 dM1 Ub dM2:Value} {Cr:Addr}
  {dM3 dM4:Option Addr} {dM5:Array (Option Value)} {dM6 dM7 dM8 dM9 Uc dN0:Value} {vG:Addr}
  {dN1 dN2:Option Addr} {dN3:Array (Option Value)} {dN4 dN5 dN6 dN7 Ud dN8:Value} {vH:Addr}
  {dN9 dO0:Option Addr} {dO1:Array (Option Value)} {dO2 dO3 dO4 dO5 Ue dO6:Value} {vI:Addr}
  {dO7 dO8:Option Addr} {dO9:Array (Option Value)} {dP2 dP3 dP4 dP5 Ug dP6:Value} {vJ:Addr}
  {dP7 dP8:Option Addr} {dP9:Array (Option Value)} {dQ0 dQ1 dQ2 dQ3 Uh dQ4:Value} {Cs:Addr}
  {dQ5 dQ6:Option Addr} {dQ7:Array (Option Value)} {dQ8 dQ9 dR0 dR4 Ui dR5:Value} {vK:Addr}
  {dR6 dR7:Option Addr} {dR8:Array (Option Value)} {dR9 dS0 dS1 dS2 Uj dS3:Value} {vL:Addr}
  {dS4 dS5:Option Addr} {dS6:Array (Option Value)} {dS7 dS8 dS9 dT0 Uk dT1:Value} {sH:Addr}
  {dT2 dT3:Option Addr} {dT4:Array (Option Value)} {dT5 dT6 dT7 dT8 Ul dT9:Value} {Ct:Addr}
  {dU0 dU1:Option Addr} {dU2:Array (Option Value)} {dU3 dU4 dU5 dU6 Um dU7:Value} {Cu:Addr}
  {dU8 dU9:Option Addr} {dV0:Array (Option Value)} {dV1 dV2 dV3 dV4 Uo dV5:Value} {Cv:Addr}
  {dV6 dV7:Option Addr} {dV8:Array (Option Value)} {dV9 dW0 dW1 dW2 Up dW3:Value} {nX:Addr}
  {dW4 dW5:Option Addr} {dW6:Array (Option Value)} {dW7 dW8 dW9 dX0 Uq dX1:Value} {vM:Addr}
  {dX2 dX3:Option Addr} {dX4:Array (Option Value)} {dX5 dX6 dX7 dX8 Ur dX9:Value} {vN:Addr}
  {dY0 dY1:Option Addr} {dY2:Array (Option Value)} {dY3 dY4 dY5 dY6 Us dY7:Value} {Cw:Addr}
  {dY8 dY9:Option Addr} {dZ0:Array (Option Value)} {dZ1 dZ2 dZ3 dZ4 Ut dZ5:Value} {Cy:Addr}
  {dZ6 dZ7:Option Addr} {dZ8:Array (Option Value)} {dZ9 d00 d01 d02 Uu d03:Value} {Cz:Addr}
  {d04 d05:Option Addr} {d06:Array (Option Value)} {d07 d08 d09 d11 Uv d12:Value} {CA:Addr}
  {d13 d14:Option Addr} {d15:Array (Option Value)} {d16 d17 d18 d19 Uw d20:Value} {CB:Addr}
  {d21 d22:Option Addr} {d23:Array (Option Value)} {d24 d25 d26 d27 Ux d28:Value} {CC:Addr}
  {d29 d30:Option Addr} {d31:Array (Option Value)} {d32 d33 d34 d35 Uy d36:Value} {CD:Addr}
  {d37 d38:Option Addr} {d39:Array (Option Value)} {d40 d41 d42 d43 Uz d44:Value} {CF:Addr}
  {d45 d46:Option Addr} {d47:Array (Option Value)} {d48 d49 d50 d51 UA d52:Value} {CG:Addr}
  {d53 d54:Option Addr} {d55:Array (Option Value)} {d56 d57 d58 d59 UB d60:Value} {vO:Addr}
  {d61 d62:Option Addr} {d63:Array (Option Value)} {d64 d65 d66 d67 UC d68:Value} {vP:Addr}
  {d69 d70:Option Addr} {d71:Array (Option Value)} {d72 d73 d74 d75 UD d76:Value} {CH:Addr}
  {d77 d78:Option Addr} {d79:Array (Option Value)} {d80 d81 d82 d83 UE d84:Value} {CI:Addr}
  {d85 UG:Option Addr} {d86:Array (Option Value)} {d87 UH UI UJ Jk UK:Value} {Jl:Addr}
  {aJ cX jM mG jN aM:Addr}
  (yY:nsIn K mainGlobals "BitField"=some (some (.ref aJ)))
  (vC:nsIn K mainGlobals "ByNought"=some (some (.ref cX)))
  (vD:nsIn K mainGlobals "Field"=some (some (.ref jM)))
  (yZ:nsIn K mainGlobals "MendError"=some (some (.ref mG)))
  (y0:nsIn K mainGlobals "NoPoints"=some (some (.ref jN)))
  (y6:nsIn K mainGlobals "PrimeField"=some (some (.ref aM)))
  (a0:nsIn K mainGlobals "_law_told"=some (some (.ref f0)))
  (l0:K.lookup f0=some ⟨oc0,od0,.func (fnOf "_law_told" "_law_told" (br uG) (bf uG) (az uG) .none kV0 dc0 pm0 an0 TQ ct0),sl0⟩)
  (c0:codeIn K TQ "_law_told"=true)
  (k0:keepIn K (.ref f0)=true)
  (a1:nsIn K mainGlobals "powers_of"=some (some (.ref f1)))
  (l1:K.lookup f1=some ⟨oc1,od1,.func (fnOf "powers_of" "powers_of" (br uH) (bf uH) (az uH) .none kV1 dc1 pm1 an1 TR ct1),sl1⟩)
  (c1:codeIn K TR "powers_of"=true)
  (k1:keepIn K (.ref f1)=true)
  (a2:nsIn K mainGlobals "step_powers"=some (some (.ref f2)))
  (l2:K.lookup f2=some ⟨oc2,od2,.func (fnOf "step_powers" "step_powers" (br uI) (bf uI) (az uI) .none kV2 dc2 pm2 an2 TU ct2),sl2⟩)
  (c2:codeIn K TU "step_powers"=true)
  (k2:keepIn K (.ref f2)=true)
  (a3:nsIn K mainGlobals "logs_of"=some (some (.ref f3)))
  (l3:K.lookup f3=some ⟨oc3,od3,.func (fnOf "logs_of" "logs_of" (br uJ) (bf uJ) (az uJ) .none kV3 dc3 pm3 an3 TV ct3),sl3⟩)
  (c3:codeIn K TV "logs_of"=true)
  (k3:keepIn K (.ref f3)=true)
  (a4:findIn K (.ref jM) "step_power"=some (some (.ref f4)))
  (l4:K.lookup f4=some ⟨oc4,od4,.func (fnOf "step_power" "Field.step_power" (br uK) (bf uK) (az uK) .none kV4 dc4 pm4 an4 TX ct4),sl4⟩)
  (c4:codeIn K TX "Field.step_power"=true)
  (k4:keepIn K (.ref f4)=true)
  (a5:findIn K (.ref jM) "__init__"=some (some (.ref f5)))
  (l5:K.lookup f5=some ⟨oc5,od5,.func (fnOf "__init__" "Field.__init__" (br uL) (bf uL) (az uL) .none kV5 dc5 pm5 an5 TY ct5),sl5⟩)
  (c5:codeIn K TY "Field.__init__"=true)
  (k5:keepIn K (.ref f5)=true)
  (a6:nsIn K mainGlobals "makes_prime_field"=some (some (.ref f6)))
  (l6:K.lookup f6=some ⟨oc6,od6,.func (fnOf "makes_prime_field" "makes_prime_field" (br uM) (bf uM) (az uM) .none kV6 dc6 pm6 an6 TZ ct6),sl6⟩)
  (c6:codeIn K TZ "makes_prime_field"=true)
  (k6:keepIn K (.ref f6)=true)
  (a7:findIn K (.ref aM) "__init__"=some (some (.ref f7)))
  (l7:K.lookup f7=some ⟨oc7,od7,.func (fnOf "__init__" "PrimeField.__init__" (br mD) (bf mD) (az mD) .none kV7 dc7 pm7 an7 (.ref y9) ct7),sl7⟩)
  (c7:codeIn K (.ref y9) "PrimeField.__init__"=true)
  (k7:keepIn K (.ref f7)=true)
  (UL:K.lookup y9=some ⟨aE9,aE7,.fields T1,aE8⟩)
  (UM:T1[11]?=some (.ref jK))
  (Jm:codeHdIn K y9 jK=true)
  (a8:nsIn K mainGlobals "product_rows"=some (some (.ref f8)))
  (l8:K.lookup f8=some ⟨oc8,od8,.func (fnOf "product_rows" "product_rows" (br uN) (bf uN) (az uN) .none kV8 dc8 pm8 an8 T3 ct8),sl8⟩)
  (c8:codeIn K T3 "product_rows"=true)
  (k8:keepIn K (.ref f8)=true)
  (a9:nsIn K mainGlobals "bits_divided"=some (some (.ref f9)))
  (l9:K.lookup f9=some ⟨oc9,od9,.func (fnOf "bits_divided" "bits_divided" (br uO) (bf uO) (az uO) .none kV9 dc9 pm9 an9 T4 ct9),sl9⟩)
  (c9:codeIn K T4 "bits_divided"=true)
  (k9:keepIn K (.ref f9)=true)
  (Jn:nsIn K mainGlobals "stands_alone"=some (some (.ref Cn)))
  (Jo:K.lookup Cn=some ⟨dG7,dG4,.func (fnOf "stands_alone" "stands_alone" (br uQ) (bf uQ) (az uQ) .none dG8 dG9 dH0 dG5 T5 dH1),dG6⟩)
  (Jp:codeIn K T5 "stands_alone"=true)
  (Jq:keepIn K (.ref Cn)=true)
  (Jr:nsIn K mainGlobals "makes_bit_field"=some (some (.ref Co)))
  (Js:K.lookup Co=some ⟨dH5,dH2,.func (fnOf "makes_bit_field" "makes_bit_field" (br uR) (bf uR) (az uR) .none dH6 dH7 dH8 dH3 T6 dH9),dH4⟩)
  (Jt:codeIn K T6 "makes_bit_field"=true)
  (Ju:keepIn K (.ref Co)=true)
  (Jv:nsIn K mainGlobals "bits_times"=some (some (.ref ka)))
  (Jw:K.lookup ka=some ⟨dI3,dI0,.func (fnOf "bits_times" "bits_times" (br uS) (bf uS) (az uS) .none dI4 dI5 dI6 dI1 T7 dI7),dI2⟩)
  (Jx:codeIn K T7 "bits_times"=true)
  (Jy:keepIn K (.ref ka)=true)
  (UN:findIn K (.ref aJ) "__init__"=some (some (.ref vF)))
  (Jz:K.lookup vF=some ⟨dJ1,dI8,.func (fnOf "__init__" "BitField.__init__" (br mE) (bf mE) (az mE) .none dJ2 dJ3 dJ4 dI9 (.ref za) dJ5),dJ0⟩)
  (JA:codeIn K (.ref za) "BitField.__init__"=true)
  (JB:keepIn K (.ref vF)=true)
  (UO:K.lookup za=some ⟨aH8,aH6,.fields T8,aH7⟩)
  (UP:T8[11]?=some (.ref jL))
  (JC:codeHdIn K za jL=true)
  (JE:nsIn K mainGlobals "_law_field"=some (some (.ref Cp)))
  (JF:K.lookup Cp=some ⟨dK2,dJ9,.func (fnOf "_law_field" "_law_field" (br uT) (bf uT) (az uT) .none dK3 dK4 dK5 dK0 T9 dK6),dK1⟩)
  (JG:codeIn K T9 "_law_field"=true)
  (JH:keepIn K (.ref Cp)=true)
  (JI:nsIn K mainGlobals "_law_many"=some (some (.ref Cq)))
  (JJ:K.lookup Cq=some ⟨dL0,dK7,.func (fnOf "_law_many" "_law_many" (br uU) (bf uU) (az uU) .none dL1 dL2 dL3 dK8 Ua dL4),dK9⟩)
  (JK:codeIn K Ua "_law_many"=true)
  (JL:keepIn K (.ref Cq)=true)
  (JM:nsIn K mainGlobals "trimmed"=some (some (.ref Cr)))
  (JN:K.lookup Cr=some ⟨dL8,dL5,.func (fnOf "trimmed" "trimmed" (br uV) (bf uV) (az uV) .none dL9 dM0 dM1 dL6 Ub dM2),dL7⟩)
  (JO:codeIn K Ub "trimmed"=true)
  (JP:keepIn K (.ref Cr)=true)
  (UQ:findIn K (.ref aJ) "plus"=some (some (.ref vG)))
  (JQ:K.lookup vG=some ⟨dM6,dM3,.func (fnOf "plus" "BitField.plus" (br uW) (bf uW) (az uW) .none dM7 dM8 dM9 dM4 Uc dN0),dM5⟩)
  (JR:codeIn K Uc "BitField.plus"=true)
  (CJ:keepIn K (.ref vG)=true)
  (UR:findIn K (.ref aM) "plus"=some (some (.ref vH)))
  (JS:K.lookup vH=some ⟨dN4,dN1,.func (fnOf "plus" "PrimeField.plus" (br uX) (bf uX) (az uX) .none dN5 dN6 dN7 dN2 Ud dN8),dN3⟩)
  (JT:codeIn K Ud "PrimeField.plus"=true)
  (CK:keepIn K (.ref vH)=true)
  (US:findIn K (.ref aJ) "times"=some (some (.ref vI)))
  (JU:K.lookup vI=some ⟨dO2,dN9,.func (fnOf "times" "BitField.times" (br uY) (bf uY) (az uY) .none dO3 dO4 dO5 dO0 Ue dO6),dO1⟩)
  (JV:codeIn K Ue "BitField.times"=true)
  (CL:keepIn K (.ref vI)=true)
  (UT:findIn K (.ref aM) "times"=some (some (.ref vJ)))
  (JW:K.lookup vJ=some ⟨dP2,dO7,.func (fnOf "times" "PrimeField.times" (br uZ) (bf uZ) (az uZ) .none dP3 dP4 dP5 dO8 Ug dP6),dO9⟩)
  (JX:codeIn K Ug "PrimeField.times"=true)
  (CM:keepIn K (.ref vJ)=true)
  (JY:nsIn K mainGlobals "poly_times"=some (some (.ref Cs)))
  (JZ:K.lookup Cs=some ⟨dQ0,dP7,.func (fnOf "poly_times" "poly_times" (br u3) (bf u3) (az u3) .none dQ1 dQ2 dQ3 dP8 Uh dQ4),dP9⟩)
  (J0:codeIn K Uh "poly_times"=true)
  (J1:keepIn K (.ref Cs)=true)
  (UU:findIn K (.ref aJ) "minus"=some (some (.ref vK)))
  (J2:K.lookup vK=some ⟨dQ8,dQ5,.func (fnOf "minus" "BitField.minus" (br u4) (bf u4) (az u4) .none dQ9 dR0 dR4 dQ6 Ui dR5),dQ7⟩)
  (J3:codeIn K Ui "BitField.minus"=true)
  (CN:keepIn K (.ref vK)=true)
  (UW:findIn K (.ref aM) "minus"=some (some (.ref vL)))
  (J4:K.lookup vL=some ⟨dR9,dR6,.func (fnOf "minus" "PrimeField.minus" (br u5) (bf u5) (az u5) .none dS0 dS1 dS2 dR7 Uj dS3),dR8⟩)
  (J5:codeIn K Uj "PrimeField.minus"=true)
  (CO:keepIn K (.ref vL)=true)
  (J6:nsIn K mainGlobals "less_root"=some (some (.ref sH)))
  (J7:K.lookup sH=some ⟨dS7,dS4,.func (fnOf "less_root" "less_root" (br u6) (bf u6) (az u6) .none dS8 dS9 dT0 dS5 Uk dT1),dS6⟩)
  (J8:codeIn K Uk "less_root"=true)
  (J9:keepIn K (.ref sH)=true)
  (Ka:nsIn K mainGlobals "by_roots"=some (some (.ref Ct)))
  (Kb:K.lookup Ct=some ⟨dT5,dT2,.func (fnOf "by_roots" "by_roots" (br u7) (bf u7) (az u7) .none dT6 dT7 dT8 dT3 Ul dT9),dT4⟩)
  (Kd:codeIn K Ul "by_roots"=true)
  (Ke:keepIn K (.ref Ct)=true)
  (Kf:nsIn K mainGlobals "value_at"=some (some (.ref Cu)))
  (Kg:K.lookup Cu=some ⟨dU3,dU0,.func (fnOf "value_at" "value_at" (br u9) (bf u9) (az u9) .none dU4 dU5 dU6 dU1 Um dU7),dU2⟩)
  (Kh:codeIn K Um "value_at"=true)
  (Ki:keepIn K (.ref Cu)=true)
  (Kj:nsIn K mainGlobals "roots_of"=some (some (.ref Cv)))
  (Kk:K.lookup Cv=some ⟨dV1,dU8,.func (fnOf "roots_of" "roots_of" (br va) (bf va) (az va) .none dV2 dV3 dV4 dU9 Uo dV5),dV0⟩)
  (Kl:codeIn K Uo "roots_of"=true)
  (Km:keepIn K (.ref Cv)=true)
  (UX:findIn K (.ref jM) "over"=some (some (.ref nX)))
  (Kn:K.lookup nX=some ⟨dV9,dV6,.func (fnOf "over" "Field.over" (br vb) (bf vb) (az vb) .none dW0 dW1 dW2 dV7 Up dW3),dV8⟩)
  (Ko:codeIn K Up "Field.over"=true)
  (zb:keepIn K (.ref nX)=true)
  (UY:findIn K (.ref aJ) "lessened"=some (some (.ref vM)))
  (Kp:K.lookup vM=some ⟨dW7,dW4,.func (fnOf "lessened" "BitField.lessened" (br vd) (bf vd) (az vd) .none dW8 dW9 dX0 dW5 Uq dX1),dW6⟩)
  (Kq:codeIn K Uq "BitField.lessened"=true)
  (CP:keepIn K (.ref vM)=true)
  (UZ:findIn K (.ref aM) "lessened"=some (some (.ref vN)))
  (Kr:K.lookup vN=some ⟨dX5,dX2,.func (fnOf "lessened" "PrimeField.lessened" (br ve) (bf ve) (az ve) .none dX6 dX7 dX8 dX3 Ur dX9),dX4⟩)
  (Ks:codeIn K Ur "PrimeField.lessened"=true)
  (CQ:keepIn K (.ref vN)=true)
  (Kt:nsIn K mainGlobals "poly_divided"=some (some (.ref Cw)))
  (Ku:K.lookup Cw=some ⟨dY3,dY0,.func (fnOf "poly_divided" "poly_divided" (br vf) (bf vf) (az vf) .none dY4 dY5 dY6 dY1 Us dY7),dY2⟩)
  (Kv:codeIn K Us "poly_divided"=true)
  (Kw:keepIn K (.ref Cw)=true)
  (Kx:nsIn K mainGlobals "how_often"=some (some (.ref Cy)))
  (Ky:K.lookup Cy=some ⟨dZ1,dY8,.func (fnOf "how_often" "how_often" (br vg) (bf vg) (az vg) .none dZ2 dZ3 dZ4 dY9 Ut dZ5),dZ0⟩)
  (Kz:codeIn K Ut "how_often"=true)
  (KA:keepIn K (.ref Cy)=true)
  (KC:nsIn K mainGlobals "_law_cell"=some (some (.ref Cz)))
  (KD:K.lookup Cz=some ⟨dZ9,dZ6,.func (fnOf "_law_cell" "_law_cell" (br vh) (bf vh) (az vh) .none d00 d01 d02 dZ7 Uu d03),dZ8⟩)
  (KG:codeIn K Uu "_law_cell"=true)
  (KH:keepIn K (.ref Cz)=true)
  (KI:nsIn K mainGlobals "_law_plus"=some (some (.ref CA)))
  (KJ:K.lookup CA=some ⟨d07,d04,.func (fnOf "_law_plus" "_law_plus" (br vi) (bf vi) (az vi) .none d08 d09 d11 d05 Uv d12),d06⟩)
  (KL:codeIn K Uv "_law_plus"=true)
  (KN:keepIn K (.ref CA)=true)
  (KO:nsIn K mainGlobals "_law_times"=some (some (.ref CB)))
  (KP:K.lookup CB=some ⟨d16,d13,.func (fnOf "_law_times" "_law_times" (br vj) (bf vj) (az vj) .none d17 d18 d19 d14 Uw d20),d15⟩)
  (KQ:codeIn K Uw "_law_times"=true)
  (KR:keepIn K (.ref CB)=true)
  (KS:nsIn K mainGlobals "_law_peeled"=some (some (.ref CC)))
  (KU:K.lookup CC=some ⟨d24,d21,.func (fnOf "_law_peeled" "_law_peeled" (br vm) (bf vm) (az vm) .none d25 d26 d27 d22 Ux d28),d23⟩)
  (KW:codeIn K Ux "_law_peeled"=true)
  (KY:keepIn K (.ref CC)=true)
  (KZ:nsIn K mainGlobals "_law_nought"=some (some (.ref CD)))
  (K0:K.lookup CD=some ⟨d32,d29,.func (fnOf "_law_nought" "_law_nought" (br vn) (bf vn) (az vn) .none d33 d34 d35 d30 Uy d36),d31⟩)
  (K1:codeIn K Uy "_law_nought"=true)
  (K2:keepIn K (.ref CD)=true)
  (K3:nsIn K mainGlobals "_law_whole"=some (some (.ref CF)))
  (K4:K.lookup CF=some ⟨d40,d37,.func (fnOf "_law_whole" "_law_whole" (br vo) (bf vo) (az vo) .none d41 d42 d43 d38 Uz d44),d39⟩)
  (K5:codeIn K Uz "_law_whole"=true)
  (K6:keepIn K (.ref CF)=true)
  (K7:nsIn K mainGlobals "_law_signs"=some (some (.ref CG)))
  (K8:K.lookup CG=some ⟨d48,d45,.func (fnOf "_law_signs" "_law_signs" (br vp) (bf vp) (az vp) .none d49 d50 d51 d46 UA d52),d47⟩)
  (K9:codeIn K UA "_law_signs"=true)
  (La:keepIn K (.ref CG)=true)
  (U0:findIn K (.ref aJ) "often"=some (some (.ref vO)))
  (Lb:K.lookup vO=some ⟨d56,d53,.func (fnOf "often" "BitField.often" (br vq) (bf vq) (az vq) .none d57 d58 d59 d54 UB d60),d55⟩)
  (Lc:codeIn K UB "BitField.often"=true)
  (CS:keepIn K (.ref vO)=true)
  (U1:findIn K (.ref aM) "often"=some (some (.ref vP)))
  (Ld:K.lookup vP=some ⟨d64,d61,.func (fnOf "often" "PrimeField.often" (br vt) (bf vt) (az vt) .none d65 d66 d67 d62 UC d68),d63⟩)
  (Le:codeIn K UC "PrimeField.often"=true)
  (CT:keepIn K (.ref vP)=true)
  (Lf:nsIn K mainGlobals "slope"=some (some (.ref CH)))
  (Lg:K.lookup CH=some ⟨d72,d69,.func (fnOf "slope" "slope" (br vv) (bf vv) (az vv) .none d73 d74 d75 d70 UD d76),d71⟩)
  (Lh:codeIn K UD "slope"=true)
  (Li:keepIn K (.ref CH)=true)
  (Lj:nsIn K mainGlobals "_law_value"=some (some (.ref CI)))
  (Lk:K.lookup CI=some ⟨d80,d77,.func (fnOf "_law_value" "_law_value" (br vw) (bf vw) (az vw) .none d81 d82 d83 d78 UE d84),d79⟩)
  (Ll:codeIn K UE "_law_value"=true)
  (Lm:keepIn K (.ref CI)=true)
  (CU:nsIn K mainGlobals "law"=some (some (.ref Jl)))
  (Ln:K.lookup Jl=some ⟨d87,d85,.func (fnOf "law" "law" (br mF) (bf mF) (az mF) .none UH UI UJ UG Jk UK),d86⟩)
  (Lo:codeIn K Jk "law"=true)
  (Lp:keepIn K (.ref Jl)=true)
  (CV:PySem.W.plainGet K aJ Str.empty=true)
  (CW:PySem.W.hasDictIn K aJ=true)
  (CY:PySem.W.plainOver K aJ=true)
  (CZ:findIn K (.ref aJ) "__setattr__"=some (some (.builtin "object.__setattr__")))
  (yE:PySem.W.makesIn K aJ=true)
  (Lq:findIn K (.ref aJ) "__init__"=some (some (.ref vF)))
  (Lr:isFn K (.ref vF)=true)
  (Ls:keepIn K (.ref aJ)=true)
  (Lu:findIn K (.ref aJ) "__class__"=some (some (.builtin "object.__class__")))
  (Lv:specialIn K (.builtin "object.__class__") "__get__"=some (some (.builtin "getset_descriptor.__get__")))
  (Lw:takesIn K (.builtin "object.__class__")=some true)
  (Lx:mroIn K aJ (.type "object")=some true)
  (yF:findIn K (.ref aJ) "bits"=some none)
  (nU:findIn K (.ref aJ) "logs"=some none)
  (qG:findIn K (.ref aJ) "many"=some none)
  (qH:findIn K (.ref aJ) "powers"=some none)
  (B7:findIn K (.ref aJ) "prime"=some none)
  (qI:findIn K (.ref aJ) "products"=some none)
  (yG:findIn K (.ref aJ) "step"=some none)
  (yH:findIn K (.ref aJ) "wide"=some none)
  (yI:findIn K (.ref aJ) "lessened"=some (some (.ref vM)))
  (Ly:isFn K (.ref vM)=true)
  (yJ:findIn K (.ref aJ) "minus"=some (some (.ref vK)))
  (Lz:isFn K (.ref vK)=true)
  (yK:findIn K (.ref aJ) "often"=some (some (.ref vO)))
  (LA:isFn K (.ref vO)=true)
  (yL:findIn K (.ref aJ) "over"=some (some (.ref nX)))
  (LB:isFn K (.ref nX)=true)
  (yM:findIn K (.ref aJ) "plus"=some (some (.ref vG)))
  (LC:isFn K (.ref vG)=true)
  (vz:findIn K (.ref aJ) "step_power"=some (some (.ref f4)))
  (LD:isFn K (.ref f4)=true)
  (yN:findIn K (.ref aJ) "times"=some (some (.ref vI)))
  (LF:isFn K (.ref vI)=true)
  (C2:PySem.W.plainGet K aM Str.empty=true)
  (C3:PySem.W.hasDictIn K aM=true)
  (C4:PySem.W.plainOver K aM=true)
  (C5:findIn K (.ref aM) "__setattr__"=some (some (.builtin "object.__setattr__")))
  (yO:PySem.W.makesIn K aM=true)
  (LG:findIn K (.ref aM) "__init__"=some (some (.ref f7)))
  (LH:isFn K (.ref f7)=true)
  (LJ:keepIn K (.ref aM)=true)
  (LK:findIn K (.ref aM) "__class__"=some (some (.builtin "object.__class__")))
  (LL:specialIn K (.builtin "object.__class__") "__get__"=some (some (.builtin "getset_descriptor.__get__")))
  (LM:takesIn K (.builtin "object.__class__")=some true)
  (at2:mroIn K aM (.type "object")=some true)
  (B8:findIn K (.ref aM) "bits"=some none)
  (qJ:findIn K (.ref aM) "logs"=some none)
  (qK:findIn K (.ref aM) "many"=some none)
  (vA:findIn K (.ref aM) "powers"=some none)
  (kC:findIn K (.ref aM) "prime"=some none)
  (B9:findIn K (.ref aM) "products"=some none)
  (yP:findIn K (.ref aM) "step"=some none)
  (yQ:findIn K (.ref aM) "wide"=some none)
  (yR:findIn K (.ref aM) "lessened"=some (some (.ref vN)))
  (LN:isFn K (.ref vN)=true)
  (yS:findIn K (.ref aM) "minus"=some (some (.ref vL)))
  (LO:isFn K (.ref vL)=true)
  (yT:findIn K (.ref aM) "often"=some (some (.ref vP)))
  (LP:isFn K (.ref vP)=true)
  (yU:findIn K (.ref aM) "over"=some (some (.ref nX)))
  (LQ:isFn K (.ref nX)=true)
  (yV:findIn K (.ref aM) "plus"=some (some (.ref vH)))
  (LR:isFn K (.ref vH)=true)
  (vB:findIn K (.ref aM) "step_power"=some (some (.ref f4)))
  (LS:isFn K (.ref f4)=true)
  (yW:findIn K (.ref aM) "times"=some (some (.ref vJ)))
  (LU:isFn K (.ref vJ)=true)
  (LV:specialIn K (.ref jM) "__getattribute__"=some (some (.builtin "type.__getattribute__")))
  (LW:PySem.W.readsIn K jM (.type "type")=true)
  (LX:PySem.W.findCls K (.ref jM) (.type "type") "__init__"=some (.val (.ref f5)))
  (LY:nsIn K mainGlobals "all"=some none)
  (LZ:nsIn K mainGlobals "bool"=some none)
  (L4:nsIn K mainGlobals "enumerate"=some none)
  (L5:nsIn K mainGlobals "int"=some none)
  (L6:nsIn K mainGlobals "isinstance"=some none)
  (L7:nsIn K mainGlobals "len"=some none)
  (L8:nsIn K mainGlobals "list"=some none)
  (L9:nsIn K mainGlobals "range"=some none)
  (Ma:nsIn K mainGlobals "reversed"=some none)
  (Mb:nsIn K mainGlobals "set"=some none)
  (Mc:nsIn K mainGlobals "sorted"=some none)
  (Md:nsIn K mainGlobals "zip"=some none)
  (C6:(clsIn K cX).isSome=true)
  (Me:typeIn K (.ref cX)=some (.type "type"))
  (Mg:(clsIn K mG).isSome=true)
  (Mh:typeIn K (.ref mG)=some (.type "type"))
  (C7:(clsIn K jN).isSome=true)
  (C8:typeIn K (.ref jN)=some (.type "type"))
  (Mi:subIn K (.ref mG) (.type "BaseException")=some true)
  (Mj:PySem.W.excIn K cX [.type "ValueError",.type "Exception",.type "BaseException",.type "object"] "ValueError.__new__"=true)
  (Ml:findIn K (.ref cX) "__getattribute__"=some (some (.builtin "BaseException.__getattribute__")))
  (Mm:findIn K (.ref cX) "__getattr__"=some none)
  (Mn:findIn K (.ref cX) "__class__"=some (some (.builtin "object.__class__")))
  (Mo:specialIn K (.builtin "object.__class__") "__get__"=some (some (.builtin "getset_descriptor.__get__")))
  (Mp:takesIn K (.builtin "object.__class__")=some true)
  (Mq:mroIn K cX (.type "object")=some true)
  (Mr:mroIn K cX (.type "BaseException")=some true)
  (Ms:subIn K (.ref cX) (.ref jN)=some false)
  (Mt:(dg cX==dg jN)=false)
  (Mu:subIn K (.ref cX) (.ref mG)=some true)
  (Mv:subIn K (.type "NoneType") (.ref cX)=some false)
  (Mw:subIn K (.type "NoneType") (.ref jN)=some false)
  (nl:K.all (λp=>Fv p.2)=true)
  (sub:∀P∈[jK,jL],P∈ts) :
  ∃fd:FuncData,(∀(s:Shared) (v:Value),BindsTo s fd ⟨[v],[]⟩ [("_law_script",v)])/\∀base:Heap,K.In base->base.Ns mainGlobals mg->Bm mg base->aO l.prog w K mg base aZ 11 fa fd ["_law_script"] (AZ ts K):=by
 have e:=hfa.symm.trans (mg_of X G CU)
 cases e
 have F0:=bI (st:=uG) l0 c0 k0
 have b0:=F0.binds (ps:=["_law_cell_here"]) λ_ _ _ _ _ _=>jH (λ_=>rfl)
 have F1:=bI (st:=uH) l1 c1 k1
 have b1:=F1.binds (ps:=["a","product"]) λ_ _ _ _ _ _=>gM (λ_ _=>rfl)
 have F2:=bI (st:=uI) l2 c2 k2
 have b2:=F2.binds (ps:=["many","product"]) λ_ _ _ _ _ _=>gM (λ_ _=>rfl)
 have F3:=bI (st:=uJ) l3 c3 k3
 have b3:=F3.binds (ps:=["powers"]) λ_ _ _ _ _ _=>jH (λ_=>rfl)
 have F4:=bI (st:=uK) l4 c4 k4
 have b4:=F4.binds (ps:=["self","n"]) λ_ _ _ _ _ _=>gM (λ_ _=>rfl)
 have F5:=bI (st:=uL) l5 c5 k5
 have b5:=F5.binds (ps:=["self","many","product"]) λ_ _ _ _ _ _=>fh (λ_ _ _=>rfl)
 have F6:=bI (st:=uM) l6 c6 k6
 have b6:=F6.binds (ps:=["prime"]) λ_ _ _ _ _ _=>jH (λ_=>rfl)
 have F7:=bI (st:=mD) l7 c7 k7
 have b7:=F7.binds (ps:=["self","prime"]) λ_ _ _ _ _ _=>gM (λ_ _=>rfl)
 have F8:=bI (st:=uN) l8 c8 k8
 have b8:=F8.binds (ps:=["powers","logs"]) λ_ _ _ _ _ _=>gM (λ_ _=>rfl)
 have F9:=bI (st:=uO) l9 c9 k9
 have b9:=F9.binds (ps:=["a","b"]) λ_ _ _ _ _ _=>gM (λ_ _=>rfl)
 have U2:=bI (st:=uQ) Jo Jp Jq
 have b10:=U2.binds (ps:=["a"]) λ_ _ _ _ _ _=>jH (λ_=>rfl)
 have U3:=bI (st:=uR) Js Jt Ju
 have b11:=U3.binds (ps:=["bits"]) λ_ _ _ _ _ _=>jH (λ_=>rfl)
 have U4:=bI (st:=uS) Jw Jx Jy
 have b12:=U4.binds (ps:=["a","b"]) λ_ _ _ _ _ _=>gM (λ_ _=>rfl)
 have U5:=bI (st:=mE) Jz JA JB
 have b13:=U5.binds (ps:=["self","bits"]) λ_ _ _ _ _ _=>gM (λ_ _=>rfl)
 have U6:=bI (st:=uT) JF JG JH
 have b14:=U6.binds (ps:=["_law_told_here"]) λ_ _ _ _ _ _=>jH (λ_=>rfl)
 have U7:=bI (st:=uU) JJ JK JL
 have b15:=U7.binds (ps:=["_law_told_here"]) λ_ _ _ _ _ _=>jH (λ_=>rfl)
 have U8:=bI (st:=uV) JN JO JP
 have b16:=U8.binds (ps:=["a"]) λ_ _ _ _ _ _=>jH (λ_=>rfl)
 have U9:=bI (st:=uW) JQ JR CJ
 have b17:=U9.binds (ps:=["self","a","b"]) λ_ _ _ _ _ _=>fh (λ_ _ _=>rfl)
 have Va:=bI (st:=uX) JS JT CK
 have b18:=Va.binds (ps:=["self","a","b"]) λ_ _ _ _ _ _=>fh (λ_ _ _=>rfl)
 have Vb:=bI (st:=uY) JU JV CL
 have b19:=Vb.binds (ps:=["self","a","b"]) λ_ _ _ _ _ _=>fh (λ_ _ _=>rfl)
 have Vc:=bI (st:=uZ) JW JX CM
 have b20:=Vc.binds (ps:=["self","a","b"]) λ_ _ _ _ _ _=>fh (λ_ _ _=>rfl)
 have Vd:=bI (st:=u3) JZ J0 J1
 have b21:=Vd.binds (ps:=["field","a","b"]) λ_ _ _ _ _ _=>fh (λ_ _ _=>rfl)
 have Ve:=bI (st:=u4) J2 J3 CN
 have b22:=Ve.binds (ps:=["self","a","b"]) λ_ _ _ _ _ _=>fh (λ_ _ _=>rfl)
 have Vf:=bI (st:=u5) J4 J5 CO
 have b23:=Vf.binds (ps:=["self","a","b"]) λ_ _ _ _ _ _=>fh (λ_ _ _=>rfl)
 have Vg:=bI (st:=u6) J7 J8 J9
 have b24:=Vg.binds (ps:=["field","r"]) λ_ _ _ _ _ _=>gM (λ_ _=>rfl)
 have Vh:=bI (st:=u7) Kb Kd Ke
 have b25:=Vh.binds (ps:=["field","some"]) λ_ _ _ _ _ _=>gM (λ_ _=>rfl)
 have Vi:=bI (st:=u9) Kg Kh Ki
 have b26:=Vi.binds (ps:=["field","a","x"]) λ_ _ _ _ _ _=>fh (λ_ _ _=>rfl)
 have Vj:=bI (st:=va) Kk Kl Km
 have b27:=Vj.binds (ps:=["field","a"]) λ_ _ _ _ _ _=>gM (λ_ _=>rfl)
 have Vk:=bI (st:=vb) Kn Ko zb
 have b28:=Vk.binds (ps:=["self","a","b"]) λ_ _ _ _ _ _=>fh (λ_ _ _=>rfl)
 have Vl:=bI (st:=vd) Kp Kq CP
 have b29:=Vl.binds (ps:=["self","row","a","other"]) λ_ _ _ _ _ _=>Gz (λ_ _ _ _=>rfl)
 have Vm:=bI (st:=ve) Kr Ks CQ
 have b30:=Vm.binds (ps:=["self","row","a","other"]) λ_ _ _ _ _ _=>Gz (λ_ _ _ _=>rfl)
 have Vn:=bI (st:=vf) Ku Kv Kw
 have b31:=Vn.binds (ps:=["field","a","b"]) λ_ _ _ _ _ _=>fh (λ_ _ _=>rfl)
 have Vo:=bI (st:=vg) Ky Kz KA
 have b32:=Vo.binds (ps:=["field","a","x"]) λ_ _ _ _ _ _=>fh (λ_ _ _=>rfl)
 have Vp:=bI (st:=vh) KD KG KH
 have b33:=Vp.binds (ps:=["_law_script","_law_k"]) λ_ _ _ _ _ _=>gM (λ_ _=>rfl)
 have Vq:=bI (st:=vi) KJ KL KN
 have b34:=Vq.binds (ps:=["_law_told_here","_law_a","_law_b"]) λ_ _ _ _ _ _=>fh (λ_ _ _=>rfl)
 have Vr:=bI (st:=vj) KP KQ KR
 have b35:=Vr.binds (ps:=["_law_told_here","_law_a","_law_b"]) λ_ _ _ _ _ _=>fh (λ_ _ _=>rfl)
 have Vs:=bI (st:=vm) KU KW KY
 have b36:=Vs.binds (ps:=["_law_told_here","_law_a","_law_roots"]) λ_ _ _ _ _ _=>fh (λ_ _ _=>rfl)
 have Vt:=bI (st:=vn) K0 K1 K2
 have b37:=Vt.binds (ps:=["_law_field_here","_law_many_here","_law_size","_law_x"]) λ_ _ _ _ _ _=>Gz (λ_ _ _ _=>rfl)
 have Vu:=bI (st:=vo) K4 K5 K6
 have b38:=Vu.binds (ps:=["_law_x"]) λ_ _ _ _ _ _=>jH (λ_=>rfl)
 have Vv:=bI (st:=vp) K8 K9 La
 have b39:=Vv.binds (ps:=["_law_found","_law_many_here"]) λ_ _ _ _ _ _=>gM (λ_ _=>rfl)
 have Vw:=bI (st:=vq) Lb Lc CS
 have b40:=Vw.binds (ps:=["self","n","a"]) λ_ _ _ _ _ _=>fh (λ_ _ _=>rfl)
 have Vx:=bI (st:=vt) Ld Le CT
 have b41:=Vx.binds (ps:=["self","n","a"]) λ_ _ _ _ _ _=>fh (λ_ _ _=>rfl)
 have Vy:=bI (st:=vv) Lg Lh Li
 have b42:=Vy.binds (ps:=["field","a"]) λ_ _ _ _ _ _=>gM (λ_ _=>rfl)
 have Vz:=bI (st:=vw) Lk Ll Lm
 have b43:=Vz.binds (ps:=["_law_told_here","_law_a","_law_x"]) λ_ _ _ _ _ _=>fh (λ_ _ _=>rfl)
 have VA:=bI (st:=mF) Ln Lo Lp
 have b44:=VA.binds (ps:=["_law_script"]) λ_ _ _ _ _ _=>jH (λ_=>rfl)
 have T:Txt K mg ⟨f0,_,f1,_,f2,_,f3,_,f4,_,f5,_,f6,_,f7,_,f8,_,f9,_,Cn,_,Co,_,ka,_,vF,_,Cp,_,Cq,_,Cr,_,vG,_,vH,_,vI,_,vJ,_,Cs,_,vK,_,vL,_,sH,_,Ct,_,Cu,_,Cv,_,nX,_,vM,_,vN,_,Cw,_,Cy,_,Cz,_,CA,_,CB,_,CC,_,CD,_,CF,_,CG,_,vO,_,vP,_,CH,_,CI,_,fa,_,y9,jK,za,jL,aJ,cX,jM,mG,jN,aM⟩:=⟨F0,mg_of X G a0,b0,F1,mg_of X G a1,b1,F2,mg_of X G a2,b2,F3,mg_of X G a3,b3,F4,b4,F5,b5,F6,mg_of X G a6,b6,F7,b7,F8,mg_of X G a8,b8,F9,mg_of X G a9,b9,U2,mg_of X G Jn,b10,U3,mg_of X G Jr,b11,U4,mg_of X G Jv,b12,U5,b13,U6,mg_of X G JE,b14,U7,mg_of X G JI,b15,U8,mg_of X G JM,b16,U9,b17,Va,b18,Vb,b19,Vc,b20,Vd,mg_of X G JY,b21,Ve,b22,Vf,b23,Vg,mg_of X G J6,b24,Vh,mg_of X G Ka,b25,Vi,mg_of X G Kf,b26,Vj,mg_of X G Kj,b27,Vk,b28,Vl,b29,Vm,b30,Vn,mg_of X G Kt,b31,Vo,mg_of X G Kx,b32,Vp,mg_of X G KC,b33,Vq,mg_of X G KI,b34,Vr,mg_of X G KO,b35,Vs,mg_of X G KS,b36,Vt,mg_of X G KZ,b37,Vu,mg_of X G K3,b38,Vv,mg_of X G K7,b39,Vw,b40,Vx,b41,Vy,mg_of X G Lf,b42,Vz,mg_of X G Lj,b43,VA,mg_of X G CU,b44,rfl,Jm,rfl,JC,⟨CV,CW,CY,CZ⟩,⟨yE,Lq,Lr,Ls⟩,⟨⟨CV,CW,CY,CZ⟩,Lu,Lv,Lw,Lx⟩,yF,nU,qG,qH,B7,qI,yG,yH,⟨yI,Ly,CP⟩,⟨yJ,Lz,CN⟩,⟨yK,LA,CS⟩,⟨yL,LB,zb⟩,⟨yM,LC,CJ⟩,⟨vz,LD,k4⟩,⟨yN,LF,CL⟩,⟨C2,C3,C4,C5⟩,⟨yO,LG,LH,LJ⟩,⟨⟨C2,C3,C4,C5⟩,LK,LL,LM,at2⟩,B8,qJ,qK,vA,kC,B9,yP,yQ,⟨yR,LN,CQ⟩,⟨yS,LO,CO⟩,⟨yT,LP,CT⟩,⟨yU,LQ,zb⟩,⟨yV,LR,CK⟩,⟨vB,LS,k4⟩,⟨yW,LU,CM⟩,⟨LV,LW,LX,k5⟩,mg_none_of X G LY,mg_none_of X G LZ,mg_none_of X G L4,mg_none_of X G L5,mg_none_of X G L6,mg_none_of X G L7,mg_none_of X G L8,mg_none_of X G L9,mg_none_of X G Ma,mg_none_of X G Mb,mg_none_of X G Mc,mg_none_of X G Md,mg_of X G yY,mg_of X G vC,mg_of X G vD,mg_of X G yZ,mg_of X G y0,mg_of X G y6,cq1 (mg_of X G vC) Mj,⟨C6,Ml,Mm,Mn,Mo,Mp,Mq,Mr⟩,cy2,FH Mt C7 C8 Ms,ck3 Mg Mh Mi Mu,FH rfl C6 Me Mv,FH rfl C7 C8 Mw⟩
 exact⟨fnOf "law" "law" (br mF) (bf mF) (az mF) .none UH UI UJ UG Jk UK,λs v=>.of_eq rfl,λbase _ _ hB=>(cu7 T hB).imp λvs H Q E h=>let z:=bV1 nl h;⟨λP hP=>z.1 P (sub P hP),z.2⟩⟩
theorem aF0{K:Frag}{h:Heap}{c f k P:Addr}{od an:Option Addr}{sl:Array (Option Value)}{oc kV dc pm ct kt:Value}{ko:Option Addr}{ks:Array (Option Value)}{kf:Array Value}(X:K.In h)(a:nsIn K mainGlobals "PrimeField"=some (some (.ref c)))(b:findIn K (.ref c) "__init__"=some (some (.ref f)))
  (l:K.lookup f=some ⟨oc,od,.func (fnOf "__init__" "PrimeField.__init__" (br mD) (bf mD) (az mD) .none kV dc pm an (.ref k) ct),sl⟩) (lk:K.lookup k=some ⟨kt,ko,.fields kf,ks⟩) (lp:kf[11]?=some (.ref P)) (n:K.lookup P=none) (e:codeHdIn K k P=true):K.lookup P=none/\∃c,CodeHd h c P:=⟨n,k,PySem.W.codeHd_of_K X e⟩
theorem aH9{K:Frag}{h:Heap}{c f k P:Addr}{od an:Option Addr}{sl:Array (Option Value)}{oc kV dc pm ct kt:Value}{ko:Option Addr}{ks:Array (Option Value)}{kf:Array Value}(X:K.In h)(a:nsIn K mainGlobals "BitField"=some (some (.ref c)))(b:findIn K (.ref c) "__init__"=some (some (.ref f)))
  (l:K.lookup f=some ⟨oc,od,.func (fnOf "__init__" "BitField.__init__" (br mE) (bf mE) (az mE) .none kV dc pm an (.ref k) ct),sl⟩) (lk:K.lookup k=some ⟨kt,ko,.fields kf,ks⟩) (lp:kf[11]?=some (.ref P)) (n:K.lookup P=none) (e:codeHdIn K k P=true):K.lookup P=none/\∃c,CodeHd h c P:=⟨n,k,PySem.W.codeHd_of_K X e⟩
theorem walk{l:PySem.W.OpenLaw}{q:Program}{loose:List Str}{XP:(Str->Option Value)->Heap->Prop}{YP:World->Heap->Prop}{d:DefRec}{K:Params->Frag}{ts:List Addr}(hn:l.most=some 63)(wM:d.params.defaults=[])
  (hY:∀(w:World) (h:Heap),YP w h->(K w.params).In h/\∀P∈ts,h.get? P=some (PySem.W.tabObj #[]))
  (hC:∀(w:World) (h:Heap),(K w.params).In h->∀P∈ts,(K w.params).lookup P=none/\∃c,CodeHd h c P)
  (F:∀(w:World) (mg:Str->Option Value) (fa:Addr) (h:Heap),(K w.params).In h->h.Ns mainGlobals mg->mg d.name=some (.ref fa) ->
   ∃fd:FuncData,(∀(s:Shared) (u:Value),BindsTo s fd ⟨[u],[]⟩ [("_law_script",u)])/\∀base:Heap,(K w.params).In base->base.Ns mainGlobals mg->Bm mg base->aO l.prog w (K w.params) mg base aZ 11 fa fd ["_law_script"] (AZ ts (K w.params))) :
  PySem.W.WalkO q loose XP YP l.row.toRowW d [] (λf vs=>PySem.call f vs) :=
 L2.cU3 (n:=63) (k:=11) (x:="_law_script") (CX:=λ_=>aZ) (sp:=λw=>AZ ts (K w.params)) hn (by decide) wM ⟨rfl,by decide,by decide⟩ hY hC F (λ_ _ a ns hl hO hS=>⟨a,ns,rfl,hO,hS,hl,λ_=>rfl⟩) λ_ _ _ _ _ z=>z
end HK12
set_option genInjectivity false in
set_option genSizeOf false in
structure PySem.W.Fast:Prop where
 (tw4621479735830851584 tw13401538981812716544 tw442535385584305280 tw6224715492681754816 tw10870291198912558272 tw10972602039852487968 tw2050526726847971680 tw1239574150175332864 tw4728848423299040768 tw16961823640352754272 tw8430360665114787456 tw12607144853633053376 tw15460468563620392640 tw225870031704257248 tw13361014583967929088 tw6955395012564878080 tw10799279069773383456 tw2916837403104241536 tw5493317310958510016 tw13251646122711716832 tw9352554978524134401 tw17472410154583227393 tw18339035835937553441 tw17389634038428645473 tw15282212408209856641 tw6069890593414294689 tw374659593449298145 tw2735736007106075905 tw13195540852142588161 tw16298965111647013153 tw823192390882818401 tw13740232305806633345 tw3990239090079596993 tw6271949642178474433 tw5689919893617985057 tw13911830892535925409 tw12251610471163836161 tw1234676813945803521 tw14130174979584342849 tw12819347267536506689:True)
 (tw3341537709973738433 tw13084971601874473953 tw5857740778578079713 tw4910272181131634690 tw18074989637669686306 tw5498038793137076258 tw15798681086105917506 tw17665482090678630530 tw4893769104420853922 tw7142293547566680226 tw10098000341306276002 tw17308298517378041026 tw16808539651819112642 tw10261871115304940738 tw4660766631393683650 tw10321463751280387298 tw1123267040613137634 tw5582492009722039618 tw493720053634369890 tw8849307612953426274 tw3754919348593656290 tw9325395051822922274 tw18097827950169784898 tw12247591753938250434 tw9875527426399059650 tw14098466524262960866 tw11122808175661882114 tw1419193039489352482 tw7199070581564545858 tw15052052191567046466 tw12484648766349966146 tw7594201453900272482 tw15354558425287204706 tw6077066590414014338 tw4696165515457556547 tw16735871871375993091 tw11308849400620671363 tw4570711452443377027 tw11254382458387542467 tw3894022726285892067:True)
 (tw16977162872966491619 tw7330083501143145987 tw472192040674459139 tw11494876962290021923 tw9637702576585098819 tw15666000319302853251 tw9202805534393933571 tw4520856203776657251 tw6060221272249472931 tw8250901748787229667 tw11264711403250583556 tw2943656426784677956 tw6858245078463147332 tw10688171426266951076 tw3890365318724146628 tw12546774506333292100 tw11625166293311532676 tw11982686773053885156 tw11087263417095615268 tw3757729598601000740 tw11120620285101857604 tw1292172989267287876 tw1152091291715374948 tw9224243136286590852 tw15528968413511235460 tw5332841849855109125 tw9876776877099877413 tw6149674038194614501 tw1215871867958244613 tw9779961752687905157 tw15727615965372651909 tw16625761227258189189 tw13605931628435440037 tw13997787107140599205 tw525201661142407621 tw1864683766840926757 tw5102675567483542117 tw14981490846789048965 tw5091364416565442213 tw9642842491350346501:True)
 (tw13736573634383785829 tw16050318635300574214 tw8891304590337265766 tw1844808137915110630 tw7518903577946147110 tw16210907038734855494 tw4854252330182580582 tw7056835789142773126 tw5153717092310050182 tw17012615397396979110 tw8847439230295291366 tw2001437338597630470 tw15713641238817214022 tw9226407109170715206 tw17231242382158859974 tw10884937955057179366 tw14239394427899692806 tw6850776669815451462 tw10308727718948272038 tw2742897625180706758 tw15610423059690688454 tw1214300595456978023 tw15944061731293658215 tw9844485925937462407 tw60872879981366471 tw3067823970067324103 tw18082641973139679495 tw11479386998573064455 tw18281062066681748775 tw6026426176206687591 tw2988599786460249543 tw1283063134921413127 tw2101552309842894375 tw9464520285270508231 tw4310834087504370503 tw15280079474053999463 tw15629669625251588967 tw3963878801553682279 tw17843495161841206151 tw1400043200246795207:True)
 (tw10623863863798339656 tw4506028950428866664 tw12409906865765912776 tw3777451633504583976 tw16848825094591810856 tw9441745284259913000 tw468996192947542344 tw13236997482786324840 tw15419447604822845800 tw2730733064335473096 tw15434342270390526408 tw12221393646035660232 tw1190883759607831048 tw6932294930281776680 tw5136291384771086920 tw2520254809576019528 tw11738834605895687816 tw11434551453941927688 tw9771613091623344936 tw1627569035694120840 tw13390351796961828744 tw12965032010198803336 tw16301228856739844008 tw7572056668908522472 tw18189167839481111561 tw16110403738211961865 tw18224831348385626153 tw17536366986623241289 tw4497469655469526217 tw3158550653856159945 tw15445704098325654889 tw606925222777133449 tw16653010701989337609 tw11935810531601375753 tw8142313320061619753 tw4741723960326111849 tw2456335345119081129 tw1353569756220636873 tw13824184076826200937 tw7282267068109261705:True)
 (tw2749042800028138377 tw11351107059125589993 tw14504159468878366794 tw3042689228785704042 tw12624150241019319434 tw2871225614418072746 tw546750639842254154 tw5494101685786063210 tw5036234492954758538 tw5201940825402156458 tw18343499764452842922 tw10941301816226094602 tw1801679607371519562 tw5378710735617287818 tw15897458588595910442 tw12425822738066742090 tw13096673614682654570 tw1167985243289353098 tw8769025757394045131 tw5747058572598401259 tw4105561570468690155 tw5486799452476402955 tw2446454426258928939 tw12760557113736145227 tw1454508592435699051 tw6904723360216795499 tw15431210372799188331 tw7667619562436713963 tw7428652426090975851 tw14822745362157080235 tw1545284213971390155 tw16425812567460585195 tw13563618547520908011 tw2894089525484369643 tw13055080091193396971 tw12335855982080895755 tw2592533295904454411 tw3464651069179266859 tw15426732407074880299 tw9550375884527193931:True)
 (tw8320216043514064811 tw12046138357435365291 tw3526637275715781579 tw14497364651250247627 tw6219096091287747596 tw7689737613379782700 tw11749126499687450764 tw3097113282600461580 tw14517388840189193484 tw10954884831144172844 tw7653638110928902508 tw8602648686309465452 tw761050857074841996 tw11322495209319920044 tw5115299045817842092 tw8316680861949076940 tw16949561344774438380 tw15488290810868043276 tw5376186526577684044 tw13462967391611335276 tw5038921497861496524 tw9481859965843905324 tw4667046021586495372 tw2116676808760193964 tw5616510977164832748 tw3649387201481267213 tw18327223835728277613 tw10960476903244078253 tw910505351695572173 tw8209068851289651405 tw13948373495100915949 tw6314837422847136013 tw3957478689740706157 tw637398662695132557 tw11064793387921686989 tw11896769458576864813 tw12506699917783485069 tw324653656995779213 tw15670153672631691053 tw17132548720859642894:True)
 (tw73061144008627246 tw10712709801824688238 tw13077962099736738926 tw5649820661549905038 tw6671466390909751502 tw17627565443336390958 tw10297677649440758094 tw4910299276558181838 tw11304606645217236462 tw5958940977648223790 tw17097590639637084750 tw13725150822259312270 tw13588556508495744686 tw2382917938219191022 tw5734864114621278958 tw7823925902032529198 tw17824709082025998158 tw9650872789874284398 tw177460987889483662 tw3274062586377670574 tw17156249023156664367 tw16899430111963096143 tw461626284213967983 tw1747480296739257487 tw13424235329633780879 tw17091268418387609775 tw11455945677131556047 tw10787979343806628175 tw10506069715570042319 tw15568823203663401455 tw18100392802569087503 tw5117082213190104687 tw6983494439548036719 tw15320808426634823311 tw7747218774680573647 tw11743452597970975503 tw16316680483315740431 tw9187530279265404719 tw9392042236950571823 tw13605921715943567183:True)
 (tw16211777133992571727 tw11402115419172485071 tw15245903254717622255 tw15765917849743317040 tw6278001956739471600 tw9407145853658681584 tw11123402818991720720 tw15924509213545551120 tw12103714486826787088 tw11859459885250190640 tw17262102547326513456 tw11438900566939726128 tw15358630979698755984 tw10401905206881832400 tw10578820840646552208 tw5913497965962229392 tw16331361441774533264 tw1798940090396356304 tw6569264181778514704 tw12491436412861147920 tw2166715743194720048 tw17783146589887439664 tw3014000632838544208 tw5263837186405865360 tw11285787341378493328 tw4171006673090141072 tw570953632493953968 tw10343205982651563057 tw3688340520054906929 tw11330313624912830577 tw4341327871164563633 tw3926511894978582737 tw15727068077680542961 tw9524803911265913073 tw3205900570553327857 tw12457076812392935729 tw8900136616531381617 tw13737529801887580625 tw4056826260747745777 tw3388500274276152913:True)
 (tw14676232012217326257 tw17122028430155394801 tw6157300537767382801 tw17889242630862873393 tw13732345859104649009 tw6211773807306609489 tw3846881115369045841 tw10906054643178488689 tw11761253049276912497 tw7421236585956165553 tw12929562500623409105 tw4516554707738763249 tw7651415429303259121 tw7454684153428749426 tw12637065190646393074 tw1671479104423279858 tw8925032288414128370 tw4508257490772096242 tw6720615742274143506 tw7615572641589069074 tw18012410014047490322 tw12514011194215696722 tw8094799283229861234 tw7111467405673655794 tw16188076146991605330 tw15757728797458377298 tw11834018992491191954 tw18362852867089189554 tw7788137393250428594 tw13169399690939207378 tw10706956078802290514 tw17153626052030253906 tw1534299380797722450 tw1414486813022223186 tw3603464518697434002 tw14588959082486751154 tw18394793775132399570 tw5032220032951589907 tw10769498474097536243 tw3436598358676408627:True)
 (tw4183433620030531891 tw3621659524163073363 tw7498547868361913747 tw7667082711173842387 tw9151408027346705907 tw15737403454539179507 tw8338108408027102803 tw7844989642823337587 tw10820091239857086067 tw17596063504001486515 tw11447686582942888627 tw13017942765150994099 tw3717164188498556627 tw13836199867131345683 tw9179707046873337747 tw11029177429523664819 tw14397004186176609300 tw1735862104554989588 tw1048961602142044212 tw6081194065105842420 tw66596523244664084 tw2764157854087097684 tw4615804457603365204 tw9320749854235601268 tw17640041879657937300 tw17408820378681362932 tw5436345740886834676 tw17431577095512437300 tw16084220825862879796 tw8491809728370100788 tw2750422685444335188 tw9367126595655224948 tw8890706728843895540 tw6182791148445492084 tw2277152300575318964 tw12763757784323691476 tw3272711349358022709 tw13846307927189700725 tw7773884441928822933 tw8880824149825065173:True)
 (tw181000366326123765 tw2485666229808173333 tw16447159940317494549 tw17758955465396586805 tw1998909556356166997 tw10405577304614881621 tw1645096240449850741 tw13098075565521165685 tw7359147671318634933 tw3480102247025163733 tw1380573973458196981 tw11074550819492173333 tw8597998174121607733 tw5113913060482713173 tw10332898159948259989 tw17817374272930340597 tw1965703493233170261 tw9704601439076880277 tw13227477018216926165 tw6170508523108273206 tw17804622007531826230 tw13187619324451843126 tw1565663658254448790 tw14073143847505884374 tw13536805248828057846 tw9467979571078529302 tw8696868559197996310 tw1404434426149967158 tw8374417863338850646 tw5681661332213022102 tw11936357257090654614 tw9950528155687392822 tw14738086358836985398 tw3049985065282284182 tw3894925170837641910 tw2677805647644479190 tw12984407033923436278 tw2472064180906111734 tw12123523231372677910 tw10356035617834043190:True)
 (tw11574131714299598646 tw2650628951748207478 tw1591820979800023990 tw1615772280588210166 tw9740389354132844599 tw5425636427127739447 tw8960267113820465239 tw5906545622847959127 tw7716073184749532247 tw6968837503919324311 tw14822632290310106295 tw5255197780547683511 tw16602242647694607575 tw17755433959141999831 tw11002297883775080663 tw10839836838895807735 tw6212712536929484055 tw12021482990050234647 tw16822150264325299479 tw18391270842560133463 tw18360733948589863255 tw3339882261986050455 tw9714592035254970807 tw12021493109676394935 tw16622431554380761559 tw1525150963541959159 tw6540593372980478519 tw5513309655355395799 tw12559858564113082103 tw14529038749414898423 tw14371841966059705079 tw5418070731098444535 tw5841317354797275991 tw12748952556348128119 tw11285247791484714999 tw5092674532258361432 tw4082331738165842040 tw15842964015688999128 tw10912619541216524664 tw17271457098487491960:True)
 (tw17831271897134277016 tw8402042157358872984 tw17291731503083294168 tw3379209077661812408 tw4925636540172007096 tw8501729352729492312 tw17601380146836944760 tw11886974308265612152 tw13336550348923971609 tw537721618753010713 tw9179578887152802969 tw6244888668752615641 tw15408814316191226073 tw8710619426109378841 tw3291587850647795097 tw17934577151204447673 tw10345567548166323705 tw10265088451491603065 tw875350843617129145 tw15551038902467963609 tw5295885667020950265 tw7205926973896241945 tw12321298370410287961 tw17680789730290740153 tw5508808384190525433 tw1989699440008283129 tw17043286371106339898 tw1210979507841221722 tw16174063591952430330 tw12515755824685601050 tw16143980038493672826 tw1450582986242452858 tw3839362752470281658 tw16966033520708433370 tw9217685838753063418 tw8868172377823798874 tw2725464228107190906 tw16546786165947878106 tw15212684002922811098 tw541639653725705978:True)
 (tw12590148689593772794 tw2772436427283170170 tw8310555403284718458 tw9711880350444212154 tw414005661811482618 tw14822410319735392315 tw77515349798426715 tw16330988335359254651 tw4310941822993476955 tw12217319286535476571 tw14279504484091949467 tw6232669009975476699 tw1406933513879545307 tw9549565257078619675 tw9800297078316843707 tw10711823829476099867 tw200176518075231067 tw7402389256301465435 tw9884439040885115835 tw9338430247490466779 tw10455030452697062428 tw13183416916101527644 tw12487167852305645756 tw3669979327414559932 tw14114153283391190204 tw15254141430965605596 tw15425111460765902044 tw4761935360979686716 tw3221317243766207836 tw709971197187426684 tw6226819558906843548 tw15625821040396188092 tw1170420928812600796 tw8963601132488132092 tw4047490742942261788 tw4168122351118221884 tw13910515039816359612 tw10007288183158106844 tw17500283619583823644 tw14810839354871373660:True)
 (tw16717616629588310908 tw8614792440971049852 tw16627190512704012252 tw2703608615611429852 tw18189071355309620253 tw7156851634628363389 tw4037232164149742749 tw10583694119747214493 tw12134352324321994941 tw4670852523188492509 tw493523031573300541 tw15354740292018219357 tw169338619694777789 tw10917180904962135485 tw14593654354553377437 tw11204813406506843869 tw10393671871807535869 tw2717681184790046525 tw17785099979192995709 tw12623641746398525437 tw4342362234422474878 tw3377143293032831230 tw18411574414082453758 tw9986787856628243710 tw7950738166857088382 tw13219263637274934686 tw8276625005354144158 tw662000764068180478 tw15584509719706017438 tw17887531045287874206 tw11861014114849617630 tw5931056863963847422 tw8401694138707841790 tw15412073036017275678 tw9155886392273478462 tw4789204886767175518 tw14802555145334369118 tw6814994204584818558 tw2209113144419237758 tw360994716180800478:True)
 (tw17495298463787131935 tw5661608201440888927 tw2838407555348238463 tw17012588448821694591 tw12955069840454711423 tw12208100348019648671 tw11679046226249158847 tw7134602882405833951 tw11592662594337452351 tw2572519526710484319 tw7788047536432424287 tw17003601354837348799 tw933099151418712575 tw10540827903622458975 tw13288328077607272031 tw8112863184859863679 tw8714612459748427487 tw2893085025399621343 tw14130157739264266047 tw12675137782628027295 tw10806946667210400671 tw14511161961765136319 tw16957209482800206815 tw493662317711578111 tw12587628733209554253:True)
open PySem PySem.W PyProof.Rows
set_option maxRecDepth 100000 in
set_option maxHeartbeats 0 in
theorem PySem.Challenge.cw_mendfield_k12_roots_peeled_holds : PySem.Challenge.rw_mendfield_k12_roots_peeled.Holds := by
 w_on;o_law;k_head;(case hw=>w_witness2)
 k_fill
 refine HK12.walk (l:=PySem.Challenge.rw_mendfield_k12_roots_peeled) rfl rfl (λw h Y=>⟨PySem.W.km_in_of Y,PySem.W.km_tabs_of Y⟩) ?C ?F
 case C =>
  intro w h hX
  repeat' (first | exact List.forall_mem_nil _ | refine List.forall_mem_cons.mpr ⟨?_,?_⟩)
  all_goals first | (refine' HK12.aF0 hX ?a ?b ?l ?lk ?lp ?n ?e;(case a=>k_is);(case b=>k_is);(case l=>k_is);(case lk=>k_is);(case lp=>first | rfl | with_unfolding_all rfl);(case n=>kernel_rfl);(case e=>kernel_rfl)) | (refine' HK12.aH9 hX ?a ?b ?l ?lk ?lp ?n ?e;(case a=>k_is);(case b=>k_is);(case l=>k_is);(case lk=>k_is);(case lp=>first | rfl | with_unfolding_all rfl);(case n=>kernel_rfl);(case e=>kernel_rfl))
 case F =>
  intro w mg fa h KX G wN
  refine' HK12.all_mk KX G wN ?yY ?vC ?vD ?yZ ?y0 ?y6 ?a0 ?l0 ?c0 ?k0 ?a1 ?l1 ?c1 ?k1 ?a2 ?l2 ?c2 ?k2 ?a3 ?l3 ?c3 ?k3 ?a4 ?l4 ?c4 ?k4 ?a5 ?l5 ?c5 ?k5 ?a6 ?l6 ?c6 ?k6 ?a7 ?l7 ?c7 ?k7 ?UL ?UM ?Jm ?a8 ?l8 ?c8 ?k8 ?a9 ?l9 ?c9 ?k9 ?Jn ?Jo ?Jp ?Jq ?Jr ?Js ?Jt ?Ju ?Jv ?Jw ?Jx ?Jy ?UN ?Jz ?JA ?JB ?UO ?UP ?JC ?JE ?JF ?JG ?JH ?JI ?JJ ?JK ?JL ?JM ?JN ?JO ?JP ?UQ ?JQ ?JR ?CJ ?UR ?JS ?JT ?CK ?US ?JU ?JV ?CL ?UT ?JW ?JX ?CM ?JY ?JZ ?J0 ?J1 ?UU ?J2 ?J3 ?CN ?UW ?J4 ?J5 ?CO ?J6 ?J7 ?J8 ?J9 ?Ka ?Kb ?Kd ?Ke ?Kf ?Kg ?Kh ?Ki ?Kj ?Kk ?Kl ?Km ?UX ?Kn ?Ko ?zb ?UY ?Kp ?Kq ?CP ?UZ ?Kr ?Ks ?CQ ?Kt ?Ku ?Kv ?Kw ?Kx ?Ky ?Kz ?KA ?KC ?KD ?KG ?KH ?KI ?KJ ?KL ?KN ?KO ?KP ?KQ ?KR ?KS ?KU ?KW ?KY ?KZ ?K0 ?K1 ?K2 ?K3 ?K4 ?K5 ?K6 ?K7 ?K8 ?K9 ?La ?U0 ?Lb ?Lc ?CS ?U1 ?Ld ?Le ?CT ?Lf ?Lg ?Lh ?Li ?Lj ?Lk ?Ll ?Lm ?CU ?Ln ?Lo ?Lp ?CV ?CW ?CY ?CZ ?yE ?Lq ?Lr ?Ls ?Lu ?Lv ?Lw ?Lx ?yF ?nU ?qG ?qH ?B7 ?qI ?yG ?yH ?yI ?Ly ?yJ ?Lz ?yK ?LA ?yL ?LB ?yM ?LC ?vz ?LD ?yN ?LF ?C2 ?C3 ?C4 ?C5 ?yO ?LG ?LH ?LJ ?LK ?LL ?LM ?at2 ?B8 ?qJ ?qK ?vA ?kC ?B9 ?yP ?yQ ?yR ?LN ?yS ?LO ?yT ?LP ?yU ?LQ ?yV ?LR ?vB ?LS ?yW ?LU ?LV ?LW ?LX ?LY ?LZ ?L4 ?L5 ?L6 ?L7 ?L8 ?L9 ?Ma ?Mb ?Mc ?Md ?C6 ?Me ?Mg ?Mh ?C7 ?C8 ?Mi ?Mj ?Ml ?Mm ?Mn ?Mo ?Mp ?Mq ?Mr ?Ms ?Mt ?Mu ?Mv ?Mw ?nl ?sub
  (case yY=>k_is)
  (case vC=>k_is)
  (case vD=>k_is)
  (case yZ=>k_is)
  (case y0=>k_is)
  (case y6=>k_is)
  (case a0=>k_is)
  (case l0=>k_is)
  (case c0=>k_is)
  (case k0=>k_is)
  (case a1=>k_is)
  (case l1=>k_is)
  (case c1=>k_is)
  (case k1=>k_is)
  (case a2=>k_is)
  (case l2=>k_is)
  (case c2=>k_is)
  (case k2=>k_is)
  (case a3=>k_is)
  (case l3=>k_is)
  (case c3=>k_is)
  (case k3=>k_is)
  (case a4=>k_is)
  (case l4=>k_is)
  (case c4=>k_is)
  (case k4=>k_is)
  (case a5=>k_is)
  (case l5=>k_is)
  (case c5=>k_is)
  (case k5=>k_is)
  (case a6=>k_is)
  (case l6=>k_is)
  (case c6=>k_is)
  (case k6=>k_is)
  (case a7=>k_is)
  (case l7=>k_is)
  (case c7=>k_is)
  (case k7=>k_is)
  (case UL=>k_is)
  (case UM=>first | rfl | with_unfolding_all rfl)
  (case Jm=>kernel_rfl)
  (case a8=>k_is)
  (case l8=>k_is)
  (case c8=>k_is)
  (case k8=>k_is)
  (case a9=>k_is)
  (case l9=>k_is)
  (case c9=>k_is)
  (case k9=>k_is)
  (case Jn=>k_is)
  (case Jo=>k_is)
  (case Jp=>k_is)
  (case Jq=>k_is)
  (case Jr=>k_is)
  (case Js=>k_is)
  (case Jt=>k_is)
  (case Ju=>k_is)
  (case Jv=>k_is)
  (case Jw=>k_is)
  (case Jx=>k_is)
  (case Jy=>k_is)
  (case UN=>k_is)
  (case Jz=>k_is)
  (case JA=>k_is)
  (case JB=>k_is)
  (case UO=>k_is)
  (case UP=>first | rfl | with_unfolding_all rfl)
  (case JC=>kernel_rfl)
  (case JE=>k_is)
  (case JF=>k_is)
  (case JG=>k_is)
  (case JH=>k_is)
  (case JI=>k_is)
  (case JJ=>k_is)
  (case JK=>k_is)
  (case JL=>k_is)
  (case JM=>k_is)
  (case JN=>k_is)
  (case JO=>k_is)
  (case JP=>k_is)
  (case UQ=>k_is)
  (case JQ=>k_is)
  (case JR=>k_is)
  (case CJ=>k_is)
  (case UR=>k_is)
  (case JS=>k_is)
  (case JT=>k_is)
  (case CK=>k_is)
  (case US=>k_is)
  (case JU=>k_is)
  (case JV=>k_is)
  (case CL=>k_is)
  (case UT=>k_is)
  (case JW=>k_is)
  (case JX=>k_is)
  (case CM=>k_is)
  (case JY=>k_is)
  (case JZ=>k_is)
  (case J0=>k_is)
  (case J1=>k_is)
  (case UU=>k_is)
  (case J2=>k_is)
  (case J3=>k_is)
  (case CN=>k_is)
  (case UW=>k_is)
  (case J4=>k_is)
  (case J5=>k_is)
  (case CO=>k_is)
  (case J6=>k_is)
  (case J7=>k_is)
  (case J8=>k_is)
  (case J9=>k_is)
  (case Ka=>k_is)
  (case Kb=>k_is)
  (case Kd=>k_is)
  (case Ke=>k_is)
  (case Kf=>k_is)
  (case Kg=>k_is)
  (case Kh=>k_is)
  (case Ki=>k_is)
  (case Kj=>k_is)
  (case Kk=>k_is)
  (case Kl=>k_is)
  (case Km=>k_is)
  (case UX=>k_is)
  (case Kn=>k_is)
  (case Ko=>k_is)
  (case zb=>k_is)
  (case UY=>k_is)
  (case Kp=>k_is)
  (case Kq=>k_is)
  (case CP=>k_is)
  (case UZ=>k_is)
  (case Kr=>k_is)
  (case Ks=>k_is)
  (case CQ=>k_is)
  (case Kt=>k_is)
  (case Ku=>k_is)
  (case Kv=>k_is)
  (case Kw=>k_is)
  (case Kx=>k_is)
  (case Ky=>k_is)
  (case Kz=>k_is)
  (case KA=>k_is)
  (case KC=>k_is)
  (case KD=>k_is)
  (case KG=>k_is)
  (case KH=>k_is)
  (case KI=>k_is)
  (case KJ=>k_is)
  (case KL=>k_is)
  (case KN=>k_is)
  (case KO=>k_is)
  (case KP=>k_is)
  (case KQ=>k_is)
  (case KR=>k_is)
  (case KS=>k_is)
  (case KU=>k_is)
  (case KW=>k_is)
  (case KY=>k_is)
  (case KZ=>k_is)
  (case K0=>k_is)
  (case K1=>k_is)
  (case K2=>k_is)
  (case K3=>k_is)
  (case K4=>k_is)
  (case K5=>k_is)
  (case K6=>k_is)
  (case K7=>k_is)
  (case K8=>k_is)
  (case K9=>k_is)
  (case La=>k_is)
  (case U0=>k_is)
  (case Lb=>k_is)
  (case Lc=>k_is)
  (case CS=>k_is)
  (case U1=>k_is)
  (case Ld=>k_is)
  (case Le=>k_is)
  (case CT=>k_is)
  (case Lf=>k_is)
  (case Lg=>k_is)
  (case Lh=>k_is)
  (case Li=>k_is)
  (case Lj=>k_is)
  (case Lk=>k_is)
  (case Ll=>k_is)
  (case Lm=>k_is)
  (case CU=>k_is)
  (case Ln=>k_is)
  (case Lo=>k_is)
  (case Lp=>k_is)
  (case CV=>k_is)
  (case CW=>k_is)
  (case CY=>k_is)
  (case CZ=>k_is)
  (case yE=>k_is)
  (case Lq=>k_is)
  (case Lr=>k_is)
  (case Ls=>k_is)
  (case Lu=>k_is)
  (case Lv=>k_is)
  (case Lw=>k_is)
  (case Lx=>k_is)
  (case yF=>k_is)
  (case nU=>k_is)
  (case qG=>k_is)
  (case qH=>k_is)
  (case B7=>k_is)
  (case qI=>k_is)
  (case yG=>k_is)
  (case yH=>k_is)
  (case yI=>k_is)
  (case Ly=>k_is)
  (case yJ=>k_is)
  (case Lz=>k_is)
  (case yK=>k_is)
  (case LA=>k_is)
  (case yL=>k_is)
  (case LB=>k_is)
  (case yM=>k_is)
  (case LC=>k_is)
  (case vz=>k_is)
  (case LD=>k_is)
  (case yN=>k_is)
  (case LF=>k_is)
  (case C2=>k_is)
  (case C3=>k_is)
  (case C4=>k_is)
  (case C5=>k_is)
  (case yO=>k_is)
  (case LG=>k_is)
  (case LH=>k_is)
  (case LJ=>k_is)
  (case LK=>k_is)
  (case LL=>k_is)
  (case LM=>k_is)
  (case at2=>k_is)
  (case B8=>k_is)
  (case qJ=>k_is)
  (case qK=>k_is)
  (case vA=>k_is)
  (case kC=>k_is)
  (case B9=>k_is)
  (case yP=>k_is)
  (case yQ=>k_is)
  (case yR=>k_is)
  (case LN=>k_is)
  (case yS=>k_is)
  (case LO=>k_is)
  (case yT=>k_is)
  (case LP=>k_is)
  (case yU=>k_is)
  (case LQ=>k_is)
  (case yV=>k_is)
  (case LR=>k_is)
  (case vB=>k_is)
  (case LS=>k_is)
  (case yW=>k_is)
  (case LU=>k_is)
  (case LV=>k_is)
  (case LW=>k_is)
  (case LX=>k_is)
  (case LY=>k_is)
  (case LZ=>k_is)
  (case L4=>k_is)
  (case L5=>k_is)
  (case L6=>k_is)
  (case L7=>k_is)
  (case L8=>k_is)
  (case L9=>k_is)
  (case Ma=>k_is)
  (case Mb=>k_is)
  (case Mc=>k_is)
  (case Md=>k_is)
  (case C6=>first | k_is | rfl | decide)
  (case Me=>k_is)
  (case Mg=>first | k_is | rfl | decide)
  (case Mh=>k_is)
  (case C7=>first | k_is | rfl | decide)
  (case C8=>k_is)
  (case Mi=>k_is)
  (case Mj=>k_exc)
  (case Ml=>k_is)
  (case Mm=>k_is)
  (case Mn=>k_is)
  (case Mo=>k_is)
  (case Mp=>k_is)
  (case Mq=>k_is)
  (case Mr=>k_is)
  (case Ms=>k_is)
  (case Mt=>first | k_is | rfl | decide)
  (case Mu=>k_is)
  (case Mv=>k_is)
  (case Mw=>k_is)
  (case nl=>first | k_is | rfl | decide)
  (case sub=>decide)
